/-
  Its own texts.
-/
import Derived.WalkKit
import Derived.Test.YtgmnknmjainababGreatProg
import Derived.WalkSpells
import Derived.WalkLawsBesides
import Derived.Deep.QuietTactic
import Derived.BigQuiet
import Derived.Deep.OwnRows
import Derived.Deep.RegionHeld3
import Derived.Deep.DrawnRows
import Derived.Deep.AppendSrc
set_option maxRecDepth 100000
set_option maxHeartbeats 8000000
set_option linter.unnecessarySimpa false
set_option linter.unusedSimpArgs false
set_option linter.unusedVariables false
namespace Go.Proofs.YtgmnknmjainababGreat
open Go.RowKit
def P:Nat→Int
 | 0=>1
 | n+1=>65536*P n
theorem kN (n:Nat):1≤P n:=by
 induction n with
 | zero=>simp[P]
 | succ n ih=>simp only[P];omega
theorem P_add (m n:Nat):P (m+n)=P m*P n:=by
 induction n with
 | zero=>simp[P]
 | succ n ih=>rw[Nat.add_succ];simp only[P];rw[ih,Int.mul_left_comm]
theorem zA0 {m n : Nat} (h : m ≤ n) : P m ≤ P n := by
  induction n with
  | zero => have : m = 0 := by omega
            subst this; exact Int.le_refl _
  | succ n ih =>
    by_cases hm : m = n + 1
    · subst hm; exact Int.le_refl _
    · have := ih (by omega)
      have := kN n
      simp only [P]; omega
def V (d:Nat→Int):Nat→Int
 | 0=>0
 | n+1=>V d n+d n*P n
def Dgs (d:Nat→Int):Prop:=∀ j,0≤d j∧d j<65536
theorem jB {d:Nat→Int} (h:Dgs d) (n:Nat):0≤V d n:=by
 induction n with
 | zero=>simp[V]
 | succ n ih =>
  simp only[V];have:=Int.mul_nonneg (h n).1 (Int.le_of_lt (Int.lt_of_lt_of_le (by decide) (kN n)))
  omega
theorem zGU {d:Nat→Int} (h:Dgs d) (n:Nat):V d n<P n:=by
 induction n with
 | zero=>simp[V,P]
 | succ n ih =>
  simp only[V,P];have h1:d n*P n≤65535*P n:=Int.mul_le_mul_of_nonneg_right (by have:=(h n).2;omega) (by have:=kN n;omega)
  omega
theorem zBI {d e:Nat→Int} (n:Nat) (h:∀ j,j<n→d j=e j):V d n=V e n:=by
 induction n with
 | zero=>rfl
 | succ n ih=>simp only[V];rw[ih (fun j hj=>h j (by omega)),h n (by omega)]
structure Dig (w:World) (a:Option Addr) (n cap:Nat) (d:Nat→Int):Prop where
 at_:0<n→∃ b off,a=some ⟨b,off,none⟩∧b<w.heap.size∧∀ j,j<n→w.cell? ⟨b,off+j,none⟩=some (.int .u16 (d j))
 dgs:Dgs d
 le:n≤cap
 room:n≤70368744177664
theorem Dig.bw {w w':World} {a:Option Addr} {n cap:Nat} {d:Nat→Int} (h:Dig w a n cap d) (hb:Below w.heap.size w w'):Dig w' a n cap d :=
 ⟨fun hn=>by
  obtain ⟨b,off,h1,h2,h3⟩:=h.at_ hn
  exact ⟨b,off,h1,Nat.lt_of_lt_of_le h2 hb.size,fun j hj=>(hb.cell (p:=⟨b,off+j,none⟩) h2).trans (h3 j hj)⟩,h.dgs,h.le,h.room⟩
theorem zC {p:Prop} (h:p):Hid p:=h
theorem zA {p:Prop} (h:Hid p):p:=h
def lenOf:Value→Nat
 | .slice _ n _=>n
 | _=>0
def zF5 (neg:Bool) (n:Nat) (d:Nat→Int):Bool:=if n=0 then !neg else d (n-1) != 0
theorem bl1 (w:World) (o1:Obj):Below w.heap.size w (w.alloc o1):=(Below.refl _ _).alloc (Nat.le_refl _) _
theorem bl2 (w:World) (o1 o2:Obj):Below w.heap.size w ((w.alloc o1).alloc o2):=(bl1 w o1).alloc (by simp) _
theorem bl3 (w:World) (o1 o2 o3:Obj):Below w.heap.size w (((w.alloc o1).alloc o2).alloc o3):=(bl2 w o1 o2).alloc (by simp;omega) _
theorem bl4 (w:World) (o1 o2 o3 o4:Obj):Below w.heap.size w ((((w.alloc o1).alloc o2).alloc o3).alloc o4):=(bl3 w o1 o2 o3).alloc (by simp;omega) _
theorem zB {w w1 w2:World} (h:Below w.heap.size w w1) (k:Below w1.heap.size w1 w2):Below w.heap.size w w2:=h.trans (k.mono h.size)
def Q:Nat→Int
 | 0=>1
 | n+1=>2*Q n
def zCC:Nat→Int→Int
 | 0,_=>0
 | f+1,x=>if x≤0 then 0 else 1+zCC f (x/2)
def lenZ (n:Nat) (d:Nat→Int):Int:=if n=0 then 0 else 16*((n:Int)-1)+zCC 16 (d (n-1))
theorem blenF_bd (f:Nat) (x:Int):0≤zCC f x∧zCC f x≤f:=by
 induction f generalizing x with
 | zero=>simp[zCC]
 | succ f ih=>simp only[zCC];have:=ih (x/2);split <;> omega
def kA (d:Nat→Int):Nat→Nat
 | 0=>0
 | n+1=>if d n=0 then kA d n else n+1
theorem zA3 (d:Nat→Int) (n:Nat):kA d n≤n:=by
 induction n with
 | zero=>simp[kA]
 | succ n ih=>simp only[kA];split <;> omega
theorem zB9 (d:Nat→Int) (n:Nat):V d (kA d n)=V d n:=by
 induction n with
 | zero=>simp[kA]
 | succ n ih =>
  simp only[kA];split
  ·rename_i h;rw[ih];simp[V,h]
  ·rfl
theorem zBF (d:Nat→Int) (n:Nat):kA d n=0∨d (kA d n-1)≠0:=by
 induction n with
 | zero=>simp[kA]
 | succ n ih =>
  simp only[kA];split
  ·exact ih
  ·rename_i h;right;simpa using h
theorem zMD {d:Nat→Int} {n:Nat} (h:n=0∨d (n-1)≠0):kA d n=n:=by
 cases n with
 | zero=>rfl
 | succ n=>simp only[kA];rw[if_neg];simpa using h
def sgn (neg:Bool) (x:Int):Int:=if neg then -x else x
theorem Dig.take {w:World} {a:Option Addr} {n cap:Nat} {d:Nat→Int} (h:Dig w a n cap d) {m:Nat} (hm:m≤n):Dig w a m cap d :=
 ⟨fun hm0=>by
  obtain ⟨b,off,h1,h2,h3⟩:=h.at_ (by omega)
  exact ⟨b,off,h1,h2,fun j hj=>h3 j (by omega)⟩,h.dgs,Nat.le_trans hm h.le,Nat.le_trans hm h.room⟩
def IntAt (w:World) (neg:Bool) (a:Option Addr) (n cap:Nat) (k:Nat) (z:Int):Prop :=
 ∃ d,Dig w a n cap d∧(n=0∨d (n-1)≠0)∧(n=0→neg=false)∧n≤k∧z=sgn neg (V d n)
theorem IntAt.bw {w w':World} {neg:Bool} {a:Option Addr} {n cap k:Nat} {z:Int} (h:IntAt w neg a n cap k z) (hb:Below w.heap.size w w'):IntAt w' neg a n cap k z:=by
 obtain ⟨d,h2,h3⟩:=h;exact ⟨d,h2.bw hb,h3⟩
theorem IntAt.mono {w:World} {neg:Bool} {a:Option Addr} {n cap k k':Nat} {z:Int} (h:IntAt w neg a n cap k z) (hk:k≤k'):IntAt w neg a n cap k' z:=by
 obtain ⟨d,h2,h3,h4,h5,h6⟩:=h;exact ⟨d,h2,h3,h4,by omega,h6⟩
theorem Dig.store {w:World} {a:Option Addr} {n cap:Nat} {d:Nat→Int} (h:Dig w a n cap d) {p:Addr} {v:Value} (hp:w.cell? p=some v) (hv:∀ x,v≠.int .u16 x) (u:Value):Dig (w.setCell p u) a n cap d :=
 ⟨fun hn=>by
  obtain ⟨b,off,h1,h2,h3⟩:=h.at_ hn;refine ⟨b,off,h1,by simpa [World.setCell] using h2,fun j hj=>?_⟩
  have h4:=h3 j hj;rw[World.cell?_setCell_other]
  ·exact h4
  ·intro e
   rw[← e,hp] at h4
   exact hv _ (Option.some.inj h4),h.dgs,h.le,h.room⟩
theorem IntAt.store {w:World} {neg:Bool} {a:Option Addr} {n cap k:Nat} {z:Int} (h:IntAt w neg a n cap k z) {p:Addr} {v:Value} (hp:w.cell? p=some v) (hv:∀ x,v≠.int .u16 x) (u:Value):IntAt (w.setCell p u) neg a n cap k z:=by
 obtain ⟨d,h2,h3⟩:=h;exact ⟨d,h2.store hp hv u,h3⟩
theorem IntAt.put2 {w:World} {neg:Bool} {a:Option Addr} {n cap k:Nat} {z:Int} (h:IntAt w neg a n cap k z) {B:Nat} {x0:Bool} {y0:Option Addr} {y1 y2:Nat} (h0:w.cell? ⟨B,0,none⟩=some (.bool x0))
  (h1:w.cell? ⟨B,1,none⟩=some (.slice y0 y1 y2)) (u0 u1:Value):IntAt ((w.setCell ⟨B,0,none⟩ u0).setCell ⟨B,1,none⟩ u1) neg a n cap k z:=by
 have hne:(⟨B,0,none⟩:Addr)≠⟨B,1,none⟩:=by simp
 have h2:(w.setCell ⟨B,0,none⟩ u0).cell? ⟨B,1,none⟩=some (.slice y0 y1 y2):=(World.cell?_setCell_other _ _ _ _ hne).trans h1;exact (h.store h0 (fun _ e=>by cases e) u0).store h2 (fun _ e=>by cases e) u1
theorem bcell {W w1:World} (hb:Below W.heap.size W w1):(∀ b o,b<W.heap.size→w1.cell? ⟨b,o,none⟩=W.cell? ⟨b,o,none⟩)∧(∀ b o,b<W.heap.size→w1.frozen? ⟨b,o,none⟩=W.frozen? ⟨b,o,none⟩) :=
 ⟨fun b o h=>hb.cell (p:=⟨b,o,none⟩) h,fun b o h=>hb.frozen (p:=⟨b,o,none⟩) h⟩
theorem kK {W w1:World} (H:Nat) (hH:H≤W.heap.size) (hb:Below W.heap.size W w1):H≤w1.heap.size∧(∀ b o,b+1≤H→w1.cell? ⟨b,o,none⟩=W.cell? ⟨b,o,none⟩)∧(∀ b o,b+1≤H→w1.frozen? ⟨b,o,none⟩=W.frozen? ⟨b,o,none⟩) :=
 ⟨Nat.le_trans hH hb.size,fun b o h=>hb.cell (p:=⟨b,o,none⟩) (Nat.lt_of_lt_of_le h hH),fun b o h=>hb.frozen (p:=⟨b,o,none⟩) (Nat.lt_of_lt_of_le h hH)⟩
theorem zJU (neg:Bool) (a:Option Addr) (n cap:Nat) (d:Nat→Int) (w:World) (h:Dig w a n cap d) :
  Calls Tryz.prog 49 #[.agg #[.bool neg,.slice a n cap]] w fun e w'=>e=.returned (.bool (zF5 neg n d))∧Below w.heap.size w w':=by
 have hr:=h.room;have hl:=h.le
 by_cases hn:n=0
 ·subst hn
  go_enter Tryz.func49,Tryz.ntmps49
  go_wp2
  go_ret
  exact ⟨by simp[zF5],(Below.refl _ _).alloc (Nat.le_refl _) _⟩
 ·obtain ⟨b,off,rfl,hb,hc⟩:=h.at_ (by omega)
  have hc1:=hc (n-1) (by omega)
  have hz:((n:Int) == 0)=false:=by simp;omega
  have hi:((n:Int)-1)=((n-1:Nat):Int):=by omega
  go_enter Tryz.func49,Tryz.ntmps49
  go_wp2
  go_ret
  exact ⟨by simp[zF5,hn],((Below.refl _ _).alloc (Nat.le_refl _) _)⟩
def zJG (neg:Bool) (n:Nat):Int:=if n=0 then 0 else if neg then -1 else 1
theorem zHA (neg:Bool) (a:Option Addr) (n cap:Nat) (w:World) (hr:n≤70368744177664) :
  Calls Tryz.prog 96 #[.agg #[.bool neg,.slice a n cap]] w fun e w'=>e=.returned (.int .i64 (zJG neg n))∧Below w.heap.size w w':=by
 by_cases hn:n=0
 ·subst hn
  go_enter Tryz.func96,Tryz.ntmps96
  go_wp2
  all_goals (go_ret;exact ⟨by simp[zJG],(Below.refl _ _).alloc (Nat.le_refl _) _⟩)
 ·have hz:((n:Int) == 0)=false:=by simp;omega
  cases neg
  all_goals
   go_enter Tryz.func96,Tryz.ntmps96
   go_wp2
   go_ret
   exact ⟨by simp[zJG,hn],(Below.refl _ _).alloc (Nat.le_refl _) _⟩
def zB2 (d e:Nat→Int):Nat→Int
 | 0=>0
 | n+1=>if d n<e n then -1 else if e n<d n then 1 else zB2 d e n
def zF4 (d e:Nat→Int) (n m:Nat):Int:=if n<m then -1 else if m<n then 1 else zB2 d e n
theorem kW (a c:Option Addr) (n m cap cap2:Nat) (d e:Nat→Int) (w:World) (ha:Dig w a n cap d) (hc:Dig w c m cap2 e) :
  Calls Tryz.prog 101 #[.slice a n cap,.slice c m cap2] w fun r w'=>r=.returned (.int .i64 (zF4 d e n m))∧Below w.heap.size w w':=by
 have hr:=ha.room;have hl:=ha.le;have hr2:=hc.room;have hl2:=hc.le
 by_cases hne:n=m
 ·subst hne
  have hz:((n:Int) != n)=false:=by simp
  go_enter Tryz.func101,Tryz.ntmps101
  go_wp2
  go_loopw [5] (fun i wr=>∃ k:Nat,k≤n∧i=.int .i64 ((k:Int)-1)∧zB2 d e n=zB2 d e k∧Below w.heap.size w wr) (fun i _=>(intOf i+1).toNat)
  case atStart=>exact ⟨n,Nat.le_refl _,rfl,rfl,Below.refl _ _⟩
  case round =>
   obtain ⟨k,hk,rfl,hcm,hbl⟩:=hrel
   by_cases hk0:k=0
   ·subst hk0
    go_wp2
    go_ret
    exact ⟨by simp[zF4,hcm,zB2],hbl⟩
   ·obtain ⟨b1,o1,rfl,hb1,hc1⟩:=ha.at_ (by omega)
    obtain ⟨b2,o2,rfl,hb2,hc2⟩:=hc.at_ (by omega)
    obtain ⟨q,rfl⟩:∃ q,k=q+1:=⟨k-1,by omega⟩
    have e0:((q+1:Nat):Int)-1=(q:Int):=by omega
    rw[e0];have g1:wr.cell? ⟨b1,o1+q,none⟩=some (.int .u16 (d q)):=(hbl.cell (p:=⟨b1,o1+q,none⟩) hb1).trans (hc1 q (by omega))
    have g2:wr.cell? ⟨b2,o2+q,none⟩=some (.int .u16 (e q)):=(hbl.cell (p:=⟨b2,o2+q,none⟩) hb2).trans (hc2 q (by omega))
    have gq:(q:Int)<(n:Int):=by omega
    have Hcm:=zC hcm;clear hcm e0 ha hc hc1 hc2
    by_cases hlt:d q<e q
    ·have t1:(d q != e q)=true:=by rw[bne_iff_ne];omega
     go_wp2
     go_quiet (fail)
     go_wp2
     go_quiet (fail)
     go_wp2
     go_ret
     exact ⟨by simp[zF4,zA Hcm,zB2,hlt],below_drewN (below_drewN hbl _) _⟩
    ·by_cases hgt:e q<d q
     ·have t1:(d q != e q)=true:=by rw[bne_iff_ne];omega
      go_wp2
      go_quiet (fail)
      go_wp2
      go_quiet (fail)
      go_wp2
      go_ret
      exact ⟨by simp[zF4,zA Hcm,zB2,hlt,hgt],below_drewN (below_drewN hbl _) _⟩
     ·have t1:(d q != e q)=false:=by rw[bne_eq_false_iff_eq];omega
      have Hn:=zC (show zB2 d e (q+1)=zB2 d e q by simp[zB2,hlt,hgt])
      go_wp2
      go_quiet (fail)
      go_wp2
      go_roundw
      case rel=>exact ⟨q,by omega,by go_num,by rw[zA Hcm,zA Hn],below_drewN hbl _⟩
      case measure=>simp[intOf];try omega
 ·have hz:((n:Int) != m)=true:=by rw[bne_iff_ne];omega
  by_cases hlt:n<m
  ·have hlt':(n:Int)<m:=by omega
   go_enter Tryz.func101,Tryz.ntmps101
   go_wp2
   go_ret
   exact ⟨by simp[zF4,hlt],Below.refl _ _⟩
  ·have hlt':¬ (n:Int)<m:=by omega
   go_enter Tryz.func101,Tryz.ntmps101
   go_wp2
   go_ret
   have hgt:m<n:=by omega
   exact ⟨by simp[zF4,hlt,hgt],Below.refl _ _⟩
def cmpI (neg neg2:Bool) (d e:Nat→Int) (n m:Nat):Int :=
 if neg != neg2 then (if neg then -1 else 1) else if neg then-zF4 d e n m else zF4 d e n m
theorem cmpTo_bd (d e:Nat→Int) (n:Nat) : -1≤zB2 d e n∧zB2 d e n≤1:=by
 induction n with
 | zero=>simp[zB2]
 | succ n ih=>simp only[zB2];split <;> (try split) <;> omega
theorem cmpZ_bd (d e:Nat→Int) (n m:Nat) : -1≤zF4 d e n m∧zF4 d e n m≤1:=by
 have:=cmpTo_bd d e n;unfold zF4;split <;> (try split) <;> omega
theorem cmp_any (neg neg2:Bool) (a c:Option Addr) (n m cap cap2:Nat) (d e:Nat→Int) (w:World) (ha:Dig w a n cap d) (hc:Dig w c m cap2 e) :
  Calls Tryz.prog 46 #[.agg #[.bool neg,.slice a n cap],.agg #[.bool neg2,.slice c m cap2]] w fun r w'=>r=.returned (.int .i64 (cmpI neg neg2 d e n m))∧Below w.heap.size w w':=by
 have hbd:=cmpZ_bd d e n m;obtain ⟨b1,b2⟩:=hbd
 cases neg <;> cases neg2
 all_goals
  go_enter Tryz.func46,Tryz.ntmps46
  go_wp2_with (go_at_call 101;refine (kW _ _ _ _ _ _ d e _ (ha.bw (bl2 _ _ _)) (hc.bw (bl2 _ _ _))).mono ?_;rintro r w' ⟨rfl,hb⟩)
  go_ret
  first|exact ⟨by simp[cmpI],zB (bl2 _ _ _) ‹_›⟩|exact ⟨by simp[cmpI],bl2 _ _ _⟩
theorem zPP (neg:Bool) (a:Option Addr) (n cap:Nat) (d:Nat→Int) (w:World) (ha:Dig w a n cap d) :
  Calls Tryz.prog 120 #[.agg #[.bool neg,.slice a n cap]] w fun r w'=>r=.returned (.int .i64 (lenZ n d))∧Below w.heap.size w w':=by
 have hr:=ha.room;have hl:=ha.le
 by_cases hn:n=0
 ·subst hn
  go_enter Tryz.func120,Tryz.ntmps120
  go_wp2
  go_ret
  exact ⟨by simp[lenZ],(Below.refl _ _).alloc (Nat.le_refl _) _⟩
 ·have hz:((n:Int) == 0)=false:=by simp;omega
  obtain ⟨b,off,rfl,hb,hc⟩:=ha.at_ (by omega)
  have hc1:=hc (n-1) (by omega)
  have hi:((n:Int)-1)=((n-1:Nat):Int):=by omega
  go_enter Tryz.func120,Tryz.ntmps120
  go_wp2
  go_loop [4,5] (fun k x=>∃ (f j:Nat) (y:Int),j+f=16∧k=.int .i64 j∧x=.int .u16 y∧0≤y∧y<Q f∧j+zCC f y=zCC 16 (d (n-1))) (fun _ x=>(intOf x).toNat)
  case atStart=>exact ⟨16,0,_,rfl,rfl,rfl,(ha.dgs _).1,(ha.dgs _).2,by simp⟩
  case round =>
   obtain ⟨f,j,y,hf,rfl,rfl,hy0,hyf,hbl⟩:=hrel
   by_cases hy:y=0
   ·subst hy
    have hb0:zCC f 0=0:=by cases f <;> simp[zCC]
    have HB:=zC (show (j:Int)=zCC 16 (d (n-1)) by omega)
    clear hbl;go_wp2
    go_ret
    exact ⟨by simp[lenZ,hn,← zA HB];omega,bl1 _ _⟩
   ·have hpos:0<y:=by omega
    match f,hf,hyf,hbl with
    | 0,_,hyf,_=>simp[Q] at hyf;omega
    | f+1,hf,hyf,hbl =>
    have Hb2:=zC (show (j:Int)+1+zCC f (y/2)=zCC 16 (d (n-1)) by rw[← hbl];simp[zCC,show ¬ y≤0 by omega];omega)
    have hyf2:y<2*Q f:=hyf;have hy3:y/2<Q f:=by omega
    clear hbl hyf hyf2;go_wp2
    go_round
    case rel=>exact ⟨f,j+1,y/2,by omega,by go_num,by go_num,by omega,hy3,by have:=zA Hb2;omega⟩
    case measure=>simp[intOf];try omega
theorem kZ (a:Option Addr) (n cap:Nat) (d:Nat→Int) (w:World) (h:Dig w a n cap d) :
  Calls Tryz.prog 170 #[.slice a n cap] w fun e w'=>e=.returned (.slice a (kA d n) cap)∧Below w.heap.size w w':=by
 have hr:=h.room;have hl:=h.le
 go_enter Tryz.func170,Tryz.ntmps170
 go_wp2
 go_loopw [0] (fun l wr=>∃ m:Nat,m≤n∧l=.slice a m cap∧kA d n=kA d m∧Below w.heap.size w wr) (fun l _=>lenOf l)
 case atStart=>exact ⟨n,Nat.le_refl _,rfl,rfl,Below.refl _ _⟩
 case round =>
  obtain ⟨m,hm,rfl,ht,hbl⟩:=hrel
  by_cases hm0:m=0
  ·subst hm0
   have Ht:=zC ht;clear ht;go_wp2
   go_ret
   exact ⟨by simp[zA Ht,kA],hbl⟩
  ·obtain ⟨b,off,rfl,hb,hc⟩:=h.at_ (by omega)
   obtain ⟨q,rfl⟩:∃ q,m=q+1:=⟨m-1,by omega⟩
   have hcq:wr.cell? ⟨b,off+q,none⟩=some (.int .u16 (d q)):=(hbl.cell (p:=⟨b,off+q,none⟩) hb).trans (hc q (by omega))
   by_cases hd:d q=0
   ·have Ht:=zC (show kA d n=kA d q by rw[ht];simp[kA,hd])
    clear ht;go_wp2
    go_roundw
    case rel=>exact ⟨q,by omega,rfl,zA Ht,hbl⟩
    case measure=>simp[lenOf]
   ·have Ht:=zC (show kA d n=q+1 by rw[ht];simp[kA,hd])
    have hd2:(d q == 0)=false:=by simpa using hd
    clear ht;go_wp2
    go_ret
    exact ⟨by simp[zA Ht],hbl⟩
theorem of_any (neg:Bool) (a:Option Addr) (n cap:Nat) (d:Nat→Int) (w:World) (h:Dig w a n cap d) :
  Calls Tryz.prog 125 #[.bool neg,.slice a n cap] w fun e w'=>e=.returned (.agg #[.bool (neg && decide (0<kA d n)),.slice a (kA d n) cap])∧Below w.heap.size w w':=by
 have hr:=h.room;have hl:=zA3 d n
 cases neg
 ·go_enter Tryz.func125,Tryz.ntmps125
  go_wp2_with (go_at_call 170;refine (kZ _ _ _ d _ (h.bw (bl1 _ _))).mono ?_;rintro r w' ⟨rfl,hb⟩;obtain ⟨hcell,hfz⟩:=bcell hb;have hsz:=hb.size);refine bodyPost_ret (v:=.agg #[.bool false,.slice a (kA d n) cap]) (by simp[results,Tryz.results125,go_sem,hcell,hsz]) rfl ?_
  exact ⟨by simp,by first|exact (zB (bl1 _ _) hb)|exact (zB (bl1 _ _) hb).setCell (Nat.le_refl _) _|exact ((zB (bl1 _ _) hb).setCell (Nat.le_refl _) _).setCell (Nat.le_refl _) _⟩
 ·go_enter Tryz.func125,Tryz.ntmps125
  go_wp2_with (go_at_call 170;refine (kZ _ _ _ d _ (h.bw (bl1 _ _))).mono ?_;rintro r w' ⟨rfl,hb⟩;obtain ⟨hcell,hfz⟩:=bcell hb;have hsz:=hb.size);refine bodyPost_ret (v:=.agg #[.bool (decide (0<kA d n)),.slice a (kA d n) cap]) (by simp[results,Tryz.results125,go_sem,hcell,hsz]) rfl ?_
  exact ⟨by simp,by first|exact (zB (bl1 _ _) hb)|exact (zB (bl1 _ _) hb).setCell (Nat.le_refl _) _|exact ((zB (bl1 _ _) hb).setCell (Nat.le_refl _) _).setCell (Nat.le_refl _) _⟩
theorem Tryz.infoU16:(Tryz.prog.info? 98).map (fun i=>(i.zero,i.size,i.bytes))=some (some (.int .u16 0),1,2):=by kernel_rfl
def dg (d:Nat→Int) (n j:Nat):Int:=if j<n then d j else 0
def jP (d e:Nat→Int) (n m:Nat):Nat→Int
 | 0=>0
 | k+1=>(jP d e n m k+dg d n k+dg e m k)/65536
def zBR (d e:Nat→Int) (n m j:Nat):Int:=(jP d e n m j+dg d n j+dg e m j) % 65536
theorem zIJ {d e:Nat→Int} (hd:Dgs d) (he:Dgs e) (n m k:Nat):0≤jP d e n m k∧jP d e n m k≤1:=by
 induction k with
 | zero=>simp[jP]
 | succ k ih =>
  simp only[jP,dg];have:=hd k;have:=he k;split <;> split <;> omega
theorem yZ {wr:World} {b t N k:Nat} {f:Nat→Int} (h:wr.rowIs b t N (fun j=>.int .u16 (if j<k then f j else 0))) {v:Int} (hv:v=f k) :
  (wr.setCell ⟨b,k,none⟩ (.int .u16 v)).rowIs b t N (fun j=>.int .u16 (if j<k+1 then f j else 0)):=by
 refine (h.set k (.int .u16 v)).congr fun j _=>?_
 by_cases hj:j=k
 ·subst hj;simp[hv]
 ·have:(j<k+1)=(j<k):=by simp;omega
  simp[hj,this]
theorem zAH (x:Int):IntKind.u16.wrap x=x % 65536:=rfl
theorem plus_any (a c:Option Addr) (n m cap cap2:Nat) (d e:Nat→Int) (w:World) (ha:Dig w a n cap d) (hc:Dig w c m cap2 e) (hn:n≤1000000000) (hm:m≤1000000000) :
  Calls Tryz.prog 126 #[.slice a n cap,.slice c m cap2] w fun r w'=>∃ N,N=max n m+1∧r=.returned (.slice (some ⟨w.heap.size,0,none⟩) N N)∧w'.rowIs w.heap.size 98 N (fun j=>.int .u16 (zBR d e n m j))∧Below w.heap.size w w':=by
 obtain ⟨N,hN⟩:∃ N,N=max n m+1:=⟨_,rfl⟩;have hN1:N≤1000000001:=by omega
 have hnN:n<N:=by omega
 have hmN:m<N:=by omega
 have hmk:=run_make_row' (P:=Tryz.prog) 24 98 (.int .u16 0) 2 Tryz.underlying24 Tryz.infoU16 rfl .i64 .i64 N (by omega) (by omega)
 have key:(n<m∧(m:Int)+1=N)∨(m≤n∧(n:Int)+1=N):=by omega
 have HN:=zC hN;clear hN
 rcases key with ⟨hlt,hmx⟩|⟨hlt,hmx⟩
 all_goals
  go_enter Tryz.func126,Tryz.ntmps126
  go_wp2;clear hmk hlt hmx
  go_loopw [6,17] (fun cy i wr=>∃ k:Nat,k≤N∧i=.int .i64 k∧cy=.int .u32 (jP d e n m k)∧wr.rowIs w.heap.size 98 N (fun j=>.int .u16 (if j<k then zBR d e n m j else 0))∧Below w.heap.size w wr) (fun _ i _=>N-(intOf i).toNat)
  case atStart=>exact ⟨0,Nat.zero_le _,rfl,rfl,by simpa using World.rowIs_made w (.int .u16 0) N 98,bl1 _ _⟩
  case round =>
   obtain ⟨k,hk,rfl,rfl,hrow,hbl⟩:=hrel
   by_cases hkN:k<N
   ·have r1:=hrow.cell hkN
    have r2:=hrow.frozen k;have cb:=zIJ ha.dgs hc.dgs n m k;have db:=ha.dgs k;have eb:=hc.dgs k
    by_cases hkn:k<n
    ·obtain ⟨b1,o1,rfl,hb1,hc1⟩:=ha.at_ (by omega)
     have g1:wr.cell? ⟨b1,o1+k,none⟩=some (.int .u16 (d k)):=(hbl.cell (p:=⟨b1,o1+k,none⟩) hb1).trans (hc1 k hkn);clear hc1
     by_cases hkm:k<m
     ·obtain ⟨b2,o2,rfl,hb2,hc2⟩:=hc.at_ (by omega)
      have g2:wr.cell? ⟨b2,o2+k,none⟩=some (.int .u16 (e k)):=(hbl.cell (p:=⟨b2,o2+k,none⟩) hb2).trans (hc2 k hkm);clear hc2;have H1:=zC (show (jP d e n m k+d k+e k)/65536=jP d e n m (k+1) by simp[jP,dg,hkn,hkm])
      have H2:=zC (show IntKind.u16.wrap (jP d e n m k+d k+e k)=zBR d e n m k by simp[zAH,zBR,dg,hkn,hkm])
      go_wp2
      go_roundw
      case rel=>exact ⟨k+1,by omega,by go_num,by rw[zA H1],yZ hrow (zA H2),hbl.setCell (Nat.le_refl _) _⟩
      case measure=>simp[intOf];omega
     ·have H1:=zC (show (jP d e n m k+d k)/65536=jP d e n m (k+1) by simp[jP,dg,hkn,hkm])
      have H2:=zC (show IntKind.u16.wrap (jP d e n m k+d k)=zBR d e n m k by simp[zAH,zBR,dg,hkn,hkm])
      go_wp2
      go_roundw
      case rel=>exact ⟨k+1,by omega,by go_num,by rw[zA H1],yZ hrow (zA H2),hbl.setCell (Nat.le_refl _) _⟩
      case measure=>simp[intOf];omega
    ·by_cases hkm:k<m
     ·obtain ⟨b2,o2,rfl,hb2,hc2⟩:=hc.at_ (by omega)
      have g2:wr.cell? ⟨b2,o2+k,none⟩=some (.int .u16 (e k)):=(hbl.cell (p:=⟨b2,o2+k,none⟩) hb2).trans (hc2 k hkm);clear hc2;have H1:=zC (show (jP d e n m k+e k)/65536=jP d e n m (k+1) by simp[jP,dg,hkn,hkm])
      have H2:=zC (show IntKind.u16.wrap (jP d e n m k+e k)=zBR d e n m k by simp[zAH,zBR,dg,hkn,hkm])
      go_wp2
      go_roundw
      case rel=>exact ⟨k+1,by omega,by go_num,by rw[zA H1],yZ hrow (zA H2),hbl.setCell (Nat.le_refl _) _⟩
      case measure=>simp[intOf];omega
     ·have H1:=zC (show (jP d e n m k)/65536=jP d e n m (k+1) by simp[jP,dg,hkn,hkm])
      have H2:=zC (show jP d e n m k=zBR d e n m k by simp[zBR,dg,hkn,hkm];omega)
      go_wp2
      go_roundw
      case rel=>exact ⟨k+1,by omega,by go_num,by rw[zA H1],yZ hrow (zA H2),hbl.setCell (Nat.le_refl _) _⟩
      case measure=>simp[intOf];omega
   ·have hkE:k=N:=by omega
    subst hkE;go_wp2
    go_ret
    exact ⟨_,zA HN,rfl,hrow.congr (fun j hj=>by simp[hj]),hbl⟩
def jH (d e:Nat→Int) (m:Nat):Nat→Int
 | 0=>0
 | k+1=>if d k-jH d e m k-dg e m k<0 then 1 else 0
def zAX (d e:Nat→Int) (m j:Nat):Int:=if d j-jH d e m j-dg e m j<0 then d j-jH d e m j-dg e m j+65536 else d j-jH d e m j-dg e m j
theorem zDY (d e:Nat→Int) (m k:Nat):0≤jH d e m k∧jH d e m k≤1:=by
 cases k with
 | zero=>simp[jH]
 | succ k=>simp only[jH];split <;> omega
theorem less_any (a c:Option Addr) (n m cap cap2:Nat) (d e:Nat→Int) (w:World) (ha:Dig w a n cap d) (hc:Dig w c m cap2 e) (hn:n≤1000000000) (hm:m≤1000000000) :
  Calls Tryz.prog 127 #[.slice a n cap,.slice c m cap2] w fun r w'=>r=.returned (.slice (some ⟨w.heap.size,0,none⟩) n n)∧w'.rowIs w.heap.size 98 n (fun j=>.int .u16 (zAX d e m j))∧Below w.heap.size w w':=by
 have hmk:=run_make_row' (P:=Tryz.prog) 24 98 (.int .u16 0) 2 Tryz.underlying24 Tryz.infoU16 rfl .i64 .i64 n (by omega) (by omega)
 go_enter Tryz.func127,Tryz.ntmps127
 go_wp2;clear hmk
 go_loopw [6,14] (fun cy i wr=>∃ k:Nat,k≤n∧i=.int .i64 k∧cy=.int .i64 (jH d e m k)∧wr.rowIs w.heap.size 98 n (fun j=>.int .u16 (if j<k then zAX d e m j else 0))∧Below w.heap.size w wr) (fun _ i _=>n-(intOf i).toNat)
 case atStart=>exact ⟨0,Nat.zero_le _,rfl,rfl,by simpa using World.rowIs_made w (.int .u16 0) n 98,bl1 _ _⟩
 case round =>
  obtain ⟨k,hk,rfl,rfl,hrow,hbl⟩:=hrel
  by_cases hkn:k<n
  ·have r1:=hrow.cell hkn
   have r2:=hrow.frozen k;have cb:=zDY d e m k;have db:=ha.dgs k;have eb:=hc.dgs k;obtain ⟨b1,o1,rfl,hb1,hc1⟩:=ha.at_ (by omega)
   have g1:wr.cell? ⟨b1,o1+k,none⟩=some (.int .u16 (d k)):=(hbl.cell (p:=⟨b1,o1+k,none⟩) hb1).trans (hc1 k hkn);clear hc1
   by_cases hkm:k<m
   ·obtain ⟨b2,o2,rfl,hb2,hc2⟩:=hc.at_ (by omega)
    have g2:wr.cell? ⟨b2,o2+k,none⟩=some (.int .u16 (e k)):=(hbl.cell (p:=⟨b2,o2+k,none⟩) hb2).trans (hc2 k hkm);clear hc2
    by_cases hneg:d k-jH d e m k-e k<0
    ·have H1:=zC (show 1=jH d e m (k+1) by simp[jH,dg,hkm,hneg])
     have H2:=zC (show d k-jH d e m k-e k+65536=zAX d e m k by simp[zAX,dg,hkm,hneg])
     go_wp2
     go_roundw
     case rel=>exact ⟨k+1,by omega,by go_num,by rw[← zA H1],yZ hrow (zA H2),hbl.setCell (Nat.le_refl _) _⟩
     case measure=>simp[intOf];omega
    ·have H1:=zC (show 0=jH d e m (k+1) by simp[jH,dg,hkm,hneg])
     have H2:=zC (show d k-jH d e m k-e k=zAX d e m k by simp[zAX,dg,hkm,hneg])
     go_wp2
     go_roundw
     case rel=>exact ⟨k+1,by omega,by go_num,by rw[← zA H1],yZ hrow (zA H2),hbl.setCell (Nat.le_refl _) _⟩
     case measure=>simp[intOf];omega
   ·by_cases hneg:d k-jH d e m k<0
    ·have H1:=zC (show 1=jH d e m (k+1) by simp[jH,dg,hkm,hneg])
     have H2:=zC (show d k-jH d e m k+65536=zAX d e m k by simp[zAX,dg,hkm,hneg])
     go_wp2
     go_roundw
     case rel=>exact ⟨k+1,by omega,by go_num,by rw[← zA H1],yZ hrow (zA H2),hbl.setCell (Nat.le_refl _) _⟩
     case measure=>simp[intOf];omega
    ·have H1:=zC (show 0=jH d e m (k+1) by simp[jH,dg,hkm,hneg])
     have H2:=zC (show d k-jH d e m k=zAX d e m k by simp[zAX,dg,hkm,hneg])
     go_wp2
     go_roundw
     case rel=>exact ⟨k+1,by omega,by go_num,by rw[← zA H1],yZ hrow (zA H2),hbl.setCell (Nat.le_refl _) _⟩
     case measure=>simp[intOf];omega
  ·have hkE:k=n:=by omega
   subst hkE;go_wp2
   go_ret
   exact ⟨rfl,hrow.congr (fun j hj=>by simp[hj]),hbl⟩
theorem V_dg (d : Nat → Int) (n N : Nat) (h : n ≤ N) : V (dg d n) N = V d n := by
  induction N with
  | zero => have : n = 0 := by omega
            subst this; rfl
  | succ N ih =>
    by_cases hN : n = N + 1
    · subst hN
      apply zBI
      intro j hj; simp [dg, hj]
    · simp only [V]
      rw [ih (by omega)]
      have : ¬ N < n := by omega
      simp [dg, this]
theorem zMA (d e:Nat→Int) (n m k:Nat):V (zBR d e n m) k+jP d e n m k*P k=V (dg d n) k+V (dg e m) k:=by
 induction k with
 | zero=>simp[V,jP]
 | succ k ih =>
  simp only[V,P]
  have h1:zBR d e n m k+65536*jP d e n m (k+1)=jP d e n m k+dg d n k+dg e m k:=by
   simp only[zBR,jP];omega
  have h2:zBR d e n m k*P k+65536*jP d e n m (k+1)*P k=jP d e n m k*P k+dg d n k*P k+dg e m k*P k:=by
   rw[← Int.add_mul,h1,Int.add_mul,Int.add_mul]
  have h3:jP d e n m (k+1)*(65536*P k)=65536*jP d e n m (k+1)*P k:=by
   rw[← Int.mul_assoc,Int.mul_comm (jP d e n m (k+1)) 65536]
  omega
theorem zHY (d e:Nat→Int) (n m:Nat):Dgs (zBR d e n m):=by
 intro j;simp only[zBR];omega
theorem plus_V {d e:Nat→Int} (hd:Dgs d) (he:Dgs e) (n m:Nat):V (zBR d e n m) (max n m+1)=V d n+V e m:=by
 have h:=zMA d e n m (max n m+1);rw[V_dg d n _ (by omega),V_dg e m _ (by omega)] at h
 have c0:=zIJ hd he n m (max n m+1);have b1:=zGU hd n;have b2:=zGU he m;have p1:P n≤P (max n m):=zA0 (by omega)
 have p2:P m≤P (max n m):=zA0 (by omega)
 have b3:=jB (zHY d e n m) (max n m+1);have hP:P (max n m+1)=65536*P (max n m):=rfl;have hp:=kN (max n m)
 by_cases hc:jP d e n m (max n m+1)=0
 ·rw[hc] at h;omega
 ·have:jP d e n m (max n m+1)=1:=by omega
  rw[this] at h;omega
theorem zLY (d e:Nat→Int) (m k:Nat):V (zAX d e m) k-jH d e m k*P k=V d k-V (dg e m) k:=by
 induction k with
 | zero=>simp[V,jH]
 | succ k ih =>
  simp only[V,P]
  have h1:zAX d e m k-65536*jH d e m (k+1)=d k-jH d e m k-dg e m k:=by
   simp only[zAX,jH];split <;> omega
  have h2:zAX d e m k*P k-65536*jH d e m (k+1)*P k=d k*P k-jH d e m k*P k-dg e m k*P k:=by
   rw[← Int.sub_mul,h1,Int.sub_mul,Int.sub_mul]
  have h3:jH d e m (k+1)*(65536*P k)=65536*jH d e m (k+1)*P k:=by
   rw[← Int.mul_assoc,Int.mul_comm (jH d e m (k+1)) 65536]
  omega
theorem zE5 {d e:Nat→Int} (hd:Dgs d) (he:Dgs e) (m:Nat):Dgs (zAX d e m):=by
 intro j
 have:=hd j;have:=he j;have:=zDY d e m j;simp only[zAX,dg];split <;> split <;> omega
theorem zPG {d e:Nat→Int} (hd:Dgs d) (he:Dgs e) (n m:Nat) (hnm:m≤n) (h:V e m≤V d n):V (zAX d e m) n=V d n-V e m:=by
 have h1:=zLY d e m n;rw[V_dg e m _ hnm] at h1;have c0:=zDY d e m n;have b3:=zGU (zE5 hd he m) n
 by_cases hc:jH d e m n=0
 ·rw[hc] at h1;omega
 ·have:jH d e m n=1:=by omega
  rw[this] at h1;omega
def zF (x y:Int):Int:=if x<y then -1 else if y<x then 1 else 0
theorem cmpTo_V {d e:Nat→Int} (hd:Dgs d) (he:Dgs e) (n:Nat):zB2 d e n=zF (V d n) (V e n):=by
 induction n with
 | zero=>simp[zB2,zF,V]
 | succ n ih =>
  simp only[zB2,V];have a1:=zGU hd n;have a2:=zGU he n;have a3:=jB hd n;have a4:=jB he n;have hp:=kN n
  by_cases h1:d n<e n
  ·have:d n*P n+P n≤e n*P n:=by
    have:=Int.mul_le_mul_of_nonneg_right (show d n+1≤e n by omega) (show 0≤P n by omega)
    rw[Int.add_mul] at this;omega
   simp only[h1,if_true,zF];rw[if_pos (by omega)]
  ·by_cases h2:e n<d n
   ·have:e n*P n+P n≤d n*P n:=by
     have:=Int.mul_le_mul_of_nonneg_right (show e n+1≤d n by omega) (show 0≤P n by omega)
     rw[Int.add_mul] at this;omega
    simp only[h1,h2,if_true,if_false,zF];rw[if_neg (by omega),if_pos (by omega)]
   ·have:d n=e n:=by omega
    simp only[h1,h2,if_false,ih,this];generalize e n*P n=t;unfold zF
    repeat' split
    all_goals omega
theorem V_ge {d:Nat→Int} (hd:Dgs d) (n:Nat) (h:d n≠0):P n≤V d (n+1):=by
 simp only[V];have:=jB hd n;have:=hd n;have hp:=kN n;have:=Int.mul_le_mul_of_nonneg_right (show 1≤d n by omega) (show 0≤P n by omega)
 omega
theorem zHJ {d e:Nat→Int} (hd:Dgs d) (he:Dgs e) (n m:Nat) (h1:n=0∨d (n-1)≠0) (h2:m=0∨e (m-1)≠0):zF4 d e n m=zF (V d n) (V e m):=by
 unfold zF4
 by_cases hlt:n<m
 ·have:=zGU hd n
  have hm:e (m-1)≠0:=by omega
  have:=V_ge he (m-1) hm;have e1:m-1+1=m:=by omega
  rw[e1] at this;have:=zA0 (show n≤m-1 by omega)
  simp only[hlt,if_true,zF];rw[if_pos (by omega)]
 ·by_cases hgt:m<n
  ·have:=zGU he m
   have hm:d (n-1)≠0:=by omega
   have:=V_ge hd (n-1) hm;have e1:n-1+1=n:=by omega
   rw[e1] at this;have:=zA0 (show m≤n-1 by omega)
   simp only[hlt,hgt,if_true,if_false,zF];rw[if_neg (by omega),if_pos (by omega)]
  ·have:n=m:=by omega
   subst this;simp only[hlt,if_false];exact cmpTo_V hd he n
theorem zGW {d e:Nat→Int} (hd:Dgs d) (he:Dgs e) (neg neg2:Bool) (n m:Nat) (h1:n=0∨d (n-1)≠0) (h2:m=0∨e (m-1)≠0) (h3:n=0→neg=false) (h4:m=0→neg2=false) :
  cmpI neg neg2 d e n m=zF (sgn neg (V d n)) (sgn neg2 (V e m)):=by
 have c:=zHJ hd he n m h1 h2;have a3:=jB hd n;have a4:=jB he m
 have zCD:neg=true→1≤V d n:=fun hn=>by
  have hn0:n≠0:=fun h0=>by rw[h3 h0] at hn;cases hn
  have:=V_ge hd (n-1) (by omega)
  have e1:n-1+1=n:=by omega
  rw[e1] at this;have:=kN (n-1);omega
 have pos2:neg2=true→1≤V e m:=fun hn=>by
  have hn0:m≠0:=fun h0=>by rw[h4 h0] at hn;cases hn
  have:=V_ge he (m-1) (by omega)
  have e1:m-1+1=m:=by omega
  rw[e1] at this;have:=kN (m-1);omega
 generalize V d n=x at *;generalize V e m=y at *;clear h1 h2 h3 h4
 cases neg <;> cases neg2 <;> simp[cmpI,sgn,c] at*<;> unfold zF <;> repeat' split
 all_goals omega
attribute [local go_sem ↓] Go.wp_at_zero Go.wp_at_succ
theorem zDZ {w:World} {b t N:Nat} {f:Nat→Int} (h:w.rowIs b t N (fun j=>.int .u16 (f j))) (hd:Dgs f) (hN:N≤70368744177664):Dig w (some ⟨b,0,none⟩) N N f :=
 ⟨fun _=>⟨b,0,rfl,h.lt,fun j hj=>by simpa using h.cell hj⟩,hd,Nat.le_refl _,hN⟩
theorem ofInt {w:World} {a:Option Addr} {N cap:Nat} {f:Nat→Int} (neg:Bool) (h:Dig w a N cap f):IntAt w (neg && decide (0<kA f N)) a (kA f N) cap N (sgn neg (V f N)):=by
 have hl:=zA3 f N;have hV:=zB9 f N;refine ⟨f,h.take hl,zBF f N,fun h0=>by simp[h0],hl,?_⟩
 by_cases h0:kA f N=0
 ·rw[h0] at hV ⊢;rw[← hV];cases neg <;> simp[sgn,V]
 ·have:decide (0<kA f N)=true:=by simp;omega
  rw[this,hV];cases neg <;> rfl
theorem plus_dig (a c:Option Addr) (n m cap cap2:Nat) (d e:Nat→Int) (w:World) (ha:Dig w a n cap d) (hc:Dig w c m cap2 e) (hn:n≤1000000000) (hm:m≤1000000000) :
  Calls Tryz.prog 126 #[.slice a n cap,.slice c m cap2] w fun r w'=>∃ a' N,Hid (N=max n m+1)∧r=.returned (.slice a' N N)∧Dig w' a' N N (zBR d e n m)∧Below w.heap.size w w' :=
 (plus_any a c n m cap cap2 d e w ha hc hn hm).mono fun _ _ ⟨N,h1,h2,h3,h4⟩=>⟨_,N,h1,h2,zDZ h3 (zHY _ _ _ _) (by omega),h4⟩
theorem zG9 (a c:Option Addr) (n m cap cap2:Nat) (d e:Nat→Int) (w:World) (ha:Dig w a n cap d) (hc:Dig w c m cap2 e) (hn:n≤1000000000) (hm:m≤1000000000) :
  Calls Tryz.prog 127 #[.slice a n cap,.slice c m cap2] w fun r w'=>∃ a',r=.returned (.slice a' n n)∧Dig w' a' n n (zAX d e m)∧Below w.heap.size w w' :=
 (less_any a c n m cap cap2 d e w ha hc hn hm).mono fun _ _ ⟨h2,h3,h4⟩=>⟨_,h2,zDZ h3 (zE5 ha.dgs hc.dgs _) (by omega),h4⟩
theorem zAZ (neg:Bool) (a:Option Addr) (n cap:Nat) (d:Nat→Int) (w:World) (h:Dig w a n cap d) :
  Calls Tryz.prog 125 #[.bool neg,.slice a n cap] w fun e w'=>∃ neg' a' n' cap',e=.returned (.agg #[.bool neg',.slice a' n' cap'])∧IntAt w' neg' a' n' cap' n (sgn neg (V d n))∧Below w.heap.size w w' :=
 (of_any neg a n cap d w h).mono fun _ _ ⟨h1,h2⟩=>⟨_,_,_,_,h1,(ofInt neg h).bw h2,h2⟩
theorem zS (neg neg2:Bool) (a a2:Option Addr) (n n2 cap cap2 k k2:Nat) (x y:Int) (w:World) (h1:IntAt w neg a n cap k x) (h2:IntAt w neg2 a2 n2 cap2 k2 y) :
  Calls Tryz.prog 46 #[.agg #[.bool neg,.slice a n cap],.agg #[.bool neg2,.slice a2 n2 cap2]] w fun r w'=>r=.returned (.int .i64 (zF x y))∧Below w.heap.size w w':=by
 obtain ⟨d,g1,g2,g3,g4,rfl⟩:=h1;obtain ⟨d2,f1,f2,f3,f4,rfl⟩:=h2;rw[← zGW g1.dgs f1.dgs neg neg2 n n2 g2 f2 g3 f3];exact cmp_any neg neg2 a a2 n n2 cap cap2 d d2 w g1 f1
theorem add_any (neg neg2:Bool) (a c:Option Addr) (n m cap cap2:Nat) (d e:Nat→Int) (w:World) (ha:Dig w a n cap d) (hc:Dig w c m cap2 e) (hn:n≤1000000000) (hm:m≤1000000000)
  (h1:n=0∨d (n-1)≠0) (h2:m=0∨e (m-1)≠0) :
  Calls Tryz.prog 65 #[.agg #[.bool neg,.slice a n cap],.agg #[.bool neg2,.slice c m cap2]] w fun r w' =>
   ∃ neg' a' n' cap',r=.returned (.agg #[.bool neg',.slice a' n' cap'])∧IntAt w' neg' a' n' cap' (max n m+1) (sgn neg (V d n)+sgn neg2 (V e m))∧Below w.heap.size w w':=by
 by_cases hs:neg=neg2
 ·subst hs
  have hs:(neg == neg)=true:=by simp
  have ne1:w.heap.size≠w.heap.size+1+1:=by omega
  have ne2:w.heap.size+1+1≠w.heap.size:=by omega
  go_enter Tryz.func65,Tryz.ntmps65
  go_wp2
  go_region_held3 (fun w'=>w'.cell? ⟨w.heap.size,0,none⟩=some (.bool neg)∧w'.cell? ⟨w.heap.size,1,none⟩=some (.slice a n cap)∧w'.cell? ⟨w.heap.size+1,1,none⟩=some (.slice c m cap2)) (go_keep)
   (first
    | (go_at_call 126;refine (plus_dig _ _ _ _ _ _ d e _ (ha.bw (bl3 _ _ _ _).drew) (hc.bw (bl3 _ _ _ _).drew) hn hm).mono ?_;rintro r w1 ⟨a',N,HN,rfl,hdig,hb⟩;obtain ⟨hsz,hcell,hfz⟩:=kK (w.heap.size+3) (by simp) hb)
    | (go_at_call 125;refine (zAZ _ _ _ _ (zBR d e n m) _ hdig).mono ?_;rintro r w2 ⟨neg',a2,n2,c2,rfl,hint,hb2⟩;obtain ⟨hsz2,kC2,hfz2⟩:=kK (w.heap.size+3) hsz hb2))
  go_wp2;refine bodyPost_ret (v:=.agg #[.bool neg',.slice a2 n2 c2]) (by simp[results,Tryz.results65,go_sem,kC2,hcell]) rfl ⟨neg',a2,n2,c2,rfl,?_,?_⟩
  ·have hV:=plus_V ha.dgs hc.dgs n m
   have h0:w2.cell? ⟨w.heap.size+1+1,0,none⟩=some (.bool false):=by simp[kC2,hcell,go_sem]
   have h1':w2.cell? ⟨w.heap.size+1+1,1,none⟩=some (.slice none 0 0):=by simp[kC2,hcell,go_sem]
   rw[zA HN,hV] at hint;have e1:sgn neg (V d n+V e m)=sgn neg (V d n)+sgn neg (V e m):=by cases neg <;> simp[sgn];omega
   rw[e1] at hint;exact hint.put2 h0 h1' _ _
  ·exact ((zB (zB (bl3 _ _ _ _).drew hb) hb2).setCell (by simp;omega) _).setCell (by simp;omega) _
 ·have hs2:(neg == neg2)=false:=by simpa using hs
  have ne1:w.heap.size≠w.heap.size+1+1:=by omega
  have ne2:w.heap.size+1+1≠w.heap.size:=by omega
  have hcv:=zHJ ha.dgs hc.dgs n m h1 h2
  by_cases hge:0≤zF4 d e n m
  ·have hle:V e m≤V d n:=by
    rw[hcv] at hge;unfold zF at hge;split at hge <;> omega
   have hmn:m≤n:=by
    unfold zF4 at hge;split at hge <;> omega
   have Hv:=zC (show sgn neg (V (zAX d e m) n)=sgn neg (V d n)+sgn neg2 (V e m) by
    rw[zPG ha.dgs hc.dgs n m hmn hle];cases neg <;> cases neg2 <;> simp[sgn] at*<;> omega)
   clear hcv
   go_enter Tryz.func65,Tryz.ntmps65
   go_wp2_with (go_at_call 101;refine (kW _ _ _ _ _ _ d e _ (ha.bw (bl3 _ _ _ _)) (hc.bw (bl3 _ _ _ _))).mono ?_;rintro r w0 ⟨rfl,hb0⟩;obtain ⟨hsz0,kC0,hfz0⟩:=kK (w.heap.size+3) (by simp) hb0)
   go_region_held3 (fun w'=>w'.cell? ⟨w.heap.size,0,none⟩=some (.bool neg)∧w'.cell? ⟨w.heap.size,1,none⟩=some (.slice a n cap)∧w'.cell? ⟨w.heap.size+1,1,none⟩=some (.slice c m cap2)) (go_keep)
    (first
     | (go_at_call 127;refine (zG9 _ _ _ _ _ _ d e _ (ha.bw (zB (bl3 _ _ _ _) hb0).drew) (hc.bw (zB (bl3 _ _ _ _) hb0).drew) hn hm).mono ?_;rintro r w1 ⟨a',rfl,hdig,hb⟩;obtain ⟨hsz,hcell,hfz⟩:=kK (w.heap.size+3) (by exact hsz0) hb)
     | (go_at_call 125;refine (zAZ _ _ _ _ (zAX d e m) _ hdig).mono ?_;rintro r w2 ⟨neg',a2,n2,c2,rfl,hint,hb2⟩;obtain ⟨hsz2,kC2,hfz2⟩:=kK (w.heap.size+3) hsz hb2))
   go_wp2;refine bodyPost_ret (v:=.agg #[.bool neg',.slice a2 n2 c2]) (by simp[results,Tryz.results65,go_sem,kC2,hcell,kC0]) rfl ⟨neg',a2,n2,c2,rfl,?_,?_⟩
   ·have h0:w2.cell? ⟨w.heap.size+1+1,0,none⟩=some (.bool false):=by simp[kC2,hcell,kC0,go_sem]
    have h1':w2.cell? ⟨w.heap.size+1+1,1,none⟩=some (.slice none 0 0):=by simp[kC2,hcell,kC0,go_sem]
    rw[zA Hv] at hint;exact (hint.put2 h0 h1' _ _).mono (by omega)
   ·exact ((zB (zB (zB (bl3 _ _ _ _) hb0).drew hb) hb2).setCell (by simp;omega) _).setCell (by simp;omega) _
  ·have hle:V d n≤V e m:=by
    rw[hcv] at hge;unfold zF at hge;split at hge <;> omega
   have hmn:n≤m:=by
    unfold zF4 at hge;split at hge <;> (try split at hge) <;> omega
   have Hv:=zC (show sgn neg2 (V (zAX e d n) m)=sgn neg (V d n)+sgn neg2 (V e m) by
    rw[zPG hc.dgs ha.dgs m n hmn hle];cases neg <;> cases neg2 <;> simp[sgn] at*<;> omega)
   clear hcv
   go_enter Tryz.func65,Tryz.ntmps65
   go_wp2_with (go_at_call 101;refine (kW _ _ _ _ _ _ d e _ (ha.bw (bl3 _ _ _ _)) (hc.bw (bl3 _ _ _ _))).mono ?_;rintro r w0 ⟨rfl,hb0⟩;obtain ⟨hsz0,kC0,hfz0⟩:=kK (w.heap.size+3) (by simp) hb0)
   go_region_held3 (fun w'=>w'.cell? ⟨w.heap.size+1,0,none⟩=some (.bool neg2)∧w'.cell? ⟨w.heap.size+1,1,none⟩=some (.slice c m cap2)∧w'.cell? ⟨w.heap.size,1,none⟩=some (.slice a n cap)) (go_keep)
    (first
     | (go_at_call 127;refine (zG9 _ _ _ _ _ _ e d _ (hc.bw (zB (bl3 _ _ _ _) hb0).drew) (ha.bw (zB (bl3 _ _ _ _) hb0).drew) hm hn).mono ?_;rintro r w1 ⟨a',rfl,hdig,hb⟩;obtain ⟨hsz,hcell,hfz⟩:=kK (w.heap.size+3) (by exact hsz0) hb)
     | (go_at_call 125;refine (zAZ _ _ _ _ (zAX e d n) _ hdig).mono ?_;rintro r w2 ⟨neg',a2,n2,c2,rfl,hint,hb2⟩;obtain ⟨hsz2,kC2,hfz2⟩:=kK (w.heap.size+3) hsz hb2))
   go_wp2;refine bodyPost_ret (v:=.agg #[.bool neg',.slice a2 n2 c2]) (by simp[results,Tryz.results65,go_sem,kC2,hcell,kC0]) rfl ⟨neg',a2,n2,c2,rfl,?_,?_⟩
   ·have h0:w2.cell? ⟨w.heap.size+1+1,0,none⟩=some (.bool false):=by simp[kC2,hcell,kC0,go_sem]
    have h1':w2.cell? ⟨w.heap.size+1+1,1,none⟩=some (.slice none 0 0):=by simp[kC2,hcell,kC0,go_sem]
    rw[zA Hv] at hint;exact (hint.put2 h0 h1' _ _).mono (by omega)
   ·exact ((zB (zB (zB (bl3 _ _ _ _) hb0).drew hb) hb2).setCell (by simp;omega) _).setCell (by simp;omega) _
theorem zEZ (b off j:Nat):(⟨b,off,none⟩:Addr).add j=⟨b,off+j,none⟩:=by unfold Addr.add;split <;> simp_all
def kU (d:Nat→Int) (n:Nat):List Value:=(List.range n).map fun j=>.int .u16 (d j)
theorem yA (d:Nat→Int) (n:Nat):(kU d n).length=n:=by simp[kU]
theorem zBD (d:Nat→Int) (n j:Nat) (hj:j<n):(kU d n)[j]?=some (.int .u16 (d j)):=by simp[kU,hj]
theorem zEO {d:Nat→Int} {n j:Nat} {u:Value} (h:(kU d n)[j]?=some u):j<n∧u=.int .u16 (d j):=by
 by_cases hj:j<n
 ·rw[zBD d n j hj] at h;exact ⟨hj,(Option.some.inj h).symm⟩
 ·rw[List.getElem?_eq_none (by rw[yA];omega)] at h;cases h
theorem zF1 (d:Nat→Int) (n:Nat):∀ u ∈ kU d n,u.oneCell'=true:=by
 intro u hu
 obtain ⟨j,_,rfl⟩:=List.mem_map.1 hu
 rfl
theorem zFC {Pr:Program} (w:World) (t ty e:TypeId) (i:TypeInfo) (z:Value) (ht:Pr.underlying t=some (.slice e)) (hi:Pr.info? e=some i) (hz:i.zero=some z) (h4:i.size=1) (hb:i.bytes=2)
  (b:Nat) (ad:Option Addr) (n cap:Nat) (d:Nat→Int) (hD:Dig w ad n cap d) (hn:n≤1000000000) :
  ∃ a' cap' w',(Builtin.append_ #[t,t] ty #[.slice (some ⟨b,0,none⟩) 0 0,.slice ad n cap]).run Pr w=.ok (.slice a' n cap') w'∧Dig w' a' n cap' d∧Below w.heap.size w w':=by
 by_cases h0:n=0
 ·subst h0
  have hs:Src Pr i.size t (.slice ad 0 cap) 0 [] w:=by
   cases ad with
   | none=>exact Src.ofNil w ht cap
   | some ad=>exact Src.ofSlice w ht ad 0 cap [] (by simp) (by simp) (by simp)
  have hr:=run_append_room_src (P:=Pr) w t t ty e i ht hi b 0 0 0 (.slice ad 0 cap) 0 [] hs (by omega) (by simp) (by simp)
  exact ⟨_,_,_,hr,⟨fun h=>by omega,hD.dgs,Nat.le_refl _,by omega⟩,by simp[World.setCells];exact Below.refl _ _⟩
 ·obtain ⟨b1,off,rfl,hb1,hc⟩:=hD.at_ (by omega)
  have hs:Src Pr i.size t (.slice (some ⟨b1,off,none⟩) n cap) n (kU d n) w :=
   Src.ofSlice w ht ⟨b1,off,none⟩ n cap (kU d n) (by rw[yA,h4];omega) (fun j u hu=>by
    obtain ⟨hj,rfl⟩:=zEO hu
    rw[zEZ];exact hc j hj) (zF1 d n)
  have hr:=run_append_grow_src (P:=Pr) w t t ty e i z ht hi hz (some ⟨b,0,none⟩) 0 0 [] (run_firstCells_some w.drew i.size 0 ⟨b,0,none⟩ 0 0 [] (by simp) (by simp)) (.slice (some ⟨b1,off,none⟩) n cap) n (kU d n) hs (by omega) (by omega)
   (by rw[hb];unfold Builtin.nextslicecap;rw[if_pos (by omega)];omega)
  simp only[Nat.zero_add,List.nil_append] at hr;refine ⟨_,_,_,hr,⟨fun _=>⟨w.heap.size,0,rfl,?_,fun j hj=>?_⟩,hD.dgs,grownCap_ge w n 0 e,by omega⟩,(Below.refl _ _).drew.alloc (Nat.le_refl _) _⟩
  ·show w.heap.size<(w.drew.alloc _).heap.size
   simp
  ·rw[World.cell?_alloc_at _ _ _ _ (show w.heap.size=w.drew.heap.size from rfl)]
   rw[Nat.zero_add,Array.getElem?_append_left (by simp[yA];exact hj)]
   simpa using zBD d n j hj
theorem zEC {Pr:Program} {ops:Array Oper} {o:Oper} {a:Act} {w:World} {K:Act→World→Prop} {Q:Exit→Act→World→Prop} {E:Prop}
  (hg:o.guard=none) (s x:Operand) (t:TypeId) (hop:o.op=Op.call { callee:=Callee.builtin Builtin.append,args:=#[s,x],argTypes:=#[t,t] })
  (e:TypeId) (ht:Pr.underlying t=some (.slice e)) (hinfo:(Pr.info? e).map (fun i=>(i.zero,i.size,i.bytes))=some (some (.int .u16 0),1,2))
  (b:Nat) (hs:a.eval s=.slice (some ⟨b,0,none⟩) 0 0) (ad:Option Addr) (n cap:Nat) (d:Nat→Int) (hx:a.eval x=.slice ad n cap) (hD:Dig w ad n cap d) (hn:n≤1000000000)
  (hK:∀ a' cap' w',Dig w' a' n cap' d→Below w.heap.size w w'→K (a.put o.dst (.slice a' n cap')) w') :
  if Region.wanted o (yielded ops a.tmps)=true then Oper.wp Pr o a w K Q else E:=by
 have hw:Region.wanted o (yielded ops a.tmps)=true:=by simp[Region.wanted,hg]
 rw[if_pos hw];obtain ⟨i,hi,hzz⟩:=Option.map_eq_some_iff.1 hinfo;simp only[Prod.mk.injEq] at hzz;obtain ⟨hz,hsz,hby⟩:=hzz;obtain ⟨a',cap',w',hrun,h1,h2⟩:=zFC (Pr:=Pr) w t o.type e i _ ht hi hz hsz hby b ad n cap d hD hn;unfold Oper.wp;simp[execOp,hop,resolve,invoke,builtin,hs,hx,hrun,Result.andThen];exact hK a' cap' w' h1 h2
theorem yQ (neg neg2:Bool) (a c:Option Addr) (n m cap cap2 k k2:Nat) (x y:Int) (w:World) (h1:IntAt w neg a n cap k x) (h2:IntAt w neg2 c m cap2 k2 y) (hk:k≤1000000000) (hk2:k2≤1000000000) :
  Calls Tryz.prog 65 #[.agg #[.bool neg,.slice a n cap],.agg #[.bool neg2,.slice c m cap2]] w fun r w' =>
   ∃ neg' a' n' cap',r=.returned (.agg #[.bool neg',.slice a' n' cap'])∧IntAt w' neg' a' n' cap' (max k k2+1) (x+y)∧Below w.heap.size w w':=by
 obtain ⟨d,g1,g2,g3,g4,rfl⟩:=h1;obtain ⟨e,f1,f2,f3,f4,rfl⟩:=h2;exact (add_any neg neg2 a c n m cap cap2 d e w g1 f1 (by omega) (by omega) g2 f2).mono fun _ _ ⟨n1,n2,n3,n4,q1,q2,q3⟩=>⟨n1,n2,n3,n4,q1,q2.mono (by omega),q3⟩
theorem zAL (neg neg2:Bool) (a c:Option Addr) (n m cap cap2 k k2:Nat) (x y:Int) (w:World) (h1:IntAt w neg a n cap k x) (h2:IntAt w neg2 c m cap2 k2 y) (hk:k≤1000000000) (hk2:k2≤1000000000) :
  Calls Tryz.prog 72 #[.agg #[.bool neg,.slice a n cap],.agg #[.bool neg2,.slice c m cap2]] w fun r w' =>
   ∃ neg' a' n' cap',r=.returned (.agg #[.bool neg',.slice a' n' cap'])∧IntAt w' neg' a' n' cap' (max k k2+1) (x-y)∧Below w.heap.size w w':=by
 have H1:=zC h1;obtain ⟨e,f1,f2,f3,f4,fy⟩:=h2;have Hy:=zC (show sgn (!neg2) (V e m) = -y by rw[fy];cases neg2 <;> simp[sgn])
 have Hx:=zC (show x + -y=x-y by omega)
 clear h1 fy;have ne1:w.heap.size≠w.heap.size+1+1:=by omega
 have ne2:w.heap.size+1+1≠w.heap.size:=by omega
 go_enter Tryz.func72,Tryz.ntmps72
 go_wp2
 go_region_held3 (fun w'=>w'.cell? ⟨w.heap.size,0,none⟩=some (.bool neg)∧w'.cell? ⟨w.heap.size,1,none⟩=some (.slice a n cap)∧w'.cell? ⟨w.heap.size+1,0,none⟩=some (.bool neg2)∧w'.cell? ⟨w.heap.size+1,1,none⟩=some (.slice c m cap2)) (go_keep)
  (first
   | (go_at_call 125;refine (zAZ _ _ _ _ e _ (f1.bw (bl3 _ _ _ _).drew)).mono ?_;rintro r w1 ⟨neg1,a1,n1,c1,rfl,hZ1,hb⟩;obtain ⟨hsz,hcell,hfz⟩:=kK (w.heap.size+3) (by simp) hb)
   | (go_at_call 65;refine (yQ _ _ _ _ _ _ _ _ k m x _ _ ((zA H1).bw (zB (bl3 _ _ _ _).drew hb)) hZ1 hk (by omega)).mono ?_;rintro r w2 ⟨neg',a2,n2,c2,rfl,hint,hb2⟩;obtain ⟨hsz2,kC2,hfz2⟩:=kK (w.heap.size+3) hsz hb2))
 go_wp2;refine bodyPost_ret (v:=.agg #[.bool neg',.slice a2 n2 c2]) (by simp[results,Tryz.results72,go_sem,kC2,hcell]) rfl ⟨neg',a2,n2,c2,rfl,?_,?_⟩
 ·have h0:w2.cell? ⟨w.heap.size+1+1,0,none⟩=some (.bool false):=by simp[kC2,hcell,go_sem]
  have h1':w2.cell? ⟨w.heap.size+1+1,1,none⟩=some (.slice none 0 0):=by simp[kC2,hcell,go_sem]
  rw[zA Hy,zA Hx] at hint;exact (hint.put2 h0 h1' _ _).mono (by omega)
 ·exact ((zB (zB (bl3 _ _ _ _).drew hb) hb2).setCell (by simp;omega) _).setCell (by simp;omega) _
theorem jY (neg:Bool) (a:Option Addr) (n cap k:Nat) (x:Int) (w:World) (h1:IntAt w neg a n cap k x) (hk:k≤1000000000) :
  Calls Tryz.prog 103 #[.agg #[.bool neg,.slice a n cap]] w fun r w' =>
   ∃ neg' a' n' cap',r=.returned (.agg #[.bool neg',.slice a' n' cap'])∧IntAt w' neg' a' n' cap' k (-x)∧Below w.heap.size w w':=by
 obtain ⟨d,f1,f2,f3,f4,fy⟩:=h1;have Hy:=zC (show sgn (!neg) (V d n) = -x by rw[fy];cases neg <;> simp[sgn])
 clear fy
 go_enter Tryz.func103,Tryz.ntmps103
 go_wp2
 go_region_held3 (fun w'=>w'.cell? ⟨w.heap.size,0,none⟩=some (.bool neg)∧w'.cell? ⟨w.heap.size,1,none⟩=some (.slice a n cap)) (go_keep)
  (first
   | (refine zEC (by rfl) _ _ 24 (by rfl) 98 Tryz.underlying24 Tryz.infoU16 _ (by rfl) _ _ _ d (by rfl) (f1.bw (bl3 _ _ _ _).drew) (by omega) ?_;intro a1 c1 w1 hdig hb;obtain ⟨hsz,hcell,hfz⟩:=kK (w.heap.size+2) (by simp) hb)
   | (go_at_call 125;refine (zAZ _ _ _ _ d _ hdig).mono ?_;rintro r w2 ⟨neg',a2,n2,c2,rfl,hint,hb2⟩;obtain ⟨hsz2,kC2,hfz2⟩:=kK (w.heap.size+2) hsz hb2))
 go_wp2;refine bodyPost_ret (v:=.agg #[.bool neg',.slice a2 n2 c2]) (by simp[results,Tryz.results103,go_sem,kC2,hcell]) rfl ⟨neg',a2,n2,c2,rfl,?_,?_⟩
 ·have h0:w2.cell? ⟨w.heap.size+1,0,none⟩=some (.bool false):=by simp[kC2,hcell,go_sem]
  have h1':w2.cell? ⟨w.heap.size+1,1,none⟩=some (.slice none 0 0):=by simp[kC2,hcell,go_sem]
  rw[zA Hy] at hint;exact (hint.put2 h0 h1' _ _).mono (by omega)
 ·exact ((zB (zB (bl3 _ _ _ _).drew hb) hb2).setCell (by simp) _).setCell (by simp) _
end Go.Proofs.YtgmnknmjainababGreat
