/-
  Its own texts.
-/
import Derived.Deep.CutBlock
import Derived.WalkKit
import Derived.Test.YtgmnknmjainabacGreatProg
import Derived.WalkSpells
import Derived.WalkLawsBesides
import Derived.Deep.QuietTactic
import Derived.BigQuiet
import Derived.Deep.OwnRows
import Derived.Deep.RegionHeld3
import Derived.Deep.DrawnRows
import Derived.Deep.AppendSrc
import Derived.Deep.AppendLies
set_option maxRecDepth 100000
set_option maxHeartbeats 40000000
set_option linter.unnecessarySimpa false
set_option linter.unusedSimpArgs false
set_option linter.unusedVariables false
namespace Go.Proofs.YtgmnknmjainabacGreat
theorem YQ:type_of% @List.setIfInBounds_toArray:=@List.setIfInBounds_toArray
theorem YR:type_of% @List.set_cons_zero:=@List.set_cons_zero
theorem YS:type_of% @List.set_cons_succ:=@List.set_cons_succ
theorem YT:type_of% @Rat.mul_le_mul_of_nonneg_left:=@Rat.mul_le_mul_of_nonneg_left
theorem YV:type_of% @Rat.mul_nonneg:=@Rat.mul_nonneg
theorem YW:type_of% @Int.mul_le_mul_of_nonneg_right:=@Int.mul_le_mul_of_nonneg_right
theorem YX:type_of% @Rat.mul_le_mul_of_nonneg_right:=@Rat.mul_le_mul_of_nonneg_right
theorem YZ:type_of% @Rat.le_of_lt:=@Rat.le_of_lt
theorem Za:type_of% @Int.mul_le_mul_of_nonneg_left:=@Int.mul_le_mul_of_nonneg_left
theorem Zb:type_of% @Nat.le_refl:=@Nat.le_refl
theorem Zc:type_of% @Int.mul_nonneg:=@Int.mul_nonneg
theorem Zd:type_of% @Nat.lt_of_lt_of_le:=@Nat.lt_of_lt_of_le
theorem Ze:type_of% @Rat.intCast_mul:=@Rat.intCast_mul
theorem Zf:type_of% @Nat.ne_of_gt:=@Nat.ne_of_gt
theorem Zg:type_of% @Nat.ne_of_lt:=@Nat.ne_of_lt
open Go.RowKit
def P:Nat->Int
 | 0=>1
 | n+1=>65536*P n
theorem yI (n:Nat):1<=P n:=by
 induction n with
 | zero=>simp[P]
 | succ n ih=>simp only[P];omega
theorem P_add (m n:Nat):P (m+n)=P m*P n:=by
 induction n with
 | zero=>simp[P]
 | succ n ih=>rw[Nat.add_succ];simp only[P];rw[ih,Int.mul_left_comm]
theorem zBT {m n : Nat} (h : m ≤ n) : P m ≤ P n := by
  induction n with
  | zero => have : m = 0 := by omega
            subst this; exact Int.le_refl _
  | succ n ih =>
    by_cases hm : m = n + 1
    · subst hm; exact Int.le_refl _
    · have := ih (by omega)
      have := yI n
      simp only [P]; omega
def V (d:Nat->Int):Nat->Int
 | 0=>0
 | n+1=>V d n+d n*P n
def Dgs (d:Nat->Int):Prop:=∀ j,0<=d j/\d j<65536
theorem jA {d:Nat->Int} (h:Dgs d) (n:Nat):0<=V d n:=by
 induction n with
 | zero=>simp[V]
 | succ n ih =>
  simp only[V];have:=Zc (h n).1 (Int.le_of_lt (Int.lt_of_lt_of_le (by decide) (yI n)))
  omega
theorem zHT {d:Nat->Int} (h:Dgs d) (n:Nat):V d n<P n:=by
 induction n with
 | zero=>simp[V,P]
 | succ n ih =>
  simp only[V,P];have h1:d n*P n<=65535*P n:=YW (by have:=(h n).2;omega) (by have:=yI n;omega)
  omega
theorem zCH {d e:Nat->Int} (n:Nat) (h:∀ j,j<n->d j=e j):V d n=V e n:=by
 induction n with
 | zero=>rfl
 | succ n ih=>simp only[V];rw[ih (λ j hj=>h j (by omega)),h n (by omega)]
structure Dig (w:World) (a:Option Addr) (n cap:Nat) (d:Nat->Int):Prop where
 at_:0<n->∃ b off,a=some ⟨b,off,none⟩/\b<w.heap.size/\∀ j,j<n->w.cell? ⟨b,off+j,none⟩=some (.int .u16 (d j))
 dgs:Dgs d
 le:n<=cap
 room:n<=70368744177664
theorem Dig.bw {w w':World} {a:Option Addr} {n cap:Nat} {d:Nat->Int} (h:Dig w a n cap d) (hb:Below w.heap.size w w'):Dig w' a n cap d :=
 ⟨λ hn=>by
  obtain⟨b,off,h1,h2,h3⟩:=h.at_ hn
  exact⟨b,off,h1,Zd h2 hb.size,λ j hj=>(hb.cell (p:=⟨b,off+j,none⟩) h2).trans (h3 j hj)⟩,h.dgs,h.le,h.room⟩
theorem zC {p:Prop} (h:p):Hid p:=h
theorem zA {p:Prop} (h:Hid p):p:=h
def lenOf:Value->Nat
 | .slice _ n _=>n
 | _=>0
def zHJ (neg:Bool) (n:Nat) (d:Nat->Int):Bool:=if n=0 then !neg else d (n-1) != 0
theorem bl1 (w:World) (o1:Obj):Below w.heap.size w (w.alloc o1):=(Below.refl _ _).alloc (Zb _) _
theorem bl2 (w:World) (o1 o2:Obj):Below w.heap.size w ((w.alloc o1).alloc o2):=(bl1 w o1).alloc (by simp) _
theorem bl3 (w:World) (o1 o2 o3:Obj):Below w.heap.size w (((w.alloc o1).alloc o2).alloc o3):=(bl2 w o1 o2).alloc (by simp;omega) _
theorem bl4 (w:World) (o1 o2 o3 o4:Obj):Below w.heap.size w ((((w.alloc o1).alloc o2).alloc o3).alloc o4):=(bl3 w o1 o2 o3).alloc (by simp;omega) _
theorem zB {w w1 w2:World} (h:Below w.heap.size w w1) (k:Below w1.heap.size w1 w2):Below w.heap.size w w2:=h.trans (k.mono h.size)
def Q:Nat->Int
 | 0=>1
 | n+1=>2*Q n
def zCX:Nat->Int->Int
 | 0,_=>0
 | f+1,x=>if x<=0 then 0 else 1+zCX f (x/2)
def lenZ (n:Nat) (d:Nat->Int):Int:=if n=0 then 0 else 16*((n:Int)-1)+zCX 16 (d (n-1))
theorem blenF_bd (f:Nat) (x:Int):0<=zCX f x/\zCX f x<=f:=by
 induction f generalizing x with
 | zero=>simp[zCX]
 | succ f ih=>simp only[zCX];have:=ih (x/2);split<;>omega
def kB (d:Nat->Int):Nat->Nat
 | 0=>0
 | n+1=>if d n=0 then kB d n else n+1
theorem zBC (d:Nat->Int) (n:Nat):kB d n<=n:=by
 induction n with
 | zero=>simp[kB]
 | succ n ih=>simp only[kB];split<;>omega
theorem zDE (d:Nat->Int) (n:Nat):V d (kB d n)=V d n:=by
 induction n with
 | zero=>simp[kB]
 | succ n ih =>
  simp only[kB];split
  ·rename_i h;rw[ih];simp[V,h]
  ·rfl
theorem zCD (d:Nat->Int) (n:Nat):kB d n=0\/d (kB d n-1)≠0:=by
 induction n with
 | zero=>simp[kB]
 | succ n ih =>
  simp only[kB];split
  ·exact ih
  ·rename_i h;right;simpa using h
theorem zPO {d:Nat->Int} {n:Nat} (h:n=0\/d (n-1)≠0):kB d n=n:=by
 cases n with
 | zero=>rfl
 | succ n=>simp only[kB];rw[if_neg];simpa using h
def sgn (neg:Bool) (x:Int):Int:=if neg then -x else x
theorem Dig.take {w:World} {a:Option Addr} {n cap:Nat} {d:Nat->Int} (h:Dig w a n cap d) {m:Nat} (hm:m<=n):Dig w a m cap d :=
 ⟨λ pW=>by
  obtain⟨b,off,h1,h2,h3⟩:=h.at_ (by omega)
  exact⟨b,off,h1,h2,λ j hj=>h3 j (by omega)⟩,h.dgs,Nat.le_trans hm h.le,Nat.le_trans hm h.room⟩
def IntAt (w:World) (neg:Bool) (a:Option Addr) (n cap:Nat) (k:Nat) (z:Int):Prop :=
 ∃ d,Dig w a n cap d/\(n=0\/d (n-1)≠0)/\(n=0->neg=false)/\n<=k/\z=sgn neg (V d n)
theorem IntAt.bw {w w':World} {neg:Bool} {a:Option Addr} {n cap k:Nat} {z:Int} (h:IntAt w neg a n cap k z) (hb:Below w.heap.size w w'):IntAt w' neg a n cap k z:=by
 obtain⟨d,h2,h3⟩:=h;exact⟨d,h2.bw hb,h3⟩
theorem IntAt.mono {w:World} {neg:Bool} {a:Option Addr} {n cap k k':Nat} {z:Int} (h:IntAt w neg a n cap k z) (hk:k<=k'):IntAt w neg a n cap k' z:=by
 obtain⟨d,h2,h3,h4,h5,h6⟩:=h;exact⟨d,h2,h3,h4,by omega,h6⟩
theorem Dig.store {w:World} {a:Option Addr} {n cap:Nat} {d:Nat->Int} (h:Dig w a n cap d) {p:Addr} {v:Value} (hp:w.cell? p=some v) (hv:∀ x,v≠.int .u16 x) (u:Value):Dig (w.setCell p u) a n cap d :=
 ⟨λ hn=>by
  obtain⟨b,off,h1,h2,h3⟩:=h.at_ hn;refine⟨b,off,h1,by simpa [World.setCell] using h2,λ j hj=>?_⟩
  have h4:=h3 j hj;rw[World.cell?_setCell_other]
  ·exact h4
  ·intro e
   rw[<- e,hp] at h4
   exact hv _ (Option.some.inj h4),h.dgs,h.le,h.room⟩
theorem IntAt.store {w:World} {neg:Bool} {a:Option Addr} {n cap k:Nat} {z:Int} (h:IntAt w neg a n cap k z) {p:Addr} {v:Value} (hp:w.cell? p=some v) (hv:∀ x,v≠.int .u16 x) (u:Value):IntAt (w.setCell p u) neg a n cap k z:=by
 obtain⟨d,h2,h3⟩:=h;exact⟨d,h2.store hp hv u,h3⟩
theorem IntAt.put2 {w:World} {neg:Bool} {a:Option Addr} {n cap k:Nat} {z:Int} (h:IntAt w neg a n cap k z) {B:Nat} {x0:Bool} {y0:Option Addr} {y1 y2:Nat} (h0:w.cell? ⟨B,0,none⟩=some (.bool x0))
  (h1:w.cell? ⟨B,1,none⟩=some (.slice y0 y1 y2)) (u0 u1:Value):IntAt ((w.setCell ⟨B,0,none⟩ u0).setCell ⟨B,1,none⟩ u1) neg a n cap k z:=by
 have hne:(⟨B,0,none⟩:Addr)≠⟨B,1,none⟩:=by simp
 have h2:(w.setCell ⟨B,0,none⟩ u0).cell? ⟨B,1,none⟩=some (.slice y0 y1 y2):=(World.cell?_setCell_other _ _ _ _ hne).trans h1;exact (h.store h0 (λ _ e=>by cases e) u0).store h2 (λ _ e=>by cases e) u1
theorem bcell {W w1:World} (hb:Below W.heap.size W w1):(∀ b o,b<W.heap.size->w1.cell? ⟨b,o,none⟩=W.cell? ⟨b,o,none⟩)/\(∀ b o,b<W.heap.size->w1.frozen? ⟨b,o,none⟩=W.frozen? ⟨b,o,none⟩) :=
 ⟨λ b o h=>hb.cell (p:=⟨b,o,none⟩) h,λ b o h=>hb.frozen (p:=⟨b,o,none⟩) h⟩
theorem zZ {W w1:World} (H:Nat) (hH:H<=W.heap.size) (hb:Below W.heap.size W w1):H<=w1.heap.size/\(∀ b o,b+1<=H->w1.cell? ⟨b,o,none⟩=W.cell? ⟨b,o,none⟩)/\(∀ b o,b+1<=H->w1.frozen? ⟨b,o,none⟩=W.frozen? ⟨b,o,none⟩) :=
 ⟨Nat.le_trans hH hb.size,λ b o h=>hb.cell (p:=⟨b,o,none⟩) (Zd h hH),λ b o h=>hb.frozen (p:=⟨b,o,none⟩) (Zd h hH)⟩
theorem zLW (neg:Bool) (a:Option Addr) (n cap:Nat) (d:Nat->Int) (w:World) (h:Dig w a n cap d) :
  Calls Tryz.prog 61 #[.agg #[.bool neg,.slice a n cap]] w λ e w'=>e=.returned (.bool (zHJ neg n d))/\Below w.heap.size w w':=by
 have hr:=h.room;have hl:=h.le
 by_cases hn:n=0
 ·subst hn
  go_enter Tryz.func61,Tryz.ntmps61
  go_wp2
  go_ret
  exact⟨by simp[zHJ],(Below.refl _ _).alloc (Zb _) _⟩
 ·obtain⟨b,off,rfl,hb,hc⟩:=h.at_ (by omega)
  have E4:=hc (n-1) (by omega)
  have hz:((n:Int) == 0)=false:=by simp;omega
  have hi:((n:Int)-1)=((n-1:Nat):Int):=by omega
  go_enter Tryz.func61,Tryz.ntmps61
  go_wp2
  go_ret
  exact⟨by simp[zHJ,hn],((Below.refl _ _).alloc (Zb _) _)⟩
def zL7 (neg:Bool) (n:Nat):Int:=if n=0 then 0 else if neg then -1 else 1
theorem zI5 (neg:Bool) (a:Option Addr) (n cap:Nat) (w:World) (hr:n<=70368744177664) :
  Calls Tryz.prog 73 #[.agg #[.bool neg,.slice a n cap]] w λ e w'=>e=.returned (.int .i64 (zL7 neg n))/\Below w.heap.size w w':=by
 by_cases hn:n=0
 ·subst hn
  go_enter Tryz.func73,Tryz.ntmps73
  go_wp2
  all_goals (go_ret;exact⟨by simp[zL7],(Below.refl _ _).alloc (Zb _) _⟩)
 ·have hz:((n:Int) == 0)=false:=by simp;omega
  cases neg
  all_goals
   go_enter Tryz.func73,Tryz.ntmps73
   go_wp2
   go_ret
   exact⟨by simp[zL7,hn],(Below.refl _ _).alloc (Zb _) _⟩
def zC0 (d e:Nat->Int):Nat->Int
 | 0=>0
 | n+1=>if d n<e n then -1 else if e n<d n then 1 else zC0 d e n
def zFZ (d e:Nat->Int) (n m:Nat):Int:=if n<m then -1 else if m<n then 1 else zC0 d e n
theorem kJ (a c:Option Addr) (n m cap m8:Nat) (d e:Nat->Int) (w:World) (ha:Dig w a n cap d) (hc:Dig w c m m8 e) :
  Calls Tryz.prog 53 #[.slice a n cap,.slice c m m8] w λ r w'=>r=.returned (.int .i64 (zFZ d e n m))/\Below w.heap.size w w':=by
 have hr:=ha.room;have hl:=ha.le;have P2:=hc.room;have W7:=hc.le
 by_cases hne:n=m
 ·subst hne
  have hz:((n:Int) != n)=false:=by simp
  go_enter Tryz.func53,Tryz.ntmps53
  go_wp2
  go_loopw [5] (λ i wr=>∃ k:Nat,k<=n/\i=.int .i64 ((k:Int)-1)/\zC0 d e n=zC0 d e k/\Below w.heap.size w wr) (λ i _=>(intOf i+1).toNat)
  case atStart=>exact⟨n,Zb _,rfl,rfl,Below.refl _ _⟩
  case round =>
   obtain⟨k,hk,rfl,nD,A7⟩:=hrel
   by_cases bA:k=0
   ·subst bA
    go_wp2
    go_ret
    exact⟨by simp[zFZ,nD,zC0],A7⟩
   ·obtain⟨b1,o1,rfl,b9,E4⟩:=ha.at_ (by omega)
    obtain⟨b2,o2,rfl,j7,G3⟩:=hc.at_ (by omega)
    obtain⟨q,rfl⟩:∃ q,k=q+1:=⟨k-1,by omega⟩
    have e0:((q+1:Nat):Int)-1=(q:Int):=by omega
    rw[e0];have g1:wr.cell? ⟨b1,o1+q,none⟩=some (.int .u16 (d q)):=(A7.cell (p:=⟨b1,o1+q,none⟩) b9).trans (E4 q (by omega))
    have g2:wr.cell? ⟨b2,o2+q,none⟩=some (.int .u16 (e q)):=(A7.cell (p:=⟨b2,o2+q,none⟩) j7).trans (G3 q (by omega))
    have gq:(q:Int)<(n:Int):=by omega
    have Hcm:=zC nD;clear nD e0 ha hc E4 G3
    by_cases E2:d q<e q
    ·have t1:(d q != e q)=true:=by rw[bne_iff_ne];omega
     go_wp2
     go_quiet (fail)
     go_wp2
     go_quiet (fail)
     go_wp2
     go_ret
     exact⟨by simp[zFZ,zA Hcm,zC0,E2],below_drewN (below_drewN A7 _) _⟩
    ·by_cases zd:e q<d q
     ·have t1:(d q != e q)=true:=by rw[bne_iff_ne];omega
      go_wp2
      go_quiet (fail)
      go_wp2
      go_quiet (fail)
      go_wp2
      go_ret
      exact⟨by simp[zFZ,zA Hcm,zC0,E2,zd],below_drewN (below_drewN A7 _) _⟩
     ·have t1:(d q != e q)=false:=by rw[bne_eq_false_iff_eq];omega
      have Hn:=zC (show zC0 d e (q+1)=zC0 d e q by simp[zC0,E2,zd])
      go_wp2
      go_quiet (fail)
      go_wp2
      go_roundw
      case rel=>exact⟨q,by omega,by go_num,by rw[zA Hcm,zA Hn],below_drewN A7 _⟩
      case measure=>simp[intOf];try omega
 ·have hz:((n:Int) != m)=true:=by rw[bne_iff_ne];omega
  by_cases E2:n<m
  ·have Jt:(n:Int)<m:=by omega
   go_enter Tryz.func53,Tryz.ntmps53
   go_wp2
   go_ret
   exact⟨by simp[zFZ,E2],Below.refl _ _⟩
  ·have Jt:¬ (n:Int)<m:=by omega
   go_enter Tryz.func53,Tryz.ntmps53
   go_wp2
   go_ret
   have zd:m<n:=by omega
   exact⟨by simp[zFZ,E2,zd],Below.refl _ _⟩
def cmpI (neg j6:Bool) (d e:Nat->Int) (n m:Nat):Int :=
 if neg != j6 then (if neg then -1 else 1) else if neg then-zFZ d e n m else zFZ d e n m
theorem cmpTo_bd (d e:Nat->Int) (n:Nat) : -1<=zC0 d e n/\zC0 d e n<=1:=by
 induction n with
 | zero=>simp[zC0]
 | succ n ih=>simp only[zC0];split<;>(try split)<;>omega
theorem cmpZ_bd (d e:Nat->Int) (n m:Nat) : -1<=zFZ d e n m/\zFZ d e n m<=1:=by
 have:=cmpTo_bd d e n;unfold zFZ;split<;>(try split)<;>omega
theorem cmp_any (neg j6:Bool) (a c:Option Addr) (n m cap m8:Nat) (d e:Nat->Int) (w:World) (ha:Dig w a n cap d) (hc:Dig w c m m8 e) :
  Calls Tryz.prog 17 #[.agg #[.bool neg,.slice a n cap],.agg #[.bool j6,.slice c m m8]] w λ r w'=>r=.returned (.int .i64 (cmpI neg j6 d e n m))/\Below w.heap.size w w':=by
 have oy:=cmpZ_bd d e n m;obtain⟨b1,b2⟩:=oy
 cases neg<;>cases j6
 all_goals
  go_enter Tryz.func17,Tryz.ntmps17
  go_wp2_with (go_at_call 53;refine (kJ _ _ _ _ _ _ d e _ (ha.bw (bl2 _ _ _)) (hc.bw (bl2 _ _ _))).mono ?_;rintro r w' ⟨rfl,hb⟩)
  go_ret
  first|exact⟨by simp[cmpI],zB (bl2 _ _ _) ‹_›⟩|exact⟨by simp[cmpI],bl2 _ _ _⟩
theorem zR0 (neg:Bool) (a:Option Addr) (n cap:Nat) (d:Nat->Int) (w:World) (ha:Dig w a n cap d) :
  Calls Tryz.prog 98 #[.agg #[.bool neg,.slice a n cap]] w λ r w'=>r=.returned (.int .i64 (lenZ n d))/\Below w.heap.size w w':=by
 have hr:=ha.room;have hl:=ha.le
 by_cases hn:n=0
 ·subst hn
  go_enter Tryz.func98,Tryz.ntmps98
  go_wp2
  go_ret
  exact⟨by simp[lenZ],(Below.refl _ _).alloc (Zb _) _⟩
 ·have hz:((n:Int) == 0)=false:=by simp;omega
  obtain⟨b,off,rfl,hb,hc⟩:=ha.at_ (by omega)
  have E4:=hc (n-1) (by omega)
  have hi:((n:Int)-1)=((n-1:Nat):Int):=by omega
  go_enter Tryz.func98,Tryz.ntmps98
  go_wp2
  go_loop [4,5] (λ k x=>∃ (f j:Nat) (y:Int),j+f=16/\k=.int .i64 j/\x=.int .u16 y/\0<=y/\y<Q f/\j+zCX f y=zCX 16 (d (n-1))) (λ _ x=>(intOf x).toNat)
  case atStart=>exact⟨16,0,_,rfl,rfl,rfl,(ha.dgs _).1,(ha.dgs _).2,by simp⟩
  case round =>
   obtain⟨f,j,y,hf,rfl,rfl,wm,zn,A7⟩:=hrel
   by_cases hy:y=0
   ·subst hy
    have E8:zCX f 0=0:=by cases f<;>simp[zCX]
    have HB:=zC (show (j:Int)=zCX 16 (d (n-1)) by omega)
    clear A7;go_wp2
    go_ret
    exact⟨by simp[lenZ,hn,<- zA HB];omega,bl1 _ _⟩
   ·have O3:0<y:=by omega
    match f,hf,zn,A7 with
    | 0,_,zn,_=>simp[Q] at zn;omega
    | f+1,hf,zn,A7 =>
    have TK:=zC (show (j:Int)+1+zCX f (y/2)=zCX 16 (d (n-1)) by rw[<- A7];simp[zCX,show ¬ y<=0 by omega];omega)
    have JW:y<2*Q f:=zn;have hy3:y/2<Q f:=by omega
    clear A7 zn JW;go_wp2
    go_round
    case rel=>exact⟨f,j+1,y/2,by omega,by go_num,by go_num,by omega,hy3,by have:=zA TK;omega⟩
    case measure=>simp[intOf];try omega
theorem yH (a:Option Addr) (n cap:Nat) (d:Nat->Int) (w:World) (h:Dig w a n cap d) :
  Calls Tryz.prog 117 #[.slice a n cap] w λ e w'=>e=.returned (.slice a (kB d n) cap)/\Below w.heap.size w w':=by
 have hr:=h.room;have hl:=h.le
 go_enter Tryz.func117,Tryz.ntmps117
 go_wp2
 go_loopw [0] (λ l wr=>∃ m:Nat,m<=n/\l=.slice a m cap/\kB d n=kB d m/\Below w.heap.size w wr) (λ l _=>lenOf l)
 case atStart=>exact⟨n,Zb _,rfl,rfl,Below.refl _ _⟩
 case round =>
  obtain⟨m,hm,rfl,ht,A7⟩:=hrel
  by_cases pW:m=0
  ·subst pW
   have Ht:=zC ht;clear ht;go_wp2
   go_ret
   exact⟨by simp[zA Ht,kB],A7⟩
  ·obtain⟨b,off,rfl,hb,hc⟩:=h.at_ (by omega)
   obtain⟨q,rfl⟩:∃ q,m=q+1:=⟨m-1,by omega⟩
   have hcq:wr.cell? ⟨b,off+q,none⟩=some (.int .u16 (d q)):=(A7.cell (p:=⟨b,off+q,none⟩) hb).trans (hc q (by omega))
   by_cases hd:d q=0
   ·have Ht:=zC (show kB d n=kB d q by rw[ht];simp[kB,hd])
    clear ht;go_wp2
    go_roundw
    case rel=>exact⟨q,by omega,rfl,zA Ht,A7⟩
    case measure=>simp[lenOf]
   ·have Ht:=zC (show kB d n=q+1 by rw[ht];simp[kB,hd])
    have nG:(d q == 0)=false:=by simpa using hd
    clear ht;go_wp2
    go_ret
    exact⟨by simp[zA Ht],A7⟩
theorem zSV (neg:Bool) (a:Option Addr) (n cap:Nat) (d:Nat->Int) (w:World) (h:Dig w a n cap d) :
  Calls Tryz.prog 70 #[.bool neg,.slice a n cap] w λ e w'=>e=.returned (.agg #[.bool (neg && decide (0<kB d n)),.slice a (kB d n) cap])/\Below w.heap.size w w':=by
 have hr:=h.room;have hl:=zBC d n
 cases neg
 ·go_enter Tryz.func70,Tryz.ntmps70
  go_wp2_with (go_at_call 117;refine (yH _ _ _ d _ (h.bw (bl1 _ _))).mono ?_;rintro r w' ⟨rfl,hb⟩;obtain⟨hcell,bI⟩:=bcell hb;have K3:=hb.size);refine bodyPost_ret (v:=.agg #[.bool false,.slice a (kB d n) cap]) (by simp[results,Tryz.results70,go_sem,hcell,K3]) rfl ?_
  exact⟨by simp,by first|exact (zB (bl1 _ _) hb)|exact (zB (bl1 _ _) hb).setCell (Zb _) _|exact ((zB (bl1 _ _) hb).setCell (Zb _) _).setCell (Zb _) _⟩
 ·go_enter Tryz.func70,Tryz.ntmps70
  go_wp2_with (go_at_call 117;refine (yH _ _ _ d _ (h.bw (bl1 _ _))).mono ?_;rintro r w' ⟨rfl,hb⟩;obtain⟨hcell,bI⟩:=bcell hb;have K3:=hb.size);refine bodyPost_ret (v:=.agg #[.bool (decide (0<kB d n)),.slice a (kB d n) cap]) (by simp[results,Tryz.results70,go_sem,hcell,K3]) rfl ?_
  exact⟨by simp,by first|exact (zB (bl1 _ _) hb)|exact (zB (bl1 _ _) hb).setCell (Zb _) _|exact ((zB (bl1 _ _) hb).setCell (Zb _) _).setCell (Zb _) _⟩
theorem Tryz.infoU16:(Tryz.prog.info? 94).map (λ i=>(i.zero,i.size,i.bytes))=some (some (.int .u16 0),1,2):=by kernel_rfl
def dg (d:Nat->Int) (n j:Nat):Int:=if j<n then d j else 0
def jO (d e:Nat->Int) (n m:Nat):Nat->Int
 | 0=>0
 | k+1=>(jO d e n m k+dg d n k+dg e m k)/65536
def zB4 (d e:Nat->Int) (n m j:Nat):Int:=(jO d e n m j+dg d n j+dg e m j) % 65536
theorem zJL {d e:Nat->Int} (hd:Dgs d) (he:Dgs e) (n m k:Nat):0<=jO d e n m k/\jO d e n m k<=1:=by
 induction k with
 | zero=>simp[jO]
 | succ k ih =>
  simp only[jO,dg];have:=hd k;have:=he k;split<;>split<;>omega
theorem zAX {wr:World} {b t N k:Nat} {f:Nat->Int} (h:wr.rowIs b t N (λ j=>.int .u16 (if j<k then f j else 0))) {v:Int} (hv:v=f k) :
  (wr.setCell ⟨b,k,none⟩ (.int .u16 v)).rowIs b t N (λ j=>.int .u16 (if j<k+1 then f j else 0)):=by
 refine (h.set k (.int .u16 v)).congr λ j _=>?_
 by_cases hj:j=k
 ·subst hj;simp[hv]
 ·have:(j<k+1)=(j<k):=by simp;omega
  simp[hj,this]
theorem yQ (x:Int):IntKind.u16.wrap x=x % 65536:=rfl
theorem zNY (a c:Option Addr) (n m cap m8:Nat) (d e:Nat->Int) (w:World) (ha:Dig w a n cap d) (hc:Dig w c m m8 e) (hn:n<=1000000000) (hm:m<=1000000000) :
  Calls Tryz.prog 71 #[.slice a n cap,.slice c m m8] w λ r w'=>∃ N,N=max n m+1/\r=.returned (.slice (some ⟨w.heap.size,0,none⟩) N N)/\w'.rowIs w.heap.size 94 N (λ j=>.int .u16 (zB4 d e n m j))/\Below w.heap.size w w':=by
 obtain⟨N,hN⟩:∃ N,N=max n m+1:=⟨_,rfl⟩;have cF:N<=1000000001:=by omega
 have hnN:n<N:=by omega
 have hmN:m<N:=by omega
 have aj:=run_make_row' (P:=Tryz.prog) 27 94 (.int .u16 0) 2 Tryz.underlying27 Tryz.infoU16 rfl .i64 .i64 N (by omega) (by omega)
 have key:(n<m/\(m:Int)+1=N)\/(m<=n/\(n:Int)+1=N):=by omega
 have HN:=zC hN;clear hN
 rcases key with⟨E2,hmx⟩|⟨E2,hmx⟩
 all_goals
  go_enter Tryz.func71,Tryz.ntmps71
  go_wp2;clear aj E2 hmx
  go_loopw [6,17] (λ cy i wr=>∃ k:Nat,k<=N/\i=.int .i64 k/\cy=.int .u32 (jO d e n m k)/\wr.rowIs w.heap.size 94 N (λ j=>.int .u16 (if j<k then zB4 d e n m j else 0))/\Below w.heap.size w wr) (λ _ i _=>N-(intOf i).toNat)
  case atStart=>exact⟨0,Nat.zero_le _,rfl,rfl,by simpa using World.rowIs_made w (.int .u16 0) N 94,bl1 _ _⟩
  case round =>
   obtain⟨k,hk,rfl,rfl,C8,A7⟩:=hrel
   by_cases hkN:k<N
   ·have r1:=C8.cell hkN
    have r2:=C8.frozen k;have cb:=zJL ha.dgs hc.dgs n m k;have db:=ha.dgs k;have eb:=hc.dgs k
    by_cases G1:k<n
    ·obtain⟨b1,o1,rfl,b9,E4⟩:=ha.at_ (by omega)
     have g1:wr.cell? ⟨b1,o1+k,none⟩=some (.int .u16 (d k)):=(A7.cell (p:=⟨b1,o1+k,none⟩) b9).trans (E4 k G1);clear E4
     by_cases aV:k<m
     ·obtain⟨b2,o2,rfl,j7,G3⟩:=hc.at_ (by omega)
      have g2:wr.cell? ⟨b2,o2+k,none⟩=some (.int .u16 (e k)):=(A7.cell (p:=⟨b2,o2+k,none⟩) j7).trans (G3 k aV);clear G3;have H1:=zC (show (jO d e n m k+d k+e k)/65536=jO d e n m (k+1) by simp[jO,dg,G1,aV])
      have H2:=zC (show IntKind.u16.wrap (jO d e n m k+d k+e k)=zB4 d e n m k by simp[yQ,zB4,dg,G1,aV])
      go_wp2
      go_roundw
      case rel=>exact⟨k+1,by omega,by go_num,by rw[zA H1],zAX C8 (zA H2),A7.setCell (Zb _) _⟩
      case measure=>simp[intOf];omega
     ·have H1:=zC (show (jO d e n m k+d k)/65536=jO d e n m (k+1) by simp[jO,dg,G1,aV])
      have H2:=zC (show IntKind.u16.wrap (jO d e n m k+d k)=zB4 d e n m k by simp[yQ,zB4,dg,G1,aV])
      go_wp2
      go_roundw
      case rel=>exact⟨k+1,by omega,by go_num,by rw[zA H1],zAX C8 (zA H2),A7.setCell (Zb _) _⟩
      case measure=>simp[intOf];omega
    ·by_cases aV:k<m
     ·obtain⟨b2,o2,rfl,j7,G3⟩:=hc.at_ (by omega)
      have g2:wr.cell? ⟨b2,o2+k,none⟩=some (.int .u16 (e k)):=(A7.cell (p:=⟨b2,o2+k,none⟩) j7).trans (G3 k aV);clear G3;have H1:=zC (show (jO d e n m k+e k)/65536=jO d e n m (k+1) by simp[jO,dg,G1,aV])
      have H2:=zC (show IntKind.u16.wrap (jO d e n m k+e k)=zB4 d e n m k by simp[yQ,zB4,dg,G1,aV])
      go_wp2
      go_roundw
      case rel=>exact⟨k+1,by omega,by go_num,by rw[zA H1],zAX C8 (zA H2),A7.setCell (Zb _) _⟩
      case measure=>simp[intOf];omega
     ·have H1:=zC (show (jO d e n m k)/65536=jO d e n m (k+1) by simp[jO,dg,G1,aV])
      have H2:=zC (show jO d e n m k=zB4 d e n m k by simp[zB4,dg,G1,aV];omega)
      go_wp2
      go_roundw
      case rel=>exact⟨k+1,by omega,by go_num,by rw[zA H1],zAX C8 (zA H2),A7.setCell (Zb _) _⟩
      case measure=>simp[intOf];omega
   ·have hkE:k=N:=by omega
    subst hkE;go_wp2
    go_ret
    exact⟨_,zA HN,rfl,C8.congr (λ j hj=>by simp[hj]),A7⟩
def jB (d e:Nat->Int) (m:Nat):Nat->Int
 | 0=>0
 | k+1=>if d k-jB d e m k-dg e m k<0 then 1 else 0
def zAM (d e:Nat->Int) (m j:Nat):Int:=if d j-jB d e m j-dg e m j<0 then d j-jB d e m j-dg e m j+65536 else d j-jB d e m j-dg e m j
theorem zET (d e:Nat->Int) (m k:Nat):0<=jB d e m k/\jB d e m k<=1:=by
 cases k with
 | zero=>simp[jB]
 | succ k=>simp only[jB];split<;>omega
theorem zNI (a c:Option Addr) (n m cap m8:Nat) (d e:Nat->Int) (w:World) (ha:Dig w a n cap d) (hc:Dig w c m m8 e) (hn:n<=1000000000) (hm:m<=1000000000) :
  Calls Tryz.prog 72 #[.slice a n cap,.slice c m m8] w λ r w'=>r=.returned (.slice (some ⟨w.heap.size,0,none⟩) n n)/\w'.rowIs w.heap.size 94 n (λ j=>.int .u16 (zAM d e m j))/\Below w.heap.size w w':=by
 have aj:=run_make_row' (P:=Tryz.prog) 27 94 (.int .u16 0) 2 Tryz.underlying27 Tryz.infoU16 rfl .i64 .i64 n (by omega) (by omega)
 go_enter Tryz.func72,Tryz.ntmps72
 go_wp2;clear aj
 go_loopw [6,14] (λ cy i wr=>∃ k:Nat,k<=n/\i=.int .i64 k/\cy=.int .i64 (jB d e m k)/\wr.rowIs w.heap.size 94 n (λ j=>.int .u16 (if j<k then zAM d e m j else 0))/\Below w.heap.size w wr) (λ _ i _=>n-(intOf i).toNat)
 case atStart=>exact⟨0,Nat.zero_le _,rfl,rfl,by simpa using World.rowIs_made w (.int .u16 0) n 94,bl1 _ _⟩
 case round =>
  obtain⟨k,hk,rfl,rfl,C8,A7⟩:=hrel
  by_cases G1:k<n
  ·have r1:=C8.cell G1
   have r2:=C8.frozen k;have cb:=zET d e m k;have db:=ha.dgs k;have eb:=hc.dgs k;obtain⟨b1,o1,rfl,b9,E4⟩:=ha.at_ (by omega)
   have g1:wr.cell? ⟨b1,o1+k,none⟩=some (.int .u16 (d k)):=(A7.cell (p:=⟨b1,o1+k,none⟩) b9).trans (E4 k G1);clear E4
   by_cases aV:k<m
   ·obtain⟨b2,o2,rfl,j7,G3⟩:=hc.at_ (by omega)
    have g2:wr.cell? ⟨b2,o2+k,none⟩=some (.int .u16 (e k)):=(A7.cell (p:=⟨b2,o2+k,none⟩) j7).trans (G3 k aV);clear G3
    by_cases K5:d k-jB d e m k-e k<0
    ·have H1:=zC (show 1=jB d e m (k+1) by simp[jB,dg,aV,K5])
     have H2:=zC (show d k-jB d e m k-e k+65536=zAM d e m k by simp[zAM,dg,aV,K5])
     go_wp2
     go_roundw
     case rel=>exact⟨k+1,by omega,by go_num,by rw[<- zA H1],zAX C8 (zA H2),A7.setCell (Zb _) _⟩
     case measure=>simp[intOf];omega
    ·have H1:=zC (show 0=jB d e m (k+1) by simp[jB,dg,aV,K5])
     have H2:=zC (show d k-jB d e m k-e k=zAM d e m k by simp[zAM,dg,aV,K5])
     go_wp2
     go_roundw
     case rel=>exact⟨k+1,by omega,by go_num,by rw[<- zA H1],zAX C8 (zA H2),A7.setCell (Zb _) _⟩
     case measure=>simp[intOf];omega
   ·by_cases K5:d k-jB d e m k<0
    ·have H1:=zC (show 1=jB d e m (k+1) by simp[jB,dg,aV,K5])
     have H2:=zC (show d k-jB d e m k+65536=zAM d e m k by simp[zAM,dg,aV,K5])
     go_wp2
     go_roundw
     case rel=>exact⟨k+1,by omega,by go_num,by rw[<- zA H1],zAX C8 (zA H2),A7.setCell (Zb _) _⟩
     case measure=>simp[intOf];omega
    ·have H1:=zC (show 0=jB d e m (k+1) by simp[jB,dg,aV,K5])
     have H2:=zC (show d k-jB d e m k=zAM d e m k by simp[zAM,dg,aV,K5])
     go_wp2
     go_roundw
     case rel=>exact⟨k+1,by omega,by go_num,by rw[<- zA H1],zAX C8 (zA H2),A7.setCell (Zb _) _⟩
     case measure=>simp[intOf];omega
  ·have hkE:k=n:=by omega
   subst hkE;go_wp2
   go_ret
   exact⟨rfl,C8.congr (λ j hj=>by simp[hj]),A7⟩
theorem V_dg (d : Nat → Int) (n N : Nat) (h : n ≤ N) : V (dg d n) N = V d n := by
  induction N with
  | zero => have : n = 0 := by omega
            subst this; rfl
  | succ N ih =>
    by_cases hN : n = N + 1
    · subst hN
      apply zCH
      intro j hj; simp [dg, hj]
    · simp only [V]
      rw [ih (by omega)]
      have : ¬ N < n := by omega
      simp [dg, this]
theorem zPF (d e:Nat->Int) (n m k:Nat):V (zB4 d e n m) k+jO d e n m k*P k=V (dg d n) k+V (dg e m) k:=by
 induction k with
 | zero=>simp[V,jO]
 | succ k ih =>
  simp only[V,P]
  have h1:zB4 d e n m k+65536*jO d e n m (k+1)=jO d e n m k+dg d n k+dg e m k:=by
   simp only[zB4,jO];omega
  have h2:zB4 d e n m k*P k+65536*jO d e n m (k+1)*P k=jO d e n m k*P k+dg d n k*P k+dg e m k*P k:=by
   rw[<- Int.add_mul,h1,Int.add_mul,Int.add_mul]
  have h3:jO d e n m (k+1)*(65536*P k)=65536*jO d e n m (k+1)*P k:=by
   rw[<- Int.mul_assoc,Int.mul_comm (jO d e n m (k+1)) 65536]
  omega
theorem zGD (d e:Nat->Int) (n m:Nat):Dgs (zB4 d e n m):=by
 intro j;simp only[zB4];omega
theorem plus_V {d e:Nat->Int} (hd:Dgs d) (he:Dgs e) (n m:Nat):V (zB4 d e n m) (max n m+1)=V d n+V e m:=by
 have h:=zPF d e n m (max n m+1);rw[V_dg d n _ (by omega),V_dg e m _ (by omega)] at h
 have c0:=zJL hd he n m (max n m+1);have b1:=zHT hd n;have b2:=zHT he m;have p1:P n<=P (max n m):=zBT (by omega)
 have p2:P m<=P (max n m):=zBT (by omega)
 have b3:=jA (zGD d e n m) (max n m+1);have hP:P (max n m+1)=65536*P (max n m):=rfl;have hp:=yI (max n m)
 by_cases hc:jO d e n m (max n m+1)=0
 ·rw[hc] at h;omega
 ·have:jO d e n m (max n m+1)=1:=by omega
  rw[this] at h;omega
theorem zO1 (d e:Nat->Int) (m k:Nat):V (zAM d e m) k-jB d e m k*P k=V d k-V (dg e m) k:=by
 induction k with
 | zero=>simp[V,jB]
 | succ k ih =>
  simp only[V,P]
  have h1:zAM d e m k-65536*jB d e m (k+1)=d k-jB d e m k-dg e m k:=by
   simp only[zAM,jB];split<;>omega
  have h2:zAM d e m k*P k-65536*jB d e m (k+1)*P k=d k*P k-jB d e m k*P k-dg e m k*P k:=by
   rw[<- Int.sub_mul,h1,Int.sub_mul,Int.sub_mul]
  have h3:jB d e m (k+1)*(65536*P k)=65536*jB d e m (k+1)*P k:=by
   rw[<- Int.mul_assoc,Int.mul_comm (jB d e m (k+1)) 65536]
  omega
theorem zEB {d e:Nat->Int} (hd:Dgs d) (he:Dgs e) (m:Nat):Dgs (zAM d e m):=by
 intro j
 have:=hd j;have:=he j;have:=zET d e m j;simp only[zAM,dg];split<;>split<;>omega
theorem zJ3 {d e:Nat->Int} (hd:Dgs d) (he:Dgs e) (n m:Nat) (dM:m<=n) (h:V e m<=V d n):V (zAM d e m) n=V d n-V e m:=by
 have h1:=zO1 d e m n;rw[V_dg e m _ dM] at h1;have c0:=zET d e m n;have b3:=zHT (zEB hd he m) n
 by_cases hc:jB d e m n=0
 ·rw[hc] at h1;omega
 ·have:jB d e m n=1:=by omega
  rw[this] at h1;omega
def zN (x y:Int):Int:=if x<y then -1 else if y<x then 1 else 0
theorem cmpTo_V {d e:Nat->Int} (hd:Dgs d) (he:Dgs e) (n:Nat):zC0 d e n=zN (V d n) (V e n):=by
 induction n with
 | zero=>simp[zC0,zN,V]
 | succ n ih =>
  simp only[zC0,V];have a1:=zHT hd n;have a2:=zHT he n;have a3:=jA hd n;have a4:=jA he n;have hp:=yI n
  by_cases h1:d n<e n
  ·have:d n*P n+P n<=e n*P n:=by
    have:=YW (show d n+1<=e n by omega) (show 0<=P n by omega)
    rw[Int.add_mul] at this;omega
   simp only[h1,if_true,zN];rw[if_pos (by omega)]
  ·by_cases h2:e n<d n
   ·have:e n*P n+P n<=d n*P n:=by
     have:=YW (show e n+1<=d n by omega) (show 0<=P n by omega)
     rw[Int.add_mul] at this;omega
    simp only[h1,h2,if_true,if_false,zN];rw[if_neg (by omega),if_pos (by omega)]
   ·have:d n=e n:=by omega
    simp only[h1,h2,if_false,ih,this];generalize e n*P n=t;unfold zN
    repeat' split
    all_goals omega
theorem V_ge {d:Nat->Int} (hd:Dgs d) (n:Nat) (h:d n≠0):P n<=V d (n+1):=by
 simp only[V];have:=jA hd n;have:=hd n;have hp:=yI n;have:=YW (show 1<=d n by omega) (show 0<=P n by omega)
 omega
theorem zG8 {d e:Nat->Int} (hd:Dgs d) (he:Dgs e) (n m:Nat) (h1:n=0\/d (n-1)≠0) (h2:m=0\/e (m-1)≠0):zFZ d e n m=zN (V d n) (V e m):=by
 unfold zFZ
 by_cases E2:n<m
 ·have:=zHT hd n
  have hm:e (m-1)≠0:=by omega
  have:=V_ge he (m-1) hm;have e1:m-1+1=m:=by omega
  rw[e1] at this;have:=zBT (show n<=m-1 by omega)
  simp only[E2,if_true,zN];rw[if_pos (by omega)]
 ·by_cases zd:m<n
  ·have:=zHT he m
   have hm:d (n-1)≠0:=by omega
   have:=V_ge hd (n-1) hm;have e1:n-1+1=n:=by omega
   rw[e1] at this;have:=zBT (show m<=n-1 by omega)
   simp only[E2,zd,if_true,if_false,zN];rw[if_neg (by omega),if_pos (by omega)]
  ·have:n=m:=by omega
   subst this;simp only[E2,if_false];exact cmpTo_V hd he n
theorem zI4 {d e:Nat->Int} (hd:Dgs d) (he:Dgs e) (neg j6:Bool) (n m:Nat) (h1:n=0\/d (n-1)≠0) (h2:m=0\/e (m-1)≠0) (h3:n=0->neg=false) (h4:m=0->j6=false) :
  cmpI neg j6 d e n m=zN (sgn neg (V d n)) (sgn j6 (V e m)):=by
 have c:=zG8 hd he n m h1 h2;have a3:=jA hd n;have a4:=jA he m
 have zBN:neg=true->1<=V d n:=λ hn=>by
  have cJ:n≠0:=λ h0=>by rw[h3 h0] at hn;cases hn
  have:=V_ge hd (n-1) (by omega)
  have e1:n-1+1=n:=by omega
  rw[e1] at this;have:=yI (n-1);omega
 have pos2:j6=true->1<=V e m:=λ hn=>by
  have cJ:m≠0:=λ h0=>by rw[h4 h0] at hn;cases hn
  have:=V_ge he (m-1) (by omega)
  have e1:m-1+1=m:=by omega
  rw[e1] at this;have:=yI (m-1);omega
 generalize V d n=x at *;generalize V e m=y at *;clear h1 h2 h3 h4
 cases neg<;>cases j6<;>simp[cmpI,sgn,c] at*<;> unfold zN<;>repeat' split
 all_goals omega
attribute [local go_sem ↓] Go.wp_at_zero Go.wp_at_succ
theorem zDD {w:World} {b t N:Nat} {f:Nat->Int} (h:w.rowIs b t N (λ j=>.int .u16 (f j))) (hd:Dgs f) (hN:N<=70368744177664):Dig w (some ⟨b,0,none⟩) N N f :=
 ⟨λ _=>⟨b,0,rfl,h.lt,λ j hj=>by simpa using h.cell hj⟩,hd,Zb _,hN⟩
theorem ofInt {w:World} {a:Option Addr} {N cap:Nat} {f:Nat->Int} (neg:Bool) (h:Dig w a N cap f):IntAt w (neg && decide (0<kB f N)) a (kB f N) cap N (sgn neg (V f N)):=by
 have hl:=zBC f N;have hV:=zDE f N;refine⟨f,h.take hl,zCD f N,λ h0=>by simp[h0],hl,?_⟩
 by_cases h0:kB f N=0
 ·rw[h0] at hV ⊢;rw[<- hV];cases neg<;>simp[sgn,V]
 ·have:decide (0<kB f N)=true:=by simp;omega
  rw[this,hV];cases neg<;>rfl
theorem plus_dig (a c:Option Addr) (n m cap m8:Nat) (d e:Nat->Int) (w:World) (ha:Dig w a n cap d) (hc:Dig w c m m8 e) (hn:n<=1000000000) (hm:m<=1000000000) :
  Calls Tryz.prog 71 #[.slice a n cap,.slice c m m8] w λ r w'=>∃ a' N,Hid (N=max n m+1)/\r=.returned (.slice a' N N)/\Dig w' a' N N (zB4 d e n m)/\Below w.heap.size w w' :=
 (zNY a c n m cap m8 d e w ha hc hn hm).mono λ _ _ ⟨N,h1,h2,h3,h4⟩=>⟨_,N,h1,h2,zDD h3 (zGD _ _ _ _) (by omega),h4⟩
theorem zIE (a c:Option Addr) (n m cap m8:Nat) (d e:Nat->Int) (w:World) (ha:Dig w a n cap d) (hc:Dig w c m m8 e) (hn:n<=1000000000) (hm:m<=1000000000) :
  Calls Tryz.prog 72 #[.slice a n cap,.slice c m m8] w λ r w'=>∃ a',r=.returned (.slice a' n n)/\Dig w' a' n n (zAM d e m)/\Below w.heap.size w w' :=
 (zNI a c n m cap m8 d e w ha hc hn hm).mono λ _ _ ⟨h2,h3,h4⟩=>⟨_,h2,zDD h3 (zEB ha.dgs hc.dgs _) (by omega),h4⟩
theorem zBM (neg:Bool) (a:Option Addr) (n cap:Nat) (d:Nat->Int) (w:World) (h:Dig w a n cap d) :
  Calls Tryz.prog 70 #[.bool neg,.slice a n cap] w λ e w'=>∃ j9 a' n' m7,e=.returned (.agg #[.bool j9,.slice a' n' m7])/\IntAt w' j9 a' n' m7 n (sgn neg (V d n))/\Below w.heap.size w w' :=
 (zSV neg a n cap d w h).mono λ _ _ ⟨h1,h2⟩=>⟨_,_,_,_,h1,(ofInt neg h).bw h2,h2⟩
theorem jY (neg j6:Bool) (a a2:Option Addr) (n n2 cap m8 k k2:Nat) (x y:Int) (w:World) (h1:IntAt w neg a n cap k x) (h2:IntAt w j6 a2 n2 m8 k2 y) :
  Calls Tryz.prog 17 #[.agg #[.bool neg,.slice a n cap],.agg #[.bool j6,.slice a2 n2 m8]] w λ r w'=>r=.returned (.int .i64 (zN x y))/\Below w.heap.size w w':=by
 obtain⟨d,g1,g2,g3,g4,rfl⟩:=h1;obtain⟨d2,f1,f2,f3,f4,rfl⟩:=h2;rw[<- zI4 g1.dgs f1.dgs neg j6 n n2 g2 f2 g3 f3];exact cmp_any neg j6 a a2 n n2 cap m8 d d2 w g1 f1
theorem add_any (neg j6:Bool) (a c:Option Addr) (n m cap m8:Nat) (d e:Nat->Int) (w:World) (ha:Dig w a n cap d) (hc:Dig w c m m8 e) (hn:n<=1000000000) (hm:m<=1000000000)
  (h1:n=0\/d (n-1)≠0) (h2:m=0\/e (m-1)≠0) :
  Calls Tryz.prog 32 #[.agg #[.bool neg,.slice a n cap],.agg #[.bool j6,.slice c m m8]] w λ r w' =>
   ∃ j9 a' n' m7,r=.returned (.agg #[.bool j9,.slice a' n' m7])/\IntAt w' j9 a' n' m7 (max n m+1) (sgn neg (V d n)+sgn j6 (V e m))/\Below w.heap.size w w':=by
 by_cases hs:neg=j6
 ·subst hs
  have hs:(neg == neg)=true:=by simp
  have iA:w.heap.size≠w.heap.size+1+1:=by omega
  have iB:w.heap.size+1+1≠w.heap.size:=by omega
  go_enter Tryz.func32,Tryz.ntmps32
  go_wp2
  go_region_held3 (λ w'=>w'.cell? ⟨w.heap.size,0,none⟩=some (.bool neg)/\w'.cell? ⟨w.heap.size,1,none⟩=some (.slice a n cap)/\w'.cell? ⟨w.heap.size+1,1,none⟩=some (.slice c m m8)) (go_keep)
   (first
    | (go_at_call 71;refine (plus_dig _ _ _ _ _ _ d e _ (ha.bw (bl3 _ _ _ _).drew) (hc.bw (bl3 _ _ _ _).drew) hn hm).mono ?_;rintro r w1 ⟨a',N,HN,rfl,M9,hb⟩;obtain⟨K3,hcell,bI⟩:=zZ (w.heap.size+3) (by simp) hb)
    | (go_at_call 70;refine (zBM _ _ _ _ (zB4 d e n m) _ M9).mono ?_;rintro r w2 ⟨j9,a2,n2,c2,rfl,hint,j7⟩;obtain⟨A9,B7,E7⟩:=zZ (w.heap.size+3) K3 j7))
  go_wp2;refine bodyPost_ret (v:=.agg #[.bool j9,.slice a2 n2 c2]) (by simp[results,Tryz.results32,go_sem,B7,hcell]) rfl ⟨j9,a2,n2,c2,rfl,?_,?_⟩
  ·have hV:=plus_V ha.dgs hc.dgs n m
   have h0:w2.cell? ⟨w.heap.size+1+1,0,none⟩=some (.bool false):=by simp[B7,hcell,go_sem]
   have G6:w2.cell? ⟨w.heap.size+1+1,1,none⟩=some (.slice none 0 0):=by simp[B7,hcell,go_sem]
   rw[zA HN,hV] at hint;have e1:sgn neg (V d n+V e m)=sgn neg (V d n)+sgn neg (V e m):=by cases neg<;>simp[sgn];omega
   rw[e1] at hint;exact hint.put2 h0 G6 _ _
  ·exact ((zB (zB (bl3 _ _ _ _).drew hb) j7).setCell (by simp;omega) _).setCell (by simp;omega) _
 ·have ak:(neg == j6)=false:=by simpa using hs
  have iA:w.heap.size≠w.heap.size+1+1:=by omega
  have iB:w.heap.size+1+1≠w.heap.size:=by omega
  have hcv:=zG8 ha.dgs hc.dgs n m h1 h2
  by_cases O1:0<=zFZ d e n m
  ·have hle:V e m<=V d n:=by
    rw[hcv] at O1;unfold zN at O1;split at O1<;>omega
   have iO:m<=n:=by
    unfold zFZ at O1;split at O1<;>omega
   have Hv:=zC (show sgn neg (V (zAM d e m) n)=sgn neg (V d n)+sgn j6 (V e m) by
    rw[zJ3 ha.dgs hc.dgs n m iO hle];cases neg<;>cases j6<;>simp[sgn] at*<;> omega)
   clear hcv
   go_enter Tryz.func32,Tryz.ntmps32
   go_wp2_with (go_at_call 53;refine (kJ _ _ _ _ _ _ d e _ (ha.bw (bl3 _ _ _ _)) (hc.bw (bl3 _ _ _ _))).mono ?_;rintro r w0 ⟨rfl,E8⟩;obtain⟨Y9,bc,hZ⟩:=zZ (w.heap.size+3) (by simp) E8)
   go_region_held3 (λ w'=>w'.cell? ⟨w.heap.size,0,none⟩=some (.bool neg)/\w'.cell? ⟨w.heap.size,1,none⟩=some (.slice a n cap)/\w'.cell? ⟨w.heap.size+1,1,none⟩=some (.slice c m m8)) (go_keep)
    (first
     | (go_at_call 72;refine (zIE _ _ _ _ _ _ d e _ (ha.bw (zB (bl3 _ _ _ _) E8).drew) (hc.bw (zB (bl3 _ _ _ _) E8).drew) hn hm).mono ?_;rintro r w1 ⟨a',rfl,M9,hb⟩;obtain⟨K3,hcell,bI⟩:=zZ (w.heap.size+3) (by exact Y9) hb)
     | (go_at_call 70;refine (zBM _ _ _ _ (zAM d e m) _ M9).mono ?_;rintro r w2 ⟨j9,a2,n2,c2,rfl,hint,j7⟩;obtain⟨A9,B7,E7⟩:=zZ (w.heap.size+3) K3 j7))
   go_wp2;refine bodyPost_ret (v:=.agg #[.bool j9,.slice a2 n2 c2]) (by simp[results,Tryz.results32,go_sem,B7,hcell,bc]) rfl ⟨j9,a2,n2,c2,rfl,?_,?_⟩
   ·have h0:w2.cell? ⟨w.heap.size+1+1,0,none⟩=some (.bool false):=by simp[B7,hcell,bc,go_sem]
    have G6:w2.cell? ⟨w.heap.size+1+1,1,none⟩=some (.slice none 0 0):=by simp[B7,hcell,bc,go_sem]
    rw[zA Hv] at hint;exact (hint.put2 h0 G6 _ _).mono (by omega)
   ·exact ((zB (zB (zB (bl3 _ _ _ _) E8).drew hb) j7).setCell (by simp;omega) _).setCell (by simp;omega) _
  ·have hle:V d n<=V e m:=by
    rw[hcv] at O1;unfold zN at O1;split at O1<;>omega
   have iO:n<=m:=by
    unfold zFZ at O1;split at O1<;>(try split at O1)<;>omega
   have Hv:=zC (show sgn j6 (V (zAM e d n) m)=sgn neg (V d n)+sgn j6 (V e m) by
    rw[zJ3 hc.dgs ha.dgs m n iO hle];cases neg<;>cases j6<;>simp[sgn] at*<;> omega)
   clear hcv
   go_enter Tryz.func32,Tryz.ntmps32
   go_wp2_with (go_at_call 53;refine (kJ _ _ _ _ _ _ d e _ (ha.bw (bl3 _ _ _ _)) (hc.bw (bl3 _ _ _ _))).mono ?_;rintro r w0 ⟨rfl,E8⟩;obtain⟨Y9,bc,hZ⟩:=zZ (w.heap.size+3) (by simp) E8)
   go_region_held3 (λ w'=>w'.cell? ⟨w.heap.size+1,0,none⟩=some (.bool j6)/\w'.cell? ⟨w.heap.size+1,1,none⟩=some (.slice c m m8)/\w'.cell? ⟨w.heap.size,1,none⟩=some (.slice a n cap)) (go_keep)
    (first
     | (go_at_call 72;refine (zIE _ _ _ _ _ _ e d _ (hc.bw (zB (bl3 _ _ _ _) E8).drew) (ha.bw (zB (bl3 _ _ _ _) E8).drew) hm hn).mono ?_;rintro r w1 ⟨a',rfl,M9,hb⟩;obtain⟨K3,hcell,bI⟩:=zZ (w.heap.size+3) (by exact Y9) hb)
     | (go_at_call 70;refine (zBM _ _ _ _ (zAM e d n) _ M9).mono ?_;rintro r w2 ⟨j9,a2,n2,c2,rfl,hint,j7⟩;obtain⟨A9,B7,E7⟩:=zZ (w.heap.size+3) K3 j7))
   go_wp2;refine bodyPost_ret (v:=.agg #[.bool j9,.slice a2 n2 c2]) (by simp[results,Tryz.results32,go_sem,B7,hcell,bc]) rfl ⟨j9,a2,n2,c2,rfl,?_,?_⟩
   ·have h0:w2.cell? ⟨w.heap.size+1+1,0,none⟩=some (.bool false):=by simp[B7,hcell,bc,go_sem]
    have G6:w2.cell? ⟨w.heap.size+1+1,1,none⟩=some (.slice none 0 0):=by simp[B7,hcell,bc,go_sem]
    rw[zA Hv] at hint;exact (hint.put2 h0 G6 _ _).mono (by omega)
   ·exact ((zB (zB (zB (bl3 _ _ _ _) E8).drew hb) j7).setCell (by simp;omega) _).setCell (by simp;omega) _
theorem zCI (b off j:Nat):(⟨b,off,none⟩:Addr).add j=⟨b,off+j,none⟩:=by unfold Addr.add;split<;>simp_all
def kC (d:Nat->Int) (n:Nat):List Value:=(List.range n).map λ j=>.int .u16 (d j)
theorem jX (d:Nat->Int) (n:Nat):(kC d n).length=n:=by simp[kC]
theorem zA1 (d:Nat->Int) (n j:Nat) (hj:j<n):(kC d n)[j]?=some (.int .u16 (d j)):=by simp[kC,hj]
theorem zCJ {d:Nat->Int} {n j:Nat} {u:Value} (h:(kC d n)[j]?=some u):j<n/\u=.int .u16 (d j):=by
 by_cases hj:j<n
 ·rw[zA1 d n j hj] at h;exact⟨hj,(Option.some.inj h).symm⟩
 ·rw[List.getElem?_eq_none (by rw[jX];omega)] at h;cases h
theorem zDG (d:Nat->Int) (n:Nat):∀ u ∈ kC d n,u.oneCell'=true:=by
 intro u hu
 obtain⟨j,_,rfl⟩:=List.mem_map.1 hu
 rfl
theorem zGJ {Pr:Program} (w:World) (t ty e:TypeId) (i:TypeInfo) (z:Value) (ht:Pr.underlying t=some (.slice e)) (hi:Pr.info? e=some i) (hz:i.zero=some z) (h4:i.size=1) (hb:i.bytes=2)
  (b:Nat) (ad:Option Addr) (n cap:Nat) (d:Nat->Int) (hD:Dig w ad n cap d) (hn:n<=1000000000) :
  ∃ a' m7 w',(Builtin.append_ #[t,t] ty #[.slice (some ⟨b,0,none⟩) 0 0,.slice ad n cap]).run Pr w=.ok (.slice a' n m7) w'/\Dig w' a' n m7 d/\Below w.heap.size w w':=by
 by_cases h0:n=0
 ·subst h0
  have hs:Src Pr i.size t (.slice ad 0 cap) 0 [] w:=by
   cases ad with
   | none=>exact Src.ofNil w ht cap
   | some ad=>exact Src.ofSlice w ht ad 0 cap [] (by simp) (by simp) (by simp)
  have hr:=run_append_room_src (P:=Pr) w t t ty e i ht hi b 0 0 0 (.slice ad 0 cap) 0 [] hs (by omega) (by simp) (by simp)
  exact⟨_,_,_,hr,⟨λ h=>by omega,hD.dgs,Zb _,by omega⟩,by simp[World.setCells];exact Below.refl _ _⟩
 ·obtain⟨b1,off,rfl,b9,hc⟩:=hD.at_ (by omega)
  have hs:Src Pr i.size t (.slice (some ⟨b1,off,none⟩) n cap) n (kC d n) w :=
   Src.ofSlice w ht ⟨b1,off,none⟩ n cap (kC d n) (by rw[jX,h4];omega) (λ j u hu=>by
    obtain⟨hj,rfl⟩:=zCJ hu
    rw[zCI];exact hc j hj) (zDG d n)
  have hr:=run_append_grow_src (P:=Pr) w t t ty e i z ht hi hz (some ⟨b,0,none⟩) 0 0 [] (run_firstCells_some w.drew i.size 0 ⟨b,0,none⟩ 0 0 [] (by simp) (by simp)) (.slice (some ⟨b1,off,none⟩) n cap) n (kC d n) hs (by omega) (by omega)
   (by rw[hb];unfold Builtin.nextslicecap;rw[if_pos (by omega)];omega)
  simp only[Nat.zero_add,List.nil_append] at hr;refine⟨_,_,_,hr,⟨λ _=>⟨w.heap.size,0,rfl,?_,λ j hj=>?_⟩,hD.dgs,grownCap_ge w n 0 e,by omega⟩,(Below.refl _ _).drew.alloc (Zb _) _⟩
  ·show w.heap.size<(w.drew.alloc _).heap.size
   simp
  ·rw[World.cell?_alloc_at _ _ _ _ (show w.heap.size=w.drew.heap.size from rfl)]
   rw[Nat.zero_add,Array.getElem?_append_left (by simp[jX];exact hj)]
   simpa using zA1 d n j hj
theorem zFF {Pr:Program} {ops:Array Oper} {o:Oper} {a:Act} {w:World} {K:Act->World->Prop} {Q:Exit->Act->World->Prop} {E:Prop}
  (hg:o.guard=none) (s x:Operand) (t:TypeId) (mD:o.op=Op.call { callee:=Callee.builtin Builtin.append,args:=#[s,x],argTypes:=#[t,t] })
  (e:TypeId) (ht:Pr.underlying t=some (.slice e)) (hinfo:(Pr.info? e).map (λ i=>(i.zero,i.size,i.bytes))=some (some (.int .u16 0),1,2))
  (b:Nat) (hs:a.eval s=.slice (some ⟨b,0,none⟩) 0 0) (ad:Option Addr) (n cap:Nat) (d:Nat->Int) (hx:a.eval x=.slice ad n cap) (hD:Dig w ad n cap d) (hn:n<=1000000000)
  (hK:∀ a' m7 w',Dig w' a' n m7 d->Below w.heap.size w w'->K (a.put o.dst (.slice a' n m7)) w') :
  if Region.wanted o (yielded ops a.tmps)=true then Oper.wp Pr o a w K Q else E:=by
 have hw:Region.wanted o (yielded ops a.tmps)=true:=by simp[Region.wanted,hg]
 rw[if_pos hw];obtain⟨i,hi,qZ⟩:=Option.map_eq_some_iff.1 hinfo;simp only[Prod.mk.injEq] at qZ;obtain⟨hz,K3,Cd⟩:=qZ;obtain⟨a',m7,w',fQ,h1,h2⟩:=zGJ (Pr:=Pr) w t o.type e i _ ht hi hz K3 Cd b ad n cap d hD hn;unfold Oper.wp;simp[execOp,mD,resolve,invoke,builtin,hs,hx,fQ,Result.andThen];exact hK a' m7 w' h1 h2
theorem zA5 (neg j6:Bool) (a c:Option Addr) (n m cap m8 k k2:Nat) (x y:Int) (w:World) (h1:IntAt w neg a n cap k x) (h2:IntAt w j6 c m m8 k2 y) (hk:k<=1000000000) (cH:k2<=1000000000) :
  Calls Tryz.prog 32 #[.agg #[.bool neg,.slice a n cap],.agg #[.bool j6,.slice c m m8]] w λ r w' =>
   ∃ j9 a' n' m7,r=.returned (.agg #[.bool j9,.slice a' n' m7])/\IntAt w' j9 a' n' m7 (max k k2+1) (x+y)/\Below w.heap.size w w':=by
 obtain⟨d,g1,g2,g3,g4,rfl⟩:=h1;obtain⟨e,f1,f2,f3,f4,rfl⟩:=h2;exact (add_any neg j6 a c n m cap m8 d e w g1 f1 (by omega) (by omega) g2 f2).mono λ _ _ ⟨n1,n2,n3,n4,q1,q2,q3⟩=>⟨n1,n2,n3,n4,q1,q2.mono (by omega),q3⟩
theorem zCR (neg j6:Bool) (a c:Option Addr) (n m cap m8 k k2:Nat) (x y:Int) (w:World) (h1:IntAt w neg a n cap k x) (h2:IntAt w j6 c m m8 k2 y) (hk:k<=1000000000) (cH:k2<=1000000000) :
  Calls Tryz.prog 35 #[.agg #[.bool neg,.slice a n cap],.agg #[.bool j6,.slice c m m8]] w λ r w' =>
   ∃ j9 a' n' m7,r=.returned (.agg #[.bool j9,.slice a' n' m7])/\IntAt w' j9 a' n' m7 (max k k2+1) (x-y)/\Below w.heap.size w w':=by
 have H1:=zC h1;obtain⟨e,f1,f2,f3,f4,fy⟩:=h2;have Hy:=zC (show sgn (!j6) (V e m) = -y by rw[fy];cases j6<;>simp[sgn])
 have Hx:=zC (show x + -y=x-y by omega)
 clear h1 fy;have iA:w.heap.size≠w.heap.size+1+1:=by omega
 have iB:w.heap.size+1+1≠w.heap.size:=by omega
 go_enter Tryz.func35,Tryz.ntmps35
 go_wp2
 go_region_held3 (λ w'=>w'.cell? ⟨w.heap.size,0,none⟩=some (.bool neg)/\w'.cell? ⟨w.heap.size,1,none⟩=some (.slice a n cap)/\w'.cell? ⟨w.heap.size+1,0,none⟩=some (.bool j6)/\w'.cell? ⟨w.heap.size+1,1,none⟩=some (.slice c m m8)) (go_keep)
  (first
   | (go_at_call 70;refine (zBM _ _ _ _ e _ (f1.bw (bl3 _ _ _ _).drew)).mono ?_;rintro r w1 ⟨m9,a1,n1,c1,rfl,o8,hb⟩;obtain⟨K3,hcell,bI⟩:=zZ (w.heap.size+3) (by simp) hb)
   | (go_at_call 32;refine (zA5 _ _ _ _ _ _ _ _ k m x _ _ ((zA H1).bw (zB (bl3 _ _ _ _).drew hb)) o8 hk (by omega)).mono ?_;rintro r w2 ⟨j9,a2,n2,c2,rfl,hint,j7⟩;obtain⟨A9,B7,E7⟩:=zZ (w.heap.size+3) K3 j7))
 go_wp2;refine bodyPost_ret (v:=.agg #[.bool j9,.slice a2 n2 c2]) (by simp[results,Tryz.results35,go_sem,B7,hcell]) rfl ⟨j9,a2,n2,c2,rfl,?_,?_⟩
 ·have h0:w2.cell? ⟨w.heap.size+1+1,0,none⟩=some (.bool false):=by simp[B7,hcell,go_sem]
  have G6:w2.cell? ⟨w.heap.size+1+1,1,none⟩=some (.slice none 0 0):=by simp[B7,hcell,go_sem]
  rw[zA Hy,zA Hx] at hint;exact (hint.put2 h0 G6 _ _).mono (by omega)
 ·exact ((zB (zB (bl3 _ _ _ _).drew hb) j7).setCell (by simp;omega) _).setCell (by simp;omega) _
theorem zAQ (neg:Bool) (a:Option Addr) (n cap k:Nat) (x:Int) (w:World) (h1:IntAt w neg a n cap k x) (hk:k<=1000000000) :
  Calls Tryz.prog 87 #[.agg #[.bool neg,.slice a n cap]] w λ r w' =>
   ∃ j9 a' n' m7,r=.returned (.agg #[.bool j9,.slice a' n' m7])/\IntAt w' j9 a' n' m7 k (-x)/\Below w.heap.size w w':=by
 obtain⟨d,f1,f2,f3,f4,fy⟩:=h1;have Hy:=zC (show sgn (!neg) (V d n) = -x by rw[fy];cases neg<;>simp[sgn])
 clear fy
 go_enter Tryz.func87,Tryz.ntmps87
 go_wp2
 go_region_held3 (λ w'=>w'.cell? ⟨w.heap.size,0,none⟩=some (.bool neg)/\w'.cell? ⟨w.heap.size,1,none⟩=some (.slice a n cap)) (go_keep)
  (first
   | (refine zFF (by rfl) _ _ 27 (by rfl) 94 Tryz.underlying27 Tryz.infoU16 _ (by rfl) _ _ _ d (by rfl) (f1.bw (bl3 _ _ _ _).drew) (by omega) ?_;intro a1 c1 w1 M9 hb;obtain⟨K3,hcell,bI⟩:=zZ (w.heap.size+2) (by simp) hb)
   | (go_at_call 70;refine (zBM _ _ _ _ d _ M9).mono ?_;rintro r w2 ⟨j9,a2,n2,c2,rfl,hint,j7⟩;obtain⟨A9,B7,E7⟩:=zZ (w.heap.size+2) K3 j7))
 go_wp2;refine bodyPost_ret (v:=.agg #[.bool j9,.slice a2 n2 c2]) (by simp[results,Tryz.results87,go_sem,B7,hcell]) rfl ⟨j9,a2,n2,c2,rfl,?_,?_⟩
 ·have h0:w2.cell? ⟨w.heap.size+1,0,none⟩=some (.bool false):=by simp[B7,hcell,go_sem]
  have G6:w2.cell? ⟨w.heap.size+1,1,none⟩=some (.slice none 0 0):=by simp[B7,hcell,go_sem]
  rw[zA Hy] at hint;exact (hint.put2 h0 G6 _ _).mono (by omega)
 ·exact ((zB (zB (bl3 _ _ _ _).drew hb) j7).setCell (by simp) _).setCell (by simp) _
def upd (o:Nat->Int) (p:Nat) (v:Int) (j:Nat):Int:=if j=p then v else o j
theorem jP {o:Nat->Int} (h:Dgs o) (p:Nat) {v:Int} (h0:0<=v) (h1:v<65536):Dgs (upd o p v):=by
 intro j;unfold upd;split
 ·exact⟨h0,h1⟩
 ·exact h j
theorem zK3 (o:Nat->Int) (p:Nat) (v:Int) (N:Nat) (hp:p<N):V (upd o p v) N=V o N+(v-o p)*P p:=by
 induction N with
 | zero=>omega
 | succ N ih =>
  simp only[V]
  by_cases hN:p=N
  ·subst hN
   have:V (upd o p v) p=V o p:=zCH p (λ j hj=>by simp[upd];omega)
   rw[this];simp only[upd,if_true,Int.sub_mul];omega
  ·rw[ih (by omega)]
   have:upd o p v N=o N:=by simp[upd];omega
   rw[this];omega
theorem zB6 {wr:World} {b t N:Nat} {o:Nat->Int} (h:wr.rowIs b t N (λ j=>.int .u16 (o j))) (p:Nat) {v u:Int} (hv:u=v) :
  (wr.setCell ⟨b,p,none⟩ (.int .u16 u)).rowIs b t N (λ j=>.int .u16 (upd o p v j)):=by
 refine (h.set p (.int .u16 u)).congr λ j _=>?_
 subst hv;unfold upd;split<;>rfl
theorem zMQ (n:Nat):V (λ _=>0) n=0:=by
 induction n with
 | zero=>rfl
 | succ n ih=>simp[V,ih]
theorem mul_alg (x v y:Int) (i k:Nat):x*(v+y*P k)*P i=x*v*P i+x*y*P (i+k):=by
 rw[P_add,Int.mul_add,Int.add_mul,<- Int.mul_assoc x y (P k),Int.mul_assoc (x*y),Int.mul_comm (P k) (P i)]
theorem mul_step {o:Nat->Int} {N p:Nat} (hp:p<N) (c x y:Int) {T:Int} (h:V o N+c*P p=T):V (upd o p ((c+(x*y+o p)) % 65536)) N+((c+(x*y+o p))/65536)*P (p+1)=T+x*y*P p:=by
 rw[zK3 _ _ _ _ hp]
 have h1:((c+(x*y+o p)) % 65536-o p)*P p+(c+(x*y+o p))/65536*(65536*P p)=(c+x*y)*P p:=by
  rw[<- Int.mul_assoc,<- Int.add_mul];congr 1;omega
 have h2:(c+x*y)*P p=c*P p+x*y*P p:=Int.add_mul _ _ _;simp only[P];omega
theorem zJ7 {x y c z:Int} (hx:0<=x/\x<65536) (hy:0<=y/\y<65536) (hc:0<=c/\c<65536) (hz:0<=z/\z<65536) :
  0<=x*y/\x*y<=4294836225:=by
 refine⟨Zc hx.1 hy.1,?_⟩;have h1:x*y<=65535*y:=YW (by omega) hy.1
 omega
theorem mul_any (neg j6:Bool) (a c:Option Addr) (n m cap m8:Nat) (d e:Nat->Int) (w:World) (ha:Dig w a n cap d) (hc:Dig w c m m8 e) (hn:n<=1000000000) (hm:m<=1000000000) :
  Calls Tryz.prog 83 #[.agg #[.bool neg,.slice a n cap],.agg #[.bool j6,.slice c m m8]] w λ r w' =>
   ∃ j9 a' n' m7,r=.returned (.agg #[.bool j9,.slice a' n' m7])/\IntAt w' j9 a' n' m7 (n+m) (sgn (neg != j6) (V d n*V e m))/\Below w.heap.size w w':=by
 obtain⟨W,hW⟩:∃ W,W=((w.alloc (.cells #[.bool neg,.slice a n cap] 29)).alloc (.cells #[.bool j6,.slice c m m8] 29)).alloc (.cells #[.bool false,.slice none 0 0] 29):=⟨_,rfl⟩;have b3:Below w.heap.size w W:=by rw[hW];exact bl3 _ _ _ _
 have s3:W.heap.size=w.heap.size+1+1+1:=by rw[hW];simp
 have k0:W.cell? ⟨w.heap.size,0,none⟩=some (.bool neg):=by rw[hW];simp[go_sem]
 have k1:W.cell? ⟨w.heap.size+1,0,none⟩=some (.bool j6):=by rw[hW];simp[go_sem]
 have k2:W.cell? ⟨w.heap.size+1,1,none⟩=some (.slice c m m8):=by rw[hW];simp[go_sem]
 have k3:W.cell? ⟨w.heap.size+1+1,0,none⟩=some (.bool false):=by rw[hW];simp[go_sem]
 have k4:W.cell? ⟨w.heap.size+1+1,1,none⟩=some (.slice none 0 0):=by rw[hW];simp[go_sem]
 have k5:∀ o,W.frozen? ⟨w.heap.size+1+1,o,none⟩=false:=by intro o;rw[hW];simp[go_sem]
 have HW:=zC hW;clear hW;have aj:=run_make_row' (P:=Tryz.prog) 27 94 (.int .u16 0) 2 Tryz.underlying27 Tryz.infoU16 rfl .i64 .i64 (n+m) (by omega) (by omega)
 have dM:((n+m:Nat):Int)=(n:Int)+m:=by omega
 rw[dM] at aj;clear dM
 go_enter Tryz.func83,Tryz.ntmps83
 go_wp2;clear aj
 go_loopw [22] (λ ii wr=>∃ (i:Nat) (o:Nat->Int),i<=n/\ii=.int .i64 i/\wr.rowIs (w.heap.size+1+1+1) 94 (n+m) (λ j=>.int .u16 (o j))/\Dgs o/\V o (n+m)=V d i*V e m/\(∀ j,i+m<=j->o j=0)/\Below (w.heap.size+1+1+1) W wr) (λ ii _=>n-(intOf ii).toNat)
 case atStart =>
  refine⟨0,λ _=>0,Nat.zero_le _,rfl,?_,λ _=>⟨by simp,by simp⟩,?_,λ _ _=>rfl,?_⟩
  ·have:=World.rowIs_made W (.int .u16 0) (n+m) 94
   rw[s3,zA HW] at this;exact this
  ·rw[zMQ];simp[V]
  ·rw[zA HW];exact (Below.refl _ _).alloc (by simp) _
 case round =>
  obtain⟨i,o,hi,rfl,C8,J0,Z8,aY,A7⟩:=hrel
  by_cases I9:i<n
  ·obtain⟨b1,o1,rfl,b9,E4⟩:=ha.at_ (by omega)
   have g1:wr.cell? ⟨b1,o1+i,none⟩=some (.int .u16 (d i)):=(A7.cell (p:=⟨b1,o1+i,none⟩) (by show b1<_;omega)).trans ((b3.cell (p:=⟨b1,o1+i,none⟩) b9).trans (E4 i I9))
   have q2:wr.cell? ⟨w.heap.size+1,1,none⟩=some (.slice c m m8):=(A7.cell (p:=⟨w.heap.size+1,1,none⟩) (by simp)).trans k2
   have db:=ha.dgs i;have HV:=zC Z8;have HZ:=zC aY;have HR:=zC C8;have HD:=zC J0;clear E4 Z8 aY C8 J0;go_wp2
   go_loopw [8,30] (λ cy kk wq=>∃ (k:Nat) (o':Nat->Int) (cz:Int),k<=m/\kk=.int .i64 k/\cy=.int .u32 cz/\0<=cz/\cz<65536/\wq.rowIs (w.heap.size+1+1+1) 94 (n+m) (λ j=>.int .u16 (o' j))/\Dgs o'/\V o' (n+m)+cz*P (i+k)=V d i*V e m+d i*V e k*P i/\(∀ j,i+m<=j->o' j=0)/\Below (w.heap.size+1+1+1) W wq) (λ _ kk _=>m-(intOf kk).toNat)
   case atStart =>
    exact⟨0,o,0,Nat.zero_le _,rfl,rfl,by omega,by omega,zA HR,zA HD,by rw[zA HV];simp[V],zA HZ,A7⟩
   case round =>
    obtain⟨k,o',cz,hk,rfl,rfl,M5,H6,C8,J0,Z8,aY,A7⟩:=hrel
    by_cases aV:k<m
    ·obtain⟨b2,o2,rfl,j7,G3⟩:=hc.at_ (by omega)
     have g2:wr.cell? ⟨b2,o2+k,none⟩=some (.int .u16 (e k)):=(A7.cell (p:=⟨b2,o2+k,none⟩) (by show b2<_;omega)).trans ((b3.cell (p:=⟨b2,o2+k,none⟩) j7).trans (G3 k aV))
     have eb:=hc.dgs k;have r1:=C8.cell (show i+k<n+m by omega)
     have r2:=C8.frozen (i+k);have ob:=J0 (i+k);have pb:=zJ7 db eb ⟨M5,H6⟩ ob;clear G3;go_wp2
     go_roundw
     case rel =>
      refine⟨k+1,upd o' (i+k) ((cz+(d i*e k+o' (i+k))) % 65536),(cz+(d i*e k+o' (i+k)))/65536,by omega,by go_num,rfl,by omega,by omega,zB6 C8 (i+k) (yQ _),jP J0 _ (by omega) (by omega),?_,λ j hj=>?_,A7.setCell (by simp) _⟩
      ·have h1:=mul_step (show i+k<n+m by omega) cz (d i) (e k) Z8
       have h2:=mul_alg (d i) (V e k) (e k) i k;simp only[V];rw[<- Nat.add_assoc];omega
      ·have:j≠i+k:=by omega
       simp[upd,this];exact aY j hj
     case measure=>simp[intOf];omega
    ·have hkE:k=m:=by omega
     subst hkE;have r1:=C8.cell (show i+k<n+k by omega)
     have r2:=C8.frozen (i+k);have q2:wr.cell? ⟨w.heap.size+1,1,none⟩=some (.slice c k m8):=(A7.cell (p:=⟨w.heap.size+1,1,none⟩) (by simp)).trans k2
     have JC:=aY (i+k) (by omega)
     have mZ:=zC Z8;have TG:=zC aY;have HI:=zC JC;clear Z8 aY JC;go_wp2
     go_roundw
     case rel =>
      refine⟨i+1,upd o' (i+k) cz,by omega,by go_num,zB6 C8 (i+k) rfl,jP J0 _ M5 H6,?_,λ j hj=>?_,A7.setCell (by simp) _⟩
      ·rw[zK3 _ _ _ _ (by omega),zA HI,Int.sub_zero,zA mZ]
       simp only[V];rw[Int.add_mul,Int.mul_assoc (d i),Int.mul_comm (V e k) (P i),<- Int.mul_assoc]
      ·have:j≠i+k:=by omega
       simp[upd,this];exact zA TG j (by omega)
     case measure=>simp[intOf];omega
  ·have hiE:i=n:=by omega
   subst hiE;have q0:wr.cell? ⟨w.heap.size,0,none⟩=some (.bool neg):=(A7.cell (p:=⟨w.heap.size,0,none⟩) (by simp;omega)).trans k0
   have q1:wr.cell? ⟨w.heap.size+1,0,none⟩=some (.bool j6):=(A7.cell (p:=⟨w.heap.size+1,0,none⟩) (by simp)).trans k1
   have q3:wr.cell? ⟨w.heap.size+1+1,0,none⟩=some (.bool false):=(A7.cell (p:=⟨w.heap.size+1+1,0,none⟩) (by simp)).trans k3
   have q4:wr.cell? ⟨w.heap.size+1+1,1,none⟩=some (.slice none 0 0):=(A7.cell (p:=⟨w.heap.size+1+1,1,none⟩) (by simp)).trans k4
   have q5:∀ o,wr.frozen? ⟨w.heap.size+1+1,o,none⟩=false:=λ o=>(A7.frozen (p:=⟨w.heap.size+1+1,o,none⟩) (by simp)).trans (k5 o)
   have L5:=A7.size;rw[s3] at L5;have HR:=zC (zDD C8 J0 (by omega))
   have HV:=zC Z8;clear Z8 aY C8 J0;go_wp2_with (go_at_call 70;refine (zBM _ _ _ _ o _ (zA HR)).mono ?_;rintro r w2 ⟨j9,a2,n2,c2,rfl,hint,j7⟩;obtain⟨A9,B7,E7⟩:=zZ (w.heap.size+1+1+1) L5 j7);refine bodyPost_ret (v:=.agg #[.bool j9,.slice a2 n2 c2]) (by simp[results,Tryz.results83,go_sem,B7,q3,q4]) rfl ⟨j9,a2,n2,c2,rfl,?_,?_⟩
   ·have h0:w2.cell? ⟨w.heap.size+1+1,0,none⟩=some (.bool false):=by simp[B7,q3]
    have G6:w2.cell? ⟨w.heap.size+1+1,1,none⟩=some (.slice none 0 0):=by simp[B7,q4]
    rw[zA HV] at hint;exact hint.put2 h0 G6 _ _
   ·exact ((zB (b3.trans (A7.mono (by omega))) j7).setCell (by simp;omega) _).setCell (by simp;omega) _
theorem zX (neg j6:Bool) (a c:Option Addr) (n m cap m8 k k2:Nat) (x y:Int) (w:World) (h1:IntAt w neg a n cap k x) (h2:IntAt w j6 c m m8 k2 y) (hk:k<=1000000000) (cH:k2<=1000000000) :
  Calls Tryz.prog 83 #[.agg #[.bool neg,.slice a n cap],.agg #[.bool j6,.slice c m m8]] w λ r w' =>
   ∃ j9 a' n' m7,r=.returned (.agg #[.bool j9,.slice a' n' m7])/\IntAt w' j9 a' n' m7 (k+k2) (x*y)/\Below w.heap.size w w':=by
 obtain⟨d,g1,g2,g3,g4,rfl⟩:=h1;obtain⟨e,f1,f2,f3,f4,rfl⟩:=h2
 have hs:sgn (neg != j6) (V d n*V e m)=sgn neg (V d n)*sgn j6 (V e m):=by
  cases neg<;>cases j6<;>simp[sgn,Int.neg_mul,Int.mul_neg]
 rw[<- hs];exact (mul_any neg j6 a c n m cap m8 d e w g1 f1 (by omega) (by omega)).mono λ _ _ ⟨n1,n2,n3,n4,q1,q2,q3⟩=>⟨n1,n2,n3,n4,q1,q2.mono (by omega),q3⟩
def Own (w:World) (base:Nat) (e:TypeId) (a:Option Addr) (n cap:Nat) (d:Nat->Int):Prop:=w.ownsRow base e 1 (.slice a n cap) n (kC d n)
theorem zEU (d:Nat->Int) (n:Nat) (v:Int):kC (upd d n v) (n+1)=kC d n ++ [.int .u16 v]:=by
 unfold kC;rw[List.range_succ,List.map_append]
 congr 1
 ·apply List.map_congr_left
  intro j hj
  have:=List.mem_range.1 hj;have:j≠n:=by omega
  simp[upd,this]
 ·simp[upd]
theorem Own.dig {w:World} {base:Nat} {e:TypeId} {a:Option Addr} {n cap:Nat} {d:Nat->Int} (h:Own w base e a n cap d) (hd:Dgs d) (hn:n<=70368744177664):Dig w a n cap d:=by
 have h':w.ownsRow base e 1 (.slice a n cap) n (kC d n):=h;refine⟨λ h0=>?_,hd,?_,hn⟩
 ·obtain⟨g,c2,hv,h1,h2⟩:=World.ownsRow.form h' h0
  simp only[Value.slice.injEq] at hv;obtain⟨rfl,_,rfl⟩:=hv;refine⟨g,0,rfl,h2,λ j hj=>?_⟩
  have:=World.ownsRow.cellAt h' j (by omega)
  rw[Nat.zero_add,this,zA1 d n j hj]
 ·rcases h'.2 with⟨hv,h0⟩|⟨g,c2,cur,hv,_,_,hle,_⟩
  ·omega
  ·simp only[Value.slice.injEq] at hv
   omega
theorem Own.nil (w:World) (base:Nat) (e:TypeId) (d:Nat->Int):Own w base e none 0 0 d:=World.ownsRow_nil w base e 1
theorem Own.alloc {w:World} {base:Nat} {e:TypeId} {a:Option Addr} {n cap:Nat} {d:Nat->Int} (h:Own w base e a n cap d) (o:Obj):Own (w.alloc o) base e a n cap d:=World.ownsRow.alloc h o
theorem zQ {Pr:Program} (w:World) {ops:Array Oper} {rest:List Oper} {o:Oper} {act:Act} {Q:Exit->Act->World->Prop} (tZ:o.guard=none) (s x:Operand) (t:TypeId)
  (ho:o.op=.call { callee:=.builtin .append,args:=#[s,x],argTypes:=#[t,t] })
  (base:Nat) (e:TypeId) (ht:Pr.underlying t=some (.slice e)) (hinfo:(Pr.info? e).map (λ i=>(i.zero,i.size,i.bytes))=some (some (.int .u16 0),1,2))
  (a:Option Addr) (n cap:Nat) (d:Nat->Int) (hs:act.eval s=.slice a n cap) (G8:Own w base e a n cap d) (g c:Nat) (v:Int) (hx:act.eval x=.slice (some ⟨g,0,none⟩) 1 c)
  (hv:w.cell? ⟨g,0,none⟩=some (.int .u16 v)) (hn:n<=1000000000) (hbase:base<=w.heap.size)
  (h:∀ a' m7 w',Own w' base e a' (n+1) m7 (upd d n v)->Below base w w'->wpList Pr ops Q rest (act.put o.dst (.slice a' (n+1) m7)) w'):wpList Pr ops Q (o :: rest) act w:=by
 obtain⟨i,hi,M5,H6,ao⟩:=info_parts hinfo;have E2:∀ k,(Value.slice a n cap).ownBlock=some k->base<=k:=λ k hk=>(World.ownsRow.lt G8 k hk).1
 refine wpList_append_lies w tZ s x t ho base e i (.int .u16 0) 1 2 ht hi M5 H6 ao rfl (by decide) (.slice a n cap) n (kC d n) hs G8 ⟨g,0,none⟩ 1 c [.int .u16 v] hx rfl ?_ ?_ (by decide) ?_ ?_ hbase _ rfl ?_
 ·intro j u hj
  match j,hj with
  | 0,hj=>simp at hj;subst hj;rw[zCI];exact hv
 ·intro u hu;simp at hu;subst hu;rfl
 ·unfold maxLen;omega
 ·omega
 ·intro g' m7 w' Q0 hgrow _ _
  rw[<- zEU] at Q0;exact h _ _ _ Q0 ((Below.refl base w).grown hgrow hbase E2)
theorem P4:P 4=18446744073709551616:=rfl
theorem zSW (d:Nat->Int) (k:Nat) (u X:Int) (h:V d k+u*P k=X):V (upd d k (u % 65536)) (k+1)+u/65536*P (k+1)=X:=by
 simp only[V,P];have h1:V (upd d k (u % 65536)) k=V d k:=zCH k (λ j hj=>by simp[upd];omega)
 have h2:upd d k (u % 65536) k=u % 65536:=by simp[upd]
 rw[h1,h2]
 have h3:u % 65536*P k+u/65536*(65536*P k)=u*P k:=by
  rw[<- Int.mul_assoc,<- Int.add_mul];congr 1;omega
 omega
theorem zSU (x X:Int) (neg:Bool) (w:World) (h0 : -9223372036854775808<=x) (h1:x<=9223372036854775807) (K5:decide (x<0)=neg) (hX:X=if neg then -x else x) :
  Calls Tryz.prog 33 #[.int .i64 x] w λ r w' =>
   ∃ j9 a' n' m7,r=.returned (.agg #[.bool j9,.slice a' n' m7])/\IntAt w' j9 a' n' m7 4 x/\Below w.heap.size w w':=by
 cases neg
 ·have hx:¬ x<0:=by simpa using K5
  simp at hX;subst hX;have ID:0<=X:=by omega
  clear K5 h0
  go_enter Tryz.func33,Tryz.ntmps33
  go_wp2
  go_loopw [5,4] (λ l u wr=>∃ (k:Nat) (a:Option Addr) (cap:Nat) (d:Nat->Int) (uu:Int),l=.slice a k cap/\u=.int .u64 uu/\0<=uu/\uu<=X/\Own wr (w.heap.size+1) 94 a k cap d/\Dgs d/\V d k+uu*P k=X/\(k=0\/d (k-1)≠0\/uu≠0)/\k<=4/\Below (w.heap.size+1) (w.alloc (.cells #[.bool false,.slice none 0 0] 29)) wr) (λ _ u _=>(intOf u).toNat)
  case atStart=>exact⟨0,none,0,λ _=>0,X,rfl,rfl,ID,Int.le_refl _,Own.nil _ _ _ _,λ _=>⟨by simp,by simp⟩,by simp[V,P],Or.inl rfl,by omega,Below.refl _ _⟩
  case round =>
   obtain⟨k,a,cap,d,uu,rfl,rfl,CI,YO,G8,hd,hV,dx,Jn,A7⟩:=hrel;have K3:=A7.size;simp at K3
   by_cases hz:uu=0
   ·subst hz
    have q0:wr.cell? ⟨w.heap.size,0,none⟩=some (.bool false):=(A7.cell (p:=⟨w.heap.size,0,none⟩) (by simp)).trans (by simp[go_sem])
    have q1:wr.cell? ⟨w.heap.size,1,none⟩=some (.slice none 0 0):=(A7.cell (p:=⟨w.heap.size,1,none⟩) (by simp)).trans (by simp[go_sem])
    have q5:∀ o,wr.frozen? ⟨w.heap.size,o,none⟩=false:=λ o=>(A7.frozen (p:=⟨w.heap.size,o,none⟩) (by simp)).trans (by simp[go_sem])
    have HD:=zC (G8.dig hd (by omega))
    have HV:=zC hV;have HT:=zC dx;clear hV dx G8 hd;go_wp2;refine bodyPost_ret (v:=.agg #[.bool false,.slice a k cap]) (by simp[results,Tryz.results33,go_sem,q0,q1]) rfl ⟨false,a,k,cap,rfl,?_,?_⟩
    ·refine IntAt.put2 ?_ q0 q1 _ _
     have hV:=zA HV;simp at hV;refine⟨d,zA HD,?_,λ bA=>?_,Jn,by rw[hV];simp[sgn]⟩
     ·have:=zA HT;omega
     ·subst bA;simp[V] at hV;first|rfl|(exfalso;omega)
    ·exact (((bl1 _ _).trans (A7.mono (by omega))).setCell (by simp) _).setCell (by simp) _
   ·have C7:0<uu:=by omega
    have Jm:k<4:=by
     have vk:P k<P 4\/4<=k:=by
      by_cases hh:4<=k
      ·exact Or.inr hh
      ·left;have:P (k+1)<=P 4:=zBT (by omega)
       have:=yI k;simp only[P] at *;omega
     rcases vk with hh|hh
     ·by_cases h4:k=4
      ·subst h4;omega
      ·omega
     ·have h5:P 4<=P k:=zBT hh
      have h6:1*P k<=uu*P k:=YW (by omega) (by have:=yI k;omega)
      have h7:=jA hd k;rw[P4] at h5;omega
    have H1:=zC (zSW d k uu X hV);have H2:=zC (jP hd k (v:=uu % 65536) (by omega) (by omega))
    clear hV dx;go_wp2_with (at_builtin;refine zQ _ rfl _ _ 27 rfl (w.heap.size+1) 94 Tryz.underlying27 Tryz.infoU16 a k cap d rfl (G8.alloc _) wr.heap.size 1 (uu % 65536) rfl (by simp[go_sem,yQ]) (by omega) (by simp;omega) ?_;intro a' m7 w1 E5 b9)
    go_roundw
    case rel =>
     refine⟨k+1,a',m7,upd d k (uu % 65536),uu/65536,rfl,by go_num,by omega,by omega,E5,zA H2,zA H1,?_,by omega,?_⟩
     ·right;simp[upd];omega
     ·exact (A7.alloc (by omega) _).trans b9
    case measure=>simp[intOf];try omega
 ·have hx:x<0:=by simpa using K5
  simp at hX;have hw:IntKind.u64.wrap (-IntKind.u64.wrap x)=X:=by rw[IntKind.wrap_u64,IntKind.wrap_u64];omega
  have ID:0<=X:=by omega
  have hX1:X<=9223372036854775808:=by omega
  have HX:=zC hX;clear hX
  go_enter Tryz.func33,Tryz.ntmps33
  go_wp2;clear hw
  go_loopw [5,4] (λ l u wr=>∃ (k:Nat) (a:Option Addr) (cap:Nat) (d:Nat->Int) (uu:Int),l=.slice a k cap/\u=.int .u64 uu/\0<=uu/\uu<=X/\Own wr (w.heap.size+1) 94 a k cap d/\Dgs d/\V d k+uu*P k=X/\(k=0\/d (k-1)≠0\/uu≠0)/\k<=4/\Below (w.heap.size+1) (w.alloc (.cells #[.bool false,.slice none 0 0] 29)) wr) (λ _ u _=>(intOf u).toNat)
  case atStart=>exact⟨0,none,0,λ _=>0,X,rfl,rfl,ID,Int.le_refl _,Own.nil _ _ _ _,λ _=>⟨by simp,by simp⟩,by simp[V,P],Or.inl rfl,by omega,Below.refl _ _⟩
  case round =>
   obtain⟨k,a,cap,d,uu,rfl,rfl,CI,YO,G8,hd,hV,dx,Jn,A7⟩:=hrel;have K3:=A7.size;simp at K3
   by_cases hz:uu=0
   ·subst hz
    have q0:wr.cell? ⟨w.heap.size,0,none⟩=some (.bool false):=(A7.cell (p:=⟨w.heap.size,0,none⟩) (by simp)).trans (by simp[go_sem])
    have q1:wr.cell? ⟨w.heap.size,1,none⟩=some (.slice none 0 0):=(A7.cell (p:=⟨w.heap.size,1,none⟩) (by simp)).trans (by simp[go_sem])
    have q5:∀ o,wr.frozen? ⟨w.heap.size,o,none⟩=false:=λ o=>(A7.frozen (p:=⟨w.heap.size,o,none⟩) (by simp)).trans (by simp[go_sem])
    have HD:=zC (G8.dig hd (by omega))
    have HV:=zC hV;have HT:=zC dx;clear hV dx G8 hd;go_wp2;refine bodyPost_ret (v:=.agg #[.bool true,.slice a k cap]) (by simp[results,Tryz.results33,go_sem,q0,q1]) rfl ⟨true,a,k,cap,rfl,?_,?_⟩
    ·refine IntAt.put2 ?_ q0 q1 _ _
     have hV:=zA HV;simp at hV;refine⟨d,zA HD,?_,λ bA=>?_,Jn,by rw[hV];simp[sgn];have:=zA HX;omega⟩
     ·have:=zA HT;omega
     ·subst bA;simp[V] at hV;have:=zA HX;exfalso;omega
    ·exact (((bl1 _ _).trans (A7.mono (by omega))).setCell (by simp) _).setCell (by simp) _
   ·have C7:0<uu:=by omega
    have Jm:k<4:=by
     have vk:P k<P 4\/4<=k:=by
      by_cases hh:4<=k
      ·exact Or.inr hh
      ·left;have:P (k+1)<=P 4:=zBT (by omega)
       have:=yI k;simp only[P] at *;omega
     rcases vk with hh|hh
     ·by_cases h4:k=4
      ·subst h4;omega
      ·omega
     ·have h5:P 4<=P k:=zBT hh
      have h6:1*P k<=uu*P k:=YW (by omega) (by have:=yI k;omega)
      have h7:=jA hd k;rw[P4] at h5;omega
    have H1:=zC (zSW d k uu X hV);have H2:=zC (jP hd k (v:=uu % 65536) (by omega) (by omega))
    clear hV dx;go_wp2_with (at_builtin;refine zQ _ rfl _ _ 27 rfl (w.heap.size+1) 94 Tryz.underlying27 Tryz.infoU16 a k cap d rfl (G8.alloc _) wr.heap.size 1 (uu % 65536) rfl (by simp[go_sem,yQ]) (by omega) (by simp;omega) ?_;intro a' m7 w1 E5 b9)
    go_roundw
    case rel =>
     refine⟨k+1,a',m7,upd d k (uu % 65536),uu/65536,rfl,by go_num,by omega,by omega,E5,zA H2,zA H1,?_,by omega,?_⟩
     ·right;simp[upd];omega
     ·exact (A7.alloc (by omega) _).trans b9
    case measure=>simp[intOf];try omega
theorem zD (x:Int) (w:World) (h0 : -9223372036854775808<=x) (h1:x<=9223372036854775807) :
  Calls Tryz.prog 33 #[.int .i64 x] w λ r w' =>
   ∃ j9 a' n' m7,r=.returned (.agg #[.bool j9,.slice a' n' m7])/\IntAt w' j9 a' n' m7 4 x/\Below w.heap.size w w' :=
 zSU x _ _ w h0 h1 rfl rfl
end Go.Proofs.YtgmnknmjainabacGreat
