/-
  Its own texts.
-/
import Derived.Deep.CutBlock
import Derived.WalkKit
import Derived.Test.YtgmnknmjainabacGreatProg
import Derived.WalkSpells
import Derived.WalkLawsBesides
import Derived.Deep.QuietTactic
import Derived.BigQuiet
import Derived.Deep.OwnRows
import Derived.Deep.RegionHeld3
import Derived.Deep.DrawnRows
import Derived.Deep.AppendSrc
import Derived.Deep.AppendLies
set_option maxRecDepth 100000
set_option maxHeartbeats 40000000
set_option linter.unnecessarySimpa false
set_option linter.unusedSimpArgs false
set_option linter.unusedVariables false
namespace Go.Proofs.YtgmnknmjainabacGreat
theorem Yv:type_of% @List.setIfInBounds_toArray:=@List.setIfInBounds_toArray
theorem Yw:type_of% @List.set_cons_zero:=@List.set_cons_zero
theorem Yx:type_of% @List.set_cons_succ:=@List.set_cons_succ
theorem Yy:type_of% @Rat.mul_le_mul_of_nonneg_left:=@Rat.mul_le_mul_of_nonneg_left
theorem Yz:type_of% @Rat.mul_nonneg:=@Rat.mul_nonneg
theorem YA:type_of% @Int.mul_le_mul_of_nonneg_right:=@Int.mul_le_mul_of_nonneg_right
theorem YB:type_of% @Rat.mul_le_mul_of_nonneg_right:=@Rat.mul_le_mul_of_nonneg_right
theorem YC:type_of% @Rat.le_of_lt:=@Rat.le_of_lt
theorem YD:type_of% @Int.mul_le_mul_of_nonneg_left:=@Int.mul_le_mul_of_nonneg_left
theorem YE:type_of% @Nat.le_refl:=@Nat.le_refl
theorem YF:type_of% @Int.mul_nonneg:=@Int.mul_nonneg
theorem YG:type_of% @Rat.intCast_mul:=@Rat.intCast_mul
theorem YH:type_of% @Nat.lt_of_lt_of_le:=@Nat.lt_of_lt_of_le
theorem YI:type_of% @Nat.ne_of_gt:=@Nat.ne_of_gt
theorem YJ:type_of% @Nat.ne_of_lt:=@Nat.ne_of_lt
theorem YK:type_of% @Rat.div_def:=@Rat.div_def
open Go.RowKit
def P:Nat->Int
 | 0=>1
 | n+1=>65536*P n
theorem yT (n:Nat):1<=P n:=by
 induction n with
 | zero=>simp[P]
 | succ n ih=>simp only[P];omega
theorem P_add (m n:Nat):P (m+n)=P m*P n:=by
 induction n with
 | zero=>simp[P]
 | succ n ih=>rw[Nat.add_succ];simp only[P];rw[ih,Int.mul_left_comm]
theorem zBL {m n : Nat} (h : m ≤ n) : P m ≤ P n := by
  induction n with
  | zero => have : m = 0 := by omega
            subst this; exact Int.le_refl _
  | succ n ih =>
    by_cases hm : m = n + 1
    · subst hm; exact Int.le_refl _
    · have := ih (by omega)
      have := yT n
      simp only [P]; omega
def V (d:Nat->Int):Nat->Int
 | 0=>0
 | n+1=>V d n+d n*P n
def Dgs (d:Nat->Int):Prop:=∀ j,0<=d j/\d j<65536
theorem jC {d:Nat->Int} (h:Dgs d) (n:Nat):0<=V d n:=by
 induction n with
 | zero=>simp[V]
 | succ n ih =>
  simp only[V];have:=YF (h n).1 (Int.le_of_lt (Int.lt_of_lt_of_le (by decide) (yT n)))
  omega
theorem zHP {d:Nat->Int} (h:Dgs d) (n:Nat):V d n<P n:=by
 induction n with
 | zero=>simp[V,P]
 | succ n ih =>
  simp only[V,P];have h1:d n*P n<=65535*P n:=YA (by have:=(h n).2;omega) (by have:=yT n;omega)
  omega
theorem zCK {d e:Nat->Int} (n:Nat) (h:∀ j,j<n->d j=e j):V d n=V e n:=by
 induction n with
 | zero=>rfl
 | succ n ih=>simp only[V];rw[ih (λ j hj=>h j (by omega)),h n (by omega)]
structure Dig (w:World) (a:Option Addr) (n cap:Nat) (d:Nat->Int):Prop where
 at_:0<n->∃ b off,a=some ⟨b,off,none⟩/\b<w.heap.size/\∀ j,j<n->w.cell? ⟨b,off+j,none⟩=some (.int .u16 (d j))
 dgs:Dgs d
 le:n<=cap
 room:n<=70368744177664
theorem Dig.bw {w w':World} {a:Option Addr} {n cap:Nat} {d:Nat->Int} (h:Dig w a n cap d) (hb:Below w.heap.size w w'):Dig w' a n cap d :=
 ⟨λ hn=>by
  obtain⟨b,off,h1,h2,h3⟩:=h.at_ hn
  exact⟨b,off,h1,YH h2 hb.size,λ j hj=>(hb.cell (p:=⟨b,off+j,none⟩) h2).trans (h3 j hj)⟩,h.dgs,h.le,h.room⟩
theorem zC {p:Prop} (h:p):Hid p:=h
theorem zA {p:Prop} (h:Hid p):p:=h
def lenOf:Value->Nat
 | .slice _ n _=>n
 | _=>0
theorem bl1 (w:World) (o1:Obj):Below w.heap.size w (w.alloc o1):=(Below.refl _ _).alloc (YE _) _
theorem bl2 (w:World) (o1 o2:Obj):Below w.heap.size w ((w.alloc o1).alloc o2):=(bl1 w o1).alloc (by simp) _
theorem bl3 (w:World) (o1 o2 o3:Obj):Below w.heap.size w (((w.alloc o1).alloc o2).alloc o3):=(bl2 w o1 o2).alloc (by simp;omega) _
theorem bl4 (w:World) (o1 o2 o3 o4:Obj):Below w.heap.size w ((((w.alloc o1).alloc o2).alloc o3).alloc o4):=(bl3 w o1 o2 o3).alloc (by simp;omega) _
theorem zB {w w1 w2:World} (h:Below w.heap.size w w1) (k:Below w1.heap.size w1 w2):Below w.heap.size w w2:=h.trans (k.mono h.size)
def Q:Nat->Int
 | 0=>1
 | n+1=>2*Q n
def cQ:Nat->Int->Int
 | 0,_=>0
 | f+1,x=>if x<=0 then 0 else 1+cQ f (x/2)
def lenZ (n:Nat) (d:Nat->Int):Int:=if n=0 then 0 else 16*((n:Int)-1)+cQ 16 (d (n-1))
theorem blenF_bd (f:Nat) (x:Int):0<=cQ f x/\cQ f x<=f:=by
 induction f generalizing x with
 | zero=>simp[cQ]
 | succ f ih=>simp only[cQ];have:=ih (x/2);split<;>omega
def kD (d:Nat->Int):Nat->Nat
 | 0=>0
 | n+1=>if d n=0 then kD d n else n+1
theorem zBT (d:Nat->Int) (n:Nat):kD d n<=n:=by
 induction n with
 | zero=>simp[kD]
 | succ n ih=>simp only[kD];split<;>omega
theorem zDJ (d:Nat->Int) (n:Nat):V d (kD d n)=V d n:=by
 induction n with
 | zero=>simp[kD]
 | succ n ih =>
  simp only[kD];split
  ·rename_i h;rw[ih];simp[V,h]
  ·rfl
theorem zCF (d:Nat->Int) (n:Nat):kD d n=0\/d (kD d n-1)≠0:=by
 induction n with
 | zero=>simp[kD]
 | succ n ih =>
  simp only[kD];split
  ·exact ih
  ·rename_i h;right;simpa using h
theorem zPP {d:Nat->Int} {n:Nat} (h:n=0\/d (n-1)≠0):kD d n=n:=by
 cases n with
 | zero=>rfl
 | succ n=>simp only[kD];rw[if_neg];simpa using h
def sgn (neg:Bool) (x:Int):Int:=if neg then -x else x
theorem Dig.take {w:World} {a:Option Addr} {n cap:Nat} {d:Nat->Int} (h:Dig w a n cap d) {m:Nat} (hm:m<=n):Dig w a m cap d :=
 ⟨λ Ar=>by
  obtain⟨b,off,h1,h2,h3⟩:=h.at_ (by omega)
  exact⟨b,off,h1,h2,λ j hj=>h3 j (by omega)⟩,h.dgs,Nat.le_trans hm h.le,Nat.le_trans hm h.room⟩
def IntAt (w:World) (neg:Bool) (a:Option Addr) (n cap:Nat) (k:Nat) (z:Int):Prop :=
 ∃ d,Dig w a n cap d/\(n=0\/d (n-1)≠0)/\(n=0->neg=false)/\n<=k/\z=sgn neg (V d n)
theorem IntAt.bw {w w':World} {neg:Bool} {a:Option Addr} {n cap k:Nat} {z:Int} (h:IntAt w neg a n cap k z) (hb:Below w.heap.size w w'):IntAt w' neg a n cap k z:=by
 obtain⟨d,h2,h3⟩:=h;exact⟨d,h2.bw hb,h3⟩
theorem IntAt.mono {w:World} {neg:Bool} {a:Option Addr} {n cap k k':Nat} {z:Int} (h:IntAt w neg a n cap k z) (hk:k<=k'):IntAt w neg a n cap k' z:=by
 obtain⟨d,h2,h3,h4,h5,h6⟩:=h;exact⟨d,h2,h3,h4,by omega,h6⟩
theorem Dig.store {w:World} {a:Option Addr} {n cap:Nat} {d:Nat->Int} (h:Dig w a n cap d) {p:Addr} {v:Value} (hp:w.cell? p=some v) (hv:∀ x,v≠.int .u16 x) (u:Value):Dig (w.setCell p u) a n cap d :=
 ⟨λ hn=>by
  obtain⟨b,off,h1,h2,h3⟩:=h.at_ hn;refine⟨b,off,h1,by simpa [World.setCell] using h2,λ j hj=>?_⟩
  have h4:=h3 j hj;rw[World.cell?_setCell_other]
  ·exact h4
  ·intro e
   rw[<- e,hp] at h4
   exact hv _ (Option.some.inj h4),h.dgs,h.le,h.room⟩
theorem IntAt.store {w:World} {neg:Bool} {a:Option Addr} {n cap k:Nat} {z:Int} (h:IntAt w neg a n cap k z) {p:Addr} {v:Value} (hp:w.cell? p=some v) (hv:∀ x,v≠.int .u16 x) (u:Value):IntAt (w.setCell p u) neg a n cap k z:=by
 obtain⟨d,h2,h3⟩:=h;exact⟨d,h2.store hp hv u,h3⟩
theorem IntAt.put2 {w:World} {neg:Bool} {a:Option Addr} {n cap k:Nat} {z:Int} (h:IntAt w neg a n cap k z) {B:Nat} {x0:Bool} {y0:Option Addr} {y1 y2:Nat} (h0:w.cell? ⟨B,0,none⟩=some (.bool x0))
  (h1:w.cell? ⟨B,1,none⟩=some (.slice y0 y1 y2)) (u0 u1:Value):IntAt ((w.setCell ⟨B,0,none⟩ u0).setCell ⟨B,1,none⟩ u1) neg a n cap k z:=by
 have hne:(⟨B,0,none⟩:Addr)≠⟨B,1,none⟩:=by simp
 have h2:(w.setCell ⟨B,0,none⟩ u0).cell? ⟨B,1,none⟩=some (.slice y0 y1 y2):=(World.cell?_setCell_other _ _ _ _ hne).trans h1;exact (h.store h0 (λ _ e=>by cases e) u0).store h2 (λ _ e=>by cases e) u1
theorem bcell {W w1:World} (hb:Below W.heap.size W w1):(∀ b o,b<W.heap.size->w1.cell? ⟨b,o,none⟩=W.cell? ⟨b,o,none⟩)/\(∀ b o,b<W.heap.size->w1.frozen? ⟨b,o,none⟩=W.frozen? ⟨b,o,none⟩) :=
 ⟨λ b o h=>hb.cell (p:=⟨b,o,none⟩) h,λ b o h=>hb.frozen (p:=⟨b,o,none⟩) h⟩
theorem jJ {W w1:World} (H:Nat) (hH:H<=W.heap.size) (hb:Below W.heap.size W w1):H<=w1.heap.size/\(∀ b o,b+1<=H->w1.cell? ⟨b,o,none⟩=W.cell? ⟨b,o,none⟩)/\(∀ b o,b+1<=H->w1.frozen? ⟨b,o,none⟩=W.frozen? ⟨b,o,none⟩) :=
 ⟨Nat.le_trans hH hb.size,λ b o h=>hb.cell (p:=⟨b,o,none⟩) (YH h hH),λ b o h=>hb.frozen (p:=⟨b,o,none⟩) (YH h hH)⟩
def zL6 (neg:Bool) (n:Nat):Int:=if n=0 then 0 else if neg then -1 else 1
theorem zI0 (neg:Bool) (a:Option Addr) (n cap:Nat) (w:World) (hr:n<=70368744177664) :
  Calls Tryz.prog 73 #[.agg #[.bool neg,.slice a n cap]] w λ e w'=>e=.returned (.int .i64 (zL6 neg n))/\Below w.heap.size w w':=by
 by_cases hn:n=0
 ·subst hn
  go_enter Tryz.func73,Tryz.ntmps73
  go_wp2
  all_goals (go_ret;exact⟨by simp[zL6],(Below.refl _ _).alloc (YE _) _⟩)
 ·have hz:((n:Int) == 0)=false:=by simp;omega
  cases neg
  all_goals
   go_enter Tryz.func73,Tryz.ntmps73
   go_wp2
   go_ret
   exact⟨by simp[zL6,hn],(Below.refl _ _).alloc (YE _) _⟩
def zC8 (d e:Nat->Int):Nat->Int
 | 0=>0
 | n+1=>if d n<e n then -1 else if e n<d n then 1 else zC8 d e n
def zG0 (d e:Nat->Int) (n m:Nat):Int:=if n<m then -1 else if m<n then 1 else zC8 d e n
theorem yG (a c:Option Addr) (n m cap j9:Nat) (d e:Nat->Int) (w:World) (ha:Dig w a n cap d) (hc:Dig w c m j9 e) :
  Calls Tryz.prog 53 #[.slice a n cap,.slice c m j9] w λ r w'=>r=.returned (.int .i64 (zG0 d e n m))/\Below w.heap.size w w':=by
 have hr:=ha.room;have hl:=ha.le;have O9:=hc.room;have Y2:=hc.le
 by_cases hne:n=m
 ·subst hne
  have hz:((n:Int) != n)=false:=by simp
  go_enter Tryz.func53,Tryz.ntmps53
  go_wp2
  go_loopw [5] (λ i wr=>∃ k:Nat,k<=n/\i=.int .i64 ((k:Int)-1)/\zC8 d e n=zC8 d e k/\Below w.heap.size w wr) (λ i _=>(intOf i+1).toNat)
  case atStart=>exact⟨n,YE _,rfl,rfl,Below.refl _ _⟩
  case round =>
   obtain⟨k,hk,rfl,nw,B9⟩:=hrel
   by_cases eG:k=0
   ·subst eG
    go_wp2
    go_ret
    exact⟨by simp[zG0,nw,zC8],B9⟩
   ·obtain⟨b1,o1,rfl,b9,D7⟩:=ha.at_ (by omega)
    obtain⟨b2,o2,rfl,j8,E7⟩:=hc.at_ (by omega)
    obtain⟨q,rfl⟩:∃ q,k=q+1:=⟨k-1,by omega⟩
    have e0:((q+1:Nat):Int)-1=(q:Int):=by omega
    rw[e0];have g1:wr.cell? ⟨b1,o1+q,none⟩=some (.int .u16 (d q)):=(B9.cell (p:=⟨b1,o1+q,none⟩) b9).trans (D7 q (by omega))
    have g2:wr.cell? ⟨b2,o2+q,none⟩=some (.int .u16 (e q)):=(B9.cell (p:=⟨b2,o2+q,none⟩) j8).trans (E7 q (by omega))
    have gq:(q:Int)<(n:Int):=by omega
    have Hcm:=zC nw;clear nw e0 ha hc D7 E7
    by_cases D5:d q<e q
    ·have t1:(d q != e q)=true:=by rw[bne_iff_ne];omega
     go_wp2
     go_quiet (fail)
     go_wp2
     go_quiet (fail)
     go_wp2
     go_ret
     exact⟨by simp[zG0,zA Hcm,zC8,D5],below_drewN (below_drewN B9 _) _⟩
    ·by_cases Ap:e q<d q
     ·have t1:(d q != e q)=true:=by rw[bne_iff_ne];omega
      go_wp2
      go_quiet (fail)
      go_wp2
      go_quiet (fail)
      go_wp2
      go_ret
      exact⟨by simp[zG0,zA Hcm,zC8,D5,Ap],below_drewN (below_drewN B9 _) _⟩
     ·have t1:(d q != e q)=false:=by rw[bne_eq_false_iff_eq];omega
      have Hn:=zC (show zC8 d e (q+1)=zC8 d e q by simp[zC8,D5,Ap])
      go_wp2
      go_quiet (fail)
      go_wp2
      go_roundw
      case rel=>exact⟨q,by omega,by go_num,by rw[zA Hcm,zA Hn],below_drewN B9 _⟩
      case measure=>simp[intOf];try omega
 ·have hz:((n:Int) != m)=true:=by rw[bne_iff_ne];omega
  by_cases D5:n<m
  ·have wM:(n:Int)<m:=by omega
   go_enter Tryz.func53,Tryz.ntmps53
   go_wp2
   go_ret
   exact⟨by simp[zG0,D5],Below.refl _ _⟩
  ·have wM:¬ (n:Int)<m:=by omega
   go_enter Tryz.func53,Tryz.ntmps53
   go_wp2
   go_ret
   have Ap:m<n:=by omega
   exact⟨by simp[zG0,D5,Ap],Below.refl _ _⟩
def cmpI (neg j6:Bool) (d e:Nat->Int) (n m:Nat):Int :=
 if neg != j6 then (if neg then -1 else 1) else if neg then-zG0 d e n m else zG0 d e n m
theorem cmpTo_bd (d e:Nat->Int) (n:Nat) : -1<=zC8 d e n/\zC8 d e n<=1:=by
 induction n with
 | zero=>simp[zC8]
 | succ n ih=>simp only[zC8];split<;>(try split)<;>omega
theorem cmpZ_bd (d e:Nat->Int) (n m:Nat) : -1<=zG0 d e n m/\zG0 d e n m<=1:=by
 have:=cmpTo_bd d e n;unfold zG0;split<;>(try split)<;>omega
theorem cmp_any (neg j6:Bool) (a c:Option Addr) (n m cap j9:Nat) (d e:Nat->Int) (w:World) (ha:Dig w a n cap d) (hc:Dig w c m j9 e) :
  Calls Tryz.prog 17 #[.agg #[.bool neg,.slice a n cap],.agg #[.bool j6,.slice c m j9]] w λ r w'=>r=.returned (.int .i64 (cmpI neg j6 d e n m))/\Below w.heap.size w w':=by
 have Yr:=cmpZ_bd d e n m;obtain⟨b1,b2⟩:=Yr
 cases neg<;>cases j6
 all_goals
  go_enter Tryz.func17,Tryz.ntmps17
  go_wp2_with (go_at_call 53;refine (yG _ _ _ _ _ _ d e _ (ha.bw (bl2 _ _ _)) (hc.bw (bl2 _ _ _))).mono ?_;rintro r w' ⟨rfl,hb⟩)
  go_ret
  first|exact⟨by simp[cmpI],zB (bl2 _ _ _) ‹_›⟩|exact⟨by simp[cmpI],bl2 _ _ _⟩
theorem zR1 (neg:Bool) (a:Option Addr) (n cap:Nat) (d:Nat->Int) (w:World) (ha:Dig w a n cap d) :
  Calls Tryz.prog 98 #[.agg #[.bool neg,.slice a n cap]] w λ r w'=>r=.returned (.int .i64 (lenZ n d))/\Below w.heap.size w w':=by
 have hr:=ha.room;have hl:=ha.le
 by_cases hn:n=0
 ·subst hn
  go_enter Tryz.func98,Tryz.ntmps98
  go_wp2
  go_ret
  exact⟨by simp[lenZ],(Below.refl _ _).alloc (YE _) _⟩
 ·have hz:((n:Int) == 0)=false:=by simp;omega
  obtain⟨b,off,rfl,hb,hc⟩:=ha.at_ (by omega)
  have D7:=hc (n-1) (by omega)
  have hi:((n:Int)-1)=((n-1:Nat):Int):=by omega
  go_enter Tryz.func98,Tryz.ntmps98
  go_wp2
  go_loop [4,5] (λ k x=>∃ (f j:Nat) (y:Int),j+f=16/\k=.int .i64 j/\x=.int .u16 y/\0<=y/\y<Q f/\j+cQ f y=cQ 16 (d (n-1))) (λ _ x=>(intOf x).toNat)
  case atStart=>exact⟨16,0,_,rfl,rfl,rfl,(ha.dgs _).1,(ha.dgs _).2,by simp⟩
  case round =>
   obtain⟨f,j,y,hf,rfl,rfl,wX,AD,B9⟩:=hrel
   by_cases hy:y=0
   ·subst hy
    have E8:cQ f 0=0:=by cases f<;>simp[cQ]
    have HB:=zC (show (j:Int)=cQ 16 (d (n-1)) by omega)
    clear B9;go_wp2
    go_ret
    exact⟨by simp[lenZ,hn,<- zA HB];omega,bl1 _ _⟩
   ·have O8:0<y:=by omega
    match f,hf,AD,B9 with
    | 0,_,AD,_=>simp[Q] at AD;omega
    | f+1,hf,AD,B9 =>
    have VD:=zC (show (j:Int)+1+cQ f (y/2)=cQ 16 (d (n-1)) by rw[<- B9];simp[cQ,show ¬ y<=0 by omega];omega)
    have KV:y<2*Q f:=AD;have KS:y/2<Q f:=by omega
    clear B9 AD KV;go_wp2
    go_round
    case rel=>exact⟨f,j+1,y/2,by omega,by go_num,by go_num,by omega,KS,by have:=zA VD;omega⟩
    case measure=>simp[intOf];try omega
theorem yJ (a:Option Addr) (n cap:Nat) (d:Nat->Int) (w:World) (h:Dig w a n cap d) :
  Calls Tryz.prog 117 #[.slice a n cap] w λ e w'=>e=.returned (.slice a (kD d n) cap)/\Below w.heap.size w w':=by
 have hr:=h.room;have hl:=h.le
 go_enter Tryz.func117,Tryz.ntmps117
 go_wp2
 go_loopw [0] (λ l wr=>∃ m:Nat,m<=n/\l=.slice a m cap/\kD d n=kD d m/\Below w.heap.size w wr) (λ l _=>lenOf l)
 case atStart=>exact⟨n,YE _,rfl,rfl,Below.refl _ _⟩
 case round =>
  obtain⟨m,hm,rfl,ht,B9⟩:=hrel
  by_cases Ar:m=0
  ·subst Ar
   have Ht:=zC ht;clear ht;go_wp2
   go_ret
   exact⟨by simp[zA Ht,kD],B9⟩
  ·obtain⟨b,off,rfl,hb,hc⟩:=h.at_ (by omega)
   obtain⟨q,rfl⟩:∃ q,m=q+1:=⟨m-1,by omega⟩
   have hcq:wr.cell? ⟨b,off+q,none⟩=some (.int .u16 (d q)):=(B9.cell (p:=⟨b,off+q,none⟩) hb).trans (hc q (by omega))
   by_cases hd:d q=0
   ·have Ht:=zC (show kD d n=kD d q by rw[ht];simp[kD,hd])
    clear ht;go_wp2
    go_roundw
    case rel=>exact⟨q,by omega,rfl,zA Ht,B9⟩
    case measure=>simp[lenOf]
   ·have Ht:=zC (show kD d n=q+1 by rw[ht];simp[kD,hd])
    have oz:(d q == 0)=false:=by simpa using hd
    clear ht;go_wp2
    go_ret
    exact⟨by simp[zA Ht],B9⟩
theorem of_any (neg:Bool) (a:Option Addr) (n cap:Nat) (d:Nat->Int) (w:World) (h:Dig w a n cap d) :
  Calls Tryz.prog 70 #[.bool neg,.slice a n cap] w λ e w'=>e=.returned (.agg #[.bool (neg && decide (0<kD d n)),.slice a (kD d n) cap])/\Below w.heap.size w w':=by
 have hr:=h.room;have hl:=zBT d n
 cases neg
 ·go_enter Tryz.func70,Tryz.ntmps70
  go_wp2_with (go_at_call 117;refine (yJ _ _ _ d _ (h.bw (bl1 _ _))).mono ?_;rintro r w' ⟨rfl,hb⟩;obtain⟨hcell,fK⟩:=bcell hb;have X7:=hb.size);refine bodyPost_ret (v:=.agg #[.bool false,.slice a (kD d n) cap]) (by simp[results,Tryz.results70,go_sem,hcell,X7]) rfl ?_
  exact⟨by simp,by first|exact (zB (bl1 _ _) hb)|exact (zB (bl1 _ _) hb).setCell (YE _) _|exact ((zB (bl1 _ _) hb).setCell (YE _) _).setCell (YE _) _⟩
 ·go_enter Tryz.func70,Tryz.ntmps70
  go_wp2_with (go_at_call 117;refine (yJ _ _ _ d _ (h.bw (bl1 _ _))).mono ?_;rintro r w' ⟨rfl,hb⟩;obtain⟨hcell,fK⟩:=bcell hb;have X7:=hb.size);refine bodyPost_ret (v:=.agg #[.bool (decide (0<kD d n)),.slice a (kD d n) cap]) (by simp[results,Tryz.results70,go_sem,hcell,X7]) rfl ?_
  exact⟨by simp,by first|exact (zB (bl1 _ _) hb)|exact (zB (bl1 _ _) hb).setCell (YE _) _|exact ((zB (bl1 _ _) hb).setCell (YE _) _).setCell (YE _) _⟩
theorem Tryz.infoU16:(Tryz.prog.info? 94).map (λ i=>(i.zero,i.size,i.bytes))=some (some (.int .u16 0),1,2):=by kernel_rfl
def dg (d:Nat->Int) (n j:Nat):Int:=if j<n then d j else 0
def jQ (d e:Nat->Int) (n m:Nat):Nat->Int
 | 0=>0
 | k+1=>(jQ d e n m k+dg d n k+dg e m k)/65536
def zCU (d e:Nat->Int) (n m j:Nat):Int:=(jQ d e n m j+dg d n j+dg e m j) % 65536
theorem zJH {d e:Nat->Int} (hd:Dgs d) (he:Dgs e) (n m k:Nat):0<=jQ d e n m k/\jQ d e n m k<=1:=by
 induction k with
 | zero=>simp[jQ]
 | succ k ih =>
  simp only[jQ,dg];have:=hd k;have:=he k;split<;>split<;>omega
theorem zAP {wr:World} {b t N k:Nat} {f:Nat->Int} (h:wr.rowIs b t N (λ j=>.int .u16 (if j<k then f j else 0))) {v:Int} (hv:v=f k) :
  (wr.setCell ⟨b,k,none⟩ (.int .u16 v)).rowIs b t N (λ j=>.int .u16 (if j<k+1 then f j else 0)):=by
 refine (h.set k (.int .u16 v)).congr λ j _=>?_
 by_cases hj:j=k
 ·subst hj;simp[hv]
 ·have:(j<k+1)=(j<k):=by simp;omega
  simp[hj,this]
theorem zAX (x:Int):IntKind.u16.wrap x=x % 65536:=rfl
theorem plus_any (a c:Option Addr) (n m cap j9:Nat) (d e:Nat->Int) (w:World) (ha:Dig w a n cap d) (hc:Dig w c m j9 e) (hn:n<=1000000000) (hm:m<=1000000000) :
  Calls Tryz.prog 71 #[.slice a n cap,.slice c m j9] w λ r w'=>∃ N,N=max n m+1/\r=.returned (.slice (some ⟨w.heap.size,0,none⟩) N N)/\w'.rowIs w.heap.size 94 N (λ j=>.int .u16 (zCU d e n m j))/\Below w.heap.size w w':=by
 obtain⟨N,hN⟩:∃ N,N=max n m+1:=⟨_,rfl⟩;have T4:N<=1000000001:=by omega
 have hnN:n<N:=by omega
 have hmN:m<N:=by omega
 have aK:=run_make_row' (P:=Tryz.prog) 27 94 (.int .u16 0) 2 Tryz.underlying27 Tryz.infoU16 rfl .i64 .i64 N (by omega) (by omega)
 have key:(n<m/\(m:Int)+1=N)\/(m<=n/\(n:Int)+1=N):=by omega
 have HN:=zC hN;clear hN
 rcases key with⟨D5,hmx⟩|⟨D5,hmx⟩
 all_goals
  go_enter Tryz.func71,Tryz.ntmps71
  go_wp2;clear aK D5 hmx
  go_loopw [6,17] (λ cy i wr=>∃ k:Nat,k<=N/\i=.int .i64 k/\cy=.int .u32 (jQ d e n m k)/\wr.rowIs w.heap.size 94 N (λ j=>.int .u16 (if j<k then zCU d e n m j else 0))/\Below w.heap.size w wr) (λ _ i _=>N-(intOf i).toNat)
  case atStart=>exact⟨0,Nat.zero_le _,rfl,rfl,by simpa using World.rowIs_made w (.int .u16 0) N 94,bl1 _ _⟩
  case round =>
   obtain⟨k,hk,rfl,rfl,D3,B9⟩:=hrel
   by_cases hkN:k<N
   ·have r1:=D3.cell hkN
    have r2:=D3.frozen k;have cb:=zJH ha.dgs hc.dgs n m k;have db:=ha.dgs k;have eb:=hc.dgs k
    by_cases eI:k<n
    ·obtain⟨b1,o1,rfl,b9,D7⟩:=ha.at_ (by omega)
     have g1:wr.cell? ⟨b1,o1+k,none⟩=some (.int .u16 (d k)):=(B9.cell (p:=⟨b1,o1+k,none⟩) b9).trans (D7 k eI);clear D7
     by_cases aB:k<m
     ·obtain⟨b2,o2,rfl,j8,E7⟩:=hc.at_ (by omega)
      have g2:wr.cell? ⟨b2,o2+k,none⟩=some (.int .u16 (e k)):=(B9.cell (p:=⟨b2,o2+k,none⟩) j8).trans (E7 k aB);clear E7;have H1:=zC (show (jQ d e n m k+d k+e k)/65536=jQ d e n m (k+1) by simp[jQ,dg,eI,aB])
      have H2:=zC (show IntKind.u16.wrap (jQ d e n m k+d k+e k)=zCU d e n m k by simp[zAX,zCU,dg,eI,aB])
      go_wp2
      go_roundw
      case rel=>exact⟨k+1,by omega,by go_num,by rw[zA H1],zAP D3 (zA H2),B9.setCell (YE _) _⟩
      case measure=>simp[intOf];omega
     ·have H1:=zC (show (jQ d e n m k+d k)/65536=jQ d e n m (k+1) by simp[jQ,dg,eI,aB])
      have H2:=zC (show IntKind.u16.wrap (jQ d e n m k+d k)=zCU d e n m k by simp[zAX,zCU,dg,eI,aB])
      go_wp2
      go_roundw
      case rel=>exact⟨k+1,by omega,by go_num,by rw[zA H1],zAP D3 (zA H2),B9.setCell (YE _) _⟩
      case measure=>simp[intOf];omega
    ·by_cases aB:k<m
     ·obtain⟨b2,o2,rfl,j8,E7⟩:=hc.at_ (by omega)
      have g2:wr.cell? ⟨b2,o2+k,none⟩=some (.int .u16 (e k)):=(B9.cell (p:=⟨b2,o2+k,none⟩) j8).trans (E7 k aB);clear E7;have H1:=zC (show (jQ d e n m k+e k)/65536=jQ d e n m (k+1) by simp[jQ,dg,eI,aB])
      have H2:=zC (show IntKind.u16.wrap (jQ d e n m k+e k)=zCU d e n m k by simp[zAX,zCU,dg,eI,aB])
      go_wp2
      go_roundw
      case rel=>exact⟨k+1,by omega,by go_num,by rw[zA H1],zAP D3 (zA H2),B9.setCell (YE _) _⟩
      case measure=>simp[intOf];omega
     ·have H1:=zC (show (jQ d e n m k)/65536=jQ d e n m (k+1) by simp[jQ,dg,eI,aB])
      have H2:=zC (show jQ d e n m k=zCU d e n m k by simp[zCU,dg,eI,aB];omega)
      go_wp2
      go_roundw
      case rel=>exact⟨k+1,by omega,by go_num,by rw[zA H1],zAP D3 (zA H2),B9.setCell (YE _) _⟩
      case measure=>simp[intOf];omega
   ·have hkE:k=N:=by omega
    subst hkE;go_wp2
    go_ret
    exact⟨_,zA HN,rfl,D3.congr (λ j hj=>by simp[hj]),B9⟩
def zY (d e:Nat->Int) (m:Nat):Nat->Int
 | 0=>0
 | k+1=>if d k-zY d e m k-dg e m k<0 then 1 else 0
def zBF (d e:Nat->Int) (m j:Nat):Int:=if d j-zY d e m j-dg e m j<0 then d j-zY d e m j-dg e m j+65536 else d j-zY d e m j-dg e m j
theorem zEN (d e:Nat->Int) (m k:Nat):0<=zY d e m k/\zY d e m k<=1:=by
 cases k with
 | zero=>simp[zY]
 | succ k=>simp only[zY];split<;>omega
theorem less_any (a c:Option Addr) (n m cap j9:Nat) (d e:Nat->Int) (w:World) (ha:Dig w a n cap d) (hc:Dig w c m j9 e) (hn:n<=1000000000) (hm:m<=1000000000) :
  Calls Tryz.prog 72 #[.slice a n cap,.slice c m j9] w λ r w'=>r=.returned (.slice (some ⟨w.heap.size,0,none⟩) n n)/\w'.rowIs w.heap.size 94 n (λ j=>.int .u16 (zBF d e m j))/\Below w.heap.size w w':=by
 have aK:=run_make_row' (P:=Tryz.prog) 27 94 (.int .u16 0) 2 Tryz.underlying27 Tryz.infoU16 rfl .i64 .i64 n (by omega) (by omega)
 go_enter Tryz.func72,Tryz.ntmps72
 go_wp2;clear aK
 go_loopw [6,14] (λ cy i wr=>∃ k:Nat,k<=n/\i=.int .i64 k/\cy=.int .i64 (zY d e m k)/\wr.rowIs w.heap.size 94 n (λ j=>.int .u16 (if j<k then zBF d e m j else 0))/\Below w.heap.size w wr) (λ _ i _=>n-(intOf i).toNat)
 case atStart=>exact⟨0,Nat.zero_le _,rfl,rfl,by simpa using World.rowIs_made w (.int .u16 0) n 94,bl1 _ _⟩
 case round =>
  obtain⟨k,hk,rfl,rfl,D3,B9⟩:=hrel
  by_cases eI:k<n
  ·have r1:=D3.cell eI
   have r2:=D3.frozen k;have cb:=zEN d e m k;have db:=ha.dgs k;have eb:=hc.dgs k;obtain⟨b1,o1,rfl,b9,D7⟩:=ha.at_ (by omega)
   have g1:wr.cell? ⟨b1,o1+k,none⟩=some (.int .u16 (d k)):=(B9.cell (p:=⟨b1,o1+k,none⟩) b9).trans (D7 k eI);clear D7
   by_cases aB:k<m
   ·obtain⟨b2,o2,rfl,j8,E7⟩:=hc.at_ (by omega)
    have g2:wr.cell? ⟨b2,o2+k,none⟩=some (.int .u16 (e k)):=(B9.cell (p:=⟨b2,o2+k,none⟩) j8).trans (E7 k aB);clear E7
    by_cases M5:d k-zY d e m k-e k<0
    ·have H1:=zC (show 1=zY d e m (k+1) by simp[zY,dg,aB,M5])
     have H2:=zC (show d k-zY d e m k-e k+65536=zBF d e m k by simp[zBF,dg,aB,M5])
     go_wp2
     go_roundw
     case rel=>exact⟨k+1,by omega,by go_num,by rw[<- zA H1],zAP D3 (zA H2),B9.setCell (YE _) _⟩
     case measure=>simp[intOf];omega
    ·have H1:=zC (show 0=zY d e m (k+1) by simp[zY,dg,aB,M5])
     have H2:=zC (show d k-zY d e m k-e k=zBF d e m k by simp[zBF,dg,aB,M5])
     go_wp2
     go_roundw
     case rel=>exact⟨k+1,by omega,by go_num,by rw[<- zA H1],zAP D3 (zA H2),B9.setCell (YE _) _⟩
     case measure=>simp[intOf];omega
   ·by_cases M5:d k-zY d e m k<0
    ·have H1:=zC (show 1=zY d e m (k+1) by simp[zY,dg,aB,M5])
     have H2:=zC (show d k-zY d e m k+65536=zBF d e m k by simp[zBF,dg,aB,M5])
     go_wp2
     go_roundw
     case rel=>exact⟨k+1,by omega,by go_num,by rw[<- zA H1],zAP D3 (zA H2),B9.setCell (YE _) _⟩
     case measure=>simp[intOf];omega
    ·have H1:=zC (show 0=zY d e m (k+1) by simp[zY,dg,aB,M5])
     have H2:=zC (show d k-zY d e m k=zBF d e m k by simp[zBF,dg,aB,M5])
     go_wp2
     go_roundw
     case rel=>exact⟨k+1,by omega,by go_num,by rw[<- zA H1],zAP D3 (zA H2),B9.setCell (YE _) _⟩
     case measure=>simp[intOf];omega
  ·have hkE:k=n:=by omega
   subst hkE;go_wp2
   go_ret
   exact⟨rfl,D3.congr (λ j hj=>by simp[hj]),B9⟩
theorem V_dg (d : Nat → Int) (n N : Nat) (h : n ≤ N) : V (dg d n) N = V d n := by
  induction N with
  | zero => have : n = 0 := by omega
            subst this; rfl
  | succ N ih =>
    by_cases hN : n = N + 1
    · subst hN
      apply zCK
      intro j hj; simp [dg, hj]
    · simp only [V]
      rw [ih (by omega)]
      have : ¬ N < n := by omega
      simp [dg, this]
theorem zPD (d e:Nat->Int) (n m k:Nat):V (zCU d e n m) k+jQ d e n m k*P k=V (dg d n) k+V (dg e m) k:=by
 induction k with
 | zero=>simp[V,jQ]
 | succ k ih =>
  simp only[V,P]
  have h1:zCU d e n m k+65536*jQ d e n m (k+1)=jQ d e n m k+dg d n k+dg e m k:=by
   simp only[zCU,jQ];omega
  have h2:zCU d e n m k*P k+65536*jQ d e n m (k+1)*P k=jQ d e n m k*P k+dg d n k*P k+dg e m k*P k:=by
   rw[<- Int.add_mul,h1,Int.add_mul,Int.add_mul]
  have h3:jQ d e n m (k+1)*(65536*P k)=65536*jQ d e n m (k+1)*P k:=by
   rw[<- Int.mul_assoc,Int.mul_comm (jQ d e n m (k+1)) 65536]
  omega
theorem zJ7 (d e:Nat->Int) (n m:Nat):Dgs (zCU d e n m):=by
 intro j;simp only[zCU];omega
theorem plus_V {d e:Nat->Int} (hd:Dgs d) (he:Dgs e) (n m:Nat):V (zCU d e n m) (max n m+1)=V d n+V e m:=by
 have h:=zPD d e n m (max n m+1);rw[V_dg d n _ (by omega),V_dg e m _ (by omega)] at h
 have c0:=zJH hd he n m (max n m+1);have b1:=zHP hd n;have b2:=zHP he m;have p1:P n<=P (max n m):=zBL (by omega)
 have p2:P m<=P (max n m):=zBL (by omega)
 have b3:=jC (zJ7 d e n m) (max n m+1);have hP:P (max n m+1)=65536*P (max n m):=rfl;have hp:=yT (max n m)
 by_cases hc:jQ d e n m (max n m+1)=0
 ·rw[hc] at h;omega
 ·have:jQ d e n m (max n m+1)=1:=by omega
  rw[this] at h;omega
theorem zOZ (d e:Nat->Int) (m k:Nat):V (zBF d e m) k-zY d e m k*P k=V d k-V (dg e m) k:=by
 induction k with
 | zero=>simp[V,zY]
 | succ k ih =>
  simp only[V,P]
  have h1:zBF d e m k-65536*zY d e m (k+1)=d k-zY d e m k-dg e m k:=by
   simp only[zBF,zY];split<;>omega
  have h2:zBF d e m k*P k-65536*zY d e m (k+1)*P k=d k*P k-zY d e m k*P k-dg e m k*P k:=by
   rw[<- Int.sub_mul,h1,Int.sub_mul,Int.sub_mul]
  have h3:zY d e m (k+1)*(65536*P k)=65536*zY d e m (k+1)*P k:=by
   rw[<- Int.mul_assoc,Int.mul_comm (zY d e m (k+1)) 65536]
  omega
theorem zF7 {d e:Nat->Int} (hd:Dgs d) (he:Dgs e) (m:Nat):Dgs (zBF d e m):=by
 intro j
 have:=hd j;have:=he j;have:=zEN d e m j;simp only[zBF,dg];split<;>split<;>omega
theorem zR6 {d e:Nat->Int} (hd:Dgs d) (he:Dgs e) (n m:Nat) (fR:m<=n) (h:V e m<=V d n):V (zBF d e m) n=V d n-V e m:=by
 have h1:=zOZ d e m n;rw[V_dg e m _ fR] at h1;have c0:=zEN d e m n;have b3:=zHP (zF7 hd he m) n
 by_cases hc:zY d e m n=0
 ·rw[hc] at h1;omega
 ·have:zY d e m n=1:=by omega
  rw[this] at h1;omega
def zM (x y:Int):Int:=if x<y then -1 else if y<x then 1 else 0
theorem cmpTo_V {d e:Nat->Int} (hd:Dgs d) (he:Dgs e) (n:Nat):zC8 d e n=zM (V d n) (V e n):=by
 induction n with
 | zero=>simp[zC8,zM,V]
 | succ n ih =>
  simp only[zC8,V];have a1:=zHP hd n;have a2:=zHP he n;have a3:=jC hd n;have a4:=jC he n;have hp:=yT n
  by_cases h1:d n<e n
  ·have:d n*P n+P n<=e n*P n:=by
    have:=YA (show d n+1<=e n by omega) (show 0<=P n by omega)
    rw[Int.add_mul] at this;omega
   simp only[h1,if_true,zM];rw[if_pos (by omega)]
  ·by_cases h2:e n<d n
   ·have:e n*P n+P n<=d n*P n:=by
     have:=YA (show e n+1<=d n by omega) (show 0<=P n by omega)
     rw[Int.add_mul] at this;omega
    simp only[h1,h2,if_true,if_false,zM];rw[if_neg (by omega),if_pos (by omega)]
   ·have:d n=e n:=by omega
    simp only[h1,h2,if_false,ih,this];generalize e n*P n=t;unfold zM
    repeat' split
    all_goals omega
theorem V_ge {d:Nat->Int} (hd:Dgs d) (n:Nat) (h:d n≠0):P n<=V d (n+1):=by
 simp only[V];have:=jC hd n;have:=hd n;have hp:=yT n;have:=YA (show 1<=d n by omega) (show 0<=P n by omega)
 omega
theorem zJJ {d e:Nat->Int} (hd:Dgs d) (he:Dgs e) (n m:Nat) (h1:n=0\/d (n-1)≠0) (h2:m=0\/e (m-1)≠0):zG0 d e n m=zM (V d n) (V e m):=by
 unfold zG0
 by_cases D5:n<m
 ·have:=zHP hd n
  have hm:e (m-1)≠0:=by omega
  have:=V_ge he (m-1) hm;have e1:m-1+1=m:=by omega
  rw[e1] at this;have:=zBL (show n<=m-1 by omega)
  simp only[D5,if_true,zM];rw[if_pos (by omega)]
 ·by_cases Ap:m<n
  ·have:=zHP he m
   have hm:d (n-1)≠0:=by omega
   have:=V_ge hd (n-1) hm;have e1:n-1+1=n:=by omega
   rw[e1] at this;have:=zBL (show m<=n-1 by omega)
   simp only[D5,Ap,if_true,if_false,zM];rw[if_neg (by omega),if_pos (by omega)]
  ·have:n=m:=by omega
   subst this;simp only[D5,if_false];exact cmpTo_V hd he n
theorem zIZ {d e:Nat->Int} (hd:Dgs d) (he:Dgs e) (neg j6:Bool) (n m:Nat) (h1:n=0\/d (n-1)≠0) (h2:m=0\/e (m-1)≠0) (h3:n=0->neg=false) (h4:m=0->j6=false) :
  cmpI neg j6 d e n m=zM (sgn neg (V d n)) (sgn j6 (V e m)):=by
 have c:=zJJ hd he n m h1 h2;have a3:=jC hd n;have a4:=jC he m
 have zAV:neg=true->1<=V d n:=λ hn=>by
  have cT:n≠0:=λ h0=>by rw[h3 h0] at hn;cases hn
  have:=V_ge hd (n-1) (by omega)
  have e1:n-1+1=n:=by omega
  rw[e1] at this;have:=yT (n-1);omega
 have pos2:j6=true->1<=V e m:=λ hn=>by
  have cT:m≠0:=λ h0=>by rw[h4 h0] at hn;cases hn
  have:=V_ge he (m-1) (by omega)
  have e1:m-1+1=m:=by omega
  rw[e1] at this;have:=yT (m-1);omega
 generalize V d n=x at *;generalize V e m=y at *;clear h1 h2 h3 h4
 cases neg<;>cases j6<;>simp[cmpI,sgn,c] at*<;> unfold zM<;>repeat' split
 all_goals omega
attribute [local go_sem ↓] Go.wp_at_zero Go.wp_at_succ
theorem zFA {w:World} {b t N:Nat} {f:Nat->Int} (h:w.rowIs b t N (λ j=>.int .u16 (f j))) (hd:Dgs f) (hN:N<=70368744177664):Dig w (some ⟨b,0,none⟩) N N f :=
 ⟨λ _=>⟨b,0,rfl,h.lt,λ j hj=>by simpa using h.cell hj⟩,hd,YE _,hN⟩
theorem ofInt {w:World} {a:Option Addr} {N cap:Nat} {f:Nat->Int} (neg:Bool) (h:Dig w a N cap f):IntAt w (neg && decide (0<kD f N)) a (kD f N) cap N (sgn neg (V f N)):=by
 have hl:=zBT f N;have hV:=zDJ f N;refine⟨f,h.take hl,zCF f N,λ h0=>by simp[h0],hl,?_⟩
 by_cases h0:kD f N=0
 ·rw[h0] at hV ⊢;rw[<- hV];cases neg<;>simp[sgn,V]
 ·have:decide (0<kD f N)=true:=by simp;omega
  rw[this,hV];cases neg<;>rfl
theorem plus_dig (a c:Option Addr) (n m cap j9:Nat) (d e:Nat->Int) (w:World) (ha:Dig w a n cap d) (hc:Dig w c m j9 e) (hn:n<=1000000000) (hm:m<=1000000000) :
  Calls Tryz.prog 71 #[.slice a n cap,.slice c m j9] w λ r w'=>∃ a' N,Hid (N=max n m+1)/\r=.returned (.slice a' N N)/\Dig w' a' N N (zCU d e n m)/\Below w.heap.size w w' :=
 (plus_any a c n m cap j9 d e w ha hc hn hm).mono λ _ _ ⟨N,h1,h2,h3,h4⟩=>⟨_,N,h1,h2,zFA h3 (zJ7 _ _ _ _) (by omega),h4⟩
theorem zH9 (a c:Option Addr) (n m cap j9:Nat) (d e:Nat->Int) (w:World) (ha:Dig w a n cap d) (hc:Dig w c m j9 e) (hn:n<=1000000000) (hm:m<=1000000000) :
  Calls Tryz.prog 72 #[.slice a n cap,.slice c m j9] w λ r w'=>∃ a',r=.returned (.slice a' n n)/\Dig w' a' n n (zBF d e m)/\Below w.heap.size w w' :=
 (less_any a c n m cap j9 d e w ha hc hn hm).mono λ _ _ ⟨h2,h3,h4⟩=>⟨_,h2,zFA h3 (zF7 ha.dgs hc.dgs _) (by omega),h4⟩
theorem zBP (neg:Bool) (a:Option Addr) (n cap:Nat) (d:Nat->Int) (w:World) (h:Dig w a n cap d) :
  Calls Tryz.prog 70 #[.bool neg,.slice a n cap] w λ e w'=>∃ m8 a' n' o7,e=.returned (.agg #[.bool m8,.slice a' n' o7])/\IntAt w' m8 a' n' o7 n (sgn neg (V d n))/\Below w.heap.size w w' :=
 (of_any neg a n cap d w h).mono λ _ _ ⟨h1,h2⟩=>⟨_,_,_,_,h1,(ofInt neg h).bw h2,h2⟩
theorem jO (neg j6:Bool) (a a2:Option Addr) (n n2 cap j9 k k2:Nat) (x y:Int) (w:World) (h1:IntAt w neg a n cap k x) (h2:IntAt w j6 a2 n2 j9 k2 y) :
  Calls Tryz.prog 17 #[.agg #[.bool neg,.slice a n cap],.agg #[.bool j6,.slice a2 n2 j9]] w λ r w'=>r=.returned (.int .i64 (zM x y))/\Below w.heap.size w w':=by
 obtain⟨d,g1,g2,g3,g4,rfl⟩:=h1;obtain⟨d2,f1,f2,f3,f4,rfl⟩:=h2;rw[<- zIZ g1.dgs f1.dgs neg j6 n n2 g2 f2 g3 f3];exact cmp_any neg j6 a a2 n n2 cap j9 d d2 w g1 f1
theorem add_any (neg j6:Bool) (a c:Option Addr) (n m cap j9:Nat) (d e:Nat->Int) (w:World) (ha:Dig w a n cap d) (hc:Dig w c m j9 e) (hn:n<=1000000000) (hm:m<=1000000000)
  (h1:n=0\/d (n-1)≠0) (h2:m=0\/e (m-1)≠0) :
  Calls Tryz.prog 32 #[.agg #[.bool neg,.slice a n cap],.agg #[.bool j6,.slice c m j9]] w λ r w' =>
   ∃ m8 a' n' o7,r=.returned (.agg #[.bool m8,.slice a' n' o7])/\IntAt w' m8 a' n' o7 (max n m+1) (sgn neg (V d n)+sgn j6 (V e m))/\Below w.heap.size w w':=by
 by_cases hs:neg=j6
 ·subst hs
  have hs:(neg == neg)=true:=by simp
  have nJ:w.heap.size≠w.heap.size+1+1:=by omega
  have nM:w.heap.size+1+1≠w.heap.size:=by omega
  go_enter Tryz.func32,Tryz.ntmps32
  go_wp2
  go_region_held3 (λ w'=>w'.cell? ⟨w.heap.size,0,none⟩=some (.bool neg)/\w'.cell? ⟨w.heap.size,1,none⟩=some (.slice a n cap)/\w'.cell? ⟨w.heap.size+1,1,none⟩=some (.slice c m j9)) (go_keep)
   (first
    | (go_at_call 71;refine (plus_dig _ _ _ _ _ _ d e _ (ha.bw (bl3 _ _ _ _).drew) (hc.bw (bl3 _ _ _ _).drew) hn hm).mono ?_;rintro r w1 ⟨a',N,HN,rfl,en,hb⟩;obtain⟨X7,hcell,fK⟩:=jJ (w.heap.size+3) (by simp) hb)
    | (go_at_call 70;refine (zBP _ _ _ _ (zCU d e n m) _ en).mono ?_;rintro r w2 ⟨m8,a2,n2,c2,rfl,hint,j8⟩;obtain⟨E2,E4,F9⟩:=jJ (w.heap.size+3) X7 j8))
  go_wp2;refine bodyPost_ret (v:=.agg #[.bool m8,.slice a2 n2 c2]) (by simp[results,Tryz.results32,go_sem,E4,hcell]) rfl ⟨m8,a2,n2,c2,rfl,?_,?_⟩
  ·have hV:=plus_V ha.dgs hc.dgs n m
   have h0:w2.cell? ⟨w.heap.size+1+1,0,none⟩=some (.bool false):=by simp[E4,hcell,go_sem]
   have J1:w2.cell? ⟨w.heap.size+1+1,1,none⟩=some (.slice none 0 0):=by simp[E4,hcell,go_sem]
   rw[zA HN,hV] at hint;have e1:sgn neg (V d n+V e m)=sgn neg (V d n)+sgn neg (V e m):=by cases neg<;>simp[sgn];omega
   rw[e1] at hint;exact hint.put2 h0 J1 _ _
  ·exact ((zB (zB (bl3 _ _ _ _).drew hb) j8).setCell (by simp;omega) _).setCell (by simp;omega) _
 ·have X6:(neg == j6)=false:=by simpa using hs
  have nJ:w.heap.size≠w.heap.size+1+1:=by omega
  have nM:w.heap.size+1+1≠w.heap.size:=by omega
  have hcv:=zJJ ha.dgs hc.dgs n m h1 h2
  by_cases az:0<=zG0 d e n m
  ·have hle:V e m<=V d n:=by
    rw[hcv] at az;unfold zM at az;split at az<;>omega
   have wO:m<=n:=by
    unfold zG0 at az;split at az<;>omega
   have Hv:=zC (show sgn neg (V (zBF d e m) n)=sgn neg (V d n)+sgn j6 (V e m) by
    rw[zR6 ha.dgs hc.dgs n m wO hle];cases neg<;>cases j6<;>simp[sgn] at*<;> omega)
   clear hcv
   go_enter Tryz.func32,Tryz.ntmps32
   go_wp2_with (go_at_call 53;refine (yG _ _ _ _ _ _ d e _ (ha.bw (bl3 _ _ _ _)) (hc.bw (bl3 _ _ _ _))).mono ?_;rintro r w0 ⟨rfl,E8⟩;obtain⟨bN,fo,oC⟩:=jJ (w.heap.size+3) (by simp) E8)
   go_region_held3 (λ w'=>w'.cell? ⟨w.heap.size,0,none⟩=some (.bool neg)/\w'.cell? ⟨w.heap.size,1,none⟩=some (.slice a n cap)/\w'.cell? ⟨w.heap.size+1,1,none⟩=some (.slice c m j9)) (go_keep)
    (first
     | (go_at_call 72;refine (zH9 _ _ _ _ _ _ d e _ (ha.bw (zB (bl3 _ _ _ _) E8).drew) (hc.bw (zB (bl3 _ _ _ _) E8).drew) hn hm).mono ?_;rintro r w1 ⟨a',rfl,en,hb⟩;obtain⟨X7,hcell,fK⟩:=jJ (w.heap.size+3) (by exact bN) hb)
     | (go_at_call 70;refine (zBP _ _ _ _ (zBF d e m) _ en).mono ?_;rintro r w2 ⟨m8,a2,n2,c2,rfl,hint,j8⟩;obtain⟨E2,E4,F9⟩:=jJ (w.heap.size+3) X7 j8))
   go_wp2;refine bodyPost_ret (v:=.agg #[.bool m8,.slice a2 n2 c2]) (by simp[results,Tryz.results32,go_sem,E4,hcell,fo]) rfl ⟨m8,a2,n2,c2,rfl,?_,?_⟩
   ·have h0:w2.cell? ⟨w.heap.size+1+1,0,none⟩=some (.bool false):=by simp[E4,hcell,fo,go_sem]
    have J1:w2.cell? ⟨w.heap.size+1+1,1,none⟩=some (.slice none 0 0):=by simp[E4,hcell,fo,go_sem]
    rw[zA Hv] at hint;exact (hint.put2 h0 J1 _ _).mono (by omega)
   ·exact ((zB (zB (zB (bl3 _ _ _ _) E8).drew hb) j8).setCell (by simp;omega) _).setCell (by simp;omega) _
  ·have hle:V d n<=V e m:=by
    rw[hcv] at az;unfold zM at az;split at az<;>omega
   have wO:n<=m:=by
    unfold zG0 at az;split at az<;>(try split at az)<;>omega
   have Hv:=zC (show sgn j6 (V (zBF e d n) m)=sgn neg (V d n)+sgn j6 (V e m) by
    rw[zR6 hc.dgs ha.dgs m n wO hle];cases neg<;>cases j6<;>simp[sgn] at*<;> omega)
   clear hcv
   go_enter Tryz.func32,Tryz.ntmps32
   go_wp2_with (go_at_call 53;refine (yG _ _ _ _ _ _ d e _ (ha.bw (bl3 _ _ _ _)) (hc.bw (bl3 _ _ _ _))).mono ?_;rintro r w0 ⟨rfl,E8⟩;obtain⟨bN,fo,oC⟩:=jJ (w.heap.size+3) (by simp) E8)
   go_region_held3 (λ w'=>w'.cell? ⟨w.heap.size+1,0,none⟩=some (.bool j6)/\w'.cell? ⟨w.heap.size+1,1,none⟩=some (.slice c m j9)/\w'.cell? ⟨w.heap.size,1,none⟩=some (.slice a n cap)) (go_keep)
    (first
     | (go_at_call 72;refine (zH9 _ _ _ _ _ _ e d _ (hc.bw (zB (bl3 _ _ _ _) E8).drew) (ha.bw (zB (bl3 _ _ _ _) E8).drew) hm hn).mono ?_;rintro r w1 ⟨a',rfl,en,hb⟩;obtain⟨X7,hcell,fK⟩:=jJ (w.heap.size+3) (by exact bN) hb)
     | (go_at_call 70;refine (zBP _ _ _ _ (zBF e d n) _ en).mono ?_;rintro r w2 ⟨m8,a2,n2,c2,rfl,hint,j8⟩;obtain⟨E2,E4,F9⟩:=jJ (w.heap.size+3) X7 j8))
   go_wp2;refine bodyPost_ret (v:=.agg #[.bool m8,.slice a2 n2 c2]) (by simp[results,Tryz.results32,go_sem,E4,hcell,fo]) rfl ⟨m8,a2,n2,c2,rfl,?_,?_⟩
   ·have h0:w2.cell? ⟨w.heap.size+1+1,0,none⟩=some (.bool false):=by simp[E4,hcell,fo,go_sem]
    have J1:w2.cell? ⟨w.heap.size+1+1,1,none⟩=some (.slice none 0 0):=by simp[E4,hcell,fo,go_sem]
    rw[zA Hv] at hint;exact (hint.put2 h0 J1 _ _).mono (by omega)
   ·exact ((zB (zB (zB (bl3 _ _ _ _) E8).drew hb) j8).setCell (by simp;omega) _).setCell (by simp;omega) _
theorem zFX (b off j:Nat):(⟨b,off,none⟩:Addr).add j=⟨b,off+j,none⟩:=by unfold Addr.add;split<;>simp_all
def yH (d:Nat->Int) (n:Nat):List Value:=(List.range n).map λ j=>.int .u16 (d j)
theorem yK (d:Nat->Int) (n:Nat):(yH d n).length=n:=by simp[yH]
theorem zB6 (d:Nat->Int) (n j:Nat) (hj:j<n):(yH d n)[j]?=some (.int .u16 (d j)):=by simp[yH,hj]
theorem zF0 {d:Nat->Int} {n j:Nat} {u:Value} (h:(yH d n)[j]?=some u):j<n/\u=.int .u16 (d j):=by
 by_cases hj:j<n
 ·rw[zB6 d n j hj] at h;exact⟨hj,(Option.some.inj h).symm⟩
 ·rw[List.getElem?_eq_none (by rw[yK];omega)] at h;cases h
theorem zG3 (d:Nat->Int) (n:Nat):∀ u ∈ yH d n,u.oneCell'=true:=by
 intro u hu
 obtain⟨j,_,rfl⟩:=List.mem_map.1 hu
 rfl
theorem zGK {Pr:Program} (w:World) (t ty e:TypeId) (i:TypeInfo) (z:Value) (ht:Pr.underlying t=some (.slice e)) (hi:Pr.info? e=some i) (hz:i.zero=some z) (h4:i.size=1) (hb:i.bytes=2)
  (b:Nat) (ad:Option Addr) (n cap:Nat) (d:Nat->Int) (hD:Dig w ad n cap d) (hn:n<=1000000000) :
  ∃ a' o7 w',(Builtin.append_ #[t,t] ty #[.slice (some ⟨b,0,none⟩) 0 0,.slice ad n cap]).run Pr w=.ok (.slice a' n o7) w'/\Dig w' a' n o7 d/\Below w.heap.size w w':=by
 by_cases h0:n=0
 ·subst h0
  have hs:Src Pr i.size t (.slice ad 0 cap) 0 [] w:=by
   cases ad with
   | none=>exact Src.ofNil w ht cap
   | some ad=>exact Src.ofSlice w ht ad 0 cap [] (by simp) (by simp) (by simp)
  have hr:=run_append_room_src (P:=Pr) w t t ty e i ht hi b 0 0 0 (.slice ad 0 cap) 0 [] hs (by omega) (by simp) (by simp)
  exact⟨_,_,_,hr,⟨λ h=>by omega,hD.dgs,YE _,by omega⟩,by simp[World.setCells];exact Below.refl _ _⟩
 ·obtain⟨b1,off,rfl,b9,hc⟩:=hD.at_ (by omega)
  have hs:Src Pr i.size t (.slice (some ⟨b1,off,none⟩) n cap) n (yH d n) w :=
   Src.ofSlice w ht ⟨b1,off,none⟩ n cap (yH d n) (by rw[yK,h4];omega) (λ j u hu=>by
    obtain⟨hj,rfl⟩:=zF0 hu
    rw[zFX];exact hc j hj) (zG3 d n)
  have hr:=run_append_grow_src (P:=Pr) w t t ty e i z ht hi hz (some ⟨b,0,none⟩) 0 0 [] (run_firstCells_some w.drew i.size 0 ⟨b,0,none⟩ 0 0 [] (by simp) (by simp)) (.slice (some ⟨b1,off,none⟩) n cap) n (yH d n) hs (by omega) (by omega)
   (by rw[hb];unfold Builtin.nextslicecap;rw[if_pos (by omega)];omega)
  simp only[Nat.zero_add,List.nil_append] at hr;refine⟨_,_,_,hr,⟨λ _=>⟨w.heap.size,0,rfl,?_,λ j hj=>?_⟩,hD.dgs,grownCap_ge w n 0 e,by omega⟩,(Below.refl _ _).drew.alloc (YE _) _⟩
  ·show w.heap.size<(w.drew.alloc _).heap.size
   simp
  ·rw[World.cell?_alloc_at _ _ _ _ (show w.heap.size=w.drew.heap.size from rfl)]
   rw[Nat.zero_add,Array.getElem?_append_left (by simp[yK];exact hj)]
   simpa using zB6 d n j hj
theorem zFE {Pr:Program} {ops:Array Oper} {o:Oper} {a:Act} {w:World} {K:Act->World->Prop} {Q:Exit->Act->World->Prop} {E:Prop}
  (hg:o.guard=none) (s x:Operand) (t:TypeId) (wR:o.op=Op.call { callee:=Callee.builtin Builtin.append,args:=#[s,x],argTypes:=#[t,t] })
  (e:TypeId) (ht:Pr.underlying t=some (.slice e)) (hinfo:(Pr.info? e).map (λ i=>(i.zero,i.size,i.bytes))=some (some (.int .u16 0),1,2))
  (b:Nat) (hs:a.eval s=.slice (some ⟨b,0,none⟩) 0 0) (ad:Option Addr) (n cap:Nat) (d:Nat->Int) (hx:a.eval x=.slice ad n cap) (hD:Dig w ad n cap d) (hn:n<=1000000000)
  (hK:∀ a' o7 w',Dig w' a' n o7 d->Below w.heap.size w w'->K (a.put o.dst (.slice a' n o7)) w') :
  if Region.wanted o (yielded ops a.tmps)=true then Oper.wp Pr o a w K Q else E:=by
 have hw:Region.wanted o (yielded ops a.tmps)=true:=by simp[Region.wanted,hg]
 rw[if_pos hw];obtain⟨i,hi,AE⟩:=Option.map_eq_some_iff.1 hinfo;simp only[Prod.mk.injEq] at AE;obtain⟨hz,X7,hby⟩:=AE;obtain⟨a',o7,w',wT,h1,h2⟩:=zGK (Pr:=Pr) w t o.type e i _ ht hi hz X7 hby b ad n cap d hD hn;unfold Oper.wp;simp[execOp,wR,resolve,invoke,builtin,hs,hx,wT,Result.andThen];exact hK a' o7 w' h1 h2
theorem zAE (neg j6:Bool) (a c:Option Addr) (n m cap j9 k k2:Nat) (x y:Int) (w:World) (h1:IntAt w neg a n cap k x) (h2:IntAt w j6 c m j9 k2 y) (hk:k<=1000000000) (aJ:k2<=1000000000) :
  Calls Tryz.prog 32 #[.agg #[.bool neg,.slice a n cap],.agg #[.bool j6,.slice c m j9]] w λ r w' =>
   ∃ m8 a' n' o7,r=.returned (.agg #[.bool m8,.slice a' n' o7])/\IntAt w' m8 a' n' o7 (max k k2+1) (x+y)/\Below w.heap.size w w':=by
 obtain⟨d,g1,g2,g3,g4,rfl⟩:=h1;obtain⟨e,f1,f2,f3,f4,rfl⟩:=h2;exact (add_any neg j6 a c n m cap j9 d e w g1 f1 (by omega) (by omega) g2 f2).mono λ _ _ ⟨n1,n2,n3,n4,q1,q2,q3⟩=>⟨n1,n2,n3,n4,q1,q2.mono (by omega),q3⟩
theorem zBI (neg j6:Bool) (a c:Option Addr) (n m cap j9 k k2:Nat) (x y:Int) (w:World) (h1:IntAt w neg a n cap k x) (h2:IntAt w j6 c m j9 k2 y) (hk:k<=1000000000) (aJ:k2<=1000000000) :
  Calls Tryz.prog 35 #[.agg #[.bool neg,.slice a n cap],.agg #[.bool j6,.slice c m j9]] w λ r w' =>
   ∃ m8 a' n' o7,r=.returned (.agg #[.bool m8,.slice a' n' o7])/\IntAt w' m8 a' n' o7 (max k k2+1) (x-y)/\Below w.heap.size w w':=by
 have H1:=zC h1;obtain⟨e,f1,f2,f3,f4,fy⟩:=h2;have Hy:=zC (show sgn (!j6) (V e m) = -y by rw[fy];cases j6<;>simp[sgn])
 have Hx:=zC (show x + -y=x-y by omega)
 clear h1 fy;have nJ:w.heap.size≠w.heap.size+1+1:=by omega
 have nM:w.heap.size+1+1≠w.heap.size:=by omega
 go_enter Tryz.func35,Tryz.ntmps35
 go_wp2
 go_region_held3 (λ w'=>w'.cell? ⟨w.heap.size,0,none⟩=some (.bool neg)/\w'.cell? ⟨w.heap.size,1,none⟩=some (.slice a n cap)/\w'.cell? ⟨w.heap.size+1,0,none⟩=some (.bool j6)/\w'.cell? ⟨w.heap.size+1,1,none⟩=some (.slice c m j9)) (go_keep)
  (first
   | (go_at_call 70;refine (zBP _ _ _ _ e _ (f1.bw (bl3 _ _ _ _).drew)).mono ?_;rintro r w1 ⟨m7,a1,n1,c1,rfl,o8,hb⟩;obtain⟨X7,hcell,fK⟩:=jJ (w.heap.size+3) (by simp) hb)
   | (go_at_call 32;refine (zAE _ _ _ _ _ _ _ _ k m x _ _ ((zA H1).bw (zB (bl3 _ _ _ _).drew hb)) o8 hk (by omega)).mono ?_;rintro r w2 ⟨m8,a2,n2,c2,rfl,hint,j8⟩;obtain⟨E2,E4,F9⟩:=jJ (w.heap.size+3) X7 j8))
 go_wp2;refine bodyPost_ret (v:=.agg #[.bool m8,.slice a2 n2 c2]) (by simp[results,Tryz.results35,go_sem,E4,hcell]) rfl ⟨m8,a2,n2,c2,rfl,?_,?_⟩
 ·have h0:w2.cell? ⟨w.heap.size+1+1,0,none⟩=some (.bool false):=by simp[E4,hcell,go_sem]
  have J1:w2.cell? ⟨w.heap.size+1+1,1,none⟩=some (.slice none 0 0):=by simp[E4,hcell,go_sem]
  rw[zA Hy,zA Hx] at hint;exact (hint.put2 h0 J1 _ _).mono (by omega)
 ·exact ((zB (zB (bl3 _ _ _ _).drew hb) j8).setCell (by simp;omega) _).setCell (by simp;omega) _
theorem zA2 (neg:Bool) (a:Option Addr) (n cap k:Nat) (x:Int) (w:World) (h1:IntAt w neg a n cap k x) (hk:k<=1000000000) :
  Calls Tryz.prog 87 #[.agg #[.bool neg,.slice a n cap]] w λ r w' =>
   ∃ m8 a' n' o7,r=.returned (.agg #[.bool m8,.slice a' n' o7])/\IntAt w' m8 a' n' o7 k (-x)/\Below w.heap.size w w':=by
 obtain⟨d,f1,f2,f3,f4,fy⟩:=h1;have Hy:=zC (show sgn (!neg) (V d n) = -x by rw[fy];cases neg<;>simp[sgn])
 clear fy
 go_enter Tryz.func87,Tryz.ntmps87
 go_wp2
 go_region_held3 (λ w'=>w'.cell? ⟨w.heap.size,0,none⟩=some (.bool neg)/\w'.cell? ⟨w.heap.size,1,none⟩=some (.slice a n cap)) (go_keep)
  (first
   | (refine zFE (by rfl) _ _ 27 (by rfl) 94 Tryz.underlying27 Tryz.infoU16 _ (by rfl) _ _ _ d (by rfl) (f1.bw (bl3 _ _ _ _).drew) (by omega) ?_;intro a1 c1 w1 en hb;obtain⟨X7,hcell,fK⟩:=jJ (w.heap.size+2) (by simp) hb)
   | (go_at_call 70;refine (zBP _ _ _ _ d _ en).mono ?_;rintro r w2 ⟨m8,a2,n2,c2,rfl,hint,j8⟩;obtain⟨E2,E4,F9⟩:=jJ (w.heap.size+2) X7 j8))
 go_wp2;refine bodyPost_ret (v:=.agg #[.bool m8,.slice a2 n2 c2]) (by simp[results,Tryz.results87,go_sem,E4,hcell]) rfl ⟨m8,a2,n2,c2,rfl,?_,?_⟩
 ·have h0:w2.cell? ⟨w.heap.size+1,0,none⟩=some (.bool false):=by simp[E4,hcell,go_sem]
  have J1:w2.cell? ⟨w.heap.size+1,1,none⟩=some (.slice none 0 0):=by simp[E4,hcell,go_sem]
  rw[zA Hy] at hint;exact (hint.put2 h0 J1 _ _).mono (by omega)
 ·exact ((zB (zB (bl3 _ _ _ _).drew hb) j8).setCell (by simp) _).setCell (by simp) _
def upd (o:Nat->Int) (p:Nat) (v:Int) (j:Nat):Int:=if j=p then v else o j
theorem kX {o:Nat->Int} (h:Dgs o) (p:Nat) {v:Int} (h0:0<=v) (h1:v<65536):Dgs (upd o p v):=by
 intro j;unfold upd;split
 ·exact⟨h0,h1⟩
 ·exact h j
theorem zPR (o:Nat->Int) (p:Nat) (v:Int) (N:Nat) (hp:p<N):V (upd o p v) N=V o N+(v-o p)*P p:=by
 induction N with
 | zero=>omega
 | succ N ih =>
  simp only[V]
  by_cases hN:p=N
  ·subst hN
   have:V (upd o p v) p=V o p:=zCK p (λ j hj=>by simp[upd];omega)
   rw[this];simp only[upd,if_true,Int.sub_mul];omega
  ·rw[ih (by omega)]
   have:upd o p v N=o N:=by simp[upd];omega
   rw[this];omega
theorem zDI {wr:World} {b t N:Nat} {o:Nat->Int} (h:wr.rowIs b t N (λ j=>.int .u16 (o j))) (p:Nat) {v u:Int} (hv:u=v) :
  (wr.setCell ⟨b,p,none⟩ (.int .u16 u)).rowIs b t N (λ j=>.int .u16 (upd o p v j)):=by
 refine (h.set p (.int .u16 u)).congr λ j _=>?_
 subst hv;unfold upd;split<;>rfl
theorem zQA (n:Nat):V (λ _=>0) n=0:=by
 induction n with
 | zero=>rfl
 | succ n ih=>simp[V,ih]
theorem mul_alg (x v y:Int) (i k:Nat):x*(v+y*P k)*P i=x*v*P i+x*y*P (i+k):=by
 rw[P_add,Int.mul_add,Int.add_mul,<- Int.mul_assoc x y (P k),Int.mul_assoc (x*y),Int.mul_comm (P k) (P i)]
theorem mul_step {o:Nat->Int} {N p:Nat} (hp:p<N) (c x y:Int) {T:Int} (h:V o N+c*P p=T):V (upd o p ((c+(x*y+o p)) % 65536)) N+((c+(x*y+o p))/65536)*P (p+1)=T+x*y*P p:=by
 rw[zPR _ _ _ _ hp]
 have h1:((c+(x*y+o p)) % 65536-o p)*P p+(c+(x*y+o p))/65536*(65536*P p)=(c+x*y)*P p:=by
  rw[<- Int.mul_assoc,<- Int.add_mul];congr 1;omega
 have h2:(c+x*y)*P p=c*P p+x*y*P p:=Int.add_mul _ _ _;simp only[P];omega
theorem zJY {x y c z:Int} (hx:0<=x/\x<65536) (hy:0<=y/\y<65536) (hc:0<=c/\c<65536) (hz:0<=z/\z<65536) :
  0<=x*y/\x*y<=4294836225:=by
 refine⟨YF hx.1 hy.1,?_⟩;have h1:x*y<=65535*y:=YA (by omega) hy.1
 omega
theorem mul_any (neg j6:Bool) (a c:Option Addr) (n m cap j9:Nat) (d e:Nat->Int) (w:World) (ha:Dig w a n cap d) (hc:Dig w c m j9 e) (hn:n<=1000000000) (hm:m<=1000000000) :
  Calls Tryz.prog 83 #[.agg #[.bool neg,.slice a n cap],.agg #[.bool j6,.slice c m j9]] w λ r w' =>
   ∃ m8 a' n' o7,r=.returned (.agg #[.bool m8,.slice a' n' o7])/\IntAt w' m8 a' n' o7 (n+m) (sgn (neg != j6) (V d n*V e m))/\Below w.heap.size w w':=by
 obtain⟨W,hW⟩:∃ W,W=((w.alloc (.cells #[.bool neg,.slice a n cap] 29)).alloc (.cells #[.bool j6,.slice c m j9] 29)).alloc (.cells #[.bool false,.slice none 0 0] 29):=⟨_,rfl⟩;have b3:Below w.heap.size w W:=by rw[hW];exact bl3 _ _ _ _
 have s3:W.heap.size=w.heap.size+1+1+1:=by rw[hW];simp
 have k0:W.cell? ⟨w.heap.size,0,none⟩=some (.bool neg):=by rw[hW];simp[go_sem]
 have k1:W.cell? ⟨w.heap.size+1,0,none⟩=some (.bool j6):=by rw[hW];simp[go_sem]
 have k2:W.cell? ⟨w.heap.size+1,1,none⟩=some (.slice c m j9):=by rw[hW];simp[go_sem]
 have k3:W.cell? ⟨w.heap.size+1+1,0,none⟩=some (.bool false):=by rw[hW];simp[go_sem]
 have k4:W.cell? ⟨w.heap.size+1+1,1,none⟩=some (.slice none 0 0):=by rw[hW];simp[go_sem]
 have k5:∀ o,W.frozen? ⟨w.heap.size+1+1,o,none⟩=false:=by intro o;rw[hW];simp[go_sem]
 have HW:=zC hW;clear hW;have aK:=run_make_row' (P:=Tryz.prog) 27 94 (.int .u16 0) 2 Tryz.underlying27 Tryz.infoU16 rfl .i64 .i64 (n+m) (by omega) (by omega)
 have fR:((n+m:Nat):Int)=(n:Int)+m:=by omega
 rw[fR] at aK;clear fR
 go_enter Tryz.func83,Tryz.ntmps83
 go_wp2;clear aK
 go_loopw [22] (λ ii wr=>∃ (i:Nat) (o:Nat->Int),i<=n/\ii=.int .i64 i/\wr.rowIs (w.heap.size+1+1+1) 94 (n+m) (λ j=>.int .u16 (o j))/\Dgs o/\V o (n+m)=V d i*V e m/\(∀ j,i+m<=j->o j=0)/\Below (w.heap.size+1+1+1) W wr) (λ ii _=>n-(intOf ii).toNat)
 case atStart =>
  refine⟨0,λ _=>0,Nat.zero_le _,rfl,?_,λ _=>⟨by simp,by simp⟩,?_,λ _ _=>rfl,?_⟩
  ·have:=World.rowIs_made W (.int .u16 0) (n+m) 94
   rw[s3,zA HW] at this;exact this
  ·rw[zQA];simp[V]
  ·rw[zA HW];exact (Below.refl _ _).alloc (by simp) _
 case round =>
  obtain⟨i,o,hi,rfl,D3,O0,aS,cj,B9⟩:=hrel
  by_cases I7:i<n
  ·obtain⟨b1,o1,rfl,b9,D7⟩:=ha.at_ (by omega)
   have g1:wr.cell? ⟨b1,o1+i,none⟩=some (.int .u16 (d i)):=(B9.cell (p:=⟨b1,o1+i,none⟩) (by show b1<_;omega)).trans ((b3.cell (p:=⟨b1,o1+i,none⟩) b9).trans (D7 i I7))
   have q2:wr.cell? ⟨w.heap.size+1,1,none⟩=some (.slice c m j9):=(B9.cell (p:=⟨w.heap.size+1,1,none⟩) (by simp)).trans k2
   have db:=ha.dgs i;have HV:=zC aS;have HZ:=zC cj;have HR:=zC D3;have HD:=zC O0;clear D7 aS cj D3 O0;go_wp2
   go_loopw [8,30] (λ cy kk wq=>∃ (k:Nat) (o':Nat->Int) (cz:Int),k<=m/\kk=.int .i64 k/\cy=.int .u32 cz/\0<=cz/\cz<65536/\wq.rowIs (w.heap.size+1+1+1) 94 (n+m) (λ j=>.int .u16 (o' j))/\Dgs o'/\V o' (n+m)+cz*P (i+k)=V d i*V e m+d i*V e k*P i/\(∀ j,i+m<=j->o' j=0)/\Below (w.heap.size+1+1+1) W wq) (λ _ kk _=>m-(intOf kk).toNat)
   case atStart =>
    exact⟨0,o,0,Nat.zero_le _,rfl,rfl,by omega,by omega,zA HR,zA HD,by rw[zA HV];simp[V],zA HZ,B9⟩
   case round =>
    obtain⟨k,o',cz,hk,rfl,rfl,X9,G7,D3,O0,aS,cj,B9⟩:=hrel
    by_cases aB:k<m
    ·obtain⟨b2,o2,rfl,j8,E7⟩:=hc.at_ (by omega)
     have g2:wr.cell? ⟨b2,o2+k,none⟩=some (.int .u16 (e k)):=(B9.cell (p:=⟨b2,o2+k,none⟩) (by show b2<_;omega)).trans ((b3.cell (p:=⟨b2,o2+k,none⟩) j8).trans (E7 k aB))
     have eb:=hc.dgs k;have r1:=D3.cell (show i+k<n+m by omega)
     have r2:=D3.frozen (i+k);have ob:=O0 (i+k);have pb:=zJY db eb ⟨X9,G7⟩ ob;clear E7;go_wp2
     go_roundw
     case rel =>
      refine⟨k+1,upd o' (i+k) ((cz+(d i*e k+o' (i+k))) % 65536),(cz+(d i*e k+o' (i+k)))/65536,by omega,by go_num,rfl,by omega,by omega,zDI D3 (i+k) (zAX _),kX O0 _ (by omega) (by omega),?_,λ j hj=>?_,B9.setCell (by simp) _⟩
      ·have h1:=mul_step (show i+k<n+m by omega) cz (d i) (e k) aS
       have h2:=mul_alg (d i) (V e k) (e k) i k;simp only[V];rw[<- Nat.add_assoc];omega
      ·have:j≠i+k:=by omega
       simp[upd,this];exact cj j hj
     case measure=>simp[intOf];omega
    ·have hkE:k=m:=by omega
     subst hkE;have r1:=D3.cell (show i+k<n+k by omega)
     have r2:=D3.frozen (i+k);have q2:wr.cell? ⟨w.heap.size+1,1,none⟩=some (.slice c k j9):=(B9.cell (p:=⟨w.heap.size+1,1,none⟩) (by simp)).trans k2
     have Kn:=cj (i+k) (by omega)
     have mW:=zC aS;have VA:=zC cj;have HI:=zC Kn;clear aS cj Kn;go_wp2
     go_roundw
     case rel =>
      refine⟨i+1,upd o' (i+k) cz,by omega,by go_num,zDI D3 (i+k) rfl,kX O0 _ X9 G7,?_,λ j hj=>?_,B9.setCell (by simp) _⟩
      ·rw[zPR _ _ _ _ (by omega),zA HI,Int.sub_zero,zA mW]
       simp only[V];rw[Int.add_mul,Int.mul_assoc (d i),Int.mul_comm (V e k) (P i),<- Int.mul_assoc]
      ·have:j≠i+k:=by omega
       simp[upd,this];exact zA VA j (by omega)
     case measure=>simp[intOf];omega
  ·have hiE:i=n:=by omega
   subst hiE;have q0:wr.cell? ⟨w.heap.size,0,none⟩=some (.bool neg):=(B9.cell (p:=⟨w.heap.size,0,none⟩) (by simp;omega)).trans k0
   have q1:wr.cell? ⟨w.heap.size+1,0,none⟩=some (.bool j6):=(B9.cell (p:=⟨w.heap.size+1,0,none⟩) (by simp)).trans k1
   have q3:wr.cell? ⟨w.heap.size+1+1,0,none⟩=some (.bool false):=(B9.cell (p:=⟨w.heap.size+1+1,0,none⟩) (by simp)).trans k3
   have q4:wr.cell? ⟨w.heap.size+1+1,1,none⟩=some (.slice none 0 0):=(B9.cell (p:=⟨w.heap.size+1+1,1,none⟩) (by simp)).trans k4
   have q5:∀ o,wr.frozen? ⟨w.heap.size+1+1,o,none⟩=false:=λ o=>(B9.frozen (p:=⟨w.heap.size+1+1,o,none⟩) (by simp)).trans (k5 o)
   have T8:=B9.size;rw[s3] at T8;have HR:=zC (zFA D3 O0 (by omega))
   have HV:=zC aS;clear aS cj D3 O0;go_wp2_with (go_at_call 70;refine (zBP _ _ _ _ o _ (zA HR)).mono ?_;rintro r w2 ⟨m8,a2,n2,c2,rfl,hint,j8⟩;obtain⟨E2,E4,F9⟩:=jJ (w.heap.size+1+1+1) T8 j8);refine bodyPost_ret (v:=.agg #[.bool m8,.slice a2 n2 c2]) (by simp[results,Tryz.results83,go_sem,E4,q3,q4]) rfl ⟨m8,a2,n2,c2,rfl,?_,?_⟩
   ·have h0:w2.cell? ⟨w.heap.size+1+1,0,none⟩=some (.bool false):=by simp[E4,q3]
    have J1:w2.cell? ⟨w.heap.size+1+1,1,none⟩=some (.slice none 0 0):=by simp[E4,q4]
    rw[zA HV] at hint;exact hint.put2 h0 J1 _ _
   ·exact ((zB (b3.trans (B9.mono (by omega))) j8).setCell (by simp;omega) _).setCell (by simp;omega) _
theorem zT (neg j6:Bool) (a c:Option Addr) (n m cap j9 k k2:Nat) (x y:Int) (w:World) (h1:IntAt w neg a n cap k x) (h2:IntAt w j6 c m j9 k2 y) (hk:k<=1000000000) (aJ:k2<=1000000000) :
  Calls Tryz.prog 83 #[.agg #[.bool neg,.slice a n cap],.agg #[.bool j6,.slice c m j9]] w λ r w' =>
   ∃ m8 a' n' o7,r=.returned (.agg #[.bool m8,.slice a' n' o7])/\IntAt w' m8 a' n' o7 (k+k2) (x*y)/\Below w.heap.size w w':=by
 obtain⟨d,g1,g2,g3,g4,rfl⟩:=h1;obtain⟨e,f1,f2,f3,f4,rfl⟩:=h2
 have hs:sgn (neg != j6) (V d n*V e m)=sgn neg (V d n)*sgn j6 (V e m):=by
  cases neg<;>cases j6<;>simp[sgn,Int.neg_mul,Int.mul_neg]
 rw[<- hs];exact (mul_any neg j6 a c n m cap j9 d e w g1 f1 (by omega) (by omega)).mono λ _ _ ⟨n1,n2,n3,n4,q1,q2,q3⟩=>⟨n1,n2,n3,n4,q1,q2.mono (by omega),q3⟩
def Own (w:World) (base:Nat) (e:TypeId) (a:Option Addr) (n cap:Nat) (d:Nat->Int):Prop:=w.ownsRow base e 1 (.slice a n cap) n (yH d n)
theorem zEQ (d:Nat->Int) (n:Nat) (v:Int):yH (upd d n v) (n+1)=yH d n ++ [.int .u16 v]:=by
 unfold yH;rw[List.range_succ,List.map_append]
 congr 1
 ·apply List.map_congr_left
  intro j hj
  have:=List.mem_range.1 hj;have:j≠n:=by omega
  simp[upd,this]
 ·simp[upd]
theorem Own.dig {w:World} {base:Nat} {e:TypeId} {a:Option Addr} {n cap:Nat} {d:Nat->Int} (h:Own w base e a n cap d) (hd:Dgs d) (hn:n<=70368744177664):Dig w a n cap d:=by
 have h':w.ownsRow base e 1 (.slice a n cap) n (yH d n):=h;refine⟨λ h0=>?_,hd,?_,hn⟩
 ·obtain⟨g,c2,hv,h1,h2⟩:=World.ownsRow.form h' h0
  simp only[Value.slice.injEq] at hv;obtain⟨rfl,_,rfl⟩:=hv;refine⟨g,0,rfl,h2,λ j hj=>?_⟩
  have:=World.ownsRow.cellAt h' j (by omega)
  rw[Nat.zero_add,this,zB6 d n j hj]
 ·rcases h'.2 with⟨hv,h0⟩|⟨g,c2,cur,hv,_,_,hle,_⟩
  ·omega
  ·simp only[Value.slice.injEq] at hv
   omega
theorem Own.nil (w:World) (base:Nat) (e:TypeId) (d:Nat->Int):Own w base e none 0 0 d:=World.ownsRow_nil w base e 1
theorem Own.alloc {w:World} {base:Nat} {e:TypeId} {a:Option Addr} {n cap:Nat} {d:Nat->Int} (h:Own w base e a n cap d) (o:Obj):Own (w.alloc o) base e a n cap d:=World.ownsRow.alloc h o
theorem jA {Pr:Program} (w:World) {ops:Array Oper} {rest:List Oper} {o:Oper} {act:Act} {Q:Exit->Act->World->Prop} (CS:o.guard=none) (s x:Operand) (t:TypeId)
  (ho:o.op=.call { callee:=.builtin .append,args:=#[s,x],argTypes:=#[t,t] })
  (base:Nat) (e:TypeId) (ht:Pr.underlying t=some (.slice e)) (hinfo:(Pr.info? e).map (λ i=>(i.zero,i.size,i.bytes))=some (some (.int .u16 0),1,2))
  (a:Option Addr) (n cap:Nat) (d:Nat->Int) (hs:act.eval s=.slice a n cap) (I1:Own w base e a n cap d) (g c:Nat) (v:Int) (hx:act.eval x=.slice (some ⟨g,0,none⟩) 1 c)
  (hv:w.cell? ⟨g,0,none⟩=some (.int .u16 v)) (hn:n<=1000000000) (hbase:base<=w.heap.size)
  (h:∀ a' o7 w',Own w' base e a' (n+1) o7 (upd d n v)->Below base w w'->wpList Pr ops Q rest (act.put o.dst (.slice a' (n+1) o7)) w'):wpList Pr ops Q (o :: rest) act w:=by
 obtain⟨i,hi,X9,G7,M6⟩:=info_parts hinfo;have D5:∀ k,(Value.slice a n cap).ownBlock=some k->base<=k:=λ k hk=>(World.ownsRow.lt I1 k hk).1
 refine wpList_append_lies w CS s x t ho base e i (.int .u16 0) 1 2 ht hi X9 G7 M6 rfl (by decide) (.slice a n cap) n (yH d n) hs I1 ⟨g,0,none⟩ 1 c [.int .u16 v] hx rfl ?_ ?_ (by decide) ?_ ?_ hbase _ rfl ?_
 ·intro j u hj
  match j,hj with
  | 0,hj=>simp at hj;subst hj;rw[zFX];exact hv
 ·intro u hu;simp at hu;subst hu;rfl
 ·unfold maxLen;omega
 ·omega
 ·intro g' o7 w' aC hgrow _ _
  rw[<- zEQ] at aC;exact h _ _ _ aC ((Below.refl base w).grown hgrow hbase D5)
theorem P4:P 4=18446744073709551616:=rfl
theorem zSZ (d:Nat->Int) (k:Nat) (u X:Int) (h:V d k+u*P k=X):V (upd d k (u % 65536)) (k+1)+u/65536*P (k+1)=X:=by
 simp only[V,P];have h1:V (upd d k (u % 65536)) k=V d k:=zCK k (λ j hj=>by simp[upd];omega)
 have h2:upd d k (u % 65536) k=u % 65536:=by simp[upd]
 rw[h1,h2]
 have h3:u % 65536*P k+u/65536*(65536*P k)=u*P k:=by
  rw[<- Int.mul_assoc,<- Int.add_mul];congr 1;omega
 omega
theorem zSY (x X:Int) (neg:Bool) (w:World) (h0 : -9223372036854775808<=x) (h1:x<=9223372036854775807) (M5:decide (x<0)=neg) (hX:X=if neg then -x else x) :
  Calls Tryz.prog 33 #[.int .i64 x] w λ r w' =>
   ∃ m8 a' n' o7,r=.returned (.agg #[.bool m8,.slice a' n' o7])/\IntAt w' m8 a' n' o7 4 x/\Below w.heap.size w w':=by
 cases neg
 ·have hx:¬ x<0:=by simpa using M5
  simp at hX;subst hX;have Jp:0<=X:=by omega
  clear M5 h0
  go_enter Tryz.func33,Tryz.ntmps33
  go_wp2
  go_loopw [5,4] (λ l u wr=>∃ (k:Nat) (a:Option Addr) (cap:Nat) (d:Nat->Int) (uu:Int),l=.slice a k cap/\u=.int .u64 uu/\0<=uu/\uu<=X/\Own wr (w.heap.size+1) 94 a k cap d/\Dgs d/\V d k+uu*P k=X/\(k=0\/d (k-1)≠0\/uu≠0)/\k<=4/\Below (w.heap.size+1) (w.alloc (.cells #[.bool false,.slice none 0 0] 29)) wr) (λ _ u _=>(intOf u).toNat)
  case atStart=>exact⟨0,none,0,λ _=>0,X,rfl,rfl,Jp,Int.le_refl _,Own.nil _ _ _ _,λ _=>⟨by simp,by simp⟩,by simp[V,P],Or.inl rfl,by omega,Below.refl _ _⟩
  case round =>
   obtain⟨k,a,cap,d,uu,rfl,rfl,Ds,hu1,I1,hd,hV,cD,Kb,B9⟩:=hrel;have X7:=B9.size;simp at X7
   by_cases hz:uu=0
   ·subst hz
    have q0:wr.cell? ⟨w.heap.size,0,none⟩=some (.bool false):=(B9.cell (p:=⟨w.heap.size,0,none⟩) (by simp)).trans (by simp[go_sem])
    have q1:wr.cell? ⟨w.heap.size,1,none⟩=some (.slice none 0 0):=(B9.cell (p:=⟨w.heap.size,1,none⟩) (by simp)).trans (by simp[go_sem])
    have q5:∀ o,wr.frozen? ⟨w.heap.size,o,none⟩=false:=λ o=>(B9.frozen (p:=⟨w.heap.size,o,none⟩) (by simp)).trans (by simp[go_sem])
    have HD:=zC (I1.dig hd (by omega))
    have HV:=zC hV;have HT:=zC cD;clear hV cD I1 hd;go_wp2;refine bodyPost_ret (v:=.agg #[.bool false,.slice a k cap]) (by simp[results,Tryz.results33,go_sem,q0,q1]) rfl ⟨false,a,k,cap,rfl,?_,?_⟩
    ·refine IntAt.put2 ?_ q0 q1 _ _
     have hV:=zA HV;simp at hV;refine⟨d,zA HD,?_,λ eG=>?_,Kb,by rw[hV];simp[sgn]⟩
     ·have:=zA HT;omega
     ·subst eG;simp[V] at hV;first|rfl|(exfalso;omega)
    ·exact (((bl1 _ _).trans (B9.mono (by omega))).setCell (by simp) _).setCell (by simp) _
   ·have B7:0<uu:=by omega
    have Ka:k<4:=by
     have vF:P k<P 4\/4<=k:=by
      by_cases hh:4<=k
      ·exact Or.inr hh
      ·left;have:P (k+1)<=P 4:=zBL (by omega)
       have:=yT k;simp only[P] at *;omega
     rcases vF with hh|hh
     ·by_cases h4:k=4
      ·subst h4;omega
      ·omega
     ·have h5:P 4<=P k:=zBL hh
      have h6:1*P k<=uu*P k:=YA (by omega) (by have:=yT k;omega)
      have h7:=jC hd k;rw[P4] at h5;omega
    have H1:=zC (zSZ d k uu X hV);have H2:=zC (kX hd k (v:=uu % 65536) (by omega) (by omega))
    clear hV cD;go_wp2_with (at_builtin;refine jA _ rfl _ _ 27 rfl (w.heap.size+1) 94 Tryz.underlying27 Tryz.infoU16 a k cap d rfl (I1.alloc _) wr.heap.size 1 (uu % 65536) rfl (by simp[go_sem,zAX]) (by omega) (by simp;omega) ?_;intro a' o7 w1 G9 b9)
    go_roundw
    case rel =>
     refine⟨k+1,a',o7,upd d k (uu % 65536),uu/65536,rfl,by go_num,by omega,by omega,G9,zA H2,zA H1,?_,by omega,?_⟩
     ·right;simp[upd];omega
     ·exact (B9.alloc (by omega) _).trans b9
    case measure=>simp[intOf];try omega
 ·have hx:x<0:=by simpa using M5
  simp at hX;have hw:IntKind.u64.wrap (-IntKind.u64.wrap x)=X:=by rw[IntKind.wrap_u64,IntKind.wrap_u64];omega
  have Jp:0<=X:=by omega
  have hX1:X<=9223372036854775808:=by omega
  have HX:=zC hX;clear hX
  go_enter Tryz.func33,Tryz.ntmps33
  go_wp2;clear hw
  go_loopw [5,4] (λ l u wr=>∃ (k:Nat) (a:Option Addr) (cap:Nat) (d:Nat->Int) (uu:Int),l=.slice a k cap/\u=.int .u64 uu/\0<=uu/\uu<=X/\Own wr (w.heap.size+1) 94 a k cap d/\Dgs d/\V d k+uu*P k=X/\(k=0\/d (k-1)≠0\/uu≠0)/\k<=4/\Below (w.heap.size+1) (w.alloc (.cells #[.bool false,.slice none 0 0] 29)) wr) (λ _ u _=>(intOf u).toNat)
  case atStart=>exact⟨0,none,0,λ _=>0,X,rfl,rfl,Jp,Int.le_refl _,Own.nil _ _ _ _,λ _=>⟨by simp,by simp⟩,by simp[V,P],Or.inl rfl,by omega,Below.refl _ _⟩
  case round =>
   obtain⟨k,a,cap,d,uu,rfl,rfl,Ds,hu1,I1,hd,hV,cD,Kb,B9⟩:=hrel;have X7:=B9.size;simp at X7
   by_cases hz:uu=0
   ·subst hz
    have q0:wr.cell? ⟨w.heap.size,0,none⟩=some (.bool false):=(B9.cell (p:=⟨w.heap.size,0,none⟩) (by simp)).trans (by simp[go_sem])
    have q1:wr.cell? ⟨w.heap.size,1,none⟩=some (.slice none 0 0):=(B9.cell (p:=⟨w.heap.size,1,none⟩) (by simp)).trans (by simp[go_sem])
    have q5:∀ o,wr.frozen? ⟨w.heap.size,o,none⟩=false:=λ o=>(B9.frozen (p:=⟨w.heap.size,o,none⟩) (by simp)).trans (by simp[go_sem])
    have HD:=zC (I1.dig hd (by omega))
    have HV:=zC hV;have HT:=zC cD;clear hV cD I1 hd;go_wp2;refine bodyPost_ret (v:=.agg #[.bool true,.slice a k cap]) (by simp[results,Tryz.results33,go_sem,q0,q1]) rfl ⟨true,a,k,cap,rfl,?_,?_⟩
    ·refine IntAt.put2 ?_ q0 q1 _ _
     have hV:=zA HV;simp at hV;refine⟨d,zA HD,?_,λ eG=>?_,Kb,by rw[hV];simp[sgn];have:=zA HX;omega⟩
     ·have:=zA HT;omega
     ·subst eG;simp[V] at hV;have:=zA HX;exfalso;omega
    ·exact (((bl1 _ _).trans (B9.mono (by omega))).setCell (by simp) _).setCell (by simp) _
   ·have B7:0<uu:=by omega
    have Ka:k<4:=by
     have vF:P k<P 4\/4<=k:=by
      by_cases hh:4<=k
      ·exact Or.inr hh
      ·left;have:P (k+1)<=P 4:=zBL (by omega)
       have:=yT k;simp only[P] at *;omega
     rcases vF with hh|hh
     ·by_cases h4:k=4
      ·subst h4;omega
      ·omega
     ·have h5:P 4<=P k:=zBL hh
      have h6:1*P k<=uu*P k:=YA (by omega) (by have:=yT k;omega)
      have h7:=jC hd k;rw[P4] at h5;omega
    have H1:=zC (zSZ d k uu X hV);have H2:=zC (kX hd k (v:=uu % 65536) (by omega) (by omega))
    clear hV cD;go_wp2_with (at_builtin;refine jA _ rfl _ _ 27 rfl (w.heap.size+1) 94 Tryz.underlying27 Tryz.infoU16 a k cap d rfl (I1.alloc _) wr.heap.size 1 (uu % 65536) rfl (by simp[go_sem,zAX]) (by omega) (by simp;omega) ?_;intro a' o7 w1 G9 b9)
    go_roundw
    case rel =>
     refine⟨k+1,a',o7,upd d k (uu % 65536),uu/65536,rfl,by go_num,by omega,by omega,G9,zA H2,zA H1,?_,by omega,?_⟩
     ·right;simp[upd];omega
     ·exact (B9.alloc (by omega) _).trans b9
    case measure=>simp[intOf];try omega
theorem zD (x:Int) (w:World) (h0 : -9223372036854775808<=x) (h1:x<=9223372036854775807) :
  Calls Tryz.prog 33 #[.int .i64 x] w λ r w' =>
   ∃ m8 a' n' o7,r=.returned (.agg #[.bool m8,.slice a' n' o7])/\IntAt w' m8 a' n' o7 4 x/\Below w.heap.size w w' :=
 zSY x _ _ w h0 h1 rfl rfl
end Go.Proofs.YtgmnknmjainabacGreat
