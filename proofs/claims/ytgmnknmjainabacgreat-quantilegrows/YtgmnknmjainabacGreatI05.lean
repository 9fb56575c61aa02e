/-
  Its own texts.
-/
import Derived.Deep.LoopGhost
import Derived.Test.YtgmnknmjainabacGreatI04
set_option maxRecDepth 100000
set_option maxHeartbeats 40000000
set_option linter.unnecessarySimpa false
set_option linter.unusedSimpArgs false
set_option linter.unusedVariables false
namespace Go.Proofs.YtgmnknmjainabacGreat
open Go.RowKit
attribute [local go_sem ↓] Go.wp_at_zero Go.wp_at_succ
structure NmC (w:World) (B:Nat) (x:Nm):Prop where
 c0:w.cell? ⟨B,0,none⟩=some (.bool x.neg)
 c1:w.cell? ⟨B,1,none⟩=some (.slice x.a x.n x.cap)
theorem NmC.lt {w:World} {B:Nat} {x:Nm} (h:NmC w B x):B<w.heap.size:=World.block_lt_of_cell? w ⟨B,0,none⟩ h.c0
theorem NmC.bw {w w':World} {B:Nat} {x:Nm} (h:NmC w B x) (hb:Below w.heap.size w w'):NmC w' B x :=
 ⟨(hb.cell (p:=⟨B,0,none⟩) h.lt).trans h.c0,(hb.cell (p:=⟨B,1,none⟩) h.lt).trans h.c1⟩
theorem zBZ (w:World) (x:Nm) (T:TypeId):NmC (w.alloc (.cells x.q T)) w.heap.size x:=⟨by simp,by simp⟩
structure NoI (w:World) (B:Nat):Prop where
 c0:w.cell? ⟨B,0,none⟩=some (.bool false)
 c1:w.cell? ⟨B,1,none⟩=some (.slice none 0 0)
 fz:∀ o,w.frozen? ⟨B,o,none⟩=false
theorem NoI.lt {w:World} {B:Nat} (h:NoI w B):B<w.heap.size:=World.block_lt_of_cell? w ⟨B,0,none⟩ h.c0
theorem NoI.bw {w w':World} {B:Nat} (h:NoI w B) (hb:Below w.heap.size w w'):NoI w' B :=
 ⟨(hb.cell (p:=⟨B,0,none⟩) h.lt).trans h.c0,(hb.cell (p:=⟨B,1,none⟩) h.lt).trans h.c1,λ o=>(hb.frozen (p:=⟨B,o,none⟩) h.lt).trans (h.fz o)⟩
theorem zD2 {B B':Nat} {a w:World} (h:Below B a w) (hB:B<=B') (u0 u1:Value):Below B a ((w.setCell ⟨B',0,none⟩ u0).setCell ⟨B',1,none⟩ u1) :=
 (h.setCell (p:=⟨B',0,none⟩) hB u0).setCell (p:=⟨B',1,none⟩) hB u1
def zCY (w:World) (k:Nat) (z:Int) (r:Ending) (w':World):Prop :=
 ∃ m8 a' n' o7,r=.returned (.agg #[.bool m8,.slice a' n' o7])/\IntAt w' m8 a' n' o7 k z/\Below w.heap.size w w'
theorem zKE (neg j6:Bool) (a c:Option Addr) (n m cap j9 k k2:Nat) (x y:Int) (w:World) (h1:IntAt w neg a n cap k x) (h2:IntAt w j6 c m j9 k2 y) (hk:k<=700000000) (aJ:k2<=100000000) (S8:∀ w',IntAt w' neg a n cap k x->IntAt w' j6 c m j9 k2 y->Calls Tryz.prog 126 #[.agg #[.bool neg,.slice a n cap],.agg #[.bool j6,.slice c m j9]] w' (kY w' k (x/y))) :
  Calls Tryz.prog 84 #[.agg #[.bool neg,.slice a n cap],.agg #[.bool j6,.slice c m j9]] w (zCY w (k+8) (x/y)):=by
 have HF:=zC S8;clear S8;have le2:w.heap.size<=w.heap.size+1+1:=by omega
 go_enter Tryz.func84,Tryz.ntmps84
 go_wp2_with fail;refine (zA HF _ (h1.bw (bl3 _ _ _ _)) (h2.bw (bl3 _ _ _ _))).mono ?_;rintro r w1 ⟨m7,a1,n1,c1,rfl,o8,b9⟩;obtain⟨C7,C9,D9⟩:=jJ (w.heap.size+1+1+1) (by simp) b9
 go_wp2_with fail;have q0:w1.cell? ⟨w.heap.size+1+1,0,none⟩=some (.bool false):=by simp[C9,go_sem]
 have q1:w1.cell? ⟨w.heap.size+1+1,1,none⟩=some (.slice none 0 0):=by simp[C9,go_sem]
 refine bodyPost_ret (v:=.agg #[.bool m7,.slice a1 n1 c1]) (by simp[results,Tryz.results84,go_sem,q0,q1]) rfl ⟨m7,a1,n1,c1,rfl,o8.put2 q0 q1 _ _,?_⟩
 exact zD2 (zB (bl3 _ _ _ _) b9) le2 _ _
theorem ceil_up {x y:Int} (hy:0<y) (h:x/y*y<x):x/y+1 = -(-x/y):=by
 have h1:=Int.mul_ediv_add_emod x y;have h2:=Int.mul_ediv_add_emod (-x) y;have h3:=Int.emod_lt_of_pos x hy;have h4:=Int.emod_nonneg (-x) (show y≠0 by omega)
 have h5:=Int.emod_lt_of_pos (-x) hy;rw[Int.mul_comm y] at h1 h2;generalize x/y=p at *;generalize -x/y=q at *;generalize x % y=r at *;generalize -x % y=t at *;have h6:(p+q)*y=p*y+q*y:=Int.add_mul _ _ _
 have h7:p+q<0:=by
  rcases Int.lt_or_le (p+q) 0 with h|h
  ·exact h
  ·have:=YF h (show 0<=y by omega);omega
 have h8 : -2<p+q:=by
  rcases Int.lt_or_le (-2) (p+q) with h|h
  ·exact h
  ·have:=YA h (show 0<=y by omega);omega
 omega
theorem zQ0 {x y:Int} (hy:0<y) (h:¬ x/y*y<x):x/y = -(-x/y):=by
 have h1:=Int.mul_ediv_add_emod x y;have h3:=Int.emod_nonneg x (show y≠0 by omega)
 rw[Int.mul_comm y] at h1;have h4:x=x/y*y:=by omega
 have h5 : -x = -(x/y)*y:=by rw[Int.neg_mul];omega
 rw[h5,Int.mul_ediv_cancel _ (show y≠0 by omega)];omega
theorem zPI (neg j6:Bool) (a c:Option Addr) (n m cap j9 k k2:Nat) (x y:Int) (w:World) (h1:IntAt w neg a n cap k x) (h2:IntAt w j6 c m j9 k2 y) (hk:k<=700000000) (aJ:k2<=100000000) (hy:0<y) (S8:∀ w',IntAt w' neg a n cap k x->IntAt w' j6 c m j9 k2 y->Calls Tryz.prog 126 #[.agg #[.bool neg,.slice a n cap],.agg #[.bool j6,.slice c m j9]] w' (kY w' k (x/y))) :
  Calls Tryz.prog 85 #[.agg #[.bool neg,.slice a n cap],.agg #[.bool j6,.slice c m j9]] w (zCY w (k+9) (-(-x/y))):=by
 have HF:=zC S8;clear S8
 by_cases D5:x/y*y<x
 ·have t1:zM (x/y*y) x<0:=by simp[zM,D5]
  have HE:=zC (ceil_up hy D5);clear D5
  go_enter Tryz.func85,Tryz.ntmps85
  go_wp2_with fail;refine (zA HF _ (h1.bw (bl3 _ _ _ _)) (h2.bw (bl3 _ _ _ _))).mono ?_;rintro r w1 ⟨m7,a1,n1,c1,rfl,o8,b9⟩;have gm:Below w.heap.size w w1:=zB (bl3 _ _ _ _) b9;obtain⟨C7,C9,D9⟩:=jJ (w.heap.size+1+1+1) (by simp) b9
  have A:NmC w1 w.heap.size ⟨neg,a,n,cap⟩:=⟨by simp[C9,go_sem],by simp[C9,go_sem]⟩
  have G:NmC w1 (w.heap.size+1) ⟨j6,c,m,j9⟩:=⟨by simp[C9,go_sem],by simp[C9,go_sem]⟩
  have R:NoI w1 (w.heap.size+1+1):=⟨by simp[C9,go_sem],by simp[C9,go_sem],λ o=>by simp[D9,go_sem]⟩
  have oJ:=R.lt;clear C9 D9 b9 C7;obtain⟨W1,T5⟩:∃ W',W'=w1.alloc (.cells #[.bool m7,.slice a1 n1 c1] 29):=⟨_,rfl⟩;have D7:Below w1.heap.size w1 W1:=by rw[T5];exact bl1 _ _
  have X:NmC W1 w1.heap.size ⟨m7,a1,n1,c1⟩:=by rw[T5];exact zBZ w1 ⟨m7,a1,n1,c1⟩ _
  replace A:=A.bw D7;replace G:=G.bw D7;replace R:=R.bw D7;have o9:=zB gm D7;have HX:=zC (h1.bw o9);have HY:=zC (h2.bw o9);replace o8:=zC (o8.bw D7);have lR:=R.lt;have lX:=X.lt;have nR:w1.heap.size≠w.heap.size+1+1:=YI oJ;have AL:w.heap.size+1+1≠w1.heap.size:=λ e=>nR e.symm
  have C8:Below W1.heap.size W1 W1.drew:=(Below.refl _ _).drew
  have HK:=zC (show ∀ w',Below W1.heap.size W1 w'->(w'.cell? ⟨w.heap.size,0,none⟩=some (.bool neg)/\w'.cell? ⟨w.heap.size,1,none⟩=some (.slice a n cap)/\w'.cell? ⟨w.heap.size+1,0,none⟩=some (.bool j6)/\w'.cell? ⟨w.heap.size+1,1,none⟩=some (.slice c m j9)/\w'.cell? ⟨w1.heap.size,0,none⟩=some (.bool m7)/\w'.cell? ⟨w1.heap.size,1,none⟩=some (.slice a1 n1 c1)) from λ w' hB =>
   ⟨(A.bw hB).c0,(A.bw hB).c1,(G.bw hB).c0,(G.bw hB).c1,(X.bw hB).c0,(X.bw hB).c1⟩)
  go_wp2;rw[<- T5];clear T5;obtain⟨j0,j1,j2,j3,j4,j5⟩:=zA HK _ (Below.refl _ _)
  go_region_held3 (λ w'=>w'.cell? ⟨w.heap.size,0,none⟩=some (.bool neg)/\w'.cell? ⟨w.heap.size,1,none⟩=some (.slice a n cap)/\w'.cell? ⟨w.heap.size+1,0,none⟩=some (.bool j6)/\w'.cell? ⟨w.heap.size+1,1,none⟩=some (.slice c m j9)/\w'.cell? ⟨w1.heap.size,0,none⟩=some (.bool m7)/\w'.cell? ⟨w1.heap.size,1,none⟩=some (.slice a1 n1 c1)) (exact zA HK _ (by with_reducible first|exact C8|exact J2|exact G0))
   (first
    | (go_at_call 83;refine (zT _ _ _ _ _ _ _ _ (k+8) k2 (x/y) y _ ((zA o8).bw C8) ((zA HY).bw C8) (by omega) (by omega)).mono ?_;rintro r w4 ⟨D8,a4,n4,c4,rfl,G6,y9⟩;have G0:=zB C8 y9)
    | (go_at_call 17;refine (jO _ _ _ _ _ _ _ _ (k+8+k2) k (x/y*y) x _ G6 ((zA HX).bw G0)).mono ?_;rintro r w5 ⟨rfl,D6⟩;have J2:=zB G0 D6))
  clear j0 j1 j2 j3 j4 j5;have X5:=X.bw J2;have R5:=R.bw J2;have La:=R5.lt;have Lc:=X5.lt;obtain⟨j4,j5⟩:=X5;obtain⟨q0,q1,q2⟩:=R5;have A9:Below w5.heap.size w5 w5.drew:=(Below.refl _ _).drew;have X5:NmC w5 w1.heap.size ⟨m7,a1,n1,c1⟩:=⟨j4,j5⟩;have R5:NoI w5 (w.heap.size+1+1):=⟨q0,q1,q2⟩;have nS:=zC (show ∀ w',Below w5.heap.size w5 w'->(w'.cell? ⟨w1.heap.size,0,none⟩=some (.bool m7)/\w'.cell? ⟨w1.heap.size,1,none⟩=some (.slice a1 n1 c1)) from λ w' hB=>⟨(X5.bw hB).c0,(X5.bw hB).c1⟩)
  go_wp2
  go_region_held3 (λ w'=>w'.cell? ⟨w1.heap.size,0,none⟩=some (.bool m7)/\w'.cell? ⟨w1.heap.size,1,none⟩=some (.slice a1 n1 c1)) (first|exact zA nS _ (by with_reducible first|exact A9|exact gz|exact kf)|go_keep)
   (first
    | (go_at_call 33;refine (zD 1 _ (by decide) (by decide)).mono ?_;rintro r w6 ⟨bO,a6,n6,c6,rfl,bC,K7⟩;have kf:=zB A9 K7)
    | (go_at_call 32;refine (zAE _ _ _ _ _ _ _ _ (k+8) 4 (x/y) 1 _ (((zA o8).bw J2).bw kf) bC (by omega) (by omega)).mono ?_;rintro r w7 ⟨cP,a7,n7,c7,rfl,ie,Q4⟩;have gz:=zB kf Q4;obtain⟨p0,p1,p2⟩:=R5.bw gz;obtain⟨i0,i1⟩:=zA nS _ gz))
  go_wp2;refine bodyPost_ret (v:=.agg #[.bool cP,.slice a7 n7 c7]) (by simp[results,Tryz.results85,go_sem,p0,p1]) rfl ⟨cP,a7,n7,c7,rfl,?_,?_⟩
  ·rw[zA HE] at ie
   exact (ie.put2 p0 p1 _ _).mono (by omega)
  ·exact zD2 (zB (zB o9 J2) gz) (by omega) _ _
 ·have t1:¬ zM (x/y*y) x<0:=zEP D5
  have HE:=zC (zQ0 hy D5);clear D5
  go_enter Tryz.func85,Tryz.ntmps85
  go_wp2_with fail;refine (zA HF _ (h1.bw (bl3 _ _ _ _)) (h2.bw (bl3 _ _ _ _))).mono ?_;rintro r w1 ⟨m7,a1,n1,c1,rfl,o8,b9⟩;have gm:Below w.heap.size w w1:=zB (bl3 _ _ _ _) b9;obtain⟨C7,C9,D9⟩:=jJ (w.heap.size+1+1+1) (by simp) b9
  have A:NmC w1 w.heap.size ⟨neg,a,n,cap⟩:=⟨by simp[C9,go_sem],by simp[C9,go_sem]⟩
  have G:NmC w1 (w.heap.size+1) ⟨j6,c,m,j9⟩:=⟨by simp[C9,go_sem],by simp[C9,go_sem]⟩
  have R:NoI w1 (w.heap.size+1+1):=⟨by simp[C9,go_sem],by simp[C9,go_sem],λ o=>by simp[D9,go_sem]⟩
  have oJ:=R.lt;clear C9 D9 b9 C7;obtain⟨W1,T5⟩:∃ W',W'=w1.alloc (.cells #[.bool m7,.slice a1 n1 c1] 29):=⟨_,rfl⟩;have D7:Below w1.heap.size w1 W1:=by rw[T5];exact bl1 _ _
  have X:NmC W1 w1.heap.size ⟨m7,a1,n1,c1⟩:=by rw[T5];exact zBZ w1 ⟨m7,a1,n1,c1⟩ _
  replace A:=A.bw D7;replace G:=G.bw D7;replace R:=R.bw D7;have o9:=zB gm D7;have HX:=zC (h1.bw o9);have HY:=zC (h2.bw o9);replace o8:=zC (o8.bw D7);have lR:=R.lt;have lX:=X.lt;have nR:w1.heap.size≠w.heap.size+1+1:=YI oJ;have AL:w.heap.size+1+1≠w1.heap.size:=λ e=>nR e.symm
  have C8:Below W1.heap.size W1 W1.drew:=(Below.refl _ _).drew
  have HK:=zC (show ∀ w',Below W1.heap.size W1 w'->(w'.cell? ⟨w.heap.size,0,none⟩=some (.bool neg)/\w'.cell? ⟨w.heap.size,1,none⟩=some (.slice a n cap)/\w'.cell? ⟨w.heap.size+1,0,none⟩=some (.bool j6)/\w'.cell? ⟨w.heap.size+1,1,none⟩=some (.slice c m j9)/\w'.cell? ⟨w1.heap.size,0,none⟩=some (.bool m7)/\w'.cell? ⟨w1.heap.size,1,none⟩=some (.slice a1 n1 c1)) from λ w' hB =>
   ⟨(A.bw hB).c0,(A.bw hB).c1,(G.bw hB).c0,(G.bw hB).c1,(X.bw hB).c0,(X.bw hB).c1⟩)
  go_wp2;rw[<- T5];clear T5;obtain⟨j0,j1,j2,j3,j4,j5⟩:=zA HK _ (Below.refl _ _)
  go_region_held3 (λ w'=>w'.cell? ⟨w.heap.size,0,none⟩=some (.bool neg)/\w'.cell? ⟨w.heap.size,1,none⟩=some (.slice a n cap)/\w'.cell? ⟨w.heap.size+1,0,none⟩=some (.bool j6)/\w'.cell? ⟨w.heap.size+1,1,none⟩=some (.slice c m j9)/\w'.cell? ⟨w1.heap.size,0,none⟩=some (.bool m7)/\w'.cell? ⟨w1.heap.size,1,none⟩=some (.slice a1 n1 c1)) (exact zA HK _ (by with_reducible first|exact C8|exact J2|exact G0))
   (first
    | (go_at_call 83;refine (zT _ _ _ _ _ _ _ _ (k+8) k2 (x/y) y _ ((zA o8).bw C8) ((zA HY).bw C8) (by omega) (by omega)).mono ?_;rintro r w4 ⟨D8,a4,n4,c4,rfl,G6,y9⟩;have G0:=zB C8 y9)
    | (go_at_call 17;refine (jO _ _ _ _ _ _ _ _ (k+8+k2) k (x/y*y) x _ G6 ((zA HX).bw G0)).mono ?_;rintro r w5 ⟨rfl,D6⟩;have J2:=zB G0 D6))
  clear j0 j1 j2 j3 j4 j5;have X5:=X.bw J2;have R5:=R.bw J2;have La:=R5.lt;have Lc:=X5.lt;obtain⟨j4,j5⟩:=X5;obtain⟨q0,q1,q2⟩:=R5;go_wp2;refine bodyPost_ret (v:=.agg #[.bool m7,.slice a1 n1 c1]) (by simp[results,Tryz.results85,go_sem,q0,q1]) rfl ⟨m7,a1,n1,c1,rfl,?_,?_⟩
  ·replace o8:=(zA o8).bw J2
   rw[zA HE] at o8;exact (o8.put2 q0 q1 _ _).mono (by omega)
  ·exact zD2 (zB o9 J2) (by omega) _ _
theorem jL (w:World) (T:TypeId):NoI (w.alloc (.cells #[.bool false,.slice none 0 0] T)) w.heap.size:=⟨by simp,by simp,λ o=>by simp[go_sem]⟩
theorem zCW (neg j6:Bool) (a c:Option Addr) (n m cap j9 k k2 b:Nat) (x y:Int) (w:World) (h1:IntAt w neg a n cap k x) (h2:IntAt w j6 c m j9 k2 y) (hk:k<=600000000) (aJ:k2<=100000000) (hb:b<=100000) (hy:0<y)
  (S8:∀ m8 a' n' o7 w',IntAt w' m8 a' n' o7 (k+b/16+5) (x*Q b)->IntAt w' j6 c m j9 k2 y->Calls Tryz.prog 126 #[.agg #[.bool m8,.slice a' n' o7],.agg #[.bool j6,.slice c m j9]] w' (kY w' (k+b/16+5) (x*Q b/y))) :
  Calls Tryz.prog 43 #[.agg #[.bool neg,.slice a n cap],.agg #[.bool j6,.slice c m j9],.int .i64 b] w (zH w b (k+b/16+14) (x*Q b/y) (-(-(x*Q b)/y))):=by
 have HF:=zC S8;clear S8;obtain⟨W,hW⟩:∃ W,W=((w.alloc (.cells #[.bool neg,.slice a n cap] 29)).alloc (.cells #[.bool j6,.slice c m j9] 29)).alloc (.cells zCq 38):=⟨_,rfl⟩;have j7:Below w.heap.size w W:=by rw[hW];exact bl3 _ _ _ _
 have A:NmC W w.heap.size ⟨neg,a,n,cap⟩:=by rw[hW];constructor<;>simp[go_sem]
 have G:NmC W (w.heap.size+1) ⟨j6,c,m,j9⟩:=by rw[hW];constructor<;>simp[go_sem]
 have R:NoC W (w.heap.size+1+1):=by rw[hW];constructor<;>simp[go_sem]
 have HX:=zC (h1.bw j7);have HY:=zC (h2.bw j7);have HK:=zC (show ∀ w',Below W.heap.size W w'->(w'.cell? ⟨w.heap.size,0,none⟩=some (.bool neg)/\w'.cell? ⟨w.heap.size,1,none⟩=some (.slice a n cap)) from λ w' hB=>⟨(A.bw hB).c0,(A.bw hB).c1⟩)
 go_enter Tryz.func43,Tryz.ntmps43
 go_wp2;rw[<- hW];clear hW;obtain⟨i0,i1⟩:=A;have lW:=G.lt;have lR:=R.lt
 go_cut [7] (λ p wx=>VarAt wx p W.heap.size (k+b/16+5) (x*Q b)/\Below W.heap.size W wx)
 case first =>
  go_region_held3 (λ w'=>w'.cell? ⟨w.heap.size,0,none⟩=some (.bool neg)/\w'.cell? ⟨w.heap.size,1,none⟩=some (.slice a n cap)) (exact zA HK _ (by repeat' (first|with_reducible exact L4|with_reducible exact H7|with_reducible exact Below.refl _ _|with_reducible refine Below.drew ?_|with_reducible refine zL ?_ _|with_reducible refine Below.setCell ?_ (by first|exact YE _|exact S4|exact S5) _)))
   (first
    | (go_at_call 83;have hq:=H7;refine (zT _ _ _ _ _ _ _ _ k (b/16+5) x (Q b) _ ((zA HX).bw (by with_reducible first|exact H7|exact zL H7 _)) (L6.bw (by with_reducible first|exact Below.refl _ _|exact bl1 _ _)) (by omega) (by omega)).mono ?_;rintro r gW ⟨fX,EV,Gd,EZ,rfl,bK,R0⟩;have Q1:Below bX.heap.size bX gW:=(by with_reducible first|exact R0|exact zB (bl1 _ _) R0);have L4:=zB H7 Q1;(try with_reducible have dh:=(jL bX 29).bw R0);replace L6:=L6.bw Q1;(try replace ah:=ah.bw Q1);have S5:=L4.size;(try have mD:=ah.lt);(try have IH:=YJ mD);(try have rX:=YI mD);(try obtain⟨yn,yo,yq⟩:=ah);(try have mF:=dh.lt);(try have II:=YJ mF);(try have rY:=YI mF);(try obtain⟨yr,yt,yw⟩:=dh))
    | (go_at_call 82;refine (zCB b _ (by omega)).mono ?_;rintro r bX ⟨mH,Il,Lo,Iq,rfl,L6,Q9⟩;have H7:Below W.heap.size W bX:=(by with_reducible first|exact zB (Below.refl _ _).drew Q9|exact zB (bl1 _ _).drew Q9);(try with_reducible have ah:=((jL W 29).bw (Below.refl _ _).drew).bw Q9);have S4:=H7.size))
  all_goals
   go_wp2_with fail;go_meet;refine⟨⟨_,⟨fX,EV,Gd,EZ⟩,rfl,?_,?_,?_,?_,?_⟩,?_⟩
   ·simp[go_sem, *]
   ·simp[go_sem, *]
   ·first|with_reducible exact IntAt.mono (bK.bw (bl1 _ _)) (by omega)|with_reducible exact IntAt.mono (bK.put2 (by assumption) (by assumption) _ _) (by omega)
   ·first|exact YE _|exact S4|exact S5
   ·simp[World.setCell];try omega
   ·repeat' (first|with_reducible exact L4|with_reducible exact H7|with_reducible exact Below.refl _ _|with_reducible refine Below.drew ?_|with_reducible refine zL ?_ _|with_reducible refine Below.setCell ?_ (by first|exact YE _|exact S4|exact S5) _)
 case rest =>
 obtain⟨⟨BX,xX,rfl,rv,ry,dN,pJ,hltX⟩,hblX⟩:=hcut;have XX:NmC wc BX xX:=⟨rv,ry⟩;clear i0 i1 HK;replace G:=G.bw hblX;replace R:=R.bw hblX;replace HY:=zC ((zA HY).bw hblX);replace dN:=zC dN;have ae:=R.lt;have FV:=XX.lt;have nR:BX≠w.heap.size+1+1:=YI (YH lR pJ);have AL:w.heap.size+1+1≠BX:=λ e=>nR e.symm
 have gj:=zB j7 hblX;have A9:Below wc.heap.size wc wc.drew:=(Below.refl _ _).drew;have HK:=zC (show ∀ w',Below wc.heap.size wc w'->(nK w' BX xX (w'.cell? ⟨w.heap.size+1,0,none⟩=some (.bool j6)/\w'.cell? ⟨w.heap.size+1,1,none⟩=some (.slice c m j9))) from λ w' hB=>⟨(XX.bw hB).c0,(XX.bw hB).c1,(G.bw hB).c0,(G.bw hB).c1⟩)
 obtain⟨i2,i3⟩:=G;go_wp2
 go_region_held3 (λ w'=>nK w' BX xX (w'.cell? ⟨w.heap.size+1,0,none⟩=some (.bool j6)/\w'.cell? ⟨w.heap.size+1,1,none⟩=some (.slice c m j9))) (first|exact zA HK _ (by with_reducible first|exact A9|exact s9|exact p9)|(dsimp only[cK,cK0,nK,nK0,rK,rK0];go_keep)|go_keep)
  (first
   | (go_at_call 84;refine (zKE _ _ _ _ _ _ _ _ (k+b/16+5) k2 (x*Q b) y _ ((zA dN).bw A9) ((zA HY).bw A9) (by omega) (by omega) (λ w' p q=>zA HF _ _ _ _ w' p q)).mono ?_;rintro r w1 ⟨m7,a1,n1,c1,rfl,o8,b9⟩;have p9:=zB A9 b9)
   | (go_at_call 85;refine (zPI _ _ _ _ _ _ _ _ (k+b/16+5) k2 (x*Q b) y _ ((zA dN).bw p9) ((zA HY).bw p9) (by omega) (by omega) hy (λ w' p q=>zA HF _ _ _ _ w' p q)).mono ?_;rintro r w2 ⟨A7,a3,n3,c3,rfl,E5,j8⟩;replace o8:=o8.bw j8;have s9:=zB p9 j8;obtain⟨q0,q1,q2,q3,q4,q5⟩:=R.bw s9;obtain⟨d0,d1,d2,d3⟩:=zA HK _ s9))
 go_wp2;refine bodyPost_ret (v:=.agg #[.bool m7,.slice a1 n1 c1,.bool A7,.slice a3 n3 c3,.int .i64 b]) (by simp[results,Tryz.results43,go_sem,q0,q1,q2,q3,q4]) rfl ⟨⟨m7,a1,n1,c1,A7,a3,n3,c3,b⟩,rfl,rfl,?_,?_⟩
 ·exact SpAt.put5 ⟨o8.mono (by omega),E5.mono (by omega)⟩ q0 q1 q2 q3 q4 _ _ _ _ _
 ·exact jY (zB gj s9) (by omega) _ _ _ _ _
def FzP (w:World) (p:Value):Prop:=∀ B,p=.pointer (some ⟨B,0,none⟩)->∀ o,w.frozen? ⟨B,o,none⟩=false
def RootOf (x z:Int):Prop:=0<=z/\(x<=0->z=0)/\(0<x->z*z<=x/\x<(z+1)*(z+1))
theorem IntAt.fit {w:World} {neg:Bool} {a:Option Addr} {n cap k K:Nat} {z:Int} (h:IntAt w neg a n cap k z) (h0:0<=z) (hz:z<P K):IntAt w neg a n cap K z:=by
 obtain⟨d,h1,h2,h3,h4,h5⟩:=h;refine⟨d,h1,h2,h3,?_,h5⟩;refine zF6 h1.dgs h2 ?_;have:=jC h1.dgs n
 cases neg
 ·simp[sgn] at h5;omega
 ·simp[sgn] at h5;have:=yT K;omega
theorem zS (w:World) (a b:Addr) (v:Value):(w.setCell a v).frozen? b=w.frozen? b:=by simp[go_sem]
theorem jB (n:Int) (h1 : -9223372036854775808<=n) (h2:n<=9223372036854775807):IntKind.i64.wrap n=n:=by rw[IntKind.wrap_i64];omega
theorem zBS (neg:Bool) (a:Option Addr) (n cap k:Nat) (x:Int) (w:World) (h:IntAt w neg a n cap k x) :
  Calls Tryz.prog 73 #[.agg #[.bool neg,.slice a n cap]] w λ r w'=>r=.returned (.int .i64 (zM x 0))/\Below w.heap.size w w':=by
 obtain⟨d,h1,h2,h3,h4,h5⟩:=h
 have e:zL6 neg n=zM x 0:=by
  have hv:=jC h1.dgs n;unfold zL6 zM
  by_cases hn:n=0
  ·subst hn
   have:x=0:=by rw[h5];cases neg<;>simp[sgn,V]
   subst this;simp
  ·have h6:=V_ge h1.dgs (n-1) (by omega)
   rw[show n-1+1=n by omega] at h6
   have:=yT (n-1);rw[if_neg hn]
   cases neg
   ·simp[sgn] at h5
    rw[if_neg (by simp),if_neg (by omega),if_pos (by omega)]
   ·simp[sgn] at h5
    rw[if_pos rfl,if_pos (by omega)]
 exact (zI0 neg a n cap w h1.room).mono λ r w' ⟨p1,p2⟩=>⟨by rw[p1,e],p2⟩
theorem root_pos (neg:Bool) (a:Option Addr) (n cap k:Nat) (x:Int) (w:World) (h1:IntAt w neg a n cap k x) (hk:k<=100000000) (hx:0<x) :
  Calls Tryz.prog 206 #[.agg #[.bool neg,.slice a n cap]] w λ r w'=>∃ z,RootOf x z/\zCY w (k+10) z r w':=by
 obtain⟨d,g1,g2,g3,g4,g5⟩:=h1;have h1:IntAt w neg a n cap k x:=⟨d,g1,g2,g3,g4,g5⟩
 have hn:0<n:=by
  rcases Nat.eq_zero_or_pos n with h0|h0
  ·subst h0;cases neg<;>simp[sgn,V] at g5<;>omega
  ·exact h0
 have hxV:V d n=x:=by
  have:=jC g1.dgs n
  cases neg
  ·simpa [sgn] using g5.symm
  ·simp[sgn] at g5;omega
 obtain⟨l,l1,l2,l3⟩:=lenZ_Q g1.dgs hn (by omega)
 rw[hxV] at l2 l3;obtain⟨K0,Jj⟩:∃ K0:Nat,((l:Int)+1)/2+1=(K0:Int):=⟨(l+1)/2+1,by omega⟩
 have Cv:l+1<=2*K0/\K0<=l+2:=by omega
 have hln:l+1<=16*n:=by have:=lenZ_le n d;omega
 have Aq:0<=(l:Int):=by omega
 have QV:(l:Int)<=1600000000:=by omega
 have mX:=zC (show IntKind.i64.wrap (IntKind.i64.wrap (((l:Int)+1).tdiv 2)+1)=(K0:Int) by
  rw[Int.tdiv_eq_ediv_of_nonneg (by omega),jB (((l:Int)+1)/2) (by omega) (by omega),jB _ (by omega) (by omega)]
  exact Jj)
 have nH:=zE K0
 have hsq:x<Q K0*Q K0:=by
  rw[<- jF];have:=zJ (show l+1<=K0+K0 by omega);omega
 have Yb:Q K0<P (k+2):=by
  rw[<- Q_P];have h5:=zJ (show K0+1<=16*(k+2) by omega)
  simp only[Q] at h5;omega
 have Vj:=zC (show x<(Q K0+1)*(Q K0+1) by
  have h5:(Q K0+1)*(Q K0+1)=Q K0*Q K0+2*Q K0+1:=by rw[Int.add_mul,Int.mul_add];omega
  omega)
 have t1:¬ zM x 0<=0:=by unfold zM;rw[if_neg (by omega),if_pos (by omega)];omega
 obtain⟨W,hW⟩:∃ W,W=(w.alloc (.cells #[.bool neg,.slice a n cap] 29)).alloc (.cells #[.bool false,.slice none 0 0] 29):=⟨_,rfl⟩;have j7:Below w.heap.size w W:=by rw[hW];exact bl2 _ _ _
 have A:NmC W w.heap.size ⟨neg,a,n,cap⟩:=by rw[hW];constructor<;>simp[go_sem]
 have R:NoI W (w.heap.size+1):=by rw[hW];constructor<;>simp[go_sem]
 have GD:=zC (g1.bw j7);have HX:=zC (h1.bw j7);have HL:=zC l1;have TM:=zC Cv;clear g1 h1 l1 hxV g5 hsq l2 l3 Cv
 go_enter Tryz.func206,Tryz.ntmps206
 go_wp2_with fail;rw[<- hW];clear hW;refine (zBS _ _ _ _ k x _ (zA HX)).mono ?_;rintro r w0 ⟨rfl,E8⟩;replace A:=A.bw E8;replace R:=R.bw E8;replace j7:=zB j7 E8;replace GD:=zC ((zA GD).bw E8);replace HX:=zC ((zA HX).bw E8);have GX:=zC (show ∀ w',Below w0.heap.size w0 w'->(w'.cell? ⟨w.heap.size,0,none⟩=some (.bool neg)/\w'.cell? ⟨w.heap.size,1,none⟩=some (.slice a n cap)) from λ w' hB=>⟨(A.bw hB).c0,(A.bw hB).c1⟩)
 have lA:=A.lt;have lR:=R.lt;obtain⟨i0,i1⟩:=zA GX _ (Below.refl _ _);clear E8;go_wp2_with fail
 go_cut [3] (λ p wx=>VarAt wx p w0.heap.size (k+10) (1*Q K0)/\FzP wx p/\Below w0.heap.size w0 wx)
 case first =>
  go_region_held3 (λ w'=>w'.cell? ⟨w.heap.size,0,none⟩=some (.bool neg)/\w'.cell? ⟨w.heap.size,1,none⟩=some (.slice a n cap)) (exact zA GX _ (by repeat' (first|with_reducible exact dA|with_reducible exact L4|with_reducible exact H7|with_reducible exact Below.refl _ _|with_reducible refine Below.drew ?_|with_reducible refine zL ?_ _|with_reducible refine Below.setCell ?_ (by first|exact YE _|exact S4|exact S5|exact fc) _)))
   (first
    | (go_at_call 116;have hq:=L4;rw[zA mX];refine (zBU _ _ _ _ K0 4 1 _ (L6.bw (by with_reducible first|exact Below.refl _ _|exact bl1 _ _)) (by omega) (by have:=zA TM;omega)).mono ?_;rintro r LA ⟨mI,Im,Lp,Ir,rfl,kt,dX⟩;have aO:Below gW.heap.size gW LA:=(by with_reducible first|exact dX|exact zB (bl1 _ _) dX);have dA:=zB L4 aO;(try with_reducible have Cj:=(jL gW 29).bw dX);replace L6:=L6.bw aO;(try replace ah:=ah.bw aO);(try replace dh:=dh.bw aO);have fc:=dA.size;(try have mD:=ah.lt);(try have IH:=YJ mD);(try have rX:=YI mD);(try obtain⟨yn,yo,yq⟩:=ah);(try have mF:=dh.lt);(try have II:=YJ mF);(try have rY:=YI mF);(try obtain⟨yr,yt,yw⟩:=dh);(try have DP:=Cj.lt);(try have Xe:=YJ DP);(try have IJ:=YI DP);(try obtain⟨NC,ND,NF⟩:=Cj))
    | (go_at_call 98;have hq:=H7;refine (zR1 _ _ _ _ d _ ((zA GD).bw (by with_reducible first|exact H7|exact zL H7 _))).mono ?_;rintro r gW ⟨rfl,R0⟩;rw[zA HL];have Q1:Below bX.heap.size bX gW:=(by with_reducible first|exact R0|exact zB (bl1 _ _) R0);have L4:=zB H7 Q1;(try with_reducible have dh:=(jL bX 29).bw R0);replace L6:=L6.bw Q1;(try replace ah:=ah.bw Q1);have S5:=L4.size)
    | (go_at_call 33;refine (zD 1 _ (by decide) (by decide)).mono ?_;rintro r bX ⟨mH,Il,Lo,Iq,rfl,L6,Q9⟩;have H7:Below w0.heap.size w0 bX:=(by with_reducible first|exact zB (Below.refl _ _).drew Q9|exact zB (bl1 _ _).drew Q9);(try with_reducible have ah:=((jL w0 29).bw (Below.refl _ _).drew).bw Q9);have S4:=H7.size))
  all_goals
   go_wp2_with fail;go_meet;refine⟨⟨_,⟨mI,Im,Lp,Ir⟩,rfl,?_,?_,?_,?_,?_⟩,?_,?_⟩
   ·simp[go_sem, *]
   ·simp[go_sem, *]
   ·first|with_reducible exact IntAt.mono (kt.bw (bl1 _ _)) (by omega)|with_reducible exact IntAt.mono (kt.put2 (by assumption) (by assumption) _ _) (by omega)
   ·first|exact YE _|exact S4|exact S5|exact fc
   ·simp[World.setCell];try omega
   ·intro B hB o;cases hB;simp[go_sem, *]
   ·repeat' (first|with_reducible exact dA|with_reducible exact L4|with_reducible exact H7|with_reducible exact Below.refl _ _|with_reducible refine Below.drew ?_|with_reducible refine zL ?_ _|with_reducible refine Below.setCell ?_ (by first|exact YE _|exact S4|exact S5|exact fc) _)
 case rest =>
 obtain⟨⟨BX,xX,rfl,rv,ry,dN,pJ,hltX⟩,hfzX,hblX⟩:=hcut;have XX:NmC wc BX xX:=⟨rv,ry⟩;have F0:∀ o,wc.frozen? ⟨BX,o,none⟩=false:=hfzX BX rfl;replace A:=A.bw hblX;replace R:=R.bw hblX;replace j7:=zB j7 hblX;replace HX:=zC ((zA HX).bw hblX);rw[Int.one_mul] at dN;have Yn:=dN.fit (by omega) Yb
 have wZ:w.heap.size≠BX:=YJ (YH lA pJ);have nXA:BX≠w.heap.size:=λ e9=>wZ e9.symm
 have hnXR:BX≠w.heap.size+1:=YI (YH lR pJ);have XI:w.heap.size<=BX:=by omega
 clear i0 i1 GX dN rv ry HL mX GD;go_wp2_with fail
 go_loopg [4] (Q K0).toNat (λ gg p wr=>∃ (X:Nm) (z:Int),NmC wr BX X/\(∀ o,wr.frozen? ⟨BX,o,none⟩=false)/\IntAt wr X.neg X.a X.n X.cap (k+2) z/\0<z/\z<=Q K0/\z.toNat<=gg/\x<(z+1)*(z+1)/\NmC wr w.heap.size ⟨neg,a,n,cap⟩/\NoI wr (w.heap.size+1)/\IntAt wr neg a n cap k x/\Below w.heap.size w wr)
 case atStart=>exact⟨xX,Q K0,XX,F0,Yn,by omega,Int.le_refl _,YE _,zA Vj,A,R,zA HX,j7⟩
 case round =>
  obtain⟨X,z,hX,hF,hz,X9,hzq,hzg,Ry,A,R,BK,nc⟩:=hrel;obtain⟨yv,FP⟩:∃ yv,yv=(z+x/z)/2:=⟨_,rfl⟩;have hxz:0<=x/z:=Int.ediv_nonneg (by omega) (by omega)
  have B7:x<(yv+1)*(yv+1):=by rw[FP];exact zSU X9
  have wX:0<yv:=by
   rcases Int.lt_or_le 0 yv with h5|h5
   ·exact h5
   ·have h6:yv=0:=by omega
    rw[h6] at B7;omega
  have Vz:=zC (show (z+x/z)/Q 1=yv from FP.symm)
  have Vo:=zC B7;have VC:=zC Ry;have GO:=zC (show z<=yv->z*z<=x from λ h=>zO8 X9 (by omega) (by rw[<- FP];exact h))
  clear FP B7 Ry;have hz:=zC hz;have BK:=zC BK;have Z6:=zC (show ∀ w',Below wr.heap.size wr w'->(w'.cell? ⟨w.heap.size,0,none⟩=some (.bool neg)/\w'.cell? ⟨w.heap.size,1,none⟩=some (.slice a n cap)/\nK0 w' BX X) from λ w' hB=>⟨(A.bw hB).c0,(A.bw hB).c1,(hX.bw hB).c0,(hX.bw hB).c1⟩)
  have lA:=A.lt;have lX:=hX.lt;have lR:=R.lt;have nXR:BX≠w.heap.size+1:=hnXR;have DY:w.heap.size+1≠BX:=λ e9=>nXR e9.symm
  obtain⟨i0,i1,i2,i3⟩:=zA Z6 _ (Below.refl _ _);go_wp2_with fail
  go_cut [4] (λ p wx=>VarAt wx p wr.heap.size (k+20) ((z+x/z)/Q 1)/\Below wr.heap.size wr wx)
  case first =>
   go_region_held3 (λ w'=>w'.cell? ⟨w.heap.size,0,none⟩=some (.bool neg)/\w'.cell? ⟨w.heap.size,1,none⟩=some (.slice a n cap)/\nK0 w' BX X) (exact zA Z6 _ (by repeat' (first|with_reducible exact bo|with_reducible exact ak|with_reducible exact W6|with_reducible exact Below.refl _ _|with_reducible refine Below.drew ?_|with_reducible refine zL ?_ _|with_reducible refine Below.setCell ?_ (by first|exact YE _|exact fe|exact fg|exact fh) _)))
    (first
     | (go_at_call 96;have hq:=ak;refine (zHY _ _ _ _ 1 (k+9) (z+x/z) _ ((W9.bw (by with_reducible first|exact Below.refl _ _|exact bl1 _ _)).mono (by omega)) (by omega) (by omega)).mono ?_;rintro r AV ⟨Ee,VT,nY3,Ws,rfl,ox,ei⟩;have av:Below oW.heap.size oW AV:=(by with_reducible first|exact ei|exact zB (bl1 _ _) ei);have bo:=zB ak av;(try with_reducible have iQ:=(jL oW 29).bw ei);replace O3:=O3.bw av;(try replace bh:=bh.bw av);replace W9:=W9.bw av;(try replace di:=di.bw av);have fh:=bo.size;(try have DQ:=bh.lt);(try have Xf:=YJ DQ);(try have IK:=YI DQ);(try obtain⟨Ez,EA,EB⟩:=bh);(try have DR:=di.lt);(try have Xg:=YJ DR);(try have IL:=YI DR);(try obtain⟨EC,ED,EE⟩:=di);(try have DS:=iQ.lt);(try have Xh:=YJ DS);(try have IM:=YI DS);(try obtain⟨EF,EG,EH⟩:=iQ))
     | (go_at_call 32;have hq:=W6;refine (zAE _ _ _ _ _ _ _ _ (k+2) (k+8) z (x/z) _ ((zA hz).bw (by with_reducible first|exact W6|exact zL W6 _)) (O3.bw (by with_reducible first|exact Below.refl _ _|exact bl1 _ _)) (by omega) (by omega)).mono ?_;rintro r oW ⟨rF,Py,Sq,PM,rfl,W9,dZ⟩;have dH:Below oV.heap.size oV oW:=(by with_reducible first|exact dZ|exact zB (bl1 _ _) dZ);have ak:=zB W6 dH;(try with_reducible have di:=(jL oV 29).bw dZ);replace O3:=O3.bw dH;(try replace bh:=bh.bw dH);have fg:=ak.size)
     | (go_at_call 126;refine (yI _ _ _ _ _ _ _ _ k (k+2) x z _ ((zA BK).bw (by with_reducible first|exact (Below.refl _ _).drew|exact (bl1 _ _).drew)) ((zA hz).bw (by with_reducible first|exact (Below.refl _ _).drew|exact (bl1 _ _).drew)) (by omega) X9).mono ?_;rintro r oV ⟨rE,Px,Sn,PL,rfl,O3,dY⟩;have W6:Below wr.heap.size wr oV:=(by with_reducible first|exact zB (Below.refl _ _).drew dY|exact zB (bl1 _ _).drew dY);(try with_reducible have bh:=((jL wr 29).bw (Below.refl _ _).drew).bw dY);have fe:=W6.size))
   all_goals
    go_wp2_with fail;go_meet;refine⟨⟨_,⟨Ee,VT,nY3,Ws⟩,rfl,?_,?_,?_,?_,?_⟩,?_⟩
    ·simp[go_sem, *]
    ·simp[go_sem, *]
    ·first|with_reducible exact IntAt.mono (ox.bw (bl1 _ _)) (by omega)|with_reducible exact IntAt.mono (ox.put2 (by assumption) (by assumption) _ _) (by omega)
    ·first|exact YE _|exact fe|exact fg|exact fh
    ·simp[World.setCell];try omega
    ·repeat' (first|with_reducible exact bo|with_reducible exact ak|with_reducible exact W6|with_reducible exact Below.refl _ _|with_reducible refine Below.drew ?_|with_reducible refine zL ?_ _|with_reducible refine Below.setCell ?_ (by first|exact YE _|exact fe|exact fg|exact fh) _)
  case rest =>
  obtain⟨⟨BY,xY,rfl,RA,RB,JE,Qr,hltY⟩,hblY⟩:=hcut;have XY:NmC wc BY xY:=⟨RA,RB⟩;rw[zA Vz] at JE;have hC:Below wr.heap.size wr wc:=hblY;replace hX:=hX.bw hC;replace A:=A.bw hC;replace R:=R.bw hC;have ni:∀ o,wc.frozen? ⟨BX,o,none⟩=false:=λ o=>(hC.frozen (p:=⟨BX,o,none⟩) lX).trans (hF o)
  have M6:=(zA hz).bw hC;have po:=(zA BK).bw hC;replace nc:=zB nc hC;have FV:=hX.lt;have lY2:=XY.lt;have ae:=R.lt;have nXY:BX≠BY:=YJ (YH lX Qr);have nXY':BY≠BX:=λ e9=>nXY e9.symm
  obtain⟨k0,k1⟩:=hX;have hX:NmC wc BX X:=⟨k0,k1⟩;clear i0 i1 i2 i3 Z6 hblY hC hF hz BK;go_wp2_with fail;refine (jO _ _ _ _ _ _ _ _ (k+20) (k+2) yv z _ JE M6).mono ?_;rintro r w5 ⟨rfl,D6⟩;have QD:=hX.bw D6;have QE:=XY.bw D6;have QA:=R.bw D6;have Qj:=A.bw D6;have hz5:=M6.bw D6;have hy5:=JE.bw D6;have Vv:=po.bw D6;have Cr:∀ o,w5.frozen? ⟨BX,o,none⟩=false:=λ o=>(D6.frozen (p:=⟨BX,o,none⟩) FV).trans (ni o)
  have J2:=zB nc D6;have l5:=QD.lt;have l6:=QE.lt;have l7:=QA.lt;obtain⟨e0,e1⟩:=QD;obtain⟨e2,e3⟩:=QE;obtain⟨e4,e5,e6⟩:=QA;clear k0 k1 RA RB
  by_cases az:z<=yv
  ·have t2:0<=zM yv z:=by unfold zM;rw[if_neg (by omega)];split<;>omega
   have t2':zM yv z ≥ 0:=t2;have HG:=zC az;clear az;go_wp2_with fail;refine bodyPost_ret (v:=.agg X.q) (by simp[results,Tryz.results206,go_sem,e4,e5]) rfl ⟨z,⟨by omega,λ h9=>by omega,λ _=>⟨zA GO (zA HG),zA VC⟩⟩,X.neg,X.a,X.n,X.cap,rfl,?_,?_⟩
   ·exact (hz5.put2 e4 e5 _ _).mono (by omega)
   ·exact zD2 J2 (Nat.le_succ _) _ _
  ·have t2:¬ 0<=zM yv z:=by unfold zM;rw[if_pos (by omega)];omega
   have t2':¬ zM yv z ≥ 0:=t2;have hylt:yv<z:=by omega
   clear az;go_wp2_with fail
   go_roundg yv.toNat
   case rel =>
    refine⟨xY,yv,⟨by simp[go_sem,e0,e1],by simp[go_sem,e0,e1]⟩,λ o=>by rw[zS,zS];exact Cr o,?_,wX,by omega,YE _,zA Vo,?_,?_,?_,?_⟩
    ·exact (hy5.put2 e0 e1 _ _).fit (by omega) (by omega)
    ·exact⟨by simp[go_sem,Qj.c0,nXA,wZ],by simp[go_sem,Qj.c1,nXA,wZ]⟩
    ·exact⟨by simp[go_sem,e4,nXR,DY],by simp[go_sem,e5,nXR,DY],λ o=>by rw[zS,zS];exact e6 o⟩
    ·exact Vv.put2 e0 e1 _ _
    ·exact zD2 J2 (by omega) _ _
   case measure=>omega
theorem root_int (neg:Bool) (a:Option Addr) (n cap k:Nat) (x:Int) (w:World) (h1:IntAt w neg a n cap k x) (hk:k<=100000000) :
  Calls Tryz.prog 206 #[.agg #[.bool neg,.slice a n cap]] w λ r w'=>∃ z,RootOf x z/\zCY w (k+10) z r w':=by
 by_cases hx:0<x
 ·exact root_pos neg a n cap k x w h1 hk hx
 ·have t1:zM x 0<=0:=by unfold zM;split<;>(try split)<;>omega
  have HX:=zC hx;clear hx
  go_enter Tryz.func206,Tryz.ntmps206
  go_wp2_with fail;refine (zBS _ _ _ _ k x _ (h1.bw (bl2 _ _ _))).mono ?_;rintro r w1 ⟨rfl,b9⟩;obtain⟨C7,C9,D9⟩:=jJ (w.heap.size+1+1) (by simp) b9
  go_wp2_with fail;have q0:w1.cell? ⟨w.heap.size+1,0,none⟩=some (.bool false):=by simp[C9,go_sem]
  have q1:w1.cell? ⟨w.heap.size+1,1,none⟩=some (.slice none 0 0):=by simp[C9,go_sem]
  refine bodyPost_ret (v:=.agg #[.bool false,.slice none 0 0]) (by simp[results,Tryz.results206,go_sem,q0,q1]) rfl ⟨0,⟨by omega,λ _=>rfl,λ h9=>by have h8:=zA HX;omega⟩,false,none,0,0,rfl,zD3 _ _,?_⟩
  exact zD2 (zB (bl2 _ _ _) b9) (Nat.le_succ _) _ _
theorem zHV (neg j6:Bool) (a c:Option Addr) (n m cap j9 k k2:Nat) (x y:Int) (w:World) (h1:IntAt w neg a n cap k x) (h2:IntAt w j6 c m j9 k2 y) (hk:k<=800000000) (hy:0<y) :
  Calls Tryz.prog 127 #[.agg #[.bool neg,.slice a n cap],.agg #[.bool j6,.slice c m j9]] w (kY w k (-(-x/y))) :=
 zQZ neg j6 a c n m cap j9 k k2 x y w h1 h2 hk (λ w' m8 a' n' o7 g1 g2=>yI m8 j6 a' c n' m o7 j9 k k2 (-x) y w' g1 g2 (by omega) hy)
theorem jP (neg j6:Bool) (a c:Option Addr) (n m cap j9 k k2 b:Nat) (x y:Int) (w:World) (h1:IntAt w neg a n cap k x) (h2:IntAt w j6 c m j9 k2 y) (hk:k<=700000000) (hb:b<=1000000) (hy:0<y) :
  Calls Tryz.prog 88 #[.agg #[.bool neg,.slice a n cap],.agg #[.bool j6,.slice c m j9],.int .i64 b] w (zH w b (k+b/16+20) (x*Q b/y) (-(-(x*Q b)/y))):=by
 go_enter Tryz.func88,Tryz.ntmps88
 go_wp2_with (go_at_call 116;refine (zBU _ _ _ _ b k x _ (h1.bw (bl3 _ _ _ _)) (by omega) (by omega)).mono ?_;rintro r w1 ⟨m7,a1,n1,c1,rfl,o8,b9⟩;obtain⟨C7,C9,D9⟩:=jJ (w.heap.size+1+1+1) (by simp) b9;have G7:=YH (Nat.lt_succ_self (w.heap.size+1+1)) C7;have X9:=Nat.lt_of_succ_lt G7)
 have o8:=o8.mono (show b/16+k+1<=k+b/16+10 by omega)
 have gm:Below w.heap.size w w1:=zB (bl3 _ _ _ _) b9;have k0:w1.cell? ⟨w.heap.size+1,0,none⟩=some (.bool j6):=by simp[C9,go_sem]
 have k1:w1.cell? ⟨w.heap.size+1,1,none⟩=some (.slice c m j9):=by simp[C9,go_sem]
 have r0:w1.cell? ⟨w.heap.size+1+1,0,none⟩=some (.bool false):=by simp[C9,go_sem]
 have r1:w1.cell? ⟨w.heap.size+1+1,1,none⟩=some (.slice none 0 0):=by simp[C9,go_sem]
 have r2:w1.cell? ⟨w.heap.size+1+1,2,none⟩=some (.bool false):=by simp[C9,go_sem]
 have r3:w1.cell? ⟨w.heap.size+1+1,3,none⟩=some (.slice none 0 0):=by simp[C9,go_sem]
 have r4:w1.cell? ⟨w.heap.size+1+1,4,none⟩=some (.int .i64 0):=by simp[C9,go_sem]
 have r5:∀ o,w1.frozen? ⟨w.heap.size+1+1,o,none⟩=false:=by intro o;simp[D9,go_sem]
 have H2:=zC (h2.bw gm);clear C9 D9;obtain⟨W,hW⟩:∃ W,W=w1.alloc (.cells #[.bool m7,.slice a1 n1 c1] 29):=⟨_,rfl⟩;have j7:Below w1.heap.size w1 W:=by rw[hW];exact bl1 _ _
 have u0:W.cell? ⟨w1.heap.size,0,none⟩=some (.bool m7):=by rw[hW];simp
 have u1:W.cell? ⟨w1.heap.size,1,none⟩=some (.slice a1 n1 c1):=by rw[hW];simp
 have hlW:w1.heap.size<W.heap.size:=by rw[hW];simp
 have HI:=zC (o8.bw j7);have zg:=zC ((zA H2).bw j7);have Z4:w.heap.size+1<W.heap.size:=Nat.lt_trans X9 hlW;have Y2:w.heap.size+1+1<W.heap.size:=Nat.lt_trans G7 hlW
 have HK:=zC (show ∀ w',Below W.heap.size W w'->(w'.cell? ⟨w1.heap.size,0,none⟩=some (.bool m7)/\w'.cell? ⟨w1.heap.size,1,none⟩=some (.slice a1 n1 c1)/\w'.cell? ⟨w.heap.size+1,0,none⟩=some (.bool j6)/\w'.cell? ⟨w.heap.size+1,1,none⟩=some (.slice c m j9)) from λ w' hB =>
  ⟨(hB.cell (p:=⟨w1.heap.size,0,none⟩) hlW).trans u0,(hB.cell (p:=⟨w1.heap.size,1,none⟩) hlW).trans u1,(hB.cell (p:=⟨w.heap.size+1,0,none⟩) Z4).trans ((j7.cell (p:=⟨w.heap.size+1,0,none⟩) X9).trans k0),(hB.cell (p:=⟨w.heap.size+1,1,none⟩) Z4).trans ((j7.cell (p:=⟨w.heap.size+1,1,none⟩) X9).trans k1)⟩)
 have HR:=zC (show ∀ w',Below W.heap.size W w'->(w'.cell? ⟨w.heap.size+1+1,0,none⟩=some (.bool false)/\w'.cell? ⟨w.heap.size+1+1,1,none⟩=some (.slice none 0 0)/\w'.cell? ⟨w.heap.size+1+1,2,none⟩=some (.bool false)/\w'.cell? ⟨w.heap.size+1+1,3,none⟩=some (.slice none 0 0)/\w'.cell? ⟨w.heap.size+1+1,4,none⟩=some (.int .i64 0)/\∀ o,w'.frozen? ⟨w.heap.size+1+1,o,none⟩=false) from λ w' hB =>
  ⟨(hB.cell (p:=⟨w.heap.size+1+1,0,none⟩) Y2).trans ((j7.cell (p:=⟨w.heap.size+1+1,0,none⟩) G7).trans r0),(hB.cell (p:=⟨w.heap.size+1+1,1,none⟩) Y2).trans ((j7.cell (p:=⟨w.heap.size+1+1,1,none⟩) G7).trans r1),(hB.cell (p:=⟨w.heap.size+1+1,2,none⟩) Y2).trans ((j7.cell (p:=⟨w.heap.size+1+1,2,none⟩) G7).trans r2),(hB.cell (p:=⟨w.heap.size+1+1,3,none⟩) Y2).trans ((j7.cell (p:=⟨w.heap.size+1+1,3,none⟩) G7).trans r3),(hB.cell (p:=⟨w.heap.size+1+1,4,none⟩) Y2).trans ((j7.cell (p:=⟨w.heap.size+1+1,4,none⟩) G7).trans r4),λ o=>(hB.frozen (p:=⟨w.heap.size+1+1,o,none⟩) Y2).trans ((j7.frozen (p:=⟨w.heap.size+1+1,o,none⟩) G7).trans (r5 o))⟩)
 have gj:Below w.heap.size w W:=zB gm j7;have nJ:w.heap.size+1+1≠w1.heap.size:=by omega
 have nM:w1.heap.size≠w.heap.size+1+1:=by omega
 rw[<- hW];clear hW k0 k1 r0 r1 r2 r3 r4 r5 u0 u1 H2 o8 b9 gm j7
 go_region_held3 (λ w'=>w'.cell? ⟨w1.heap.size,0,none⟩=some (.bool m7)/\w'.cell? ⟨w1.heap.size,1,none⟩=some (.slice a1 n1 c1)/\w'.cell? ⟨w.heap.size+1,0,none⟩=some (.bool j6)/\w'.cell? ⟨w.heap.size+1,1,none⟩=some (.slice c m j9)) (first|exact zA HK _ (by first|exact (Below.refl _ _).drew|exact o9|exact A8)|go_keep)
  (first
   | (go_at_call 126;refine (yI _ _ _ _ _ _ _ _ (k+b/16+10) k2 (x*Q b) y _ ((zA HI).bw (Below.refl _ _).drew) ((zA zg).bw (Below.refl _ _).drew) (by omega) hy).mono ?_;rintro r w2 ⟨D8,a4,n4,c4,rfl,G6,y9⟩;have o9:Below W.heap.size W w2:=zB (Below.refl _ _).drew y9)
   | (go_at_call 127;refine (zHV _ _ _ _ _ _ _ _ (k+b/16+10) k2 (x*Q b) y _ ((zA HI).bw o9) ((zA zg).bw o9) (by omega) hy).mono ?_;rintro r w3 ⟨M7,a5,n5,c5,rfl,P6,D6⟩;have A8:=zB o9 D6;obtain⟨q0,q1,q2,q3,q4,q5⟩:=zA HR w3 A8;obtain⟨q6,q7,q8,q9⟩:=zA HK w3 A8))
 go_wp2;refine bodyPost_ret (v:=.agg #[.bool D8,.slice a4 n4 c4,.bool M7,.slice a5 n5 c5,.int .i64 b]) (by simp[results,Tryz.results88,go_sem,q0,q1,q2,q3,q4]) rfl ⟨⟨D8,a4,n4,c4,M7,a5,n5,c5,b⟩,rfl,rfl,?_,?_⟩
 ·exact SpAt.put5 ⟨(G6.bw D6).mono (by omega),P6.mono (by omega)⟩ q0 q1 q2 q3 q4 _ _ _ _ _
 ·exact jY (gj.trans (A8.mono gj.size)) (by omega) _ _ _ _ _
theorem zKJ (w:World) (s:Sp) (neg j6:Bool) (a c:Option Addr) (n m cap j9 k k1 k2:Nat) (lo hi x y:Int) (hs:SpAt w s k lo hi) (h1:IntAt w neg a n cap k1 x) (h2:IntAt w j6 c m j9 k2 y) (hk:k<=300000000) (Z9:k1<=300000000) (hy:0<y) :
  Calls Tryz.prog 151 #[.agg s.q,.agg #[.bool neg,.slice a n cap],.agg #[.bool j6,.slice c m j9]] w (zH w s.bits (k+k1+10) (lo*x/y) (-(-(hi*x)/y))):=by
 obtain⟨W,hW⟩:∃ W,W=(((w.alloc (.cells s.q 31)).alloc (.cells #[.bool neg,.slice a n cap] 29)).alloc (.cells #[.bool j6,.slice c m j9] 29)).alloc (.cells zCq 31):=⟨_,rfl⟩;have j7:Below w.heap.size w W:=by rw[hW];exact bl4 _ _ _ _ _
 have A:SpC W w.heap.size s:=by rw[hW];constructor<;>simp[go_sem]
 have X:NmC W (w.heap.size+1) ⟨neg,a,n,cap⟩:=by rw[hW];constructor<;>simp[go_sem]
 have Y:NmC W (w.heap.size+1+1) ⟨j6,c,m,j9⟩:=by rw[hW];constructor<;>simp[go_sem]
 have R:NoC W (w.heap.size+1+1+1):=by rw[hW];constructor<;>simp[go_sem]
 have HS:=zC (hs.bw j7);have HX:=zC (h1.bw j7);have HY:=zC (h2.bw j7);have lR:=R.lt;have HK:=zC (show ∀ w',Below W.heap.size W w'->(cK w' w.heap.size s (w'.cell? ⟨w.heap.size+1,0,none⟩=some (.bool neg)/\w'.cell? ⟨w.heap.size+1,1,none⟩=some (.slice a n cap)/\w'.cell? ⟨w.heap.size+1+1,0,none⟩=some (.bool j6)/\w'.cell? ⟨w.heap.size+1+1,1,none⟩=some (.slice c m j9))) from λ w' hB=>⟨(A.bw hB).c0,(A.bw hB).c1,(A.bw hB).c2,(A.bw hB).c3,(A.bw hB).c4,(X.bw hB).c0,(X.bw hB).c1,(Y.bw hB).c0,(Y.bw hB).c1⟩)
 clear A X Y hs h1 h2
 go_enter Tryz.func151,Tryz.ntmps151
 go_wp2;rw[<- hW];clear hW;have n02:w.heap.size≠w.heap.size+1+1:=by omega
 have Ga:w.heap.size+1+1≠w.heap.size:=by omega
 have n03:w.heap.size≠w.heap.size+1+1+1:=by omega
 have n30:w.heap.size+1+1+1≠w.heap.size:=by omega
 have n13:w.heap.size+1≠w.heap.size+1+1+1:=by omega
 have n31:w.heap.size+1+1+1≠w.heap.size+1:=by omega
 have n23:w.heap.size+1+1≠w.heap.size+1+1+1:=by omega
 have n32:w.heap.size+1+1+1≠w.heap.size+1+1:=by omega
 obtain⟨x0,x1,x2,x3,x4,x5,x6,x7,x8⟩:=zA HK _ (Below.refl _ _);have A9:Below W.heap.size W W.drew:=(Below.refl _ _).drew
 go_region_held3 (λ w'=>cK w' w.heap.size s (w'.cell? ⟨w.heap.size+1,0,none⟩=some (.bool neg)/\w'.cell? ⟨w.heap.size+1,1,none⟩=some (.slice a n cap)/\w'.cell? ⟨w.heap.size+1+1,0,none⟩=some (.bool j6)/\w'.cell? ⟨w.heap.size+1+1,1,none⟩=some (.slice c m j9))) (first|exact zA HK _ (by with_reducible first|exact A9|exact I5|exact E9|exact s9|exact p9)|(dsimp only[cK,cK0,nK,nK0,rK,rK0];go_keep)|go_keep)
  (first
   | (go_at_call 127;have hq:=E9;refine (zHV _ _ _ _ _ _ _ _ (k+k1) k2 (hi*x) y _ E5 ((zA HY).bw E9) (by omega) hy).mono ?_;rintro r' w4 ⟨D8,a4,n4,c4,rfl,G6,y9⟩;have I5:=zB E9 y9;replace A5:=(A5.bw m9).bw y9;obtain⟨q0,q1,q2,q3,q4,q5⟩:=R.bw I5;obtain⟨y0,y1,y2,y3,y4,y5,y6,y7,y8⟩:=zA HK _ I5)
   | (go_at_call 83;have hq:=s9;refine (zT _ _ _ _ _ _ _ _ k k1 hi x _ ((zA HS).hi.bw s9) ((zA HX).bw s9) (by omega) (by omega)).mono ?_;rintro r' w3 ⟨A7,a3,n3,c3,rfl,E5,m9⟩;have E9:=zB s9 m9)
   | (go_at_call 126;have hq:=p9;refine (yI _ _ _ _ _ _ _ _ (k+k1) k2 (lo*x) y _ o8 ((zA HY).bw p9) (by omega) hy).mono ?_;rintro r' w2 ⟨mG,a2,n2,c2,rfl,A5,j8⟩;have s9:=zB p9 j8)
   | (go_at_call 83;refine (zT _ _ _ _ _ _ _ _ k k1 lo x _ ((zA HS).lo.bw A9) ((zA HX).bw A9) (by omega) (by omega)).mono ?_;rintro r' w1 ⟨m7,a1,n1,c1,rfl,o8,b9⟩;have p9:=zB A9 b9))
 all_goals
  go_wp2_with fail;refine bodyPost_ret (v:=.agg #[.bool mG,.slice a2 n2 c2,.bool D8,.slice a4 n4 c4,.int .i64 s.bits]) (by simp[results,Tryz.results151,go_sem,q0,q1,q2,q3,q4]) rfl ⟨⟨mG,a2,n2,c2,D8,a4,n4,c4,s.bits⟩,rfl,rfl,?_,?_⟩
  ·exact SpAt.put5 ⟨A5.mono (by omega),G6.mono (by omega)⟩ q0 q1 q2 q3 q4 _ _ _ _ _
  ·exact jY (zB j7 I5) (by omega) _ _ _ _ _
theorem zS3 (w:World) (s:Sp) (k:Nat) (d lo hi:Int) (hs:SpAt w s k lo hi) (hk:k<=300000000) (hd:0<d) (oz:d<=9223372036854775807) :
  Calls Tryz.prog 123 #[.agg s.q,.int .i64 d] w (zH w s.bits (k+14) (lo*1/d) (-(-(hi*1)/d))):=by
 obtain⟨W,hW⟩:∃ W,W=(w.alloc (.cells s.q 31)).alloc (.cells zCq 31):=⟨_,rfl⟩;have j7:Below w.heap.size w W:=by rw[hW];exact bl2 _ _ _
 have A:SpC W w.heap.size s:=by rw[hW];constructor<;>simp[go_sem]
 have R:NoC W (w.heap.size+1):=by rw[hW];constructor<;>simp[go_sem]
 have HS:=zC (hs.bw j7);have lR:=R.lt;have HK:=zC (show ∀ w',Below W.heap.size W w'->(cK0 w' w.heap.size s) from λ w' hB=>⟨(A.bw hB).c0,(A.bw hB).c1,(A.bw hB).c2,(A.bw hB).c3,(A.bw hB).c4⟩)
 clear A hs
 go_enter Tryz.func123,Tryz.ntmps123
 go_wp2;rw[<- hW];clear hW;have n01:w.heap.size≠w.heap.size+1:=by omega
 have Lj:w.heap.size+1≠w.heap.size:=by omega
 obtain⟨x0,x1,x2,x3,x4⟩:=zA HK _ (Below.refl _ _);have A9:Below W.heap.size W W.drew:=(Below.refl _ _).drew
 go_region_held3 (λ w'=>cK0 w' w.heap.size s) (first|exact zA HK _ (by with_reducible first|exact A9|exact E9|exact s9|exact p9)|(dsimp only[cK,cK0,nK,nK0,rK,rK0];go_keep)|go_keep)
  (first
   | (go_at_call 151;have hq:=s9;refine (zKJ _ s _ _ _ _ _ _ _ _ k 4 4 lo hi 1 d ((zA HS).bw s9) (o8.bw j8) A5 (by omega) (by omega) hd).mono ?_;rintro r' w3 ⟨u,rfl,B8,B7,m9⟩;have HU:=zC B8;clear B8;have E9:=zB s9 m9;obtain⟨q0,q1,q2,q3,q4,q5⟩:=R.bw E9;obtain⟨y0,y1,y2,y3,y4⟩:=zA HK _ E9)
   | (go_at_call 33;have hq:=p9;refine (zD d _ (by omega) oz).mono ?_;rintro r' w2 ⟨j6,a2,n2,c2,rfl,A5,j8⟩;have s9:=zB p9 j8)
   | (go_at_call 33;refine (zD 1 _ (by decide) (by decide)).mono ?_;rintro r' w1 ⟨m7,a1,n1,c1,rfl,o8,b9⟩;have p9:=zB A9 b9))
 all_goals
  go_wp2_with fail;refine bodyPost_ret (v:=.agg u.q) (by simp[results,Tryz.results123,go_sem,q0,q1,q2,q3,q4]) rfl ⟨u,rfl,zA HU,?_,?_⟩
  ·exact SpAt.put5 (B7.mono (by omega)) q0 q1 q2 q3 q4 _ _ _ _ _
  ·exact jY (zB j7 E9) (Nat.le_succ _) _ _ _ _ _
theorem zDD (w:World) (b:Nat) (hb:b<=1000000):Calls Tryz.prog 93 #[.int .i64 b] w (zH w b (b/16+24) (1*Q b/1) (-(-(1*Q b)/1))):=by
 go_enter Tryz.func93,Tryz.ntmps93
 go_wp2_with fail;refine (zD 1 _ (by decide) (by decide)).mono ?_
 rintro r' w1 ⟨m7,a1,n1,c1,rfl,o8,b9⟩;have R:=(zQ w 31).bw b9;have hB:Below w.heap.size w w1:=zB (bl1 _ _) b9;clear b9;go_wp2_with fail;refine (zD 1 _ (by decide) (by decide)).mono ?_
 rintro r' w2 ⟨j6,a2,n2,c2,rfl,A5,j8⟩;replace R:=R.bw j8;replace hB:=zB hB j8;replace o8:=o8.bw j8;clear j8;go_wp2_with fail;refine (jP _ _ _ _ _ _ _ _ 4 4 b 1 1 _ o8 A5 (by omega) hb (by omega)).mono ?_
 rintro r' w3 ⟨u,rfl,B8,B7,m9⟩;obtain⟨q0,q1,q2,q3,q4,q5⟩:=R.bw m9;replace hB:=zB hB m9;have HU:=zC B8;clear B8 m9;go_wp2_with fail;refine bodyPost_ret (v:=.agg u.q) (by simp[results,Tryz.results93,go_sem,q0,q1,q2,q3,q4]) rfl ⟨u,rfl,zA HU,?_,?_⟩
 ·exact SpAt.put5 (B7.mono (by omega)) q0 q1 q2 q3 q4 _ _ _ _ _
 ·exact jY hB (YE _) _ _ _ _ _
theorem zT3 (w:World) (s:Sp) (k:Nat) (d lo hi:Int) (hs:SpAt w s k lo hi) (hk:k<=300000000) (hd : -9223372036854775808<=d) (oz:d<=9223372036854775807) :
  Calls Tryz.prog 156 #[.agg s.q,.int .i64 d] w (zH w s.bits (k+4) (lo*d) (hi*d)):=by
 obtain⟨W,hW⟩:∃ W,W=(w.alloc (.cells s.q 31)).alloc (.cells zCq 31):=⟨_,rfl⟩;have j7:Below w.heap.size w W:=by rw[hW];exact bl2 _ _ _
 have A:SpC W w.heap.size s:=by rw[hW];constructor<;>simp[go_sem]
 have R:NoC W (w.heap.size+1):=by rw[hW];constructor<;>simp[go_sem]
 have HS:=zC (hs.bw j7);have lR:=R.lt;have HK:=zC (show ∀ w',Below W.heap.size W w'->(cK0 w' w.heap.size s) from λ w' hB=>⟨(A.bw hB).c0,(A.bw hB).c1,(A.bw hB).c2,(A.bw hB).c3,(A.bw hB).c4⟩)
 clear A hs
 go_enter Tryz.func156,Tryz.ntmps156
 go_wp2;rw[<- hW];clear hW;have n01:w.heap.size≠w.heap.size+1:=by omega
 have Lj:w.heap.size+1≠w.heap.size:=by omega
 obtain⟨x0,x1,x2,x3,x4⟩:=zA HK _ (Below.refl _ _);have A9:Below W.heap.size W W.drew:=(Below.refl _ _).drew
 go_region_held3 (λ w'=>cK0 w' w.heap.size s) (first|exact zA HK _ (by with_reducible first|exact A9|exact I5|exact E9|exact s9|exact p9)|(dsimp only[cK,cK0,nK,nK0,rK,rK0];go_keep)|go_keep)
  (first
   | (go_at_call 83;have hq:=E9;refine (zT _ _ _ _ _ _ _ _ k 4 hi d _ ((zA HS).hi.bw E9) E5 (by omega) (by omega)).mono ?_;rintro r' w4 ⟨D8,a4,n4,c4,rfl,G6,y9⟩;have I5:=zB E9 y9;replace A5:=(A5.bw m9).bw y9;obtain⟨q0,q1,q2,q3,q4,q5⟩:=R.bw I5;obtain⟨y0,y1,y2,y3,y4⟩:=zA HK _ I5)
   | (go_at_call 33;have hq:=s9;refine (zD d _ hd oz).mono ?_;rintro r' w3 ⟨A7,a3,n3,c3,rfl,E5,m9⟩;have E9:=zB s9 m9)
   | (go_at_call 83;have hq:=p9;refine (zT _ _ _ _ _ _ _ _ k 4 lo d _ ((zA HS).lo.bw p9) o8 (by omega) (by omega)).mono ?_;rintro r' w2 ⟨j6,a2,n2,c2,rfl,A5,j8⟩;have s9:=zB p9 j8)
   | (go_at_call 33;refine (zD d _ hd oz).mono ?_;rintro r' w1 ⟨m7,a1,n1,c1,rfl,o8,b9⟩;have p9:=zB A9 b9))
 all_goals
  go_wp2_with fail;refine bodyPost_ret (v:=.agg #[.bool j6,.slice a2 n2 c2,.bool D8,.slice a4 n4 c4,.int .i64 s.bits]) (by simp[results,Tryz.results156,go_sem,q0,q1,q2,q3,q4]) rfl ⟨⟨j6,a2,n2,c2,D8,a4,n4,c4,s.bits⟩,rfl,rfl,?_,?_⟩
  ·exact SpAt.put5 ⟨A5,G6⟩ q0 q1 q2 q3 q4 _ _ _ _ _
  ·exact jY (zB j7 I5) (Nat.le_succ _) _ _ _ _ _
theorem zB1 (p q:Int) (b:Nat) (w:World) (h:rok p q) (hb:b<=100000) :
  Calls Tryz.prog 34 #[.agg #[.int .i64 p,.int .i64 q],.int .i64 b] w (zH w b (b/16+18) (p*Q b/q) (-(-(p*Q b)/q))):=by
 obtain⟨r1,r2,r3,r4⟩:=h;obtain⟨W,hW⟩:∃ W,W=(w.alloc (.cells #[.int .i64 p,.int .i64 q] 23)).alloc (.cells zCq 38):=⟨_,rfl⟩;have j7:Below w.heap.size w W:=by rw[hW];exact bl2 _ _ _
 have k0:W.cell? ⟨w.heap.size,0,none⟩=some (.int .i64 p):=by rw[hW];simp[go_sem]
 have k1:W.cell? ⟨w.heap.size,1,none⟩=some (.int .i64 q):=by rw[hW];simp[go_sem]
 have lw:w.heap.size<W.heap.size:=by rw[hW];simp;omega
 have R:NoC W (w.heap.size+1):=by rw[hW];constructor<;>simp[go_sem]
 have lR:=R.lt;have C8:Below W.heap.size W W.drew:=(Below.refl _ _).drew;have HK:=zC (show ∀ w',Below W.heap.size W w'->(rK0 w' w.heap.size p q) from λ w' hB=>⟨(hB.cell (p:=⟨w.heap.size,0,none⟩) lw).trans k0,(hB.cell (p:=⟨w.heap.size,1,none⟩) lw).trans k1⟩)
 go_enter Tryz.func34,Tryz.ntmps34
 go_wp2;rw[<- hW];clear hW
 go_region_held3 (λ w'=>rK0 w' w.heap.size p q) (first|exact zA HK _ (by with_reducible first|exact C8|exact A8|exact o9|exact A6)|(dsimp only[cK,cK0,nK,nK0,rK,rK0];go_keep)|go_keep)
  (first
   | (go_at_call 33;have hq:=A6;refine (zD q _ (by omega) (by omega)).mono ?_;rintro r w2 ⟨j6,a2,n2,c2,rfl,A5,j8⟩;replace o8:=o8.bw j8;have o9:=zB A6 j8)
   | (go_at_call 33;refine (zD p _ (by omega) (by omega)).mono ?_;rintro r w1 ⟨m7,a1,n1,c1,rfl,o8,b9⟩;have A6:=zB C8 b9)
   | (go_at_call 43;refine (zCW _ _ _ _ _ _ _ _ 4 4 b p q _ o8 A5 (by omega) (by omega) hb (by omega) (λ m8 a' n' o7 w' p1 p2=>zLO m8 _ a' _ n' _ o7 _ _ 4 (p*Q b) q w' p1 p2 (by omega) (by omega) (by omega))).mono ?_;rintro r w3 ⟨s,rfl,cV,oK,m9⟩;have cY:=zC cV;clear cV;have A8:=zB o9 m9;obtain⟨q0,q1,q2,q3,q4,q5⟩:=R.bw A8;obtain⟨i0,i1⟩:=zA HK _ A8))
 go_wp2;refine bodyPost_ret (v:=.agg s.q) (by simp[results,Tryz.results34,go_sem,q0,q1,q2,q3,q4]) rfl ⟨s,rfl,zA cY,?_,?_⟩
 ·exact SpAt.put5 (oK.mono (by omega)) q0 q1 q2 q3 q4 _ _ _ _ _
 ·exact jY (zB j7 A8) (Nat.le_succ _) _ _ _ _ _
theorem zHM (w:World) (s:Sp) (k:Nat) (bt lo hi:Int) (hs:SpAt w s k lo hi) (hk:k<=300000000) (E8:0<=s.bits) (pR:s.bits<=1000000) (oy:0<=bt) (nw:bt<=1000000) :
  Calls Tryz.prog 97 #[.agg s.q,.int .i64 bt] w (zH w bt (k+62505) (zAZ lo (s.bits-bt)) (-(zAZ (-hi) (s.bits-bt)))):=by
 obtain⟨W,hW⟩:∃ W,W=(w.alloc (.cells s.q 31)).alloc (.cells zCq 31):=⟨_,rfl⟩;have j7:Below w.heap.size w W:=by rw[hW];exact bl2 _ _ _
 have A:SpC W w.heap.size s:=by rw[hW];constructor<;>simp[go_sem]
 have R:NoC W (w.heap.size+1):=by rw[hW];constructor<;>simp[go_sem]
 have HS:=zC (hs.bw j7);have lA:=A.lt;have lR:=R.lt;have C8:Below W.heap.size W W.drew:=(Below.refl _ _).drew
 have HK:=zC (show ∀ w',Below W.heap.size W w'->(w'.cell? ⟨w.heap.size,0,none⟩=some (.bool s.ln)/\w'.cell? ⟨w.heap.size,1,none⟩=some (.slice s.la s.lN s.lc)/\w'.cell? ⟨w.heap.size,2,none⟩=some (.bool s.hn)/\w'.cell? ⟨w.heap.size,3,none⟩=some (.slice s.ha s.hN s.hc)) from λ w' hB=>by
  obtain⟨x0,x1,x2,x3,x4⟩:=A.bw hB
  exact⟨x0,x1,x2,x3⟩)
 go_enter Tryz.func97,Tryz.ntmps97
 go_wp2;obtain⟨x0,x1,x2,x3,x4⟩:=A;rw[<- hW];clear hW
 go_region_held3 (λ w'=>w'.cell? ⟨w.heap.size,0,none⟩=some (.bool s.ln)/\w'.cell? ⟨w.heap.size,1,none⟩=some (.slice s.la s.lN s.lc)/\w'.cell? ⟨w.heap.size,2,none⟩=some (.bool s.hn)/\w'.cell? ⟨w.heap.size,3,none⟩=some (.slice s.ha s.hN s.hc)) (first|exact zA HK _ (by with_reducible first|exact C8|exact o9|exact A6)|go_keep)
  (first
   | (go_at_call 96;refine (zG5 _ _ _ _ k (s.bits-bt) lo _ ((zA HS).lo.bw C8) (by omega) (by omega) (by omega)).mono ?_;rintro r w1 ⟨m7,a1,n1,c1,rfl,o8,b9⟩;have A6:=zB C8 b9)
   | (go_at_call 120;refine (zEO _ _ _ _ k (s.bits-bt) hi _ ((zA HS).hi.bw A6) (by omega) (by omega) (by omega)).mono ?_;rintro r w2 ⟨j6,a2,n2,c2,rfl,A5,j8⟩;replace o8:=o8.bw j8;have o9:=zB A6 j8;obtain⟨q0,q1,q2,q3,q4,q5⟩:=R.bw o9;obtain⟨i0,i1,i2,i3⟩:=zA HK _ o9))
 go_wp2;refine bodyPost_ret (v:=.agg #[.bool m7,.slice a1 n1 c1,.bool j6,.slice a2 n2 c2,.int .i64 bt]) (by simp[results,Tryz.results97,go_sem,q0,q1,q2,q3,q4]) rfl ⟨⟨m7,a1,n1,c1,j6,a2,n2,c2,bt⟩,rfl,rfl,?_,?_⟩
 ·exact SpAt.put5 ⟨o8.mono (by omega),A5.mono (by omega)⟩ q0 q1 q2 q3 q4 _ _ _ _ _
 ·exact jY (zB j7 o9) (Nat.le_succ _) _ _ _ _ _
theorem zGJ (w:World) (s:Sp) (k:Nat) (bt lo hi:Int) (hs:SpAt w s k lo hi) (hk:k<=300000000) (E8:0<=s.bits) (pR:s.bits<=1000000) (oy:0<=bt) (nw:bt<=1000000) :
  Calls Tryz.prog 52 #[.agg s.q,.int .i64 bt] w (zH w bt (k+62505) (zAZ lo (s.bits-bt)) (-(zAZ (-hi) (s.bits-bt)))):=by
 by_cases az:s.bits<=bt
 ·obtain⟨K,hK⟩:∃ K:Nat,bt-s.bits=K:=⟨(bt-s.bits).toNat,by omega⟩
  have e1:∀ x,zAZ x (s.bits-bt)=x*Q K:=by
   intro x;unfold zAZ
   by_cases h0:0<=s.bits-bt
   ·have hz:s.bits-bt=0:=by omega
    have M6:K=0:=by omega
    rw[if_pos h0,hz,M6];simp[Q]
   ·rw[if_neg h0,show (-(s.bits-bt)).toNat=K by omega]
  have HL:=zC (e1 lo);have HH:=zC (show -(zAZ (-hi) (s.bits-bt))=hi*Q K by rw[e1,Int.neg_mul,Int.neg_neg])
  clear e1;have hK1:K<=1000000:=by omega
  rw[zA HL,zA HH];obtain⟨W,hW⟩:∃ W,W=(w.alloc (.cells s.q 38)).alloc (.cells zCq 38):=⟨_,rfl⟩;have j7:Below w.heap.size w W:=by rw[hW];exact bl2 _ _ _
  have A:SpC W w.heap.size s:=by rw[hW];constructor<;>simp[go_sem]
  have R:NoC W (w.heap.size+1):=by rw[hW];constructor<;>simp[go_sem]
  have HS:=zC (hs.bw j7);have lA:=A.lt;have lR:=R.lt;have C8:Below W.heap.size W W.drew:=(Below.refl _ _).drew
  have HK:=zC (show ∀ w',Below W.heap.size W w'->(w'.cell? ⟨w.heap.size,0,none⟩=some (.bool s.ln)/\w'.cell? ⟨w.heap.size,1,none⟩=some (.slice s.la s.lN s.lc)/\w'.cell? ⟨w.heap.size,2,none⟩=some (.bool s.hn)/\w'.cell? ⟨w.heap.size,3,none⟩=some (.slice s.ha s.hN s.hc)) from λ w' hB=>by
   obtain⟨x0,x1,x2,x3,x4⟩:=A.bw hB
   exact⟨x0,x1,x2,x3⟩)
  go_enter Tryz.func52,Tryz.ntmps52
  go_wp2_with fail;rw[<- hW];clear hW;refine (zCB K _ (by omega)).mono ?_
  rintro r w1 ⟨m7,a1,n1,c1,rfl,o8,b9⟩;obtain⟨W1,T5⟩:∃ W',W'=w1.alloc (.cells #[.bool m7,.slice a1 n1 c1] 29):=⟨_,rfl⟩;have D7:Below w1.heap.size w1 W1:=by rw[T5];exact bl1 _ _
  have X:NmC W1 w1.heap.size ⟨m7,a1,n1,c1⟩:=by rw[T5];exact zBZ w1 ⟨m7,a1,n1,c1⟩ _
  have nR:w1.heap.size≠w.heap.size+1:=YI (R.bw b9).lt;have AL:w.heap.size+1≠w1.heap.size:=λ e=>nR e.symm
  have A6:=zB b9 D7;have R1:=R.bw A6;have A1:=A.bw A6;have RH:=A1.lt;have rz:=R1.lt;have lX:=X.lt;replace o8:=zC (o8.bw D7);replace HS:=zC ((zA HS).bw A6);have A9:Below W1.heap.size W1 W1.drew:=(Below.refl _ _).drew
  have mR:=zC (show ∀ w',Below W1.heap.size W1 w'->(w'.cell? ⟨w.heap.size,0,none⟩=some (.bool s.ln)/\w'.cell? ⟨w.heap.size,1,none⟩=some (.slice s.la s.lN s.lc)/\w'.cell? ⟨w.heap.size,2,none⟩=some (.bool s.hn)/\w'.cell? ⟨w.heap.size,3,none⟩=some (.slice s.ha s.hN s.hc)/\w'.cell? ⟨w1.heap.size,0,none⟩=some (.bool m7)/\w'.cell? ⟨w1.heap.size,1,none⟩=some (.slice a1 n1 c1)) from λ w' hB=>by
   obtain⟨x0,x1,x2,x3,x4⟩:=A1.bw hB
   exact⟨x0,x1,x2,x3,(X.bw hB).c0,(X.bw hB).c1⟩)
  clear HK C8;go_wp2;rw[<- T5];clear T5;obtain⟨i0,i1,i2,i3,i4,i5⟩:=zA mR _ (Below.refl _ _)
  go_region_held3 (λ w'=>w'.cell? ⟨w.heap.size,0,none⟩=some (.bool s.ln)/\w'.cell? ⟨w.heap.size,1,none⟩=some (.slice s.la s.lN s.lc)/\w'.cell? ⟨w.heap.size,2,none⟩=some (.bool s.hn)/\w'.cell? ⟨w.heap.size,3,none⟩=some (.slice s.ha s.hN s.hc)/\w'.cell? ⟨w1.heap.size,0,none⟩=some (.bool m7)/\w'.cell? ⟨w1.heap.size,1,none⟩=some (.slice a1 n1 c1)) (first|exact zA mR _ (by with_reducible first|exact A9|exact E9|exact s9)|go_keep)
   (first
    | (go_at_call 83;have hq:=s9;refine (zT _ _ _ _ _ _ _ _ k (K/16+5) hi (Q K) _ ((zA HS).hi.bw s9) ((zA o8).bw s9) (by omega) (by omega)).mono ?_;rintro r w3 ⟨A7,a3,n3,c3,rfl,E5,m9⟩;replace A5:=A5.bw m9;have E9:=zB s9 m9;obtain⟨q0,q1,q2,q3,q4,q5⟩:=R1.bw E9;obtain⟨d0,d1,d2,d3,d4,d5⟩:=zA mR _ E9)
    | (go_at_call 83;refine (zT _ _ _ _ _ _ _ _ k (K/16+5) lo (Q K) _ ((zA HS).lo.bw A9) ((zA o8).bw A9) (by omega) (by omega)).mono ?_;rintro r w2 ⟨j6,a2,n2,c2,rfl,A5,j8⟩;have s9:=zB A9 j8))
  clear i0 i1 i2 i3 i4 i5;go_wp2;refine bodyPost_ret (v:=.agg #[.bool j6,.slice a2 n2 c2,.bool A7,.slice a3 n3 c3,.int .i64 bt]) (by simp[results,Tryz.results52,go_sem,q0,q1,q2,q3,q4]) rfl ⟨⟨j6,a2,n2,c2,A7,a3,n3,c3,bt⟩,rfl,rfl,?_,?_⟩
  ·exact SpAt.put5 ⟨A5.mono (by omega),E5.mono (by omega)⟩ q0 q1 q2 q3 q4 _ _ _ _ _
  ·exact jY (zB (zB j7 A6) E9) (Nat.le_succ _) _ _ _ _ _
 ·have e0:¬ bt ≥ s.bits:=az
  obtain⟨W,hW⟩:∃ W,W=(w.alloc (.cells s.q 38)).alloc (.cells zCq 38):=⟨_,rfl⟩;have j7:Below w.heap.size w W:=by rw[hW];exact bl2 _ _ _
  have A:SpC W w.heap.size s:=by rw[hW];constructor<;>simp[go_sem]
  have R:NoC W (w.heap.size+1):=by rw[hW];constructor<;>simp[go_sem]
  have HS:=zC (hs.bw j7);have lA:=A.lt;have lR:=R.lt;have C8:Below W.heap.size W W.drew:=(Below.refl _ _).drew
  have HK:=zC (show ∀ w',Below W.heap.size W w'->(w'.cell? ⟨w.heap.size,0,none⟩=some (.bool s.ln)/\w'.cell? ⟨w.heap.size,1,none⟩=some (.slice s.la s.lN s.lc)/\w'.cell? ⟨w.heap.size,2,none⟩=some (.bool s.hn)/\w'.cell? ⟨w.heap.size,3,none⟩=some (.slice s.ha s.hN s.hc)) from λ w' hB=>by
   obtain⟨x0,x1,x2,x3,x4⟩:=A.bw hB
   exact⟨x0,x1,x2,x3⟩)
  go_enter Tryz.func52,Tryz.ntmps52
  go_wp2;obtain⟨x0,x1,x2,x3,x4⟩:=A;rw[<- hW];clear hW
  go_region_held3 (λ w'=>w'.cell? ⟨w.heap.size,0,none⟩=some (.bool s.ln)/\w'.cell? ⟨w.heap.size,1,none⟩=some (.slice s.la s.lN s.lc)/\w'.cell? ⟨w.heap.size,2,none⟩=some (.bool s.hn)/\w'.cell? ⟨w.heap.size,3,none⟩=some (.slice s.ha s.hN s.hc)) (first|exact zA HK _ (by with_reducible first|exact C8|exact G0|exact A8|exact o9|exact A6)|go_keep)
   (first
    | (go_at_call 87;have hq:=A8;refine (zA2 _ _ _ _ (k+62505) _ _ (E5.mono (by omega)) (by omega)).mono ?_;rintro r w4 ⟨D8,a4,n4,c4,rfl,G6,y9⟩;replace o8:=o8.bw y9;have G0:=zB A8 y9;obtain⟨q0,q1,q2,q3,q4,q5⟩:=R.bw G0;obtain⟨i0,i1,i2,i3⟩:=zA HK _ G0)
    | (go_at_call 96;have hq:=o9;refine (zG5 _ _ _ _ k (s.bits-bt) (-hi) _ A5 (by omega) (by omega) (by omega)).mono ?_;rintro r w3 ⟨A7,a3,n3,c3,rfl,E5,m9⟩;replace o8:=o8.bw m9;have A8:=zB o9 m9)
    | (go_at_call 87;have hq:=A6;refine (zA2 _ _ _ _ k hi _ ((zA HS).hi.bw A6) (by omega)).mono ?_;rintro r w2 ⟨j6,a2,n2,c2,rfl,A5,j8⟩;replace o8:=o8.bw j8;have o9:=zB A6 j8)
    | (go_at_call 96;refine (zG5 _ _ _ _ k (s.bits-bt) lo _ ((zA HS).lo.bw C8) (by omega) (by omega) (by omega)).mono ?_;rintro r w1 ⟨m7,a1,n1,c1,rfl,o8,b9⟩;have A6:=zB C8 b9))
  go_wp2;refine bodyPost_ret (v:=.agg #[.bool m7,.slice a1 n1 c1,.bool D8,.slice a4 n4 c4,.int .i64 bt]) (by simp[results,Tryz.results52,go_sem,q0,q1,q2,q3,q4]) rfl ⟨⟨m7,a1,n1,c1,D8,a4,n4,c4,bt⟩,rfl,rfl,?_,?_⟩
  ·exact SpAt.put5 ⟨o8.mono (by omega),G6.mono (by omega)⟩ q0 q1 q2 q3 q4 _ _ _ _ _
  ·exact jY (zB j7 G0) (Nat.le_succ _) _ _ _ _ _
end Go.Proofs.YtgmnknmjainabacGreat
