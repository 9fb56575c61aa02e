/-
  Its own texts.
-/
import Derived.Deep.LoopGhost
import Derived.Test.YtgmnknmjainababGreatK05
set_option maxRecDepth 100000
set_option maxHeartbeats 8000000
set_option linter.unnecessarySimpa false
set_option linter.unusedSimpArgs false
set_option linter.unusedVariables false
namespace Go.Proofs.YtgmnknmjainababGreat
open Go.RowKit
attribute [local go_sem ↓] Go.wp_at_zero Go.wp_at_succ
structure NmC (w:World) (B:Nat) (x:Nm):Prop where
 c0:w.cell? ⟨B,0,none⟩=some (.bool x.neg)
 c1:w.cell? ⟨B,1,none⟩=some (.slice x.a x.n x.cap)
theorem NmC.lt {w:World} {B:Nat} {x:Nm} (h:NmC w B x):B<w.heap.size:=World.block_lt_of_cell? w ⟨B,0,none⟩ h.c0
theorem NmC.bw {w w':World} {B:Nat} {x:Nm} (h:NmC w B x) (hb:Below w.heap.size w w'):NmC w' B x :=
 ⟨(hb.cell (p:=⟨B,0,none⟩) h.lt).trans h.c0,(hb.cell (p:=⟨B,1,none⟩) h.lt).trans h.c1⟩
theorem yS (w:World) (x:Nm) (T:TypeId):NmC (w.alloc (.cells #[.bool x.neg,.slice x.a x.n x.cap] T)) w.heap.size x:=⟨by simp,by simp⟩
structure NoI (w:World) (B:Nat):Prop where
 c0:w.cell? ⟨B,0,none⟩=some (.bool false)
 c1:w.cell? ⟨B,1,none⟩=some (.slice none 0 0)
 fz:∀ o,w.frozen? ⟨B,o,none⟩=false
theorem NoI.lt {w:World} {B:Nat} (h:NoI w B):B<w.heap.size:=World.block_lt_of_cell? w ⟨B,0,none⟩ h.c0
theorem NoI.bw {w w':World} {B:Nat} (h:NoI w B) (hb:Below w.heap.size w w'):NoI w' B :=
 ⟨(hb.cell (p:=⟨B,0,none⟩) h.lt).trans h.c0,(hb.cell (p:=⟨B,1,none⟩) h.lt).trans h.c1,fun o=>(hb.frozen (p:=⟨B,o,none⟩) h.lt).trans (h.fz o)⟩
theorem zDN {B B':Nat} {a w:World} (h:Below B a w) (hB:B≤B') (u0 u1:Value):Below B a ((w.setCell ⟨B',0,none⟩ u0).setCell ⟨B',1,none⟩ u1) :=
 (h.setCell (p:=⟨B',0,none⟩) hB u0).setCell (p:=⟨B',1,none⟩) hB u1
def zDF (w:World) (k:Nat) (z:Int) (r:Ending) (w':World):Prop :=
 ∃ neg' a' n' cap',r=.returned (.agg #[.bool neg',.slice a' n' cap'])∧IntAt w' neg' a' n' cap' k z∧Below w.heap.size w w'
theorem zBY (neg neg2:Bool) (a c:Option Addr) (n m cap cap2 k k2:Nat) (x y:Int) (w:World) (h1:IntAt w neg a n cap k x) (h2:IntAt w neg2 c m cap2 k2 y) (hk:k≤700000000) (hk2:k2≤100000000) (hfl:∀ w',IntAt w' neg a n cap k x→IntAt w' neg2 c m cap2 k2 y→Calls Tryz.prog 119 #[.agg #[.bool neg,.slice a n cap],.agg #[.bool neg2,.slice c m cap2]] w' (zAC w' k (x/y))) :
  Calls Tryz.prog 108 #[.agg #[.bool neg,.slice a n cap],.agg #[.bool neg2,.slice c m cap2]] w (zDF w (k+8) (x/y)):=by
 have HF:=zC hfl;clear hfl;have le2:w.heap.size≤w.heap.size+1+1:=by omega
 go_enter Tryz.func108,Tryz.ntmps108
 go_wp2_with fail;refine (zA HF _ (h1.bw (bl3 _ _ _ _)) (h2.bw (bl3 _ _ _ _))).mono ?_;rintro r w1 ⟨neg1,a1,n1,c1,rfl,hZ1,hb1⟩;obtain ⟨hsz1,kC1,hfz1⟩:=kK (w.heap.size+1+1+1) (by simp) hb1
 go_wp2_with fail;have q0:w1.cell? ⟨w.heap.size+1+1,0,none⟩=some (.bool false):=by simp[kC1,go_sem]
 have q1:w1.cell? ⟨w.heap.size+1+1,1,none⟩=some (.slice none 0 0):=by simp[kC1,go_sem]
 refine bodyPost_ret (v:=.agg #[.bool neg1,.slice a1 n1 c1]) (by simp[results,Tryz.results108,go_sem,q0,q1]) rfl ⟨neg1,a1,n1,c1,rfl,hZ1.put2 q0 q1 _ _,?_⟩
 exact zDN (zB (bl3 _ _ _ _) hb1) le2 _ _
theorem ceil_up {x y:Int} (hy:0<y) (h:x/y*y<x):x/y+1 = -(-x/y):=by
 have h1:=Int.mul_ediv_add_emod x y;have h2:=Int.mul_ediv_add_emod (-x) y;have h3:=Int.emod_lt_of_pos x hy;have h4:=Int.emod_nonneg (-x) (show y≠0 by omega)
 have h5:=Int.emod_lt_of_pos (-x) hy;rw[Int.mul_comm y] at h1 h2;generalize x/y=p at *;generalize -x/y=q at *;generalize x % y=r at *;generalize -x % y=t at *;have h6:(p+q)*y=p*y+q*y:=Int.add_mul _ _ _
 have h7:p+q<0:=by
  rcases Int.lt_or_le (p+q) 0 with h|h
  ·exact h
  ·have:=Int.mul_nonneg h (show 0≤y by omega);omega
 have h8 : -2<p+q:=by
  rcases Int.lt_or_le (-2) (p+q) with h|h
  ·exact h
  ·have:=Int.mul_le_mul_of_nonneg_right h (show 0≤y by omega);omega
 omega
theorem zOF {x y:Int} (hy:0<y) (h:¬ x/y*y<x):x/y = -(-x/y):=by
 have h1:=Int.mul_ediv_add_emod x y;have h3:=Int.emod_nonneg x (show y≠0 by omega)
 rw[Int.mul_comm y] at h1;have h4:x=x/y*y:=by omega
 have h5 : -x = -(x/y)*y:=by rw[Int.neg_mul];omega
 rw[h5,Int.mul_ediv_cancel _ (show y≠0 by omega)];omega
theorem zDU (neg neg2:Bool) (a c:Option Addr) (n m cap cap2 k k2:Nat) (x y:Int) (w:World) (h1:IntAt w neg a n cap k x) (h2:IntAt w neg2 c m cap2 k2 y) (hk:k≤700000000) (hk2:k2≤100000000) (hy:0<y) (hfl:∀ w',IntAt w' neg a n cap k x→IntAt w' neg2 c m cap2 k2 y→Calls Tryz.prog 119 #[.agg #[.bool neg,.slice a n cap],.agg #[.bool neg2,.slice c m cap2]] w' (zAC w' k (x/y))) :
  Calls Tryz.prog 109 #[.agg #[.bool neg,.slice a n cap],.agg #[.bool neg2,.slice c m cap2]] w (zDF w (k+9) (-(-x/y))):=by
 have HF:=zC hfl;clear hfl
 by_cases hlt:x/y*y<x
 ·have t1:zF (x/y*y) x<0:=by simp[zF,hlt]
  have HE:=zC (ceil_up hy hlt);clear hlt
  go_enter Tryz.func109,Tryz.ntmps109
  go_wp2_with fail;refine (zA HF _ (h1.bw (bl3 _ _ _ _)) (h2.bw (bl3 _ _ _ _))).mono ?_;rintro r w1 ⟨neg1,a1,n1,c1,rfl,hZ1,hb1⟩;have hBw:Below w.heap.size w w1:=zB (bl3 _ _ _ _) hb1;obtain ⟨hsz1,kC1,hfz1⟩:=kK (w.heap.size+1+1+1) (by simp) hb1
  have A:NmC w1 w.heap.size ⟨neg,a,n,cap⟩:=⟨by simp[kC1,go_sem],by simp[kC1,go_sem]⟩
  have G:NmC w1 (w.heap.size+1) ⟨neg2,c,m,cap2⟩:=⟨by simp[kC1,go_sem],by simp[kC1,go_sem]⟩
  have R:NoI w1 (w.heap.size+1+1):=⟨by simp[kC1,go_sem],by simp[kC1,go_sem],fun o=>by simp[hfz1,go_sem]⟩
  have hnr:=R.lt;clear kC1 hfz1 hb1 hsz1;obtain ⟨W1,hW1⟩:∃ W',W'=w1.alloc (.cells #[.bool neg1,.slice a1 n1 c1] 26):=⟨_,rfl⟩;have hc1:Below w1.heap.size w1 W1:=by rw[hW1];exact bl1 _ _
  have X:NmC W1 w1.heap.size ⟨neg1,a1,n1,c1⟩:=by rw[hW1];exact yS w1 ⟨neg1,a1,n1,c1⟩ _
  replace A:=A.bw hc1;replace G:=G.bw hc1;replace R:=R.bw hc1;have hB2:=zB hBw hc1;have HX:=zC (h1.bw hB2);have HY:=zC (h2.bw hB2);replace hZ1:=zC (hZ1.bw hc1);have lR:=R.lt;have lX:=X.lt;have nR:w1.heap.size≠w.heap.size+1+1:=Nat.ne_of_gt hnr;have nR':w.heap.size+1+1≠w1.heap.size:=fun e=>nR e.symm
  have hB0:Below W1.heap.size W1 W1.drew:=(Below.refl _ _).drew
  have HK:=zC (show ∀ w',Below W1.heap.size W1 w'→(w'.cell? ⟨w.heap.size,0,none⟩=some (.bool neg)∧w'.cell? ⟨w.heap.size,1,none⟩=some (.slice a n cap)∧w'.cell? ⟨w.heap.size+1,0,none⟩=some (.bool neg2)∧w'.cell? ⟨w.heap.size+1,1,none⟩=some (.slice c m cap2)∧w'.cell? ⟨w1.heap.size,0,none⟩=some (.bool neg1)∧w'.cell? ⟨w1.heap.size,1,none⟩=some (.slice a1 n1 c1)) from fun w' hB =>
   ⟨(A.bw hB).c0,(A.bw hB).c1,(G.bw hB).c0,(G.bw hB).c1,(X.bw hB).c0,(X.bw hB).c1⟩)
  go_wp2;rw[← hW1];clear hW1;obtain ⟨j0,j1,j2,j3,j4,j5⟩:=zA HK _ (Below.refl _ _)
  go_region_held3 (fun w'=>w'.cell? ⟨w.heap.size,0,none⟩=some (.bool neg)∧w'.cell? ⟨w.heap.size,1,none⟩=some (.slice a n cap)∧w'.cell? ⟨w.heap.size+1,0,none⟩=some (.bool neg2)∧w'.cell? ⟨w.heap.size+1,1,none⟩=some (.slice c m cap2)∧w'.cell? ⟨w1.heap.size,0,none⟩=some (.bool neg1)∧w'.cell? ⟨w1.heap.size,1,none⟩=some (.slice a1 n1 c1)) (exact zA HK _ (by with_reducible first|exact hB0|exact hB5|exact hB4))
   (first
    | (go_at_call 66;refine (zX _ _ _ _ _ _ _ _ (k+8) k2 (x/y) y _ ((zA hZ1).bw hB0) ((zA HY).bw hB0) (by omega) (by omega)).mono ?_;rintro r w4 ⟨neg4,a4,n4,c4,rfl,hZ4,hb4⟩;have hB4:=zB hB0 hb4)
    | (go_at_call 46;refine (zS _ _ _ _ _ _ _ _ (k+8+k2) k (x/y*y) x _ hZ4 ((zA HX).bw hB4)).mono ?_;rintro r w5 ⟨rfl,hb5⟩;have hB5:=zB hB4 hb5))
  clear j0 j1 j2 j3 j4 j5;have X5:=X.bw hB5;have R5:=R.bw hB5;have lR5:=R5.lt;have lX5:=X5.lt;obtain ⟨j4,j5⟩:=X5;obtain ⟨q0,q1,q2⟩:=R5;have hD0:Below w5.heap.size w5 w5.drew:=(Below.refl _ _).drew;have X5:NmC w5 w1.heap.size ⟨neg1,a1,n1,c1⟩:=⟨j4,j5⟩;have R5:NoI w5 (w.heap.size+1+1):=⟨q0,q1,q2⟩;have HK5:=zC (show ∀ w',Below w5.heap.size w5 w'→(w'.cell? ⟨w1.heap.size,0,none⟩=some (.bool neg1)∧w'.cell? ⟨w1.heap.size,1,none⟩=some (.slice a1 n1 c1)) from fun w' hB=>⟨(X5.bw hB).c0,(X5.bw hB).c1⟩)
  go_wp2
  go_region_held3 (fun w'=>w'.cell? ⟨w1.heap.size,0,none⟩=some (.bool neg1)∧w'.cell? ⟨w1.heap.size,1,none⟩=some (.slice a1 n1 c1)) (first|exact zA HK5 _ (by with_reducible first|exact hD0|exact hD7|exact hD6)|go_keep)
   (first
    | (go_at_call 43;refine (zD 1 _ (by decide) (by decide)).mono ?_;rintro r w6 ⟨neg6,a6,n6,c6,rfl,hZ6,hb6⟩;have hD6:=zB hD0 hb6)
    | (go_at_call 65;refine (yQ _ _ _ _ _ _ _ _ (k+8) 4 (x/y) 1 _ (((zA hZ1).bw hB5).bw hD6) hZ6 (by omega) (by omega)).mono ?_;rintro r w7 ⟨neg7,a7,n7,c7,rfl,hZ7,hb7⟩;have hD7:=zB hD6 hb7;obtain ⟨p0,p1,p2⟩:=R5.bw hD7;obtain ⟨i0,i1⟩:=zA HK5 _ hD7))
  go_wp2;refine bodyPost_ret (v:=.agg #[.bool neg7,.slice a7 n7 c7]) (by simp[results,Tryz.results109,go_sem,p0,p1]) rfl ⟨neg7,a7,n7,c7,rfl,?_,?_⟩
  ·rw[zA HE] at hZ7
   exact (hZ7.put2 p0 p1 _ _).mono (by omega)
  ·exact zDN (zB (zB hB2 hB5) hD7) (by omega) _ _
 ·have t1:¬ zF (x/y*y) x<0:=zDO hlt
  have HE:=zC (zOF hy hlt);clear hlt
  go_enter Tryz.func109,Tryz.ntmps109
  go_wp2_with fail;refine (zA HF _ (h1.bw (bl3 _ _ _ _)) (h2.bw (bl3 _ _ _ _))).mono ?_;rintro r w1 ⟨neg1,a1,n1,c1,rfl,hZ1,hb1⟩;have hBw:Below w.heap.size w w1:=zB (bl3 _ _ _ _) hb1;obtain ⟨hsz1,kC1,hfz1⟩:=kK (w.heap.size+1+1+1) (by simp) hb1
  have A:NmC w1 w.heap.size ⟨neg,a,n,cap⟩:=⟨by simp[kC1,go_sem],by simp[kC1,go_sem]⟩
  have G:NmC w1 (w.heap.size+1) ⟨neg2,c,m,cap2⟩:=⟨by simp[kC1,go_sem],by simp[kC1,go_sem]⟩
  have R:NoI w1 (w.heap.size+1+1):=⟨by simp[kC1,go_sem],by simp[kC1,go_sem],fun o=>by simp[hfz1,go_sem]⟩
  have hnr:=R.lt;clear kC1 hfz1 hb1 hsz1;obtain ⟨W1,hW1⟩:∃ W',W'=w1.alloc (.cells #[.bool neg1,.slice a1 n1 c1] 26):=⟨_,rfl⟩;have hc1:Below w1.heap.size w1 W1:=by rw[hW1];exact bl1 _ _
  have X:NmC W1 w1.heap.size ⟨neg1,a1,n1,c1⟩:=by rw[hW1];exact yS w1 ⟨neg1,a1,n1,c1⟩ _
  replace A:=A.bw hc1;replace G:=G.bw hc1;replace R:=R.bw hc1;have hB2:=zB hBw hc1;have HX:=zC (h1.bw hB2);have HY:=zC (h2.bw hB2);replace hZ1:=zC (hZ1.bw hc1);have lR:=R.lt;have lX:=X.lt;have nR:w1.heap.size≠w.heap.size+1+1:=Nat.ne_of_gt hnr;have nR':w.heap.size+1+1≠w1.heap.size:=fun e=>nR e.symm
  have hB0:Below W1.heap.size W1 W1.drew:=(Below.refl _ _).drew
  have HK:=zC (show ∀ w',Below W1.heap.size W1 w'→(w'.cell? ⟨w.heap.size,0,none⟩=some (.bool neg)∧w'.cell? ⟨w.heap.size,1,none⟩=some (.slice a n cap)∧w'.cell? ⟨w.heap.size+1,0,none⟩=some (.bool neg2)∧w'.cell? ⟨w.heap.size+1,1,none⟩=some (.slice c m cap2)∧w'.cell? ⟨w1.heap.size,0,none⟩=some (.bool neg1)∧w'.cell? ⟨w1.heap.size,1,none⟩=some (.slice a1 n1 c1)) from fun w' hB =>
   ⟨(A.bw hB).c0,(A.bw hB).c1,(G.bw hB).c0,(G.bw hB).c1,(X.bw hB).c0,(X.bw hB).c1⟩)
  go_wp2;rw[← hW1];clear hW1;obtain ⟨j0,j1,j2,j3,j4,j5⟩:=zA HK _ (Below.refl _ _)
  go_region_held3 (fun w'=>w'.cell? ⟨w.heap.size,0,none⟩=some (.bool neg)∧w'.cell? ⟨w.heap.size,1,none⟩=some (.slice a n cap)∧w'.cell? ⟨w.heap.size+1,0,none⟩=some (.bool neg2)∧w'.cell? ⟨w.heap.size+1,1,none⟩=some (.slice c m cap2)∧w'.cell? ⟨w1.heap.size,0,none⟩=some (.bool neg1)∧w'.cell? ⟨w1.heap.size,1,none⟩=some (.slice a1 n1 c1)) (exact zA HK _ (by with_reducible first|exact hB0|exact hB5|exact hB4))
   (first
    | (go_at_call 66;refine (zX _ _ _ _ _ _ _ _ (k+8) k2 (x/y) y _ ((zA hZ1).bw hB0) ((zA HY).bw hB0) (by omega) (by omega)).mono ?_;rintro r w4 ⟨neg4,a4,n4,c4,rfl,hZ4,hb4⟩;have hB4:=zB hB0 hb4)
    | (go_at_call 46;refine (zS _ _ _ _ _ _ _ _ (k+8+k2) k (x/y*y) x _ hZ4 ((zA HX).bw hB4)).mono ?_;rintro r w5 ⟨rfl,hb5⟩;have hB5:=zB hB4 hb5))
  clear j0 j1 j2 j3 j4 j5;have X5:=X.bw hB5;have R5:=R.bw hB5;have lR5:=R5.lt;have lX5:=X5.lt;obtain ⟨j4,j5⟩:=X5;obtain ⟨q0,q1,q2⟩:=R5;go_wp2;refine bodyPost_ret (v:=.agg #[.bool neg1,.slice a1 n1 c1]) (by simp[results,Tryz.results109,go_sem,q0,q1]) rfl ⟨neg1,a1,n1,c1,rfl,?_,?_⟩
  ·replace hZ1:=(zA hZ1).bw hB5
   rw[zA HE] at hZ1;exact (hZ1.put2 q0 q1 _ _).mono (by omega)
  ·exact zDN (zB hB2 hB5) (by omega) _ _
theorem jW (w:World) (T:TypeId):NoI (w.alloc (.cells #[.bool false,.slice none 0 0] T)) w.heap.size:=⟨by simp,by simp,fun o=>by simp[go_sem]⟩
theorem zBO (neg neg2:Bool) (a c:Option Addr) (n m cap cap2 k k2 b:Nat) (x y:Int) (w:World) (h1:IntAt w neg a n cap k x) (h2:IntAt w neg2 c m cap2 k2 y) (hk:k≤600000000) (hk2:k2≤100000000) (hb:b≤100000) (hy:0<y)
  (hfl:∀ neg' a' n' cap' w',IntAt w' neg' a' n' cap' (k+b/16+5) (x*Q b)→IntAt w' neg2 c m cap2 k2 y→Calls Tryz.prog 119 #[.agg #[.bool neg',.slice a' n' cap'],.agg #[.bool neg2,.slice c m cap2]] w' (zAC w' (k+b/16+5) (x*Q b/y))) :
  Calls Tryz.prog 54 #[.agg #[.bool neg,.slice a n cap],.agg #[.bool neg2,.slice c m cap2],.int .i64 b] w (zH w b (k+b/16+14) (x*Q b/y) (-(-(x*Q b)/y))):=by
 have HF:=zC hfl;clear hfl;obtain ⟨W,hW⟩:∃ W,W=((w.alloc (.cells #[.bool neg,.slice a n cap] 26)).alloc (.cells #[.bool neg2,.slice c m cap2] 26)).alloc (.cells #[.bool false,.slice none 0 0,.bool false,.slice none 0 0,.int .i64 0] 36):=⟨_,rfl⟩;have hBW:Below w.heap.size w W:=by rw[hW];exact bl3 _ _ _ _
 have A:NmC W w.heap.size ⟨neg,a,n,cap⟩:=by rw[hW];constructor <;> simp[go_sem]
 have G:NmC W (w.heap.size+1) ⟨neg2,c,m,cap2⟩:=by rw[hW];constructor <;> simp[go_sem]
 have R:NoC W (w.heap.size+1+1):=by rw[hW];constructor <;> simp[go_sem]
 have HX:=zC (h1.bw hBW);have HY:=zC (h2.bw hBW);have HK:=zC (show ∀ w',Below W.heap.size W w'→(w'.cell? ⟨w.heap.size,0,none⟩=some (.bool neg)∧w'.cell? ⟨w.heap.size,1,none⟩=some (.slice a n cap)) from fun w' hB=>⟨(A.bw hB).c0,(A.bw hB).c1⟩)
 go_enter Tryz.func54,Tryz.ntmps54
 go_wp2;rw[← hW];clear hW;obtain ⟨i0,i1⟩:=A;have lW:=G.lt;have lR:=R.lt
 go_cut [7] (fun p wx=>VarAt wx p W.heap.size (k+b/16+5) (x*Q b)∧Below W.heap.size W wx)
 case first =>
  go_region_held3 (fun w'=>w'.cell? ⟨w.heap.size,0,none⟩=some (.bool neg)∧w'.cell? ⟨w.heap.size,1,none⟩=some (.slice a n cap)) (exact zA HK _ (by repeat' (first|with_reducible exact hBX2|with_reducible exact hBX1|with_reducible exact Below.refl _ _|with_reducible refine Below.drew ?_|with_reducible refine zK ?_ _|with_reducible refine Below.setCell ?_ (by first|exact Nat.le_refl _|exact hlX1|exact hlX2) _)))
   (first
    | (go_at_call 66;have hq:=hBX1;refine (zX _ _ _ _ _ _ _ _ k (b/16+5) x (Q b) _ ((zA HX).bw (by with_reducible first|exact hBX1|exact zK hBX1 _)) (hZX1.bw (by with_reducible first|exact Below.refl _ _|exact bl1 _ _)) (by omega) (by omega)).mono ?_;rintro r wX2 ⟨negX2,aX2,nX2,cX2,rfl,hZX2,hbX2⟩;have hCX2:Below wX1.heap.size wX1 wX2:=(by with_reducible first|exact hbX2|exact zB (bl1 _ _) hbX2);have hBX2:=zB hBX1 hCX2;(try with_reducible have gX2:=(jW wX1 26).bw hbX2);replace hZX1:=hZX1.bw hCX2;(try replace gX1:=gX1.bw hCX2);have hlX2:=hBX2.size;(try have mX1:=gX1.lt);(try have eX1:=Nat.ne_of_lt mX1);(try have eX1':=Nat.ne_of_gt mX1);(try obtain ⟨zX10,zX11,zX12⟩:=gX1);(try have mX2:=gX2.lt);(try have eX2:=Nat.ne_of_lt mX2);(try have eX2':=Nat.ne_of_gt mX2);(try obtain ⟨zX20,zX21,zX22⟩:=gX2))
    | (go_at_call 104;refine (kC b _ (by omega)).mono ?_;rintro r wX1 ⟨negX1,aX1,nX1,cX1,rfl,hZX1,hbX1⟩;have hBX1:Below W.heap.size W wX1:=(by with_reducible first|exact zB (Below.refl _ _).drew hbX1|exact zB (bl1 _ _).drew hbX1);(try with_reducible have gX1:=((jW W 26).bw (Below.refl _ _).drew).bw hbX1);have hlX1:=hBX1.size))
  all_goals
   go_wp2_with fail;go_meet;refine ⟨⟨_,⟨negX2,aX2,nX2,cX2⟩,rfl,?_,?_,?_,?_,?_⟩,?_⟩
   ·simp[go_sem, *]
   ·simp[go_sem, *]
   ·first|with_reducible exact IntAt.mono (hZX2.bw (bl1 _ _)) (by omega)|with_reducible exact IntAt.mono (hZX2.put2 (by assumption) (by assumption) _ _) (by omega)
   ·first|exact Nat.le_refl _|exact hlX1|exact hlX2
   ·simp[World.setCell];try omega
   ·repeat' (first|with_reducible exact hBX2|with_reducible exact hBX1|with_reducible exact Below.refl _ _|with_reducible refine Below.drew ?_|with_reducible refine zK ?_ _|with_reducible refine Below.setCell ?_ (by first|exact Nat.le_refl _|exact hlX1|exact hlX2) _)
 case rest =>
 obtain ⟨⟨BX,xX,rfl,jX0,jX1,hZX,hHX,hltX⟩,hblX⟩:=hcut;have XX:NmC wc BX xX:=⟨jX0,jX1⟩;clear i0 i1 HK;replace G:=G.bw hblX;replace R:=R.bw hblX;replace HY:=zC ((zA HY).bw hblX);replace hZX:=zC hZX;have lR2:=R.lt;have lX2:=XX.lt;have nR:BX≠w.heap.size+1+1:=Nat.ne_of_gt (Nat.lt_of_lt_of_le lR hHX);have nR':w.heap.size+1+1≠BX:=fun e=>nR e.symm
 have hBW2:=zB hBW hblX;have hD0:Below wc.heap.size wc wc.drew:=(Below.refl _ _).drew;have HK:=zC (show ∀ w',Below wc.heap.size wc w'→(w'.cell? ⟨BX,0,none⟩=some (.bool xX.neg)∧w'.cell? ⟨BX,1,none⟩=some (.slice xX.a xX.n xX.cap)∧w'.cell? ⟨w.heap.size+1,0,none⟩=some (.bool neg2)∧w'.cell? ⟨w.heap.size+1,1,none⟩=some (.slice c m cap2)) from fun w' hB=>⟨(XX.bw hB).c0,(XX.bw hB).c1,(G.bw hB).c0,(G.bw hB).c1⟩)
 obtain ⟨i2,i3⟩:=G;go_wp2
 go_region_held3 (fun w'=>w'.cell? ⟨BX,0,none⟩=some (.bool xX.neg)∧w'.cell? ⟨BX,1,none⟩=some (.slice xX.a xX.n xX.cap)∧w'.cell? ⟨w.heap.size+1,0,none⟩=some (.bool neg2)∧w'.cell? ⟨w.heap.size+1,1,none⟩=some (.slice c m cap2)) (first|exact zA HK _ (by with_reducible first|exact hD0|exact hD2|exact hD1)|go_keep)
  (first
   | (go_at_call 108;refine (zBY _ _ _ _ _ _ _ _ (k+b/16+5) k2 (x*Q b) y _ ((zA hZX).bw hD0) ((zA HY).bw hD0) (by omega) (by omega) (fun w' p q=>zA HF _ _ _ _ w' p q)).mono ?_;rintro r w1 ⟨neg1,a1,n1,c1,rfl,hZ1,hb1⟩;have hD1:=zB hD0 hb1)
   | (go_at_call 109;refine (zDU _ _ _ _ _ _ _ _ (k+b/16+5) k2 (x*Q b) y _ ((zA hZX).bw hD1) ((zA HY).bw hD1) (by omega) (by omega) hy (fun w' p q=>zA HF _ _ _ _ w' p q)).mono ?_;rintro r w2 ⟨neg3,a3,n3,c3,rfl,hZ3,hb2⟩;replace hZ1:=hZ1.bw hb2;have hD2:=zB hD1 hb2;obtain ⟨q0,q1,q2,q3,q4,q5⟩:=R.bw hD2;obtain ⟨d0,d1,d2,d3⟩:=zA HK _ hD2))
 go_wp2;refine bodyPost_ret (v:=.agg #[.bool neg1,.slice a1 n1 c1,.bool neg3,.slice a3 n3 c3,.int .i64 b]) (by simp[results,Tryz.results54,go_sem,q0,q1,q2,q3,q4]) rfl ⟨⟨neg1,a1,n1,c1,neg3,a3,n3,c3,b⟩,rfl,rfl,?_,?_⟩
 ·exact SpAt.put5 ⟨hZ1.mono (by omega),hZ3.mono (by omega)⟩ q0 q1 q2 q3 q4 _ _ _ _ _
 ·exact jV (zB hBW2 hD2) (by omega) _ _ _ _ _
def FzP (w:World) (p:Value):Prop:=∀ B,p=.pointer (some ⟨B,0,none⟩)→∀ o,w.frozen? ⟨B,o,none⟩=false
def RootOf (x z:Int):Prop:=0≤z∧(x≤0→z=0)∧(0<x→z*z≤x∧x<(z+1)*(z+1))
theorem IntAt.fit {w:World} {neg:Bool} {a:Option Addr} {n cap k K:Nat} {z:Int} (h:IntAt w neg a n cap k z) (h0:0≤z) (hz:z<P K):IntAt w neg a n cap K z:=by
 obtain ⟨d,h1,h2,h3,h4,h5⟩:=h;refine ⟨d,h1,h2,h3,?_,h5⟩;refine zFI h1.dgs h2 ?_;have:=jB h1.dgs n
 cases neg
 ·simp[sgn] at h5;omega
 ·simp[sgn] at h5;have:=kN K;omega
theorem zM (w:World) (a b:Addr) (v:Value):(w.setCell a v).frozen? b=w.frozen? b:=by simp[go_sem]
theorem jO (n:Int) (h1 : -9223372036854775808≤n) (h2:n≤9223372036854775807):IntKind.i64.wrap n=n:=by rw[IntKind.wrap_i64];omega
theorem jZ (neg:Bool) (a:Option Addr) (n cap k:Nat) (x:Int) (w:World) (h:IntAt w neg a n cap k x) :
  Calls Tryz.prog 96 #[.agg #[.bool neg,.slice a n cap]] w fun r w'=>r=.returned (.int .i64 (zF x 0))∧Below w.heap.size w w':=by
 obtain ⟨d,h1,h2,h3,h4,h5⟩:=h
 have e:zJG neg n=zF x 0:=by
  have hv:=jB h1.dgs n;unfold zJG zF
  by_cases hn:n=0
  ·subst hn
   have:x=0:=by rw[h5];cases neg <;> simp[sgn,V]
   subst this;simp
  ·have h6:=V_ge h1.dgs (n-1) (by omega)
   rw[show n-1+1=n by omega] at h6
   have:=kN (n-1);rw[if_neg hn]
   cases neg
   ·simp[sgn] at h5
    rw[if_neg (by simp),if_neg (by omega),if_pos (by omega)]
   ·simp[sgn] at h5
    rw[if_pos rfl,if_pos (by omega)]
 exact (zHA neg a n cap w h1.room).mono fun r w' ⟨p1,p2⟩=>⟨by rw[p1,e],p2⟩
theorem root_pos (neg:Bool) (a:Option Addr) (n cap k:Nat) (x:Int) (w:World) (h1:IntAt w neg a n cap k x) (hk:k≤100000000) (hx:0<x) :
  Calls Tryz.prog 189 #[.agg #[.bool neg,.slice a n cap]] w fun r w'=>∃ z,RootOf x z∧zDF w (k+10) z r w':=by
 obtain ⟨d,g1,g2,g3,g4,g5⟩:=h1;have h1:IntAt w neg a n cap k x:=⟨d,g1,g2,g3,g4,g5⟩
 have hn:0<n:=by
  rcases Nat.eq_zero_or_pos n with h0|h0
  ·subst h0;cases neg <;> simp[sgn,V] at g5 <;> omega
  ·exact h0
 have hxV:V d n=x:=by
  have:=jB g1.dgs n
  cases neg
  ·simpa [sgn] using g5.symm
  ·simp[sgn] at g5;omega
 obtain ⟨l,l1,l2,l3⟩:=lenZ_Q g1.dgs hn (by omega)
 rw[hxV] at l2 l3;obtain ⟨K0,hK0⟩:∃ K0:Nat,((l:Int)+1)/2+1=(K0:Int):=⟨(l+1)/2+1,by omega⟩
 have hK0':l+1≤2*K0∧K0≤l+2:=by omega
 have hln:l+1≤16*n:=by have:=lenZ_le n d;omega
 have hl0:0≤(l:Int):=by omega
 have hlb:(l:Int)≤1600000000:=by omega
 have HW1:=zC (show IntKind.i64.wrap (IntKind.i64.wrap (((l:Int)+1).tdiv 2)+1)=(K0:Int) by
  rw[Int.tdiv_eq_ediv_of_nonneg (by omega),jO (((l:Int)+1)/2) (by omega) (by omega),jO _ (by omega) (by omega)]
  exact hK0)
 have hq0:=zG K0
 have hsq:x<Q K0*Q K0:=by
  rw[← jC];have:=zJ (show l+1≤K0+K0 by omega);omega
 have hPk:Q K0<P (k+2):=by
  rw[← Q_P];have h5:=zJ (show K0+1≤16*(k+2) by omega)
  simp only[Q] at h5;omega
 have HSQ:=zC (show x<(Q K0+1)*(Q K0+1) by
  have h5:(Q K0+1)*(Q K0+1)=Q K0*Q K0+2*Q K0+1:=by rw[Int.add_mul,Int.mul_add];omega
  omega)
 have t1:¬ zF x 0≤0:=by unfold zF;rw[if_neg (by omega),if_pos (by omega)];omega
 obtain ⟨W,hW⟩:∃ W,W=(w.alloc (.cells #[.bool neg,.slice a n cap] 26)).alloc (.cells #[.bool false,.slice none 0 0] 26):=⟨_,rfl⟩;have hBW:Below w.heap.size w W:=by rw[hW];exact bl2 _ _ _
 have A:NmC W w.heap.size ⟨neg,a,n,cap⟩:=by rw[hW];constructor <;> simp[go_sem]
 have R:NoI W (w.heap.size+1):=by rw[hW];constructor <;> simp[go_sem]
 have GD:=zC (g1.bw hBW);have HX:=zC (h1.bw hBW);have HL:=zC l1;have HK0:=zC hK0';clear g1 h1 l1 hxV g5 hsq l2 l3 hK0'
 go_enter Tryz.func189,Tryz.ntmps189
 go_wp2_with fail;rw[← hW];clear hW;refine (jZ _ _ _ _ k x _ (zA HX)).mono ?_;rintro r w0 ⟨rfl,hb0⟩;replace A:=A.bw hb0;replace R:=R.bw hb0;replace hBW:=zB hBW hb0;replace GD:=zC ((zA GD).bw hb0);replace HX:=zC ((zA HX).bw hb0);have HKA:=zC (show ∀ w',Below w0.heap.size w0 w'→(w'.cell? ⟨w.heap.size,0,none⟩=some (.bool neg)∧w'.cell? ⟨w.heap.size,1,none⟩=some (.slice a n cap)) from fun w' hB=>⟨(A.bw hB).c0,(A.bw hB).c1⟩)
 have lA:=A.lt;have lR:=R.lt;obtain ⟨i0,i1⟩:=zA HKA _ (Below.refl _ _);clear hb0;go_wp2_with fail
 go_cut [3] (fun p wx=>VarAt wx p w0.heap.size (k+10) (1*Q K0)∧FzP wx p∧Below w0.heap.size w0 wx)
 case first =>
  go_region_held3 (fun w'=>w'.cell? ⟨w.heap.size,0,none⟩=some (.bool neg)∧w'.cell? ⟨w.heap.size,1,none⟩=some (.slice a n cap)) (exact zA HKA _ (by repeat' (first|with_reducible exact hBX3|with_reducible exact hBX2|with_reducible exact hBX1|with_reducible exact Below.refl _ _|with_reducible refine Below.drew ?_|with_reducible refine zK ?_ _|with_reducible refine Below.setCell ?_ (by first|exact Nat.le_refl _|exact hlX1|exact hlX2|exact hlX3) _)))
   (first
    | (go_at_call 95;have hq:=hBX2;rw[zA HW1];refine (zAS _ _ _ _ K0 4 1 _ (hZX1.bw (by with_reducible first|exact Below.refl _ _|exact bl1 _ _)) (by omega) (by have:=zA HK0;omega)).mono ?_;rintro r wX3 ⟨negX3,aX3,nX3,cX3,rfl,hZX3,hbX3⟩;have hCX3:Below wX2.heap.size wX2 wX3:=(by with_reducible first|exact hbX3|exact zB (bl1 _ _) hbX3);have hBX3:=zB hBX2 hCX3;(try with_reducible have gX3:=(jW wX2 26).bw hbX3);replace hZX1:=hZX1.bw hCX3;(try replace gX1:=gX1.bw hCX3);(try replace gX2:=gX2.bw hCX3);have hlX3:=hBX3.size;(try have mX1:=gX1.lt);(try have eX1:=Nat.ne_of_lt mX1);(try have eX1':=Nat.ne_of_gt mX1);(try obtain ⟨zX10,zX11,zX12⟩:=gX1);(try have mX2:=gX2.lt);(try have eX2:=Nat.ne_of_lt mX2);(try have eX2':=Nat.ne_of_gt mX2);(try obtain ⟨zX20,zX21,zX22⟩:=gX2);(try have mX3:=gX3.lt);(try have eX3:=Nat.ne_of_lt mX3);(try have eX3':=Nat.ne_of_gt mX3);(try obtain ⟨zX30,zX31,zX32⟩:=gX3))
    | (go_at_call 120;have hq:=hBX1;refine (zPP _ _ _ _ d _ ((zA GD).bw (by with_reducible first|exact hBX1|exact zK hBX1 _))).mono ?_;rintro r wX2 ⟨rfl,hbX2⟩;rw[zA HL];have hCX2:Below wX1.heap.size wX1 wX2:=(by with_reducible first|exact hbX2|exact zB (bl1 _ _) hbX2);have hBX2:=zB hBX1 hCX2;(try with_reducible have gX2:=(jW wX1 26).bw hbX2);replace hZX1:=hZX1.bw hCX2;(try replace gX1:=gX1.bw hCX2);have hlX2:=hBX2.size)
    | (go_at_call 43;refine (zD 1 _ (by decide) (by decide)).mono ?_;rintro r wX1 ⟨negX1,aX1,nX1,cX1,rfl,hZX1,hbX1⟩;have hBX1:Below w0.heap.size w0 wX1:=(by with_reducible first|exact zB (Below.refl _ _).drew hbX1|exact zB (bl1 _ _).drew hbX1);(try with_reducible have gX1:=((jW w0 26).bw (Below.refl _ _).drew).bw hbX1);have hlX1:=hBX1.size))
  all_goals
   go_wp2_with fail;go_meet;refine ⟨⟨_,⟨negX3,aX3,nX3,cX3⟩,rfl,?_,?_,?_,?_,?_⟩,?_,?_⟩
   ·simp[go_sem, *]
   ·simp[go_sem, *]
   ·first|with_reducible exact IntAt.mono (hZX3.bw (bl1 _ _)) (by omega)|with_reducible exact IntAt.mono (hZX3.put2 (by assumption) (by assumption) _ _) (by omega)
   ·first|exact Nat.le_refl _|exact hlX1|exact hlX2|exact hlX3
   ·simp[World.setCell];try omega
   ·intro B hB o;cases hB;simp[go_sem, *]
   ·repeat' (first|with_reducible exact hBX3|with_reducible exact hBX2|with_reducible exact hBX1|with_reducible exact Below.refl _ _|with_reducible refine Below.drew ?_|with_reducible refine zK ?_ _|with_reducible refine Below.setCell ?_ (by first|exact Nat.le_refl _|exact hlX1|exact hlX2|exact hlX3) _)
 case rest =>
 obtain ⟨⟨BX,xX,rfl,jX0,jX1,hZX,hHX,hltX⟩,hfzX,hblX⟩:=hcut;have XX:NmC wc BX xX:=⟨jX0,jX1⟩;have F0:∀ o,wc.frozen? ⟨BX,o,none⟩=false:=hfzX BX rfl;replace A:=A.bw hblX;replace R:=R.bw hblX;replace hBW:=zB hBW hblX;replace HX:=zC ((zA HX).bw hblX);rw[Int.one_mul] at hZX;have hZ0:=hZX.fit (by omega) hPk
 have nXA':w.heap.size≠BX:=Nat.ne_of_lt (Nat.lt_of_lt_of_le lA hHX);have nXA:BX≠w.heap.size:=fun e9=>nXA' e9.symm
 have hnXR:BX≠w.heap.size+1:=Nat.ne_of_gt (Nat.lt_of_lt_of_le lR hHX);have hBXw:w.heap.size≤BX:=by omega
 clear i0 i1 HKA hZX jX0 jX1 HL HW1 GD;go_wp2_with fail
 go_loopg [4] (Q K0).toNat (fun gg p wr=>∃ (X:Nm) (z:Int),NmC wr BX X∧(∀ o,wr.frozen? ⟨BX,o,none⟩=false)∧IntAt wr X.neg X.a X.n X.cap (k+2) z∧0<z∧z≤Q K0∧z.toNat≤gg∧x<(z+1)*(z+1)∧NmC wr w.heap.size ⟨neg,a,n,cap⟩∧NoI wr (w.heap.size+1)∧IntAt wr neg a n cap k x∧Below w.heap.size w wr)
 case atStart=>exact ⟨xX,Q K0,XX,F0,hZ0,by omega,Int.le_refl _,Nat.le_refl _,zA HSQ,A,R,zA HX,hBW⟩
 case round =>
  obtain ⟨X,z,hX,hF,hz,hz0,hzq,hzg,hzs,A,R,HXr,hBr⟩:=hrel;obtain ⟨yv,hyv⟩:∃ yv,yv=(z+x/z)/2:=⟨_,rfl⟩;have hxz:0≤x/z:=Int.ediv_nonneg (by omega) (by omega)
  have hup:x<(yv+1)*(yv+1):=by rw[hyv];exact zNP hz0
  have hy0:0<yv:=by
   rcases Int.lt_or_le 0 yv with h5|h5
   ·exact h5
   ·have h6:yv=0:=by omega
    rw[h6] at hup;omega
  have HYV:=zC (show (z+x/z)/Q 1=yv from hyv.symm)
  have HUP:=zC hup;have HZS:=zC hzs;have HEND:=zC (show z≤yv→z*z≤x from fun h=>zMJ hz0 (by omega) (by rw[← hyv];exact h))
  clear hyv hup hzs;have hz:=zC hz;have HXr:=zC HXr;have HKr:=zC (show ∀ w',Below wr.heap.size wr w'→(w'.cell? ⟨w.heap.size,0,none⟩=some (.bool neg)∧w'.cell? ⟨w.heap.size,1,none⟩=some (.slice a n cap)∧w'.cell? ⟨BX,0,none⟩=some (.bool X.neg)∧w'.cell? ⟨BX,1,none⟩=some (.slice X.a X.n X.cap)) from fun w' hB=>⟨(A.bw hB).c0,(A.bw hB).c1,(hX.bw hB).c0,(hX.bw hB).c1⟩)
  have lA:=A.lt;have lX:=hX.lt;have lR:=R.lt;have nXR:BX≠w.heap.size+1:=hnXR;have nXR':w.heap.size+1≠BX:=fun e9=>nXR e9.symm
  obtain ⟨i0,i1,i2,i3⟩:=zA HKr _ (Below.refl _ _);go_wp2_with fail
  go_cut [4] (fun p wx=>VarAt wx p wr.heap.size (k+20) ((z+x/z)/Q 1)∧Below wr.heap.size wr wx)
  case first =>
   go_region_held3 (fun w'=>w'.cell? ⟨w.heap.size,0,none⟩=some (.bool neg)∧w'.cell? ⟨w.heap.size,1,none⟩=some (.slice a n cap)∧w'.cell? ⟨BX,0,none⟩=some (.bool X.neg)∧w'.cell? ⟨BX,1,none⟩=some (.slice X.a X.n X.cap)) (exact zA HKr _ (by repeat' (first|with_reducible exact hBY3|with_reducible exact hBY2|with_reducible exact hBY1|with_reducible exact Below.refl _ _|with_reducible refine Below.drew ?_|with_reducible refine zK ?_ _|with_reducible refine Below.setCell ?_ (by first|exact Nat.le_refl _|exact hlY1|exact hlY2|exact hlY3) _)))
    (first
     | (go_at_call 105;have hq:=hBY2;refine (zA2 _ _ _ _ 1 (k+9) (z+x/z) _ ((hZY2.bw (by with_reducible first|exact Below.refl _ _|exact bl1 _ _)).mono (by omega)) (by omega) (by omega)).mono ?_;rintro r wY3 ⟨negY3,aY3,nY3,cY3,rfl,hZY3,hbY3⟩;have hCY3:Below wY2.heap.size wY2 wY3:=(by with_reducible first|exact hbY3|exact zB (bl1 _ _) hbY3);have hBY3:=zB hBY2 hCY3;(try with_reducible have gY3:=(jW wY2 26).bw hbY3);replace hZY1:=hZY1.bw hCY3;(try replace gY1:=gY1.bw hCY3);replace hZY2:=hZY2.bw hCY3;(try replace gY2:=gY2.bw hCY3);have hlY3:=hBY3.size;(try have mY1:=gY1.lt);(try have eY1:=Nat.ne_of_lt mY1);(try have eY1':=Nat.ne_of_gt mY1);(try obtain ⟨zY10,zY11,zY12⟩:=gY1);(try have mY2:=gY2.lt);(try have eY2:=Nat.ne_of_lt mY2);(try have eY2':=Nat.ne_of_gt mY2);(try obtain ⟨zY20,zY21,zY22⟩:=gY2);(try have mY3:=gY3.lt);(try have eY3:=Nat.ne_of_lt mY3);(try have eY3':=Nat.ne_of_gt mY3);(try obtain ⟨zY30,zY31,zY32⟩:=gY3))
     | (go_at_call 65;have hq:=hBY1;refine (yQ _ _ _ _ _ _ _ _ (k+2) (k+8) z (x/z) _ ((zA hz).bw (by with_reducible first|exact hBY1|exact zK hBY1 _)) (hZY1.bw (by with_reducible first|exact Below.refl _ _|exact bl1 _ _)) (by omega) (by omega)).mono ?_;rintro r wY2 ⟨negY2,aY2,nY2,cY2,rfl,hZY2,hbY2⟩;have hCY2:Below wY1.heap.size wY1 wY2:=(by with_reducible first|exact hbY2|exact zB (bl1 _ _) hbY2);have hBY2:=zB hBY1 hCY2;(try with_reducible have gY2:=(jW wY1 26).bw hbY2);replace hZY1:=hZY1.bw hCY2;(try replace gY1:=gY1.bw hCY2);have hlY2:=hBY2.size)
     | (go_at_call 119;refine (kO _ _ _ _ _ _ _ _ k (k+2) x z _ ((zA HXr).bw (by with_reducible first|exact (Below.refl _ _).drew|exact (bl1 _ _).drew)) ((zA hz).bw (by with_reducible first|exact (Below.refl _ _).drew|exact (bl1 _ _).drew)) (by omega) hz0).mono ?_;rintro r wY1 ⟨negY1,aY1,nY1,cY1,rfl,hZY1,hbY1⟩;have hBY1:Below wr.heap.size wr wY1:=(by with_reducible first|exact zB (Below.refl _ _).drew hbY1|exact zB (bl1 _ _).drew hbY1);(try with_reducible have gY1:=((jW wr 26).bw (Below.refl _ _).drew).bw hbY1);have hlY1:=hBY1.size))
   all_goals
    go_wp2_with fail;go_meet;refine ⟨⟨_,⟨negY3,aY3,nY3,cY3⟩,rfl,?_,?_,?_,?_,?_⟩,?_⟩
    ·simp[go_sem, *]
    ·simp[go_sem, *]
    ·first|with_reducible exact IntAt.mono (hZY3.bw (bl1 _ _)) (by omega)|with_reducible exact IntAt.mono (hZY3.put2 (by assumption) (by assumption) _ _) (by omega)
    ·first|exact Nat.le_refl _|exact hlY1|exact hlY2|exact hlY3
    ·simp[World.setCell];try omega
    ·repeat' (first|with_reducible exact hBY3|with_reducible exact hBY2|with_reducible exact hBY1|with_reducible exact Below.refl _ _|with_reducible refine Below.drew ?_|with_reducible refine zK ?_ _|with_reducible refine Below.setCell ?_ (by first|exact Nat.le_refl _|exact hlY1|exact hlY2|exact hlY3) _)
  case rest =>
  obtain ⟨⟨BY,xY,rfl,jY0,jY1,hZY,hHY,hltY⟩,hblY⟩:=hcut;have XY:NmC wc BY xY:=⟨jY0,jY1⟩;rw[zA HYV] at hZY;have hC:Below wr.heap.size wr wc:=hblY;replace hX:=hX.bw hC;replace A:=A.bw hC;replace R:=R.bw hC;have hF2:∀ o,wc.frozen? ⟨BX,o,none⟩=false:=fun o=>(hC.frozen (p:=⟨BX,o,none⟩) lX).trans (hF o)
  have hz2:=(zA hz).bw hC;have HX2:=(zA HXr).bw hC;replace hBr:=zB hBr hC;have lX2:=hX.lt;have lY2:=XY.lt;have lR2:=R.lt;have nXY:BX≠BY:=Nat.ne_of_lt (Nat.lt_of_lt_of_le lX hHY);have nXY':BY≠BX:=fun e9=>nXY e9.symm
  obtain ⟨k0,k1⟩:=hX;have hX:NmC wc BX X:=⟨k0,k1⟩;clear i0 i1 i2 i3 HKr hblY hC hF hz HXr;go_wp2_with fail;refine (zS _ _ _ _ _ _ _ _ (k+20) (k+2) yv z _ hZY hz2).mono ?_;rintro r w5 ⟨rfl,hb5⟩;have hX5:=hX.bw hb5;have hY5:=XY.bw hb5;have hR5:=R.bw hb5;have hA5:=A.bw hb5;have hz5:=hz2.bw hb5;have hy5:=hZY.bw hb5;have HX5:=HX2.bw hb5;have hF5:∀ o,w5.frozen? ⟨BX,o,none⟩=false:=fun o=>(hb5.frozen (p:=⟨BX,o,none⟩) lX2).trans (hF2 o)
  have hB5:=zB hBr hb5;have l5:=hX5.lt;have l6:=hY5.lt;have l7:=hR5.lt;obtain ⟨e0,e1⟩:=hX5;obtain ⟨e2,e3⟩:=hY5;obtain ⟨e4,e5,e6⟩:=hR5;clear k0 k1 jY0 jY1
  by_cases hge:z≤yv
  ·have t2:0≤zF yv z:=by unfold zF;rw[if_neg (by omega)];split <;> omega
   have t2':zF yv z ≥ 0:=t2;have HG:=zC hge;clear hge;go_wp2_with fail;refine bodyPost_ret (v:=.agg #[.bool X.neg,.slice X.a X.n X.cap]) (by simp[results,Tryz.results189,go_sem,e4,e5]) rfl ⟨z,⟨by omega,fun h9=>by omega,fun _=>⟨zA HEND (zA HG),zA HZS⟩⟩,X.neg,X.a,X.n,X.cap,rfl,?_,?_⟩
   ·exact (hz5.put2 e4 e5 _ _).mono (by omega)
   ·exact zDN hB5 (Nat.le_succ _) _ _
  ·have t2:¬ 0≤zF yv z:=by unfold zF;rw[if_pos (by omega)];omega
   have t2':¬ zF yv z ≥ 0:=t2;have hylt:yv<z:=by omega
   clear hge;go_wp2_with fail
   go_roundg yv.toNat
   case rel =>
    refine ⟨xY,yv,⟨by simp[go_sem,e0,e1],by simp[go_sem,e0,e1]⟩,fun o=>by rw[zM,zM];exact hF5 o,?_,hy0,by omega,Nat.le_refl _,zA HUP,?_,?_,?_,?_⟩
    ·exact (hy5.put2 e0 e1 _ _).fit (by omega) (by omega)
    ·exact ⟨by simp[go_sem,hA5.c0,nXA,nXA'],by simp[go_sem,hA5.c1,nXA,nXA']⟩
    ·exact ⟨by simp[go_sem,e4,nXR,nXR'],by simp[go_sem,e5,nXR,nXR'],fun o=>by rw[zM,zM];exact e6 o⟩
    ·exact HX5.put2 e0 e1 _ _
    ·exact zDN hB5 (by omega) _ _
   case measure=>omega
theorem zKI (neg:Bool) (a:Option Addr) (n cap k:Nat) (x:Int) (w:World) (h1:IntAt w neg a n cap k x) (hk:k≤100000000) :
  Calls Tryz.prog 189 #[.agg #[.bool neg,.slice a n cap]] w fun r w'=>∃ z,RootOf x z∧zDF w (k+10) z r w':=by
 by_cases hx:0<x
 ·exact root_pos neg a n cap k x w h1 hk hx
 ·have t1:zF x 0≤0:=by unfold zF;split <;> (try split) <;> omega
  have HX:=zC hx;clear hx
  go_enter Tryz.func189,Tryz.ntmps189
  go_wp2_with fail;refine (jZ _ _ _ _ k x _ (h1.bw (bl2 _ _ _))).mono ?_;rintro r w1 ⟨rfl,hb1⟩;obtain ⟨hsz1,kC1,hfz1⟩:=kK (w.heap.size+1+1) (by simp) hb1
  go_wp2_with fail;have q0:w1.cell? ⟨w.heap.size+1,0,none⟩=some (.bool false):=by simp[kC1,go_sem]
  have q1:w1.cell? ⟨w.heap.size+1,1,none⟩=some (.slice none 0 0):=by simp[kC1,go_sem]
  refine bodyPost_ret (v:=.agg #[.bool false,.slice none 0 0]) (by simp[results,Tryz.results189,go_sem,q0,q1]) rfl ⟨0,⟨by omega,fun _=>rfl,fun h9=>by have h8:=zA HX;omega⟩,false,none,0,0,rfl,zBJ _ _,?_⟩
  exact zDN (zB (bl2 _ _ _) hb1) (Nat.le_succ _) _ _
theorem zHC (neg neg2:Bool) (a c:Option Addr) (n m cap cap2 k k2:Nat) (x y:Int) (w:World) (h1:IntAt w neg a n cap k x) (h2:IntAt w neg2 c m cap2 k2 y) (hk:k≤800000000) (hy:0<y) :
  Calls Tryz.prog 176 #[.agg #[.bool neg,.slice a n cap],.agg #[.bool neg2,.slice c m cap2]] w (zAC w k (-(-x/y))) :=
 zO9 neg neg2 a c n m cap cap2 k k2 x y w h1 h2 hk (fun w' neg' a' n' cap' g1 g2=>kO neg' neg2 a' c n' m cap' cap2 k k2 (-x) y w' g1 g2 (by omega) hy)
theorem zCZ (neg neg2:Bool) (a c:Option Addr) (n m cap cap2 k k2:Nat) (x y:Int) (w:World) (h1:IntAt w neg a n cap k x) (h2:IntAt w neg2 c m cap2 k2 y) (hk:k≤700000000) (hk2:k2≤100000000) (hy:0<y) :
  Calls Tryz.prog 108 #[.agg #[.bool neg,.slice a n cap],.agg #[.bool neg2,.slice c m cap2]] w (zDF w (k+8) (x/y)) :=
 zBY neg neg2 a c n m cap cap2 k k2 x y w h1 h2 hk hk2 (fun w' p q=>kO neg neg2 a c n m cap cap2 k k2 x y w' p q (by omega) hy)
theorem zB6 (neg neg2:Bool) (a c:Option Addr) (n m cap cap2 k k2:Nat) (x y:Int) (w:World) (h1:IntAt w neg a n cap k x) (h2:IntAt w neg2 c m cap2 k2 y) (hk:k≤700000000) (hk2:k2≤100000000) (hy:0<y) :
  Calls Tryz.prog 109 #[.agg #[.bool neg,.slice a n cap],.agg #[.bool neg2,.slice c m cap2]] w (zDF w (k+9) (-(-x/y))) :=
 zDU neg neg2 a c n m cap cap2 k k2 x y w h1 h2 hk hk2 hy (fun w' p q=>kO neg neg2 a c n m cap cap2 k k2 x y w' p q (by omega) hy)
theorem zAR (neg neg2:Bool) (a c:Option Addr) (n m cap cap2 k k2 b:Nat) (x y:Int) (w:World) (h1:IntAt w neg a n cap k x) (h2:IntAt w neg2 c m cap2 k2 y) (hk:k≤700000000) (hb:b≤1000000) (hy:0<y) :
  Calls Tryz.prog 140 #[.agg #[.bool neg,.slice a n cap],.agg #[.bool neg2,.slice c m cap2],.int .i64 b] w (zH w b (k+b/16+20) (x*Q b/y) (-(-(x*Q b)/y))):=by
 go_enter Tryz.func140,Tryz.ntmps140
 go_wp2_with (go_at_call 95;refine (zAS _ _ _ _ b k x _ (h1.bw (bl3 _ _ _ _)) (by omega) (by omega)).mono ?_;rintro r w1 ⟨neg1,a1,n1,c1,rfl,hZ1,hb1⟩;obtain ⟨hsz1,kC1,hfz1⟩:=kK (w.heap.size+1+1+1) (by simp) hb1;have hz1:=Nat.lt_of_lt_of_le (Nat.lt_succ_self (w.heap.size+1+1)) hsz1;have hz0:=Nat.lt_of_succ_lt hz1)
 have hZ1:=hZ1.mono (show b/16+k+1≤k+b/16+10 by omega)
 have hBw:Below w.heap.size w w1:=zB (bl3 _ _ _ _) hb1;have k0:w1.cell? ⟨w.heap.size+1,0,none⟩=some (.bool neg2):=by simp[kC1,go_sem]
 have k1:w1.cell? ⟨w.heap.size+1,1,none⟩=some (.slice c m cap2):=by simp[kC1,go_sem]
 have r0:w1.cell? ⟨w.heap.size+1+1,0,none⟩=some (.bool false):=by simp[kC1,go_sem]
 have r1:w1.cell? ⟨w.heap.size+1+1,1,none⟩=some (.slice none 0 0):=by simp[kC1,go_sem]
 have r2:w1.cell? ⟨w.heap.size+1+1,2,none⟩=some (.bool false):=by simp[kC1,go_sem]
 have r3:w1.cell? ⟨w.heap.size+1+1,3,none⟩=some (.slice none 0 0):=by simp[kC1,go_sem]
 have r4:w1.cell? ⟨w.heap.size+1+1,4,none⟩=some (.int .i64 0):=by simp[kC1,go_sem]
 have r5:∀ o,w1.frozen? ⟨w.heap.size+1+1,o,none⟩=false:=by intro o;simp[hfz1,go_sem]
 have H2:=zC (h2.bw hBw);clear kC1 hfz1;obtain ⟨W,hW⟩:∃ W,W=w1.alloc (.cells #[.bool neg1,.slice a1 n1 c1] 26):=⟨_,rfl⟩;have hBW:Below w1.heap.size w1 W:=by rw[hW];exact bl1 _ _
 have u0:W.cell? ⟨w1.heap.size,0,none⟩=some (.bool neg1):=by rw[hW];simp
 have u1:W.cell? ⟨w1.heap.size,1,none⟩=some (.slice a1 n1 c1):=by rw[hW];simp
 have hlW:w1.heap.size<W.heap.size:=by rw[hW];simp
 have HI:=zC (hZ1.bw hBW);have HI2:=zC ((zA H2).bw hBW);have hl1:w.heap.size+1<W.heap.size:=Nat.lt_trans hz0 hlW;have hl2:w.heap.size+1+1<W.heap.size:=Nat.lt_trans hz1 hlW
 have HK:=zC (show ∀ w',Below W.heap.size W w'→(w'.cell? ⟨w1.heap.size,0,none⟩=some (.bool neg1)∧w'.cell? ⟨w1.heap.size,1,none⟩=some (.slice a1 n1 c1)∧w'.cell? ⟨w.heap.size+1,0,none⟩=some (.bool neg2)∧w'.cell? ⟨w.heap.size+1,1,none⟩=some (.slice c m cap2)) from fun w' hB =>
  ⟨(hB.cell (p:=⟨w1.heap.size,0,none⟩) hlW).trans u0,(hB.cell (p:=⟨w1.heap.size,1,none⟩) hlW).trans u1,(hB.cell (p:=⟨w.heap.size+1,0,none⟩) hl1).trans ((hBW.cell (p:=⟨w.heap.size+1,0,none⟩) hz0).trans k0),(hB.cell (p:=⟨w.heap.size+1,1,none⟩) hl1).trans ((hBW.cell (p:=⟨w.heap.size+1,1,none⟩) hz0).trans k1)⟩)
 have HR:=zC (show ∀ w',Below W.heap.size W w'→(w'.cell? ⟨w.heap.size+1+1,0,none⟩=some (.bool false)∧w'.cell? ⟨w.heap.size+1+1,1,none⟩=some (.slice none 0 0)∧w'.cell? ⟨w.heap.size+1+1,2,none⟩=some (.bool false)∧w'.cell? ⟨w.heap.size+1+1,3,none⟩=some (.slice none 0 0)∧w'.cell? ⟨w.heap.size+1+1,4,none⟩=some (.int .i64 0)∧∀ o,w'.frozen? ⟨w.heap.size+1+1,o,none⟩=false) from fun w' hB =>
  ⟨(hB.cell (p:=⟨w.heap.size+1+1,0,none⟩) hl2).trans ((hBW.cell (p:=⟨w.heap.size+1+1,0,none⟩) hz1).trans r0),(hB.cell (p:=⟨w.heap.size+1+1,1,none⟩) hl2).trans ((hBW.cell (p:=⟨w.heap.size+1+1,1,none⟩) hz1).trans r1),(hB.cell (p:=⟨w.heap.size+1+1,2,none⟩) hl2).trans ((hBW.cell (p:=⟨w.heap.size+1+1,2,none⟩) hz1).trans r2),(hB.cell (p:=⟨w.heap.size+1+1,3,none⟩) hl2).trans ((hBW.cell (p:=⟨w.heap.size+1+1,3,none⟩) hz1).trans r3),(hB.cell (p:=⟨w.heap.size+1+1,4,none⟩) hl2).trans ((hBW.cell (p:=⟨w.heap.size+1+1,4,none⟩) hz1).trans r4),fun o=>(hB.frozen (p:=⟨w.heap.size+1+1,o,none⟩) hl2).trans ((hBW.frozen (p:=⟨w.heap.size+1+1,o,none⟩) hz1).trans (r5 o))⟩)
 have hBW2:Below w.heap.size w W:=zB hBw hBW;have ne1:w.heap.size+1+1≠w1.heap.size:=by omega
 have ne2:w1.heap.size≠w.heap.size+1+1:=by omega
 rw[← hW];clear hW k0 k1 r0 r1 r2 r3 r4 r5 u0 u1 H2 hZ1 hb1 hBw hBW
 go_region_held3 (fun w'=>w'.cell? ⟨w1.heap.size,0,none⟩=some (.bool neg1)∧w'.cell? ⟨w1.heap.size,1,none⟩=some (.slice a1 n1 c1)∧w'.cell? ⟨w.heap.size+1,0,none⟩=some (.bool neg2)∧w'.cell? ⟨w.heap.size+1,1,none⟩=some (.slice c m cap2)) (first|exact zA HK _ (by first|exact (Below.refl _ _).drew|exact hB2|exact hB3)|go_keep)
  (first
   | (go_at_call 119;refine (kO _ _ _ _ _ _ _ _ (k+b/16+10) k2 (x*Q b) y _ ((zA HI).bw (Below.refl _ _).drew) ((zA HI2).bw (Below.refl _ _).drew) (by omega) hy).mono ?_;rintro r w2 ⟨neg4,a4,n4,c4,rfl,hZ4,hb4⟩;have hB2:Below W.heap.size W w2:=zB (Below.refl _ _).drew hb4)
   | (go_at_call 176;refine (zHC _ _ _ _ _ _ _ _ (k+b/16+10) k2 (x*Q b) y _ ((zA HI).bw hB2) ((zA HI2).bw hB2) (by omega) hy).mono ?_;rintro r w3 ⟨neg5,a5,n5,c5,rfl,hZ5,hb5⟩;have hB3:=zB hB2 hb5;obtain ⟨q0,q1,q2,q3,q4,q5⟩:=zA HR w3 hB3;obtain ⟨q6,q7,q8,q9⟩:=zA HK w3 hB3))
 go_wp2;refine bodyPost_ret (v:=.agg #[.bool neg4,.slice a4 n4 c4,.bool neg5,.slice a5 n5 c5,.int .i64 b]) (by simp[results,Tryz.results140,go_sem,q0,q1,q2,q3,q4]) rfl ⟨⟨neg4,a4,n4,c4,neg5,a5,n5,c5,b⟩,rfl,rfl,?_,?_⟩
 ·exact SpAt.put5 ⟨(hZ4.bw hb5).mono (by omega),hZ5.mono (by omega)⟩ q0 q1 q2 q3 q4 _ _ _ _ _
 ·exact jV (hBW2.trans (hB3.mono hBW2.size)) (by omega) _ _ _ _ _
theorem zHU (w:World) (s:Sp) (neg neg2:Bool) (a c:Option Addr) (n m cap cap2 k k1 k2:Nat) (lo hi x y:Int) (hs:SpAt w s k lo hi) (h1:IntAt w neg a n cap k1 x) (h2:IntAt w neg2 c m cap2 k2 y) (hk:k≤300000000) (hk1:k1≤300000000) (hy:0<y) :
  Calls Tryz.prog 143 #[.agg #[.bool s.ln,.slice s.la s.lN s.lc,.bool s.hn,.slice s.ha s.hN s.hc,.int .i64 s.bits],.agg #[.bool neg,.slice a n cap],.agg #[.bool neg2,.slice c m cap2]] w (zH w s.bits (k+k1+10) (lo*x/y) (-(-(hi*x)/y))):=by
 obtain ⟨W,hW⟩:∃ W,W=(((w.alloc (.cells #[.bool s.ln,.slice s.la s.lN s.lc,.bool s.hn,.slice s.ha s.hN s.hc,.int .i64 s.bits] 28)).alloc (.cells #[.bool neg,.slice a n cap] 26)).alloc (.cells #[.bool neg2,.slice c m cap2] 26)).alloc (.cells #[.bool false,.slice none 0 0,.bool false,.slice none 0 0,.int .i64 0] 28):=⟨_,rfl⟩;have hBW:Below w.heap.size w W:=by rw[hW];exact bl4 _ _ _ _ _
 have A:SpC W w.heap.size s:=by rw[hW];constructor <;> simp[go_sem]
 have X:NmC W (w.heap.size+1) ⟨neg,a,n,cap⟩:=by rw[hW];constructor <;> simp[go_sem]
 have Y:NmC W (w.heap.size+1+1) ⟨neg2,c,m,cap2⟩:=by rw[hW];constructor <;> simp[go_sem]
 have R:NoC W (w.heap.size+1+1+1):=by rw[hW];constructor <;> simp[go_sem]
 have HS:=zC (hs.bw hBW);have HX:=zC (h1.bw hBW);have HY:=zC (h2.bw hBW);have lR:=R.lt;have HK:=zC (show ∀ w',Below W.heap.size W w'→(w'.cell? ⟨w.heap.size,0,none⟩=some (.bool s.ln)∧w'.cell? ⟨w.heap.size,1,none⟩=some (.slice s.la s.lN s.lc)∧w'.cell? ⟨w.heap.size,2,none⟩=some (.bool s.hn)∧w'.cell? ⟨w.heap.size,3,none⟩=some (.slice s.ha s.hN s.hc)∧w'.cell? ⟨w.heap.size,4,none⟩=some (.int .i64 s.bits)∧w'.cell? ⟨w.heap.size+1,0,none⟩=some (.bool neg)∧w'.cell? ⟨w.heap.size+1,1,none⟩=some (.slice a n cap)∧w'.cell? ⟨w.heap.size+1+1,0,none⟩=some (.bool neg2)∧w'.cell? ⟨w.heap.size+1+1,1,none⟩=some (.slice c m cap2)) from fun w' hB=>⟨(A.bw hB).c0,(A.bw hB).c1,(A.bw hB).c2,(A.bw hB).c3,(A.bw hB).c4,(X.bw hB).c0,(X.bw hB).c1,(Y.bw hB).c0,(Y.bw hB).c1⟩)
 clear A X Y hs h1 h2
 go_enter Tryz.func143,Tryz.ntmps143
 go_wp2;rw[← hW];clear hW;have n02:w.heap.size≠w.heap.size+1+1:=by omega
 have n20:w.heap.size+1+1≠w.heap.size:=by omega
 have n03:w.heap.size≠w.heap.size+1+1+1:=by omega
 have n30:w.heap.size+1+1+1≠w.heap.size:=by omega
 have n13:w.heap.size+1≠w.heap.size+1+1+1:=by omega
 have n31:w.heap.size+1+1+1≠w.heap.size+1:=by omega
 have n23:w.heap.size+1+1≠w.heap.size+1+1+1:=by omega
 have n32:w.heap.size+1+1+1≠w.heap.size+1+1:=by omega
 obtain ⟨x0,x1,x2,x3,x4,x5,x6,x7,x8⟩:=zA HK _ (Below.refl _ _);have hD0:Below W.heap.size W W.drew:=(Below.refl _ _).drew
 go_region_held3 (fun w'=>w'.cell? ⟨w.heap.size,0,none⟩=some (.bool s.ln)∧w'.cell? ⟨w.heap.size,1,none⟩=some (.slice s.la s.lN s.lc)∧w'.cell? ⟨w.heap.size,2,none⟩=some (.bool s.hn)∧w'.cell? ⟨w.heap.size,3,none⟩=some (.slice s.ha s.hN s.hc)∧w'.cell? ⟨w.heap.size,4,none⟩=some (.int .i64 s.bits)∧w'.cell? ⟨w.heap.size+1,0,none⟩=some (.bool neg)∧w'.cell? ⟨w.heap.size+1,1,none⟩=some (.slice a n cap)∧w'.cell? ⟨w.heap.size+1+1,0,none⟩=some (.bool neg2)∧w'.cell? ⟨w.heap.size+1+1,1,none⟩=some (.slice c m cap2)) (first|exact zA HK _ (by with_reducible first|exact hD0|exact hD4|exact hD3|exact hD2|exact hD1)|go_keep)
  (first
   | (go_at_call 176;have hq:=hD3;refine (zHC _ _ _ _ _ _ _ _ (k+k1) k2 (hi*x) y _ hZ3 ((zA HY).bw hD3) (by omega) hy).mono ?_;rintro r' w4 ⟨neg4,a4,n4,c4,rfl,hZ4,hb4⟩;have hD4:=zB hD3 hb4;replace hZ2:=(hZ2.bw hb3).bw hb4;obtain ⟨q0,q1,q2,q3,q4,q5⟩:=R.bw hD4;obtain ⟨y0,y1,y2,y3,y4,y5,y6,y7,y8⟩:=zA HK _ hD4)
   | (go_at_call 66;have hq:=hD2;refine (zX _ _ _ _ _ _ _ _ k k1 hi x _ ((zA HS).hi.bw hD2) ((zA HX).bw hD2) (by omega) (by omega)).mono ?_;rintro r' w3 ⟨neg3,a3,n3,c3,rfl,hZ3,hb3⟩;have hD3:=zB hD2 hb3)
   | (go_at_call 119;have hq:=hD1;refine (kO _ _ _ _ _ _ _ _ (k+k1) k2 (lo*x) y _ hZ1 ((zA HY).bw hD1) (by omega) hy).mono ?_;rintro r' w2 ⟨neg2',a2,n2,c2,rfl,hZ2,hb2⟩;have hD2:=zB hD1 hb2)
   | (go_at_call 66;refine (zX _ _ _ _ _ _ _ _ k k1 lo x _ ((zA HS).lo.bw hD0) ((zA HX).bw hD0) (by omega) (by omega)).mono ?_;rintro r' w1 ⟨neg1,a1,n1,c1,rfl,hZ1,hb1⟩;have hD1:=zB hD0 hb1))
 all_goals
  go_wp2_with fail;refine bodyPost_ret (v:=.agg #[.bool neg2',.slice a2 n2 c2,.bool neg4,.slice a4 n4 c4,.int .i64 s.bits]) (by simp[results,Tryz.results143,go_sem,q0,q1,q2,q3,q4]) rfl ⟨⟨neg2',a2,n2,c2,neg4,a4,n4,c4,s.bits⟩,rfl,rfl,?_,?_⟩
  ·exact SpAt.put5 ⟨hZ2.mono (by omega),hZ4.mono (by omega)⟩ q0 q1 q2 q3 q4 _ _ _ _ _
  ·exact jV (zB hBW hD4) (by omega) _ _ _ _ _
theorem zOA (w:World) (s:Sp) (k:Nat) (d lo hi:Int) (hs:SpAt w s k lo hi) (hk:k≤300000000) (hd:0<d) (hd2:d≤9223372036854775807) :
  Calls Tryz.prog 98 #[.agg #[.bool s.ln,.slice s.la s.lN s.lc,.bool s.hn,.slice s.ha s.hN s.hc,.int .i64 s.bits],.int .i64 d] w (zH w s.bits (k+14) (lo*1/d) (-(-(hi*1)/d))):=by
 obtain ⟨W,hW⟩:∃ W,W=(w.alloc (.cells #[.bool s.ln,.slice s.la s.lN s.lc,.bool s.hn,.slice s.ha s.hN s.hc,.int .i64 s.bits] 28)).alloc (.cells #[.bool false,.slice none 0 0,.bool false,.slice none 0 0,.int .i64 0] 28):=⟨_,rfl⟩;have hBW:Below w.heap.size w W:=by rw[hW];exact bl2 _ _ _
 have A:SpC W w.heap.size s:=by rw[hW];constructor <;> simp[go_sem]
 have R:NoC W (w.heap.size+1):=by rw[hW];constructor <;> simp[go_sem]
 have HS:=zC (hs.bw hBW);have lR:=R.lt;have HK:=zC (show ∀ w',Below W.heap.size W w'→(w'.cell? ⟨w.heap.size,0,none⟩=some (.bool s.ln)∧w'.cell? ⟨w.heap.size,1,none⟩=some (.slice s.la s.lN s.lc)∧w'.cell? ⟨w.heap.size,2,none⟩=some (.bool s.hn)∧w'.cell? ⟨w.heap.size,3,none⟩=some (.slice s.ha s.hN s.hc)∧w'.cell? ⟨w.heap.size,4,none⟩=some (.int .i64 s.bits)) from fun w' hB=>⟨(A.bw hB).c0,(A.bw hB).c1,(A.bw hB).c2,(A.bw hB).c3,(A.bw hB).c4⟩)
 clear A hs
 go_enter Tryz.func98,Tryz.ntmps98
 go_wp2;rw[← hW];clear hW;have n01:w.heap.size≠w.heap.size+1:=by omega
 have n10:w.heap.size+1≠w.heap.size:=by omega
 obtain ⟨x0,x1,x2,x3,x4⟩:=zA HK _ (Below.refl _ _);have hD0:Below W.heap.size W W.drew:=(Below.refl _ _).drew
 go_region_held3 (fun w'=>w'.cell? ⟨w.heap.size,0,none⟩=some (.bool s.ln)∧w'.cell? ⟨w.heap.size,1,none⟩=some (.slice s.la s.lN s.lc)∧w'.cell? ⟨w.heap.size,2,none⟩=some (.bool s.hn)∧w'.cell? ⟨w.heap.size,3,none⟩=some (.slice s.ha s.hN s.hc)∧w'.cell? ⟨w.heap.size,4,none⟩=some (.int .i64 s.bits)) (first|exact zA HK _ (by with_reducible first|exact hD0|exact hD3|exact hD2|exact hD1)|go_keep)
  (first
   | (go_at_call 143;have hq:=hD2;refine (zHU _ s _ _ _ _ _ _ _ _ k 4 4 lo hi 1 d ((zA HS).bw hD2) (hZ1.bw hb2) hZ2 (by omega) (by omega) hd).mono ?_;rintro r' w3 ⟨u,rfl,hub,hup,hb3⟩;have HU:=zC hub;clear hub;have hD3:=zB hD2 hb3;obtain ⟨q0,q1,q2,q3,q4,q5⟩:=R.bw hD3;obtain ⟨y0,y1,y2,y3,y4⟩:=zA HK _ hD3)
   | (go_at_call 43;have hq:=hD1;refine (zD d _ (by omega) hd2).mono ?_;rintro r' w2 ⟨neg2,a2,n2,c2,rfl,hZ2,hb2⟩;have hD2:=zB hD1 hb2)
   | (go_at_call 43;refine (zD 1 _ (by decide) (by decide)).mono ?_;rintro r' w1 ⟨neg1,a1,n1,c1,rfl,hZ1,hb1⟩;have hD1:=zB hD0 hb1))
 all_goals
  go_wp2_with fail;refine bodyPost_ret (v:=.agg #[.bool u.ln,.slice u.la u.lN u.lc,.bool u.hn,.slice u.ha u.hN u.hc,.int .i64 u.bits]) (by simp[results,Tryz.results98,go_sem,q0,q1,q2,q3,q4]) rfl ⟨u,rfl,zA HU,?_,?_⟩
  ·exact SpAt.put5 (hup.mono (by omega)) q0 q1 q2 q3 q4 _ _ _ _ _
  ·exact jV (zB hBW hD3) (Nat.le_succ _) _ _ _ _ _
theorem zE7 (w:World) (b:Nat) (hb:b≤1000000):Calls Tryz.prog 133 #[.int .i64 b] w (zH w b (b/16+24) (1*Q b/1) (-(-(1*Q b)/1))):=by
 go_enter Tryz.func133,Tryz.ntmps133
 go_wp2_with fail;refine (zD 1 _ (by decide) (by decide)).mono ?_
 rintro r' w1 ⟨neg1,a1,n1,c1,rfl,hZ1,hb1⟩;have R:=(zO w 28).bw hb1;have hB:Below w.heap.size w w1:=zB (bl1 _ _) hb1;clear hb1;go_wp2_with fail;refine (zD 1 _ (by decide) (by decide)).mono ?_
 rintro r' w2 ⟨neg2,a2,n2,c2,rfl,hZ2,hb2⟩;replace R:=R.bw hb2;replace hB:=zB hB hb2;replace hZ1:=hZ1.bw hb2;clear hb2;go_wp2_with fail;refine (zAR _ _ _ _ _ _ _ _ 4 4 b 1 1 _ hZ1 hZ2 (by omega) hb (by omega)).mono ?_
 rintro r' w3 ⟨u,rfl,hub,hup,hb3⟩;obtain ⟨q0,q1,q2,q3,q4,q5⟩:=R.bw hb3;replace hB:=zB hB hb3;have HU:=zC hub;clear hub hb3;go_wp2_with fail;refine bodyPost_ret (v:=.agg #[.bool u.ln,.slice u.la u.lN u.lc,.bool u.hn,.slice u.ha u.hN u.hc,.int .i64 u.bits]) (by simp[results,Tryz.results133,go_sem,q0,q1,q2,q3,q4]) rfl ⟨u,rfl,zA HU,?_,?_⟩
 ·exact SpAt.put5 (hup.mono (by omega)) q0 q1 q2 q3 q4 _ _ _ _ _
 ·exact jV hB (Nat.le_refl _) _ _ _ _ _
theorem zN6 (w:World) (s:Sp) (k:Nat) (d lo hi:Int) (hs:SpAt w s k lo hi) (hk:k≤300000000) (hd : -9223372036854775808≤d) (hd2:d≤9223372036854775807) :
  Calls Tryz.prog 161 #[.agg #[.bool s.ln,.slice s.la s.lN s.lc,.bool s.hn,.slice s.ha s.hN s.hc,.int .i64 s.bits],.int .i64 d] w (zH w s.bits (k+4) (lo*d) (hi*d)):=by
 obtain ⟨W,hW⟩:∃ W,W=(w.alloc (.cells #[.bool s.ln,.slice s.la s.lN s.lc,.bool s.hn,.slice s.ha s.hN s.hc,.int .i64 s.bits] 28)).alloc (.cells #[.bool false,.slice none 0 0,.bool false,.slice none 0 0,.int .i64 0] 28):=⟨_,rfl⟩;have hBW:Below w.heap.size w W:=by rw[hW];exact bl2 _ _ _
 have A:SpC W w.heap.size s:=by rw[hW];constructor <;> simp[go_sem]
 have R:NoC W (w.heap.size+1):=by rw[hW];constructor <;> simp[go_sem]
 have HS:=zC (hs.bw hBW);have lR:=R.lt;have HK:=zC (show ∀ w',Below W.heap.size W w'→(w'.cell? ⟨w.heap.size,0,none⟩=some (.bool s.ln)∧w'.cell? ⟨w.heap.size,1,none⟩=some (.slice s.la s.lN s.lc)∧w'.cell? ⟨w.heap.size,2,none⟩=some (.bool s.hn)∧w'.cell? ⟨w.heap.size,3,none⟩=some (.slice s.ha s.hN s.hc)∧w'.cell? ⟨w.heap.size,4,none⟩=some (.int .i64 s.bits)) from fun w' hB=>⟨(A.bw hB).c0,(A.bw hB).c1,(A.bw hB).c2,(A.bw hB).c3,(A.bw hB).c4⟩)
 clear A hs
 go_enter Tryz.func161,Tryz.ntmps161
 go_wp2;rw[← hW];clear hW;have n01:w.heap.size≠w.heap.size+1:=by omega
 have n10:w.heap.size+1≠w.heap.size:=by omega
 obtain ⟨x0,x1,x2,x3,x4⟩:=zA HK _ (Below.refl _ _);have hD0:Below W.heap.size W W.drew:=(Below.refl _ _).drew
 go_region_held3 (fun w'=>w'.cell? ⟨w.heap.size,0,none⟩=some (.bool s.ln)∧w'.cell? ⟨w.heap.size,1,none⟩=some (.slice s.la s.lN s.lc)∧w'.cell? ⟨w.heap.size,2,none⟩=some (.bool s.hn)∧w'.cell? ⟨w.heap.size,3,none⟩=some (.slice s.ha s.hN s.hc)∧w'.cell? ⟨w.heap.size,4,none⟩=some (.int .i64 s.bits)) (first|exact zA HK _ (by with_reducible first|exact hD0|exact hD4|exact hD3|exact hD2|exact hD1)|go_keep)
  (first
   | (go_at_call 66;have hq:=hD3;refine (zX _ _ _ _ _ _ _ _ k 4 hi d _ ((zA HS).hi.bw hD3) hZ3 (by omega) (by omega)).mono ?_;rintro r' w4 ⟨neg4,a4,n4,c4,rfl,hZ4,hb4⟩;have hD4:=zB hD3 hb4;replace hZ2:=(hZ2.bw hb3).bw hb4;obtain ⟨q0,q1,q2,q3,q4,q5⟩:=R.bw hD4;obtain ⟨y0,y1,y2,y3,y4⟩:=zA HK _ hD4)
   | (go_at_call 43;have hq:=hD2;refine (zD d _ hd hd2).mono ?_;rintro r' w3 ⟨neg3,a3,n3,c3,rfl,hZ3,hb3⟩;have hD3:=zB hD2 hb3)
   | (go_at_call 66;have hq:=hD1;refine (zX _ _ _ _ _ _ _ _ k 4 lo d _ ((zA HS).lo.bw hD1) hZ1 (by omega) (by omega)).mono ?_;rintro r' w2 ⟨neg2,a2,n2,c2,rfl,hZ2,hb2⟩;have hD2:=zB hD1 hb2)
   | (go_at_call 43;refine (zD d _ hd hd2).mono ?_;rintro r' w1 ⟨neg1,a1,n1,c1,rfl,hZ1,hb1⟩;have hD1:=zB hD0 hb1))
 all_goals
  go_wp2_with fail;refine bodyPost_ret (v:=.agg #[.bool neg2,.slice a2 n2 c2,.bool neg4,.slice a4 n4 c4,.int .i64 s.bits]) (by simp[results,Tryz.results161,go_sem,q0,q1,q2,q3,q4]) rfl ⟨⟨neg2,a2,n2,c2,neg4,a4,n4,c4,s.bits⟩,rfl,rfl,?_,?_⟩
  ·exact SpAt.put5 ⟨hZ2,hZ4⟩ q0 q1 q2 q3 q4 _ _ _ _ _
  ·exact jV (zB hBW hD4) (Nat.le_succ _) _ _ _ _ _
end Go.Proofs.YtgmnknmjainababGreat
