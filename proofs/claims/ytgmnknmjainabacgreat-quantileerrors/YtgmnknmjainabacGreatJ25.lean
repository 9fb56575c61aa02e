/-
  Its own texts.
-/
import Derived.Test.YtgmnknmjainabacGreatRows
import Derived.ProofKit
import Derived.OpenShut
import Derived.SizedLaws
import Derived.ChangeOld
import Derived.Test.YtgmnknmjainabacGreatJ24
set_option maxRecDepth 100000
set_option maxHeartbeats 40000000
set_option linter.unnecessarySimpa false
set_option linter.unusedSimpArgs false
set_option linter.unusedVariables false
namespace Go.Proofs.YtgmnknmjainabacGreat
open Go.RowKit
attribute [local go_sem ↓] Go.wp_at_zero Go.wp_at_succ
theorem ref_k0 (k p q r s:Int) (w:World) (h1:k<1) :
  Calls Tryz.prog 21 #[.agg #[.int .i64 k,.int .i64 p,.int .i64 q,.int .i64 r,.int .i64 s]] w λ z w'=>z=.returned (.int .i64 6)/\Below w.heap.size w w':=by
 go_enter Tryz.func21,Tryz.ntmps21
 go_wp2
 go_ret
 exact⟨rfl,bl1 _ _⟩
theorem ref_k8 (k p q r s:Int) (w:World) (h1:1<=k) (h7:7<k) :
  Calls Tryz.prog 21 #[.agg #[.int .i64 k,.int .i64 p,.int .i64 q,.int .i64 r,.int .i64 s]] w λ z w'=>z=.returned (.int .i64 6)/\Below w.heap.size w w':=by
 go_enter Tryz.func21,Tryz.ntmps21
 go_wp2
 go_ret
 exact⟨rfl,bl1 _ _⟩
theorem ref_r1 (k p q r s:Int) (w:World) (h1:1<=k) (h7:k<=7) (o8:decide (rok p q)=false) :
  Calls Tryz.prog 21 #[.agg #[.int .i64 k,.int .i64 p,.int .i64 q,.int .i64 r,.int .i64 s]] w λ z w'=>z=.returned (.int .i64 3)/\Below w.heap.size w w':=by
 go_enter Tryz.func21,Tryz.ntmps21
 go_wp2_with (first
   | (go_at_call 58;refine (zD p q _).mono ?_;rintro r' w1 ⟨rfl,b9⟩;rw[o8];obtain⟨j8,D7,A9⟩:=zU (w.heap.size+1) (by simp) b9))
 go_ret
 exact⟨rfl,zB (bl1 _ _) b9⟩
theorem ref_r2 (k p q r s:Int) (w:World) (h1:1<=k) (h7:k<=7) (o8:decide (rok p q)=true) (o9:decide (rok r s)=false) :
  Calls Tryz.prog 21 #[.agg #[.int .i64 k,.int .i64 p,.int .i64 q,.int .i64 r,.int .i64 s]] w λ z w'=>z=.returned (.int .i64 3)/\Below w.heap.size w w':=by
 go_enter Tryz.func21,Tryz.ntmps21
 go_wp2_with (first
   | (go_at_call 58;have hq:=b9;refine (zD r s _).mono ?_;rintro r' w2 ⟨rfl,j5⟩;rw[o9];obtain⟨p9,B8,B7⟩:=zU (w.heap.size+1) j8 j5)
   | (go_at_call 58;refine (zD p q _).mono ?_;rintro r' w1 ⟨rfl,b9⟩;rw[o8];obtain⟨j8,D7,A9⟩:=zU (w.heap.size+1) (by simp) b9))
 go_ret
 exact⟨rfl,zB (zB (bl1 _ _) b9) j5⟩
theorem ref_z0_2 (p q r s:Int) (w:World) (o8:decide (rok p q)=true) (o9:decide (rok r s)=true) (z0:r≠0) :
  Calls Tryz.prog 21 #[.agg #[.int .i64 2,.int .i64 p,.int .i64 q,.int .i64 r,.int .i64 s]] w λ z w'=>z=.returned (.int .i64 1)/\Below w.heap.size w w':=by
 go_enter Tryz.func21,Tryz.ntmps21
 go_wp2_with (first
   | (go_at_call 58;have hq:=b9;refine (zD r s _).mono ?_;rintro r' w2 ⟨rfl,j5⟩;rw[o9];obtain⟨p9,B8,B7⟩:=zU (w.heap.size+1) j8 j5)
   | (go_at_call 58;refine (zD p q _).mono ?_;rintro r' w1 ⟨rfl,b9⟩;rw[o8];obtain⟨j8,D7,A9⟩:=zU (w.heap.size+1) (by simp) b9))
 go_ret
 exact⟨rfl,zB (zB (bl1 _ _) b9) j5⟩
theorem ref_z1_2 (p q s:Int) (w:World) (o8:decide (rok p q)=true) (o9:decide (rok 0 s)=true) (z1:s≠1) :
  Calls Tryz.prog 21 #[.agg #[.int .i64 2,.int .i64 p,.int .i64 q,.int .i64 0,.int .i64 s]] w λ z w'=>z=.returned (.int .i64 1)/\Below w.heap.size w w':=by
 go_enter Tryz.func21,Tryz.ntmps21
 go_wp2_with (first
   | (go_at_call 58;have hq:=b9;refine (zD 0 s _).mono ?_;rintro r' w2 ⟨rfl,j5⟩;rw[o9];obtain⟨p9,B8,B7⟩:=zU (w.heap.size+1) j8 j5)
   | (go_at_call 58;refine (zD p q _).mono ?_;rintro r' w1 ⟨rfl,b9⟩;rw[o8];obtain⟨j8,D7,A9⟩:=zU (w.heap.size+1) (by simp) b9))
 go_ret
 exact⟨rfl,zB (zB (bl1 _ _) b9) j5⟩
theorem ref_n_2 (p q:Int) (w:World) (a1 : -1048576<=p) (a2:p<=1048576) (a3:1<=q) (a4:q<=1024) (o8:decide (rok p q)=true) (o9:decide (rok 0 1)=true) (c:p<=0) :
  Calls Tryz.prog 21 #[.agg #[.int .i64 2,.int .i64 p,.int .i64 q,.int .i64 0,.int .i64 1]] w λ z w'=>z=.returned (.int .i64 3)/\Below w.heap.size w w':=by
 go_enter Tryz.func21,Tryz.ntmps21
 go_wp2_with (first
   | (go_at_call 58;have hq:=b9;refine (zD 0 1 _).mono ?_;rintro r' w2 ⟨rfl,j5⟩;rw[o9];obtain⟨p9,B8,B7⟩:=zU (w.heap.size+1) j8 j5)
   | (go_at_call 58;refine (zD p q _).mono ?_;rintro r' w1 ⟨rfl,b9⟩;rw[o8];obtain⟨j8,D7,A9⟩:=zU (w.heap.size+1) (by simp) b9))
 go_ret
 exact⟨rfl,zB (zB (bl1 _ _) b9) j5⟩
theorem ref_m_2 (p q:Int) (w:World) (a1 : -1048576<=p) (a2:p<=1048576) (a3:1<=q) (a4:q<=1024) (o8:decide (rok p q)=true) (o9:decide (rok 0 1)=true) (c:0<p) (d:100*q<p) :
  Calls Tryz.prog 21 #[.agg #[.int .i64 2,.int .i64 p,.int .i64 q,.int .i64 0,.int .i64 1]] w λ z w'=>z=.returned (.int .i64 2)/\Below w.heap.size w w':=by
 go_enter Tryz.func21,Tryz.ntmps21
 go_wp2_with (first
   | (go_at_call 58;have hq:=b9;refine (zD 0 1 _).mono ?_;rintro r' w2 ⟨rfl,j5⟩;rw[o9];obtain⟨p9,B8,B7⟩:=zU (w.heap.size+1) j8 j5)
   | (go_at_call 58;refine (zD p q _).mono ?_;rintro r' w1 ⟨rfl,b9⟩;rw[o8];obtain⟨j8,D7,A9⟩:=zU (w.heap.size+1) (by simp) b9))
 go_ret
 exact⟨rfl,zB (zB (bl1 _ _) b9) j5⟩
theorem ref_o_2 (p q:Int) (w:World) (a1 : -1048576<=p) (a2:p<=1048576) (a3:1<=q) (a4:q<=1024) (o8:decide (rok p q)=true) (o9:decide (rok 0 1)=true) (c:0<p) (d:p<=100*q) :
  Calls Tryz.prog 21 #[.agg #[.int .i64 2,.int .i64 p,.int .i64 q,.int .i64 0,.int .i64 1]] w λ z w'=>z=.returned (.int .i64 0)/\Below w.heap.size w w':=by
 go_enter Tryz.func21,Tryz.ntmps21
 go_wp2_with (first
   | (go_at_call 58;have hq:=b9;refine (zD 0 1 _).mono ?_;rintro r' w2 ⟨rfl,j5⟩;rw[o9];obtain⟨p9,B8,B7⟩:=zU (w.heap.size+1) j8 j5)
   | (go_at_call 58;refine (zD p q _).mono ?_;rintro r' w1 ⟨rfl,b9⟩;rw[o8];obtain⟨j8,D7,A9⟩:=zU (w.heap.size+1) (by simp) b9))
 go_ret
 exact⟨rfl,zB (zB (bl1 _ _) b9) j5⟩
theorem ref_z0_5 (p q r s:Int) (w:World) (o8:decide (rok p q)=true) (o9:decide (rok r s)=true) (z0:r≠0) :
  Calls Tryz.prog 21 #[.agg #[.int .i64 5,.int .i64 p,.int .i64 q,.int .i64 r,.int .i64 s]] w λ z w'=>z=.returned (.int .i64 1)/\Below w.heap.size w w':=by
 go_enter Tryz.func21,Tryz.ntmps21
 go_wp2_with (first
   | (go_at_call 58;have hq:=b9;refine (zD r s _).mono ?_;rintro r' w2 ⟨rfl,j5⟩;rw[o9];obtain⟨p9,B8,B7⟩:=zU (w.heap.size+1) j8 j5)
   | (go_at_call 58;refine (zD p q _).mono ?_;rintro r' w1 ⟨rfl,b9⟩;rw[o8];obtain⟨j8,D7,A9⟩:=zU (w.heap.size+1) (by simp) b9))
 go_ret
 exact⟨rfl,zB (zB (bl1 _ _) b9) j5⟩
theorem ref_z1_5 (p q s:Int) (w:World) (o8:decide (rok p q)=true) (o9:decide (rok 0 s)=true) (z1:s≠1) :
  Calls Tryz.prog 21 #[.agg #[.int .i64 5,.int .i64 p,.int .i64 q,.int .i64 0,.int .i64 s]] w λ z w'=>z=.returned (.int .i64 1)/\Below w.heap.size w w':=by
 go_enter Tryz.func21,Tryz.ntmps21
 go_wp2_with (first
   | (go_at_call 58;have hq:=b9;refine (zD 0 s _).mono ?_;rintro r' w2 ⟨rfl,j5⟩;rw[o9];obtain⟨p9,B8,B7⟩:=zU (w.heap.size+1) j8 j5)
   | (go_at_call 58;refine (zD p q _).mono ?_;rintro r' w1 ⟨rfl,b9⟩;rw[o8];obtain⟨j8,D7,A9⟩:=zU (w.heap.size+1) (by simp) b9))
 go_ret
 exact⟨rfl,zB (zB (bl1 _ _) b9) j5⟩
theorem ref_n_5 (p q:Int) (w:World) (a1 : -1048576<=p) (a2:p<=1048576) (a3:1<=q) (a4:q<=1024) (o8:decide (rok p q)=true) (o9:decide (rok 0 1)=true) (c:p<=0) :
  Calls Tryz.prog 21 #[.agg #[.int .i64 5,.int .i64 p,.int .i64 q,.int .i64 0,.int .i64 1]] w λ z w'=>z=.returned (.int .i64 3)/\Below w.heap.size w w':=by
 go_enter Tryz.func21,Tryz.ntmps21
 go_wp2_with (first
   | (go_at_call 58;have hq:=b9;refine (zD 0 1 _).mono ?_;rintro r' w2 ⟨rfl,j5⟩;rw[o9];obtain⟨p9,B8,B7⟩:=zU (w.heap.size+1) j8 j5)
   | (go_at_call 58;refine (zD p q _).mono ?_;rintro r' w1 ⟨rfl,b9⟩;rw[o8];obtain⟨j8,D7,A9⟩:=zU (w.heap.size+1) (by simp) b9))
 go_ret
 exact⟨rfl,zB (zB (bl1 _ _) b9) j5⟩
theorem ref_m_5 (p q:Int) (w:World) (a1 : -1048576<=p) (a2:p<=1048576) (a3:1<=q) (a4:q<=1024) (o8:decide (rok p q)=true) (o9:decide (rok 0 1)=true) (c:0<p) (d:100*q<p) :
  Calls Tryz.prog 21 #[.agg #[.int .i64 5,.int .i64 p,.int .i64 q,.int .i64 0,.int .i64 1]] w λ z w'=>z=.returned (.int .i64 2)/\Below w.heap.size w w':=by
 go_enter Tryz.func21,Tryz.ntmps21
 go_wp2_with (first
   | (go_at_call 58;have hq:=b9;refine (zD 0 1 _).mono ?_;rintro r' w2 ⟨rfl,j5⟩;rw[o9];obtain⟨p9,B8,B7⟩:=zU (w.heap.size+1) j8 j5)
   | (go_at_call 58;refine (zD p q _).mono ?_;rintro r' w1 ⟨rfl,b9⟩;rw[o8];obtain⟨j8,D7,A9⟩:=zU (w.heap.size+1) (by simp) b9))
 go_ret
 exact⟨rfl,zB (zB (bl1 _ _) b9) j5⟩
theorem ref_o_5 (p q:Int) (w:World) (a1 : -1048576<=p) (a2:p<=1048576) (a3:1<=q) (a4:q<=1024) (o8:decide (rok p q)=true) (o9:decide (rok 0 1)=true) (c:0<p) (d:p<=100*q) :
  Calls Tryz.prog 21 #[.agg #[.int .i64 5,.int .i64 p,.int .i64 q,.int .i64 0,.int .i64 1]] w λ z w'=>z=.returned (.int .i64 0)/\Below w.heap.size w w':=by
 go_enter Tryz.func21,Tryz.ntmps21
 go_wp2_with (first
   | (go_at_call 58;have hq:=b9;refine (zD 0 1 _).mono ?_;rintro r' w2 ⟨rfl,j5⟩;rw[o9];obtain⟨p9,B8,B7⟩:=zU (w.heap.size+1) j8 j5)
   | (go_at_call 58;refine (zD p q _).mono ?_;rintro r' w1 ⟨rfl,b9⟩;rw[o8];obtain⟨j8,D7,A9⟩:=zU (w.heap.size+1) (by simp) b9))
 go_ret
 exact⟨rfl,zB (zB (bl1 _ _) b9) j5⟩
theorem ref_z0_7 (p q r s:Int) (w:World) (o8:decide (rok p q)=true) (o9:decide (rok r s)=true) (z0:r≠0) :
  Calls Tryz.prog 21 #[.agg #[.int .i64 7,.int .i64 p,.int .i64 q,.int .i64 r,.int .i64 s]] w λ z w'=>z=.returned (.int .i64 1)/\Below w.heap.size w w':=by
 go_enter Tryz.func21,Tryz.ntmps21
 go_wp2_with (first
   | (go_at_call 58;have hq:=b9;refine (zD r s _).mono ?_;rintro r' w2 ⟨rfl,j5⟩;rw[o9];obtain⟨p9,B8,B7⟩:=zU (w.heap.size+1) j8 j5)
   | (go_at_call 58;refine (zD p q _).mono ?_;rintro r' w1 ⟨rfl,b9⟩;rw[o8];obtain⟨j8,D7,A9⟩:=zU (w.heap.size+1) (by simp) b9))
 go_ret
 exact⟨rfl,zB (zB (bl1 _ _) b9) j5⟩
theorem ref_z1_7 (p q s:Int) (w:World) (o8:decide (rok p q)=true) (o9:decide (rok 0 s)=true) (z1:s≠1) :
  Calls Tryz.prog 21 #[.agg #[.int .i64 7,.int .i64 p,.int .i64 q,.int .i64 0,.int .i64 s]] w λ z w'=>z=.returned (.int .i64 1)/\Below w.heap.size w w':=by
 go_enter Tryz.func21,Tryz.ntmps21
 go_wp2_with (first
   | (go_at_call 58;have hq:=b9;refine (zD 0 s _).mono ?_;rintro r' w2 ⟨rfl,j5⟩;rw[o9];obtain⟨p9,B8,B7⟩:=zU (w.heap.size+1) j8 j5)
   | (go_at_call 58;refine (zD p q _).mono ?_;rintro r' w1 ⟨rfl,b9⟩;rw[o8];obtain⟨j8,D7,A9⟩:=zU (w.heap.size+1) (by simp) b9))
 go_ret
 exact⟨rfl,zB (zB (bl1 _ _) b9) j5⟩
theorem ref_n_7 (p q:Int) (w:World) (a1 : -1048576<=p) (a2:p<=1048576) (a3:1<=q) (a4:q<=1024) (o8:decide (rok p q)=true) (o9:decide (rok 0 1)=true) (c:p<=0) :
  Calls Tryz.prog 21 #[.agg #[.int .i64 7,.int .i64 p,.int .i64 q,.int .i64 0,.int .i64 1]] w λ z w'=>z=.returned (.int .i64 3)/\Below w.heap.size w w':=by
 go_enter Tryz.func21,Tryz.ntmps21
 go_wp2_with (first
   | (go_at_call 58;have hq:=b9;refine (zD 0 1 _).mono ?_;rintro r' w2 ⟨rfl,j5⟩;rw[o9];obtain⟨p9,B8,B7⟩:=zU (w.heap.size+1) j8 j5)
   | (go_at_call 58;refine (zD p q _).mono ?_;rintro r' w1 ⟨rfl,b9⟩;rw[o8];obtain⟨j8,D7,A9⟩:=zU (w.heap.size+1) (by simp) b9))
 go_ret
 exact⟨rfl,zB (zB (bl1 _ _) b9) j5⟩
theorem ref_m_7 (p q:Int) (w:World) (a1 : -1048576<=p) (a2:p<=1048576) (a3:1<=q) (a4:q<=1024) (o8:decide (rok p q)=true) (o9:decide (rok 0 1)=true) (c:0<p) (d:100*q<p) :
  Calls Tryz.prog 21 #[.agg #[.int .i64 7,.int .i64 p,.int .i64 q,.int .i64 0,.int .i64 1]] w λ z w'=>z=.returned (.int .i64 2)/\Below w.heap.size w w':=by
 go_enter Tryz.func21,Tryz.ntmps21
 go_wp2_with (first
   | (go_at_call 58;have hq:=b9;refine (zD 0 1 _).mono ?_;rintro r' w2 ⟨rfl,j5⟩;rw[o9];obtain⟨p9,B8,B7⟩:=zU (w.heap.size+1) j8 j5)
   | (go_at_call 58;refine (zD p q _).mono ?_;rintro r' w1 ⟨rfl,b9⟩;rw[o8];obtain⟨j8,D7,A9⟩:=zU (w.heap.size+1) (by simp) b9))
 go_ret
 exact⟨rfl,zB (zB (bl1 _ _) b9) j5⟩
theorem ref_o_7 (p q:Int) (w:World) (a1 : -1048576<=p) (a2:p<=1048576) (a3:1<=q) (a4:q<=1024) (o8:decide (rok p q)=true) (o9:decide (rok 0 1)=true) (c:0<p) (d:p<=100*q) :
  Calls Tryz.prog 21 #[.agg #[.int .i64 7,.int .i64 p,.int .i64 q,.int .i64 0,.int .i64 1]] w λ z w'=>z=.returned (.int .i64 0)/\Below w.heap.size w w':=by
 go_enter Tryz.func21,Tryz.ntmps21
 go_wp2_with (first
   | (go_at_call 58;have hq:=b9;refine (zD 0 1 _).mono ?_;rintro r' w2 ⟨rfl,j5⟩;rw[o9];obtain⟨p9,B8,B7⟩:=zU (w.heap.size+1) j8 j5)
   | (go_at_call 58;refine (zD p q _).mono ?_;rintro r' w1 ⟨rfl,b9⟩;rw[o8];obtain⟨j8,D7,A9⟩:=zU (w.heap.size+1) (by simp) b9))
 go_ret
 exact⟨rfl,zB (zB (bl1 _ _) b9) j5⟩
theorem ref_n_1 (p q r s:Int) (w:World) (a1 : -1048576<=p) (a2:p<=1048576) (a3:1<=q) (a4:q<=1024) (b1 : -1048576<=r) (b2:r<=1048576) (b3:1<=s) (b4:s<=1024) (o8:decide (rok p q)=true) (o9:decide (rok r s)=true) (c:r<=0) :
  Calls Tryz.prog 21 #[.agg #[.int .i64 1,.int .i64 p,.int .i64 q,.int .i64 r,.int .i64 s]] w λ z w'=>z=.returned (.int .i64 3)/\Below w.heap.size w w':=by
 go_enter Tryz.func21,Tryz.ntmps21
 go_wp2_with (first
   | (go_at_call 58;have hq:=b9;refine (zD r s _).mono ?_;rintro r' w2 ⟨rfl,j5⟩;rw[o9];obtain⟨p9,B8,B7⟩:=zU (w.heap.size+1) j8 j5)
   | (go_at_call 58;refine (zD p q _).mono ?_;rintro r' w1 ⟨rfl,b9⟩;rw[o8];obtain⟨j8,D7,A9⟩:=zU (w.heap.size+1) (by simp) b9))
 go_ret
 exact⟨rfl,zB (zB (bl1 _ _) b9) j5⟩
theorem ref_m1_1 (p q r s:Int) (w:World) (a1 : -1048576<=p) (a2:p<=1048576) (a3:1<=q) (a4:q<=1024) (b1 : -1048576<=r) (b2:r<=1048576) (b3:1<=s) (b4:s<=1024) (o8:decide (rok p q)=true) (o9:decide (rok r s)=true) (c:0<r) (d:100*q<p) :
  Calls Tryz.prog 21 #[.agg #[.int .i64 1,.int .i64 p,.int .i64 q,.int .i64 r,.int .i64 s]] w λ z w'=>z=.returned (.int .i64 2)/\Below w.heap.size w w':=by
 go_enter Tryz.func21,Tryz.ntmps21
 go_wp2_with (first
   | (go_at_call 58;have hq:=b9;refine (zD r s _).mono ?_;rintro r' w2 ⟨rfl,j5⟩;rw[o9];obtain⟨p9,B8,B7⟩:=zU (w.heap.size+1) j8 j5)
   | (go_at_call 58;refine (zD p q _).mono ?_;rintro r' w1 ⟨rfl,b9⟩;rw[o8];obtain⟨j8,D7,A9⟩:=zU (w.heap.size+1) (by simp) b9))
 go_ret
 exact⟨rfl,zB (zB (bl1 _ _) b9) j5⟩
theorem ref_m2_1 (p q r s:Int) (w:World) (a1 : -1048576<=p) (a2:p<=1048576) (a3:1<=q) (a4:q<=1024) (b1 : -1048576<=r) (b2:r<=1048576) (b3:1<=s) (b4:s<=1024) (o8:decide (rok p q)=true) (o9:decide (rok r s)=true) (c:0<r) (d:p<=100*q) (d2:p < -(100*q)) :
  Calls Tryz.prog 21 #[.agg #[.int .i64 1,.int .i64 p,.int .i64 q,.int .i64 r,.int .i64 s]] w λ z w'=>z=.returned (.int .i64 2)/\Below w.heap.size w w':=by
 go_enter Tryz.func21,Tryz.ntmps21
 go_wp2_with (first
   | (go_at_call 58;have hq:=b9;refine (zD r s _).mono ?_;rintro r' w2 ⟨rfl,j5⟩;rw[o9];obtain⟨p9,B8,B7⟩:=zU (w.heap.size+1) j8 j5)
   | (go_at_call 58;refine (zD p q _).mono ?_;rintro r' w1 ⟨rfl,b9⟩;rw[o8];obtain⟨j8,D7,A9⟩:=zU (w.heap.size+1) (by simp) b9))
 go_ret
 exact⟨rfl,zB (zB (bl1 _ _) b9) j5⟩
theorem ref_m3_1 (p q r s:Int) (w:World) (a1 : -1048576<=p) (a2:p<=1048576) (a3:1<=q) (a4:q<=1024) (b1 : -1048576<=r) (b2:r<=1048576) (b3:1<=s) (b4:s<=1024) (o8:decide (rok p q)=true) (o9:decide (rok r s)=true) (c:0<r) (d:p<=100*q) (d2 : -(100*q)<=p) (d3:100*s<r) :
  Calls Tryz.prog 21 #[.agg #[.int .i64 1,.int .i64 p,.int .i64 q,.int .i64 r,.int .i64 s]] w λ z w'=>z=.returned (.int .i64 2)/\Below w.heap.size w w':=by
 go_enter Tryz.func21,Tryz.ntmps21
 go_wp2_with (first
   | (go_at_call 58;have hq:=b9;refine (zD r s _).mono ?_;rintro r' w2 ⟨rfl,j5⟩;rw[o9];obtain⟨p9,B8,B7⟩:=zU (w.heap.size+1) j8 j5)
   | (go_at_call 58;refine (zD p q _).mono ?_;rintro r' w1 ⟨rfl,b9⟩;rw[o8];obtain⟨j8,D7,A9⟩:=zU (w.heap.size+1) (by simp) b9))
 go_ret
 exact⟨rfl,zB (zB (bl1 _ _) b9) j5⟩
theorem ref_m4_1 (p q r s:Int) (w:World) (a1 : -1048576<=p) (a2:p<=1048576) (a3:1<=q) (a4:q<=1024) (b1 : -1048576<=r) (b2:r<=1048576) (b3:1<=s) (b4:s<=1024) (o8:decide (rok p q)=true) (o9:decide (rok r s)=true) (c:0<r) (d:p<=100*q) (d2 : -(100*q)<=p) (d3:r<=100*s) (d4:100*r<s) :
  Calls Tryz.prog 21 #[.agg #[.int .i64 1,.int .i64 p,.int .i64 q,.int .i64 r,.int .i64 s]] w λ z w'=>z=.returned (.int .i64 2)/\Below w.heap.size w w':=by
 go_enter Tryz.func21,Tryz.ntmps21
 go_wp2_with (first
   | (go_at_call 58;have hq:=b9;refine (zD r s _).mono ?_;rintro r' w2 ⟨rfl,j5⟩;rw[o9];obtain⟨p9,B8,B7⟩:=zU (w.heap.size+1) j8 j5)
   | (go_at_call 58;refine (zD p q _).mono ?_;rintro r' w1 ⟨rfl,b9⟩;rw[o8];obtain⟨j8,D7,A9⟩:=zU (w.heap.size+1) (by simp) b9))
 go_ret
 exact⟨rfl,zB (zB (bl1 _ _) b9) j5⟩
theorem ref_o_1 (p q r s:Int) (w:World) (a1 : -1048576<=p) (a2:p<=1048576) (a3:1<=q) (a4:q<=1024) (b1 : -1048576<=r) (b2:r<=1048576) (b3:1<=s) (b4:s<=1024) (o8:decide (rok p q)=true) (o9:decide (rok r s)=true) (c:0<r) (d:p<=100*q) (d2 : -(100*q)<=p) (d3:r<=100*s) (d4:s<=100*r) :
  Calls Tryz.prog 21 #[.agg #[.int .i64 1,.int .i64 p,.int .i64 q,.int .i64 r,.int .i64 s]] w λ z w'=>z=.returned (.int .i64 0)/\Below w.heap.size w w':=by
 go_enter Tryz.func21,Tryz.ntmps21
 go_wp2_with (first
   | (go_at_call 58;have hq:=b9;refine (zD r s _).mono ?_;rintro r' w2 ⟨rfl,j5⟩;rw[o9];obtain⟨p9,B8,B7⟩:=zU (w.heap.size+1) j8 j5)
   | (go_at_call 58;refine (zD p q _).mono ?_;rintro r' w1 ⟨rfl,b9⟩;rw[o8];obtain⟨j8,D7,A9⟩:=zU (w.heap.size+1) (by simp) b9))
 go_ret
 exact⟨rfl,zB (zB (bl1 _ _) b9) j5⟩
theorem ref_p_3 (p q r s:Int) (w:World) (a1 : -1048576<=p) (a2:p<=1048576) (a3:1<=q) (a4:q<=1024) (b1 : -1048576<=r) (b2:r<=1048576) (b3:1<=s) (b4:s<=1024) (o8:decide (rok p q)=true) (o9:decide (rok r s)=true) (c0:p<=0) :
  Calls Tryz.prog 21 #[.agg #[.int .i64 3,.int .i64 p,.int .i64 q,.int .i64 r,.int .i64 s]] w λ z w'=>z=.returned (.int .i64 3)/\Below w.heap.size w w':=by
 go_enter Tryz.func21,Tryz.ntmps21
 go_wp2_with (first
   | (go_at_call 58;have hq:=b9;refine (zD r s _).mono ?_;rintro r' w2 ⟨rfl,j5⟩;rw[o9];obtain⟨p9,B8,B7⟩:=zU (w.heap.size+1) j8 j5)
   | (go_at_call 58;refine (zD p q _).mono ?_;rintro r' w1 ⟨rfl,b9⟩;rw[o8];obtain⟨j8,D7,A9⟩:=zU (w.heap.size+1) (by simp) b9))
 go_ret
 exact⟨rfl,zB (zB (bl1 _ _) b9) j5⟩
theorem ref_n_3 (p q r s:Int) (w:World) (a1 : -1048576<=p) (a2:p<=1048576) (a3:1<=q) (a4:q<=1024) (b1 : -1048576<=r) (b2:r<=1048576) (b3:1<=s) (b4:s<=1024) (o8:decide (rok p q)=true) (o9:decide (rok r s)=true) (c0:0<p) (c:r<=0) :
  Calls Tryz.prog 21 #[.agg #[.int .i64 3,.int .i64 p,.int .i64 q,.int .i64 r,.int .i64 s]] w λ z w'=>z=.returned (.int .i64 3)/\Below w.heap.size w w':=by
 go_enter Tryz.func21,Tryz.ntmps21
 go_wp2_with (first
   | (go_at_call 58;have hq:=b9;refine (zD r s _).mono ?_;rintro r' w2 ⟨rfl,j5⟩;rw[o9];obtain⟨p9,B8,B7⟩:=zU (w.heap.size+1) j8 j5)
   | (go_at_call 58;refine (zD p q _).mono ?_;rintro r' w1 ⟨rfl,b9⟩;rw[o8];obtain⟨j8,D7,A9⟩:=zU (w.heap.size+1) (by simp) b9))
 go_ret
 exact⟨rfl,zB (zB (bl1 _ _) b9) j5⟩
theorem ref_m1_3 (p q r s:Int) (w:World) (a1 : -1048576<=p) (a2:p<=1048576) (a3:1<=q) (a4:q<=1024) (b1 : -1048576<=r) (b2:r<=1048576) (b3:1<=s) (b4:s<=1024) (o8:decide (rok p q)=true) (o9:decide (rok r s)=true) (c0:0<p) (c:0<r) (d:100*q<p) :
  Calls Tryz.prog 21 #[.agg #[.int .i64 3,.int .i64 p,.int .i64 q,.int .i64 r,.int .i64 s]] w λ z w'=>z=.returned (.int .i64 2)/\Below w.heap.size w w':=by
 go_enter Tryz.func21,Tryz.ntmps21
 go_wp2_with (first
   | (go_at_call 58;have hq:=b9;refine (zD r s _).mono ?_;rintro r' w2 ⟨rfl,j5⟩;rw[o9];obtain⟨p9,B8,B7⟩:=zU (w.heap.size+1) j8 j5)
   | (go_at_call 58;refine (zD p q _).mono ?_;rintro r' w1 ⟨rfl,b9⟩;rw[o8];obtain⟨j8,D7,A9⟩:=zU (w.heap.size+1) (by simp) b9))
 go_ret
 exact⟨rfl,zB (zB (bl1 _ _) b9) j5⟩
theorem ref_m3_3 (p q r s:Int) (w:World) (a1 : -1048576<=p) (a2:p<=1048576) (a3:1<=q) (a4:q<=1024) (b1 : -1048576<=r) (b2:r<=1048576) (b3:1<=s) (b4:s<=1024) (o8:decide (rok p q)=true) (o9:decide (rok r s)=true) (c0:0<p) (c:0<r) (d:p<=100*q) (d2 : -(100*q)<=p) (d3:100*s<r) :
  Calls Tryz.prog 21 #[.agg #[.int .i64 3,.int .i64 p,.int .i64 q,.int .i64 r,.int .i64 s]] w λ z w'=>z=.returned (.int .i64 2)/\Below w.heap.size w w':=by
 go_enter Tryz.func21,Tryz.ntmps21
 go_wp2_with (first
   | (go_at_call 58;have hq:=b9;refine (zD r s _).mono ?_;rintro r' w2 ⟨rfl,j5⟩;rw[o9];obtain⟨p9,B8,B7⟩:=zU (w.heap.size+1) j8 j5)
   | (go_at_call 58;refine (zD p q _).mono ?_;rintro r' w1 ⟨rfl,b9⟩;rw[o8];obtain⟨j8,D7,A9⟩:=zU (w.heap.size+1) (by simp) b9))
 go_ret
 exact⟨rfl,zB (zB (bl1 _ _) b9) j5⟩
theorem ref_m4_3 (p q r s:Int) (w:World) (a1 : -1048576<=p) (a2:p<=1048576) (a3:1<=q) (a4:q<=1024) (b1 : -1048576<=r) (b2:r<=1048576) (b3:1<=s) (b4:s<=1024) (o8:decide (rok p q)=true) (o9:decide (rok r s)=true) (c0:0<p) (c:0<r) (d:p<=100*q) (d2 : -(100*q)<=p) (d3:r<=100*s) (d4:100*r<s) :
  Calls Tryz.prog 21 #[.agg #[.int .i64 3,.int .i64 p,.int .i64 q,.int .i64 r,.int .i64 s]] w λ z w'=>z=.returned (.int .i64 2)/\Below w.heap.size w w':=by
 go_enter Tryz.func21,Tryz.ntmps21
 go_wp2_with (first
   | (go_at_call 58;have hq:=b9;refine (zD r s _).mono ?_;rintro r' w2 ⟨rfl,j5⟩;rw[o9];obtain⟨p9,B8,B7⟩:=zU (w.heap.size+1) j8 j5)
   | (go_at_call 58;refine (zD p q _).mono ?_;rintro r' w1 ⟨rfl,b9⟩;rw[o8];obtain⟨j8,D7,A9⟩:=zU (w.heap.size+1) (by simp) b9))
 go_ret
 exact⟨rfl,zB (zB (bl1 _ _) b9) j5⟩
theorem ref_o_3 (p q r s:Int) (w:World) (a1 : -1048576<=p) (a2:p<=1048576) (a3:1<=q) (a4:q<=1024) (b1 : -1048576<=r) (b2:r<=1048576) (b3:1<=s) (b4:s<=1024) (o8:decide (rok p q)=true) (o9:decide (rok r s)=true) (c0:0<p) (c:0<r) (d:p<=100*q) (d2 : -(100*q)<=p) (d3:r<=100*s) (d4:s<=100*r) :
  Calls Tryz.prog 21 #[.agg #[.int .i64 3,.int .i64 p,.int .i64 q,.int .i64 r,.int .i64 s]] w λ z w'=>z=.returned (.int .i64 0)/\Below w.heap.size w w':=by
 go_enter Tryz.func21,Tryz.ntmps21
 go_wp2_with (first
   | (go_at_call 58;have hq:=b9;refine (zD r s _).mono ?_;rintro r' w2 ⟨rfl,j5⟩;rw[o9];obtain⟨p9,B8,B7⟩:=zU (w.heap.size+1) j8 j5)
   | (go_at_call 58;refine (zD p q _).mono ?_;rintro r' w1 ⟨rfl,b9⟩;rw[o8];obtain⟨j8,D7,A9⟩:=zU (w.heap.size+1) (by simp) b9))
 go_ret
 exact⟨rfl,zB (zB (bl1 _ _) b9) j5⟩
theorem ref_p_4 (p q r s:Int) (w:World) (a1 : -1048576<=p) (a2:p<=1048576) (a3:1<=q) (a4:q<=1024) (b1 : -1048576<=r) (b2:r<=1048576) (b3:1<=s) (b4:s<=1024) (o8:decide (rok p q)=true) (o9:decide (rok r s)=true) (c0:p<=0) :
  Calls Tryz.prog 21 #[.agg #[.int .i64 4,.int .i64 p,.int .i64 q,.int .i64 r,.int .i64 s]] w λ z w'=>z=.returned (.int .i64 3)/\Below w.heap.size w w':=by
 go_enter Tryz.func21,Tryz.ntmps21
 go_wp2_with (first
   | (go_at_call 58;have hq:=b9;refine (zD r s _).mono ?_;rintro r' w2 ⟨rfl,j5⟩;rw[o9];obtain⟨p9,B8,B7⟩:=zU (w.heap.size+1) j8 j5)
   | (go_at_call 58;refine (zD p q _).mono ?_;rintro r' w1 ⟨rfl,b9⟩;rw[o8];obtain⟨j8,D7,A9⟩:=zU (w.heap.size+1) (by simp) b9))
 go_ret
 exact⟨rfl,zB (zB (bl1 _ _) b9) j5⟩
theorem ref_n_4 (p q r s:Int) (w:World) (a1 : -1048576<=p) (a2:p<=1048576) (a3:1<=q) (a4:q<=1024) (b1 : -1048576<=r) (b2:r<=1048576) (b3:1<=s) (b4:s<=1024) (o8:decide (rok p q)=true) (o9:decide (rok r s)=true) (c0:0<p) (c:r<=0) :
  Calls Tryz.prog 21 #[.agg #[.int .i64 4,.int .i64 p,.int .i64 q,.int .i64 r,.int .i64 s]] w λ z w'=>z=.returned (.int .i64 3)/\Below w.heap.size w w':=by
 go_enter Tryz.func21,Tryz.ntmps21
 go_wp2_with (first
   | (go_at_call 58;have hq:=b9;refine (zD r s _).mono ?_;rintro r' w2 ⟨rfl,j5⟩;rw[o9];obtain⟨p9,B8,B7⟩:=zU (w.heap.size+1) j8 j5)
   | (go_at_call 58;refine (zD p q _).mono ?_;rintro r' w1 ⟨rfl,b9⟩;rw[o8];obtain⟨j8,D7,A9⟩:=zU (w.heap.size+1) (by simp) b9))
 go_ret
 exact⟨rfl,zB (zB (bl1 _ _) b9) j5⟩
theorem ref_m1_4 (p q r s:Int) (w:World) (a1 : -1048576<=p) (a2:p<=1048576) (a3:1<=q) (a4:q<=1024) (b1 : -1048576<=r) (b2:r<=1048576) (b3:1<=s) (b4:s<=1024) (o8:decide (rok p q)=true) (o9:decide (rok r s)=true) (c0:0<p) (c:0<r) (d:100*q<p) :
  Calls Tryz.prog 21 #[.agg #[.int .i64 4,.int .i64 p,.int .i64 q,.int .i64 r,.int .i64 s]] w λ z w'=>z=.returned (.int .i64 2)/\Below w.heap.size w w':=by
 go_enter Tryz.func21,Tryz.ntmps21
 go_wp2_with (first
   | (go_at_call 58;have hq:=b9;refine (zD r s _).mono ?_;rintro r' w2 ⟨rfl,j5⟩;rw[o9];obtain⟨p9,B8,B7⟩:=zU (w.heap.size+1) j8 j5)
   | (go_at_call 58;refine (zD p q _).mono ?_;rintro r' w1 ⟨rfl,b9⟩;rw[o8];obtain⟨j8,D7,A9⟩:=zU (w.heap.size+1) (by simp) b9))
 go_ret
 exact⟨rfl,zB (zB (bl1 _ _) b9) j5⟩
theorem ref_m3_4 (p q r s:Int) (w:World) (a1 : -1048576<=p) (a2:p<=1048576) (a3:1<=q) (a4:q<=1024) (b1 : -1048576<=r) (b2:r<=1048576) (b3:1<=s) (b4:s<=1024) (o8:decide (rok p q)=true) (o9:decide (rok r s)=true) (c0:0<p) (c:0<r) (d:p<=100*q) (d2 : -(100*q)<=p) (d3:100*s<r) :
  Calls Tryz.prog 21 #[.agg #[.int .i64 4,.int .i64 p,.int .i64 q,.int .i64 r,.int .i64 s]] w λ z w'=>z=.returned (.int .i64 2)/\Below w.heap.size w w':=by
 go_enter Tryz.func21,Tryz.ntmps21
 go_wp2_with (first
   | (go_at_call 58;have hq:=b9;refine (zD r s _).mono ?_;rintro r' w2 ⟨rfl,j5⟩;rw[o9];obtain⟨p9,B8,B7⟩:=zU (w.heap.size+1) j8 j5)
   | (go_at_call 58;refine (zD p q _).mono ?_;rintro r' w1 ⟨rfl,b9⟩;rw[o8];obtain⟨j8,D7,A9⟩:=zU (w.heap.size+1) (by simp) b9))
 go_ret
 exact⟨rfl,zB (zB (bl1 _ _) b9) j5⟩
theorem ref_m4_4 (p q r s:Int) (w:World) (a1 : -1048576<=p) (a2:p<=1048576) (a3:1<=q) (a4:q<=1024) (b1 : -1048576<=r) (b2:r<=1048576) (b3:1<=s) (b4:s<=1024) (o8:decide (rok p q)=true) (o9:decide (rok r s)=true) (c0:0<p) (c:0<r) (d:p<=100*q) (d2 : -(100*q)<=p) (d3:r<=100*s) (d4:100*r<s) :
  Calls Tryz.prog 21 #[.agg #[.int .i64 4,.int .i64 p,.int .i64 q,.int .i64 r,.int .i64 s]] w λ z w'=>z=.returned (.int .i64 2)/\Below w.heap.size w w':=by
 go_enter Tryz.func21,Tryz.ntmps21
 go_wp2_with (first
   | (go_at_call 58;have hq:=b9;refine (zD r s _).mono ?_;rintro r' w2 ⟨rfl,j5⟩;rw[o9];obtain⟨p9,B8,B7⟩:=zU (w.heap.size+1) j8 j5)
   | (go_at_call 58;refine (zD p q _).mono ?_;rintro r' w1 ⟨rfl,b9⟩;rw[o8];obtain⟨j8,D7,A9⟩:=zU (w.heap.size+1) (by simp) b9))
 go_ret
 exact⟨rfl,zB (zB (bl1 _ _) b9) j5⟩
theorem ref_o_4 (p q r s:Int) (w:World) (a1 : -1048576<=p) (a2:p<=1048576) (a3:1<=q) (a4:q<=1024) (b1 : -1048576<=r) (b2:r<=1048576) (b3:1<=s) (b4:s<=1024) (o8:decide (rok p q)=true) (o9:decide (rok r s)=true) (c0:0<p) (c:0<r) (d:p<=100*q) (d2 : -(100*q)<=p) (d3:r<=100*s) (d4:s<=100*r) :
  Calls Tryz.prog 21 #[.agg #[.int .i64 4,.int .i64 p,.int .i64 q,.int .i64 r,.int .i64 s]] w λ z w'=>z=.returned (.int .i64 0)/\Below w.heap.size w w':=by
 go_enter Tryz.func21,Tryz.ntmps21
 go_wp2_with (first
   | (go_at_call 58;have hq:=b9;refine (zD r s _).mono ?_;rintro r' w2 ⟨rfl,j5⟩;rw[o9];obtain⟨p9,B8,B7⟩:=zU (w.heap.size+1) j8 j5)
   | (go_at_call 58;refine (zD p q _).mono ?_;rintro r' w1 ⟨rfl,b9⟩;rw[o8];obtain⟨j8,D7,A9⟩:=zU (w.heap.size+1) (by simp) b9))
 go_ret
 exact⟨rfl,zB (zB (bl1 _ _) b9) j5⟩
theorem ref_q_6 (p q r s:Int) (w:World) (o8:decide (rok p q)=true) (o9:decide (rok r s)=true) (c:q≠1) :
  Calls Tryz.prog 21 #[.agg #[.int .i64 6,.int .i64 p,.int .i64 q,.int .i64 r,.int .i64 s]] w λ z w'=>z=.returned (.int .i64 3)/\Below w.heap.size w w':=by
 go_enter Tryz.func21,Tryz.ntmps21
 go_wp2_with (first
   | (go_at_call 58;have hq:=b9;refine (zD r s _).mono ?_;rintro r' w2 ⟨rfl,j5⟩;rw[o9];obtain⟨p9,B8,B7⟩:=zU (w.heap.size+1) j8 j5)
   | (go_at_call 58;refine (zD p q _).mono ?_;rintro r' w1 ⟨rfl,b9⟩;rw[o8];obtain⟨j8,D7,A9⟩:=zU (w.heap.size+1) (by simp) b9))
 go_ret
 exact⟨rfl,zB (zB (bl1 _ _) b9) j5⟩
theorem ref_b1_6 (p r s:Int) (w:World) (o8:decide (rok p 1)=true) (o9:decide (rok r s)=true) (aj:(decide (0<=p) && decide (p<=100))=false) :
  Calls Tryz.prog 21 #[.agg #[.int .i64 6,.int .i64 p,.int .i64 1,.int .i64 r,.int .i64 s]] w λ z w'=>z=.returned (.int .i64 3)/\Below w.heap.size w w':=by
 go_enter Tryz.func21,Tryz.ntmps21
 go_wp2_with (first
   | (go_at_call 59;refine (jV p 0 100 _).mono ?_;rintro r' w3 ⟨rfl,Bc⟩;rw[aj];subst Bc;have Z0:=j5)
   | (go_at_call 58;have hq:=b9;refine (zD r s _).mono ?_;rintro r' w2 ⟨rfl,j5⟩;rw[o9];obtain⟨p9,B8,B7⟩:=zU (w.heap.size+1) j8 j5)
   | (go_at_call 58;refine (zD p 1 _).mono ?_;rintro r' w1 ⟨rfl,b9⟩;rw[o8];obtain⟨j8,D7,A9⟩:=zU (w.heap.size+1) (by simp) b9))
 go_ret
 exact⟨rfl,zB (zB (bl1 _ _) b9) j5⟩
theorem ref_b2_6 (p r s:Int) (w:World) (o8:decide (rok p 1)=true) (o9:decide (rok r s)=true) (aj:(decide (0<=p) && decide (p<=100))=true) (dG:(decide (0<=r) && decide (r<=s))=false) :
  Calls Tryz.prog 21 #[.agg #[.int .i64 6,.int .i64 p,.int .i64 1,.int .i64 r,.int .i64 s]] w λ z w'=>z=.returned (.int .i64 3)/\Below w.heap.size w w':=by
 go_enter Tryz.func21,Tryz.ntmps21
 go_wp2_with (first
   | (go_at_call 59;have hq:=Z0;refine (jV r 0 s _).mono ?_;rintro r' w4 ⟨rfl,Hi⟩;rw[dG];subst Hi)
   | (go_at_call 59;refine (jV p 0 100 _).mono ?_;rintro r' w3 ⟨rfl,Bc⟩;rw[aj];subst Bc;have Z0:=j5)
   | (go_at_call 58;have hq:=b9;refine (zD r s _).mono ?_;rintro r' w2 ⟨rfl,j5⟩;rw[o9];obtain⟨p9,B8,B7⟩:=zU (w.heap.size+1) j8 j5)
   | (go_at_call 58;refine (zD p 1 _).mono ?_;rintro r' w1 ⟨rfl,b9⟩;rw[o8];obtain⟨j8,D7,A9⟩:=zU (w.heap.size+1) (by simp) b9))
 go_ret
 exact⟨rfl,zB (zB (bl1 _ _) b9) j5⟩
theorem ref_o_6 (p r s:Int) (w:World) (o8:decide (rok p 1)=true) (o9:decide (rok r s)=true) (aj:(decide (0<=p) && decide (p<=100))=true) (dG:(decide (0<=r) && decide (r<=s))=true) :
  Calls Tryz.prog 21 #[.agg #[.int .i64 6,.int .i64 p,.int .i64 1,.int .i64 r,.int .i64 s]] w λ z w'=>z=.returned (.int .i64 0)/\Below w.heap.size w w':=by
 go_enter Tryz.func21,Tryz.ntmps21
 go_wp2_with (first
   | (go_at_call 59;have hq:=Z0;refine (jV r 0 s _).mono ?_;rintro r' w4 ⟨rfl,Hi⟩;rw[dG];subst Hi)
   | (go_at_call 59;refine (jV p 0 100 _).mono ?_;rintro r' w3 ⟨rfl,Bc⟩;rw[aj];subst Bc;have Z0:=j5)
   | (go_at_call 58;have hq:=b9;refine (zD r s _).mono ?_;rintro r' w2 ⟨rfl,j5⟩;rw[o9];obtain⟨p9,B8,B7⟩:=zU (w.heap.size+1) j8 j5)
   | (go_at_call 58;refine (zD p 1 _).mono ?_;rintro r' w1 ⟨rfl,b9⟩;rw[o8];obtain⟨j8,D7,A9⟩:=zU (w.heap.size+1) (by simp) b9))
 go_ret
 exact⟨rfl,zB (zB (bl1 _ _) b9) j5⟩
theorem zRI (k p q r s:Int) (w:World) :
  Calls Tryz.prog 21 #[.agg #[.int .i64 k,.int .i64 p,.int .i64 q,.int .i64 r,.int .i64 s]] w λ z w'=>z=.returned (.int .i64 (yD k p q r s))/\Below w.heap.size w w':=by
 by_cases h1:k<1
 ·rw[show yD k p q r s=6 by unfold yD;rw[if_pos (by omega)]];exact ref_k0 k p q r s w h1
 by_cases h7:7<k
 ·rw[show yD k p q r s=6 by unfold yD;rw[if_pos (by omega)]];exact ref_k8 k p q r s w (by omega) h7
 have n1:¬ (k<1\/7<k):=by omega
 cases o8:decide (rok p q)
 ·rw[show yD k p q r s=3 by unfold yD;rw[if_neg n1,if_pos (Or.inl (of_decide_eq_false o8))]];exact ref_r1 k p q r s w (by omega) (by omega) o8
 cases o9:decide (rok r s)
 ·rw[show yD k p q r s=3 by unfold yD;rw[if_neg n1,if_pos (Or.inr (of_decide_eq_false o9))]];exact ref_r2 k p q r s w (by omega) (by omega) o8 o9
 have L9:=of_decide_eq_true o8;have L4:=of_decide_eq_true o9;have n2:¬ (¬ rok p q\/¬ rok r s):=by simp[L9,L4]
 have hE:yD k p q r s=if zBI k=true/\¬ (r=0/\s=1) then 1 else if jP k p q r s=false then 3 else if zA1 k p q r s=true then 2 else 0:=by
  unfold yD;rw[if_neg n1,if_neg n2]
 rw[hE];clear hE;obtain⟨a1,a2,a3,a4⟩:=L9;obtain⟨b1,b2,b3,b4⟩:=L4;obtain rfl|rfl|rfl|rfl|rfl|rfl|rfl:k=1\/k=2\/k=3\/k=4\/k=5\/k=6\/k=7:=by omega
 ·rw[if_neg (λ h=>absurd h.1 (by decide))]
  by_cases c:r<=0
  ·rw[if_pos (by simp[jP];omega)];exact ref_n_1 p q r s w a1 a2 a3 a4 b1 b2 b3 b4 o8 o9 c
  rw[if_neg (by simp[jP];omega)]
  by_cases d:p<=100*q
  case neg=>rw[if_pos (by simp[zA1,zBI,jF];omega)];exact ref_m1_1 p q r s w a1 a2 a3 a4 b1 b2 b3 b4 o8 o9 (by omega) (by omega)
  by_cases d2 : -(100*q)<=p
  case neg=>rw[if_pos (by simp[zA1,zBI,jF];omega)];exact ref_m2_1 p q r s w a1 a2 a3 a4 b1 b2 b3 b4 o8 o9 (by omega) d (by omega)
  by_cases d3:r<=100*s
  case neg=>rw[if_pos (by simp[zA1,zBI,jF];omega)];exact ref_m3_1 p q r s w a1 a2 a3 a4 b1 b2 b3 b4 o8 o9 (by omega) d d2 (by omega)
  by_cases d4:s<=100*r
  case neg=>rw[if_pos (by simp[zA1,zBI,jF];omega)];exact ref_m4_1 p q r s w a1 a2 a3 a4 b1 b2 b3 b4 o8 o9 (by omega) d d2 d3 (by omega)
  rw[if_neg (by simp[zA1,zBI,jF];omega)];exact ref_o_1 p q r s w a1 a2 a3 a4 b1 b2 b3 b4 o8 o9 (by omega) d d2 d3 d4
 ·by_cases z0:r=0
  case neg=>rw[if_pos ⟨by decide,by omega⟩];exact ref_z0_2 p q r s w o8 o9 z0
  subst z0
  by_cases z1:s=1
  case neg=>rw[if_pos ⟨by decide,by omega⟩];exact ref_z1_2 p q s w o8 o9 z1
  subst z1;rw[if_neg (by omega)]
  by_cases c:p<=0
  ·rw[if_pos (by simp[jP];omega)];exact ref_n_2 p q w a1 a2 a3 a4 o8 o9 c
  rw[if_neg (by simp[jP];omega)]
  by_cases d:p<=100*q
  ·rw[if_neg (by simp[zA1,zBI,jF];omega)];exact ref_o_2 p q w a1 a2 a3 a4 o8 o9 (by omega) d
  ·rw[if_pos (by simp[zA1,zBI,jF];omega)];exact ref_m_2 p q w a1 a2 a3 a4 o8 o9 (by omega) (by omega)
 ·rw[if_neg (λ h=>absurd h.1 (by decide))]
  by_cases c0:p<=0
  ·rw[if_pos (by simp[jP];omega)];exact ref_p_3 p q r s w a1 a2 a3 a4 b1 b2 b3 b4 o8 o9 c0
  by_cases c:r<=0
  ·rw[if_pos (by simp[jP];omega)];exact ref_n_3 p q r s w a1 a2 a3 a4 b1 b2 b3 b4 o8 o9 (by omega) c
  rw[if_neg (by simp[jP];omega)]
  by_cases d:p<=100*q
  case neg=>rw[if_pos (by simp[zA1,zBI,jF];omega)];exact ref_m1_3 p q r s w a1 a2 a3 a4 b1 b2 b3 b4 o8 o9 (by omega) (by omega) (by omega)
  have d2 : -(100*q)<=p:=by omega
  by_cases d3:r<=100*s
  case neg=>rw[if_pos (by simp[zA1,zBI,jF];omega)];exact ref_m3_3 p q r s w a1 a2 a3 a4 b1 b2 b3 b4 o8 o9 (by omega) (by omega) d d2 (by omega)
  by_cases d4:s<=100*r
  case neg=>rw[if_pos (by simp[zA1,zBI,jF];omega)];exact ref_m4_3 p q r s w a1 a2 a3 a4 b1 b2 b3 b4 o8 o9 (by omega) (by omega) d d2 d3 (by omega)
  rw[if_neg (by simp[zA1,zBI,jF];omega)];exact ref_o_3 p q r s w a1 a2 a3 a4 b1 b2 b3 b4 o8 o9 (by omega) (by omega) d d2 d3 d4
 ·rw[if_neg (λ h=>absurd h.1 (by decide))]
  by_cases c0:p<=0
  ·rw[if_pos (by simp[jP];omega)];exact ref_p_4 p q r s w a1 a2 a3 a4 b1 b2 b3 b4 o8 o9 c0
  by_cases c:r<=0
  ·rw[if_pos (by simp[jP];omega)];exact ref_n_4 p q r s w a1 a2 a3 a4 b1 b2 b3 b4 o8 o9 (by omega) c
  rw[if_neg (by simp[jP];omega)]
  by_cases d:p<=100*q
  case neg=>rw[if_pos (by simp[zA1,zBI,jF];omega)];exact ref_m1_4 p q r s w a1 a2 a3 a4 b1 b2 b3 b4 o8 o9 (by omega) (by omega) (by omega)
  have d2 : -(100*q)<=p:=by omega
  by_cases d3:r<=100*s
  case neg=>rw[if_pos (by simp[zA1,zBI,jF];omega)];exact ref_m3_4 p q r s w a1 a2 a3 a4 b1 b2 b3 b4 o8 o9 (by omega) (by omega) d d2 (by omega)
  by_cases d4:s<=100*r
  case neg=>rw[if_pos (by simp[zA1,zBI,jF];omega)];exact ref_m4_4 p q r s w a1 a2 a3 a4 b1 b2 b3 b4 o8 o9 (by omega) (by omega) d d2 d3 (by omega)
  rw[if_neg (by simp[zA1,zBI,jF];omega)];exact ref_o_4 p q r s w a1 a2 a3 a4 b1 b2 b3 b4 o8 o9 (by omega) (by omega) d d2 d3 d4
 ·by_cases z0:r=0
  case neg=>rw[if_pos ⟨by decide,by omega⟩];exact ref_z0_5 p q r s w o8 o9 z0
  subst z0
  by_cases z1:s=1
  case neg=>rw[if_pos ⟨by decide,by omega⟩];exact ref_z1_5 p q s w o8 o9 z1
  subst z1;rw[if_neg (by omega)]
  by_cases c:p<=0
  ·rw[if_pos (by simp[jP];omega)];exact ref_n_5 p q w a1 a2 a3 a4 o8 o9 c
  rw[if_neg (by simp[jP];omega)]
  by_cases d:p<=100*q
  ·rw[if_neg (by simp[zA1,zBI,jF];omega)];exact ref_o_5 p q w a1 a2 a3 a4 o8 o9 (by omega) d
  ·rw[if_pos (by simp[zA1,zBI,jF];omega)];exact ref_m_5 p q w a1 a2 a3 a4 o8 o9 (by omega) (by omega)
 ·rw[if_neg (λ h=>absurd h.1 (by decide))]
  by_cases c:q=1
  case neg=>rw[if_pos (by simp[jP,c])];exact ref_q_6 p q r s w o8 o9 c
  subst c
  cases aj:(decide (0<=p) && decide (p<=100))
  ·rw[if_pos (by simp at aj;simp[jP];omega)];exact ref_b1_6 p r s w o8 o9 aj
  cases dG:(decide (0<=r) && decide (r<=s))
  ·rw[if_pos (by simp at dG;simp[jP];omega)];exact ref_b2_6 p r s w o8 o9 aj dG
  rw[if_neg (by simp at aj dG;simp[jP];omega),if_neg (by simp[zA1])];exact ref_o_6 p r s w o8 o9 aj dG
 ·by_cases z0:r=0
  case neg=>rw[if_pos ⟨by decide,by omega⟩];exact ref_z0_7 p q r s w o8 o9 z0
  subst z0
  by_cases z1:s=1
  case neg=>rw[if_pos ⟨by decide,by omega⟩];exact ref_z1_7 p q s w o8 o9 z1
  subst z1;rw[if_neg (by omega)]
  by_cases c:p<=0
  ·rw[if_pos (by simp[jP];omega)];exact ref_n_7 p q w a1 a2 a3 a4 o8 o9 c
  rw[if_neg (by simp[jP];omega)]
  by_cases d:p<=100*q
  ·rw[if_neg (by simp[zA1,zBI,jF];omega)];exact ref_o_7 p q w a1 a2 a3 a4 o8 o9 (by omega) d
  ·rw[if_pos (by simp[zA1,zBI,jF];omega)];exact ref_m_7 p q w a1 a2 a3 a4 o8 o9 (by omega) (by omega)
open Ex
theorem sub_w {x:Nat->Rat} {b:Nat} {L H:Int} (h:SuB x b L H):H-L<=8:=by
 have q:=zF b;have n:=h.v.nar;have l:=h.lo;have u:=h.hi;have e:=h.v.le;unfold zNC at n;have n':=of_decide_eq_true n;have m:zHK H (-L)<=Q b:=by unfold zHK;split<;>omega
 have m2:(H-L)*Q b<=8*Q b:=by
  have:=Yi (show Q b+zHK H (-L)<=2*Q b by omega) (show (0:Int)<=4 by decide)
  omega
 exact Int.le_of_mul_le_mul_right m2 q
theorem zRW {N D:Int} (hD:0<D) {b:Nat} {L H:Int} {x:Nat->Rat} (h:SuB x b L H) (hx:x=λ _=>(N:Rat)/(D:Rat)):L*D<=N*Q b/\N*Q b<=H*D:=by
 have v:=h.v.val;rw[hx] at v;obtain⟨h1,h2⟩:=Has.of_const v;have q:=jJ b;have d:(0:Rat)<(D:Rat):=by exact_mod_cast hD
 constructor
 ·have m:=Yf (Yf h1 (Yh q)) (Yh d)
  simp only[] at m;rw[rdm q] at m;have e:(N:Rat)/(D:Rat)*(Q b:Rat)*(D:Rat)=(N:Rat)/(D:Rat)*(D:Rat)*(Q b:Rat):=by grind
  rw[e,rdm d,<- Ym,<- Ym] at m
  exact_mod_cast m
 ·have m:=Yf (Yf h2 (Yh q)) (Yh d)
  simp only[] at m;rw[rdm q] at m;have e:(N:Rat)/(D:Rat)*(Q b:Rat)*(D:Rat)=(N:Rat)/(D:Rat)*(D:Rat)*(Q b:Rat):=by grind
  rw[e,rdm d,<- Ym,<- Ym] at m
  exact_mod_cast m
theorem q_two {R R2:Nat->Rat} {L G:Rat->Nat->Rat} {j:Nat} (h:QAt (λ z=>lbX R R2 L G 6 3 1 1 2 z (Q 0)) (qLo 6 0) (qHi 6 0) 3 5 20 j):j=2:=by
 have lo:qLo 6 0=0:=rfl;have hi:qHi 6 0=100:=rfl;have tB:Q 20=1048576:=rfl;obtain⟨h1,h2,h3⟩:=h;rw[lo] at h1 h2 h3;rw[hi] at h1 h3
 have ex:∀ z:Int,lbX R R2 L G 6 3 1 1 2 z (Q 0)=λ _=>((zCJ (zD6 (3:Nat) 1 2) (coN 3 z 1):Int):Rat)/((8:Int):Rat):=λ z=>by
  have:lbX R R2 L G 6 3 1 1 2 z (Q 0)=coX (3:Int).toNat 1 2 z (Q 0):=by unfold lbX;rfl
  rw[this];rfl
 have c1:zCJ (zD6 (3:Nat) 1 2) (coN 3 0 1)=1:=by decide
 have c2:zCJ (zD6 (3:Nat) 1 2) (coN 3 1 1)=4:=by decide
 have c3:zCJ (zD6 (3:Nat) 1 2) 3=7:=by decide
 have c4:zCJ (zD6 (3:Nat) 1 2) 4=8:=by decide
 rcases (show j=0\/j=1\/j=2\/3<=j by omega) with rfl|rfl|rfl|hj
 ·obtain⟨a,b,s,t⟩:=h3 (by omega)
  have w:=sub_w s;have v:=(zRW (N:=1) (D:=8) (by decide) s (by have:=ex 0;rw[c1] at this;exact this)).1
  rw[tB] at *;omega
 ·obtain⟨a,b,s,t⟩:=h3 (by omega)
  have w:=sub_w s;have v:=(zRW (N:=4) (D:=8) (by decide) s (by have:=ex 1;rw[c2] at this;exact this)).1
  rw[tB] at *;omega
 ·rfl
 ·obtain⟨a,b,s,t⟩:=h2 (by omega)
  have w:=sub_w s
  have cN:7<=zCJ (zD6 (3:Nat) 1 2) (coN 3 (0+(j:Int)-1) 1):=by
   by_cases c:j=3
   ·subst c;decide
   ·have e:coN 3 (0+(j:Int)-1) 1=4:=by unfold coN;rw[Int.ediv_one];omega
    rw[e,c4];decide
  have v:=(zRW (N:=zCJ (zD6 (3:Nat) 1 2) (coN 3 (0+(j:Int)-1) 1)) (D:=8) (by decide) s (ex _)).2
  rw[tB] at *;omega
theorem zEH (w:World):Calls Tryz.prog 30 #[] w λ z w'=>z=.returned (.bool true)/\Below w.heap.size w w':=by
 obtain⟨R,R2,L0,GG,X,hE⟩:=Qi;have HE:=zC hE;clear hE
 go_enter Tryz.func30,Tryz.ntmps30
 go_wp2_with fail;refine (zL1 (zA HE) _ 6 3 1 1 2 3 5 0 20 (by decide)).mono ?_
 rintro z w1 ⟨j,rfl,hq,b9⟩;have hj:=q_two hq;subst hj;clear hq;have e2:qLo 6 0+((2:Nat):Int)=2:=rfl;rw[e2];clear e2;go_wp2_with fail
 go_ret
 exact⟨rfl,b9⟩
theorem zGB (w:World) (k p q r s pn pd st b:Int) :
  Calls Tryz.prog 29 #[.agg #[.int .i64 k,.int .i64 p,.int .i64 q,.int .i64 r,.int .i64 s],.agg #[.int .i64 pn,.int .i64 pd],.int .i64 st,.int .i64 b] w λ z w'=>z=.returned (.int .i64 (qE k p q r s pn pd st b))/\Below w.heap.size w w':=by
 unfold qE
 by_cases h0:yD k p q r s=0
 case neg =>
  rw[if_pos h0];obtain⟨e,he⟩:∃ e,e=yD k p q r s:=⟨_,rfl⟩;have HE:=zC he;have h1:(e == 0)=false:=by simp[he,h0]
  rw[<- he];clear h0 he
  go_enter Tryz.func29,Tryz.ntmps29
  go_wp2_with fail;refine (zRI k p q r s _).mono ?_;rintro z w1 ⟨rfl,b9⟩;rw[<- zA HE];go_wp2_with fail
  go_ret
  exact⟨rfl,zB (bl2 _ _ _) b9⟩
 rw[if_neg (by simp[h0])]
 have E0:=zC h0;obtain⟨X,hX⟩:∃ X,X=(if zD0 pn pd b≠0 then zD0 pn pd b else if pn<0\/pd<pn\/st<0\/6<st then 3 else if zHX k=true/\st≠0 then 6 else 0):=⟨_,rfl⟩
 have Wz:=(zA2 h0).1;have HX:=zC hX;rw[<- hX];clear h0 hX
 go_enter Tryz.func29,Tryz.ntmps29
 go_wp2_with fail;refine (zRI k p q r s _).mono ?_;rintro z w1 ⟨rfl,b9⟩;rw[zA E0];have A:LwC w1 w.heap.size k p q r s:=LwC.bw ⟨by simp[go_sem],by simp[go_sem],by simp[go_sem],by simp[go_sem],by simp[go_sem]⟩ b9
 have D:RaC w1 (w.heap.size+1) pn pd:=RaC.bw ⟨by simp[go_sem],by simp[go_sem]⟩ b9
 have hB:Below w.heap.size w w1:=zB (bl2 _ _ _) b9;clear b9;have d0:=D.c0;have d1:=D.c1;have lD:=D.lt;go_wp2_with fail;refine (zRH b w1 _ (by simp) pn pd _ _).mono ?_
 rintro z w2 ⟨rfl,j5⟩;replace A:=A.bw j5;replace D:=D.bw j5;replace hB:=zB hB j5;clear j5 d0 d1 lD;obtain⟨d0,d1⟩:=D;have a0:=A.c0;have lA:=A.lt;have lD:w.heap.size+1<w2.heap.size:=World.block_lt_of_cell? w2 ⟨w.heap.size+1,0,none⟩ d0;have hx:=zA HX;clear A HX
 by_cases h1:zD0 pn pd b=0
 case neg =>
  rw[if_pos h1] at hx;obtain⟨e,he⟩:∃ e,e=zD0 pn pd b:=⟨_,rfl⟩;have h2:(e == 0)=false:=by simp[he,h1]
  rw[<- he];rw[<- he] at hx;have HX:=zC hx;clear hx he h1;go_wp2_with fail
  go_ret
  exact⟨by rw[zA HX];rfl,hB⟩
 rw[if_neg (by simp[h1])] at hx
 rw[h1];clear h1
 by_cases g:pn<0\/pd<pn\/st<0\/6<st
 case pos =>
  rw[if_pos g] at hx;have HX:=zC hx;clear hx
  by_cases g1:pn<0
  ·go_wp2_with fail
   go_ret
   exact⟨by rw[zA HX];rfl,hB⟩
  by_cases g2:pd<pn
  ·go_wp2_with fail
   go_ret
   exact⟨by rw[zA HX];rfl,hB⟩
  have Z0:(decide (0<=st) && decide (st<=6))=false:=by
   by_cases g3:0<=st
   ·rw[decide_eq_true g3,decide_eq_false (by omega)];rfl
   ·rw[decide_eq_false g3];rfl
  have aY:=zC Z0;clear g Z0;go_wp2_with fail;refine (jV st 0 6 _).mono ?_;rintro z w3 ⟨rfl,hw⟩;rw[zA aY];have hw':=hw.symm;subst hw';go_wp2_with fail
  go_ret
  exact⟨by rw[zA HX];rfl,hB⟩
 rw[if_neg g] at hx;have g1:¬ pn<0:=by omega
 have g2:¬ pd<pn:=by omega
 have aY:=zC (show (decide (0<=st) && decide (st<=6))=true by rw[decide_eq_true (show 0<=st by omega),decide_eq_true (show st<=6 by omega)];rfl)
 have Ar:zHX k=decide (6<=k):=by
  unfold zHX
  by_cases c6:6<=k
  ·rw[decide_eq_true c6]
   rcases (show k=6\/k=7 by omega) with rfl|rfl<;>rfl
  ·rw[decide_eq_false c6]
   have n6:(k == 6)=false:=by simp;omega
   have n7:(k == 7)=false:=by simp;omega
   rw[n6,n7];rfl
 clear g;go_wp2_with fail;refine (jV st 0 6 _).mono ?_;rintro z w3 ⟨rfl,hw⟩;rw[zA aY];have hw':=hw.symm;subst hw'
 by_cases c6:6<=k
 ·rw[Ar,decide_eq_true c6] at hx
  by_cases hs:st=0
  ·rw[if_neg (by simp[hs])] at hx
   have hs1:(st != 0)=false:=by simp[hs]
   have HX:=zC hx;clear Ar hx;go_wp2_with fail
   go_ret
   exact⟨by rw[zA HX];rfl,hB⟩
  ·rw[if_pos ⟨rfl,hs⟩] at hx
   have hs1:(st != 0)=true:=by simp[hs]
   have HX:=zC hx;clear Ar hx;go_wp2_with fail
   go_ret
   exact⟨by rw[zA HX];rfl,hB⟩
 ·rw[Ar,decide_eq_false c6,if_neg (by simp)] at hx
  have HX:=zC hx;clear Ar hx;go_wp2_with fail
  go_ret
  exact⟨by rw[zA HX];rfl,hB⟩
theorem zIW {R R2:Nat->Rat} {L G:Rat->Nat->Rat} {X:Int->Int->Nat->Rat} (hE:LEnv R R2 L G X) (w:World) (k p q r s pn pd st b:Int) :
  Calls Tryz.prog 27 #[.agg #[.int .i64 k,.int .i64 p,.int .i64 q,.int .i64 r,.int .i64 s],.agg #[.int .i64 pn,.int .i64 pd],.int .i64 st,.int .i64 b] w λ z w'=>∃ n e,z=.returned (.tuple #[.int .i64 n,.int .i64 e])/\(e=qE k p q r s pn pd st b/\(qE k p q r s pn pd st b≠0->n=0))/\Below w.heap.size w w':=by
 by_cases h:qE k p q r s pn pd st b=0
 ·obtain⟨_,⟨_,b8,_⟩,⟨_,_,s0,_⟩,_⟩:=zRF h
  obtain⟨B,rfl⟩:∃ B:Nat,b=(B:Int):=⟨b.toNat,by omega⟩
  obtain⟨S,rfl⟩:∃ S:Nat,st=(S:Int):=⟨st.toNat,by omega⟩
  exact (zL1 hE w k p q r s pn pd S B h).mono λ z w' ⟨j,e1,e2,e3⟩=>⟨_,_,e1,⟨h.symm,λ c=>absurd h c⟩,e3⟩
 ·exact (zRG w k p q r s pn pd st b _ rfl h).mono λ z w' ⟨e1,e2⟩=>⟨_,_,e1,⟨rfl,λ _=>rfl⟩,e2⟩
theorem zDW (k p q r s pn pd st b:Int) (w:World) :
  Calls Tryz.prog 5 #[.agg #[.int .i64 k,.int .i64 p,.int .i64 q,.int .i64 r,.int .i64 s],.agg #[.int .i64 pn,.int .i64 pd],.int .i64 st,.int .i64 b] w λ z w'=>z=.returned (.bool true)/\Below w.heap.size w w':=by
 obtain⟨R,R2,L0,GG,X,hE⟩:=Qi;obtain⟨E,FG⟩:∃ E,E=qE k p q r s pn pd st b:=⟨_,rfl⟩;obtain⟨V,FO⟩:∃ V,V=qE k p q r s 1 2 st b:=⟨_,rfl⟩;have cm:=zC (show ∀ w',Calls Tryz.prog 27 #[.agg #[.int .i64 k,.int .i64 p,.int .i64 q,.int .i64 r,.int .i64 s],.agg #[.int .i64 pn,.int .i64 pd],.int .i64 st,.int .i64 b] w' λ z J2=>∃ n e,z=.returned (.tuple #[.int .i64 n,.int .i64 e])/\(e=E/\(E≠0->n=0))/\Below w'.heap.size w' J2 from λ w'=>by rw[FG];exact zIW hE w' k p q r s pn pd st b)
 have gm:=zC (show ∀ w',Calls Tryz.prog 28 #[.agg #[.int .i64 k,.int .i64 p,.int .i64 q,.int .i64 r,.int .i64 s],.int .i64 st,.int .i64 b] w' λ z J2=>∃ n e,z=.returned (.tuple #[.int .i64 n,.int .i64 e])/\(e=V/\(V≠0->n=0))/\Below w'.heap.size w' J2 from λ w'=>zQO w' k p q r s st b (λ n e=>e=V/\(V≠0->n=0)) λ w3=>by rw[FO];exact zIW hE w3 k p q r s 1 2 st b)
 have LM:=zC (show ∀ w',Calls Tryz.prog 29 #[.agg #[.int .i64 k,.int .i64 p,.int .i64 q,.int .i64 r,.int .i64 s],.agg #[.int .i64 pn,.int .i64 pd],.int .i64 st,.int .i64 b] w' λ z J2=>z=.returned (.int .i64 E)/\Below w'.heap.size w' J2 from λ w'=>by rw[FG];exact zGB w' k p q r s pn pd st b)
 have LN:=zC (show ∀ w',Calls Tryz.prog 29 #[.agg #[.int .i64 k,.int .i64 p,.int .i64 q,.int .i64 r,.int .i64 s],.agg #[.int .i64 1,.int .i64 2],.int .i64 st,.int .i64 b] w' λ z J2=>z=.returned (.int .i64 V)/\Below w'.heap.size w' J2 from λ w'=>by rw[FO];exact zGB w' k p q r s 1 2 st b)
 clear FG FO hE;obtain⟨W,hW⟩:∃ W,W=(w.alloc (.cells #[.int .i64 k,.int .i64 p,.int .i64 q,.int .i64 r,.int .i64 s] 25)).alloc (.cells #[.int .i64 pn,.int .i64 pd] 23):=⟨_,rfl⟩;have j6:Below w.heap.size w W:=by rw[hW];exact bl2 _ _ _
 have A:LwC W w.heap.size k p q r s:=by rw[hW];constructor<;>simp[go_sem]
 have G:RaC W (w.heap.size+1) pn pd:=by rw[hW];constructor<;>simp[go_sem]
 go_enter Tryz.func5,Tryz.ntmps5
 go_wp2_with fail;rw[<- hW];clear hW;refine (zA cm _).mono ?_;rintro z w3 ⟨n1,e1,rfl,⟨rfl,eZ⟩,dZ⟩;replace A:=A.bw dZ;replace G:=G.bw dZ;replace j6:=zB j6 dZ;have xB:=zC eZ;clear dZ eZ;have Fv:=A.c0;have Fw:=A.c1;have Ts:=A.c2;have Tt:=A.c3;have Tv:=A.c4;have fAl:=A.lt;go_wp2_with fail;clear Fv Fw Ts Tt Tv fAl;refine (zA gm _).mono ?_;rintro z w4 ⟨n2,e2,rfl,⟨rfl,bL⟩,dZ⟩;replace A:=A.bw dZ;replace G:=G.bw dZ;replace j6:=zB j6 dZ;have vL:=zC bL;clear dZ bL
 go_upto_region 3 with fail
 have HK:=zC (show ∀ w',Below w4.heap.size w4 w'->(rK w' w.heap.size k p (w'.cell? ⟨w.heap.size,2,none⟩=some (.int .i64 q)/\w'.cell? ⟨w.heap.size,3,none⟩=some (.int .i64 r)/\w'.cell? ⟨w.heap.size,4,none⟩=some (.int .i64 s)/\rK0 w' (w.heap.size+1) pn pd)) from λ w' hB=>⟨(A.bw hB).c0,(A.bw hB).c1,(A.bw hB).c2,(A.bw hB).c3,(A.bw hB).c4,(G.bw hB).c0,(G.bw hB).c1⟩)
 have lA:=A.lt;have lG:=G.lt;have D8:Below w4.heap.size w4 w4.drew:=(Below.refl _ _).drew;clear A G;obtain⟨x0,x1,x2,x3,x4,x5,x6⟩:=zA HK _ (Below.refl _ _)
 go_cut [13,14] (λ p1 p2 wx=>p1=.int .i64 e1/\p2=.int .i64 e2/\Below w4.heap.size w4 wx)
 case first =>
  go_region_held3 (λ w'=>rK w' w.heap.size k p (w'.cell? ⟨w.heap.size,2,none⟩=some (.int .i64 q)/\w'.cell? ⟨w.heap.size,3,none⟩=some (.int .i64 r)/\w'.cell? ⟨w.heap.size,4,none⟩=some (.int .i64 s)/\rK0 w' (w.heap.size+1) pn pd)) (first|exact zA HK _ (by with_reducible first|exact D8|exact A6|exact y9)|(dsimp only[cK,cK0,nK,nK0,rK,rK0];go_keep)|go_keep)
   (first
    | (go_at_call 29;have K9:=y9;refine (zA LN _).mono ?_;rintro zz v2 ⟨rfl,j5⟩;have A6:=zB y9 j5)
    | (go_at_call 29;refine (zA LM _).mono ?_;rintro zz v1 ⟨rfl,b9⟩;have y9:=zB D8 b9))
  all_goals
   go_wp2_with fail;go_meet;exact⟨rfl,rfl,A6⟩
 case rest =>
 obtain⟨rfl,rfl,dZ⟩:=hcut;replace j6:=zB j6 dZ;clear dZ x0 x1 x2 x3 x4 x5 x6 HK lA lG D8 LM LN cm gm;go_wp2_with fail;refine (zEH _).mono ?_;rintro z w6 ⟨rfl,dZ⟩;replace j6:=zB j6 dZ;clear dZ;have c1:(e1 == e1)=true:=by simp
 have c2:(e2 == e2)=true:=by simp
 by_cases h1:e1=0
 ·have d1:(e1 == 0)=true:=by simp[h1]
  by_cases h2:e2=0
  ·have d2:(e2 == 0)=true:=by simp[h2]
   clear h1 h2 xB vL;go_wp2_with fail
   go_ret
   exact⟨rfl,j6⟩
  ·have d2:(e2 == 0)=false:=by simp[h2]
   have d3:(n2 == 0)=true:=by have:=zA vL h2;simp[this]
   clear h1 h2 xB vL;go_wp2_with fail
   go_ret
   exact⟨rfl,j6⟩
 ·have d1:(e1 == 0)=false:=by simp[h1]
  have d4:(n1 == 0)=true:=by have:=zA xB h1;simp[this]
  by_cases h2:e2=0
  ·have d2:(e2 == 0)=true:=by simp[h2]
   clear h1 h2 xB vL;go_wp2_with fail
   go_ret
   exact⟨rfl,j6⟩
  ·have d2:(e2 == 0)=false:=by simp[h2]
   have d3:(n2 == 0)=true:=by have:=zA vL h2;simp[this]
   clear h1 h2 xB vL;go_wp2_with fail
   go_ret
   exact⟨rfl,j6⟩
open Go.ChangeShapes Go.WideShapes Go.ChangeAt Go.RowKit
theorem Tryz.own:ownKnob Tryz.prog.godebug=none:=by kernel_rfl
theorem Tryz.laidOut:laidOutB Tryz.prog=true:=by kernel_rfl
theorem Tryz.cellsI:Tryz.prog.cellsOf 3=1:=by kernel_rfl
end Go.Proofs.YtgmnknmjainabacGreat
