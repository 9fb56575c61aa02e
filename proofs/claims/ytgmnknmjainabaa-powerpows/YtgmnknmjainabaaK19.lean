/-
  tailsurelaw.PowerPows returns true of whatever two ratios and bits.
  How a span that is handed to a statement is opened: its ends' digits, within the form's own reach; no statement of the seat is proved here.
-/
import Derived.Test.YtgmnknmjainabaaRows
import Derived.ProofKit
import Derived.OpenShut
import Derived.SizedLaws
import Derived.ChangeOld
import Derived.Test.YtgmnknmjainabaaK18
namespace Go.Proofs.Ytgmnknmjainabaa
set_option linter.unusedVariables false
set_option linter.unusedSimpArgs false
set_option linter.unnecessarySimpa false
open Go.RowKit
attribute [local go_sem ↓] Go.wp_at_zero Go.wp_at_succ

theorem refReady2 (bt : Int) (w : World) (B : Nat) (hB : w.heap.size = B) (p q kn kd : Int) (T : TypeId) (cap : Nat) :
    Calls Try.prog 55 #[.int .i64 bt, .slice (some ⟨B, 0, none⟩) 2 cap] (w.alloc (.cells #[.int .i64 p, .int .i64 q, .int .i64 kn, .int .i64 kd] T)) fun r w' =>
      r = .returned (.int .i64 (ratE2 p q kn kd bt)) ∧ Below w.heap.size w w' := by
  subst hB
  exact (refReady_any bt w.heap.size 2 cap _ _ _ (rats2 w p q kn kd T) (by omega)).mono fun r w' ⟨z, h1, h2, h3⟩ =>
    ⟨by rw [h1, rat2_of h2], (bl1 _ _).trans (h3.mono (by simp))⟩
def far100 (p q : Int) : Bool := decide (100 * q < p) || decide (p < -100 * q)

set_option maxRecDepth 100000 in
set_option maxHeartbeats 2000000 in
theorem lawFar100 (p q : Int) (w : World) (h : rok p q) :
    Calls Try.prog 56 #[.agg #[.int .i64 p, .int .i64 q], .int .i64 100] w fun r w' => r = .returned (.bool (far100 p q)) ∧ Below w.heap.size w w' := by
  obtain ⟨r1, r2, r3, r4⟩ := h
  by_cases h1 : 100 * q < p
  · have HE := hide (show far100 p q = true by unfold far100; simp; omega)
    go_enter Try.func56, Try.ntmps56
    go_wp2_with fail
    go_ret
    exact ⟨by rw [unhide HE]; rfl, bl1 _ _⟩
  by_cases h2 : p < -100 * q
  · have HE := hide (show far100 p q = true by unfold far100; simp; omega)
    go_enter Try.func56, Try.ntmps56
    go_wp2_with fail
    go_ret
    exact ⟨by rw [unhide HE]; rfl, bl1 _ _⟩
  · have HE := hide (show far100 p q = false by unfold far100; simp; omega)
    go_enter Try.func56, Try.ntmps56
    go_wp2_with fail
    go_ret
    exact ⟨by rw [unhide HE]; rfl, bl1 _ _⟩

set_option maxRecDepth 100000 in
set_option maxHeartbeats 600000 in
theorem law_powerPows_bad (p q kn kd bt : Int) (w : World) (h : ¬ ((rok p q ∧ rok kn kd) ∧ 8 ≤ bt ∧ bt ≤ 120)) :
    Calls Try.prog 11 #[.agg #[.int .i64 p, .int .i64 q], .agg #[.int .i64 kn, .int .i64 kd], .int .i64 bt] w fun z w' => z = .returned (.bool true) ∧ Below w.heap.size w w' := by
  have d1 : ratE2 p q kn kd bt = 3 := by unfold ratE2; rw [if_neg h]
  go_enter Try.func11, Try.ntmps11
  go_wp2_with fail
  obtain ⟨W, hW⟩ : ∃ W, W = (w.alloc (.cells #[.int .i64 p, .int .i64 q] 28)).alloc (.cells #[.int .i64 kn, .int .i64 kd] 28) := ⟨_, rfl⟩
  have hB : Below w.heap.size w W := by rw [hW]; exact bl2 _ _ _
  have A : RaC W w.heap.size p q := by rw [hW]; exact ⟨by simp [go_sem], by simp [go_sem]⟩
  have C : RaC W (w.heap.size + 1) kn kd := by rw [hW]; exact ⟨by simp [go_sem], by simp [go_sem]⟩
  rw [← hW]
  clear hW
  refine (powerPow_bad p q kn kd bt _ h).mono ?_
  rintro r' w1 ⟨s1, rfl, hsb1, hs1, hb1⟩
  have HB1 := hide hsb1
  clear hsb1
  clear h
  replace hB := bthen hB hb1
  replace A := A.below hb1
  replace C := C.below hb1
  clear hb1
  obtain ⟨V1, hV1⟩ : ∃ V1, V1 = w1.alloc (.cells #[.bool s1.ln, .slice s1.la s1.lN s1.lc, .bool s1.hn, .slice s1.ha s1.hN s1.hc, .int .i64 s1.bits] 26) := ⟨_, rfl⟩
  have bV1 : Below w1.heap.size w1 V1 := by rw [hV1]; exact bl1 _ _
  have S1 : SpC V1 w1.heap.size s1 := by rw [hV1]; exact spc_new w1 s1 _
  replace hs1 := hs1.below bV1
  replace hB := bthen hB bV1
  have A0 := A
  have C0 := C
  have lA := A0.lt
  have lC := C0.lt
  replace A := A.below bV1
  replace C := C.below bV1
  clear bV1
  obtain ⟨x0, x1⟩ := A0
  obtain ⟨y0, y1⟩ := C0
  have hsz : V1.heap.size = w1.heap.size + 1 := by rw [hV1]; simp
  go_wp2_with fail
  rw [← hV1]
  clear hV1 x0 x1 y0 y1
  refine (refReady2 bt _ _ hsz p q kn kd _ _).mono ?_
  rintro r' w2 ⟨rfl, hb2⟩
  rw [d1]
  replace hB := bthen hB hb2
  replace S1 := S1.below hb2
  replace hs1 := hs1.below hb2
  replace A := A.below hb2
  replace C := C.below hb2
  clear hb2
  have lA2 := A.lt
  have lC2 := C.lt
  have lS2 := S1.lt
  go_wp2_with fail
  refine (powerBegun_any _).mono ?_
  rintro r' w4 ⟨rfl, hb4⟩
  replace hB := bthen hB hb4
  replace S1 := S1.below hb4
  replace hs1 := hs1.below hb4
  clear hb4
  obtain ⟨z0, z1, z2, z3, z4⟩ := S1
  go_wp2_with fail
  refine (lawSure_bad _ s1 ⟨false, none, 0, 0, false, none, 0, 0, 0⟩ _ _ _ hs1 (unhide HB1) (by omega)).mono ?_
  rintro r' w5 ⟨rfl, hb5⟩
  go_wp2_with fail
  go_ret
  exact ⟨rfl, bthen hB hb5⟩

set_option maxRecDepth 100000 in
set_option maxHeartbeats 600000 in
theorem law_powerPows_none (p q kn kd bt : Int) (w : World) (hr : rok p q) (hrk : rok kn kd) (h5 : 8 ≤ bt) (h6 : bt ≤ 120) (h : p ≤ 0) :
    Calls Try.prog 11 #[.agg #[.int .i64 p, .int .i64 q], .agg #[.int .i64 kn, .int .i64 kd], .int .i64 bt] w fun z w' => z = .returned (.bool true) ∧ Below w.heap.size w w' := by
  have d1 : ratE2 p q kn kd bt = 0 := by unfold ratE2; rw [if_pos]; exact ⟨⟨hr, hrk⟩, by omega, by omega⟩
  have HR := hide hr
  have HRK := hide hrk
  have r1 := hr.1
  have r2 := hr.2.1
  have r3 := hr.2.2.1
  have r4 := hr.2.2.2
  go_enter Try.func11, Try.ntmps11
  go_wp2_with fail
  obtain ⟨W, hW⟩ : ∃ W, W = (w.alloc (.cells #[.int .i64 p, .int .i64 q] 28)).alloc (.cells #[.int .i64 kn, .int .i64 kd] 28) := ⟨_, rfl⟩
  have hB : Below w.heap.size w W := by rw [hW]; exact bl2 _ _ _
  have A : RaC W w.heap.size p q := by rw [hW]; exact ⟨by simp [go_sem], by simp [go_sem]⟩
  have C : RaC W (w.heap.size + 1) kn kd := by rw [hW]; exact ⟨by simp [go_sem], by simp [go_sem]⟩
  rw [← hW]
  clear hW
  refine (powerPow_none p q kn kd bt _ hr hrk h5 h6 h).mono ?_
  rintro r' w1 ⟨s1, rfl, hsb1, hs1, hb1⟩
  have HB1 := hide hsb1
  clear hsb1
  clear hr hrk
  replace hB := bthen hB hb1
  replace A := A.below hb1
  replace C := C.below hb1
  clear hb1
  obtain ⟨V1, hV1⟩ : ∃ V1, V1 = w1.alloc (.cells #[.bool s1.ln, .slice s1.la s1.lN s1.lc, .bool s1.hn, .slice s1.ha s1.hN s1.hc, .int .i64 s1.bits] 26) := ⟨_, rfl⟩
  have bV1 : Below w1.heap.size w1 V1 := by rw [hV1]; exact bl1 _ _
  have S1 : SpC V1 w1.heap.size s1 := by rw [hV1]; exact spc_new w1 s1 _
  replace hs1 := hs1.below bV1
  replace hB := bthen hB bV1
  have A0 := A
  have C0 := C
  have lA := A0.lt
  have lC := C0.lt
  replace A := A.below bV1
  replace C := C.below bV1
  clear bV1
  obtain ⟨x0, x1⟩ := A0
  obtain ⟨y0, y1⟩ := C0
  have hsz : V1.heap.size = w1.heap.size + 1 := by rw [hV1]; simp
  go_wp2_with fail
  rw [← hV1]
  clear hV1 x0 x1 y0 y1
  refine (refReady2 bt _ _ hsz p q kn kd _ _).mono ?_
  rintro r' w2 ⟨rfl, hb2⟩
  rw [d1]
  replace hB := bthen hB hb2
  replace S1 := S1.below hb2
  replace hs1 := hs1.below hb2
  replace A := A.below hb2
  replace C := C.below hb2
  clear hb2
  have lA2 := A.lt
  have lC2 := C.lt
  have lS2 := S1.lt
  have A0 := A
  obtain ⟨x0, x1⟩ := A0
  have C0 := C
  obtain ⟨y0, y1⟩ := C0
  go_wp2_with fail
  refine (powerBegun_any _).mono ?_
  rintro r' w4 ⟨rfl, hb4⟩
  replace hB := bthen hB hb4
  replace S1 := S1.below hb4
  replace hs1 := hs1.below hb4
  clear hb4
  obtain ⟨z0, z1, z2, z3, z4⟩ := S1
  go_wp2_with fail
  refine (lawSure_bad _ s1 ⟨false, none, 0, 0, false, none, 0, 0, 0⟩ _ _ _ hs1 (unhide HB1) (by omega)).mono ?_
  rintro r' w5 ⟨rfl, hb5⟩
  go_wp2_with fail
  go_ret
  exact ⟨rfl, bthen hB hb5⟩

set_option maxRecDepth 100000 in
set_option maxHeartbeats 600000 in
theorem law_powerPows_manyA (p q kn kd bt : Int) (w : World) (hr : rok p q) (hrk : rok kn kd) (h5 : 8 ≤ bt) (h6 : bt ≤ 120) (hp : 0 < p) (h : 16 * p < q) :
    Calls Try.prog 11 #[.agg #[.int .i64 p, .int .i64 q], .agg #[.int .i64 kn, .int .i64 kd], .int .i64 bt] w fun z w' => z = .returned (.bool true) ∧ Below w.heap.size w w' := by
  have d1 : ratE2 p q kn kd bt = 0 := by unfold ratE2; rw [if_pos]; exact ⟨⟨hr, hrk⟩, by omega, by omega⟩
  have HR := hide hr
  have HRK := hide hrk
  have r1 := hr.1
  have r2 := hr.2.1
  have r3 := hr.2.2.1
  have r4 := hr.2.2.2
  have hp' : ¬ p ≤ 0 := by omega
  go_enter Try.func11, Try.ntmps11
  go_wp2_with fail
  obtain ⟨W, hW⟩ : ∃ W, W = (w.alloc (.cells #[.int .i64 p, .int .i64 q] 28)).alloc (.cells #[.int .i64 kn, .int .i64 kd] 28) := ⟨_, rfl⟩
  have hB : Below w.heap.size w W := by rw [hW]; exact bl2 _ _ _
  have A : RaC W w.heap.size p q := by rw [hW]; exact ⟨by simp [go_sem], by simp [go_sem]⟩
  have C : RaC W (w.heap.size + 1) kn kd := by rw [hW]; exact ⟨by simp [go_sem], by simp [go_sem]⟩
  rw [← hW]
  clear hW
  refine (powerPow_many p q kn kd bt _ hr hrk h5 h6 hp (fun h2 => by omega)).mono ?_
  rintro r' w1 ⟨s1, rfl, hsb1, hs1, hb1⟩
  have HB1 := hide hsb1
  clear hsb1
  clear hr hrk
  replace hB := bthen hB hb1
  replace A := A.below hb1
  replace C := C.below hb1
  clear hb1
  obtain ⟨V1, hV1⟩ : ∃ V1, V1 = w1.alloc (.cells #[.bool s1.ln, .slice s1.la s1.lN s1.lc, .bool s1.hn, .slice s1.ha s1.hN s1.hc, .int .i64 s1.bits] 26) := ⟨_, rfl⟩
  have bV1 : Below w1.heap.size w1 V1 := by rw [hV1]; exact bl1 _ _
  have S1 : SpC V1 w1.heap.size s1 := by rw [hV1]; exact spc_new w1 s1 _
  replace hs1 := hs1.below bV1
  replace hB := bthen hB bV1
  have A0 := A
  have C0 := C
  have lA := A0.lt
  have lC := C0.lt
  replace A := A.below bV1
  replace C := C.below bV1
  clear bV1
  obtain ⟨x0, x1⟩ := A0
  obtain ⟨y0, y1⟩ := C0
  have hsz : V1.heap.size = w1.heap.size + 1 := by rw [hV1]; simp
  go_wp2_with fail
  rw [← hV1]
  clear hV1 x0 x1 y0 y1
  refine (refReady2 bt _ _ hsz p q kn kd _ _).mono ?_
  rintro r' w2 ⟨rfl, hb2⟩
  rw [d1]
  replace hB := bthen hB hb2
  replace S1 := S1.below hb2
  replace hs1 := hs1.below hb2
  replace A := A.below hb2
  replace C := C.below hb2
  clear hb2
  have lA2 := A.lt
  have lC2 := C.lt
  have lS2 := S1.lt
  have A0 := A
  obtain ⟨x0, x1⟩ := A0
  have C0 := C
  obtain ⟨y0, y1⟩ := C0
  go_wp2_with fail
  refine (powerBegun_any _).mono ?_
  rintro r' w4 ⟨rfl, hb4⟩
  replace hB := bthen hB hb4
  replace S1 := S1.below hb4
  replace hs1 := hs1.below hb4
  clear hb4
  obtain ⟨z0, z1, z2, z3, z4⟩ := S1
  go_wp2_with fail
  refine (lawSure_bad _ s1 ⟨false, none, 0, 0, false, none, 0, 0, 0⟩ _ _ _ hs1 (unhide HB1) (by omega)).mono ?_
  rintro r' w5 ⟨rfl, hb5⟩
  go_wp2_with fail
  go_ret
  exact ⟨rfl, bthen hB hb5⟩

set_option maxRecDepth 100000 in
set_option maxHeartbeats 600000 in
theorem law_powerPows_manyB (p q kn kd bt : Int) (w : World) (hr : rok p q) (hrk : rok kn kd) (h5 : 8 ≤ bt) (h6 : bt ≤ 120) (hp : 0 < p) (h0 : ¬ 16 * p < q) (h : 16 * q < p) :
    Calls Try.prog 11 #[.agg #[.int .i64 p, .int .i64 q], .agg #[.int .i64 kn, .int .i64 kd], .int .i64 bt] w fun z w' => z = .returned (.bool true) ∧ Below w.heap.size w w' := by
  have d1 : ratE2 p q kn kd bt = 0 := by unfold ratE2; rw [if_pos]; exact ⟨⟨hr, hrk⟩, by omega, by omega⟩
  have HR := hide hr
  have HRK := hide hrk
  have r1 := hr.1
  have r2 := hr.2.1
  have r3 := hr.2.2.1
  have r4 := hr.2.2.2
  have hp' : ¬ p ≤ 0 := by omega
  go_enter Try.func11, Try.ntmps11
  go_wp2_with fail
  obtain ⟨W, hW⟩ : ∃ W, W = (w.alloc (.cells #[.int .i64 p, .int .i64 q] 28)).alloc (.cells #[.int .i64 kn, .int .i64 kd] 28) := ⟨_, rfl⟩
  have hB : Below w.heap.size w W := by rw [hW]; exact bl2 _ _ _
  have A : RaC W w.heap.size p q := by rw [hW]; exact ⟨by simp [go_sem], by simp [go_sem]⟩
  have C : RaC W (w.heap.size + 1) kn kd := by rw [hW]; exact ⟨by simp [go_sem], by simp [go_sem]⟩
  rw [← hW]
  clear hW
  refine (powerPow_many p q kn kd bt _ hr hrk h5 h6 hp (fun h2 => by omega)).mono ?_
  rintro r' w1 ⟨s1, rfl, hsb1, hs1, hb1⟩
  have HB1 := hide hsb1
  clear hsb1
  clear hr hrk
  replace hB := bthen hB hb1
  replace A := A.below hb1
  replace C := C.below hb1
  clear hb1
  obtain ⟨V1, hV1⟩ : ∃ V1, V1 = w1.alloc (.cells #[.bool s1.ln, .slice s1.la s1.lN s1.lc, .bool s1.hn, .slice s1.ha s1.hN s1.hc, .int .i64 s1.bits] 26) := ⟨_, rfl⟩
  have bV1 : Below w1.heap.size w1 V1 := by rw [hV1]; exact bl1 _ _
  have S1 : SpC V1 w1.heap.size s1 := by rw [hV1]; exact spc_new w1 s1 _
  replace hs1 := hs1.below bV1
  replace hB := bthen hB bV1
  have A0 := A
  have C0 := C
  have lA := A0.lt
  have lC := C0.lt
  replace A := A.below bV1
  replace C := C.below bV1
  clear bV1
  obtain ⟨x0, x1⟩ := A0
  obtain ⟨y0, y1⟩ := C0
  have hsz : V1.heap.size = w1.heap.size + 1 := by rw [hV1]; simp
  go_wp2_with fail
  rw [← hV1]
  clear hV1 x0 x1 y0 y1
  refine (refReady2 bt _ _ hsz p q kn kd _ _).mono ?_
  rintro r' w2 ⟨rfl, hb2⟩
  rw [d1]
  replace hB := bthen hB hb2
  replace S1 := S1.below hb2
  replace hs1 := hs1.below hb2
  replace A := A.below hb2
  replace C := C.below hb2
  clear hb2
  have lA2 := A.lt
  have lC2 := C.lt
  have lS2 := S1.lt
  have A0 := A
  obtain ⟨x0, x1⟩ := A0
  have C0 := C
  obtain ⟨y0, y1⟩ := C0
  go_wp2_with fail
  refine (powerBegun_any _).mono ?_
  rintro r' w4 ⟨rfl, hb4⟩
  replace hB := bthen hB hb4
  replace S1 := S1.below hb4
  replace hs1 := hs1.below hb4
  clear hb4
  obtain ⟨z0, z1, z2, z3, z4⟩ := S1
  go_wp2_with fail
  refine (lawSure_bad _ s1 ⟨false, none, 0, 0, false, none, 0, 0, 0⟩ _ _ _ hs1 (unhide HB1) (by omega)).mono ?_
  rintro r' w5 ⟨rfl, hb5⟩
  go_wp2_with fail
  go_ret
  exact ⟨rfl, bthen hB hb5⟩

set_option maxRecDepth 100000 in
set_option maxHeartbeats 600000 in
theorem law_powerPows_manyC (p q kn kd bt : Int) (w : World) (hr : rok p q) (hrk : rok kn kd) (h5 : 8 ≤ bt) (h6 : bt ≤ 120) (hp : 0 < p) (h0 : ¬ 16 * p < q) (h1 : ¬ 16 * q < p) (h : ¬ (-(100 * kd) ≤ kn ∧ kn ≤ 100 * kd)) :
    Calls Try.prog 11 #[.agg #[.int .i64 p, .int .i64 q], .agg #[.int .i64 kn, .int .i64 kd], .int .i64 bt] w fun z w' => z = .returned (.bool true) ∧ Below w.heap.size w w' := by
  have d1 : ratE2 p q kn kd bt = 0 := by unfold ratE2; rw [if_pos]; exact ⟨⟨hr, hrk⟩, by omega, by omega⟩
  have HR := hide hr
  have HRK := hide hrk
  have r1 := hr.1
  have r2 := hr.2.1
  have r3 := hr.2.2.1
  have r4 := hr.2.2.2
  have hp' : ¬ p ≤ 0 := by omega
  have d3 : far100 kn kd = true := by unfold far100; simp; omega
  go_enter Try.func11, Try.ntmps11
  go_wp2_with fail
  obtain ⟨W, hW⟩ : ∃ W, W = (w.alloc (.cells #[.int .i64 p, .int .i64 q] 28)).alloc (.cells #[.int .i64 kn, .int .i64 kd] 28) := ⟨_, rfl⟩
  have hB : Below w.heap.size w W := by rw [hW]; exact bl2 _ _ _
  have A : RaC W w.heap.size p q := by rw [hW]; exact ⟨by simp [go_sem], by simp [go_sem]⟩
  have C : RaC W (w.heap.size + 1) kn kd := by rw [hW]; exact ⟨by simp [go_sem], by simp [go_sem]⟩
  rw [← hW]
  clear hW
  refine (powerPow_many p q kn kd bt _ hr hrk h5 h6 hp (fun h2 => h h2.2.2)).mono ?_
  rintro r' w1 ⟨s1, rfl, hsb1, hs1, hb1⟩
  have HB1 := hide hsb1
  clear hsb1
  clear hr hrk h
  replace hB := bthen hB hb1
  replace A := A.below hb1
  replace C := C.below hb1
  clear hb1
  obtain ⟨V1, hV1⟩ : ∃ V1, V1 = w1.alloc (.cells #[.bool s1.ln, .slice s1.la s1.lN s1.lc, .bool s1.hn, .slice s1.ha s1.hN s1.hc, .int .i64 s1.bits] 26) := ⟨_, rfl⟩
  have bV1 : Below w1.heap.size w1 V1 := by rw [hV1]; exact bl1 _ _
  have S1 : SpC V1 w1.heap.size s1 := by rw [hV1]; exact spc_new w1 s1 _
  replace hs1 := hs1.below bV1
  replace hB := bthen hB bV1
  have A0 := A
  have C0 := C
  have lA := A0.lt
  have lC := C0.lt
  replace A := A.below bV1
  replace C := C.below bV1
  clear bV1
  obtain ⟨x0, x1⟩ := A0
  obtain ⟨y0, y1⟩ := C0
  have hsz : V1.heap.size = w1.heap.size + 1 := by rw [hV1]; simp
  go_wp2_with fail
  rw [← hV1]
  clear hV1 x0 x1 y0 y1
  refine (refReady2 bt _ _ hsz p q kn kd _ _).mono ?_
  rintro r' w2 ⟨rfl, hb2⟩
  rw [d1]
  replace hB := bthen hB hb2
  replace S1 := S1.below hb2
  replace hs1 := hs1.below hb2
  replace A := A.below hb2
  replace C := C.below hb2
  clear hb2
  have lA2 := A.lt
  have lC2 := C.lt
  have lS2 := S1.lt
  have A0 := A
  obtain ⟨x0, x1⟩ := A0
  have C0 := C
  obtain ⟨y0, y1⟩ := C0
  go_wp2_with fail
  refine (lawFar100 kn kd _ (unhide HRK)).mono ?_
  rintro r' w3 ⟨rfl, hb3⟩
  rw [d3]
  replace hB := bthen hB hb3
  replace S1 := S1.below hb3
  replace hs1 := hs1.below hb3
  replace A := A.below hb3
  replace C := C.below hb3
  clear hb3 x0 x1 y0 y1
  have lA3 := A.lt
  have lC3 := C.lt
  have lS3 := S1.lt
  go_wp2_with fail
  refine (powerBegun_any _).mono ?_
  rintro r' w4 ⟨rfl, hb4⟩
  replace hB := bthen hB hb4
  replace S1 := S1.below hb4
  replace hs1 := hs1.below hb4
  clear hb4
  obtain ⟨z0, z1, z2, z3, z4⟩ := S1
  go_wp2_with fail
  refine (lawSure_bad _ s1 ⟨false, none, 0, 0, false, none, 0, 0, 0⟩ _ _ _ hs1 (unhide HB1) (by omega)).mono ?_
  rintro r' w5 ⟨rfl, hb5⟩
  go_wp2_with fail
  go_ret
  exact ⟨rfl, bthen hB hb5⟩

set_option maxRecDepth 100000 in
set_option maxHeartbeats 2000000 in
theorem law_powerPows_ok (p q kn kd : Int) (b : Nat) (w : World) (hr : rok p q) (hrk : rok kn kd) (h5 : 8 ≤ b) (h6 : b ≤ 120) (hp : 0 < p) (h0 : ¬ 16 * p < q) (h1 : ¬ 16 * q < p) (h2 : -(100 * kd) ≤ kn) (h3 : kn ≤ 100 * kd) :
    Calls Try.prog 11 #[.agg #[.int .i64 p, .int .i64 q], .agg #[.int .i64 kn, .int .i64 kd], .int .i64 b] w fun z w' => z = .returned (.bool true) ∧ Below w.heap.size w w' := by
  have d3 : far100 kn kd = false := by unfold far100; simp; omega
  have hq9 : 0 < q := by have := hr.2.2.1; omega
  have hkd : 0 < kd := by have := hrk.2.2.1; omega
  have t1 := hrk.1
  have t2 := hrk.2.1
  have t4 := hrk.2.2.2
  have d1 : ratE2 p q kn kd (b : Int) = 0 := by unfold ratE2; rw [if_pos]; exact ⟨⟨hr, hrk⟩, by omega, by omega⟩
  have HR := hide hr
  have HRK := hide hrk
  have r1 := hr.1
  have r2 := hr.2.1
  have r3 := hr.2.2.1
  have r4 := hr.2.2.2
  have hp' : ¬ p ≤ 0 := by omega
  go_enter Try.func11, Try.ntmps11
  go_wp2_with fail
  obtain ⟨W, hW⟩ : ∃ W, W = (w.alloc (.cells #[.int .i64 p, .int .i64 q] 28)).alloc (.cells #[.int .i64 kn, .int .i64 kd] 28) := ⟨_, rfl⟩
  have hB : Below w.heap.size w W := by rw [hW]; exact bl2 _ _ _
  have A : RaC W w.heap.size p q := by rw [hW]; exact ⟨by simp [go_sem], by simp [go_sem]⟩
  have C : RaC W (w.heap.size + 1) kn kd := by rw [hW]; exact ⟨by simp [go_sem], by simp [go_sem]⟩
  rw [← hW]
  clear hW
  refine (powerPow_ok p q kn kd b _ hr hrk h5 h6 hp (by omega) (by omega) h2 h3).mono ?_
  rintro r' w1 ⟨L1, H1, hok, s1, rfl, hsb1, hs1, hb1⟩
  have HOK := hide hok
  have HB1 := hide hsb1
  clear hsb1 hok
  have HKK := hide (And.intro h2 h3)
  clear hr hrk h2 h3
  replace hB := bthen hB hb1
  replace A := A.below hb1
  replace C := C.below hb1
  clear hb1
  obtain ⟨V1, hV1⟩ : ∃ V1, V1 = w1.alloc (.cells #[.bool s1.ln, .slice s1.la s1.lN s1.lc, .bool s1.hn, .slice s1.ha s1.hN s1.hc, .int .i64 s1.bits] 26) := ⟨_, rfl⟩
  have bV1 : Below w1.heap.size w1 V1 := by rw [hV1]; exact bl1 _ _
  have S1 : SpC V1 w1.heap.size s1 := by rw [hV1]; exact spc_new w1 s1 _
  replace hs1 := hs1.below bV1
  replace hB := bthen hB bV1
  have A0 := A
  have C0 := C
  have lA := A0.lt
  have lC := C0.lt
  replace A := A.below bV1
  replace C := C.below bV1
  clear bV1
  obtain ⟨x0, x1⟩ := A0
  obtain ⟨y0, y1⟩ := C0
  have hsz : V1.heap.size = w1.heap.size + 1 := by rw [hV1]; simp
  go_wp2_with fail
  rw [← hV1]
  clear hV1 x0 x1 y0 y1
  refine (refReady2 (b : Int) _ _ hsz p q kn kd _ _).mono ?_
  rintro r' w2 ⟨rfl, hb2⟩
  rw [d1]
  replace hB := bthen hB hb2
  replace S1 := S1.below hb2
  replace hs1 := hs1.below hb2
  replace A := A.below hb2
  replace C := C.below hb2
  clear hb2
  have lA2 := A.lt
  have lC2 := C.lt
  have lS2 := S1.lt
  have A0 := A
  obtain ⟨x0, x1⟩ := A0
  have C0 := C
  obtain ⟨y0, y1⟩ := C0
  go_wp2_with fail
  refine (lawFar100 kn kd _ (unhide HRK)).mono ?_
  rintro r' w3 ⟨rfl, hb3⟩
  rw [d3]
  replace hB := bthen hB hb3
  replace S1 := S1.below hb3
  replace hs1 := hs1.below hb3
  replace A := A.below hb3
  replace C := C.below hb3
  clear hb3 x0 x1 y0 y1
  have lA3 := A.lt
  have lC3 := C.lt
  have lS3 := S1.lt
  have HX := hide hs1
  have HW := hide (show IntKind.i64.wrap ((b : Int) + 40) = ((b + 40 : Nat) : Int) from (i64_id _ (by omega) (by omega)).trans (by omega))
  have HW2 := hide (show ((b : Int) + 40) = ((b + 40 : Nat) : Int) by omega)
  have hP4 : P 4 = 18446744073709551616 := by decide +kernel
  have HN := hide (show p < P 4 ∧ 2 * q < P 4 ∧ q ≤ p * Q 4 ∧ p < q * Q 5 by
    have e1 : Q 4 = 16 := rfl
    have e2 : Q 5 = 32 := rfl
    rw [hP4, e1, e2]; omega)
  clear hP4
  have HKR := hide (show ∀ w', Below w3.heap.size w3 w' → (w'.cell? ⟨w.heap.size, 0, none⟩ = some (.int .i64 p) ∧ w'.cell? ⟨w.heap.size, 1, none⟩ = some (.int .i64 q)) from fun w' hB => ⟨(A.below hB).c0, (A.below hB).c1⟩)
  obtain ⟨x0, x1⟩ := unhide HKR _ (Below.refl _ _)
  have lw : w.heap.size < w3.heap.size := lA3
  go_wp2_with fail
  go_cut [10] (fun pp wx => ∃ (o6 : Int × Int) (l6 : Nat → Rat) (B : Nat) (u : Sp), Ex.IsLog l6 (fun _ => (p : Rat) / (q : Rat)) ∧ Iv (b + 40) o6 l6 ∧ Abs o6 (3 * ((4 : Nat) + 1) * Q (b + 40)) ∧ pp = .pointer (some ⟨B, 0, none⟩) ∧ w3.heap.size ≤ B ∧ VrC wx B u ∧ SpAt wx u ((b + 40) / 16 + 10) (o6).1 (o6).2 ∧ u.bits = ((b + 40 : Nat) : Int) ∧ Below w3.heap.size w3 wx)
  case first =>
    go_region_held3 (fun w' => w'.cell? ⟨w.heap.size, 0, none⟩ = some (.int .i64 p) ∧ w'.cell? ⟨w.heap.size, 1, none⟩ = some (.int .i64 q)) (exact unhide HKR _ (by repeat' (first | with_reducible exact hBT3 | with_reducible exact hBT2 | with_reducible exact hBT1 | with_reducible exact Below.refl _ _ | with_reducible refine Below.drew ?_ | with_reducible refine balloc ?_ _ | with_reducible refine Below.setCell ?_ (by first | exact Nat.le_refl _ | exact hlT1 | exact hlT2 | exact hlT3) _)))
      (first
        | (go_at_call 61; have hq := hBT2; (first | rw [unhide HW] | rw [unhide HW2]); refine (refLog_iv _ ⟨negT1, aT1, nT1, cT1⟩ ⟨negT2, aT2, nT2, cT2⟩ 4 (b + 40) 4 p q (hintT1.below (by first | with_reducible exact Below.refl _ _ | with_reducible exact bl1 _ _)) (hintT2.below (by first | with_reducible exact Below.refl _ _ | with_reducible exact bl1 _ _)) (by omega) (by omega) hp hq9 (unhide HN).1 (unhide HN).2.1 (unhide HN).2.2.1 (unhide HN).2.2.2 (by omega)).mono ?_; rintro r wT3 ⟨o6, l6, hl6, hi6, ha6, vT3, rfl, hvbT3, hintT3, hbT3⟩; have HL6 := hide hl6; have HI6 := hide hi6; have HA6 := hide ha6; have HVBT3 := hide hvbT3; clear hl6 hi6 ha6 hvbT3; have hCT3 : Below wT2.heap.size wT2 wT3 := (by first | with_reducible exact hbT3 | with_reducible exact bthen (bl1 _ _) hbT3); have hBT3 := bthen hBT2 hCT3; (try with_reducible have gT3 := (noc_new wT2 38).below hbT3); replace hintT1 := hintT1.below hCT3; (try replace gT1 := gT1.below hCT3); replace hintT2 := hintT2.below hCT3; (try replace gT2 := gT2.below hCT3); have hlT3 := hBT3.size; (try have mT1 := gT1.lt); (try have eT1 := Nat.ne_of_lt mT1); (try have eT1' := Nat.ne_of_gt mT1); (try obtain ⟨zT10, zT11, zT12, zT13, zT14, zT15⟩ := gT1); (try have mT2 := gT2.lt); (try have eT2 := Nat.ne_of_lt mT2); (try have eT2' := Nat.ne_of_gt mT2); (try obtain ⟨zT20, zT21, zT22, zT23, zT24, zT25⟩ := gT2); (try have mT3 := gT3.lt); (try have eT3 := Nat.ne_of_lt mT3); (try have eT3' := Nat.ne_of_gt mT3); (try obtain ⟨zT30, zT31, zT32, zT33, zT34, zT35⟩ := gT3))
        | (go_at_call 62; have hq := hBT1; refine (numOf_int q _ (by omega) (by omega)).mono ?_; rintro r wT2 ⟨negT2, aT2, nT2, cT2, rfl, hintT2, hbT2⟩; have hCT2 : Below wT1.heap.size wT1 wT2 := (by first | with_reducible exact hbT2 | with_reducible exact bthen (bl1 _ _) hbT2); have hBT2 := bthen hBT1 hCT2; (try with_reducible have gT2 := (noc_new wT1 38).below hbT2); replace hintT1 := hintT1.below hCT2; (try replace gT1 := gT1.below hCT2); have hlT2 := hBT2.size)
        | (go_at_call 62; refine (numOf_int p _ (by omega) (by omega)).mono ?_; rintro r wT1 ⟨negT1, aT1, nT1, cT1, rfl, hintT1, hbT1⟩; have hBT1 : Below w3.heap.size w3 wT1 := (by first | with_reducible exact bthen (Below.refl _ _).drew hbT1 | with_reducible exact bthen (bl1 _ _).drew hbT1); (try with_reducible have gT1 := ((noc_new w3 38).below (Below.refl _ _).drew).below hbT1); have hlT1 := hBT1.size))
    all_goals
      have hfinT : SpAt wT3 vT3 ((b + 40) / 16 + 10) (o6).1 (o6).2 := hintT3
      go_wp2_with fail
      go_meet
      refine ⟨o6, l6, _, vT3, unhide HL6, unhide HI6, unhide HA6, rfl, ?_, ⟨⟨?_, ?_, ?_, ?_, ?_⟩, ?_⟩, ?_, unhide HVBT3, ?_⟩
      · first | exact Nat.le_refl _ | exact hlT1 | exact hlT2 | exact hlT3
      · simp [go_sem, *]
      · simp [go_sem, *]
      · simp [go_sem, *]
      · simp [go_sem, *]
      · simp [go_sem, *]
      · intro o; simp [go_sem, *]
      · first | with_reducible exact SpAt.put5 hfinT zT10 zT11 zT12 zT13 zT14 _ _ _ _ _ | with_reducible exact SpAt.put5 hfinT zT20 zT21 zT22 zT23 zT24 _ _ _ _ _ | with_reducible exact SpAt.put5 hfinT zT30 zT31 zT32 zT33 zT34 _ _ _ _ _ | with_reducible exact hfinT.below (bl1 _ _)
      · repeat' (first | with_reducible exact hBT3 | with_reducible exact hBT2 | with_reducible exact hBT1 | with_reducible exact Below.refl _ _ | with_reducible refine Below.drew ?_ | with_reducible refine balloc ?_ _ | with_reducible refine Below.setCell ?_ (by first | exact Nat.le_refl _ | exact hlT1 | exact hlT2 | exact hlT3) _)
  case rest =>
  obtain ⟨o6, l6, BT, xT, hl6, hi6, ha6, rfl, hHT, XT, hpT, hxbT, hblT⟩ := hcut
  replace hB := bthen hB hblT
  replace A := A.below hblT
  replace C := C.below hblT
  replace S1 := S1.below hblT
  replace HX := hide ((unhide HX).below hblT)
  have HL6 := hide hl6
  have HI6 := hide hi6
  have HA6 := hide ha6
  have HXB := hide hxbT
  have HXT := hide hpT
  clear hl6 hi6 ha6 hxbT hpT x0 x1 HKR
  have HK := hide (show ∀ w', Below wc.heap.size wc w' → (w'.cell? ⟨w.heap.size, 0, none⟩ = some (.int .i64 p) ∧ w'.cell? ⟨w.heap.size, 1, none⟩ = some (.int .i64 q) ∧ w'.cell? ⟨w.heap.size + 1, 0, none⟩ = some (.int .i64 kn) ∧ w'.cell? ⟨w.heap.size + 1, 1, none⟩ = some (.int .i64 kd) ∧ w'.cell? ⟨w1.heap.size, 0, none⟩ = some (.bool s1.ln) ∧ w'.cell? ⟨w1.heap.size, 1, none⟩ = some (.slice s1.la s1.lN s1.lc) ∧ w'.cell? ⟨w1.heap.size, 2, none⟩ = some (.bool s1.hn) ∧ w'.cell? ⟨w1.heap.size, 3, none⟩ = some (.slice s1.ha s1.hN s1.hc) ∧ w'.cell? ⟨w1.heap.size, 4, none⟩ = some (.int .i64 s1.bits) ∧ w'.cell? ⟨BT, 0, none⟩ = some (.bool xT.ln) ∧ w'.cell? ⟨BT, 1, none⟩ = some (.slice xT.la xT.lN xT.lc) ∧ w'.cell? ⟨BT, 2, none⟩ = some (.bool xT.hn) ∧ w'.cell? ⟨BT, 3, none⟩ = some (.slice xT.ha xT.hN xT.hc) ∧ w'.cell? ⟨BT, 4, none⟩ = some (.int .i64 xT.bits)) from fun w' hB => ⟨(A.below hB).c0, (A.below hB).c1, (C.below hB).c0, (C.below hB).c1, (S1.below hB).c0, (S1.below hB).c1, (S1.below hB).c2, (S1.below hB).c3, (S1.below hB).c4, (XT.below hB).c.c0, (XT.below hB).c.c1, (XT.below hB).c.c2, (XT.below hB).c.c3, (XT.below hB).c.c4⟩)
  have la := A.lt
  have lc := C.lt
  have ls := S1.lt
  have lx := XT.lt
  clear A C S1 XT
  obtain ⟨x0, x1, y0, y1, z0, z1, z2, z3, z4, u0, u1, u2, u3, u4⟩ := unhide HK _ (Below.refl _ _)
  have hD0 : Below wc.heap.size wc wc.drew := (Below.refl _ _).drew
  have hQb := Q_pos (b + 40)
  have HBA := hide (byI_abs (p := 1500 * Q (b + 40)) (n := kn) (d := kd) (c := 100 * kd) (unhide HA6) hkd (unhide HKK).1 (unhide HKK).2 (by
    have e : (3 * (((4 : Nat) : Int) + 1) * Q (b + 40)) * (100 * kd) = 1500 * Q (b + 40) * kd := by grind
    omega))
  have HBI := hide ((unhide HI6).by_ kn hkd)
  have HBL := hide (byI_le (n := kn) (unhide HI6).le hkd)
  have HWH := hide (show wh (byI o6 kn kd).1 (b + 40) ≤ ((1500 : Nat) : Int) ∧ wh (byI o6 kn kd).2 (b + 40) ≤ ((1500 : Nat) : Int) by
    obtain ⟨a1, a2, a3, a4⟩ := unhide HBA
    exact ⟨wh_le (by omega) (by omega), wh_le (by omega) (by omega)⟩)
  have HBD := hide (show Ex.Bdd (fun M => (kn : Rat) / (kd : Rat) * l6 M) from (Ex.Bdd.const _).mul (unhide HL6).1)
  have HQ := hide (show Q (b + 40 + 40 + 4 * (2 * 1500 + 1) + 20) < P 900 by
    rw [← Q_P]
    have h1 := Q_mono (show b + 40 + 40 + 4 * (2 * 1500 + 1) + 20 + 1 ≤ 16 * 900 by omega)
    have h2 : Q (b + 40 + 40 + 4 * (2 * 1500 + 1) + 20 + 1) = 2 * Q (b + 40 + 40 + 4 * (2 * 1500 + 1) + 20) := rfl
    have := Q_pos (b + 40 + 40 + 4 * (2 * 1500 + 1) + 20)
    omega)
  go_wp2_with fail
  go_region_held3 (fun w' => w'.cell? ⟨w.heap.size, 0, none⟩ = some (.int .i64 p) ∧ w'.cell? ⟨w.heap.size, 1, none⟩ = some (.int .i64 q) ∧ w'.cell? ⟨w.heap.size + 1, 0, none⟩ = some (.int .i64 kn) ∧ w'.cell? ⟨w.heap.size + 1, 1, none⟩ = some (.int .i64 kd) ∧ w'.cell? ⟨w1.heap.size, 0, none⟩ = some (.bool s1.ln) ∧ w'.cell? ⟨w1.heap.size, 1, none⟩ = some (.slice s1.la s1.lN s1.lc) ∧ w'.cell? ⟨w1.heap.size, 2, none⟩ = some (.bool s1.hn) ∧ w'.cell? ⟨w1.heap.size, 3, none⟩ = some (.slice s1.ha s1.hN s1.hc) ∧ w'.cell? ⟨w1.heap.size, 4, none⟩ = some (.int .i64 s1.bits) ∧ w'.cell? ⟨BT, 0, none⟩ = some (.bool xT.ln) ∧ w'.cell? ⟨BT, 1, none⟩ = some (.slice xT.la xT.lN xT.lc) ∧ w'.cell? ⟨BT, 2, none⟩ = some (.bool xT.hn) ∧ w'.cell? ⟨BT, 3, none⟩ = some (.slice xT.ha xT.hN xT.hc) ∧ w'.cell? ⟨BT, 4, none⟩ = some (.int .i64 xT.bits)) (first | exact unhide HK _ (by first | with_reducible exact hD0 | with_reducible exact hD6 | with_reducible exact hD5 | with_reducible exact hD4 | with_reducible exact hD3 | with_reducible exact hD2 | with_reducible exact hD1) | go_keep)
    (first
      | (go_at_call 58; have hq3 := hD5; refine (lawSure_ok _ s1 t5 b 40 900 L1 H1 o5.1 o5.2 ((unhide HX).below hD5) hs5 (by omega) (by omega) (unhide HB1) h6 (unhide HOK).1 (by omega) (by omega) (unhide HB5) (unhide HOK).2.1 (touch_up ((unhide HOK).2.2 l6 (unhide HL6)) (unhide HI5))).mono ?_; rintro r' w10 ⟨rfl, hb10⟩; have hD6 := bthen hD5 hb10)
      | (go_at_call 59; have hq2 := hD4; refine (refExpOf_iv _ t4 ((b + 40) / 16 + 10 + 4 + 9) (b + 40) 900 1500 (byI o6 kn kd) (fun M => (kn : Rat) / (kd : Rat) * l6 M) (unhide HBD) hs4 (unhide HB4) (unhide HBI) (unhide HWH).1 (unhide HWH).2 (by omega) (by omega) (by omega) (unhide HQ) (by omega) (by omega) (by omega)).mono ?_; rintro r' w9 ⟨o5, i5, t5, rfl, hsb5, hs5, hb9⟩; have HI5 := hide i5; have HB5 := hide hsb5; clear i5 hsb5; have hD5 := bthen hD4 hb9)
      | (go_at_call 64; have hq1 := hD3; refine (refBy _ xT ⟨neg7, a7, n7, c7⟩ ⟨neg8, a8, n8, c8⟩ ((b + 40) / 16 + 10) 4 4 (b + 40) o6 kn kd ((unhide HXT).below hD3) hint7 hint8 (by omega) (by omega) (by omega) hkd (unhide HXB)).mono ?_; rintro r' w8 ⟨t4, rfl, hsb4, hs4, hb8⟩; have HB4 := hide hsb4; clear hsb4; have hD4 := bthen hD3 hb8)
      | (go_at_call 62; have hq0 := hD2; refine (numOf_int kd _ (by omega) (by omega)).mono ?_; rintro r' w7 ⟨neg8, a8, n8, c8, rfl, hint8, hb7⟩; have hD3 := bthen hD2 hb7; replace hint7 := hint7.below hb7)
      | (go_at_call 62; have hqz := hD1; refine (numOf_int kn _ (by omega) (by omega)).mono ?_; rintro r' w6 ⟨neg7, a7, n7, c7, rfl, hint7, hb6⟩; have hD2 := bthen hD1 hb6)
      | (go_at_call 57; refine (powerBegun_any _).mono ?_; rintro r' w5 ⟨rfl, hb5⟩; have hD1 := bthen hD0 hb5))
  all_goals
    go_wp2_with fail
    go_ret
    exact ⟨rfl, bthen hB hD6⟩
theorem law_powerPows (p q kn kd bt : Int) (w : World) :
    Calls Try.prog 11 #[.agg #[.int .i64 p, .int .i64 q], .agg #[.int .i64 kn, .int .i64 kd], .int .i64 bt] w fun z w' => z = .returned (.bool true) ∧ Below w.heap.size w w' := by
  by_cases h : (rok p q ∧ rok kn kd) ∧ 8 ≤ bt ∧ bt ≤ 120
  · obtain ⟨⟨h1, h2⟩, h3, h4⟩ := h
    by_cases hp : p ≤ 0
    · exact law_powerPows_none p q kn kd bt w h1 h2 h3 h4 hp
    by_cases h5 : 16 * p < q
    · exact law_powerPows_manyA p q kn kd bt w h1 h2 h3 h4 (by omega) h5
    by_cases h6 : 16 * q < p
    · exact law_powerPows_manyB p q kn kd bt w h1 h2 h3 h4 (by omega) h5 h6
    by_cases h7 : -(100 * kd) ≤ kn ∧ kn ≤ 100 * kd
    · obtain ⟨b, hb⟩ : ∃ b : Nat, bt = (b : Int) := ⟨bt.toNat, by omega⟩
      subst hb
      exact law_powerPows_ok p q kn kd b w h1 h2 (by omega) (by omega) (by omega) h5 h6 h7.1 h7.2
    · exact law_powerPows_manyC p q kn kd bt w h1 h2 h3 h4 (by omega) h5 h6 h7
  · exact law_powerPows_bad p q kn kd bt w h
end Go.Proofs.Ytgmnknmjainabaa

namespace Go.Proofs.Ytgmnknmjainabaa
set_option linter.unusedVariables false
set_option linter.unusedSimpArgs false
set_option linter.unnecessarySimpa false
open Go.ChangeShapes Go.WideShapes Go.ChangeAt Go.RowKit

theorem Try.own : ownKnob Try.prog.godebug = none := by kernel_rfl
theorem Try.laidOut : laidOutB Try.prog = true := by kernel_rfl
theorem Try.cellsI : Try.prog.cellsOf 3 = 1 := by kernel_rfl
end Go.Proofs.Ytgmnknmjainabaa
