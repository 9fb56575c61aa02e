/-
  What Whole, tail, small of package tailsureref answer, and that they leave old memory alone.
  What By of package tailsureref answers, and that it leaves old memory alone.
  Two variables of spans in memory that are made in one statement, wherever they came to lie.
  What tailsureref.lowExp answers, and that it leaves old memory alone.
  What tailsureref.Raised answers, and that it leaves old memory alone.
-/
import Derived.Test.YtgmnknmjainabaaK21
namespace Go.Proofs.Ytgmnknmjainabaa
set_option linter.unusedVariables false
set_option linter.unusedSimpArgs false
set_option linter.unnecessarySimpa false
open Go.RowKit
attribute [local go_sem ↓] Go.wp_at_zero Go.wp_at_succ

set_option maxRecDepth 100000 in
set_option maxHeartbeats 2000000 in
theorem refWhole (w : World) (n : Int) (b : Nat) (hb : b ≤ 100000) (h0 : -9223372036854775808 ≤ n) (h1 : n ≤ 9223372036854775807) :
    Calls Try.prog 118 #[.int .i64 n, .int .i64 b] w (SpanAns w b (b / 16 + 18) (n * Q b) (n * Q b)) := by
  have R := noc_new w 38
  go_enter Try.func118, Try.ntmps118
  go_wp2_with fail
  refine (numOf_int n _ h0 h1).mono ?_
  rintro r' w1 ⟨neg1, a1, n1, c1, rfl, hint1, hb1⟩
  replace R := R.below hb1
  have hB : Below w.heap.size w w1 := bthen (bl1 _ _) hb1
  clear hb1
  go_wp2_with fail
  refine (numOf_int 1 _ (by decide) (by decide)).mono ?_
  rintro r' w2 ⟨neg2, a2, n2, c2, rfl, hint2, hb2⟩
  replace R := R.below hb2
  replace hB := bthen hB hb2
  replace hint1 := hint1.below hb2
  clear hb2
  go_wp2_with fail
  refine (refRatio_core _ _ _ _ _ _ _ _ 4 4 b n 1 _ hint1 hint2 (by omega) (by omega) hb (by decide) (fun neg' a' n' cap' w' p1 p2 => floor_any _ _ _ _ _ _ _ _ _ 4 _ _ w' p1 p2 (by omega) (by decide))).mono ?_
  rintro r' w3 ⟨u, rfl, hub, hup, hb3⟩
  have e1 : n * Q b / 1 = n * Q b := Int.ediv_one _
  have e2 : -(-(n * Q b) / 1) = n * Q b := by rw [Int.ediv_one]; omega
  rw [e1, e2] at hup
  obtain ⟨q0, q1, q2, q3, q4, q5⟩ := R.below hb3
  replace hB := bthen hB hb3
  have HU := hide hub
  clear hub e1 e2
  go_wp2_with fail
  refine bodyPost_ret (v := .agg #[.bool u.ln, .slice u.la u.lN u.lc, .bool u.hn, .slice u.ha u.hN u.hc, .int .i64 u.bits]) (by simp [results, Try.results118, go_sem, q0, q1, q2, q3, q4]) rfl ⟨u, rfl, unhide HU, ?_, ?_⟩
  · exact SpAt.put5 (hup.mono (by omega)) q0 q1 q2 q3 q4 _ _ _ _ _
  · exact set5 hB (Nat.le_refl _) _ _ _ _ _

set_option maxRecDepth 100000 in
set_option maxHeartbeats 2000000 in
theorem refTail (w : World) (s : Sp) (k : Nat) (n lo hi : Int) (hs : SpAt w s k lo hi) (hk : k ≤ 300000000) (hk4 : 4 ≤ k) (h0 : -9223372036854775808 ≤ n) (h1 : n ≤ 9223372036854775807) :
    Calls Try.prog 151 #[.agg #[.bool s.ln, .slice s.la s.lN s.lc, .bool s.hn, .slice s.ha s.hN s.hc, .int .i64 s.bits], .int .i64 n] w (SpanAns w s.bits (k + 1) (lo - n) (hi + n)) := by
  obtain ⟨W, hW⟩ : ∃ W, W = (w.alloc (.cells #[.bool s.ln, .slice s.la s.lN s.lc, .bool s.hn, .slice s.ha s.hN s.hc, .int .i64 s.bits] 38)).alloc (.cells #[.bool false, .slice none 0 0, .bool false, .slice none 0 0, .int .i64 0] 38) := ⟨_, rfl⟩
  have hBW : Below w.heap.size w W := by rw [hW]; exact bl2 _ _ _
  have A : SpC W w.heap.size s := by rw [hW]; exact ⟨by simp [go_sem], by simp [go_sem], by simp [go_sem], by simp [go_sem], by simp [go_sem]⟩
  have R : NoC W (w.heap.size + 1) := by rw [hW]; exact ⟨by simp [go_sem], by simp [go_sem], by simp [go_sem], by simp [go_sem], by simp [go_sem], fun o => by simp [go_sem]⟩
  have HS := hide (hs.below hBW)
  have lR := R.lt
  have HK := hide (show ∀ w', Below W.heap.size W w' → (w'.cell? ⟨w.heap.size, 0, none⟩ = some (.bool s.ln) ∧ w'.cell? ⟨w.heap.size, 1, none⟩ = some (.slice s.la s.lN s.lc) ∧ w'.cell? ⟨w.heap.size, 2, none⟩ = some (.bool s.hn) ∧ w'.cell? ⟨w.heap.size, 3, none⟩ = some (.slice s.ha s.hN s.hc) ∧ w'.cell? ⟨w.heap.size, 4, none⟩ = some (.int .i64 s.bits)) from fun w' hB => ⟨(A.below hB).c0, (A.below hB).c1, (A.below hB).c2, (A.below hB).c3, (A.below hB).c4⟩)
  clear A hs
  go_enter Try.func151, Try.ntmps151
  go_wp2
  rw [← hW]
  clear hW
  have n01 : w.heap.size ≠ w.heap.size + 1 := by omega
  have n10 : w.heap.size + 1 ≠ w.heap.size := by omega
  obtain ⟨x0, x1, x2, x3, x4⟩ := unhide HK _ (Below.refl _ _)
  have hD0 : Below W.heap.size W W.drew := (Below.refl _ _).drew
  go_region_held3 (fun w' => w'.cell? ⟨w.heap.size, 0, none⟩ = some (.bool s.ln) ∧ w'.cell? ⟨w.heap.size, 1, none⟩ = some (.slice s.la s.lN s.lc) ∧ w'.cell? ⟨w.heap.size, 2, none⟩ = some (.bool s.hn) ∧ w'.cell? ⟨w.heap.size, 3, none⟩ = some (.slice s.ha s.hN s.hc) ∧ w'.cell? ⟨w.heap.size, 4, none⟩ = some (.int .i64 s.bits)) (first | exact unhide HK _ (by first | with_reducible exact hD0 | with_reducible exact hD4 | with_reducible exact hD3 | with_reducible exact hD2 | with_reducible exact hD1) | go_keep)
    (first
      | (go_at_call 49; have hq := hD3; refine (add_int _ _ _ _ _ _ _ _ k 4 hi n _ ((unhide HS).hi.below hD3) hint3 (by omega) (by omega)).mono ?_; rintro r' w4 ⟨neg4, a4, n4, c4, rfl, hint4, hb4⟩; have hD4 := bthen hD3 hb4; replace hint2 := (hint2.below hb3).below hb4; obtain ⟨q0, q1, q2, q3, q4, q5⟩ := R.below hD4; obtain ⟨y0, y1, y2, y3, y4⟩ := unhide HK _ hD4)
      | (go_at_call 62; have hq := hD2; refine (numOf_int n _ h0 h1).mono ?_; rintro r' w3 ⟨neg3, a3, n3, c3, rfl, hint3, hb3⟩; have hD3 := bthen hD2 hb3)
      | (go_at_call 50; have hq := hD1; refine (sub_int _ _ _ _ _ _ _ _ k 4 lo n _ ((unhide HS).lo.below hD1) hint1 (by omega) (by omega)).mono ?_; rintro r' w2 ⟨neg2, a2, n2, c2, rfl, hint2, hb2⟩; have hD2 := bthen hD1 hb2)
      | (go_at_call 62; refine (numOf_int n _ h0 h1).mono ?_; rintro r' w1 ⟨neg1, a1, n1, c1, rfl, hint1, hb1⟩; have hD1 := bthen hD0 hb1))
  all_goals
    go_wp2_with fail
    refine bodyPost_ret (v := .agg #[.bool neg2, .slice a2 n2 c2, .bool neg4, .slice a4 n4 c4, .int .i64 s.bits]) (by simp [results, Try.results151, go_sem, q0, q1, q2, q3, q4]) rfl ⟨⟨neg2, a2, n2, c2, neg4, a4, n4, c4, s.bits⟩, rfl, rfl, ?_, ?_⟩
    · exact SpAt.put5 ⟨hint2.mono (by omega), hint4.mono (by omega)⟩ q0 q1 q2 q3 q4 _ _ _ _ _
    · exact set5 (bthen hBW hD4) (Nat.le_succ _) _ _ _ _ _

/-- Within so much of 0? -/
def smallB (lo hi n : Int) : Bool := decide (hi ≤ n) && decide (-n ≤ lo)

theorem cmp3 (x y : Int) : (cmpInt x y = -1 ∧ x < y) ∨ (cmpInt x y = 0 ∧ x = y) ∨ (cmpInt x y = 1 ∧ y < x) := by
  unfold cmpInt; split
  · exact Or.inl ⟨rfl, by assumption⟩
  · split
    · exact Or.inr (Or.inr ⟨rfl, by assumption⟩)
    · exact Or.inr (Or.inl ⟨rfl, by omega⟩)

set_option maxRecDepth 100000 in
set_option maxHeartbeats 2000000 in
theorem refSmall_a (w : World) (s : Sp) (k : Nat) (n lo hi : Int) (hs : SpAt w s k lo hi) (h0 : -1000000000 ≤ n) (h1 : n ≤ 1000000000) (hc : cmpInt hi n = -1) (hh : hi ≤ n) :
    Calls Try.prog 150 #[.agg #[.bool s.ln, .slice s.la s.lN s.lc, .bool s.hn, .slice s.ha s.hN s.hc, .int .i64 s.bits], .int .i64 n] w fun r w' => r = .returned (.bool (smallB lo hi n)) ∧ Below w.heap.size w w' := by
  obtain ⟨W, hW⟩ : ∃ W, W = w.alloc (.cells #[.bool s.ln, .slice s.la s.lN s.lc, .bool s.hn, .slice s.ha s.hN s.hc, .int .i64 s.bits] 38) := ⟨_, rfl⟩
  have hBW : Below w.heap.size w W := by rw [hW]; exact bl1 _ _
  have A : SpC W w.heap.size s := by rw [hW]; exact spc_new w s _
  have HS := hide (hs.below hBW)
  have HK := hide (show ∀ w', Below W.heap.size W w' → (w'.cell? ⟨w.heap.size, 0, none⟩ = some (.bool s.ln) ∧ w'.cell? ⟨w.heap.size, 1, none⟩ = some (.slice s.la s.lN s.lc) ∧ w'.cell? ⟨w.heap.size, 2, none⟩ = some (.bool s.hn) ∧ w'.cell? ⟨w.heap.size, 3, none⟩ = some (.slice s.ha s.hN s.hc) ∧ w'.cell? ⟨w.heap.size, 4, none⟩ = some (.int .i64 s.bits)) from fun w' hB => ⟨(A.below hB).c0, (A.below hB).c1, (A.below hB).c2, (A.below hB).c3, (A.below hB).c4⟩)
  clear A hs
  have HE := hide (show decide (0 ≤ cmpInt lo (-n)) = smallB lo hi n by
    unfold smallB
    rw [Bool.eq_iff_iff, Bool.and_eq_true, decide_eq_true_iff, decide_eq_true_iff, decide_eq_true_iff]
    unfold cmpInt
    constructor
    · intro h; refine ⟨hh, ?_⟩; split at h <;> omega
    · intro h; rw [if_neg (by omega)]; split <;> omega)
  have HW := hide (show IntKind.i64.wrap (-n) = -n from i64_id _ (by omega) (by omega))
  have HC := hide hc
  clear hh hc
  go_enter Try.func150, Try.ntmps150
  go_wp2
  rw [← hW]
  clear hW
  obtain ⟨x0, x1, x2, x3, x4⟩ := unhide HK _ (Below.refl _ _)
  have hD0 : Below W.heap.size W W.drew := (Below.refl _ _).drew
  go_region_held3 (fun w' => w'.cell? ⟨w.heap.size, 0, none⟩ = some (.bool s.ln) ∧ w'.cell? ⟨w.heap.size, 1, none⟩ = some (.slice s.la s.lN s.lc) ∧ w'.cell? ⟨w.heap.size, 2, none⟩ = some (.bool s.hn) ∧ w'.cell? ⟨w.heap.size, 3, none⟩ = some (.slice s.ha s.hN s.hc) ∧ w'.cell? ⟨w.heap.size, 4, none⟩ = some (.int .i64 s.bits)) (first | exact unhide HK _ (by first | with_reducible exact hD0 | with_reducible exact hD4 | with_reducible exact hD3 | with_reducible exact hD2 | with_reducible exact hD1) | go_keep)
    (first
      | (go_at_call 33; have hq := hD3; refine (cmp_int _ _ _ _ _ _ _ _ _ _ lo (-n) _ ((unhide HS).lo.below hD3) hint3).mono ?_; rintro r' w4 ⟨rfl, hb4⟩; have hD4 := bthen hD3 hb4)
      | (go_at_call 62; have hq := hD2; rw [unhide HW]; refine (numOf_int (-n) _ (by omega) (by omega)).mono ?_; rintro r' w3 ⟨neg3, a3, n3, c3, rfl, hint3, hb3⟩; have hD3 := bthen hD2 hb3)
      | (go_at_call 33; have hq := hD1; refine (cmp_int _ _ _ _ _ _ _ _ _ _ hi n _ ((unhide HS).hi.below hD1) hint1).mono ?_; rintro r' w2 ⟨rfl, hb2⟩; rw [unhide HC]; have hD2 := bthen hD1 hb2)
      | (go_at_call 62; refine (numOf_int n _ (by omega) (by omega)).mono ?_; rintro r' w1 ⟨neg1, a1, n1, c1, rfl, hint1, hb1⟩; have hD1 := bthen hD0 hb1))
  all_goals
    go_wp2_with fail
    go_ret
    exact ⟨by rw [← unhide HE]; rfl, bthen hBW hD4⟩

set_option maxRecDepth 100000 in
set_option maxHeartbeats 2000000 in
theorem refSmall_b (w : World) (s : Sp) (k : Nat) (n lo hi : Int) (hs : SpAt w s k lo hi) (h0 : -1000000000 ≤ n) (h1 : n ≤ 1000000000) (hc : cmpInt hi n = 0) (hh : hi ≤ n) :
    Calls Try.prog 150 #[.agg #[.bool s.ln, .slice s.la s.lN s.lc, .bool s.hn, .slice s.ha s.hN s.hc, .int .i64 s.bits], .int .i64 n] w fun r w' => r = .returned (.bool (smallB lo hi n)) ∧ Below w.heap.size w w' := by
  obtain ⟨W, hW⟩ : ∃ W, W = w.alloc (.cells #[.bool s.ln, .slice s.la s.lN s.lc, .bool s.hn, .slice s.ha s.hN s.hc, .int .i64 s.bits] 38) := ⟨_, rfl⟩
  have hBW : Below w.heap.size w W := by rw [hW]; exact bl1 _ _
  have A : SpC W w.heap.size s := by rw [hW]; exact spc_new w s _
  have HS := hide (hs.below hBW)
  have HK := hide (show ∀ w', Below W.heap.size W w' → (w'.cell? ⟨w.heap.size, 0, none⟩ = some (.bool s.ln) ∧ w'.cell? ⟨w.heap.size, 1, none⟩ = some (.slice s.la s.lN s.lc) ∧ w'.cell? ⟨w.heap.size, 2, none⟩ = some (.bool s.hn) ∧ w'.cell? ⟨w.heap.size, 3, none⟩ = some (.slice s.ha s.hN s.hc) ∧ w'.cell? ⟨w.heap.size, 4, none⟩ = some (.int .i64 s.bits)) from fun w' hB => ⟨(A.below hB).c0, (A.below hB).c1, (A.below hB).c2, (A.below hB).c3, (A.below hB).c4⟩)
  clear A hs
  have HE := hide (show decide (0 ≤ cmpInt lo (-n)) = smallB lo hi n by
    unfold smallB
    rw [Bool.eq_iff_iff, Bool.and_eq_true, decide_eq_true_iff, decide_eq_true_iff, decide_eq_true_iff]
    unfold cmpInt
    constructor
    · intro h; refine ⟨hh, ?_⟩; split at h <;> omega
    · intro h; rw [if_neg (by omega)]; split <;> omega)
  have HW := hide (show IntKind.i64.wrap (-n) = -n from i64_id _ (by omega) (by omega))
  have HC := hide hc
  clear hh hc
  go_enter Try.func150, Try.ntmps150
  go_wp2
  rw [← hW]
  clear hW
  obtain ⟨x0, x1, x2, x3, x4⟩ := unhide HK _ (Below.refl _ _)
  have hD0 : Below W.heap.size W W.drew := (Below.refl _ _).drew
  go_region_held3 (fun w' => w'.cell? ⟨w.heap.size, 0, none⟩ = some (.bool s.ln) ∧ w'.cell? ⟨w.heap.size, 1, none⟩ = some (.slice s.la s.lN s.lc) ∧ w'.cell? ⟨w.heap.size, 2, none⟩ = some (.bool s.hn) ∧ w'.cell? ⟨w.heap.size, 3, none⟩ = some (.slice s.ha s.hN s.hc) ∧ w'.cell? ⟨w.heap.size, 4, none⟩ = some (.int .i64 s.bits)) (first | exact unhide HK _ (by first | with_reducible exact hD0 | with_reducible exact hD4 | with_reducible exact hD3 | with_reducible exact hD2 | with_reducible exact hD1) | go_keep)
    (first
      | (go_at_call 33; have hq := hD3; refine (cmp_int _ _ _ _ _ _ _ _ _ _ lo (-n) _ ((unhide HS).lo.below hD3) hint3).mono ?_; rintro r' w4 ⟨rfl, hb4⟩; have hD4 := bthen hD3 hb4)
      | (go_at_call 62; have hq := hD2; rw [unhide HW]; refine (numOf_int (-n) _ (by omega) (by omega)).mono ?_; rintro r' w3 ⟨neg3, a3, n3, c3, rfl, hint3, hb3⟩; have hD3 := bthen hD2 hb3)
      | (go_at_call 33; have hq := hD1; refine (cmp_int _ _ _ _ _ _ _ _ _ _ hi n _ ((unhide HS).hi.below hD1) hint1).mono ?_; rintro r' w2 ⟨rfl, hb2⟩; rw [unhide HC]; have hD2 := bthen hD1 hb2)
      | (go_at_call 62; refine (numOf_int n _ (by omega) (by omega)).mono ?_; rintro r' w1 ⟨neg1, a1, n1, c1, rfl, hint1, hb1⟩; have hD1 := bthen hD0 hb1))
  all_goals
    go_wp2_with fail
    go_ret
    exact ⟨by rw [← unhide HE]; rfl, bthen hBW hD4⟩

set_option maxRecDepth 100000 in
set_option maxHeartbeats 2000000 in
theorem refSmall_c (w : World) (s : Sp) (k : Nat) (n lo hi : Int) (hs : SpAt w s k lo hi) (h0 : -1000000000 ≤ n) (h1 : n ≤ 1000000000) (hc : cmpInt hi n = 1) (hh : ¬ hi ≤ n) :
    Calls Try.prog 150 #[.agg #[.bool s.ln, .slice s.la s.lN s.lc, .bool s.hn, .slice s.ha s.hN s.hc, .int .i64 s.bits], .int .i64 n] w fun r w' => r = .returned (.bool (smallB lo hi n)) ∧ Below w.heap.size w w' := by
  obtain ⟨W, hW⟩ : ∃ W, W = w.alloc (.cells #[.bool s.ln, .slice s.la s.lN s.lc, .bool s.hn, .slice s.ha s.hN s.hc, .int .i64 s.bits] 38) := ⟨_, rfl⟩
  have hBW : Below w.heap.size w W := by rw [hW]; exact bl1 _ _
  have A : SpC W w.heap.size s := by rw [hW]; exact spc_new w s _
  have HS := hide (hs.below hBW)
  have HK := hide (show ∀ w', Below W.heap.size W w' → (w'.cell? ⟨w.heap.size, 0, none⟩ = some (.bool s.ln) ∧ w'.cell? ⟨w.heap.size, 1, none⟩ = some (.slice s.la s.lN s.lc) ∧ w'.cell? ⟨w.heap.size, 2, none⟩ = some (.bool s.hn) ∧ w'.cell? ⟨w.heap.size, 3, none⟩ = some (.slice s.ha s.hN s.hc) ∧ w'.cell? ⟨w.heap.size, 4, none⟩ = some (.int .i64 s.bits)) from fun w' hB => ⟨(A.below hB).c0, (A.below hB).c1, (A.below hB).c2, (A.below hB).c3, (A.below hB).c4⟩)
  clear A hs
  have HE := hide (show smallB lo hi n = false by unfold smallB; rw [decide_eq_false hh]; rfl)
  have HC := hide hc
  clear hh hc
  go_enter Try.func150, Try.ntmps150
  go_wp2
  rw [← hW]
  clear hW
  obtain ⟨x0, x1, x2, x3, x4⟩ := unhide HK _ (Below.refl _ _)
  have hD0 : Below W.heap.size W W.drew := (Below.refl _ _).drew
  refine wp_region_held_drew (S := fun w' => w'.cell? ⟨w.heap.size, 0, none⟩ = some (.bool s.ln) ∧ w'.cell? ⟨w.heap.size, 1, none⟩ = some (.slice s.la s.lN s.lc) ∧ w'.cell? ⟨w.heap.size, 2, none⟩ = some (.bool s.hn) ∧ w'.cell? ⟨w.heap.size, 3, none⟩ = some (.slice s.ha s.hN s.hc) ∧ w'.cell? ⟨w.heap.size, 4, none⟩ = some (.int .i64 s.bits)) (by kernel_rfl) ⟨(unhide HK _ hD0).1, (unhide HK _ hD0).2.1, (unhide HK _ hD0).2.2.1, (unhide HK _ hD0).2.2.2.1, (unhide HK _ hD0).2.2.2.2⟩ (fun hHeld => ?_)
  refine wpAnyH_take (i := 0) (oi := { dst := some 5, op := Go.Op.fieldAddr 38 (Go.Operand.tmp 2) 1, type := 0, pos := "func.go:26", after := #[], guard := none }) (v := .pointer (some ⟨w.heap.size, 2, none⟩)) rfl (by kernel_rfl) (by kernel_rfl) (by kernel_rfl) (fun _ _ _ h => h) (Or.inl ⟨by rfl, fun w hSw => ?_⟩) hHeld ?_
  · obtain ⟨s0, s1, s2, s3, s4⟩ := hSw; go_simp
  try simp only [Act.put, List.setIfInBounds_toArray, List.set_cons_zero, List.set_cons_succ]
  refine wpAnyH_take (i := 1) (oi := { dst := some 6, op := Go.Op.load 24 (Go.Operand.tmp 5), type := 24, pos := "func.go:26", after := #[{ on := 0, ground := Go.Ground.data }], guard := none }) (v := .agg #[.bool s.hn, .slice s.ha s.hN s.hc]) rfl (by kernel_rfl) (by kernel_rfl) (by kernel_rfl) (fun _ _ _ h => h) (Or.inl ⟨by rfl, fun w hSw => ?_⟩) hHeld ?_
  · obtain ⟨s0, s1, s2, s3, s4⟩ := hSw; go_simp
  try simp only [Act.put, List.setIfInBounds_toArray, List.set_cons_zero, List.set_cons_succ]
  refine wpAnyH_take (i := 2) (oi := { dst := some 7, op := Go.Op.move (Go.Operand.tmp 1), type := 3, pos := "func.go:26", after := #[], guard := none }) (v := .int .i64 n) rfl (by kernel_rfl) (by kernel_rfl) (by kernel_rfl) (fun _ _ _ h => h) (Or.inl ⟨by rfl, fun w hSw => ?_⟩) hHeld ?_
  · obtain ⟨s0, s1, s2, s3, s4⟩ := hSw; go_simp
  try simp only [Act.put, List.setIfInBounds_toArray, List.set_cons_zero, List.set_cons_succ]
  refine wpAnyH_ready (rs := [3]) (by kernel_rfl) (by simp) ?_
  refine AllReadyH.cons (o := { dst := some 8, op := Go.Op.call { callee := Go.Callee.value (Go.Operand.func 62), args := #[Go.Operand.tmp 7], argTypes := #[3] }, type := 24, pos := "func.go:26", after := #[{ on := 2, ground := Go.Ground.data }], guard := none }) rfl (fun K hK => ?_) AllReadyH.nil
  go_simp
  refine (numOf_int n _ (by omega) (by omega)).mono ?_
  rintro r' w1 ⟨neg1, a1, n1, c1, rfl, hint1, hb1⟩
  have hD1 : Below W.heap.size W w1 := bthen hD0 hb1
  go_wp2_with fail
  refine hK.out _ _ ⟨(unhide HK _ hD1).1, (unhide HK _ hD1).2.1, (unhide HK _ hD1).2.2.1, (unhide HK _ hD1).2.2.2.1, (unhide HK _ hD1).2.2.2.2⟩ (fun hHeld => ?_)
  clear hK K
  try simp only [Act.put, List.setIfInBounds_toArray, List.set_cons_zero, List.set_cons_succ]
  refine wpAnyH_ready (rs := [4]) (by kernel_rfl) (by simp) ?_
  refine AllReadyH.cons (o := { dst := some 9, op := Go.Op.call { callee := Go.Callee.value (Go.Operand.func 33), args := #[Go.Operand.tmp 6, Go.Operand.tmp 8], argTypes := #[24, 24] }, type := 3, pos := "func.go:26", after := #[{ on := 1, ground := Go.Ground.data }, { on := 3, ground := Go.Ground.data }, { on := 3, ground := Go.Ground.chain }], guard := none }) rfl (fun K hK => ?_) AllReadyH.nil
  go_simp
  refine (cmp_int _ _ _ _ _ _ _ _ _ _ hi n _ ((unhide HS).hi.below hD1) hint1).mono ?_
  rintro r' w2 ⟨rfl, hb2⟩
  rw [unhide HC]
  have hD2 := bthen hD1 hb2
  go_wp2_with fail
  refine hK.out _ _ ⟨(unhide HK _ hD2).1, (unhide HK _ hD2).2.1, (unhide HK _ hD2).2.2.1, (unhide HK _ hD2).2.2.2.1, (unhide HK _ hD2).2.2.2.2⟩ (fun hHeld => ?_)
  clear hK K
  try simp only [Act.put, List.setIfInBounds_toArray, List.set_cons_zero, List.set_cons_succ]
  refine wpAnyH_take (i := 5) (oi := { dst := some 10, op := Go.Op.binOp Go.BinOp.leq 3 (Go.Operand.tmp 9) (Go.Operand.const (Go.Value.int Go.IntKind.i64 0)) 3, type := 4, pos := "func.go:26", after := #[{ on := 4, ground := Go.Ground.data }], guard := none }) (v := .bool false) rfl (by kernel_rfl) (by kernel_rfl) (by kernel_rfl) (fun _ _ _ h => h) (Or.inl ⟨by rfl, fun w hSw => ?_⟩) hHeld ?_
  · obtain ⟨s0, s1, s2, s3, s4⟩ := hSw; go_simp
  try simp only [Act.put, List.setIfInBounds_toArray, List.set_cons_zero, List.set_cons_succ]
  refine wpAnyH_take (i := 6) (oi := { dst := some 11, op := Go.Op.move (Go.Operand.tmp 10), type := 4, pos := "func.go:26", after := #[{ on := 5, ground := Go.Ground.data }, { on := 4, ground := Go.Ground.chain }], guard := none }) (v := .bool false) rfl (by kernel_rfl) (by kernel_rfl) (by kernel_rfl) (fun _ _ _ h => h) (Or.inl ⟨by rfl, fun w hSw => ?_⟩) hHeld ?_
  · obtain ⟨s0, s1, s2, s3, s4⟩ := hSw; go_simp
  try simp only [Act.put, List.setIfInBounds_toArray, List.set_cons_zero, List.set_cons_succ]
  refine wpAnyH_take (i := 7) (oi := { dst := some 12, op := Go.Op.fieldAddr 38 (Go.Operand.tmp 2) 0, type := 0, pos := "func.go:26", after := #[{ on := 6, ground := Go.Ground.guard }], guard := some (6, true) }) (v := undef) rfl (by kernel_rfl) (by kernel_rfl) (by kernel_rfl) (fun _ _ _ h => h) (Or.inr ⟨by rfl, rfl⟩) hHeld ?_
  try simp only [Act.put, List.setIfInBounds_toArray, List.set_cons_zero, List.set_cons_succ]
  refine wpAnyH_take (i := 8) (oi := { dst := some 13, op := Go.Op.load 24 (Go.Operand.tmp 12), type := 24, pos := "func.go:26", after := #[{ on := 7, ground := Go.Ground.data }, { on := 6, ground := Go.Ground.guard }], guard := some (6, true) }) (v := undef) rfl (by kernel_rfl) (by kernel_rfl) (by kernel_rfl) (fun _ _ _ h => h) (Or.inr ⟨by rfl, rfl⟩) hHeld ?_
  try simp only [Act.put, List.setIfInBounds_toArray, List.set_cons_zero, List.set_cons_succ]
  refine wpAnyH_take (i := 9) (oi := { dst := some 14, op := Go.Op.move (Go.Operand.tmp 1), type := 3, pos := "func.go:26", after := #[{ on := 6, ground := Go.Ground.guard }], guard := some (6, true) }) (v := undef) rfl (by kernel_rfl) (by kernel_rfl) (by kernel_rfl) (fun _ _ _ h => h) (Or.inr ⟨by rfl, rfl⟩) hHeld ?_
  try simp only [Act.put, List.setIfInBounds_toArray, List.set_cons_zero, List.set_cons_succ]
  refine wpAnyH_take (i := 10) (oi := { dst := some 15, op := Go.Op.unOp Go.UnOp.neg 3 (Go.Operand.tmp 14), type := 3, pos := "func.go:26", after := #[{ on := 9, ground := Go.Ground.data }, { on := 6, ground := Go.Ground.guard }], guard := some (6, true) }) (v := undef) rfl (by kernel_rfl) (by kernel_rfl) (by kernel_rfl) (fun _ _ _ h => h) (Or.inr ⟨by rfl, rfl⟩) hHeld ?_
  try simp only [Act.put, List.setIfInBounds_toArray, List.set_cons_zero, List.set_cons_succ]
  refine wpAnyH_take (i := 11) (oi := { dst := some 16, op := Go.Op.call { callee := Go.Callee.value (Go.Operand.func 62), args := #[Go.Operand.tmp 15], argTypes := #[3] }, type := 24, pos := "func.go:26", after := #[{ on := 10, ground := Go.Ground.data }, { on := 6, ground := Go.Ground.chain }, { on := 6, ground := Go.Ground.guard }], guard := some (6, true) }) (v := undef) rfl (by kernel_rfl) (by kernel_rfl) (by kernel_rfl) (fun _ _ _ h => h) (Or.inr ⟨by rfl, rfl⟩) hHeld ?_
  try simp only [Act.put, List.setIfInBounds_toArray, List.set_cons_zero, List.set_cons_succ]
  refine wpAnyH_take (i := 12) (oi := { dst := some 17, op := Go.Op.call { callee := Go.Callee.value (Go.Operand.func 33), args := #[Go.Operand.tmp 13, Go.Operand.tmp 16], argTypes := #[24, 24] }, type := 3, pos := "func.go:26", after := #[{ on := 8, ground := Go.Ground.data }, { on := 11, ground := Go.Ground.data }, { on := 11, ground := Go.Ground.chain }, { on := 6, ground := Go.Ground.guard }], guard := some (6, true) }) (v := undef) rfl (by kernel_rfl) (by kernel_rfl) (by kernel_rfl) (fun _ _ _ h => h) (Or.inr ⟨by rfl, rfl⟩) hHeld ?_
  try simp only [Act.put, List.setIfInBounds_toArray, List.set_cons_zero, List.set_cons_succ]
  refine wpAnyH_take (i := 13) (oi := { dst := some 18, op := Go.Op.binOp Go.BinOp.geq 3 (Go.Operand.tmp 17) (Go.Operand.const (Go.Value.int Go.IntKind.i64 0)) 3, type := 4, pos := "func.go:26", after := #[{ on := 12, ground := Go.Ground.data }, { on := 6, ground := Go.Ground.guard }], guard := some (6, true) }) (v := undef) rfl (by kernel_rfl) (by kernel_rfl) (by kernel_rfl) (fun _ _ _ h => h) (Or.inr ⟨by rfl, rfl⟩) hHeld ?_
  try simp only [Act.put, List.setIfInBounds_toArray, List.set_cons_zero, List.set_cons_succ]
  refine wpAnyH_take (i := 14) (oi := { dst := some 19, op := Go.Op.pick (Go.Operand.tmp 11) (Go.Operand.tmp 18) (Go.Operand.const (Go.Value.bool false)), type := 4, pos := "func.go:26", after := #[{ on := 6, ground := Go.Ground.data }, { on := 13, ground := Go.Ground.data }], guard := none }) (v := .bool false) rfl (by kernel_rfl) (by kernel_rfl) (by kernel_rfl) (fun _ _ _ h => h) (Or.inl ⟨by rfl, fun w hSw => ?_⟩) hHeld ?_
  · obtain ⟨s0, s1, s2, s3, s4⟩ := hSw; go_simp
  try simp only [Act.put, List.setIfInBounds_toArray, List.set_cons_zero, List.set_cons_succ]
  refine wpAnyH_take (i := 15) (oi := { dst := some 4, op := Go.Op.assign (Go.Operand.tmp 19), type := 4, pos := "func.go:26", after := #[{ on := 14, ground := Go.Ground.data }, { on := 12, ground := Go.Ground.chain }, { on := 0, ground := Go.Ground.phase }, { on := 1, ground := Go.Ground.phase }, { on := 2, ground := Go.Ground.phase }, { on := 3, ground := Go.Ground.phase }, { on := 4, ground := Go.Ground.phase }, { on := 5, ground := Go.Ground.phase }, { on := 6, ground := Go.Ground.phase }, { on := 7, ground := Go.Ground.phase }, { on := 8, ground := Go.Ground.phase }, { on := 9, ground := Go.Ground.phase }, { on := 10, ground := Go.Ground.phase }, { on := 11, ground := Go.Ground.phase }, { on := 12, ground := Go.Ground.phase }, { on := 13, ground := Go.Ground.phase }, { on := 14, ground := Go.Ground.phase }], guard := none }) (v := .bool false) rfl (by kernel_rfl) (by kernel_rfl) (by kernel_rfl) (fun _ _ _ h => h) (Or.inl ⟨by rfl, fun w hSw => ?_⟩) hHeld ?_
  · obtain ⟨s0, s1, s2, s3, s4⟩ := hSw; go_simp
  try simp only [Act.put, List.setIfInBounds_toArray, List.set_cons_zero, List.set_cons_succ]
  refine wpAnyH_done (by kernel_rfl) ?_ _
  go_wp2_with fail
  go_ret
  exact ⟨by rw [unhide HE]; rfl, bthen hBW hD2⟩
theorem refSmall (w : World) (s : Sp) (k : Nat) (n lo hi : Int) (hs : SpAt w s k lo hi) (h0 : -1000000000 ≤ n) (h1 : n ≤ 1000000000) :
    Calls Try.prog 150 #[.agg #[.bool s.ln, .slice s.la s.lN s.lc, .bool s.hn, .slice s.ha s.hN s.hc, .int .i64 s.bits], .int .i64 n] w fun r w' => r = .returned (.bool (smallB lo hi n)) ∧ Below w.heap.size w w' := by
  rcases cmp3 hi n with ⟨h2, h3⟩ | ⟨h2, h3⟩ | ⟨h2, h3⟩
  · exact refSmall_a w s k n lo hi hs h0 h1 h2 (by omega)
  · exact refSmall_b w s k n lo hi hs h0 h1 h2 (by omega)
  · exact refSmall_c w s k n lo hi hs h0 h1 h2 (by omega)
end Go.Proofs.Ytgmnknmjainabaa

namespace Go.Proofs.Ytgmnknmjainabaa
set_option linter.unusedVariables false
set_option linter.unusedSimpArgs false
set_option linter.unnecessarySimpa false
open Go.RowKit
attribute [local go_sem ↓] Go.wp_at_zero Go.wp_at_succ

/-- One times a number of any sign, over another one. -/
def byI (a : Int × Int) (n d : Int) : Int × Int := (leastZ (pr (a.1 * n) (a.2 * n)) 1 / d, -(-(mostZ (pr (a.1 * n) (a.2 * n)) 1) / d))
theorem byI_nonneg {a : Int × Int} {n d : Int} (ha : a.1 ≤ a.2) (hn : 0 ≤ n) : byI a n d = scaleI a n d := by
  have h := Int.mul_le_mul_of_nonneg_right ha hn
  have e1 : leastZ (pr (a.1 * n) (a.2 * n)) 1 = a.1 * n := by
    simp only [leastZ, pr]; simp; omega
  have e2 : mostZ (pr (a.1 * n) (a.2 * n)) 1 = a.2 * n := by
    simp only [mostZ, pr]; simp; omega
  unfold byI scaleI
  rw [e1, e2]

set_option maxRecDepth 100000 in
set_option maxHeartbeats 4000000 in
theorem refBy (w : World) (s : Sp) (x y : Nm) (k k1 k2 b : Nat) (a : Int × Int) (n d : Int) (hs : SpAt w s k a.1 a.2) (hx : IntAt w x.neg x.a x.n x.cap k1 n) (hy : IntAt w y.neg y.a y.n y.cap k2 d) (hk : k ≤ 100000000) (hk1 : k1 ≤ 100000000) (hk2 : k2 ≤ 100000000) (hd : 0 < d) (hbits : s.bits = (b : Int)) :
    Calls Try.prog 64 #[.agg #[.bool s.ln, .slice s.la s.lN s.lc, .bool s.hn, .slice s.ha s.hN s.hc, .int .i64 s.bits], .agg #[.bool x.neg, .slice x.a x.n x.cap], .agg #[.bool y.neg, .slice y.a y.n y.cap]] w (SpanAns w b (k + k1 + 9) (byI a n d).1 (byI a n d).2) := by
  obtain ⟨W, hW⟩ : ∃ W, W = (((w.alloc (.cells #[.bool s.ln, .slice s.la s.lN s.lc, .bool s.hn, .slice s.ha s.hN s.hc, .int .i64 s.bits] 38)).alloc (.cells #[.bool x.neg, .slice x.a x.n x.cap] 24)).alloc (.cells #[.bool y.neg, .slice y.a y.n y.cap] 24)).alloc (.cells #[.bool false, .slice none 0 0, .bool false, .slice none 0 0, .int .i64 0] 38) := ⟨_, rfl⟩
  have hBW : Below w.heap.size w W := by rw [hW]; exact bl4 _ _ _ _ _
  have A : SpC W w.heap.size s := by rw [hW]; exact ⟨by simp [go_sem], by simp [go_sem], by simp [go_sem], by simp [go_sem], by simp [go_sem]⟩
  have X : NmC W (w.heap.size + 1) x := by rw [hW]; exact ⟨by simp [go_sem], by simp [go_sem]⟩
  have Y : NmC W (w.heap.size + 1 + 1) y := by rw [hW]; exact ⟨by simp [go_sem], by simp [go_sem]⟩
  have R : NoC W (w.heap.size + 1 + 1 + 1) := by rw [hW]; exact ⟨by simp [go_sem], by simp [go_sem], by simp [go_sem], by simp [go_sem], by simp [go_sem], fun o => by simp [go_sem]⟩
  have HS := hide (hs.below hBW)
  have HX := hide (hx.below hBW)
  have HY := hide (hy.below hBW)
  have HB := hide hbits
  have HK := hide (show ∀ w', Below W.heap.size W w' → (w'.cell? ⟨w.heap.size, 0, none⟩ = some (.bool s.ln) ∧ w'.cell? ⟨w.heap.size, 1, none⟩ = some (.slice s.la s.lN s.lc) ∧ w'.cell? ⟨w.heap.size, 2, none⟩ = some (.bool s.hn) ∧ w'.cell? ⟨w.heap.size, 3, none⟩ = some (.slice s.ha s.hN s.hc) ∧ w'.cell? ⟨w.heap.size + 1, 0, none⟩ = some (.bool x.neg) ∧ w'.cell? ⟨w.heap.size + 1, 1, none⟩ = some (.slice x.a x.n x.cap)) from fun w' hB => ⟨(A.below hB).c0, (A.below hB).c1, (A.below hB).c2, (A.below hB).c3, (X.below hB).c0, (X.below hB).c1⟩)
  clear hs hx hy hbits
  go_enter Try.func64, Try.ntmps64
  go_wp2
  rw [← hW]
  clear hW
  obtain ⟨x0, x1, x2, x3, x4, x5⟩ := unhide HK _ (Below.refl _ _)
  have hB0 : Below W.heap.size W W.drew := (Below.refl _ _).drew
  go_region_held3 (fun w' => w'.cell? ⟨w.heap.size, 0, none⟩ = some (.bool s.ln) ∧ w'.cell? ⟨w.heap.size, 1, none⟩ = some (.slice s.la s.lN s.lc) ∧ w'.cell? ⟨w.heap.size, 2, none⟩ = some (.bool s.hn) ∧ w'.cell? ⟨w.heap.size, 3, none⟩ = some (.slice s.ha s.hN s.hc) ∧ w'.cell? ⟨w.heap.size + 1, 0, none⟩ = some (.bool x.neg) ∧ w'.cell? ⟨w.heap.size + 1, 1, none⟩ = some (.slice x.a x.n x.cap)) (exact unhide HK _ (by first | with_reducible exact hB0 | with_reducible exact balloc hB2 _ | with_reducible exact hB2 | with_reducible exact hB1))
    (first
      | (go_at_call 52; have hq := hB1; refine (mul_int _ _ _ _ _ _ _ _ k k1 a.2 n _ ((unhide HS).hi.below hB1) ((unhide HX).below hB1) (by omega) (by omega)).mono ?_; rintro r w2 ⟨neg2, a2, n2, c2, rfl, hint2, hb2⟩; have hint1 := hint1.below hb2; have hB2 := bthen hB1 hb2)
      | (go_at_call 52; refine (mul_int _ _ _ _ _ _ _ _ k k1 a.1 n _ ((unhide HS).lo.below hB0) ((unhide HX).below hB0) (by omega) (by omega)).mono ?_; rintro r w1 ⟨neg1, a1, n1, c1, rfl, hint1, hb1⟩; have hB1 := bthen hB0 hb1))
  obtain ⟨w5, hw5⟩ : ∃ w5, w5 = w2.alloc (.cells #[.bool neg1, .slice a1 n1 c1, .bool neg2, .slice a2 n2 c2] 24) := ⟨_, rfl⟩
  have hB5 : Below W.heap.size W w5 := by rw [hw5]; exact balloc hB2 _
  have hN : Nums w5 w2.heap.size 2 (k + k1) (pr ⟨neg1, a1, n1, c1⟩ ⟨neg2, a2, n2, c2⟩) (pr (a.1 * n) (a.2 * n)) := by rw [hw5]; exact nums2' w2 _ rfl ⟨neg1, a1, n1, c1⟩ ⟨neg2, a2, n2, c2⟩ _ _ _ _ hint1 hint2
  have R5 := R.below hB5
  have hl1 := R5.lt
  have A5 := A.below hB5
  have Y5 := Y.below hB5
  have HY5 := hide ((unhide HY).below hB5)
  have lA := A5.lt
  have lY := Y5.lt
  have HK1 := hide (show ∀ w', Below w5.heap.size w5 w' → (w'.cell? ⟨w.heap.size + 1 + 1, 0, none⟩ = some (.bool y.neg) ∧ w'.cell? ⟨w.heap.size + 1 + 1, 1, none⟩ = some (.slice y.a y.n y.cap) ∧ w'.cell? ⟨w.heap.size, 4, none⟩ = some (.int .i64 s.bits)) from fun w' hB => ⟨(Y5.below hB).c0, (Y5.below hB).c1, (A5.below hB).c4⟩)
  have hD0 : Below w5.heap.size w5 w5.drew := (Below.refl _ _).drew
  clear x0 x1 x2 x3 x4 x5 hb1 hb2 hint1 hint2 hB1 hB2 hB0 HK HS HX HY A X Y R
  go_wp2
  rw [← hw5]
  clear hw5
  obtain ⟨x0, x1, x2⟩ := unhide HK1 _ (Below.refl _ _)
  have n1 : w.heap.size + 1 + 1 + 1 ≠ w.heap.size + 1 + 1 := by omega
  have n2 : w.heap.size + 1 + 1 ≠ w.heap.size + 1 + 1 + 1 := by omega
  have n3 : w.heap.size + 1 + 1 + 1 ≠ w.heap.size := by omega
  have n4 : w.heap.size ≠ w.heap.size + 1 + 1 + 1 := by omega
  go_region_held3 (fun w' => w'.cell? ⟨w.heap.size + 1 + 1, 0, none⟩ = some (.bool y.neg) ∧ w'.cell? ⟨w.heap.size + 1 + 1, 1, none⟩ = some (.slice y.a y.n y.cap) ∧ w'.cell? ⟨w.heap.size, 4, none⟩ = some (.int .i64 s.bits)) (first | exact unhide HK1 _ (by first | with_reducible exact hD0 | with_reducible exact hD4 | with_reducible exact hD3 | with_reducible exact hD2 | with_reducible exact hD1) | go_keep)
    (first
      | (go_at_call 100; have hq := hD3; refine (refUp_any _ _ _ _ _ _ _ _ (k + k1) k2 _ d _ hint8 ((unhide HY5).below hD3) (by omega) (by omega) hd).mono ?_; rintro r w9 ⟨neg9, a9, n9, c9, rfl, hint9, hb9⟩; have hint7 := (hint7.below hb8).below hb9; have hD4 := bthen hD3 hb9; obtain ⟨q0, q1, q2, q3, q4, q5⟩ := R5.below hD4; obtain ⟨y0, y1, y2⟩ := unhide HK1 _ hD4)
      | (go_at_call 92; have hq := hD2; refine (greatest_int _ 1 _ (k + k1) _ _ _ (hN.below hD2) (by omega)).mono ?_; rintro r w8 ⟨neg8, a8, n8, c8, rfl, hint8, hb8⟩; have hD3 := bthen hD2 hb8)
      | (go_at_call 99; have hq := hD1; refine (refDown_any _ _ _ _ _ _ _ _ (k + k1) k2 _ d _ hint6 ((unhide HY5).below hD1) (by omega) (by omega) hd).mono ?_; rintro r w7 ⟨neg7, a7, n7, c7, rfl, hint7, hb7⟩; have hD2 := bthen hD1 hb7)
      | (go_at_call 91; refine (least_int _ 1 _ (k + k1) _ _ _ (hN.below hD0) (by omega)).mono ?_; rintro r w6 ⟨neg6, a6, n6, c6, rfl, hint6, hb6⟩; have hD1 := bthen hD0 hb6))
  all_goals
    go_wp2_with fail
    refine bodyPost_ret (v := .agg #[.bool neg7, .slice a7 n7 c7, .bool neg9, .slice a9 n9 c9, .int .i64 s.bits]) (by simp [results, Try.results64, go_sem, q0, q1, q2, q3, q4]) rfl ⟨⟨neg7, a7, n7, c7, neg9, a9, n9, c9, s.bits⟩, rfl, unhide HB, ?_, ?_⟩
    · exact SpAt.put5 ⟨hint7.mono (by omega), hint9.mono (by omega)⟩ q0 q1 q2 q3 q4 _ _ _ _ _
    · exact set5 (bthen (bthen hBW hB5) hD4) (by omega) _ _ _ _ _
end Go.Proofs.Ytgmnknmjainabaa

namespace Go.Proofs.Ytgmnknmjainabaa
set_option linter.unusedVariables false
set_option linter.unusedSimpArgs false
set_option linter.unnecessarySimpa false
open Go.RowKit
attribute [local go_sem ↓] Go.wp_at_zero Go.wp_at_succ

theorem NoC.vr {w : World} {B : Nat} (h : NoC w B) (u : Sp) : VrC (put5w w B u) B u := by
  refine ⟨?_, fz_put5 h.fz u⟩
  obtain ⟨q0, q1, q2, q3, q4, q5⟩ := h
  constructor <;> simp [go_sem, q0, q1, q2, q3, q4]
theorem NoC.spat {w : World} {B : Nat} (h : NoC w B) {s : Sp} {k : Nat} {lo hi : Int} (hs : SpAt w s k lo hi) (u : Sp) : SpAt (put5w w B u) s k lo hi := SpAt.put5 hs h.c0 h.c1 h.c2 h.c3 h.c4 _ _ _ _ _
/-- Two variables that were made behind world W. -/
def TwoP (W wx : World) (b k1 k2 : Nat) (a c : Int × Int) (p q : Value) : Prop :=
  ∃ (B B' : Nat) (x y : Sp), p = .pointer (some ⟨B, 0, none⟩) ∧ q = .pointer (some ⟨B', 0, none⟩) ∧ W.heap.size ≤ B ∧ W.heap.size ≤ B' ∧ B ≠ B' ∧ VrC wx B x ∧ VrC wx B' y ∧ SpAt wx x k1 a.1 a.2 ∧ SpAt wx y k2 c.1 c.2 ∧ x.bits = (b : Int) ∧ y.bits = (b : Int) ∧ Below W.heap.size W wx
theorem vr_new (w : World) (x : Sp) (T : TypeId) : VrC (w.alloc (.cells #[.bool x.ln, .slice x.la x.lN x.lc, .bool x.hn, .slice x.ha x.hN x.hc, .int .i64 x.bits] T)) w.heap.size x := ⟨spc_new w x T, fun o => by simp [go_sem]⟩
theorem vr_new' (w : World) (B : Nat) (hB : w.heap.size = B) (x : Sp) (T : TypeId) : VrC (w.alloc (.cells #[.bool x.ln, .slice x.la x.lN x.lc, .bool x.hn, .slice x.ha x.hN x.hc, .int .i64 x.bits] T)) B x := by subst hB; exact vr_new w x T
variable {W w2 : World} {b k1 k2 : Nat} {a c : Int × Int} {x y : Sp} {T : TypeId}
theorem twoP_aa (hb : Below W.heap.size W w2) (ix : SpAt w2 x k1 a.1 a.2) (iy : SpAt w2 y k2 c.1 c.2) (bx : x.bits = (b : Int)) (by_ : y.bits = (b : Int)) :
    TwoP W ((w2.alloc (.cells #[.bool x.ln, .slice x.la x.lN x.lc, .bool x.hn, .slice x.ha x.hN x.hc, .int .i64 x.bits] T)).alloc (.cells #[.bool y.ln, .slice y.la y.lN y.lc, .bool y.hn, .slice y.ha y.hN y.hc, .int .i64 y.bits] T)) b k1 k2 a c (.pointer (some ⟨w2.heap.size, 0, none⟩)) (.pointer (some ⟨w2.heap.size + 1, 0, none⟩)) :=
  ⟨_, _, x, y, rfl, rfl, hb.size, Nat.le_succ_of_le hb.size, Nat.ne_of_lt (Nat.lt_succ_self _), (vr_new w2 x T).below (bl1 _ _), vr_new' _ _ (by simp) y T, ix.below (bl2 _ _ _), iy.below (bl2 _ _ _), bx, by_, bthen hb (bl2 _ _ _)⟩
theorem TwoP.swap {wx : World} {p q : Value} (h : TwoP W wx b k1 k2 a c p q) : TwoP W wx b k2 k1 c a q p := by
  obtain ⟨B, B', x, y, h1, h2, h3, h4, h5, h6, h7, h8, h9, h10, h11, h12⟩ := h
  exact ⟨B', B, y, x, h2, h1, h4, h3, fun e => h5 e.symm, h7, h6, h9, h8, h11, h10, h12⟩
theorem twoP_aa' (hb : Below W.heap.size W w2) (ix : SpAt w2 x k1 a.1 a.2) (iy : SpAt w2 y k2 c.1 c.2) (bx : x.bits = (b : Int)) (by_ : y.bits = (b : Int)) :
    TwoP W ((w2.alloc (.cells #[.bool y.ln, .slice y.la y.lN y.lc, .bool y.hn, .slice y.ha y.hN y.hc, .int .i64 y.bits] T)).alloc (.cells #[.bool x.ln, .slice x.la x.lN x.lc, .bool x.hn, .slice x.ha x.hN x.hc, .int .i64 x.bits] T)) b k1 k2 a c (.pointer (some ⟨w2.heap.size + 1, 0, none⟩)) (.pointer (some ⟨w2.heap.size, 0, none⟩)) := (twoP_aa hb iy ix by_ bx).swap
theorem twoP_sa {B : Nat} (hb : Below W.heap.size W w2) (ix : SpAt w2 x k1 a.1 a.2) (iy : SpAt w2 y k2 c.1 c.2) (bx : x.bits = (b : Int)) (by_ : y.bits = (b : Int)) (g : NoC w2 B) (h1 : W.heap.size ≤ B) :
    TwoP W ((put5w w2 B x).alloc (.cells #[.bool y.ln, .slice y.la y.lN y.lc, .bool y.hn, .slice y.ha y.hN y.hc, .int .i64 y.bits] T)) b k1 k2 a c (.pointer (some ⟨B, 0, none⟩)) (.pointer (some ⟨w2.heap.size, 0, none⟩)) := by
  have hx := g.vr x
  have ix' := g.spat ix x
  have iy' := g.spat iy x
  have hl := g.lt
  have hs := size_put w2 B x
  have hb' := below_put hb h1 x
  generalize put5w w2 B x = V at *
  rw [← hs]
  exact ⟨_, _, x, y, rfl, rfl, h1, hb'.size, by omega, hx.below (bl1 _ _), vr_new V y T, ix'.below (bl1 _ _), iy'.below (bl1 _ _), bx, by_, bthen hb' (bl1 _ _)⟩
theorem twoP_as {B : Nat} (hb : Below W.heap.size W w2) (ix : SpAt w2 x k1 a.1 a.2) (iy : SpAt w2 y k2 c.1 c.2) (bx : x.bits = (b : Int)) (by_ : y.bits = (b : Int)) (g : NoC w2 B) (h1 : W.heap.size ≤ B) :
    TwoP W ((put5w w2 B y).alloc (.cells #[.bool x.ln, .slice x.la x.lN x.lc, .bool x.hn, .slice x.ha x.hN x.hc, .int .i64 x.bits] T)) b k1 k2 a c (.pointer (some ⟨w2.heap.size, 0, none⟩)) (.pointer (some ⟨B, 0, none⟩)) := (twoP_sa hb iy ix by_ bx g h1).swap
theorem twoP_ss {B B' : Nat} (hb : Below W.heap.size W w2) (ix : SpAt w2 x k1 a.1 a.2) (iy : SpAt w2 y k2 c.1 c.2) (bx : x.bits = (b : Int)) (by_ : y.bits = (b : Int)) (g : NoC w2 B) (g' : NoC w2 B') (h1 : W.heap.size ≤ B) (h2 : W.heap.size ≤ B') (hne : B ≠ B') :
    TwoP W (put5w (put5w w2 B x) B' y) b k1 k2 a c (.pointer (some ⟨B, 0, none⟩)) (.pointer (some ⟨B', 0, none⟩)) := by
  have hx := g.vr x
  have ix' := g.spat ix x
  have iy' := g.spat iy x
  have g2 := g'.off (Ne.symm hne) x
  have hb' := below_put hb h1 x
  generalize put5w w2 B x = V at *
  exact ⟨_, _, x, y, rfl, rfl, h1, h2, hne, hx.off hne y, g2.vr y, g2.spat ix' y, g2.spat iy' y, bx, by_, below_put hb' h2 y⟩
end Go.Proofs.Ytgmnknmjainabaa

namespace Go.Proofs.Ytgmnknmjainabaa
set_option linter.unusedVariables false
set_option linter.unusedSimpArgs false
set_option linter.unnecessarySimpa false
open Go.RowKit
attribute [local go_sem ↓] Go.wp_at_zero Go.wp_at_succ

theorem refTimes_iv (w : World) (s t : Sp) (k b : Nat) (a c : Int × Int) (hs : SpAt w s k a.1 a.2) (ht : SpAt w t k c.1 c.2) (hk : k ≤ 300000000) (hb : s.bits = (b : Int)) (hbm : b ≤ 1000000) :
    Calls Try.prog 36 #[.agg #[.bool s.ln, .slice s.la s.lN s.lc, .bool s.hn, .slice s.ha s.hN s.hc, .int .i64 s.bits], .agg #[.bool t.ln, .slice t.la t.lN t.lc, .bool t.hn, .slice t.ha t.hN t.hc, .int .i64 t.bits]] w (SpanAns w b (k + k + 8) (mulI b a c).1 (mulI b a c).2) :=
  (refTimes_int w s t k a.1 a.2 c.1 c.2 hs ht hk (by omega) (by omega)).mono fun r w' h => by
    rw [hb, downZ_nat, downZ_nat] at h; exact h
theorem refPlus_iv (w : World) (s t : Sp) (k b : Nat) (a c : Int × Int) (hs : SpAt w s k a.1 a.2) (ht : SpAt w t k c.1 c.2) (hk : k ≤ 700000000) (hb : s.bits = (b : Int)) :
    Calls Try.prog 34 #[.agg #[.bool s.ln, .slice s.la s.lN s.lc, .bool s.hn, .slice s.ha s.hN s.hc, .int .i64 s.bits], .agg #[.bool t.ln, .slice t.la t.lN t.lc, .bool t.hn, .slice t.ha t.hN t.hc, .int .i64 t.bits]] w (SpanAns w b (k + 1) (addI a c).1 (addI a c).2) :=
  (refPlus_int w s t k a.1 a.2 c.1 c.2 hs ht hk).mono fun r w' h => by rw [hb] at h; exact h
theorem small_reach {lo hi : Int} : smallB lo hi 1 = decide (reachI (lo, hi) ≤ 1) := by
  unfold smallB reachI maxZ
  rw [Bool.eq_iff_iff, Bool.and_eq_true, decide_eq_true_iff, decide_eq_true_iff, decide_eq_true_iff]
  simp only []
  split <;> omega
/-- Where tailsureref.lowExp is behind some rounds. -/
structure LowSt (w wr : World) (B5 B6 B7 b K : Nat) (U Pp Sm : Sp) (f : Nat → Int × Int) (X : Int) (i : Nat) : Prop where
  u : VrC wr B5 U
  p : VrC wr B6 Pp
  s : VrC wr B7 Sm
  up : SpAt wr U K (f i).1 (f i).2
  pp : SpAt wr Pp K X X
  sp : SpAt wr Sm K (sumI f i).1 (sumI f i).2
  ub : U.bits = (b : Int)
  pb : Pp.bits = (b : Int)
  sb : Sm.bits = (b : Int)
  no : NoC wr (w.heap.size + 1)
  be : Below w.heap.size w wr
  l5 : w.heap.size + 1 < B5
  l6 : w.heap.size + 1 < B6
  l7 : w.heap.size + 1 < B7
  n56 : B5 ≠ B6
  n57 : B5 ≠ B7
  n67 : B6 ≠ B7
theorem LowSt.below {w wr wr' : World} {B5 B6 B7 b K : Nat} {U Pp Sm : Sp} {f : Nat → Int × Int} {X : Int} {i : Nat} (h : LowSt w wr B5 B6 B7 b K U Pp Sm f X i) (hb : Below wr.heap.size wr wr') : LowSt w wr' B5 B6 B7 b K U Pp Sm f X i :=
  ⟨h.u.below hb, h.p.below hb, h.s.below hb, h.up.below hb, h.pp.below hb, h.sp.below hb, h.ub, h.pb, h.sb, h.no.below hb, bthen h.be hb, h.l5, h.l6, h.l7, h.n56, h.n57, h.n67⟩

set_option maxRecDepth 100000 in
set_option maxHeartbeats 4000000 in
theorem lowExp_iv (w : World) (x : Nm) (k b N K : Nat) (X : Int) (hx : IntAt w x.neg x.a x.n x.cap k X) (hkK : k ≤ K) (h0 : 0 ≤ X) (h1 : X ≤ Q b) (hb : b ≤ 100000) (hN : LowStop (expT b (X, X)) N) (hNb : N ≤ b + 4) (hK : Q (b + 20) < P K) (hK2 : K ≤ 10000000) (hK3 : b / 16 + 18 ≤ K) :
    Calls Try.prog 140 #[.agg #[.bool x.neg, .slice x.a x.n x.cap], .int .i64 b] w (SpanAns w b (K + 1) (doneT (expT b (X, X)) N).1 (doneT (expT b (X, X)) N).2) := by
  obtain ⟨W, hW⟩ : ∃ W, W = (w.alloc (.cells #[.bool x.neg, .slice x.a x.n x.cap] 24)).alloc (.cells #[.bool false, .slice none 0 0, .bool false, .slice none 0 0, .int .i64 0] 38) := ⟨_, rfl⟩
  have hBW : Below w.heap.size w W := by rw [hW]; exact bl2 _ _ _
  have A : NmC W w.heap.size x := by rw [hW]; exact ⟨by simp [go_sem], by simp [go_sem]⟩
  have R : NoC W (w.heap.size + 1) := by rw [hW]; exact ⟨by simp [go_sem], by simp [go_sem], by simp [go_sem], by simp [go_sem], by simp [go_sem], fun o => by simp [go_sem]⟩
  have HX := hide ((hx.below hBW).mono hkK)
  have lR := R.lt
  have hQb := Q_pos b
  have hQK : Q b * 1048576 < P K := by
    have e : Q (b + 20) = Q b * Q 20 := Q_add b 20
    have e2 : Q 20 = 1048576 := rfl
    rw [e, e2] at hK; exact hK
  have HFIT : Hid (∀ j, j ≤ N → -P K < (expT b (X, X) j).1 ∧ (expT b (X, X) j).2 < P K) := hide (fun j _ => by
    obtain ⟨g1, g2, g3, g4⟩ := low_absB h0 h1 j
    omega)
  have HFITS : Hid (∀ j, j ≤ N → -P K < (sumI (expT b (X, X)) j).1 ∧ (sumI (expT b (X, X)) j).2 < P K) := hide (fun j hj => by
    obtain ⟨g1, g2, g3, g4⟩ := low_sumabs h0 h1 j
    have := Int.mul_le_mul_of_nonneg_right (show (j : Int) + 1 ≤ 1048575 by omega) (show 0 ≤ Q b by omega)
    omega)
  have HN := hide hN
  have HK := hide (show ∀ w', Below W.heap.size W w' → (w'.cell? ⟨w.heap.size, 0, none⟩ = some (.bool x.neg) ∧ w'.cell? ⟨w.heap.size, 1, none⟩ = some (.slice x.a x.n x.cap)) from fun w' hB => ⟨(A.below hB).c0, (A.below hB).c1⟩)
  clear hx hN hQK
  go_enter Try.func140, Try.ntmps140
  go_wp2
  rw [← hW]
  clear hW
  obtain ⟨x0, x1⟩ := unhide HK _ (Below.refl _ _)
  go_cut [5, 6] (fun p q wx => TwoP W wx b K K (expT b (X, X) 0) (X, X) p q)
  case first =>
    go_region_held3 (fun w' => w'.cell? ⟨w.heap.size, 0, none⟩ = some (.bool x.neg) ∧ w'.cell? ⟨w.heap.size, 1, none⟩ = some (.slice x.a x.n x.cap)) (exact unhide HK _ (by repeat' (first | with_reducible exact hBU1 | with_reducible exact Below.refl _ _ | with_reducible refine Below.drew ?_ | with_reducible refine balloc ?_ _ | with_reducible refine Below.setCell ?_ (by first | with_reducible exact Nat.le_refl _ | with_reducible exact Nat.le_succ _ | with_reducible exact hlU1 | with_reducible exact Nat.le_succ_of_le hlU1) _)))
      (first
        | (go_at_call 118; refine (refWhole _ 1 b hb (by decide) (by decide)).mono ?_; rintro r wU1 ⟨vU1, rfl, hvbU1, hintU1, hbU1⟩; have HVBU1 := hide hvbU1; clear hvbU1; have hBU1 : Below W.heap.size W wU1 := (by first | with_reducible exact bthen (Below.refl _ _).drew hbU1 | with_reducible exact bthen (bl1 _ _).drew hbU1 | with_reducible exact bthen (bl2 _ _ _).drew hbU1); (first | with_reducible have gaU1 := ((noc_new W 38).below (Below.refl _ _).drew).below hbU1 | with_reducible have gaU1 := ((noc_new W 38).below (bl1 _ _).drew).below hbU1 | skip); (try with_reducible have gbU1 := ((noc_new' (W.alloc _) (W.heap.size + 1) (hs1 _ _) 38).below (Below.refl _ _).drew).below hbU1); have hlU1 := hBU1.size; (try have eaU1 := gaU1); (try obtain ⟨zaU10, zaU11, zaU12, zaU13, zaU14, zaU15⟩ := eaU1); (try have yaU1 := gaU1.lt); (try have ebU1 := gbU1); (try obtain ⟨zbU10, zbU11, zbU12, zbU13, zbU14, zbU15⟩ := ebU1); (try have ybU1 := gbU1.lt)))
    all_goals
      have hiXU := (show SpAt wU1 vU1 K (expT b (X, X) 0).1 (expT b (X, X) 0).2 by rw [show (expT b (X, X) 0).1 = 1 * Q b from (Int.one_mul _).symm, show (expT b (X, X) 0).2 = 1 * Q b from (Int.one_mul _).symm]; exact hintU1.mono hK3)
      have hiYU := (show SpAt wU1 ⟨x.neg, x.a, x.n, x.cap, x.neg, x.a, x.n, x.cap, (b : Int)⟩ K X X from ⟨(unhide HX).below hBU1, (unhide HX).below hBU1⟩)
      go_wp2_with fail
      go_meet
      first
        | with_reducible exact twoP_aa (x := vU1) (y := ⟨x.neg, x.a, x.n, x.cap, x.neg, x.a, x.n, x.cap, (b : Int)⟩) hBU1 hiXU hiYU (unhide HVBU1) rfl
        | with_reducible exact twoP_aa' (x := vU1) (y := ⟨x.neg, x.a, x.n, x.cap, x.neg, x.a, x.n, x.cap, (b : Int)⟩) hBU1 hiXU hiYU (unhide HVBU1) rfl
        | with_reducible exact twoP_sa (x := vU1) (y := ⟨x.neg, x.a, x.n, x.cap, x.neg, x.a, x.n, x.cap, (b : Int)⟩) hBU1 hiXU hiYU (unhide HVBU1) rfl (by assumption) (by first | with_reducible exact Nat.le_refl _ | with_reducible exact Nat.le_succ _ | with_reducible exact hlU1 | with_reducible exact Nat.le_succ_of_le hlU1)
        | with_reducible exact twoP_as (x := vU1) (y := ⟨x.neg, x.a, x.n, x.cap, x.neg, x.a, x.n, x.cap, (b : Int)⟩) hBU1 hiXU hiYU (unhide HVBU1) rfl (by assumption) (by first | with_reducible exact Nat.le_refl _ | with_reducible exact Nat.le_succ _ | with_reducible exact hlU1 | with_reducible exact Nat.le_succ_of_le hlU1)
        | with_reducible exact twoP_ss (x := vU1) (y := ⟨x.neg, x.a, x.n, x.cap, x.neg, x.a, x.n, x.cap, (b : Int)⟩) hBU1 hiXU hiYU (unhide HVBU1) rfl (by assumption) (by assumption) (by first | with_reducible exact Nat.le_refl _ | with_reducible exact Nat.le_succ _ | with_reducible exact hlU1 | with_reducible exact Nat.le_succ_of_le hlU1) (by first | with_reducible exact Nat.le_refl _ | with_reducible exact Nat.le_succ _ | with_reducible exact hlU1 | with_reducible exact Nat.le_succ_of_le hlU1) (by omega)
  case rest =>
  obtain ⟨BU, CU, xU, yU, rfl, rfl, hHU, hJU, hneU, XU, YU, hxU, hyU, bxU, byU, hblU⟩ := hcut
  replace R := R.below hblU
  replace hBW := bthen hBW hblU
  have lx := XU.lt
  have ly := YU.lt
  have lR2 := R.lt
  obtain ⟨⟨y0, y1, y2, y3, y4⟩, y5⟩ := XU
  have XU : VrC wc BU xU := ⟨⟨y0, y1, y2, y3, y4⟩, y5⟩
  have st0 : LowSt w (wc.alloc (.cells #[.bool xU.ln, .slice xU.la xU.lN xU.lc, .bool xU.hn, .slice xU.ha xU.hN xU.hc, .int .i64 xU.bits] 38)) BU CU wc.heap.size b K xU yU xU (expT b (X, X)) X 0 := ⟨XU.below (bl1 _ _), YU.below (bl1 _ _), vr_new wc xU _, hxU.below (bl1 _ _), hyU.below (bl1 _ _), hxU.below (bl1 _ _), bxU, byU, bxU, R.below (bl1 _ _), balloc hBW _, by omega, by omega, by omega, hneU, by omega, by omega⟩
  have HBX := hide bxU
  clear bxU byU hxU hyU HX HK A x0 x1
  go_wp2_with fail
  go_loopw [8] (fun nn wr => ∃ (i : Nat) (U Pp Sm : Sp), nn = .int .i64 ((i : Int) + 1) ∧ i < N ∧ LowSt w wr BU CU wc.heap.size b K U Pp Sm (expT b (X, X)) X i) (fun nn _ => N + 1 - (intOf nn).toNat)
  case atStart => exact ⟨0, xU, yU, xU, rfl, by have := (unhide HN).1; omega, st0⟩
  case round =>
    obtain ⟨i, U, Pp, Sm, rfl, hi, st⟩ := hrel
    have hlim : (i : Int) + 1 < 3 * (b : Int) + 20 := by omega
    clear y0 y1 y2 y3 y4 y5 XU
    obtain ⟨⟨y0, y1, y2, y3, y4⟩, y5⟩ := st.u
    obtain ⟨⟨z0, z1, z2, z3, z4⟩, z5⟩ := st.p
    go_wp2_with fail
    refine (refTimes_iv _ U Pp K b (expT b (X, X) i) (X, X) st.up st.pp (by omega) st.ub (by omega)).mono ?_
    rintro r w1 ⟨v1, rfl, hvb1, hvp1, hb1⟩
    replace st := st.below hb1
    have HV1 := hide hvb1
    clear hb1 hvb1 y0 y1 y2 y3 y4 y5 z0 z1 z2 z3 z4 z5
    go_wp2_with fail
    refine (numOf_int 1 _ (by decide) (by decide)).mono ?_
    rintro r w2 ⟨neg2, a2, n2, c2, rfl, hint2, hb2⟩
    replace st := st.below hb2
    replace hvp1 := hvp1.below hb2
    clear hb2
    go_wp2_with fail
    refine (numOf_int ((i : Int) + 1) _ (by omega) (by omega)).mono ?_
    rintro r w3 ⟨neg3, a3, n3, c3, rfl, hint3, hb3⟩
    replace st := st.below hb3
    replace hvp1 := hvp1.below hb3
    replace hint2 := hint2.below hb3
    clear hb3
    go_wp2_with fail
    refine (refBy _ v1 ⟨neg2, a2, n2, c2⟩ ⟨neg3, a3, n3, c3⟩ _ _ _ b _ 1 ((i : Int) + 1) hvp1 hint2 hint3 (by omega) (by omega) (by omega) (by omega) (unhide HV1)).mono ?_
    rintro r w4 ⟨v4, rfl, hvb4, hvp4, hb4⟩
    rw [byI_nonneg (mulI_le b) (by omega)] at hvp4
    have e4 : scaleI (mulI b (expT b (X, X) i) (X, X)) 1 ((i : Int) + 1) = expT b (X, X) (i + 1) := rfl
    rw [e4] at hvp4
    replace hvp4 := hvp4.fits (K := K) (expT_le b (X, X) _) (unhide HFIT _ (by omega)).1 (unhide HFIT _ (by omega)).2
    replace st := st.below hb4
    have HV4 := hide hvb4
    clear hb4 hvb4 hvp1 hint2 hint3 e4
    obtain ⟨V4, hV4⟩ : ∃ V4, V4 = put5w w4 BU v4 := ⟨_, rfl⟩
    have U4 : VrC V4 BU v4 := by rw [hV4]; exact st.u.put v4
    have P4 : VrC V4 CU Pp := by rw [hV4]; exact st.p.off (Ne.symm st.n56) v4
    have S4 : VrC V4 wc.heap.size Sm := by rw [hV4]; exact st.s.off (Ne.symm st.n57) v4
    have up4 : SpAt V4 v4 K (expT b (X, X) (i + 1)).1 (expT b (X, X) (i + 1)).2 := by rw [hV4]; exact hvp4.put st.u.c v4
    have pp4 : SpAt V4 Pp K X X := by rw [hV4]; exact st.pp.put st.u.c v4
    have sp4 : SpAt V4 Sm K (sumI (expT b (X, X)) i).1 (sumI (expT b (X, X)) i).2 := by rw [hV4]; exact st.sp.put st.u.c v4
    have R4 : NoC V4 (w.heap.size + 1) := by rw [hV4]; exact st.no.off (by have := st.l5; omega) v4
    have B4 : Below w.heap.size w V4 := by rw [hV4]; exact below_put st.be (by have := st.l5; omega) v4
    have hpb := hide st.pb
    have hsb := hide st.sb
    have l5 := st.l5
    have l6 := st.l6
    have l7 := st.l7
    have n56 := st.n56
    have n57 := st.n57
    have n67 := st.n67
    have lu := st.u.lt
    have ls := st.s.lt
    obtain ⟨⟨y0, y1, y2, y3, y4⟩, y5⟩ := st.u
    obtain ⟨⟨z0, z1, z2, z3, z4⟩, z5⟩ := st.s
    clear st hvp4
    go_wp2_with fail
    have hV4' : V4 = put5w w4 BU v4 := hV4
    unfold put5w at hV4'
    rw [← hV4']
    clear hV4' hV4 y0 y1 y2 y3 y4 y5 z0 z1 z2 z3 z4 z5
    refine (refPlus_iv _ Sm v4 K b (sumI (expT b (X, X)) i) (expT b (X, X) (i + 1)) sp4 up4 (by omega) (unhide hsb)).mono ?_
    rintro r w5 ⟨v5, rfl, hvb5, hvp5, hb5⟩
    have e5 : addI (sumI (expT b (X, X)) i) (expT b (X, X) (i + 1)) = sumI (expT b (X, X)) (i + 1) := rfl
    rw [e5] at hvp5
    replace hvp5 := hvp5.fits (K := K) (sum_le (expT_le b (X, X)) _) (unhide HFITS _ (by omega)).1 (unhide HFITS _ (by omega)).2
    have U5 := U4.below hb5
    have P5 := P4.below hb5
    have S5 := S4.below hb5
    have up5 := up4.below hb5
    have pp5 := pp4.below hb5
    have R5 := R4.below hb5
    have B5 := bthen B4 hb5
    have HV5 := hide hvb5
    clear hb5 hvb5 U4 P4 S4 up4 pp4 sp4 R4 B4 e5
    have stn : LowSt w (put5w w5 wc.heap.size v5) BU CU wc.heap.size b K v4 Pp v5 (expT b (X, X)) X (i + 1) := ⟨U5.off n57 v5, P5.off n67 v5, S5.put v5, up5.put S5.c v5, pp5.put S5.c v5, hvp5.put S5.c v5, unhide HV4, unhide hpb, unhide HV5, R5.off (by omega) v5, below_put B5 (by omega) v5, l5, l6, l7, n56, n57, n67⟩
    have lu5 := U5.lt
    have ls5 := S5.lt
    obtain ⟨⟨y0, y1, y2, y3, y4⟩, y5⟩ := U5
    obtain ⟨⟨z0, z1, z2, z3, z4⟩, z5⟩ := S5
    clear P5 up5 pp5 R5 B5 hvp5
    obtain ⟨V5, hV5⟩ : ∃ V5, V5 = put5w w5 wc.heap.size v5 := ⟨_, rfl⟩
    rw [← hV5] at stn
    unfold put5w at hV5
    go_wp2_with fail
    rw [← hV5]
    clear hV5 y0 y1 y2 y3 y4 y5 z0 z1 z2 z3 z4 z5
    refine (refSmall _ v4 K 1 _ _ stn.up (by omega) (by omega)).mono ?_
    rintro r w6 ⟨rfl, hb6⟩
    rw [small_reach]
    replace stn := stn.below hb6
    clear hb6
    have er : reachI ((expT b (X, X) (i + 1)).1, (expT b (X, X) (i + 1)).2) = reachI (expT b (X, X) (i + 1)) := rfl
    rw [er]
    clear er
    by_cases hin : i + 1 < N
    · by_cases hr : reachI (expT b (X, X) (i + 1)) ≤ 1
      · have h3 : ¬ (2 : Int) < (i : Int) + 1 := by
          intro h3
          have := (unhide HN).2.2 (i + 1) (by omega) hin
          omega
        rw [decide_eq_true hr]
        clear hr
        go_wp2_with fail
        go_roundw
        case rel => exact ⟨i + 1, v4, Pp, v5, by go_num, hin, stn⟩
        case measure => simp [intOf]; omega
      · rw [decide_eq_false hr]
        clear hr
        go_wp2_with fail
        go_roundw
        case rel => exact ⟨i + 1, v4, Pp, v5, by go_num, hin, stn⟩
        case measure => simp [intOf]; omega
    · have hie : i + 1 = N := by omega
      have hr : reachI (expT b (X, X) (i + 1)) ≤ 1 := by rw [hie]; exact (unhide HN).2.1
      have h3 : (2 : Int) < (i : Int) + 1 := by have := (unhide HN).1; omega
      rw [decide_eq_true hr]
      have HIE := hide hie
      clear hr hie
      have ls6 := stn.s.lt
      obtain ⟨⟨z0, z1, z2, z3, z4⟩, z5⟩ := stn.s
      go_wp2_with fail
      refine (refTail _ v5 K 1 _ _ stn.sp (by omega) (by omega) (by omega) (by omega)).mono ?_
      rintro r w7 ⟨v7, rfl, hvb7, hvp7, hb7⟩
      obtain ⟨q0, q1, q2, q3, q4, q5⟩ := stn.no.below hb7
      have hBf := bthen stn.be hb7
      have HV7 := hide (hvb7.trans stn.sb)
      rw [unhide HIE] at hvp7
      clear hvb7 hb7
      go_wp2_with fail
      refine bodyPost_ret (v := .agg #[.bool v7.ln, .slice v7.la v7.lN v7.lc, .bool v7.hn, .slice v7.ha v7.hN v7.hc, .int .i64 v7.bits]) (by simp [results, Try.results140, go_sem, q0, q1, q2, q3, q4]) rfl ⟨v7, rfl, unhide HV7, ?_, ?_⟩
      · exact SpAt.put5 hvp7 q0 q1 q2 q3 q4 _ _ _ _ _
      · exact set5 hBf (Nat.le_succ _) _ _ _ _ _
end Go.Proofs.Ytgmnknmjainabaa

namespace Go.Proofs.Ytgmnknmjainabaa
set_option linter.unusedVariables false
set_option linter.unusedSimpArgs false
set_option linter.unnecessarySimpa false
open Go.RowKit
attribute [local go_sem ↓] Go.wp_at_zero Go.wp_at_succ

/-- Powers of a span, as tailsureref.Raised makes them: what is taken together, and the square. -/
def raiI (b : Nat) (o s : Int × Int) : Nat → Nat → Int × Int
  | 0, _ => o
  | f + 1, n => if n = 0 then o else raiI b (if n % 2 = 1 then mulI b o s else o) (mulI b s s) f (n / 2)

structure RaiSt2 (w wr : World) (B5 b K : Nat) (O S : Sp) (o s : Int × Int) : Prop where
  u : VrC wr B5 O
  v : VrC wr w.heap.size S
  up : SpAt wr O K o.1 o.2
  vp : SpAt wr S K s.1 s.2
  ub : O.bits = (b : Int)
  vb : S.bits = (b : Int)
  no : NoC wr (w.heap.size + 1)
  be : Below w.heap.size w wr
  l5 : w.heap.size + 1 < B5
theorem RaiSt2.below {w wr wr' : World} {B5 b K : Nat} {O S : Sp} {o s : Int × Int} (h : RaiSt2 w wr B5 b K O S o s) (hb : Below wr.heap.size wr wr') : RaiSt2 w wr' B5 b K O S o s :=
  ⟨h.u.below hb, h.v.below hb, h.up.below hb, h.vp.below hb, h.ub, h.vb, h.no.below hb, bthen h.be hb, h.l5⟩

set_option maxRecDepth 100000 in
set_option maxHeartbeats 4000000 in
theorem refRaised_iv (w : World) (s : Sp) (b K n : Nat) (a : Int × Int) (Inv : Nat → Int × Int → Int × Int → Prop) (hs : SpAt w s K a.1 a.2) (hbits : s.bits = (b : Int)) (hb : b ≤ 100000) (hn : n ≤ 1000000) (hK2 : K ≤ 10000000) (hK3 : b / 16 + 18 ≤ K)
    (hI0 : Inv n (Q b, Q b) a)
    (hI1 : ∀ m o c, 0 < m → Inv m o c → Inv (m / 2) (if m % 2 = 1 then mulI b o c else o) (mulI b c c) ∧ (-P K < (mulI b o c).1 ∧ (mulI b o c).2 < P K ∨ m % 2 ≠ 1) ∧ -P K < (mulI b c c).1 ∧ (mulI b c c).2 < P K) :
    Calls Try.prog 139 #[.agg #[.bool s.ln, .slice s.la s.lN s.lc, .bool s.hn, .slice s.ha s.hN s.hc, .int .i64 s.bits], .int .i64 n] w (fun r w' => ∃ o c, Inv 0 o c ∧ SpanAns w b K o.1 o.2 r w') := by
  obtain ⟨W, hW⟩ : ∃ W, W = (w.alloc (.cells #[.bool s.ln, .slice s.la s.lN s.lc, .bool s.hn, .slice s.ha s.hN s.hc, .int .i64 s.bits] 38)).alloc (.cells #[.bool false, .slice none 0 0, .bool false, .slice none 0 0, .int .i64 0] 38) := ⟨_, rfl⟩
  have hBW : Below w.heap.size w W := by rw [hW]; exact bl2 _ _ _
  have A : VrC W w.heap.size s := by rw [hW]; exact ⟨⟨by simp [go_sem], by simp [go_sem], by simp [go_sem], by simp [go_sem], by simp [go_sem]⟩, fun o => by simp [go_sem]⟩
  have R : NoC W (w.heap.size + 1) := by rw [hW]; exact ⟨by simp [go_sem], by simp [go_sem], by simp [go_sem], by simp [go_sem], by simp [go_sem], fun o => by simp [go_sem]⟩
  have HS := hide (hs.below hBW)
  have HI0 := hide hI0
  have HI1 := hide hI1
  have HB := hide hbits
  clear hs hI0 hI1 hbits
  go_enter Try.func139, Try.ntmps139
  go_wp2_with fail
  rw [← hW, unhide HB]
  clear hW
  refine (refWhole _ 1 b hb (by decide) (by decide)).mono ?_
  rintro r w1 ⟨v1, rfl, hvb1, hvp1, hb1⟩
  rw [Int.one_mul] at hvp1
  replace hvp1 := hvp1.mono hK3
  replace A := A.below hb1
  replace R := R.below hb1
  replace hBW := bthen hBW hb1
  replace HS := hide ((unhide HS).below hb1)
  have lR := R.lt
  have st0 : RaiSt2 w (w1.alloc (.cells #[.bool v1.ln, .slice v1.la v1.lN v1.lc, .bool v1.hn, .slice v1.ha v1.hN v1.hc, .int .i64 v1.bits] 38)) w1.heap.size b K v1 s (Q b, Q b) a := ⟨vr_new w1 v1 _, A.below (bl1 _ _), hvp1.below (bl1 _ _), (unhide HS).below (bl1 _ _), hvb1, unhide HB, R.below (bl1 _ _), balloc hBW _, by omega⟩
  have HV1 := hide hvb1
  clear hvb1 hvp1 A R hBW HS hb1
  go_wp2_with fail
  go_loopw [1] (fun mm wr => ∃ (m : Nat) (O S : Sp) (o c : Int × Int), mm = .int .i64 (m : Int) ∧ m ≤ n ∧ Inv m o c ∧ RaiSt2 w wr w1.heap.size b K O S o c) (fun mm _ => (intOf mm).toNat)
  case atStart => exact ⟨n, v1, s, (Q b, Q b), a, rfl, Nat.le_refl _, unhide HI0, st0⟩
  case round =>
    obtain ⟨m, O, S, o, c, rfl, hmn, hInv, st⟩ := hrel
    have HInv := hide hInv
    clear hInv
    by_cases hm : 0 < m
    · have hm' : (0 : Int) < (m : Int) := by omega
      have q1 : ((m : Int)).tdiv 2 = ((m / 2 : Nat) : Int) := by rw [Int.tdiv_eq_ediv_of_nonneg (by omega)]; omega
      have HQ := hide q1
      obtain ⟨k1, k2, k3⟩ := unhide HI1 m o c hm (unhide HInv)
      have HN := hide k1
      have HF := hide k2
      have HG := hide k3
      clear k1 k2 k3 q1
      have lv := st.v.lt
      have lu := st.u.lt
      by_cases hodd : m % 2 = 1
      · have q2 : ((m : Int)).tmod 2 = 1 := by rw [Int.tmod_eq_emod_of_nonneg (by omega)]; omega
        have q3 : (m : Int) % 2 = 1 := by omega
        have HO := hide hodd
        obtain ⟨⟨y0, y1, y2, y3, y4⟩, y5⟩ := st.u
        obtain ⟨⟨z0, z1, z2, z3, z4⟩, z5⟩ := st.v
        clear hodd
        go_wp2_with fail
        refine (refTimes_iv _ O S K b o c st.up st.vp (by omega) st.ub (by omega)).mono ?_
        rintro r w2 ⟨v2, rfl, hvb2, hvp2, hb2⟩
        have hf := (unhide HF).resolve_right (fun h => h (unhide HO))
        replace hvp2 := hvp2.fits (K := K) (mulI_le b) hf.1 hf.2
        replace st := st.below hb2
        have HV2 := hide hvb2
        clear hvb2 hb2 hf y0 y1 y2 y3 y4 y5 z0 z1 z2 z3 z4 z5
        have ne5 : w.heap.size ≠ w1.heap.size := by have := st.l5; omega
        have st2 : RaiSt2 w (put5w w2 w1.heap.size v2) w1.heap.size b K v2 S (mulI b o c) c := ⟨st.u.put v2, st.v.off ne5 v2, hvp2.put st.u.c v2, st.vp.put st.u.c v2, unhide HV2, st.vb, st.no.off (by have := st.l5; omega) v2, below_put st.be (by have := st.l5; omega) v2, st.l5⟩
        have lv2 := st.v.lt
        have lu2 := st.u.lt
        obtain ⟨⟨y0, y1, y2, y3, y4⟩, y5⟩ := st.u
        obtain ⟨⟨z0, z1, z2, z3, z4⟩, z5⟩ := st.v
        obtain ⟨V2, hV2⟩ : ∃ V2, V2 = put5w w2 w1.heap.size v2 := ⟨_, rfl⟩
        rw [← hV2] at st2
        unfold put5w at hV2
        clear st hvp2
        go_wp2_with fail
        rw [← hV2]
        clear hV2 y0 y1 y2 y3 y4 y5 z0 z1 z2 z3 z4 z5
        refine (refTimes_iv _ S S K b c c st2.vp st2.vp (by omega) st2.vb (by omega)).mono ?_
        rintro r w3 ⟨v3, rfl, hvb3, hvp3, hb3⟩
        replace hvp3 := hvp3.fits (K := K) (mulI_le b) (unhide HG).1 (unhide HG).2
        replace st2 := st2.below hb3
        have HV3 := hide hvb3
        clear hvb3 hb3
        have st3 : RaiSt2 w (put5w w3 w.heap.size v3) w1.heap.size b K v2 v3 (mulI b o c) (mulI b c c) := ⟨st2.u.off (Ne.symm ne5) v3, st2.v.put v3, st2.up.put st2.v.c v3, hvp3.put st2.v.c v3, st2.ub, unhide HV3, st2.no.off (by omega) v3, below_put st2.be (Nat.le_refl _) v3, st2.l5⟩
        unfold put5w at st3
        have lv3 := st2.v.lt
        obtain ⟨⟨z0, z1, z2, z3, z4⟩, z5⟩ := st2.v
        clear st2 hvp3
        go_wp2_with fail
        go_roundw
        case rel =>
          refine ⟨m / 2, v2, v3, mulI b o c, mulI b c c, ?_, by omega, ?_, st3⟩
          · first | exact congrArg _ (unhide HQ) | (congr 1; omega)
          · have := unhide HN
            rw [if_pos (unhide HO)] at this
            exact this
        case measure => have := unhide HQ; simp [intOf]; omega
      · have q2 : ((m : Int)).tmod 2 = 0 := by rw [Int.tmod_eq_emod_of_nonneg (by omega)]; omega
        have q3 : (m : Int) % 2 = 0 := by omega
        have HO := hide hodd
        obtain ⟨⟨z0, z1, z2, z3, z4⟩, z5⟩ := st.v
        clear hodd
        go_wp2_with fail
        refine (refTimes_iv _ S S K b c c st.vp st.vp (by omega) st.vb (by omega)).mono ?_
        rintro r w3 ⟨v3, rfl, hvb3, hvp3, hb3⟩
        replace hvp3 := hvp3.fits (K := K) (mulI_le b) (unhide HG).1 (unhide HG).2
        replace st := st.below hb3
        have HV3 := hide hvb3
        clear hvb3 hb3 z0 z1 z2 z3 z4 z5
        have ne5 : w.heap.size ≠ w1.heap.size := by have := st.l5; omega
        have st3 : RaiSt2 w (put5w w3 w.heap.size v3) w1.heap.size b K O v3 o (mulI b c c) := ⟨st.u.off (Ne.symm ne5) v3, st.v.put v3, st.up.put st.v.c v3, hvp3.put st.v.c v3, st.ub, unhide HV3, st.no.off (by omega) v3, below_put st.be (Nat.le_refl _) v3, st.l5⟩
        unfold put5w at st3
        have lv3 := st.v.lt
        obtain ⟨⟨z0, z1, z2, z3, z4⟩, z5⟩ := st.v
        clear st hvp3
        go_wp2_with fail
        go_roundw
        case rel =>
          refine ⟨m / 2, O, v3, o, mulI b c c, ?_, by omega, ?_, st3⟩
          · first | exact congrArg _ (unhide HQ) | (congr 1; omega)
          · have := unhide HN
            rw [if_neg (unhide HO)] at this
            exact this
        case measure => have := unhide HQ; simp [intOf]; omega
    · have hm0 : m = 0 := by omega
      subst hm0
      have lu := st.u.lt
      obtain ⟨⟨y0, y1, y2, y3, y4⟩, y5⟩ := st.u
      obtain ⟨q0, q1, q2, q3, q4, q5⟩ := st.no
      have hub := hide st.ub
      go_wp2_with fail
      refine bodyPost_ret (v := .agg #[.bool O.ln, .slice O.la O.lN O.lc, .bool O.hn, .slice O.ha O.hN O.hc, .int .i64 O.bits]) (by simp [results, Try.results139, go_sem, q0, q1, q2, q3, q4]) rfl ⟨o, c, unhide HInv, O, rfl, unhide hub, ?_, ?_⟩
      · exact SpAt.put5 st.up q0 q1 q2 q3 q4 _ _ _ _ _
      · exact set5 st.be (Nat.le_succ _) _ _ _ _ _
end Go.Proofs.Ytgmnknmjainabaa
