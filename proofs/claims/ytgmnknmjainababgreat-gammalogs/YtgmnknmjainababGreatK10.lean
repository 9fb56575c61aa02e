/-
  Texts Rfa, Rfb, Rfs, LowI, NearI, NearJ: what they hold is told in the last text.
-/
import Derived.Test.YtgmnknmjainababGreatK09
set_option linter.unnecessarySimpa false
set_option linter.unusedSimpArgs false
set_option linter.unusedVariables false
namespace Go.Proofs.YtgmnknmjainababGreat
open Go.RowKit
attribute [local go_sem ↓] Go.wp_at_zero Go.wp_at_succ
set_option maxRecDepth 100000 in
set_option maxHeartbeats 2000000 in
theorem refWhole (w : World) (n : Int) (b : Nat) (hb : b ≤ 100000) (h0 : -9223372036854775808 ≤ n) (h1 : n ≤ 9223372036854775807) :
    Calls Tryz.prog 27 #[.int .i64 n, .int .i64 b] w (SpanAns w b (b / 16 + 18) (n * Q b) (n * Q b)) := by
  have R := noc_new w 36
  go_enter Tryz.func27, Tryz.ntmps27
  go_wp2_with fail
  refine (numOf_int n _ h0 h1).mono ?_
  rintro r' w1 ⟨neg1, a1, n1, c1, rfl, hint1, hb1⟩
  replace R := R.below hb1
  have hB : Below w.heap.size w w1 := bthen (bl1 _ _) hb1
  clear hb1
  go_wp2_with fail
  refine (numOf_int 1 _ (by decide) (by decide)).mono ?_
  rintro r' w2 ⟨neg2, a2, n2, c2, rfl, hint2, hb2⟩
  replace R := R.below hb2
  replace hB := bthen hB hb2
  replace hint1 := hint1.below hb2
  clear hb2
  go_wp2_with fail
  refine (refRatio_core _ _ _ _ _ _ _ _ 4 4 b n 1 _ hint1 hint2 (by omega) (by omega) hb (by decide) (fun neg' a' n' cap' w' p1 p2 => floor_any _ _ _ _ _ _ _ _ _ 4 _ _ w' p1 p2 (by omega) (by decide))).mono ?_
  rintro r' w3 ⟨u, rfl, hub, hup, hb3⟩
  have e1 : n * Q b / 1 = n * Q b := Int.ediv_one _
  have e2 : -(-(n * Q b) / 1) = n * Q b := by rw [Int.ediv_one]; omega
  rw [e1, e2] at hup
  obtain ⟨q0, q1, q2, q3, q4, q5⟩ := R.below hb3
  replace hB := bthen hB hb3
  have HU := hide hub
  clear hub e1 e2
  go_wp2_with fail
  refine bodyPost_ret (v := .agg #[.bool u.ln, .slice u.la u.lN u.lc, .bool u.hn, .slice u.ha u.hN u.hc, .int .i64 u.bits]) (by simp [results, Tryz.results27, go_sem, q0, q1, q2, q3, q4]) rfl ⟨u, rfl, unhide HU, ?_, ?_⟩
  · exact SpAt.put5 (hup.mono (by omega)) q0 q1 q2 q3 q4 _ _ _ _ _
  · exact set5 hB (Nat.le_refl _) _ _ _ _ _
set_option maxRecDepth 100000 in
set_option maxHeartbeats 2000000 in
theorem refTail (w : World) (s : Sp) (k : Nat) (n lo hi : Int) (hs : SpAt w s k lo hi) (hk : k ≤ 300000000) (hk4 : 4 ≤ k) (h0 : -9223372036854775808 ≤ n) (h1 : n ≤ 9223372036854775807) :
    Calls Tryz.prog 123 #[.agg #[.bool s.ln, .slice s.la s.lN s.lc, .bool s.hn, .slice s.ha s.hN s.hc, .int .i64 s.bits], .int .i64 n] w (SpanAns w s.bits (k + 1) (lo - n) (hi + n)) := by
  obtain ⟨W, hW⟩ : ∃ W, W = (w.alloc (.cells #[.bool s.ln, .slice s.la s.lN s.lc, .bool s.hn, .slice s.ha s.hN s.hc, .int .i64 s.bits] 36)).alloc (.cells #[.bool false, .slice none 0 0, .bool false, .slice none 0 0, .int .i64 0] 36) := ⟨_, rfl⟩
  have hBW : Below w.heap.size w W := by rw [hW]; exact bl2 _ _ _
  have A : SpC W w.heap.size s := by rw [hW]; exact ⟨by simp [go_sem], by simp [go_sem], by simp [go_sem], by simp [go_sem], by simp [go_sem]⟩
  have R : NoC W (w.heap.size + 1) := by rw [hW]; exact ⟨by simp [go_sem], by simp [go_sem], by simp [go_sem], by simp [go_sem], by simp [go_sem], fun o => by simp [go_sem]⟩
  have HS := hide (hs.below hBW)
  have lR := R.lt
  have HK := hide (show ∀ w', Below W.heap.size W w' → (w'.cell? ⟨w.heap.size, 0, none⟩ = some (.bool s.ln) ∧ w'.cell? ⟨w.heap.size, 1, none⟩ = some (.slice s.la s.lN s.lc) ∧ w'.cell? ⟨w.heap.size, 2, none⟩ = some (.bool s.hn) ∧ w'.cell? ⟨w.heap.size, 3, none⟩ = some (.slice s.ha s.hN s.hc) ∧ w'.cell? ⟨w.heap.size, 4, none⟩ = some (.int .i64 s.bits)) from fun w' hB => ⟨(A.below hB).c0, (A.below hB).c1, (A.below hB).c2, (A.below hB).c3, (A.below hB).c4⟩)
  clear A hs
  go_enter Tryz.func123, Tryz.ntmps123
  go_wp2
  rw [← hW]
  clear hW
  have n01 : w.heap.size ≠ w.heap.size + 1 := by omega
  have n10 : w.heap.size + 1 ≠ w.heap.size := by omega
  obtain ⟨x0, x1, x2, x3, x4⟩ := unhide HK _ (Below.refl _ _)
  have hD0 : Below W.heap.size W W.drew := (Below.refl _ _).drew
  go_region_held3 (fun w' => w'.cell? ⟨w.heap.size, 0, none⟩ = some (.bool s.ln) ∧ w'.cell? ⟨w.heap.size, 1, none⟩ = some (.slice s.la s.lN s.lc) ∧ w'.cell? ⟨w.heap.size, 2, none⟩ = some (.bool s.hn) ∧ w'.cell? ⟨w.heap.size, 3, none⟩ = some (.slice s.ha s.hN s.hc) ∧ w'.cell? ⟨w.heap.size, 4, none⟩ = some (.int .i64 s.bits)) (first | exact unhide HK _ (by first | with_reducible exact hD0 | with_reducible exact hD4 | with_reducible exact hD3 | with_reducible exact hD2 | with_reducible exact hD1) | go_keep)
    (first
      | (go_at_call 65; have hq := hD3; refine (add_int _ _ _ _ _ _ _ _ k 4 hi n _ ((unhide HS).hi.below hD3) hint3 (by omega) (by omega)).mono ?_; rintro r' w4 ⟨neg4, a4, n4, c4, rfl, hint4, hb4⟩; have hD4 := bthen hD3 hb4; replace hint2 := (hint2.below hb3).below hb4; obtain ⟨q0, q1, q2, q3, q4, q5⟩ := R.below hD4; obtain ⟨y0, y1, y2, y3, y4⟩ := unhide HK _ hD4)
      | (go_at_call 43; have hq := hD2; refine (numOf_int n _ h0 h1).mono ?_; rintro r' w3 ⟨neg3, a3, n3, c3, rfl, hint3, hb3⟩; have hD3 := bthen hD2 hb3)
      | (go_at_call 72; have hq := hD1; refine (sub_int _ _ _ _ _ _ _ _ k 4 lo n _ ((unhide HS).lo.below hD1) hint1 (by omega) (by omega)).mono ?_; rintro r' w2 ⟨neg2, a2, n2, c2, rfl, hint2, hb2⟩; have hD2 := bthen hD1 hb2)
      | (go_at_call 43; refine (numOf_int n _ h0 h1).mono ?_; rintro r' w1 ⟨neg1, a1, n1, c1, rfl, hint1, hb1⟩; have hD1 := bthen hD0 hb1))
  all_goals
    go_wp2_with fail
    refine bodyPost_ret (v := .agg #[.bool neg2, .slice a2 n2 c2, .bool neg4, .slice a4 n4 c4, .int .i64 s.bits]) (by simp [results, Tryz.results123, go_sem, q0, q1, q2, q3, q4]) rfl ⟨⟨neg2, a2, n2, c2, neg4, a4, n4, c4, s.bits⟩, rfl, rfl, ?_, ?_⟩
    · exact SpAt.put5 ⟨hint2.mono (by omega), hint4.mono (by omega)⟩ q0 q1 q2 q3 q4 _ _ _ _ _
    · exact set5 (bthen hBW hD4) (Nat.le_succ _) _ _ _ _ _
def smallB (lo hi n : Int) : Bool := decide (hi ≤ n) && decide (-n ≤ lo)
theorem cmp3 (x y : Int) : (cmpInt x y = -1 ∧ x < y) ∨ (cmpInt x y = 0 ∧ x = y) ∨ (cmpInt x y = 1 ∧ y < x) := by
  unfold cmpInt; split
  · exact Or.inl ⟨rfl, by assumption⟩
  · split
    · exact Or.inr (Or.inr ⟨rfl, by assumption⟩)
    · exact Or.inr (Or.inl ⟨rfl, by omega⟩)
set_option maxRecDepth 100000 in
set_option maxHeartbeats 2000000 in
theorem refSmall_a (w : World) (s : Sp) (k : Nat) (n lo hi : Int) (hs : SpAt w s k lo hi) (h0 : -1000000000 ≤ n) (h1 : n ≤ 1000000000) (hc : cmpInt hi n = -1) (hh : hi ≤ n) :
    Calls Tryz.prog 122 #[.agg #[.bool s.ln, .slice s.la s.lN s.lc, .bool s.hn, .slice s.ha s.hN s.hc, .int .i64 s.bits], .int .i64 n] w fun r w' => r = .returned (.bool (smallB lo hi n)) ∧ Below w.heap.size w w' := by
  obtain ⟨W, hW⟩ : ∃ W, W = w.alloc (.cells #[.bool s.ln, .slice s.la s.lN s.lc, .bool s.hn, .slice s.ha s.hN s.hc, .int .i64 s.bits] 36) := ⟨_, rfl⟩
  have hBW : Below w.heap.size w W := by rw [hW]; exact bl1 _ _
  have A : SpC W w.heap.size s := by rw [hW]; exact spc_new w s _
  have HS := hide (hs.below hBW)
  have HK := hide (show ∀ w', Below W.heap.size W w' → (w'.cell? ⟨w.heap.size, 0, none⟩ = some (.bool s.ln) ∧ w'.cell? ⟨w.heap.size, 1, none⟩ = some (.slice s.la s.lN s.lc) ∧ w'.cell? ⟨w.heap.size, 2, none⟩ = some (.bool s.hn) ∧ w'.cell? ⟨w.heap.size, 3, none⟩ = some (.slice s.ha s.hN s.hc) ∧ w'.cell? ⟨w.heap.size, 4, none⟩ = some (.int .i64 s.bits)) from fun w' hB => ⟨(A.below hB).c0, (A.below hB).c1, (A.below hB).c2, (A.below hB).c3, (A.below hB).c4⟩)
  clear A hs
  have HE := hide (show decide (0 ≤ cmpInt lo (-n)) = smallB lo hi n by
    unfold smallB
    rw [Bool.eq_iff_iff, Bool.and_eq_true, decide_eq_true_iff, decide_eq_true_iff, decide_eq_true_iff]
    unfold cmpInt
    constructor
    · intro h; refine ⟨hh, ?_⟩; split at h <;> omega
    · intro h; rw [if_neg (by omega)]; split <;> omega)
  have HW := hide (show IntKind.i64.wrap (-n) = -n from i64_id _ (by omega) (by omega))
  have HC := hide hc
  clear hh hc
  go_enter Tryz.func122, Tryz.ntmps122
  go_wp2
  rw [← hW]
  clear hW
  obtain ⟨x0, x1, x2, x3, x4⟩ := unhide HK _ (Below.refl _ _)
  have hD0 : Below W.heap.size W W.drew := (Below.refl _ _).drew
  go_region_held3 (fun w' => w'.cell? ⟨w.heap.size, 0, none⟩ = some (.bool s.ln) ∧ w'.cell? ⟨w.heap.size, 1, none⟩ = some (.slice s.la s.lN s.lc) ∧ w'.cell? ⟨w.heap.size, 2, none⟩ = some (.bool s.hn) ∧ w'.cell? ⟨w.heap.size, 3, none⟩ = some (.slice s.ha s.hN s.hc) ∧ w'.cell? ⟨w.heap.size, 4, none⟩ = some (.int .i64 s.bits)) (first | exact unhide HK _ (by first | with_reducible exact hD0 | with_reducible exact hD4 | with_reducible exact hD3 | with_reducible exact hD2 | with_reducible exact hD1) | go_keep)
    (first
      | (go_at_call 46; have hq := hD3; refine (cmp_int _ _ _ _ _ _ _ _ _ _ lo (-n) _ ((unhide HS).lo.below hD3) hint3).mono ?_; rintro r' w4 ⟨rfl, hb4⟩; have hD4 := bthen hD3 hb4)
      | (go_at_call 43; have hq := hD2; rw [unhide HW]; refine (numOf_int (-n) _ (by omega) (by omega)).mono ?_; rintro r' w3 ⟨neg3, a3, n3, c3, rfl, hint3, hb3⟩; have hD3 := bthen hD2 hb3)
      | (go_at_call 46; have hq := hD1; refine (cmp_int _ _ _ _ _ _ _ _ _ _ hi n _ ((unhide HS).hi.below hD1) hint1).mono ?_; rintro r' w2 ⟨rfl, hb2⟩; rw [unhide HC]; have hD2 := bthen hD1 hb2)
      | (go_at_call 43; refine (numOf_int n _ (by omega) (by omega)).mono ?_; rintro r' w1 ⟨neg1, a1, n1, c1, rfl, hint1, hb1⟩; have hD1 := bthen hD0 hb1))
  all_goals
    go_wp2_with fail
    go_ret
    exact ⟨by rw [← unhide HE]; rfl, bthen hBW hD4⟩
set_option maxRecDepth 100000 in
set_option maxHeartbeats 2000000 in
theorem refSmall_b (w : World) (s : Sp) (k : Nat) (n lo hi : Int) (hs : SpAt w s k lo hi) (h0 : -1000000000 ≤ n) (h1 : n ≤ 1000000000) (hc : cmpInt hi n = 0) (hh : hi ≤ n) :
    Calls Tryz.prog 122 #[.agg #[.bool s.ln, .slice s.la s.lN s.lc, .bool s.hn, .slice s.ha s.hN s.hc, .int .i64 s.bits], .int .i64 n] w fun r w' => r = .returned (.bool (smallB lo hi n)) ∧ Below w.heap.size w w' := by
  obtain ⟨W, hW⟩ : ∃ W, W = w.alloc (.cells #[.bool s.ln, .slice s.la s.lN s.lc, .bool s.hn, .slice s.ha s.hN s.hc, .int .i64 s.bits] 36) := ⟨_, rfl⟩
  have hBW : Below w.heap.size w W := by rw [hW]; exact bl1 _ _
  have A : SpC W w.heap.size s := by rw [hW]; exact spc_new w s _
  have HS := hide (hs.below hBW)
  have HK := hide (show ∀ w', Below W.heap.size W w' → (w'.cell? ⟨w.heap.size, 0, none⟩ = some (.bool s.ln) ∧ w'.cell? ⟨w.heap.size, 1, none⟩ = some (.slice s.la s.lN s.lc) ∧ w'.cell? ⟨w.heap.size, 2, none⟩ = some (.bool s.hn) ∧ w'.cell? ⟨w.heap.size, 3, none⟩ = some (.slice s.ha s.hN s.hc) ∧ w'.cell? ⟨w.heap.size, 4, none⟩ = some (.int .i64 s.bits)) from fun w' hB => ⟨(A.below hB).c0, (A.below hB).c1, (A.below hB).c2, (A.below hB).c3, (A.below hB).c4⟩)
  clear A hs
  have HE := hide (show decide (0 ≤ cmpInt lo (-n)) = smallB lo hi n by
    unfold smallB
    rw [Bool.eq_iff_iff, Bool.and_eq_true, decide_eq_true_iff, decide_eq_true_iff, decide_eq_true_iff]
    unfold cmpInt
    constructor
    · intro h; refine ⟨hh, ?_⟩; split at h <;> omega
    · intro h; rw [if_neg (by omega)]; split <;> omega)
  have HW := hide (show IntKind.i64.wrap (-n) = -n from i64_id _ (by omega) (by omega))
  have HC := hide hc
  clear hh hc
  go_enter Tryz.func122, Tryz.ntmps122
  go_wp2
  rw [← hW]
  clear hW
  obtain ⟨x0, x1, x2, x3, x4⟩ := unhide HK _ (Below.refl _ _)
  have hD0 : Below W.heap.size W W.drew := (Below.refl _ _).drew
  go_region_held3 (fun w' => w'.cell? ⟨w.heap.size, 0, none⟩ = some (.bool s.ln) ∧ w'.cell? ⟨w.heap.size, 1, none⟩ = some (.slice s.la s.lN s.lc) ∧ w'.cell? ⟨w.heap.size, 2, none⟩ = some (.bool s.hn) ∧ w'.cell? ⟨w.heap.size, 3, none⟩ = some (.slice s.ha s.hN s.hc) ∧ w'.cell? ⟨w.heap.size, 4, none⟩ = some (.int .i64 s.bits)) (first | exact unhide HK _ (by first | with_reducible exact hD0 | with_reducible exact hD4 | with_reducible exact hD3 | with_reducible exact hD2 | with_reducible exact hD1) | go_keep)
    (first
      | (go_at_call 46; have hq := hD3; refine (cmp_int _ _ _ _ _ _ _ _ _ _ lo (-n) _ ((unhide HS).lo.below hD3) hint3).mono ?_; rintro r' w4 ⟨rfl, hb4⟩; have hD4 := bthen hD3 hb4)
      | (go_at_call 43; have hq := hD2; rw [unhide HW]; refine (numOf_int (-n) _ (by omega) (by omega)).mono ?_; rintro r' w3 ⟨neg3, a3, n3, c3, rfl, hint3, hb3⟩; have hD3 := bthen hD2 hb3)
      | (go_at_call 46; have hq := hD1; refine (cmp_int _ _ _ _ _ _ _ _ _ _ hi n _ ((unhide HS).hi.below hD1) hint1).mono ?_; rintro r' w2 ⟨rfl, hb2⟩; rw [unhide HC]; have hD2 := bthen hD1 hb2)
      | (go_at_call 43; refine (numOf_int n _ (by omega) (by omega)).mono ?_; rintro r' w1 ⟨neg1, a1, n1, c1, rfl, hint1, hb1⟩; have hD1 := bthen hD0 hb1))
  all_goals
    go_wp2_with fail
    go_ret
    exact ⟨by rw [← unhide HE]; rfl, bthen hBW hD4⟩
set_option maxRecDepth 100000 in
set_option maxHeartbeats 2000000 in
theorem refSmall_c (w : World) (s : Sp) (k : Nat) (n lo hi : Int) (hs : SpAt w s k lo hi) (h0 : -1000000000 ≤ n) (h1 : n ≤ 1000000000) (hc : cmpInt hi n = 1) (hh : ¬ hi ≤ n) :
    Calls Tryz.prog 122 #[.agg #[.bool s.ln, .slice s.la s.lN s.lc, .bool s.hn, .slice s.ha s.hN s.hc, .int .i64 s.bits], .int .i64 n] w fun r w' => r = .returned (.bool (smallB lo hi n)) ∧ Below w.heap.size w w' := by
  obtain ⟨W, hW⟩ : ∃ W, W = w.alloc (.cells #[.bool s.ln, .slice s.la s.lN s.lc, .bool s.hn, .slice s.ha s.hN s.hc, .int .i64 s.bits] 36) := ⟨_, rfl⟩
  have hBW : Below w.heap.size w W := by rw [hW]; exact bl1 _ _
  have A : SpC W w.heap.size s := by rw [hW]; exact spc_new w s _
  have HS := hide (hs.below hBW)
  have HK := hide (show ∀ w', Below W.heap.size W w' → (w'.cell? ⟨w.heap.size, 0, none⟩ = some (.bool s.ln) ∧ w'.cell? ⟨w.heap.size, 1, none⟩ = some (.slice s.la s.lN s.lc) ∧ w'.cell? ⟨w.heap.size, 2, none⟩ = some (.bool s.hn) ∧ w'.cell? ⟨w.heap.size, 3, none⟩ = some (.slice s.ha s.hN s.hc) ∧ w'.cell? ⟨w.heap.size, 4, none⟩ = some (.int .i64 s.bits)) from fun w' hB => ⟨(A.below hB).c0, (A.below hB).c1, (A.below hB).c2, (A.below hB).c3, (A.below hB).c4⟩)
  clear A hs
  have HE := hide (show smallB lo hi n = false by unfold smallB; rw [decide_eq_false hh]; rfl)
  have HC := hide hc
  clear hh hc
  go_enter Tryz.func122, Tryz.ntmps122
  go_wp2
  rw [← hW]
  clear hW
  obtain ⟨x0, x1, x2, x3, x4⟩ := unhide HK _ (Below.refl _ _)
  have hD0 : Below W.heap.size W W.drew := (Below.refl _ _).drew
  refine wp_region_held_drew (S := fun w' => w'.cell? ⟨w.heap.size, 0, none⟩ = some (.bool s.ln) ∧ w'.cell? ⟨w.heap.size, 1, none⟩ = some (.slice s.la s.lN s.lc) ∧ w'.cell? ⟨w.heap.size, 2, none⟩ = some (.bool s.hn) ∧ w'.cell? ⟨w.heap.size, 3, none⟩ = some (.slice s.ha s.hN s.hc) ∧ w'.cell? ⟨w.heap.size, 4, none⟩ = some (.int .i64 s.bits)) (by kernel_rfl) ⟨(unhide HK _ hD0).1, (unhide HK _ hD0).2.1, (unhide HK _ hD0).2.2.1, (unhide HK _ hD0).2.2.2.1, (unhide HK _ hD0).2.2.2.2⟩ (fun hHeld => ?_)
  refine wpAnyH_take (i := 0) (oi := { dst := some 5, op := Go.Op.fieldAddr 36 (Go.Operand.tmp 2) 1, type := 0, pos := "func.go:26", after := #[], guard := none }) (v := .pointer (some ⟨w.heap.size, 2, none⟩)) rfl (by kernel_rfl) (by kernel_rfl) (by kernel_rfl) (fun _ _ _ h => h) (Or.inl ⟨by rfl, fun w hSw => ?_⟩) hHeld ?_
  · obtain ⟨s0, s1, s2, s3, s4⟩ := hSw; go_simp
  try simp only [Act.put, List.setIfInBounds_toArray, List.set_cons_zero, List.set_cons_succ]
  refine wpAnyH_take (i := 1) (oi := { dst := some 6, op := Go.Op.load 26 (Go.Operand.tmp 5), type := 26, pos := "func.go:26", after := #[{ on := 0, ground := Go.Ground.data }], guard := none }) (v := .agg #[.bool s.hn, .slice s.ha s.hN s.hc]) rfl (by kernel_rfl) (by kernel_rfl) (by kernel_rfl) (fun _ _ _ h => h) (Or.inl ⟨by rfl, fun w hSw => ?_⟩) hHeld ?_
  · obtain ⟨s0, s1, s2, s3, s4⟩ := hSw; go_simp
  try simp only [Act.put, List.setIfInBounds_toArray, List.set_cons_zero, List.set_cons_succ]
  refine wpAnyH_take (i := 2) (oi := { dst := some 7, op := Go.Op.move (Go.Operand.tmp 1), type := 3, pos := "func.go:26", after := #[], guard := none }) (v := .int .i64 n) rfl (by kernel_rfl) (by kernel_rfl) (by kernel_rfl) (fun _ _ _ h => h) (Or.inl ⟨by rfl, fun w hSw => ?_⟩) hHeld ?_
  · obtain ⟨s0, s1, s2, s3, s4⟩ := hSw; go_simp
  try simp only [Act.put, List.setIfInBounds_toArray, List.set_cons_zero, List.set_cons_succ]
  refine wpAnyH_ready (rs := [3]) (by kernel_rfl) (by simp) ?_
  refine AllReadyH.cons (o := { dst := some 8, op := Go.Op.call { callee := Go.Callee.value (Go.Operand.func 43), args := #[Go.Operand.tmp 7], argTypes := #[3] }, type := 26, pos := "func.go:26", after := #[{ on := 2, ground := Go.Ground.data }], guard := none }) rfl (fun K hK => ?_) AllReadyH.nil
  go_simp
  refine (numOf_int n _ (by omega) (by omega)).mono ?_
  rintro r' w1 ⟨neg1, a1, n1, c1, rfl, hint1, hb1⟩
  have hD1 : Below W.heap.size W w1 := bthen hD0 hb1
  go_wp2_with fail
  refine hK.out _ _ ⟨(unhide HK _ hD1).1, (unhide HK _ hD1).2.1, (unhide HK _ hD1).2.2.1, (unhide HK _ hD1).2.2.2.1, (unhide HK _ hD1).2.2.2.2⟩ (fun hHeld => ?_)
  clear hK K
  try simp only [Act.put, List.setIfInBounds_toArray, List.set_cons_zero, List.set_cons_succ]
  refine wpAnyH_ready (rs := [4]) (by kernel_rfl) (by simp) ?_
  refine AllReadyH.cons (o := { dst := some 9, op := Go.Op.call { callee := Go.Callee.value (Go.Operand.func 46), args := #[Go.Operand.tmp 6, Go.Operand.tmp 8], argTypes := #[26, 26] }, type := 3, pos := "func.go:26", after := #[{ on := 1, ground := Go.Ground.data }, { on := 3, ground := Go.Ground.data }, { on := 3, ground := Go.Ground.chain }], guard := none }) rfl (fun K hK => ?_) AllReadyH.nil
  go_simp
  refine (cmp_int _ _ _ _ _ _ _ _ _ _ hi n _ ((unhide HS).hi.below hD1) hint1).mono ?_
  rintro r' w2 ⟨rfl, hb2⟩
  rw [unhide HC]
  have hD2 := bthen hD1 hb2
  go_wp2_with fail
  refine hK.out _ _ ⟨(unhide HK _ hD2).1, (unhide HK _ hD2).2.1, (unhide HK _ hD2).2.2.1, (unhide HK _ hD2).2.2.2.1, (unhide HK _ hD2).2.2.2.2⟩ (fun hHeld => ?_)
  clear hK K
  try simp only [Act.put, List.setIfInBounds_toArray, List.set_cons_zero, List.set_cons_succ]
  refine wpAnyH_take (i := 5) (oi := { dst := some 10, op := Go.Op.binOp Go.BinOp.leq 3 (Go.Operand.tmp 9) (Go.Operand.const (Go.Value.int Go.IntKind.i64 0)) 3, type := 4, pos := "func.go:26", after := #[{ on := 4, ground := Go.Ground.data }], guard := none }) (v := .bool false) rfl (by kernel_rfl) (by kernel_rfl) (by kernel_rfl) (fun _ _ _ h => h) (Or.inl ⟨by rfl, fun w hSw => ?_⟩) hHeld ?_
  · obtain ⟨s0, s1, s2, s3, s4⟩ := hSw; go_simp
  try simp only [Act.put, List.setIfInBounds_toArray, List.set_cons_zero, List.set_cons_succ]
  refine wpAnyH_take (i := 6) (oi := { dst := some 11, op := Go.Op.move (Go.Operand.tmp 10), type := 4, pos := "func.go:26", after := #[{ on := 5, ground := Go.Ground.data }, { on := 4, ground := Go.Ground.chain }], guard := none }) (v := .bool false) rfl (by kernel_rfl) (by kernel_rfl) (by kernel_rfl) (fun _ _ _ h => h) (Or.inl ⟨by rfl, fun w hSw => ?_⟩) hHeld ?_
  · obtain ⟨s0, s1, s2, s3, s4⟩ := hSw; go_simp
  try simp only [Act.put, List.setIfInBounds_toArray, List.set_cons_zero, List.set_cons_succ]
  refine wpAnyH_take (i := 7) (oi := { dst := some 12, op := Go.Op.fieldAddr 36 (Go.Operand.tmp 2) 0, type := 0, pos := "func.go:26", after := #[{ on := 6, ground := Go.Ground.guard }], guard := some (6, true) }) (v := undef) rfl (by kernel_rfl) (by kernel_rfl) (by kernel_rfl) (fun _ _ _ h => h) (Or.inr ⟨by rfl, rfl⟩) hHeld ?_
  try simp only [Act.put, List.setIfInBounds_toArray, List.set_cons_zero, List.set_cons_succ]
  refine wpAnyH_take (i := 8) (oi := { dst := some 13, op := Go.Op.load 26 (Go.Operand.tmp 12), type := 26, pos := "func.go:26", after := #[{ on := 7, ground := Go.Ground.data }, { on := 6, ground := Go.Ground.guard }], guard := some (6, true) }) (v := undef) rfl (by kernel_rfl) (by kernel_rfl) (by kernel_rfl) (fun _ _ _ h => h) (Or.inr ⟨by rfl, rfl⟩) hHeld ?_
  try simp only [Act.put, List.setIfInBounds_toArray, List.set_cons_zero, List.set_cons_succ]
  refine wpAnyH_take (i := 9) (oi := { dst := some 14, op := Go.Op.move (Go.Operand.tmp 1), type := 3, pos := "func.go:26", after := #[{ on := 6, ground := Go.Ground.guard }], guard := some (6, true) }) (v := undef) rfl (by kernel_rfl) (by kernel_rfl) (by kernel_rfl) (fun _ _ _ h => h) (Or.inr ⟨by rfl, rfl⟩) hHeld ?_
  try simp only [Act.put, List.setIfInBounds_toArray, List.set_cons_zero, List.set_cons_succ]
  refine wpAnyH_take (i := 10) (oi := { dst := some 15, op := Go.Op.unOp Go.UnOp.neg 3 (Go.Operand.tmp 14), type := 3, pos := "func.go:26", after := #[{ on := 9, ground := Go.Ground.data }, { on := 6, ground := Go.Ground.guard }], guard := some (6, true) }) (v := undef) rfl (by kernel_rfl) (by kernel_rfl) (by kernel_rfl) (fun _ _ _ h => h) (Or.inr ⟨by rfl, rfl⟩) hHeld ?_
  try simp only [Act.put, List.setIfInBounds_toArray, List.set_cons_zero, List.set_cons_succ]
  refine wpAnyH_take (i := 11) (oi := { dst := some 16, op := Go.Op.call { callee := Go.Callee.value (Go.Operand.func 43), args := #[Go.Operand.tmp 15], argTypes := #[3] }, type := 26, pos := "func.go:26", after := #[{ on := 10, ground := Go.Ground.data }, { on := 6, ground := Go.Ground.chain }, { on := 6, ground := Go.Ground.guard }], guard := some (6, true) }) (v := undef) rfl (by kernel_rfl) (by kernel_rfl) (by kernel_rfl) (fun _ _ _ h => h) (Or.inr ⟨by rfl, rfl⟩) hHeld ?_
  try simp only [Act.put, List.setIfInBounds_toArray, List.set_cons_zero, List.set_cons_succ]
  refine wpAnyH_take (i := 12) (oi := { dst := some 17, op := Go.Op.call { callee := Go.Callee.value (Go.Operand.func 46), args := #[Go.Operand.tmp 13, Go.Operand.tmp 16], argTypes := #[26, 26] }, type := 3, pos := "func.go:26", after := #[{ on := 8, ground := Go.Ground.data }, { on := 11, ground := Go.Ground.data }, { on := 11, ground := Go.Ground.chain }, { on := 6, ground := Go.Ground.guard }], guard := some (6, true) }) (v := undef) rfl (by kernel_rfl) (by kernel_rfl) (by kernel_rfl) (fun _ _ _ h => h) (Or.inr ⟨by rfl, rfl⟩) hHeld ?_
  try simp only [Act.put, List.setIfInBounds_toArray, List.set_cons_zero, List.set_cons_succ]
  refine wpAnyH_take (i := 13) (oi := { dst := some 18, op := Go.Op.binOp Go.BinOp.geq 3 (Go.Operand.tmp 17) (Go.Operand.const (Go.Value.int Go.IntKind.i64 0)) 3, type := 4, pos := "func.go:26", after := #[{ on := 12, ground := Go.Ground.data }, { on := 6, ground := Go.Ground.guard }], guard := some (6, true) }) (v := undef) rfl (by kernel_rfl) (by kernel_rfl) (by kernel_rfl) (fun _ _ _ h => h) (Or.inr ⟨by rfl, rfl⟩) hHeld ?_
  try simp only [Act.put, List.setIfInBounds_toArray, List.set_cons_zero, List.set_cons_succ]
  refine wpAnyH_take (i := 14) (oi := { dst := some 19, op := Go.Op.pick (Go.Operand.tmp 11) (Go.Operand.tmp 18) (Go.Operand.const (Go.Value.bool false)), type := 4, pos := "func.go:26", after := #[{ on := 6, ground := Go.Ground.data }, { on := 13, ground := Go.Ground.data }], guard := none }) (v := .bool false) rfl (by kernel_rfl) (by kernel_rfl) (by kernel_rfl) (fun _ _ _ h => h) (Or.inl ⟨by rfl, fun w hSw => ?_⟩) hHeld ?_
  · obtain ⟨s0, s1, s2, s3, s4⟩ := hSw; go_simp
  try simp only [Act.put, List.setIfInBounds_toArray, List.set_cons_zero, List.set_cons_succ]
  refine wpAnyH_take (i := 15) (oi := { dst := some 4, op := Go.Op.assign (Go.Operand.tmp 19), type := 4, pos := "func.go:26", after := #[{ on := 14, ground := Go.Ground.data }, { on := 12, ground := Go.Ground.chain }, { on := 0, ground := Go.Ground.phase }, { on := 1, ground := Go.Ground.phase }, { on := 2, ground := Go.Ground.phase }, { on := 3, ground := Go.Ground.phase }, { on := 4, ground := Go.Ground.phase }, { on := 5, ground := Go.Ground.phase }, { on := 6, ground := Go.Ground.phase }, { on := 7, ground := Go.Ground.phase }, { on := 8, ground := Go.Ground.phase }, { on := 9, ground := Go.Ground.phase }, { on := 10, ground := Go.Ground.phase }, { on := 11, ground := Go.Ground.phase }, { on := 12, ground := Go.Ground.phase }, { on := 13, ground := Go.Ground.phase }, { on := 14, ground := Go.Ground.phase }], guard := none }) (v := .bool false) rfl (by kernel_rfl) (by kernel_rfl) (by kernel_rfl) (fun _ _ _ h => h) (Or.inl ⟨by rfl, fun w hSw => ?_⟩) hHeld ?_
  · obtain ⟨s0, s1, s2, s3, s4⟩ := hSw; go_simp
  try simp only [Act.put, List.setIfInBounds_toArray, List.set_cons_zero, List.set_cons_succ]
  refine wpAnyH_done (by kernel_rfl) ?_ _
  go_wp2_with fail
  go_ret
  exact ⟨by rw [unhide HE]; rfl, bthen hBW hD2⟩
theorem refSmall (w : World) (s : Sp) (k : Nat) (n lo hi : Int) (hs : SpAt w s k lo hi) (h0 : -1000000000 ≤ n) (h1 : n ≤ 1000000000) :
    Calls Tryz.prog 122 #[.agg #[.bool s.ln, .slice s.la s.lN s.lc, .bool s.hn, .slice s.ha s.hN s.hc, .int .i64 s.bits], .int .i64 n] w fun r w' => r = .returned (.bool (smallB lo hi n)) ∧ Below w.heap.size w w' := by
  rcases cmp3 hi n with ⟨h2, h3⟩ | ⟨h2, h3⟩ | ⟨h2, h3⟩
  · exact refSmall_a w s k n lo hi hs h0 h1 h2 (by omega)
  · exact refSmall_b w s k n lo hi hs h0 h1 h2 (by omega)
  · exact refSmall_c w s k n lo hi hs h0 h1 h2 (by omega)
end Go.Proofs.YtgmnknmjainababGreat
namespace Go.Proofs.YtgmnknmjainababGreat
open Go.RowKit
attribute [local go_sem ↓] Go.wp_at_zero Go.wp_at_succ
def byI (a : Int × Int) (n d : Int) : Int × Int := (leastZ (pr (a.1 * n) (a.2 * n)) 1 / d, -(-(mostZ (pr (a.1 * n) (a.2 * n)) 1) / d))
theorem byI_nonneg {a : Int × Int} {n d : Int} (ha : a.1 ≤ a.2) (hn : 0 ≤ n) : byI a n d = scaleI a n d := by
  have h := Int.mul_le_mul_of_nonneg_right ha hn
  have e1 : leastZ (pr (a.1 * n) (a.2 * n)) 1 = a.1 * n := by
    simp only [leastZ, pr]; simp; omega
  have e2 : mostZ (pr (a.1 * n) (a.2 * n)) 1 = a.2 * n := by
    simp only [mostZ, pr]; simp; omega
  unfold byI scaleI
  rw [e1, e2]
set_option maxRecDepth 100000 in
set_option maxHeartbeats 4000000 in
theorem refBy (w : World) (s : Sp) (x y : Nm) (k k1 k2 b : Nat) (a : Int × Int) (n d : Int) (hs : SpAt w s k a.1 a.2) (hx : IntAt w x.neg x.a x.n x.cap k1 n) (hy : IntAt w y.neg y.a y.n y.cap k2 d) (hk : k ≤ 100000000) (hk1 : k1 ≤ 100000000) (hk2 : k2 ≤ 100000000) (hd : 0 < d) (hbits : s.bits = (b : Int)) :
    Calls Tryz.prog 56 #[.agg #[.bool s.ln, .slice s.la s.lN s.lc, .bool s.hn, .slice s.ha s.hN s.hc, .int .i64 s.bits], .agg #[.bool x.neg, .slice x.a x.n x.cap], .agg #[.bool y.neg, .slice y.a y.n y.cap]] w (SpanAns w b (k + k1 + 9) (byI a n d).1 (byI a n d).2) := by
  obtain ⟨W, hW⟩ : ∃ W, W = (((w.alloc (.cells #[.bool s.ln, .slice s.la s.lN s.lc, .bool s.hn, .slice s.ha s.hN s.hc, .int .i64 s.bits] 36)).alloc (.cells #[.bool x.neg, .slice x.a x.n x.cap] 26)).alloc (.cells #[.bool y.neg, .slice y.a y.n y.cap] 26)).alloc (.cells #[.bool false, .slice none 0 0, .bool false, .slice none 0 0, .int .i64 0] 36) := ⟨_, rfl⟩
  have hBW : Below w.heap.size w W := by rw [hW]; exact bl4 _ _ _ _ _
  have A : SpC W w.heap.size s := by rw [hW]; exact ⟨by simp [go_sem], by simp [go_sem], by simp [go_sem], by simp [go_sem], by simp [go_sem]⟩
  have X : NmC W (w.heap.size + 1) x := by rw [hW]; exact ⟨by simp [go_sem], by simp [go_sem]⟩
  have Y : NmC W (w.heap.size + 1 + 1) y := by rw [hW]; exact ⟨by simp [go_sem], by simp [go_sem]⟩
  have R : NoC W (w.heap.size + 1 + 1 + 1) := by rw [hW]; exact ⟨by simp [go_sem], by simp [go_sem], by simp [go_sem], by simp [go_sem], by simp [go_sem], fun o => by simp [go_sem]⟩
  have HS := hide (hs.below hBW)
  have HX := hide (hx.below hBW)
  have HY := hide (hy.below hBW)
  have HB := hide hbits
  have HK := hide (show ∀ w', Below W.heap.size W w' → (w'.cell? ⟨w.heap.size, 0, none⟩ = some (.bool s.ln) ∧ w'.cell? ⟨w.heap.size, 1, none⟩ = some (.slice s.la s.lN s.lc) ∧ w'.cell? ⟨w.heap.size, 2, none⟩ = some (.bool s.hn) ∧ w'.cell? ⟨w.heap.size, 3, none⟩ = some (.slice s.ha s.hN s.hc) ∧ w'.cell? ⟨w.heap.size + 1, 0, none⟩ = some (.bool x.neg) ∧ w'.cell? ⟨w.heap.size + 1, 1, none⟩ = some (.slice x.a x.n x.cap)) from fun w' hB => ⟨(A.below hB).c0, (A.below hB).c1, (A.below hB).c2, (A.below hB).c3, (X.below hB).c0, (X.below hB).c1⟩)
  clear hs hx hy hbits
  go_enter Tryz.func56, Tryz.ntmps56
  go_wp2
  rw [← hW]
  clear hW
  obtain ⟨x0, x1, x2, x3, x4, x5⟩ := unhide HK _ (Below.refl _ _)
  have hB0 : Below W.heap.size W W.drew := (Below.refl _ _).drew
  go_region_held3 (fun w' => w'.cell? ⟨w.heap.size, 0, none⟩ = some (.bool s.ln) ∧ w'.cell? ⟨w.heap.size, 1, none⟩ = some (.slice s.la s.lN s.lc) ∧ w'.cell? ⟨w.heap.size, 2, none⟩ = some (.bool s.hn) ∧ w'.cell? ⟨w.heap.size, 3, none⟩ = some (.slice s.ha s.hN s.hc) ∧ w'.cell? ⟨w.heap.size + 1, 0, none⟩ = some (.bool x.neg) ∧ w'.cell? ⟨w.heap.size + 1, 1, none⟩ = some (.slice x.a x.n x.cap)) (exact unhide HK _ (by first | with_reducible exact hB0 | with_reducible exact balloc hB2 _ | with_reducible exact hB2 | with_reducible exact hB1))
    (first
      | (go_at_call 66; have hq := hB1; refine (mul_int _ _ _ _ _ _ _ _ k k1 a.2 n _ ((unhide HS).hi.below hB1) ((unhide HX).below hB1) (by omega) (by omega)).mono ?_; rintro r w2 ⟨neg2, a2, n2, c2, rfl, hint2, hb2⟩; have hint1 := hint1.below hb2; have hB2 := bthen hB1 hb2)
      | (go_at_call 66; refine (mul_int _ _ _ _ _ _ _ _ k k1 a.1 n _ ((unhide HS).lo.below hB0) ((unhide HX).below hB0) (by omega) (by omega)).mono ?_; rintro r w1 ⟨neg1, a1, n1, c1, rfl, hint1, hb1⟩; have hB1 := bthen hB0 hb1))
  obtain ⟨w5, hw5⟩ : ∃ w5, w5 = w2.alloc (.cells #[.bool neg1, .slice a1 n1 c1, .bool neg2, .slice a2 n2 c2] 26) := ⟨_, rfl⟩
  have hB5 : Below W.heap.size W w5 := by rw [hw5]; exact balloc hB2 _
  have hN : Nums w5 w2.heap.size 2 (k + k1) (pr ⟨neg1, a1, n1, c1⟩ ⟨neg2, a2, n2, c2⟩) (pr (a.1 * n) (a.2 * n)) := by rw [hw5]; exact nums2' w2 _ rfl ⟨neg1, a1, n1, c1⟩ ⟨neg2, a2, n2, c2⟩ _ _ _ _ hint1 hint2
  have R5 := R.below hB5
  have hl1 := R5.lt
  have A5 := A.below hB5
  have Y5 := Y.below hB5
  have HY5 := hide ((unhide HY).below hB5)
  have lA := A5.lt
  have lY := Y5.lt
  have HK1 := hide (show ∀ w', Below w5.heap.size w5 w' → (w'.cell? ⟨w.heap.size + 1 + 1, 0, none⟩ = some (.bool y.neg) ∧ w'.cell? ⟨w.heap.size + 1 + 1, 1, none⟩ = some (.slice y.a y.n y.cap) ∧ w'.cell? ⟨w.heap.size, 4, none⟩ = some (.int .i64 s.bits)) from fun w' hB => ⟨(Y5.below hB).c0, (Y5.below hB).c1, (A5.below hB).c4⟩)
  have hD0 : Below w5.heap.size w5 w5.drew := (Below.refl _ _).drew
  clear x0 x1 x2 x3 x4 x5 hb1 hb2 hint1 hint2 hB1 hB2 hB0 HK HS HX HY A X Y R
  go_wp2
  rw [← hw5]
  clear hw5
  obtain ⟨x0, x1, x2⟩ := unhide HK1 _ (Below.refl _ _)
  have n1 : w.heap.size + 1 + 1 + 1 ≠ w.heap.size + 1 + 1 := by omega
  have n2 : w.heap.size + 1 + 1 ≠ w.heap.size + 1 + 1 + 1 := by omega
  have n3 : w.heap.size + 1 + 1 + 1 ≠ w.heap.size := by omega
  have n4 : w.heap.size ≠ w.heap.size + 1 + 1 + 1 := by omega
  go_region_held3 (fun w' => w'.cell? ⟨w.heap.size + 1 + 1, 0, none⟩ = some (.bool y.neg) ∧ w'.cell? ⟨w.heap.size + 1 + 1, 1, none⟩ = some (.slice y.a y.n y.cap) ∧ w'.cell? ⟨w.heap.size, 4, none⟩ = some (.int .i64 s.bits)) (first | exact unhide HK1 _ (by first | with_reducible exact hD0 | with_reducible exact hD4 | with_reducible exact hD3 | with_reducible exact hD2 | with_reducible exact hD1) | go_keep)
    (first
      | (go_at_call 109; have hq := hD3; refine (refUp_any _ _ _ _ _ _ _ _ (k + k1) k2 _ d _ hint8 ((unhide HY5).below hD3) (by omega) (by omega) hd).mono ?_; rintro r w9 ⟨neg9, a9, n9, c9, rfl, hint9, hb9⟩; have hint7 := (hint7.below hb8).below hb9; have hD4 := bthen hD3 hb9; obtain ⟨q0, q1, q2, q3, q4, q5⟩ := R5.below hD4; obtain ⟨y0, y1, y2⟩ := unhide HK1 _ hD4)
      | (go_at_call 102; have hq := hD2; refine (greatest_int _ 1 _ (k + k1) _ _ _ (hN.below hD2) (by omega)).mono ?_; rintro r w8 ⟨neg8, a8, n8, c8, rfl, hint8, hb8⟩; have hD3 := bthen hD2 hb8)
      | (go_at_call 108; have hq := hD1; refine (refDown_any _ _ _ _ _ _ _ _ (k + k1) k2 _ d _ hint6 ((unhide HY5).below hD1) (by omega) (by omega) hd).mono ?_; rintro r w7 ⟨neg7, a7, n7, c7, rfl, hint7, hb7⟩; have hD2 := bthen hD1 hb7)
      | (go_at_call 106; refine (least_int _ 1 _ (k + k1) _ _ _ (hN.below hD0) (by omega)).mono ?_; rintro r w6 ⟨neg6, a6, n6, c6, rfl, hint6, hb6⟩; have hD1 := bthen hD0 hb6))
  all_goals
    go_wp2_with fail
    refine bodyPost_ret (v := .agg #[.bool neg7, .slice a7 n7 c7, .bool neg9, .slice a9 n9 c9, .int .i64 s.bits]) (by simp [results, Tryz.results56, go_sem, q0, q1, q2, q3, q4]) rfl ⟨⟨neg7, a7, n7, c7, neg9, a9, n9, c9, s.bits⟩, rfl, unhide HB, ?_, ?_⟩
    · exact SpAt.put5 ⟨hint7.mono (by omega), hint9.mono (by omega)⟩ q0 q1 q2 q3 q4 _ _ _ _ _
    · exact set5 (bthen (bthen hBW hB5) hD4) (by omega) _ _ _ _ _
end Go.Proofs.YtgmnknmjainababGreat
namespace Go.Proofs.YtgmnknmjainababGreat
open Go.RowKit
attribute [local go_sem ↓] Go.wp_at_zero Go.wp_at_succ
set_option maxRecDepth 100000 in
set_option maxHeartbeats 4000000 in
theorem refScaled (w : World) (s : Sp) (x : Nm) (k k1 e b : Nat) (a : Int × Int) (n : Int) (hs : SpAt w s k a.1 a.2) (hx : IntAt w x.neg x.a x.n x.cap k1 n) (hle : a.1 ≤ a.2) (hn : 0 ≤ n) (hk : k ≤ 100000000) (hk1 : k1 ≤ 100000000) (he : e ≤ 1000000) (hbits : s.bits = (b : Int)) :
    Calls Tryz.prog 135 #[.agg #[.bool s.ln, .slice s.la s.lN s.lc, .bool s.hn, .slice s.ha s.hN s.hc, .int .i64 s.bits], .agg #[.bool x.neg, .slice x.a x.n x.cap], .int .i64 e] w (SpanAns w b (k + k1 + 30) (scaleI a n (Q e)).1 (scaleI a n (Q e)).2) := by
  obtain ⟨W, hW⟩ : ∃ W, W = ((w.alloc (.cells #[.bool s.ln, .slice s.la s.lN s.lc, .bool s.hn, .slice s.ha s.hN s.hc, .int .i64 s.bits] 36)).alloc (.cells #[.bool x.neg, .slice x.a x.n x.cap] 26)).alloc (.cells #[.bool false, .slice none 0 0, .bool false, .slice none 0 0, .int .i64 0] 36) := ⟨_, rfl⟩
  have hBW : Below w.heap.size w W := by rw [hW]; exact bl3 _ _ _ _
  have A : SpC W w.heap.size s := by rw [hW]; exact ⟨by simp [go_sem], by simp [go_sem], by simp [go_sem], by simp [go_sem], by simp [go_sem]⟩
  have X : NmC W (w.heap.size + 1) x := by rw [hW]; exact ⟨by simp [go_sem], by simp [go_sem]⟩
  have R : NoC W (w.heap.size + 1 + 1) := by rw [hW]; exact ⟨by simp [go_sem], by simp [go_sem], by simp [go_sem], by simp [go_sem], by simp [go_sem], fun o => by simp [go_sem]⟩
  have HS := hide (hs.below hBW)
  have HX := hide (hx.below hBW)
  have HB := hide hbits
  have HB2 := hide (byI_nonneg (d := Q e) hle hn)
  have HK := hide (show ∀ w', Below W.heap.size W w' → (w'.cell? ⟨w.heap.size, 0, none⟩ = some (.bool s.ln) ∧ w'.cell? ⟨w.heap.size, 1, none⟩ = some (.slice s.la s.lN s.lc) ∧ w'.cell? ⟨w.heap.size, 2, none⟩ = some (.bool s.hn) ∧ w'.cell? ⟨w.heap.size, 3, none⟩ = some (.slice s.ha s.hN s.hc) ∧ w'.cell? ⟨w.heap.size + 1, 0, none⟩ = some (.bool x.neg) ∧ w'.cell? ⟨w.heap.size + 1, 1, none⟩ = some (.slice x.a x.n x.cap)) from fun w' hB => ⟨(A.below hB).c0, (A.below hB).c1, (A.below hB).c2, (A.below hB).c3, (X.below hB).c0, (X.below hB).c1⟩)
  clear hs hx hbits hle hn
  go_enter Tryz.func135, Tryz.ntmps135
  go_wp2
  rw [← hW]
  clear hW
  obtain ⟨x0, x1, x2, x3, x4, x5⟩ := unhide HK _ (Below.refl _ _)
  have hB0 : Below W.heap.size W W.drew := (Below.refl _ _).drew
  go_region_held3 (fun w' => w'.cell? ⟨w.heap.size, 0, none⟩ = some (.bool s.ln) ∧ w'.cell? ⟨w.heap.size, 1, none⟩ = some (.slice s.la s.lN s.lc) ∧ w'.cell? ⟨w.heap.size, 2, none⟩ = some (.bool s.hn) ∧ w'.cell? ⟨w.heap.size, 3, none⟩ = some (.slice s.ha s.hN s.hc) ∧ w'.cell? ⟨w.heap.size + 1, 0, none⟩ = some (.bool x.neg) ∧ w'.cell? ⟨w.heap.size + 1, 1, none⟩ = some (.slice x.a x.n x.cap)) (exact unhide HK _ (by first | with_reducible exact hB0 | with_reducible exact balloc hB2 _ | with_reducible exact hB2 | with_reducible exact hB1))
    (first
      | (go_at_call 66; have hq := hB1; refine (mul_int _ _ _ _ _ _ _ _ k k1 a.2 n _ ((unhide HS).hi.below hB1) ((unhide HX).below hB1) (by omega) (by omega)).mono ?_; rintro r w2 ⟨neg2, a2, n2, c2, rfl, hint2, hb2⟩; have hint1 := hint1.below hb2; have hB2 := bthen hB1 hb2)
      | (go_at_call 66; refine (mul_int _ _ _ _ _ _ _ _ k k1 a.1 n _ ((unhide HS).lo.below hB0) ((unhide HX).below hB0) (by omega) (by omega)).mono ?_; rintro r w1 ⟨neg1, a1, n1, c1, rfl, hint1, hb1⟩; have hB1 := bthen hB0 hb1))
  obtain ⟨w5, hw5⟩ : ∃ w5, w5 = w2.alloc (.cells #[.bool neg1, .slice a1 n1 c1, .bool neg2, .slice a2 n2 c2] 26) := ⟨_, rfl⟩
  have hB5 : Below W.heap.size W w5 := by rw [hw5]; exact balloc hB2 _
  have hN : Nums w5 w2.heap.size 2 (k + k1) (pr ⟨neg1, a1, n1, c1⟩ ⟨neg2, a2, n2, c2⟩) (pr (a.1 * n) (a.2 * n)) := by rw [hw5]; exact nums2' w2 _ rfl ⟨neg1, a1, n1, c1⟩ ⟨neg2, a2, n2, c2⟩ _ _ _ _ hint1 hint2
  have R5 := R.below hB5
  have hl1 := R5.lt
  have A5 := A.below hB5
  have lA := A5.lt
  have HK1 := hide (show ∀ w', Below w5.heap.size w5 w' → (w'.cell? ⟨w.heap.size, 4, none⟩ = some (.int .i64 s.bits)) from fun w' hB => (A5.below hB).c4)
  have hD0 : Below w5.heap.size w5 w5.drew := (Below.refl _ _).drew
  clear x0 x1 x2 x3 x4 x5 hb1 hb2 hint1 hint2 hB1 hB2 hB0 HK HS HX A X R
  go_wp2
  rw [← hw5]
  clear hw5
  have x0 := unhide HK1 _ (Below.refl _ _)
  have n3 : w.heap.size + 1 + 1 ≠ w.heap.size := by omega
  have n4 : w.heap.size ≠ w.heap.size + 1 + 1 := by omega
  go_region_held3 (fun w' => w'.cell? ⟨w.heap.size, 4, none⟩ = some (.int .i64 s.bits)) (first | exact unhide HK1 _ (by first | with_reducible exact hD0 | with_reducible exact hD6 | with_reducible exact hD5 | with_reducible exact hD4 | with_reducible exact hD3 | with_reducible exact hD2 | with_reducible exact hD1) | go_keep)
    (first
      | (go_at_call 103; have hq := hD5; refine (neg_int _ _ _ _ (k + k1 + 5 + 2) _ _ (hint10.mono (by omega)) (by omega)).mono ?_; rintro r w11 ⟨neg11, a11, n11, c11, rfl, hint11, hb11⟩; have hint7 := ((((hint7.below hb8).below hb9).below hb10).below hb11); have hD6 := bthen hD5 hb11; obtain ⟨q0, q1, q2, q3, q4, q5⟩ := R5.below hD6; have y0 := unhide HK1 _ hD6)
      | (go_at_call 105; have hq := hD4; refine (down_int _ _ _ _ e _ _ _ hint9 (by omega) (by omega)).mono ?_; rintro r w10 ⟨neg10, a10, n10, c10, rfl, hint10, hb10⟩; have hD5 := bthen hD4 hb10)
      | (go_at_call 103; have hq := hD3; refine (neg_int _ _ _ _ (k + k1) _ _ hint8 (by omega)).mono ?_; rintro r w9 ⟨neg9, a9, n9, c9, rfl, hint9, hb9⟩; have hD4 := bthen hD3 hb9)
      | (go_at_call 102; have hq := hD2; refine (greatest_int _ 1 _ (k + k1) _ _ _ (hN.below hD2) (by omega)).mono ?_; rintro r w8 ⟨neg8, a8, n8, c8, rfl, hint8, hb8⟩; have hD3 := bthen hD2 hb8)
      | (go_at_call 105; have hq := hD1; refine (down_int _ _ _ _ e _ _ _ hint6 (by omega) (by omega)).mono ?_; rintro r w7 ⟨neg7, a7, n7, c7, rfl, hint7, hb7⟩; have hD2 := bthen hD1 hb7)
      | (go_at_call 106; refine (least_int _ 1 _ (k + k1) _ _ _ (hN.below hD0) (by omega)).mono ?_; rintro r w6 ⟨neg6, a6, n6, c6, rfl, hint6, hb6⟩; have hD1 := bthen hD0 hb6))
  all_goals
    go_wp2_with fail
    refine bodyPost_ret (v := .agg #[.bool neg7, .slice a7 n7 c7, .bool neg11, .slice a11 n11 c11, .int .i64 s.bits]) (by simp [results, Tryz.results135, go_sem, q0, q1, q2, q3, q4]) rfl ⟨⟨neg7, a7, n7, c7, neg11, a11, n11, c11, s.bits⟩, rfl, unhide HB, ?_, ?_⟩
    · rw [← unhide HB2]
      exact SpAt.put5 ⟨hint7.mono (by omega), hint11.mono (by omega)⟩ q0 q1 q2 q3 q4 _ _ _ _ _
    · exact set5 (bthen (bthen hBW hB5) hD6) (by omega) _ _ _ _ _
end Go.Proofs.YtgmnknmjainababGreat
namespace Go.Proofs.YtgmnknmjainababGreat
open Ex
theorem Iv.mono {B : Nat} {a b : Int × Int} {x : Nat → Rat} (h : Iv B a x) (h1 : b.1 ≤ a.1) (h2 : a.2 ≤ b.2) : Iv B b x := by
  have q := Qr_pos B
  exact Has.mono h (rdiv_le q (by rw [rdm q]; exact cast_le h1)) (rdiv_le q (by rw [rdm q]; exact cast_le h2))
end Go.Proofs.YtgmnknmjainababGreat
namespace Go.Proofs.YtgmnknmjainababGreat
open Ex
namespace Ex
theorem sqrt_has {a b r t : Rat} {x y : Nat → Rat} (h : Has a b x) (hxy : Null (fun M => y M * y M - x M)) (N0 : Nat) (hy : ∀ M, N0 ≤ M → 0 ≤ y M) (h1 : r * r ≤ a) (h2 : b ≤ t * t) (ht : 0 ≤ t) : Has r t y := fun e he => by
  have he2 := Rat.mul_pos he he
  obtain ⟨N1, k1⟩ := h (e * e / 4) (by grind)
  obtain ⟨N2, k2⟩ := hxy (e * e / 4) (by grind)
  refine ⟨N0 + N1 + N2, fun M hM => ?_⟩
  obtain ⟨g1, g2⟩ := k1 M (by omega)
  obtain ⟨g3, g4⟩ := k2 M (by omega)
  have g5 := hy M (by omega)
  simp only [] at g3 g4
  generalize x M = X at *
  generalize y M = Y at *
  constructor
  · refine Rat.not_lt.1 fun hn => ?_
    have p1 := Rat.mul_nonneg (show 0 ≤ r - Y - e by grind) (show 0 ≤ r + Y by grind)
    have p2 := Rat.mul_nonneg (show 0 ≤ r - e by grind) (Rat.le_of_lt he)
    have p3 := Rat.mul_nonneg g5 (Rat.le_of_lt he)
    grind
  · refine Rat.not_lt.1 fun hn => ?_
    have p1 := Rat.mul_nonneg (show 0 ≤ Y - t - e by grind) (show 0 ≤ Y + t by grind)
    have p2 := Rat.mul_nonneg (show 0 ≤ Y - e by grind) (Rat.le_of_lt he)
    have p3 := Rat.mul_nonneg ht (Rat.le_of_lt he)
    grind
theorem Bdd.half {l : Nat → Rat} (h : Bdd l) : Bdd (fun M => l M / 2) := by
  obtain ⟨K, N, k0, hk⟩ := h
  exact ⟨K, N, k0, fun M hM => by obtain ⟨h1, h2⟩ := hk M hM; constructor <;> grind⟩
theorem isLog_Ev {l : Nat → Rat} (h : Bdd l) : IsLog l (Ev l) := ⟨h, null_zero.of_eq fun M => by grind⟩
theorem Lg_left {y b : Rat} (hy : AB y (1 / 2)) {a : Nat} (hb : AB (pw y a) b) (i : Nat) : AB (Lg y (a + i) - Lg y a) (b * (1 - q2 i)) ∧ AB (pw y (a + i)) (b * q2 i) := by
  have b0 := hb.nonneg
  induction i with
  | zero =>
    have e : q2 0 = 1 := rfl
    rw [e]; simp only [Nat.add_zero]
    refine ⟨?_, hb.mono (by grind)⟩
    constructor <;> grind
  | succ i ih =>
    obtain ⟨h1, h2⟩ := ih
    have e : Lg y (a + (i + 1)) = Lg y (a + i) + pw y (a + i + 1) / (((a + i : Nat) : Rat) + 1) := rfl
    have e2 : q2 (i + 1) = q2 i / 2 := rfl
    have h3 : AB (pw y (a + i + 1)) (b * q2 i / 2) := by
      have h4 := hy.mul h2
      have e3 : pw y (a + i + 1) = y * pw y (a + i) := by simp only [pw]
      rw [e3]
      exact h4.mono (by grind)
    have q := q2_pos i
    have hbq := Rat.mul_nonneg b0 (Rat.le_of_lt q)
    have h5 : AB (pw y (a + i + 1) / (((a + i : Nat) : Rat) + 1)) (b * q2 i / 2) := by
      refine rdiv_AB (pos1 _) (h3.mono ?_)
      have kk : (0 : Rat) ≤ ((a + i : Nat) : Rat) := by exact_mod_cast Nat.zero_le (a + i)
      have := Rat.mul_nonneg kk (show 0 ≤ b * q2 i / 2 by grind)
      grind
    refine ⟨?_, by rw [e2]; exact h3.mono (by grind)⟩
    have h6 := h1.add h5
    rw [e, e2]
    generalize pw y (a + i + 1) / (((a + i : Nat) : Rat) + 1) = t at *
    have h7 : Lg y (a + i) + t - Lg y a = Lg y (a + i) - Lg y a + t := by grind
    rw [h7]
    exact h6.mono (by grind)
theorem pw_opp (z : Rat) (k : Nat) : pw (-z) (2 * k + 1) = -pw z (2 * k + 1) := by
  have e1 : pw (-z) (2 * k + 1) = -z * pw (-z) (2 * k) := by simp only [pw]
  have e2 : pw z (2 * k + 1) = z * pw z (2 * k) := by simp only [pw]
  rw [e1, e2, pw_neg]; grind
end Ex
theorem root_has {B : Nat} {a : Int × Int} {l : Nat → Rat} (hl : Bdd l) (h : Iv B a (Ev l)) {r t : Int} (hr : r * r ≤ a.1 * Q B) (ht0 : 0 ≤ t) (ht : a.2 * Q B ≤ t * t) : Iv B (r, t) (Ev (fun M => l M / 2)) := by
  have q := Qr_pos B
  have hq : 0 < Q B := by have := Q_pos B; omega
  obtain ⟨c, hc, N, hN⟩ := Ev_low hl.half
  have e1 : (fun M => l M / 2 + l M / 2) = l := funext fun M => by grind
  have ha := Ev_add hl.half hl.half
  rw [e1] at ha
  refine sqrt_has h ha N (fun M hM => by have := hN M hM; grind) ?_ ?_ ?_
  · have hc1 : ((r * r : Int) : Rat) ≤ ((a.1 * Q B : Int) : Rat) := cast_le hr
    rw [Rat.intCast_mul, Rat.intCast_mul] at hc1
    refine rle_div q ?_
    have e2 := rdm (a := (r : Rat)) q
    generalize (r : Rat) / (Q B : Rat) = R at *
    rw [← e2] at hc1
    have h3 : R * R * (Q B : Rat) * (Q B : Rat) ≤ (a.1 : Rat) * (Q B : Rat) := by grind
    exact Rat.le_of_mul_le_mul_right h3 q
  · have hc1 : ((a.2 * Q B : Int) : Rat) ≤ ((t * t : Int) : Rat) := cast_le ht
    rw [Rat.intCast_mul, Rat.intCast_mul] at hc1
    refine rdiv_le q ?_
    have e2 := rdm (a := (t : Rat)) q
    generalize (t : Rat) / (Q B : Rat) = R at *
    rw [← e2] at hc1
    have h3 : (a.2 : Rat) * (Q B : Rat) ≤ R * R * (Q B : Rat) * (Q B : Rat) := by grind
    exact Rat.le_of_mul_le_mul_right h3 q
  · refine rle_div q ?_
    have : ((0 : Int) : Rat) ≤ (t : Rat) := cast_le ht0
    have e0 : ((0 : Int) : Rat) = 0 := rfl
    rw [e0] at this
    grind
def npT (B : Nat) (z : Int × Int) : Nat → Int × Int
  | 0 => z
  | n + 1 => mulI B (npT B z n) z
def nsT (B : Nat) (z : Int × Int) : Nat → Int × Int
  | 0 => z
  | n + 1 => if (n + 2) % 2 = 0 then subI (nsT B z n) (scaleI (npT B z (n + 1)) 1 ((n : Int) + 2)) else addI (nsT B z n) (scaleI (npT B z (n + 1)) 1 ((n : Int) + 2))
theorem npT_has {B : Nat} {z : Int × Int} {x : Nat → Rat} (h : Iv B z x) (n : Nat) : Iv B (npT B z n) (fun M => pw (x M) (n + 1)) := by
  induction n with
  | zero => exact h.congr (null_zero.of_eq fun M => by simp only [pw]; grind)
  | succ n ih => exact (ih.mul h).congr (null_zero.of_eq fun M => by simp only [pw]; grind)
theorem one_over (n : Nat) (X : Rat) : ((1 : Int) : Rat) / (((n : Int) + 2 : Int) : Rat) * X = X / (((n + 1 : Nat) : Rat) + 1) := by
  have e : (((n : Int) + 2 : Int) : Rat) = ((n + 1 : Nat) : Rat) + 1 := by
    rw [Rat.intCast_add, Rat.natCast_add]
    have e1 : ((2 : Int) : Rat) = 2 := rfl
    have e2 : ((n : Int) : Rat) = (n : Rat) := rfl
    have e3 : ((1 : Nat) : Rat) = 1 := rfl
    rw [e1, e2, e3]; grind
  have e0 : ((1 : Int) : Rat) = 1 := rfl
  rw [e, e0, Rat.div_def, Rat.div_def, Rat.one_mul, Rat.mul_comm]
theorem nsT_has {B : Nat} {z : Int × Int} {x : Nat → Rat} (h : Iv B z x) (n : Nat) : Iv B (nsT B z n) (fun M => -Lg (-x M) (n + 1)) := by
  induction n with
  | zero =>
    refine h.congr (null_zero.of_eq fun M => ?_)
    have e : Lg (-x M) 1 = 0 + pw (-x M) 1 / (((0 : Nat) : Rat) + 1) := rfl
    have e1 : pw (-x M) 1 = -x M * 1 := rfl
    have e2 : ((0 : Nat) : Rat) = 0 := rfl
    rw [show (0 : Nat) + 1 = 1 from rfl, e, e1, e2, Rat.div_def]
    have e3 : ((0 : Rat) + 1)⁻¹ = 1 := by decide +kernel
    rw [e3]; grind
  | succ n ih =>
    have hs := (npT_has h (n + 1)).scale (n := 1) (d := (n : Int) + 2) (by omega) (by omega)
    have e : ∀ M, Lg (-x M) (n + 1 + 1) = Lg (-x M) (n + 1) + pw (-x M) (n + 1 + 1) / (((n + 1 : Nat) : Rat) + 1) := fun M => rfl
    unfold nsT
    split
    · rename_i hp
      obtain ⟨k, hk⟩ : ∃ k, n + 1 + 1 = 2 * k := ⟨(n + 2) / 2, by omega⟩
      refine (ih.sub hs).congr (null_zero.of_eq fun M => ?_)
      rw [e, one_over, hk, pw_neg]
      generalize pw (x M) (2 * k) / (((n + 1 : Nat) : Rat) + 1) = T
      grind
    · rename_i hp
      obtain ⟨k, hk⟩ : ∃ k, n + 1 + 1 = 2 * k + 1 := ⟨(n + 1) / 2, by omega⟩
      refine (ih.add hs).congr (null_zero.of_eq fun M => ?_)
      rw [e, one_over, hk, pw_opp]
      have e5 : -pw (x M) (2 * k + 1) / (((n + 1 : Nat) : Rat) + 1) = -(pw (x M) (2 * k + 1) / (((n + 1 : Nat) : Rat) + 1)) := by rw [Rat.div_def, Rat.div_def, Rat.neg_mul]
      rw [e5]
      generalize pw (x M) (2 * k + 1) / (((n + 1 : Nat) : Rat) + 1) = T
      grind
theorem q2_Q (k : Nat) : q2 k * (Q k : Rat) = 1 := by
  induction k with
  | zero =>
    have e1 : q2 0 = 1 := rfl
    have e2 : ((Q 0 : Int) : Rat) = 1 := rfl
    rw [e1, e2]; exact Rat.one_mul 1
  | succ k ih =>
    have e : q2 (k + 1) = q2 k / 2 := rfl
    have e2 : Q (k + 1) = 2 * Q k := rfl
    rw [e, e2, Rat.intCast_mul]
    have e3 : ((2 : Int) : Rat) = 2 := rfl
    rw [e3]; grind
theorem q2_mono {a b : Nat} (h : a ≤ b) : q2 b ≤ q2 a := by
  induction b with
  | zero => have : a = 0 := by omega
            subst this; exact Rat.le_refl
  | succ b ih =>
    by_cases hb : a = b + 1
    · subst hb; exact Rat.le_refl
    · have := ih (by omega)
      have := q2_pos b
      have e : q2 (b + 1) = q2 b / 2 := rfl
      rw [e]; grind
theorem pw_AB_neg {x b : Rat} {k : Nat} (h : AB (pw x k) b) : AB (pw (-x) k) b := by
  by_cases hk : k % 2 = 0
  · obtain ⟨c, hc⟩ : ∃ c, k = 2 * c := ⟨k / 2, by omega⟩
    subst hc; rw [pw_neg]; exact h
  · obtain ⟨c, hc⟩ : ∃ c, k = 2 * c + 1 := ⟨k / 2, by omega⟩
    subst hc; rw [pw_opp]; exact h.neg
theorem near_has {B N : Nat} {z : Int × Int} {x : Nat → Rat} (h : Iv B z x) (N0 : Nat) (hx : ∀ M, N0 ≤ M → AB (x M) (1 / 2)) (hN : reachI (npT B z N) ≤ 1 ∨ B ≤ N + 1) : Iv B (addI (nsT B z N) (-2, 2)) (fun M => -Lg (-x M) M) := by
  have q := Qr_pos B
  have hp : ∃ N1, ∀ M, N1 ≤ M → AB (pw (x M) (N + 1)) (2 / (Q B : Rat)) := by
    rcases hN with hN | hN
    · obtain ⟨N1, h1⟩ := npT_has h N (1 / (Q B : Rat)) (rdiv_pos (by decide) q)
      refine ⟨N1, fun M hM => ?_⟩
      obtain ⟨g1, g2⟩ := h1 M hM
      have r1 : -1 ≤ (npT B z N).1 := by unfold reachI maxZ at hN; split at hN <;> omega
      have r2 : (npT B z N).2 ≤ 1 := by unfold reachI maxZ at hN; split at hN <;> omega
      have c1 : ((-1 : Int) : Rat) / (Q B : Rat) ≤ ((npT B z N).1 : Rat) / (Q B : Rat) := rdiv_le q (by rw [rdm q]; exact cast_le r1)
      have c2 : ((npT B z N).2 : Rat) / (Q B : Rat) ≤ ((1 : Int) : Rat) / (Q B : Rat) := rdiv_le q (by rw [rdm q]; exact cast_le r2)
      have e1 : ((-1 : Int) : Rat) / (Q B : Rat) = -(1 / (Q B : Rat)) := by
        rw [show ((-1 : Int) : Rat) = -1 from rfl, Rat.div_def, Rat.div_def, Rat.neg_mul]
      have e2 : ((1 : Int) : Rat) / (Q B : Rat) = 1 / (Q B : Rat) := rfl
      have e3 : (2 : Rat) / (Q B : Rat) = 1 / (Q B : Rat) + 1 / (Q B : Rat) := by
        rw [Rat.div_def, Rat.div_def]; grind
      rw [e1] at c1
      rw [e2] at c2
      rw [e3]
      constructor <;> grind
    · refine ⟨N0, fun M hM => (pw_AB (hx M hM) (N + 1)).mono ?_⟩
      have h1 := q2_mono hN
      refine Rat.le_trans h1 (rle_div q ?_)
      rw [q2_Q]; decide
  obtain ⟨N1, h1⟩ := hp
  intro e he
  obtain ⟨N2, h2⟩ := nsT_has h N e he
  refine ⟨N0 + N1 + N2 + (N + 1), fun M hM => ?_⟩
  obtain ⟨g1, g2⟩ := h2 M (by omega)
  have h3 := (Lg_left (hx M (by omega)).neg (pw_AB_neg (h1 M (by omega))) (M - (N + 1))).1
  rw [show N + 1 + (M - (N + 1)) = M by omega] at h3
  have q1 := q2_pos (M - (N + 1))
  have q3 : (0 : Rat) < 2 / (Q B : Rat) := rdiv_pos (by decide) q
  have h4 := h3.mono (b := 2 / (Q B : Rat)) (by
    have := Rat.mul_nonneg (Rat.le_of_lt q3) (Rat.le_of_lt q1)
    grind)
  obtain ⟨h5, h6⟩ := h4
  have e1 : (((addI (nsT B z N) (-2, 2)).1 : Int) : Rat) / (Q B : Rat) = ((nsT B z N).1 : Rat) / (Q B : Rat) - 2 / (Q B : Rat) := by
    rw [← rdiv_sub]; unfold addI; simp only []
    rw [Rat.intCast_add]; congr 1
    rw [show ((-2 : Int) : Rat) = -2 from rfl]; grind
  have e2 : (((addI (nsT B z N) (-2, 2)).2 : Int) : Rat) / (Q B : Rat) = ((nsT B z N).2 : Rat) / (Q B : Rat) + 2 / (Q B : Rat) := by
    rw [← rdiv_add]; unfold addI; simp only []
    rw [Rat.intCast_add]; congr 1
  rw [e1, e2]
  simp only [] at g1 g2
  constructor <;> grind
theorem near_log {B N : Nat} {z : Int × Int} {l : Nat → Rat} (hl : Bdd l) (h : Iv B z (fun M => Ev l M - 1)) (N0 : Nat) (hx : ∀ M, N0 ≤ M → AB (Ev l M - 1) (1 / 2)) (hN : reachI (npT B z N) ≤ 1 ∨ B ≤ N + 1) : Iv B (addI (nsT B z N) (-2, 2)) l := by
  have h1 := near_has h N0 hx hN
  have h2 := isLog_Lg (y := fun M => -(Ev l M - 1)) N0 (fun M hM => (hx M hM).neg)
  have h3 := (isLog_Ev hl).uniq (h2.congr_r (r' := Ev l) (null_zero.of_eq fun M => by grind))
  exact h1.congr (h3.of_eq fun M => rfl)
theorem npT_le {B : Nat} {z : Int × Int} (hz : z.1 ≤ z.2) (n : Nat) : (npT B z n).1 ≤ (npT B z n).2 := by
  cases n with
  | zero => exact hz
  | succ n => exact mulI_le B
theorem npT_abs {B : Nat} {z : Int × Int} (h : Abs z (Q B)) (n : Nat) : Abs (npT B z n) (Q B) := by
  induction n with
  | zero => exact h
  | succ n ih => exact mulI_abs ih h (Int.le_refl _)
theorem nsT_le {B : Nat} {z : Int × Int} (hz : z.1 ≤ z.2) (n : Nat) : (nsT B z n).1 ≤ (nsT B z n).2 := by
  induction n with
  | zero => exact hz
  | succ n ih =>
    have h := scaleI_le (n := 1) (d := (n : Int) + 2) (npT_le (B := B) hz (n + 1)) (by omega) (by omega)
    unfold nsT
    split
    · unfold subI; simp only []; omega
    · unfold addI; simp only []; omega
theorem nsT_abs {B : Nat} {z : Int × Int} (h : Abs z (Q B)) (n : Nat) : Abs (nsT B z n) (((n : Int) + 1) * Q B) := by
  induction n with
  | zero => exact h.mono (by omega)
  | succ n ih =>
    obtain ⟨g1, g2, g3, g4⟩ := scaleI_abs (n := 1) (d := (n : Int) + 2) (npT_abs h (n + 1)) (by omega) (by omega) (by omega)
    obtain ⟨k1, k2, k3, k4⟩ := ih
    have e : ((n + 1 : Nat) : Int) + 1 = (n : Int) + 1 + 1 := by omega
    rw [e, Int.add_mul, Int.one_mul]
    unfold nsT
    split
    · exact ⟨by unfold subI; simp only []; omega, by unfold subI; simp only []; omega, by unfold subI; simp only []; omega, by unfold subI; simp only []; omega⟩
    · exact ⟨by unfold addI; simp only []; omega, by unfold addI; simp only []; omega, by unfold addI; simp only []; omega, by unfold addI; simp only []; omega⟩
structure RInv (B : Nat) (l : Nat → Rat) (i : Nat) (a : Int × Int) : Prop where
  has : Iv B a (Ev (fun M => l M / (Q i : Rat)))
  lo : Q B ≤ a.1
  le : a.1 ≤ a.2
  hi : (a.2 - Q B - 2) * Q i ≤ Q B
theorem Bdd.over {l : Nat → Rat} (h : Bdd l) (i : Nat) : Bdd (fun M => l M / (Q i : Rat)) := by
  obtain ⟨K, N, k0, hk⟩ := h
  have q := Qr_pos i
  refine ⟨K, N, k0, fun M hM => rdiv_AB q ((hk M hM).mono ?_)⟩
  have h1 : ((1 : Int) : Rat) ≤ (Q i : Rat) := cast_le (by have := Q_pos i; omega)
  have e1 : ((1 : Int) : Rat) = 1 := rfl
  rw [e1] at h1
  have := Rat.mul_nonneg (show 0 ≤ (Q i : Rat) - 1 by grind) k0
  grind
theorem rinv_start {B : Nat} {l : Nat → Rat} {a : Int × Int} (h : Iv B a (Ev l)) (h1 : Q B ≤ a.1) (h2 : a.1 ≤ a.2) (h3 : a.2 ≤ 2 * Q B) : RInv B l 0 a := by
  refine ⟨?_, h1, h2, ?_⟩
  · have e : (fun M => l M / (Q 0 : Rat)) = l := funext fun M => by
      have e0 : ((Q 0 : Int) : Rat) = 1 := rfl
      have := rdm (a := l M) (show (0 : Rat) < 1 by decide)
      rw [e0]; grind
    rw [e]; exact h
  · have e0 : Q 0 = 1 := rfl
    rw [e0]; omega
theorem root_half {q X t : Int} (hq : 0 < q) (hX : 0 ≤ X) (h0 : 0 ≤ t) (h : t * t ≤ (q + X) * q) : 2 * (t - q) ≤ X := by
  refine Int.not_lt.1 fun hn => ?_
  have h1 : 2 * q + X + 1 ≤ 2 * t := by omega
  have h2 := Int.mul_le_mul h1 h1 (by omega) (by omega)
  have e1 : 2 * t * (2 * t) = 4 * (t * t) := by grind
  have e2 : (2 * q + X + 1) * (2 * q + X + 1) = 4 * ((q + X) * q) + (X * X + 4 * q + 2 * X + 1) := by grind
  have h3 := Int.mul_nonneg hX hX
  omega
theorem rinv_step {B i : Nat} {l : Nat → Rat} {a : Int × Int} (hl : Bdd l) (h : RInv B l i a) {r t : Int} (hr0 : 0 ≤ r) (hr : r * r ≤ a.1 * Q B) (hr2 : a.1 * Q B < (r + 1) * (r + 1)) (ht0 : 0 ≤ t) (ht : t * t ≤ a.2 * Q B) (ht2 : a.2 * Q B < (t + 1) * (t + 1)) : RInv B l (i + 1) (r, t + 1) := by
  have q := Q_pos B
  obtain ⟨h1, h2, h3, h4⟩ := h
  refine ⟨?_, ?_, ?_, ?_⟩
  · have h5 := root_has (Bdd.over hl i) h1 (r := r) (t := t + 1) hr (by omega) (by omega)
    have e : (fun M => l M / (Q (i + 1) : Rat)) = fun M => l M / (Q i : Rat) / 2 := funext fun M => by
      have e2 : Q (i + 1) = 2 * Q i := rfl
      have e3 : ((2 : Int) : Rat) = 2 := rfl
      have qi := Qr_pos i
      have g1 := rdm (a := l M) qi
      rw [e2, Rat.intCast_mul, e3]
      have g2 := rdm (a := l M) (show (0 : Rat) < 2 * (Q i : Rat) by grind)
      generalize l M / (Q i : Rat) = U at *
      generalize l M / (2 * (Q i : Rat)) = V at *
      have g3 : (V - U / 2) * (Q i : Rat) = 0 := by grind
      rcases Rat.mul_eq_zero.1 g3 with g | g <;> grind
    rw [e]; exact h5
  · refine Int.not_lt.1 fun hn => ?_
    have h5 : r + 1 ≤ Q B := by simp only [] at hn; omega
    have h6 := Int.mul_le_mul h5 h5 (by omega) (by omega)
    have h7 := Int.mul_le_mul_of_nonneg_right h2 (show 0 ≤ Q B by omega)
    omega
  · simp only []
    refine Int.not_lt.1 fun hn => ?_
    have h5 : t + 2 ≤ r := by omega
    have h6 := Int.mul_le_mul (show t + 1 ≤ r by omega) (show t + 1 ≤ r by omega) (by omega) (by omega)
    have h7 := Int.mul_le_mul_of_nonneg_right h3 (show 0 ≤ Q B by omega)
    omega
  · have h5 := root_half (q := Q B) (X := a.2 - Q B) (t := t) (by omega) (by omega) ht0 (by
      have e : Q B + (a.2 - Q B) = a.2 := by omega
      rw [e]; exact ht)
    have e2 : Q (i + 1) = 2 * Q i := rfl
    have qi := Q_pos i
    have h6 := Int.mul_le_mul_of_nonneg_right (show 2 * (t + 1 - Q B - 2) ≤ a.2 - Q B - 2 by omega) (show 0 ≤ Q i by omega)
    have e3 : (t + 1 - Q B - 2) * (2 * Q i) = 2 * (t + 1 - Q B - 2) * Q i := by grind
    show (t + 1 - Q B - 2) * Q (i + 1) ≤ Q B
    rw [e2, e3]; omega
theorem rinv_end {B i : Nat} {l : Nat → Rat} {a : Int × Int} (hB : 10 ≤ B) (h : RInv B l i a) (q8 : Q i = 256) : Abs (a.1 - Q B, a.2 - Q B) (Q (B - 6)) ∧ a.1 - Q B ≤ a.2 - Q B ∧ Iv B (a.1 - Q B, a.2 - Q B) (fun M => Ev (fun M => l M / (Q i : Rat)) M - 1) ∧ ∃ N0, ∀ M, N0 ≤ M → AB (Ev (fun M => l M / (Q i : Rat)) M - 1) (1 / 2) := by
  obtain ⟨h1, h2, h3, h4⟩ := h
  have qB : Q B = 64 * Q (B - 6) := by
    have := Q_add (B - 6) 6
    rw [show B - 6 + 6 = B by omega] at this
    have e : Q 6 = 64 := rfl
    rw [this, e, Int.mul_comm]
  have q6 : 16 ≤ Q (B - 6) := by have := Q_mono (show 4 ≤ B - 6 by omega); have e : Q 4 = 16 := rfl; omega
  have hq := Qr_pos B
  have hab : Abs (a.1 - Q B, a.2 - Q B) (Q (B - 6)) := by
    rw [q8] at h4
    exact ⟨by simp only []; omega, by simp only []; omega, by simp only []; omega, by simp only []; omega⟩
  have hiv : Iv B (a.1 - Q B, a.2 - Q B) (fun M => Ev (fun M => l M / (Q i : Rat)) M - 1) := by
    have e1 : (Q B : Rat) / (Q B : Rat) = 1 := by rw [Rat.div_def, Rat.mul_inv_cancel _ (by grind)]
    have h5 : Iv B (Q B, Q B) (fun _ => (1 : Rat)) := by
      unfold Iv
      simp only []
      rw [e1]
      exact Has.const Rat.le_refl Rat.le_refl
    have h6 := h1.sub h5
    unfold subI at h6
    exact h6
  refine ⟨hab, by omega, hiv, ?_⟩
  obtain ⟨N, hN⟩ := hiv (1 / 4) (by grind)
  refine ⟨N, fun M hM => ?_⟩
  obtain ⟨g1, g2⟩ := hN M hM
  obtain ⟨a1, a2, a3, a4⟩ := hab
  simp only [] at a1 a2 a3 a4 g1 g2
  have c1 : (-(1 / 4) : Rat) ≤ ((a.1 - Q B : Int) : Rat) / (Q B : Rat) := by
    refine rle_div hq ?_
    have := cast_le (show -Q B ≤ 4 * (a.1 - Q B) by omega)
    rw [Rat.intCast_neg, Rat.intCast_mul, show ((4 : Int) : Rat) = 4 from rfl] at this
    grind
  have c2 : ((a.2 - Q B : Int) : Rat) / (Q B : Rat) ≤ 1 / 4 := by
    refine rdiv_le hq ?_
    have := cast_le (show 4 * (a.2 - Q B) ≤ Q B by omega)
    rw [Rat.intCast_mul, show ((4 : Int) : Rat) = 4 from rfl] at this
    grind
  constructor <;> grind
end Go.Proofs.YtgmnknmjainababGreat
namespace Go.Proofs.YtgmnknmjainababGreat
open Ex
theorem bal_isLog {n d n' d' k : Int} {l1 l2 : Nat → Rat} (hd : 0 < d) (h : Bal n d n' d' k) (i1 : IsLog l1 (fun _ => (n' : Rat) / (d' : Rat))) (i2 : IsLog l2 (fun _ => (2 : Rat))) :
    IsLog (fun M => l1 M + (k : Rat) * l2 M) (fun _ => (n : Rat) / (d : Rat)) := by
  obtain ⟨h1, h2, h3⟩ := h
  have d0 : (0 : Rat) < (d : Rat) := by exact_mod_cast hd
  have d0' : (0 : Rat) < (d' : Rat) := by exact_mod_cast h1.hd
  by_cases hk : k < 0
  · obtain ⟨j, rfl⟩ : ∃ j : Nat, k = -(j : Int) := ⟨(-k).toNat, by omega⟩
    have hq := h3 hk
    have ej : (-(-(j : Int))).toNat = j := by omega
    rw [ej] at hq
    have qj := Qr_pos j
    have l3 := (i2.times j).neg (s := fun _ => 1 / (Q j : Rat)) (Bdd.const _) 0 (fun M _ => by rw [pw_Q]; exact rdm qj)
    refine ((i1.add l3).congr_r (null_zero.of_eq fun M => ?_)).congr (null_zero.of_eq fun M => ?_)
    · show (n' : Rat) / (d' : Rat) * (1 / (Q j : Rat)) - (n : Rat) / (d : Rat) = 0
      have hq2 : ((n * d' * Q j : Int) : Rat) = ((n' * d : Int) : Rat) := by rw [hq]
      rw [Rat.intCast_mul, Rat.intCast_mul, Rat.intCast_mul] at hq2
      have f1 := rdm (a := (n' : Rat)) d0'
      have f2 := rdm (a := (n : Rat)) d0
      have f3 := rdm (a := (1 : Rat)) qj
      generalize (n' : Rat) / (d' : Rat) = r' at *
      generalize (n : Rat) / (d : Rat) = r at *
      generalize 1 / (Q j : Rat) = i at *
      rw [← f1, ← f2] at hq2
      have f4 : (d : Rat) * ((d' : Rat) * (r * (Q j : Rat) - r')) = 0 := by grind
      have f5 : r * (Q j : Rat) = r' := by
        rcases Rat.mul_eq_zero.1 f4 with h | h
        · grind
        · rcases Rat.mul_eq_zero.1 h with h | h
          · grind
          · grind
      rw [← f5]
      have : r * (Q j : Rat) * i - r = r * (i * (Q j : Rat)) - r := by grind
      rw [this, f3]; grind
    · have e : ((-(j : Int) : Int) : Rat) = -(j : Rat) := by rw [Rat.intCast_neg]; rfl
      rw [e]; grind
  · obtain ⟨j, rfl⟩ : ∃ j : Nat, k = (j : Int) := ⟨k.toNat, by omega⟩
    have hq := h2 (by omega)
    have ej : ((j : Int)).toNat = j := by omega
    rw [ej] at hq
    have l3 := i2.times j
    refine (i1.add l3).congr_r (null_zero.of_eq fun M => ?_)
    show (n' : Rat) / (d' : Rat) * pw 2 j - (n : Rat) / (d : Rat) = 0
    rw [pw_Q]
    have hq2 : ((n * d' : Int) : Rat) = ((n' * d * Q j : Int) : Rat) := by rw [hq]
    rw [Rat.intCast_mul, Rat.intCast_mul, Rat.intCast_mul] at hq2
    have f1 := rdm (a := (n' : Rat)) d0'
    have f2 := rdm (a := (n : Rat)) d0
    generalize (n' : Rat) / (d' : Rat) = r' at *
    generalize (n : Rat) / (d : Rat) = r at *
    rw [← f1, ← f2] at hq2
    have f4 : (d : Rat) * ((d' : Rat) * (r' * (Q j : Rat) - r)) = 0 := by grind
    rcases Rat.mul_eq_zero.1 f4 with h | h
    · grind
    · rcases Rat.mul_eq_zero.1 h with h | h
      · grind
      · exact h
theorem rootLog_has {B N i : Nat} {l : Nat → Rat} {a z : Int × Int} (hl : Bdd l) (hB : 10 ≤ B) (h : RInv B l i a) (q8 : Q i = 256) (hz : z = (a.1 - Q B, a.2 - Q B)) (hN : reachI (npT B z N) ≤ 1 ∨ B ≤ N + 1) : Iv B (scaleI (addI (nsT B z N) (-2, 2)) 256 1) l := by
  subst hz
  obtain ⟨h1, h2, h3, N0, h4⟩ := rinv_end hB h q8
  have h5 := near_log (Bdd.over hl i) h3 N0 h4 hN
  refine (h5.scale (n := 256) (d := 1) (by omega) (by omega)).congr (null_zero.of_eq fun M => ?_)
  rw [q8]
  have e1 : ((1 : Int) : Rat) = 1 := rfl
  have e2 : ((256 : Int) : Rat) = 256 := rfl
  rw [e1, e2]
  have f1 := rdm (a := l M) (show (0 : Rat) < 256 by decide)
  have f2 := rdm (a := (256 : Rat)) (show (0 : Rat) < 1 by decide)
  generalize l M / 256 = U at *
  generalize (256 : Rat) / 1 = V at *
  have : V = 256 := by grind
  rw [this]; grind
end Go.Proofs.YtgmnknmjainababGreat
