/-
  What law.massFault, law.just and law.Mass answer, and that they leave old memory alone.
  What tailsureref.raisedInt, countTerm and CountMass answer, and that they leave old memory alone.
  Two variables of spans in memory that are made in one statement, wherever they came to lie.
-/
import Derived.Test.YtgmnknmjainababGreatK13
namespace Go.Proofs.YtgmnknmjainababGreat
set_option linter.unusedVariables false
set_option linter.unusedSimpArgs false
set_option linter.unnecessarySimpa false
open Go.RowKit
attribute [local go_sem ↓] Go.wp_at_zero Go.wp_at_succ

/-- What law.Mass says beside its span. -/
def masE (k p q r s n b : Int) : Int :=
  if lawE k p q r s ≠ 0 then lawE k p q r s else if k < 6 then 6 else if b < 8 ∨ 120 < b ∨ n < -1048576 ∨ 1048576 < n then 3 else if k = 7 ∧ 100 < n then 2 else 0
theorem law_k {k p q r s : Int} (h : lawE k p q r s = 0) : 1 ≤ k ∧ k ≤ 7 := by
  unfold lawE at h
  split at h
  · omega
  · omega

set_option maxRecDepth 100000 in
set_option maxHeartbeats 2000000 in
theorem massFault_law (k p q r s n b : Int) (w : World) (h0 : lawE k p q r s ≠ 0) :
    Calls Tryz.prog 85 #[.agg #[.int .i64 k, .int .i64 p, .int .i64 q, .int .i64 r, .int .i64 s], .int .i64 n, .int .i64 b] w fun z w' => z = .returned (.int .i64 (lawE k p q r s)) ∧ Below w.heap.size w w' := by
  go_enter Tryz.func85, Tryz.ntmps85
  go_wp2_with fail
  refine (check_law k p q r s _).mono ?_
  rintro r' w1 ⟨rfl, hb1⟩
  have h1 : (lawE k p q r s != 0) = true := by simpa using h0
  go_wp2_with fail
  go_ret
  exact ⟨rfl, bthen (bl1 _ _) hb1⟩

set_option maxRecDepth 100000 in
set_option maxHeartbeats 2000000 in
theorem massFault_kind (k p q r s n b : Int) (w : World) (h0 : lawE k p q r s = 0) (hk : k < 6) :
    Calls Tryz.prog 85 #[.agg #[.int .i64 k, .int .i64 p, .int .i64 q, .int .i64 r, .int .i64 s], .int .i64 n, .int .i64 b] w fun z w' => z = .returned (.int .i64 6) ∧ Below w.heap.size w w' := by
  obtain ⟨k1, k7⟩ := law_k h0
  have g1 : (k != 6) = true := by simpa using (show ¬ k = 6 by omega)
  have g2 : (k != 7) = true := by simpa using (show ¬ k = 7 by omega)
  go_enter Tryz.func85, Tryz.ntmps85
  go_wp2_with fail
  refine (check_law k p q r s _).mono ?_
  rintro r' w1 ⟨rfl, hb1⟩
  have C : LwC w1 w.heap.size k p q r s := (lwc_new w k p q r s _).below hb1
  have hB : Below w.heap.size w w1 := bthen (bl1 _ _) hb1
  have lC := C.lt
  obtain ⟨x0, x1, x2, x3, x4⟩ := C
  clear hb1
  rw [h0]
  clear h0
  go_wp2_with fail
  go_ret
  exact ⟨rfl, hB⟩

set_option maxRecDepth 100000 in
set_option maxHeartbeats 2000000 in
theorem massFault_r6a (p q r s n b : Int) (w : World) (h0 : lawE 6 p q r s = 0) (h : b < 8) :
    Calls Tryz.prog 85 #[.agg #[.int .i64 6, .int .i64 p, .int .i64 q, .int .i64 r, .int .i64 s], .int .i64 n, .int .i64 b] w fun z w' => z = .returned (.int .i64 3) ∧ Below w.heap.size w w' := by
  go_enter Tryz.func85, Tryz.ntmps85
  go_wp2_with fail
  refine (check_law 6 p q r s _).mono ?_
  rintro r' w1 ⟨rfl, hb1⟩
  have C : LwC w1 w.heap.size 6 p q r s := (lwc_new w 6 p q r s _).below hb1
  have hB : Below w.heap.size w w1 := bthen (bl1 _ _) hb1
  have lC := C.lt
  obtain ⟨x0, x1, x2, x3, x4⟩ := C
  clear hb1
  rw [h0]
  clear h0
  go_wp2_with fail
  go_ret
  exact ⟨rfl, hB⟩

set_option maxRecDepth 100000 in
set_option maxHeartbeats 2000000 in
theorem massFault_r6b (p q r s n b : Int) (w : World) (h0 : lawE 6 p q r s = 0) (h1 : ¬ b < 8) (h : 120 < b) :
    Calls Tryz.prog 85 #[.agg #[.int .i64 6, .int .i64 p, .int .i64 q, .int .i64 r, .int .i64 s], .int .i64 n, .int .i64 b] w fun z w' => z = .returned (.int .i64 3) ∧ Below w.heap.size w w' := by
  go_enter Tryz.func85, Tryz.ntmps85
  go_wp2_with fail
  refine (check_law 6 p q r s _).mono ?_
  rintro r' w1 ⟨rfl, hb1⟩
  have C : LwC w1 w.heap.size 6 p q r s := (lwc_new w 6 p q r s _).below hb1
  have hB : Below w.heap.size w w1 := bthen (bl1 _ _) hb1
  have lC := C.lt
  obtain ⟨x0, x1, x2, x3, x4⟩ := C
  clear hb1
  rw [h0]
  clear h0
  go_wp2_with fail
  go_ret
  exact ⟨rfl, hB⟩

set_option maxRecDepth 100000 in
set_option maxHeartbeats 2000000 in
theorem massFault_r6c (p q r s n b : Int) (w : World) (h0 : lawE 6 p q r s = 0) (h1 : ¬ b < 8) (h2 : ¬ 120 < b) (h : n < -1048576) :
    Calls Tryz.prog 85 #[.agg #[.int .i64 6, .int .i64 p, .int .i64 q, .int .i64 r, .int .i64 s], .int .i64 n, .int .i64 b] w fun z w' => z = .returned (.int .i64 3) ∧ Below w.heap.size w w' := by
  go_enter Tryz.func85, Tryz.ntmps85
  go_wp2_with fail
  refine (check_law 6 p q r s _).mono ?_
  rintro r' w1 ⟨rfl, hb1⟩
  have C : LwC w1 w.heap.size 6 p q r s := (lwc_new w 6 p q r s _).below hb1
  have hB : Below w.heap.size w w1 := bthen (bl1 _ _) hb1
  have lC := C.lt
  obtain ⟨x0, x1, x2, x3, x4⟩ := C
  clear hb1
  rw [h0]
  clear h0
  go_wp2_with fail
  go_ret
  exact ⟨rfl, hB⟩

set_option maxRecDepth 100000 in
set_option maxHeartbeats 2000000 in
theorem massFault_r6d (p q r s n b : Int) (w : World) (h0 : lawE 6 p q r s = 0) (h1 : ¬ b < 8) (h2 : ¬ 120 < b) (h3 : ¬ n < -1048576) (h : 1048576 < n) :
    Calls Tryz.prog 85 #[.agg #[.int .i64 6, .int .i64 p, .int .i64 q, .int .i64 r, .int .i64 s], .int .i64 n, .int .i64 b] w fun z w' => z = .returned (.int .i64 3) ∧ Below w.heap.size w w' := by
  go_enter Tryz.func85, Tryz.ntmps85
  go_wp2_with fail
  refine (check_law 6 p q r s _).mono ?_
  rintro r' w1 ⟨rfl, hb1⟩
  have C : LwC w1 w.heap.size 6 p q r s := (lwc_new w 6 p q r s _).below hb1
  have hB : Below w.heap.size w w1 := bthen (bl1 _ _) hb1
  have lC := C.lt
  obtain ⟨x0, x1, x2, x3, x4⟩ := C
  clear hb1
  rw [h0]
  clear h0
  go_wp2_with fail
  go_ret
  exact ⟨rfl, hB⟩

set_option maxRecDepth 100000 in
set_option maxHeartbeats 2000000 in
theorem massFault_ok6 (p q r s n b : Int) (w : World) (h0 : lawE 6 p q r s = 0) (h1 : ¬ b < 8) (h2 : ¬ 120 < b) (h3 : ¬ n < -1048576) (h4 : ¬ 1048576 < n) :
    Calls Tryz.prog 85 #[.agg #[.int .i64 6, .int .i64 p, .int .i64 q, .int .i64 r, .int .i64 s], .int .i64 n, .int .i64 b] w fun z w' => z = .returned (.int .i64 0) ∧ Below w.heap.size w w' := by
  go_enter Tryz.func85, Tryz.ntmps85
  go_wp2_with fail
  refine (check_law 6 p q r s _).mono ?_
  rintro r' w1 ⟨rfl, hb1⟩
  have C : LwC w1 w.heap.size 6 p q r s := (lwc_new w 6 p q r s _).below hb1
  have hB : Below w.heap.size w w1 := bthen (bl1 _ _) hb1
  have lC := C.lt
  obtain ⟨x0, x1, x2, x3, x4⟩ := C
  clear hb1
  rw [h0]
  clear h0
  go_wp2_with fail
  go_ret
  exact ⟨rfl, hB⟩

set_option maxRecDepth 100000 in
set_option maxHeartbeats 2000000 in
theorem massFault_r7a (p q r s n b : Int) (w : World) (h0 : lawE 7 p q r s = 0) (h : b < 8) :
    Calls Tryz.prog 85 #[.agg #[.int .i64 7, .int .i64 p, .int .i64 q, .int .i64 r, .int .i64 s], .int .i64 n, .int .i64 b] w fun z w' => z = .returned (.int .i64 3) ∧ Below w.heap.size w w' := by
  go_enter Tryz.func85, Tryz.ntmps85
  go_wp2_with fail
  refine (check_law 7 p q r s _).mono ?_
  rintro r' w1 ⟨rfl, hb1⟩
  have C : LwC w1 w.heap.size 7 p q r s := (lwc_new w 7 p q r s _).below hb1
  have hB : Below w.heap.size w w1 := bthen (bl1 _ _) hb1
  have lC := C.lt
  obtain ⟨x0, x1, x2, x3, x4⟩ := C
  clear hb1
  rw [h0]
  clear h0
  go_wp2_with fail
  go_ret
  exact ⟨rfl, hB⟩

set_option maxRecDepth 100000 in
set_option maxHeartbeats 2000000 in
theorem massFault_r7b (p q r s n b : Int) (w : World) (h0 : lawE 7 p q r s = 0) (h1 : ¬ b < 8) (h : 120 < b) :
    Calls Tryz.prog 85 #[.agg #[.int .i64 7, .int .i64 p, .int .i64 q, .int .i64 r, .int .i64 s], .int .i64 n, .int .i64 b] w fun z w' => z = .returned (.int .i64 3) ∧ Below w.heap.size w w' := by
  go_enter Tryz.func85, Tryz.ntmps85
  go_wp2_with fail
  refine (check_law 7 p q r s _).mono ?_
  rintro r' w1 ⟨rfl, hb1⟩
  have C : LwC w1 w.heap.size 7 p q r s := (lwc_new w 7 p q r s _).below hb1
  have hB : Below w.heap.size w w1 := bthen (bl1 _ _) hb1
  have lC := C.lt
  obtain ⟨x0, x1, x2, x3, x4⟩ := C
  clear hb1
  rw [h0]
  clear h0
  go_wp2_with fail
  go_ret
  exact ⟨rfl, hB⟩

set_option maxRecDepth 100000 in
set_option maxHeartbeats 2000000 in
theorem massFault_r7c (p q r s n b : Int) (w : World) (h0 : lawE 7 p q r s = 0) (h1 : ¬ b < 8) (h2 : ¬ 120 < b) (h : n < -1048576) :
    Calls Tryz.prog 85 #[.agg #[.int .i64 7, .int .i64 p, .int .i64 q, .int .i64 r, .int .i64 s], .int .i64 n, .int .i64 b] w fun z w' => z = .returned (.int .i64 3) ∧ Below w.heap.size w w' := by
  go_enter Tryz.func85, Tryz.ntmps85
  go_wp2_with fail
  refine (check_law 7 p q r s _).mono ?_
  rintro r' w1 ⟨rfl, hb1⟩
  have C : LwC w1 w.heap.size 7 p q r s := (lwc_new w 7 p q r s _).below hb1
  have hB : Below w.heap.size w w1 := bthen (bl1 _ _) hb1
  have lC := C.lt
  obtain ⟨x0, x1, x2, x3, x4⟩ := C
  clear hb1
  rw [h0]
  clear h0
  go_wp2_with fail
  go_ret
  exact ⟨rfl, hB⟩

set_option maxRecDepth 100000 in
set_option maxHeartbeats 2000000 in
theorem massFault_r7d (p q r s n b : Int) (w : World) (h0 : lawE 7 p q r s = 0) (h1 : ¬ b < 8) (h2 : ¬ 120 < b) (h3 : ¬ n < -1048576) (h : 1048576 < n) :
    Calls Tryz.prog 85 #[.agg #[.int .i64 7, .int .i64 p, .int .i64 q, .int .i64 r, .int .i64 s], .int .i64 n, .int .i64 b] w fun z w' => z = .returned (.int .i64 3) ∧ Below w.heap.size w w' := by
  go_enter Tryz.func85, Tryz.ntmps85
  go_wp2_with fail
  refine (check_law 7 p q r s _).mono ?_
  rintro r' w1 ⟨rfl, hb1⟩
  have C : LwC w1 w.heap.size 7 p q r s := (lwc_new w 7 p q r s _).below hb1
  have hB : Below w.heap.size w w1 := bthen (bl1 _ _) hb1
  have lC := C.lt
  obtain ⟨x0, x1, x2, x3, x4⟩ := C
  clear hb1
  rw [h0]
  clear h0
  go_wp2_with fail
  go_ret
  exact ⟨rfl, hB⟩

set_option maxRecDepth 100000 in
set_option maxHeartbeats 2000000 in
theorem massFault_m7 (p q r s n b : Int) (w : World) (h0 : lawE 7 p q r s = 0) (h1 : ¬ b < 8) (h2 : ¬ 120 < b) (h3 : ¬ n < -1048576) (h4 : ¬ 1048576 < n) (h : 100 < n) :
    Calls Tryz.prog 85 #[.agg #[.int .i64 7, .int .i64 p, .int .i64 q, .int .i64 r, .int .i64 s], .int .i64 n, .int .i64 b] w fun z w' => z = .returned (.int .i64 2) ∧ Below w.heap.size w w' := by
  go_enter Tryz.func85, Tryz.ntmps85
  go_wp2_with fail
  refine (check_law 7 p q r s _).mono ?_
  rintro r' w1 ⟨rfl, hb1⟩
  have C : LwC w1 w.heap.size 7 p q r s := (lwc_new w 7 p q r s _).below hb1
  have hB : Below w.heap.size w w1 := bthen (bl1 _ _) hb1
  have lC := C.lt
  obtain ⟨x0, x1, x2, x3, x4⟩ := C
  clear hb1
  rw [h0]
  clear h0
  go_wp2_with fail
  go_ret
  exact ⟨rfl, hB⟩

set_option maxRecDepth 100000 in
set_option maxHeartbeats 2000000 in
theorem massFault_ok7 (p q r s n b : Int) (w : World) (h0 : lawE 7 p q r s = 0) (h1 : ¬ b < 8) (h2 : ¬ 120 < b) (h3 : ¬ n < -1048576) (h4 : ¬ 1048576 < n) (h : ¬ 100 < n) :
    Calls Tryz.prog 85 #[.agg #[.int .i64 7, .int .i64 p, .int .i64 q, .int .i64 r, .int .i64 s], .int .i64 n, .int .i64 b] w fun z w' => z = .returned (.int .i64 0) ∧ Below w.heap.size w w' := by
  go_enter Tryz.func85, Tryz.ntmps85
  go_wp2_with fail
  refine (check_law 7 p q r s _).mono ?_
  rintro r' w1 ⟨rfl, hb1⟩
  have C : LwC w1 w.heap.size 7 p q r s := (lwc_new w 7 p q r s _).below hb1
  have hB : Below w.heap.size w w1 := bthen (bl1 _ _) hb1
  have lC := C.lt
  obtain ⟨x0, x1, x2, x3, x4⟩ := C
  clear hb1
  rw [h0]
  clear h0
  go_wp2_with fail
  go_ret
  exact ⟨rfl, hB⟩

theorem massFault_any (k p q r s n b : Int) (w : World) :
    Calls Tryz.prog 85 #[.agg #[.int .i64 k, .int .i64 p, .int .i64 q, .int .i64 r, .int .i64 s], .int .i64 n, .int .i64 b] w fun z w' => z = .returned (.int .i64 (masE k p q r s n b)) ∧ Below w.heap.size w w' := by
  unfold masE
  by_cases h0 : lawE k p q r s = 0
  · rw [if_neg (by simpa using h0)]
    obtain ⟨k1, k7⟩ := law_k h0
    by_cases hk : k < 6
    · rw [if_pos hk]; exact massFault_kind k p q r s n b w h0 hk
    · rw [if_neg hk]
      have hk2 : k = 6 ∨ k = 7 := by omega
      by_cases g1 : b < 8
      · rw [if_pos (Or.inl g1)]
        rcases hk2 with h | h
        · subst h; exact massFault_r6a p q r s n b w h0 g1
        · subst h; exact massFault_r7a p q r s n b w h0 g1
      by_cases g2 : 120 < b
      · rw [if_pos (Or.inr (Or.inl g2))]
        rcases hk2 with h | h
        · subst h; exact massFault_r6b p q r s n b w h0 g1 g2
        · subst h; exact massFault_r7b p q r s n b w h0 g1 g2
      by_cases g3 : n < -1048576
      · rw [if_pos (Or.inr (Or.inr (Or.inl g3)))]
        rcases hk2 with h | h
        · subst h; exact massFault_r6c p q r s n b w h0 g1 g2 g3
        · subst h; exact massFault_r7c p q r s n b w h0 g1 g2 g3
      by_cases g4 : 1048576 < n
      · rw [if_pos (Or.inr (Or.inr (Or.inr g4)))]
        rcases hk2 with h | h
        · subst h; exact massFault_r6d p q r s n b w h0 g1 g2 g3 g4
        · subst h; exact massFault_r7d p q r s n b w h0 g1 g2 g3 g4
      rw [if_neg (by omega)]
      rcases hk2 with h | h
      · rw [if_neg (by omega)]; subst h; exact massFault_ok6 p q r s n b w h0 g1 g2 g3 g4
      · by_cases g5 : 100 < n
        · rw [if_pos ⟨h, g5⟩]; subst h; exact massFault_m7 p q r s n b w h0 g1 g2 g3 g4 g5
        · rw [if_neg (by omega)]; subst h; exact massFault_ok7 p q r s n b w h0 g1 g2 g3 g4 g5
  · rw [if_pos h0]; exact massFault_law k p q r s n b w h0

set_option maxRecDepth 100000 in
set_option maxHeartbeats 2000000 in
theorem never_iv (w : World) (b : Nat) (hb : b ≤ 2000) :
    Calls Tryz.prog 152 #[.int .i64 b] w (SpanAns w b 6000 (ofI 0 1 b).1 (ofI 0 1 b).2) := by
  have R := noc_new w 28
  go_enter Tryz.func152, Tryz.ntmps152
  go_wp2_with fail
  refine (numOf_int 0 _ (by decide) (by decide)).mono ?_
  rintro r' w1 ⟨neg1, a1, n1, c1, rfl, hint1, hb1⟩
  replace R := R.below hb1
  have hB : Below w.heap.size w w1 := bthen (bl1 _ _) hb1
  clear hb1
  go_wp2_with fail
  refine (numOf_int 1 _ (by decide) (by decide)).mono ?_
  rintro r' w2 ⟨neg2, a2, n2, c2, rfl, hint2, hb2⟩
  replace R := R.below hb2
  replace hB := bthen hB hb2
  replace hint1 := hint1.below hb2
  clear hb2
  go_wp2_with fail
  refine (wideOf_any _ _ _ _ _ _ _ _ 4 4 b 0 1 _ hint1 hint2 (by omega) (by omega) (by decide)).mono ?_
  rintro r' w3 ⟨v3, rfl, hvb3, hs3, hb3⟩
  replace hB := bthen hB hb3
  obtain ⟨q0, q1, q2, q3, q4, q5⟩ := R.below hb3
  have HV3 := hide hvb3
  clear hvb3 hb3 R
  go_wp2_with fail
  refine bodyPost_ret (v := .agg #[.bool v3.ln, .slice v3.la v3.lN v3.lc, .bool v3.hn, .slice v3.ha v3.hN v3.hc, .int .i64 v3.bits]) (by simp [results, Tryz.results152, go_sem, q0, q1, q2, q3, q4]) rfl ⟨v3, rfl, unhide HV3, ?_, ?_⟩
  · exact SpAt.put5 (SpAt.mono hs3 (by omega)) q0 q1 q2 q3 q4 _ _ _ _ _
  · exact set5 hB (Nat.le_refl _) _ _ _ _ _

set_option maxRecDepth 100000 in
set_option maxHeartbeats 2000000 in
theorem just_neg (w : World) (k p q r s n : Int) (b : Nat) (hb : b ≤ 2000) (hn : n < 0) :
    Calls Tryz.prog 87 #[.agg #[.int .i64 k, .int .i64 p, .int .i64 q, .int .i64 r, .int .i64 s], .int .i64 n, .int .i64 b] w (fun zz w' => ∃ lo hi, MasPr (fun _ => ((0 : Int) : Rat) / ((1 : Int) : Rat)) b lo hi ∧ SpanAns w b 6000 lo hi zz w') := by
  have HPR := hide (of_pr (N := 0) (D := 1) b (by decide) (by decide) (by decide))
  obtain ⟨W, hW⟩ : ∃ W, W = (w.alloc (.cells #[.int .i64 k, .int .i64 p, .int .i64 q, .int .i64 r, .int .i64 s] 53)).alloc (.cells #[.bool false, .slice none 0 0, .bool false, .slice none 0 0, .int .i64 0] 28) := ⟨_, rfl⟩
  have hBW : Below w.heap.size w W := by rw [hW]; exact bl2 _ _ _
  have C : LwC W w.heap.size k p q r s := by rw [hW]; exact (lwc_new w k p q r s _).below (bl1 _ _)
  have R : NoC W (w.heap.size + 1) := by rw [hW]; exact ⟨by simp [go_sem], by simp [go_sem], by simp [go_sem], by simp [go_sem], by simp [go_sem], fun o => by simp [go_sem]⟩
  have lC := C.lt
  have lR := R.lt
  obtain ⟨x0, x1, x2, x3, x4⟩ := C
  go_enter Tryz.func87, Tryz.ntmps87
  go_wp2_with fail
  rw [← hW]
  clear hW
  refine (never_iv _ b (by omega)).mono ?_
  rintro r' w3 ⟨v3, rfl, hvb3, hs3, hb3⟩
  obtain ⟨q0, q1, q2, q3, q4, q5⟩ := R.below hb3
  have hB := bthen hBW hb3
  have HV := hide hvb3
  clear hvb3 hb3 x0 x1 x2 x3 x4
  go_wp2_with fail
  refine bodyPost_ret (v := .agg #[.bool v3.ln, .slice v3.la v3.lN v3.lc, .bool v3.hn, .slice v3.ha v3.hN v3.hc, .int .i64 v3.bits]) (by simp [results, Tryz.results87, go_sem, q0, q1, q2, q3, q4]) rfl ⟨_, _, unhide HPR, v3, rfl, unhide HV, ?_, ?_⟩
  · exact SpAt.put5 hs3 q0 q1 q2 q3 q4 _ _ _ _ _
  · exact set5 hB (Nat.le_succ _) _ _ _ _ _

set_option maxRecDepth 100000 in
set_option maxHeartbeats 2000000 in
theorem just_big (w : World) (p q r s n : Int) (b : Nat) (hb : b ≤ 2000) (hn : ¬ n < 0) (hp : p < n) :
    Calls Tryz.prog 87 #[.agg #[.int .i64 6, .int .i64 p, .int .i64 q, .int .i64 r, .int .i64 s], .int .i64 n, .int .i64 b] w (fun zz w' => ∃ lo hi, MasPr (fun _ => ((0 : Int) : Rat) / ((1 : Int) : Rat)) b lo hi ∧ SpanAns w b 6000 lo hi zz w') := by
  have HPR := hide (of_pr (N := 0) (D := 1) b (by decide) (by decide) (by decide))
  obtain ⟨W, hW⟩ : ∃ W, W = (w.alloc (.cells #[.int .i64 6, .int .i64 p, .int .i64 q, .int .i64 r, .int .i64 s] 53)).alloc (.cells #[.bool false, .slice none 0 0, .bool false, .slice none 0 0, .int .i64 0] 28) := ⟨_, rfl⟩
  have hBW : Below w.heap.size w W := by rw [hW]; exact bl2 _ _ _
  have C : LwC W w.heap.size 6 p q r s := by rw [hW]; exact (lwc_new w 6 p q r s _).below (bl1 _ _)
  have R : NoC W (w.heap.size + 1) := by rw [hW]; exact ⟨by simp [go_sem], by simp [go_sem], by simp [go_sem], by simp [go_sem], by simp [go_sem], fun o => by simp [go_sem]⟩
  have lC := C.lt
  have lR := R.lt
  obtain ⟨x0, x1, x2, x3, x4⟩ := C
  go_enter Tryz.func87, Tryz.ntmps87
  go_wp2_with fail
  rw [← hW]
  clear hW
  refine (never_iv _ b (by omega)).mono ?_
  rintro r' w3 ⟨v3, rfl, hvb3, hs3, hb3⟩
  obtain ⟨q0, q1, q2, q3, q4, q5⟩ := R.below hb3
  have hB := bthen hBW hb3
  have HV := hide hvb3
  clear hvb3 hb3 x0 x1 x2 x3 x4
  go_wp2_with fail
  refine bodyPost_ret (v := .agg #[.bool v3.ln, .slice v3.la v3.lN v3.lc, .bool v3.hn, .slice v3.ha v3.hN v3.hc, .int .i64 v3.bits]) (by simp [results, Tryz.results87, go_sem, q0, q1, q2, q3, q4]) rfl ⟨_, _, unhide HPR, v3, rfl, unhide HV, ?_, ?_⟩
  · exact SpAt.put5 hs3 q0 q1 q2 q3 q4 _ _ _ _ _
  · exact set5 hB (Nat.le_succ _) _ _ _ _ _

theorem way_eq {p n : Nat} (h : n ≤ p) (r s : Int) : wayF (r ^ n * (s - r) ^ ((p : Int).toNat - n)) ((p : Int) - (n : Int)) n = (ch p n : Int) * (r ^ n * (s - r) ^ (p - n)) := by
  rw [show (p : Int) - (n : Int) = ((p - n : Nat) : Int) by omega, wayF_ch, show p - n + n = p by omega, show (p : Int).toNat = p by omega, Int.mul_comm]
theorem way_le {p n : Nat} (h : n ≤ p) {r s : Int} (hr : 0 ≤ r) (hs : r ≤ s) : 0 ≤ (ch p n : Int) * (r ^ n * (s - r) ^ (p - n)) ∧ (ch p n : Int) * (r ^ n * (s - r) ^ (p - n)) ≤ s ^ p := by
  obtain ⟨a, ha⟩ : ∃ a : Nat, r = (a : Int) := ⟨r.toNat, by omega⟩
  obtain ⟨c, hc⟩ : ∃ c : Nat, s - r = (c : Int) := ⟨(s - r).toNat, by omega⟩
  have hsac : s = ((a + c : Nat) : Int) := by omega
  have h1 := ch_le a c p n h
  have h2 : ((ch p n * a ^ n * c ^ (p - n) : Nat) : Int) ≤ (((a + c) ^ p : Nat) : Int) := by omega
  rw [Int.natCast_mul, Int.natCast_mul, Int.natCast_pow, Int.natCast_pow, Int.natCast_pow] at h2
  rw [hc, ha, hsac, ← Int.mul_assoc]
  refine ⟨?_, h2⟩
  have : 0 ≤ ((ch p n * a ^ n * c ^ (p - n) : Nat) : Int) := by omega
  rw [Int.natCast_mul, Int.natCast_mul, Int.natCast_pow, Int.natCast_pow] at this
  exact this

set_option maxRecDepth 100000 in
set_option maxHeartbeats 4000000 in
theorem just_count (w : World) (q r s : Int) (p n b : Nat) (hb : b ≤ 2000) (hn : n ≤ p) (hp : p ≤ 100) (hr : 0 ≤ r) (hrs : r ≤ s) (hs0 : 1 ≤ s) (hs : s ≤ 1024) :
    Calls Tryz.prog 87 #[.agg #[.int .i64 6, .int .i64 (p : Int), .int .i64 q, .int .i64 r, .int .i64 s], .int .i64 n, .int .i64 b] w (fun zz w' => ∃ lo hi, MasPr (fun _ => (((ch p n : Int) * (r ^ n * (s - r) ^ (p - n)) : Int) : Rat) / ((s ^ p : Int) : Rat)) b lo hi ∧ SpanAns w b 6000 lo hi zz w') := by
  have hpos : 0 < s ^ p := Int.pow_pos (by omega)
  obtain ⟨v0, v1⟩ := way_le hn hr hrs
  have HPR := hide (of_pr b v0 hpos v1)
  have HWE := hide (way_eq hn r s)
  clear v0 v1
  obtain ⟨W, hW⟩ : ∃ W, W = (w.alloc (.cells #[.int .i64 6, .int .i64 (p : Int), .int .i64 q, .int .i64 r, .int .i64 s] 53)).alloc (.cells #[.bool false, .slice none 0 0, .bool false, .slice none 0 0, .int .i64 0] 28) := ⟨_, rfl⟩
  have hBW : Below w.heap.size w W := by rw [hW]; exact bl2 _ _ _
  have C : LwC W w.heap.size 6 (p : Int) q r s := by rw [hW]; exact (lwc_new w 6 (p : Int) q r s _).below (bl1 _ _)
  have R : NoC W (w.heap.size + 1) := by rw [hW]; exact ⟨by simp [go_sem], by simp [go_sem], by simp [go_sem], by simp [go_sem], by simp [go_sem], fun o => by simp [go_sem]⟩
  have lC := C.lt
  have lR := R.lt
  have HK := hide (show ∀ w', Below W.heap.size W w' → (w'.cell? ⟨w.heap.size, 0, none⟩ = some (.int .i64 6) ∧ w'.cell? ⟨w.heap.size, 1, none⟩ = some (.int .i64 (p : Int)) ∧ w'.cell? ⟨w.heap.size, 2, none⟩ = some (.int .i64 q) ∧ w'.cell? ⟨w.heap.size, 3, none⟩ = some (.int .i64 r) ∧ w'.cell? ⟨w.heap.size, 4, none⟩ = some (.int .i64 s)) from fun w' hB => ⟨(C.below hB).c0, (C.below hB).c1, (C.below hB).c2, (C.below hB).c3, (C.below hB).c4⟩)
  have hn0 : ¬ (n : Int) < 0 := by omega
  have hn1 : ¬ (p : Int) < (n : Int) := by omega
  have m1 : w.heap.size ≠ w.heap.size + 1 := by omega
  have m2 : w.heap.size + 1 ≠ w.heap.size := by omega
  have hD0 : Below W.heap.size W W.drew := (Below.refl _ _).drew
  obtain ⟨x0, x1, x2, x3, x4⟩ := C
  go_enter Tryz.func87, Tryz.ntmps87
  go_wp2_with fail
  try rw [← hW]
  clear hW
  go_region_held3 (fun w' => w'.cell? ⟨w.heap.size, 0, none⟩ = some (.int .i64 6) ∧ w'.cell? ⟨w.heap.size, 1, none⟩ = some (.int .i64 (p : Int)) ∧ w'.cell? ⟨w.heap.size, 2, none⟩ = some (.int .i64 q) ∧ w'.cell? ⟨w.heap.size, 3, none⟩ = some (.int .i64 r) ∧ w'.cell? ⟨w.heap.size, 4, none⟩ = some (.int .i64 s)) (first | exact unhide HK _ (by first | with_reducible exact hD0 | with_reducible exact hD3 | with_reducible exact hD2 | with_reducible exact hD1) | go_keep)
    (first
      | (go_at_call 140; have hqq := hD2; refine (wideOf_any _ _ _ _ _ _ _ _ 2500 500 b _ (s ^ p) _ ((hint1.below hb2).mono (by omega)) (hint2.mono (by omega)) (by omega) (by omega) hpos).mono ?_; rintro r' w3 ⟨u, rfl, hub, hup, hb3⟩; have hD3 := bthen hD2 hb3; obtain ⟨q0, q1, q2, q3, q4, q5⟩ := R.below hD3; have HV := hide hub; clear hub; obtain ⟨y0, y1, y2, y3, y4⟩ := unhide HK _ hD3; have hs3 := SpAt.mono hup (show 2500 + b / 16 + 20 ≤ 6000 by omega))
      | (go_at_call 154; have hqq := hD1; refine (raised_int s p _ (by omega) (by omega) (by omega)).mono ?_; rintro r' w2 ⟨neg2, a2, n2, c2, rfl, hint2, hb2⟩; have hD2 := bthen hD1 hb2)
      | (go_at_call 153; refine (ways_int 6 p q r s n _ (by omega) (by omega) hr hrs hs).mono ?_; rintro r' w1 ⟨neg1, a1, n1, c1, rfl, hint1, hb1⟩; have hD1 := bthen hD0 hb1; rw [unhide HWE] at hint1))
  all_goals
    go_wp2_with fail
    refine bodyPost_ret (v := .agg #[.bool u.ln, .slice u.la u.lN u.lc, .bool u.hn, .slice u.ha u.hN u.hc, .int .i64 u.bits]) (by simp [results, Tryz.results87, go_sem, q0, q1, q2, q3, q4]) rfl ⟨_, _, unhide HPR, u, rfl, unhide HV, ?_, ?_⟩
    · exact SpAt.put5 hs3 q0 q1 q2 q3 q4 _ _ _ _ _
    · exact set5 (bthen hBW hD3) (Nat.le_succ _) _ _ _ _ _

set_option maxRecDepth 100000 in
set_option maxHeartbeats 4000000 in
theorem just_rare (w : World) (p q r s : Int) (n b : Nat) (hb40 : 40 ≤ b) (hb : b ≤ 2000) (hn : n ≤ 100) (hrk : rok p q) (hp : 0 ≤ p) (hp2 : p ≤ 100 * q) :
    Calls Tryz.prog 87 #[.agg #[.int .i64 7, .int .i64 p, .int .i64 q, .int .i64 r, .int .i64 s], .int .i64 n, .int .i64 b] w (fun zz w' => ∃ lo hi, MasPr (rareX p q n) b lo hi ∧ SpanAns w b 6000 lo hi zz w') := by
  obtain ⟨W, hW⟩ : ∃ W, W = (w.alloc (.cells #[.int .i64 7, .int .i64 p, .int .i64 q, .int .i64 r, .int .i64 s] 53)).alloc (.cells #[.bool false, .slice none 0 0, .bool false, .slice none 0 0, .int .i64 0] 28) := ⟨_, rfl⟩
  have hBW : Below w.heap.size w W := by rw [hW]; exact bl2 _ _ _
  have C : LwC W w.heap.size 7 p q r s := by rw [hW]; exact (lwc_new w 7 p q r s _).below (bl1 _ _)
  have R : NoC W (w.heap.size + 1) := by rw [hW]; exact ⟨by simp [go_sem], by simp [go_sem], by simp [go_sem], by simp [go_sem], by simp [go_sem], fun o => by simp [go_sem]⟩
  have lC := C.lt
  have lR := R.lt
  have hn0 : ¬ (n : Int) < 0 := by omega
  obtain ⟨x0, x1, x2, x3, x4⟩ := C
  go_enter Tryz.func87, Tryz.ntmps87
  go_wp2_with fail
  rw [← hW]
  clear hW
  refine (rareOne_iv _ p q n b hrk hp hp2 hn hb40 hb).mono ?_
  rintro r' w3 ⟨lo, hi, hpr, v3, rfl, hvb3, hs3, hb3⟩
  obtain ⟨q0, q1, q2, q3, q4, q5⟩ := R.below hb3
  have hB := bthen hBW hb3
  have HV := hide hvb3
  have HPR := hide hpr
  clear hvb3 hb3 x0 x1 x2 x3 x4 hpr
  go_wp2_with fail
  refine bodyPost_ret (v := .agg #[.bool v3.ln, .slice v3.la v3.lN v3.lc, .bool v3.hn, .slice v3.ha v3.hN v3.hc, .int .i64 v3.bits]) (by simp [results, Tryz.results87, go_sem, q0, q1, q2, q3, q4]) rfl ⟨_, _, unhide HPR, v3, rfl, unhide HV, ?_, ?_⟩
  · exact SpAt.put5 hs3 q0 q1 q2 q3 q4 _ _ _ _ _
  · exact set5 hB (Nat.le_succ _) _ _ _ _ _

/-- What the literal of law.Mass leans on. -/
def MasAt (w : World) (B1 B2 : Nat) (k p q r s n : Int) : Prop := LwC w B1 k p q r s ∧ w.cell? ⟨B2, 0, none⟩ = some (.int .i64 n)
theorem MasAt.below {w w' : World} {B1 B2 : Nat} {k p q r s n : Int} (h : MasAt w B1 B2 k p q r s n) (hb : Below w.heap.size w w') : MasAt w' B1 B2 k p q r s n :=
  ⟨h.1.below hb, (hb.cell (p := ⟨B2, 0, none⟩) (World.block_lt_of_cell? w ⟨B2, 0, none⟩ h.2)).trans h.2⟩

set_option maxRecDepth 100000 in
set_option maxHeartbeats 2000000 in
theorem mass1_of (b : Nat) (B1 B2 : Nat) (w : World) (k p q r s n : Int) (x : Nat → Rat) (h : MasAt w B1 B2 k p q r s n)
    (hJ : ∀ w', Calls Tryz.prog 87 #[.agg #[.int .i64 k, .int .i64 p, .int .i64 q, .int .i64 r, .int .i64 s], .int .i64 n, .int .i64 b] w' (fun r w'' => ∃ lo hi, MasPr x b lo hi ∧ SpanAns w' b 6000 lo hi r w'')) :
    Calls Tryz.prog 86 #[.int .i64 b, .pointer (some ⟨B1, 0, none⟩), .pointer (some ⟨B2, 0, none⟩)] w (fun zz w' => ∃ lo hi, MasPr x b lo hi ∧ SpanAns w b 6000 lo hi zz w') := by
  have HJ := hide hJ
  clear hJ
  obtain ⟨⟨x0, x1, x2, x3, x4⟩, y0⟩ := h
  have l1 := World.block_lt_of_cell? w ⟨B1, 0, none⟩ x0
  have l2 := World.block_lt_of_cell? w ⟨B2, 0, none⟩ y0
  go_enter Tryz.func86, Tryz.ntmps86
  go_wp2_with fail
  refine (unhide HJ _).mono ?_
  rintro r' w1 ⟨lo, hi, hpr, u, rfl, hub, hup, hb1⟩
  obtain ⟨q0, q1, q2, q3, q4, q5⟩ := (noc_new w 28).below hb1
  have hB : Below w.heap.size w w1 := bthen (bl1 _ _) hb1
  have HUB := hide hub
  have HPR := hide hpr
  clear hub hb1 hpr
  go_wp2_with fail
  refine bodyPost_ret (v := .agg #[.bool u.ln, .slice u.la u.lN u.lc, .bool u.hn, .slice u.ha u.hN u.hc, .int .i64 u.bits]) (by simp [results, Tryz.results86, go_sem, q0, q1, q2, q3, q4]) rfl ⟨lo, hi, unhide HPR, u, rfl, unhide HUB, ?_, ?_⟩
  · exact SpAt.put5 hup q0 q1 q2 q3 q4 _ _ _ _ _
  · exact set5 hB (Nat.le_refl _) _ _ _ _ _

set_option maxRecDepth 100000 in
set_option maxHeartbeats 2000000 in
theorem mass_of (w : World) (k p q r s n : Int) (b : Nat) (x : Nat → Rat) (h5 : 8 ≤ b) (h6 : b ≤ 120) (hE : masE k p q r s n b = 0)
    (hJ : ∀ (m : Nat) w', 40 ≤ m → m ≤ 2000 → Calls Tryz.prog 87 #[.agg #[.int .i64 k, .int .i64 p, .int .i64 q, .int .i64 r, .int .i64 s], .int .i64 n, .int .i64 m] w' (fun r w'' => ∃ lo hi, MasPr x m lo hi ∧ SpanAns w' m 6000 lo hi r w'')) :
    Calls Tryz.prog 36 #[.agg #[.int .i64 k, .int .i64 p, .int .i64 q, .int .i64 r, .int .i64 s], .int .i64 n, .int .i64 b] w (fun r w' => ∃ L H, SureOf b (MasPr x) L H ∧ PairAns w b 250 L H 0 r w') := by
  have HJ := hide hJ
  have HE := hide hE
  clear hJ hE
  go_enter Tryz.func36, Tryz.ntmps36
  go_wp2_with fail
  refine (massFault_any k p q r s n b _).mono ?_
  rintro r' w1 ⟨rfl, hb1⟩
  rw [unhide HE]
  have C : MasAt w1 w.heap.size (w.heap.size + 1) k p q r s n := MasAt.below ⟨⟨by simp [go_sem], by simp [go_sem], by simp [go_sem], by simp [go_sem], by simp [go_sem]⟩, by simp [go_sem]⟩ hb1
  have R : NoC w1 (w.heap.size + 1 + 1) := NoC.below ⟨by simp [go_sem], by simp [go_sem], by simp [go_sem], by simp [go_sem], by simp [go_sem], fun o => by simp [go_sem]⟩ hb1
  have hB : Below w.heap.size w w1 := bthen (bl3 _ _ _ _) hb1
  have lR := R.lt
  clear hb1
  go_wp2_with fail
  refine (sure_mass _ _ b 1702 6000 (MasPr x) _ h6 (by omega) (by omega) (mas_ends b x h6) (fun m w' hm hm2 hbl => ?_)).mono ?_
  · rw [show ((b : Int) + (m : Int)) = ((b + m : Nat) : Int) by omega]
    exact mass1_of (b + m) w.heap.size (w.heap.size + 1) w' k p q r s n x (C.below hbl) (fun w'' => unhide HJ (b + m) w'' (by omega) (by omega))
  rintro r' w3 ⟨L, H, hS, u, rfl, hub, hup, hb3⟩
  obtain ⟨q0, q1, q2, q3, q4, q5⟩ := R.below hb3
  replace hB := bthen hB hb3
  have HUB := hide hub
  have HSS := hide hS
  clear hub hS
  go_wp2_with fail
  refine bodyPost_ret (v := .tuple #[.agg #[.bool u.ln, .slice u.la u.lN u.lc, .bool u.hn, .slice u.ha u.hN u.hc, .int .i64 u.bits], .int .i64 0]) (by simp [results, Tryz.results36, go_sem, q0, q1, q2, q3, q4]) rfl ⟨L, H, unhide HSS, u, rfl, unhide HUB, ?_, ?_⟩
  · exact SpAt.put5 hup q0 q1 q2 q3 q4 _ _ _ _ _
  · exact set5 hB (by omega) _ _ _ _ _
theorem mass_bad (w : World) (k p q r s n b : Int) (hE : masE k p q r s n b ≠ 0) :
    Calls Tryz.prog 36 #[.agg #[.int .i64 k, .int .i64 p, .int .i64 q, .int .i64 r, .int .i64 s], .int .i64 n, .int .i64 b] w (PairAns w 0 250 0 0 (masE k p q r s n b)) := by
  go_enter Tryz.func36, Tryz.ntmps36
  go_wp2_with fail
  refine (massFault_any k p q r s n b _).mono ?_
  rintro r' w1 ⟨rfl, hb1⟩
  have h1 : (masE k p q r s n b != 0) = true := by simpa using hE
  have R : NoC w1 (w.heap.size + 1 + 1) := NoC.below ⟨by simp [go_sem], by simp [go_sem], by simp [go_sem], by simp [go_sem], by simp [go_sem], fun o => by simp [go_sem]⟩ hb1
  have hB : Below w.heap.size w w1 := bthen (bl3 _ _ _ _) hb1
  have lR := R.lt
  clear hb1
  obtain ⟨q0, q1, q2, q3, q4, q5⟩ := R
  go_wp2_with fail
  refine bodyPost_ret (v := .tuple #[.agg #[.bool false, .slice none 0 0, .bool false, .slice none 0 0, .int .i64 0], .int .i64 (masE k p q r s n b)]) (by simp [results, Tryz.results36, go_sem, q0, q1, q2, q3, q4]) rfl ⟨⟨false, none, 0, 0, false, none, 0, 0, 0⟩, rfl, rfl, zeroSp _ _, ?_⟩
  exact set5 hB (by omega) _ _ _ _ _
end Go.Proofs.YtgmnknmjainababGreat

namespace Go.Proofs.YtgmnknmjainababGreat
set_option linter.unusedVariables false
set_option linter.unusedSimpArgs false
set_option linter.unnecessarySimpa false
open Go.RowKit
attribute [local go_sem ↓] Go.wp_at_zero Go.wp_at_succ

theorem refRatio_ms (x y : Nm) (k k2 b : Nat) (n d : Int) (w : World) (h1 : IntAt w x.neg x.a x.n x.cap k n) (h2 : IntAt w y.neg y.a y.n y.cap k2 d) (hk : k ≤ 600000000) (hk2 : k2 ≤ 100000000) (hb : b ≤ 100000) (hy : 0 < d) :
    Calls Tryz.prog 54 #[.agg #[.bool x.neg, .slice x.a x.n x.cap], .agg #[.bool y.neg, .slice y.a y.n y.cap], .int .i64 b] w (SpanAns w b (k + b / 16 + 14) (ofI n d b).1 (ofI n d b).2) :=
  refRatio_core _ _ _ _ _ _ _ _ k k2 b n d _ h1 h2 (by omega) (by omega) hb hy (fun neg' a' n' cap' w' p1 p2 => floor_any _ _ _ _ _ _ _ _ _ k2 _ _ w' p1 p2 (by omega) hy)
theorem NoI.offv {w : World} {B B' : Nat} (h : NoI w B) (hne : B ≠ B') (y : Nm) : NoI (put2w w B' y) B := by
  obtain ⟨q0, q1, q2⟩ := h
  exact ⟨by simp [go_sem, q0, hne, Ne.symm hne], by simp [go_sem, q1, hne, Ne.symm hne], put_fz2 q2 _ _⟩
/-- Where tailsureref.raisedInt is. -/
structure RsSt (w wr : World) (B : Nat) (X : Nm) (k : Nat) (v : Int) : Prop where
  x : VnC wr B X
  i : IntAt wr X.neg X.a X.n X.cap k v
  no : NoI wr w.heap.size
  be : Below w.heap.size w wr
  l : w.heap.size < B
theorem RsSt.below {w wr wr' : World} {B : Nat} {X : Nm} {k : Nat} {v : Int} (h : RsSt w wr B X k v) (hb : Below wr.heap.size wr wr') : RsSt w wr' B X k v :=
  ⟨h.x.below hb, h.i.below hb, h.no.below hb, bthen h.be hb, h.l⟩
theorem RsSt.put {w wr : World} {B : Nat} {X Y : Nm} {k k' : Nat} {v v' : Int} (h : RsSt w wr B X k v) (hy : IntAt wr Y.neg Y.a Y.n Y.cap k' v') : RsSt w (put2w wr B Y) B Y k' v' :=
  ⟨h.x.put Y, hy.putv h.x Y, h.no.offv (by have := h.l; omega) Y, set2 h.be (by have := h.l; omega) _ _, h.l⟩

set_option maxRecDepth 100000 in
set_option maxHeartbeats 4000000 in
theorem refRaisedInt (w : World) (n : Int) (k : Nat) (h1 : -1000000000 ≤ n) (h2 : n ≤ 1000000000) (hk : k ≤ 1000) :
    Calls Tryz.prog 89 #[.int .i64 n, .int .i64 k] w (IntAns w (4 * k + 4) (n ^ k)) := by
  have R := noi_new w 26
  go_enter Tryz.func89, Tryz.ntmps89
  go_wp2_with fail
  refine (numOf_int 1 _ (by decide) (by decide)).mono ?_
  rintro r' w1 ⟨neg1, a1, n1, c1, rfl, hint1, hb1⟩
  have R1 := R.below hb1
  have hB1 : Below w.heap.size w w1 := bthen (bl1 _ _) hb1
  have lR1 := R1.lt
  clear R hb1
  obtain ⟨V1, hV1⟩ : ∃ V1, V1 = w1.alloc (.cells #[.bool neg1, .slice a1 n1 c1] 26) := ⟨_, rfl⟩
  have bV1 : Below w1.heap.size w1 V1 := by rw [hV1]; exact bl1 _ _
  have st0 : RsSt w V1 w1.heap.size ⟨neg1, a1, n1, c1⟩ (4 * 0 + 4) (n ^ 0) := ⟨by rw [hV1]; exact vnc_new w1 ⟨neg1, a1, n1, c1⟩ _, by rw [Int.pow_zero]; exact hint1.below bV1, R1.below bV1, bthen hB1 bV1, lR1⟩
  go_wp2_with fail
  rw [← hV1]
  clear hV1 bV1 hint1 R1 hB1
  obtain ⟨BX, hBX⟩ : ∃ BX, BX = w1.heap.size := ⟨_, rfl⟩
  rw [← hBX] at st0 ⊢
  clear hBX lR1
  go_loopw [6] (fun kk wr => ∃ (i : Nat) (X : Nm), kk = .int .i64 (i : Int) ∧ i ≤ k ∧ RsSt w wr BX X (4 * i + 4) (n ^ i)) (fun kk _ => k - (intOf kk).toNat)
  case atStart => exact ⟨0, _, rfl, Nat.zero_le _, st0⟩
  case round =>
    obtain ⟨i, X, rfl, hi, st⟩ := hrel
    clear st0
    by_cases hin : i < k
    · have hin1 : (i : Int) < (k : Int) := by omega
      have HX := hide st.x
      have HI := hide st.i
      have HST := hide st
      clear st
      go_wp2_with fail
      have hD0 : Below wr.heap.size wr wr.drew := (Below.refl _ _).drew
      have HKm := hide (show ∀ w', Below wr.heap.size wr w' → (w'.cell? ⟨BX, 0, none⟩ = some (.bool X.neg) ∧ w'.cell? ⟨BX, 1, none⟩ = some (.slice X.a X.n X.cap)) from fun w' hB => ⟨((unhide HX).below hB).c.c0, ((unhide HX).below hB).c.c1⟩)
      refine AnyL.start (S := fun w' => w'.cell? ⟨BX, 0, none⟩ = some (.bool X.neg) ∧ w'.cell? ⟨BX, 1, none⟩ = some (.slice X.a X.n X.cap)) (l := 4) (by kernel_rfl) (unhide HKm _ hD0) (fun hHeld => ?_)
      refine AnyL.take (i := 0) (oi := { dst := some 13, op := Go.Op.load 26 (Go.Operand.tmp 5), type := 26, pos := "law.go:140", after := #[], guard := none }) (v := .agg #[.bool X.neg, .slice X.a X.n X.cap]) rfl (by kernel_rfl) (by kernel_rfl) (by kernel_rfl) (by kernel_rfl) (fun _ _ _ h => h) (Or.inl ⟨by rfl, fun w hSw => ?_⟩) hHeld ?_
      · obtain ⟨s0, s1⟩ := hSw; go_simp
      try simp only [Act.put, List.setIfInBounds_toArray, List.set_cons_zero, List.set_cons_succ]
      refine AnyL.take (i := 1) (oi := { dst := some 14, op := Go.Op.move (Go.Operand.tmp 0), type := 3, pos := "law.go:140", after := #[], guard := none }) (v := .int .i64 n) rfl (by kernel_rfl) (by kernel_rfl) (by kernel_rfl) (by kernel_rfl) (fun _ _ _ h => h) (Or.inl ⟨by rfl, fun w hSw => ?_⟩) hHeld ?_
      · obtain ⟨s0, s1⟩ := hSw; go_simp
      try simp only [Act.put, List.setIfInBounds_toArray, List.set_cons_zero, List.set_cons_succ]
      refine AnyL.one (i := 2) (o := { dst := some 15, op := Go.Op.call { callee := Go.Callee.value (Go.Operand.func 43), args := #[Go.Operand.tmp 14], argTypes := #[3] }, type := 26, pos := "law.go:140", after := #[{ on := 1, ground := Go.Ground.data }], guard := none }) (by kernel_rfl) rfl (fun Kc hKc => ?_)
      go_simp
      refine (numOf_int n _ (by omega) (by omega)).mono ?_
      rintro r' w1 ⟨neg1, a1, n1, c1, rfl, hint1, hb1⟩
      have hD1 := bthen hD0 hb1
      clear hb1
      go_wp2_with fail
      refine hKc.out _ _ (unhide HKm _ hD1) (fun hHeld => ?_)
      clear hKc Kc
      try simp only [Act.put, List.setIfInBounds_toArray, List.set_cons_zero, List.set_cons_succ]
      refine AnyL.one (i := 3) (o := { dst := some 16, op := Go.Op.call { callee := Go.Callee.value (Go.Operand.func 66), args := #[Go.Operand.tmp 13, Go.Operand.tmp 15], argTypes := #[26, 26] }, type := 26, pos := "law.go:140", after := #[{ on := 0, ground := Go.Ground.data }, { on := 2, ground := Go.Ground.data }, { on := 2, ground := Go.Ground.chain }], guard := none }) (by kernel_rfl) rfl (fun Kc hKc => ?_)
      go_simp
      refine (mul_int _ _ _ _ _ _ _ _ (4 * i + 4) 4 (n ^ i) n _ ((unhide HI).below hD1) hint1 (by omega) (by omega)).mono ?_
      rintro r' w2 ⟨neg2, a2, n2, c2, rfl, hint2, hb2⟩
      have hD2 := bthen hD1 hb2
      clear hb2 hint1
      go_wp2_with fail
      refine hKc.out _ _ (unhide HKm _ hD2) (fun hHeld => ?_)
      clear hKc Kc
      try simp only [Act.put, List.setIfInBounds_toArray, List.set_cons_zero, List.set_cons_succ]
      have VX := (unhide HX).below hD2
      have lX := VX.lt
      obtain ⟨⟨z0, z1⟩, zf⟩ := VX
      refine AnyL.last (o := { dst := none, op := Go.Op.store 26 (Go.Operand.tmp 5) (Go.Operand.tmp 16), type := 0, pos := "law.go:140", after := #[{ on := 3, ground := Go.Ground.data }, { on := 3, ground := Go.Ground.chain }, { on := 0, ground := Go.Ground.phase }, { on := 1, ground := Go.Ground.phase }, { on := 2, ground := Go.Ground.phase }, { on := 3, ground := Go.Ground.phase }], guard := none }) (by kernel_rfl) rfl (by kernel_rfl) (fun Kc hKc => ?_)
      go_simp
      refine hKc.out _ _ ?_
      clear hKc Kc z0 z1 zf HKm
      have stn := ((unhide HST).below hD2).put (Y := ⟨neg2, a2, n2, c2⟩) hint2
      unfold put2w at stn
      rw [← Int.pow_succ, show 4 * i + 4 + 4 = 4 * (i + 1) + 4 by omega] at stn
      go_wp2_with fail
      go_roundw
      case rel => exact ⟨i + 1, _, by go_num, by omega, stn⟩
      case measure => simp [intOf]; omega
    · have hin1 : ¬ (i : Int) < (k : Int) := by omega
      have hik : i = k := by omega
      subst hik
      have lx := st.x.lt
      have lb := st.l
      have hBr := st.be
      have HI := hide st.i
      obtain ⟨⟨z0, z1⟩, zf⟩ := st.x
      obtain ⟨q0, q1, q2⟩ := st.no
      have n3 : BX ≠ w.heap.size := by omega
      have n4 : w.heap.size ≠ BX := by omega
      clear st
      go_wp2_with fail
      refine bodyPost_ret (v := .agg #[.bool X.neg, .slice X.a X.n X.cap]) (by simp [results, Tryz.results89, go_sem, q0, q1]) rfl ⟨X.neg, X.a, X.n, X.cap, rfl, ?_, ?_⟩
      · exact (unhide HI).put2 q0 q1 _ _
      · exact set2 hBr (Nat.le_refl _) _ _

/-- Where tailsureref.countTerm is. -/
structure CtSt (w wr : World) (B B' : Nat) (X Y : Nm) (p q : Int) (k : Nat) (u v : Int) : Prop where
  a : RaC wr w.heap.size p q
  x : VnC wr B X
  y : VnC wr B' Y
  i : IntAt wr X.neg X.a X.n X.cap k u
  j : IntAt wr Y.neg Y.a Y.n Y.cap k v
  no : NoI wr (w.heap.size + 1)
  be : Below w.heap.size w wr
  l : w.heap.size + 1 < B
  l' : w.heap.size + 1 < B'
  n : B ≠ B'
theorem CtSt.below {w wr wr' : World} {B B' : Nat} {X Y : Nm} {p q : Int} {k : Nat} {u v : Int} (h : CtSt w wr B B' X Y p q k u v) (hb : Below wr.heap.size wr wr') : CtSt w wr' B B' X Y p q k u v :=
  ⟨h.a.below hb, h.x.below hb, h.y.below hb, h.i.below hb, h.j.below hb, h.no.below hb, bthen h.be hb, h.l, h.l', h.n⟩
theorem CtSt.mono {w wr : World} {B B' : Nat} {X Y : Nm} {p q : Int} {k k' : Nat} {u v : Int} (h : CtSt w wr B B' X Y p q k u v) (hk : k ≤ k') : CtSt w wr B B' X Y p q k' u v :=
  ⟨h.a, h.x, h.y, h.i.mono hk, h.j.mono hk, h.no, h.be, h.l, h.l', h.n⟩
theorem CtSt.putX {w wr : World} {B B' : Nat} {X Y Z : Nm} {p q : Int} {k : Nat} {u v u' : Int} (h : CtSt w wr B B' X Y p q k u v) (hz : IntAt wr Z.neg Z.a Z.n Z.cap k u') : CtSt w (put2w wr B Z) B B' Z Y p q k u' v :=
  ⟨h.a.offv (by have := h.l; omega) Z, h.x.put Z, h.y.off (Ne.symm h.n) Z, hz.putv h.x Z, h.j.putv h.x Z, h.no.offv (by have := h.l; omega) Z, set2 h.be (by have := h.l; omega) _ _, h.l, h.l', h.n⟩
theorem CtSt.putY {w wr : World} {B B' : Nat} {X Y Z : Nm} {p q : Int} {k : Nat} {u v v' : Int} (h : CtSt w wr B B' X Y p q k u v) (hz : IntAt wr Z.neg Z.a Z.n Z.cap k v') : CtSt w (put2w wr B' Z) B B' X Z p q k u v' :=
  ⟨h.a.offv (by have := h.l'; omega) Z, h.x.off h.n Z, h.y.put Z, h.i.putv h.y Z, hz.putv h.y Z, h.no.offv (by have := h.l'; omega) Z, set2 h.be (by have := h.l'; omega) _ _, h.l, h.l', h.n⟩

set_option maxRecDepth 100000 in
set_option maxHeartbeats 6000000 in
theorem refCountTerm (w : World) (n k : Nat) (p q : Int) (hk : k ≤ n) (hn : n ≤ 100) (hp : 0 ≤ p) (hpq : p ≤ q) (hq : q ≤ 1024) :
    Calls Tryz.prog 88 #[.int .i64 n, .int .i64 k, .agg #[.int .i64 p, .int .i64 q]] w (IntAns w 2000 ((ch n k : Int) * (p ^ k * (q - p) ^ (n - k)))) := by
  obtain ⟨W, hW⟩ : ∃ W, W = (w.alloc (.cells #[.int .i64 p, .int .i64 q] 23)).alloc (.cells #[.bool false, .slice none 0 0] 26) := ⟨_, rfl⟩
  have hBW : Below w.heap.size w W := by rw [hW]; exact bl2 _ _ _
  have A : RaC W w.heap.size p q := by rw [hW]; exact ⟨by simp [go_sem], by simp [go_sem]⟩
  have R : NoI W (w.heap.size + 1) := by rw [hW]; exact ⟨by simp [go_sem], by simp [go_sem], fun o => by simp [go_sem]⟩
  go_enter Tryz.func88, Tryz.ntmps88
  go_wp2_with fail
  rw [← hW]
  clear hW
  refine (numOf_int 1 _ (by decide) (by decide)).mono ?_
  rintro r' w1 ⟨neg1, a1, n1, c1, rfl, hint1, hb1⟩
  replace A := A.below hb1
  replace R := R.below hb1
  replace hBW := bthen hBW hb1
  clear hb1
  go_wp2_with fail
  refine (numOf_int 1 _ (by decide) (by decide)).mono ?_
  rintro r' w2 ⟨neg2, a2, n2, c2, rfl, hint2, hb2⟩
  replace A := A.below hb2
  replace R := R.below hb2
  replace hBW := bthen hBW hb2
  replace hint1 := hint1.below hb2
  clear hb2
  have lR := R.lt
  obtain ⟨V1, hV1⟩ : ∃ V1, V1 = (w2.alloc (.cells #[.bool neg1, .slice a1 n1 c1] 26)).alloc (.cells #[.bool neg2, .slice a2 n2 c2] 26) := ⟨_, rfl⟩
  have bV1 : Below w2.heap.size w2 V1 := by rw [hV1]; exact bl2 _ _ _
  have st0 : CtSt w V1 w2.heap.size (w2.heap.size + 1) ⟨neg1, a1, n1, c1⟩ ⟨neg2, a2, n2, c2⟩ p q (8 * 0 + 4) (fall (n : Int) 0) (fact 0) := ⟨A.below bV1, by rw [hV1]; exact (vnc_new w2 ⟨neg1, a1, n1, c1⟩ _).below (bl1 _ _), by rw [hV1]; exact ⟨⟨by simp [go_sem], by simp [go_sem]⟩, fun o => by simp [go_sem]⟩, hint1.below bV1, hint2.below bV1, R.below bV1, bthen hBW bV1, lR, by omega, by omega⟩
  go_wp2_with fail
  rw [← hV1]
  clear hV1 bV1 hint1 hint2 A R hBW
  obtain ⟨B, hB⟩ : ∃ B, B = w2.heap.size := ⟨_, rfl⟩
  obtain ⟨B', hB'⟩ : ∃ B', B' = w2.heap.size + 1 := ⟨_, rfl⟩
  rw [← hB', ← hB] at st0 ⊢
  clear hB hB' lR
  go_loopw [9] (fun kk wr => ∃ (i : Nat) (X Y : Nm), kk = .int .i64 (i : Int) ∧ i ≤ k ∧ CtSt w wr B B' X Y p q (8 * i + 4) (fall (n : Int) i) (fact i)) (fun kk _ => k - (intOf kk).toNat)
  case atStart => exact ⟨0, _, _, rfl, Nat.zero_le _, st0⟩
  case round =>
    obtain ⟨i, X, Y, rfl, hi, st⟩ := hrel
    clear st0
    by_cases hin : i < k
    · have hin1 : (i : Int) < (k : Int) := by omega
      have HXA := hide st.x
      have HIA := hide st.i
      have HST := hide st
      clear st
      go_wp2_with fail
      have hDA0 : Below wr.heap.size wr wr.drew := (Below.refl _ _).drew
      have HKmA := hide (show ∀ w', Below wr.heap.size wr w' → (w'.cell? ⟨B, 0, none⟩ = some (.bool X.neg) ∧ w'.cell? ⟨B, 1, none⟩ = some (.slice X.a X.n X.cap)) from fun w' hB => ⟨((unhide HXA).below hB).c.c0, ((unhide HXA).below hB).c.c1⟩)
      refine AnyL.start (S := fun w' => w'.cell? ⟨B, 0, none⟩ = some (.bool X.neg) ∧ w'.cell? ⟨B, 1, none⟩ = some (.slice X.a X.n X.cap)) (l := 6) (by kernel_rfl) (unhide HKmA _ hDA0) (fun hHeld => ?_)
      refine AnyL.take (i := 0) (oi := { dst := some 17, op := Go.Op.load 26 (Go.Operand.tmp 7), type := 26, pos := "law.go:149", after := #[], guard := none }) (v := .agg #[.bool X.neg, .slice X.a X.n X.cap]) rfl (by kernel_rfl) (by kernel_rfl) (by kernel_rfl) (by kernel_rfl) (fun _ _ _ h => h) (Or.inl ⟨by rfl, fun w hSw => ?_⟩) hHeld ?_
      · obtain ⟨s0, s1⟩ := hSw; go_simp
      try simp only [Act.put, List.setIfInBounds_toArray, List.set_cons_zero, List.set_cons_succ]
      refine AnyL.take (i := 1) (oi := { dst := some 18, op := Go.Op.move (Go.Operand.tmp 0), type := 3, pos := "law.go:149", after := #[], guard := none }) (v := .int .i64 (n : Int)) rfl (by kernel_rfl) (by kernel_rfl) (by kernel_rfl) (by kernel_rfl) (fun _ _ _ h => h) (Or.inl ⟨by rfl, fun w hSw => ?_⟩) hHeld ?_
      · obtain ⟨s0, s1⟩ := hSw; go_simp
      try simp only [Act.put, List.setIfInBounds_toArray, List.set_cons_zero, List.set_cons_succ]
      refine AnyL.take (i := 2) (oi := { dst := some 19, op := Go.Op.move (Go.Operand.tmp 9), type := 3, pos := "law.go:149", after := #[], guard := none }) (v := .int .i64 (i : Int)) rfl (by kernel_rfl) (by kernel_rfl) (by kernel_rfl) (by kernel_rfl) (fun _ _ _ h => h) (Or.inl ⟨by rfl, fun w hSw => ?_⟩) hHeld ?_
      · obtain ⟨s0, s1⟩ := hSw; go_simp
      try simp only [Act.put, List.setIfInBounds_toArray, List.set_cons_zero, List.set_cons_succ]
      refine AnyL.take (i := 3) (oi := { dst := some 20, op := Go.Op.binOp Go.BinOp.sub 3 (Go.Operand.tmp 18) (Go.Operand.tmp 19) 3, type := 3, pos := "law.go:149", after := #[{ on := 1, ground := Go.Ground.data }, { on := 2, ground := Go.Ground.data }], guard := none }) (v := .int .i64 (IntKind.i64.wrap ((n : Int) - (i : Int)))) rfl (by kernel_rfl) (by kernel_rfl) (by kernel_rfl) (by kernel_rfl) (fun _ _ _ h => h) (Or.inl ⟨by rfl, fun w hSw => ?_⟩) hHeld ?_
      · obtain ⟨s0, s1⟩ := hSw; go_simp
      try simp only [Act.put, List.setIfInBounds_toArray, List.set_cons_zero, List.set_cons_succ]
      refine AnyL.one (i := 4) (o := { dst := some 21, op := Go.Op.call { callee := Go.Callee.value (Go.Operand.func 43), args := #[Go.Operand.tmp 20], argTypes := #[3] }, type := 26, pos := "law.go:149", after := #[{ on := 3, ground := Go.Ground.data }], guard := none }) (by kernel_rfl) rfl (fun Kc hKc => ?_)
      go_simp
      rw [i64_id ((n : Int) - (i : Int)) (by omega) (by omega)]
      refine (numOf_int ((n : Int) - (i : Int)) _ (by omega) (by omega)).mono ?_
      rintro r' wA1 ⟨negA1, aA1, nA1, cA1, rfl, hintA1, hbA1⟩
      have hDA1 := bthen hDA0 hbA1
      clear hbA1
      go_wp2_with fail
      refine hKc.out _ _ (unhide HKmA _ hDA1) (fun hHeld => ?_)
      clear hKc Kc
      try simp only [Act.put, List.setIfInBounds_toArray, List.set_cons_zero, List.set_cons_succ]
      refine AnyL.one (i := 5) (o := { dst := some 22, op := Go.Op.call { callee := Go.Callee.value (Go.Operand.func 66), args := #[Go.Operand.tmp 17, Go.Operand.tmp 21], argTypes := #[26, 26] }, type := 26, pos := "law.go:149", after := #[{ on := 0, ground := Go.Ground.data }, { on := 4, ground := Go.Ground.data }, { on := 4, ground := Go.Ground.chain }], guard := none }) (by kernel_rfl) rfl (fun Kc hKc => ?_)
      go_simp
      refine (mul_int _ _ _ _ _ _ _ _ (8 * i + 4) 4 (fall (n : Int) i) ((n : Int) - (i : Int)) _ ((unhide HIA).below hDA1) hintA1 (by omega) (by omega)).mono ?_
      rintro r' wA2 ⟨negA2, aA2, nA2, cA2, rfl, hintA2, hbA2⟩
      have hDA2 := bthen hDA1 hbA2
      clear hbA2 hintA1
      go_wp2_with fail
      refine hKc.out _ _ (unhide HKmA _ hDA2) (fun hHeld => ?_)
      clear hKc Kc
      try simp only [Act.put, List.setIfInBounds_toArray, List.set_cons_zero, List.set_cons_succ]
      have VXA := (unhide HXA).below hDA2
      have lXA := VXA.lt
      obtain ⟨⟨z0, z1⟩, zf⟩ := VXA
      refine AnyL.last (o := { dst := none, op := Go.Op.store 26 (Go.Operand.tmp 7) (Go.Operand.tmp 22), type := 0, pos := "law.go:149", after := #[{ on := 5, ground := Go.Ground.data }, { on := 5, ground := Go.Ground.chain }, { on := 0, ground := Go.Ground.phase }, { on := 1, ground := Go.Ground.phase }, { on := 2, ground := Go.Ground.phase }, { on := 3, ground := Go.Ground.phase }, { on := 4, ground := Go.Ground.phase }, { on := 5, ground := Go.Ground.phase }], guard := none }) (by kernel_rfl) rfl (by kernel_rfl) (fun Kc hKc => ?_)
      go_simp
      refine hKc.out _ _ ?_
      clear hKc Kc z0 z1 zf HKmA
      have st1 := (((unhide HST).below hDA2).mono (show 8 * i + 4 ≤ 8 * i + 8 by omega)).putX (Z := ⟨negA2, aA2, nA2, cA2⟩) (hintA2.mono (by omega))
      obtain ⟨V, hV⟩ : ∃ V, V = put2w wA2 B ⟨negA2, aA2, nA2, cA2⟩ := ⟨_, rfl⟩
      rw [← hV] at st1
      unfold put2w at hV
      go_wp2_with fail
      rw [← hV]
      clear hV HST HXA HIA hDA0 hDA1 hDA2 hintA2 lXA
      have HXC := hide st1.y
      have HIC := hide st1.j
      have HST := hide st1
      clear st1
      have hDC0 : Below V.heap.size V V.drew := (Below.refl _ _).drew
      have HKmC := hide (show ∀ w', Below V.heap.size V w' → (w'.cell? ⟨B', 0, none⟩ = some (.bool Y.neg) ∧ w'.cell? ⟨B', 1, none⟩ = some (.slice Y.a Y.n Y.cap)) from fun w' hB => ⟨((unhide HXC).below hB).c.c0, ((unhide HXC).below hB).c.c1⟩)
      refine AnyL.start (S := fun w' => w'.cell? ⟨B', 0, none⟩ = some (.bool Y.neg) ∧ w'.cell? ⟨B', 1, none⟩ = some (.slice Y.a Y.n Y.cap)) (l := 5) (by kernel_rfl) (unhide HKmC _ hDC0) (fun hHeld => ?_)
      refine AnyL.take (i := 0) (oi := { dst := some 23, op := Go.Op.load 26 (Go.Operand.tmp 8), type := 26, pos := "law.go:150", after := #[], guard := none }) (v := .agg #[.bool Y.neg, .slice Y.a Y.n Y.cap]) rfl (by kernel_rfl) (by kernel_rfl) (by kernel_rfl) (by kernel_rfl) (fun _ _ _ h => h) (Or.inl ⟨by rfl, fun w hSw => ?_⟩) hHeld ?_
      · obtain ⟨s0, s1⟩ := hSw; go_simp
      try simp only [Act.put, List.setIfInBounds_toArray, List.set_cons_zero, List.set_cons_succ]
      refine AnyL.take (i := 1) (oi := { dst := some 24, op := Go.Op.move (Go.Operand.tmp 9), type := 3, pos := "law.go:150", after := #[], guard := none }) (v := .int .i64 (i : Int)) rfl (by kernel_rfl) (by kernel_rfl) (by kernel_rfl) (by kernel_rfl) (fun _ _ _ h => h) (Or.inl ⟨by rfl, fun w hSw => ?_⟩) hHeld ?_
      · obtain ⟨s0, s1⟩ := hSw; go_simp
      try simp only [Act.put, List.setIfInBounds_toArray, List.set_cons_zero, List.set_cons_succ]
      refine AnyL.take (i := 2) (oi := { dst := some 25, op := Go.Op.binOp Go.BinOp.add 3 (Go.Operand.tmp 24) (Go.Operand.const (Go.Value.int Go.IntKind.i64 1)) 3, type := 3, pos := "law.go:150", after := #[{ on := 1, ground := Go.Ground.data }], guard := none }) (v := .int .i64 (IntKind.i64.wrap ((i : Int) + 1))) rfl (by kernel_rfl) (by kernel_rfl) (by kernel_rfl) (by kernel_rfl) (fun _ _ _ h => h) (Or.inl ⟨by rfl, fun w hSw => ?_⟩) hHeld ?_
      · obtain ⟨s0, s1⟩ := hSw; go_simp
      try simp only [Act.put, List.setIfInBounds_toArray, List.set_cons_zero, List.set_cons_succ]
      refine AnyL.one (i := 3) (o := { dst := some 26, op := Go.Op.call { callee := Go.Callee.value (Go.Operand.func 43), args := #[Go.Operand.tmp 25], argTypes := #[3] }, type := 26, pos := "law.go:150", after := #[{ on := 2, ground := Go.Ground.data }], guard := none }) (by kernel_rfl) rfl (fun Kc hKc => ?_)
      go_simp
      rw [i64_id ((i : Int) + 1) (by omega) (by omega)]
      refine (numOf_int ((i : Int) + 1) _ (by omega) (by omega)).mono ?_
      rintro r' wC1 ⟨negC1, aC1, nC1, cC1, rfl, hintC1, hbC1⟩
      have hDC1 := bthen hDC0 hbC1
      clear hbC1
      go_wp2_with fail
      refine hKc.out _ _ (unhide HKmC _ hDC1) (fun hHeld => ?_)
      clear hKc Kc
      try simp only [Act.put, List.setIfInBounds_toArray, List.set_cons_zero, List.set_cons_succ]
      refine AnyL.one (i := 4) (o := { dst := some 27, op := Go.Op.call { callee := Go.Callee.value (Go.Operand.func 66), args := #[Go.Operand.tmp 23, Go.Operand.tmp 26], argTypes := #[26, 26] }, type := 26, pos := "law.go:150", after := #[{ on := 0, ground := Go.Ground.data }, { on := 3, ground := Go.Ground.data }, { on := 3, ground := Go.Ground.chain }], guard := none }) (by kernel_rfl) rfl (fun Kc hKc => ?_)
      go_simp
      refine (mul_int _ _ _ _ _ _ _ _ (8 * i + 8) 4 (fact i) ((i : Int) + 1) _ ((unhide HIC).below hDC1) hintC1 (by omega) (by omega)).mono ?_
      rintro r' wC2 ⟨negC2, aC2, nC2, cC2, rfl, hintC2, hbC2⟩
      have hDC2 := bthen hDC1 hbC2
      clear hbC2 hintC1
      go_wp2_with fail
      refine hKc.out _ _ (unhide HKmC _ hDC2) (fun hHeld => ?_)
      clear hKc Kc
      try simp only [Act.put, List.setIfInBounds_toArray, List.set_cons_zero, List.set_cons_succ]
      have VXC := (unhide HXC).below hDC2
      have lXC := VXC.lt
      obtain ⟨⟨z0, z1⟩, zf⟩ := VXC
      refine AnyL.last (o := { dst := none, op := Go.Op.store 26 (Go.Operand.tmp 8) (Go.Operand.tmp 27), type := 0, pos := "law.go:150", after := #[{ on := 4, ground := Go.Ground.data }, { on := 4, ground := Go.Ground.chain }, { on := 0, ground := Go.Ground.phase }, { on := 1, ground := Go.Ground.phase }, { on := 2, ground := Go.Ground.phase }, { on := 3, ground := Go.Ground.phase }, { on := 4, ground := Go.Ground.phase }], guard := none }) (by kernel_rfl) rfl (by kernel_rfl) (fun Kc hKc => ?_)
      go_simp
      refine hKc.out _ _ ?_
      clear hKc Kc z0 z1 zf HKmC
      have stn := (((unhide HST).below hDC2).mono (show 8 * i + 8 ≤ 8 * i + 12 by omega)).putY (Z := ⟨negC2, aC2, nC2, cC2⟩) (hintC2.mono (by omega))
      unfold put2w at stn
      go_wp2_with fail
      go_roundw
      case rel => exact ⟨i + 1, _, _, by go_num, by omega, stn⟩
      case measure => simp [intOf]; omega
    · have hin1 : ¬ (i : Int) < (k : Int) := by omega
      have hik : i = k := by omega
      subst hik
      have la := st.a.lt
      have lx := st.x.lt
      have ly := st.y.lt
      have lb := st.l
      have lb' := st.l'
      have hBr := st.be
      have R := st.no
      have lr := R.lt
      have HI := hide st.i
      have HJ := hide st.j
      have HD := hide (fall_div hk)
      have hfp := fact_pos i
      have hD0 : Below wr.heap.size wr wr.drew := (Below.refl _ _).drew
      have HK := hide (show ∀ w', Below wr.heap.size wr w' → (w'.cell? ⟨w.heap.size, 0, none⟩ = some (.int .i64 p) ∧ w'.cell? ⟨w.heap.size, 1, none⟩ = some (.int .i64 q) ∧ w'.cell? ⟨B, 0, none⟩ = some (.bool X.neg) ∧ w'.cell? ⟨B, 1, none⟩ = some (.slice X.a X.n X.cap) ∧ w'.cell? ⟨B', 0, none⟩ = some (.bool Y.neg) ∧ w'.cell? ⟨B', 1, none⟩ = some (.slice Y.a Y.n Y.cap)) from fun w' hB => ⟨(st.a.below hB).c0, (st.a.below hB).c1, (st.x.below hB).c.c0, (st.x.below hB).c.c1, (st.y.below hB).c.c0, (st.y.below hB).c.c1⟩)
      have n1 : w.heap.size ≠ w.heap.size + 1 := by omega
      have n2 : w.heap.size + 1 ≠ w.heap.size := by omega
      have n3 : B ≠ w.heap.size + 1 := by omega
      have n4 : w.heap.size + 1 ≠ B := by omega
      have n5 : B' ≠ w.heap.size + 1 := by omega
      have n6 : w.heap.size + 1 ≠ B' := by omega
      have HW1 := hide (show IntKind.i64.wrap (q - p) = q - p from i64_id _ (by omega) (by omega))
      obtain ⟨j, hj⟩ : ∃ j : Nat, (n : Int) - (i : Int) = (j : Int) := ⟨n - i, by omega⟩
      have HW2 := hide (show IntKind.i64.wrap ((n : Int) - (i : Int)) = (j : Int) from (i64_id _ (by omega) (by omega)).trans hj)
      have HJN := hide (show n - i = j by omega)
      have hjb : j ≤ 100 := by omega
      clear st hj
      obtain ⟨x0, x1, y0, y1, u0, u1⟩ := unhide HK _ (Below.refl _ _)
      go_wp2_with fail
      go_region_held3 (fun w' => w'.cell? ⟨w.heap.size, 0, none⟩ = some (.int .i64 p) ∧ w'.cell? ⟨w.heap.size, 1, none⟩ = some (.int .i64 q) ∧ w'.cell? ⟨B, 0, none⟩ = some (.bool X.neg) ∧ w'.cell? ⟨B, 1, none⟩ = some (.slice X.a X.n X.cap) ∧ w'.cell? ⟨B', 0, none⟩ = some (.bool Y.neg) ∧ w'.cell? ⟨B', 1, none⟩ = some (.slice Y.a Y.n Y.cap)) (first | exact unhide HK _ (by first | with_reducible exact hD0 | with_reducible exact hD5 | with_reducible exact hD4 | with_reducible exact hD3 | with_reducible exact hD2 | with_reducible exact hD1) | go_keep)
        (first
          | (go_at_call 66; have hqq := hD4; refine (mul_int _ _ _ _ _ _ _ _ 900 900 (ch n i : Int) (p ^ i * (q - p) ^ j) _ hint1 (hint4.mono (by omega)) (by omega) (by omega)).mono ?_; rintro r' w5 ⟨neg5, a5, n5', c5, rfl, hint5, hb5⟩; have hD5 := bthen hD4 hb5; obtain ⟨q0, q1, q2⟩ := R.below hD5; obtain ⟨z0, z1, z2, z3, z4, z5⟩ := unhide HK _ hD5)
          | (go_at_call 66; have hqq := hD3; refine (mul_int _ _ _ _ _ _ _ _ (4 * i + 4) (4 * j + 4) (p ^ i) ((q - p) ^ j) _ hint2 hint3 (by omega) (by omega)).mono ?_; rintro r' w4 ⟨neg4, a4, n4', c4, rfl, hint4, hb4⟩; have hD4 := bthen hD3 hb4; replace hint1 := hint1.below hb4)
          | (go_at_call 89; have hqq := hD2; rw [unhide HW1, unhide HW2]; refine (refRaisedInt _ (q - p) j (by omega) (by omega) (by omega)).mono ?_; rintro r' w3 ⟨neg3, a3, n3', c3, rfl, hint3, hb3⟩; have hD3 := bthen hD2 hb3; replace hint1 := hint1.below hb3; replace hint2 := hint2.below hb3)
          | (go_at_call 89; have hqq := hD1; refine (refRaisedInt _ p i (by omega) (by omega) (by omega)).mono ?_; rintro r' w2 ⟨neg2, a2, n2', c2, rfl, hint2, hb2⟩; have hD2 := bthen hD1 hb2; replace hint1 := hint1.below hb2)
          | (go_at_call 119; refine (floor_any _ _ _ _ _ _ _ _ (8 * i + 4) _ (fall (n : Int) i) (fact i) _ ((unhide HI).below hD0) ((unhide HJ).below hD0) (by omega) hfp).mono ?_; rintro r' w1 ⟨neg1, a1, n1', c1, rfl, hint1, hb1⟩; have hD1 := bthen hD0 hb1; rw [unhide HD] at hint1; replace hint1 := hint1.mono (show 8 * i + 4 + 8 ≤ 900 by omega)))
      all_goals
        go_wp2_with fail
        refine bodyPost_ret (v := .agg #[.bool neg5, .slice a5 n5' c5]) (by simp [results, Tryz.results88, go_sem, q0, q1]) rfl ⟨neg5, a5, n5', c5, rfl, ?_, ?_⟩
        · rw [unhide HJN]; exact (hint5.put2 q0 q1 _ _).mono (by omega)
        · exact set2 (bthen hBr hD5) (by omega) _ _

set_option maxRecDepth 100000 in
set_option maxHeartbeats 4000000 in
theorem refCountMass (w : World) (k q r s : Int) (n j b : Nat) (hj : j ≤ n) (hn : n ≤ 100) (hr : 0 ≤ r) (hrs : r ≤ s) (hs0 : 1 ≤ s) (hs : s ≤ 1024) (hb : b ≤ 100000) :
    Calls Tryz.prog 38 #[.agg #[.int .i64 k, .int .i64 (n : Int), .int .i64 q, .int .i64 r, .int .i64 s], .int .i64 j, .int .i64 b] w (SpanAns w b (2000 + b / 16 + 14) (ofI ((ch n j : Int) * (r ^ j * (s - r) ^ (n - j))) (s ^ n) b).1 (ofI ((ch n j : Int) * (r ^ j * (s - r) ^ (n - j))) (s ^ n) b).2) := by
  obtain ⟨W, hW⟩ : ∃ W, W = (w.alloc (.cells #[.int .i64 k, .int .i64 (n : Int), .int .i64 q, .int .i64 r, .int .i64 s] 53)).alloc (.cells #[.bool false, .slice none 0 0, .bool false, .slice none 0 0, .int .i64 0] 36) := ⟨_, rfl⟩
  have hBW : Below w.heap.size w W := by rw [hW]; exact bl2 _ _ _
  have A : LwC W w.heap.size k n q r s := by rw [hW]; exact (lwc_new w k n q r s _).below (bl1 _ _)
  have R : NoC W (w.heap.size + 1) := by rw [hW]; exact ⟨by simp [go_sem], by simp [go_sem], by simp [go_sem], by simp [go_sem], by simp [go_sem], fun o => by simp [go_sem]⟩
  have HK := hide (show ∀ w', Below W.heap.size W w' → (w'.cell? ⟨w.heap.size, 0, none⟩ = some (.int .i64 k) ∧ w'.cell? ⟨w.heap.size, 1, none⟩ = some (.int .i64 (n : Int)) ∧ w'.cell? ⟨w.heap.size, 2, none⟩ = some (.int .i64 q) ∧ w'.cell? ⟨w.heap.size, 3, none⟩ = some (.int .i64 r) ∧ w'.cell? ⟨w.heap.size, 4, none⟩ = some (.int .i64 s)) from fun w' hB => ⟨(A.below hB).c0, (A.below hB).c1, (A.below hB).c2, (A.below hB).c3, (A.below hB).c4⟩)
  have hD0 : Below W.heap.size W W.drew := (Below.refl _ _).drew
  have lA := A.lt
  have lR := R.lt
  have n1 : w.heap.size ≠ w.heap.size + 1 := by omega
  have n2 : w.heap.size + 1 ≠ w.heap.size := by omega
  have hpos : 0 < s ^ n := Int.pow_pos (by omega)
  clear A
  go_enter Tryz.func38, Tryz.ntmps38
  go_wp2
  rw [← hW]
  clear hW
  obtain ⟨x0, x1, x2, x3, x4⟩ := unhide HK _ (Below.refl _ _)
  go_region_held3 (fun w' => w'.cell? ⟨w.heap.size, 0, none⟩ = some (.int .i64 k) ∧ w'.cell? ⟨w.heap.size, 1, none⟩ = some (.int .i64 (n : Int)) ∧ w'.cell? ⟨w.heap.size, 2, none⟩ = some (.int .i64 q) ∧ w'.cell? ⟨w.heap.size, 3, none⟩ = some (.int .i64 r) ∧ w'.cell? ⟨w.heap.size, 4, none⟩ = some (.int .i64 s)) (first | exact unhide HK _ (by first | with_reducible exact hD0 | with_reducible exact hD3 | with_reducible exact hD2 | with_reducible exact hD1) | go_keep)
    (first
      | (go_at_call 54; have hqq := hD2; refine (refRatio_ms ⟨neg1, a1, n1', c1⟩ ⟨neg2, a2, n2', c2⟩ 2000 (4 * n + 4) b _ (s ^ n) _ hint1 hint2 (by omega) (by omega) hb hpos).mono ?_; rintro r' w3 ⟨v3, rfl, hvb3, hs3, hb3⟩; have HV3 := hide hvb3; clear hvb3; have hD3 := bthen hD2 hb3; obtain ⟨q0, q1, q2, q3, q4, q5⟩ := R.below hD3; obtain ⟨y0, y1, y2, y3, y4⟩ := unhide HK _ hD3)
      | (go_at_call 89; have hqq := hD1; refine (refRaisedInt _ s n (by omega) (by omega) (by omega)).mono ?_; rintro r' w2 ⟨neg2, a2, n2', c2, rfl, hint2, hb2⟩; have hD2 := bthen hD1 hb2; replace hint1 := hint1.below hb2)
      | (go_at_call 88; refine (refCountTerm _ n j r s hj hn hr hrs hs).mono ?_; rintro r' w1 ⟨neg1, a1, n1', c1, rfl, hint1, hb1⟩; have hD1 := bthen hD0 hb1))
  all_goals
    go_wp2_with fail
    refine bodyPost_ret (v := .agg #[.bool v3.ln, .slice v3.la v3.lN v3.lc, .bool v3.hn, .slice v3.ha v3.hN v3.hc, .int .i64 v3.bits]) (by simp [results, Tryz.results38, go_sem, q0, q1, q2, q3, q4]) rfl ⟨v3, rfl, unhide HV3, ?_, ?_⟩
    · exact SpAt.put5 hs3 q0 q1 q2 q3 q4 _ _ _ _ _
    · exact set5 (bthen hBW hD3) (Nat.le_succ _) _ _ _ _ _
end Go.Proofs.YtgmnknmjainababGreat

namespace Go.Proofs.YtgmnknmjainababGreat
set_option linter.unusedVariables false
set_option linter.unusedSimpArgs false
set_option linter.unnecessarySimpa false
open Go.RowKit
attribute [local go_sem ↓] Go.wp_at_zero Go.wp_at_succ

theorem NoC.vr {w : World} {B : Nat} (h : NoC w B) (u : Sp) : VrC (put5w w B u) B u := by
  refine ⟨?_, fz_put5 h.fz u⟩
  obtain ⟨q0, q1, q2, q3, q4, q5⟩ := h
  constructor <;> simp [go_sem, q0, q1, q2, q3, q4]
theorem NoC.spat {w : World} {B : Nat} (h : NoC w B) {s : Sp} {k : Nat} {lo hi : Int} (hs : SpAt w s k lo hi) (u : Sp) : SpAt (put5w w B u) s k lo hi := SpAt.put5 hs h.c0 h.c1 h.c2 h.c3 h.c4 _ _ _ _ _
/-- Two variables that were made behind world W. -/
def TwoP (W wx : World) (b k1 k2 : Nat) (a c : Int × Int) (p q : Value) : Prop :=
  ∃ (B B' : Nat) (x y : Sp), p = .pointer (some ⟨B, 0, none⟩) ∧ q = .pointer (some ⟨B', 0, none⟩) ∧ W.heap.size ≤ B ∧ W.heap.size ≤ B' ∧ B ≠ B' ∧ VrC wx B x ∧ VrC wx B' y ∧ SpAt wx x k1 a.1 a.2 ∧ SpAt wx y k2 c.1 c.2 ∧ x.bits = (b : Int) ∧ y.bits = (b : Int) ∧ Below W.heap.size W wx
theorem vr_new (w : World) (x : Sp) (T : TypeId) : VrC (w.alloc (.cells #[.bool x.ln, .slice x.la x.lN x.lc, .bool x.hn, .slice x.ha x.hN x.hc, .int .i64 x.bits] T)) w.heap.size x := ⟨spc_new w x T, fun o => by simp [go_sem]⟩
theorem vr_new' (w : World) (B : Nat) (hB : w.heap.size = B) (x : Sp) (T : TypeId) : VrC (w.alloc (.cells #[.bool x.ln, .slice x.la x.lN x.lc, .bool x.hn, .slice x.ha x.hN x.hc, .int .i64 x.bits] T)) B x := by subst hB; exact vr_new w x T
variable {W w2 : World} {b k1 k2 : Nat} {a c : Int × Int} {x y : Sp} {T : TypeId}
theorem twoP_aa (hb : Below W.heap.size W w2) (ix : SpAt w2 x k1 a.1 a.2) (iy : SpAt w2 y k2 c.1 c.2) (bx : x.bits = (b : Int)) (by_ : y.bits = (b : Int)) :
    TwoP W ((w2.alloc (.cells #[.bool x.ln, .slice x.la x.lN x.lc, .bool x.hn, .slice x.ha x.hN x.hc, .int .i64 x.bits] T)).alloc (.cells #[.bool y.ln, .slice y.la y.lN y.lc, .bool y.hn, .slice y.ha y.hN y.hc, .int .i64 y.bits] T)) b k1 k2 a c (.pointer (some ⟨w2.heap.size, 0, none⟩)) (.pointer (some ⟨w2.heap.size + 1, 0, none⟩)) :=
  ⟨_, _, x, y, rfl, rfl, hb.size, Nat.le_succ_of_le hb.size, Nat.ne_of_lt (Nat.lt_succ_self _), (vr_new w2 x T).below (bl1 _ _), vr_new' _ _ (by simp) y T, ix.below (bl2 _ _ _), iy.below (bl2 _ _ _), bx, by_, bthen hb (bl2 _ _ _)⟩
theorem TwoP.swap {wx : World} {p q : Value} (h : TwoP W wx b k1 k2 a c p q) : TwoP W wx b k2 k1 c a q p := by
  obtain ⟨B, B', x, y, h1, h2, h3, h4, h5, h6, h7, h8, h9, h10, h11, h12⟩ := h
  exact ⟨B', B, y, x, h2, h1, h4, h3, fun e => h5 e.symm, h7, h6, h9, h8, h11, h10, h12⟩
theorem twoP_aa' (hb : Below W.heap.size W w2) (ix : SpAt w2 x k1 a.1 a.2) (iy : SpAt w2 y k2 c.1 c.2) (bx : x.bits = (b : Int)) (by_ : y.bits = (b : Int)) :
    TwoP W ((w2.alloc (.cells #[.bool y.ln, .slice y.la y.lN y.lc, .bool y.hn, .slice y.ha y.hN y.hc, .int .i64 y.bits] T)).alloc (.cells #[.bool x.ln, .slice x.la x.lN x.lc, .bool x.hn, .slice x.ha x.hN x.hc, .int .i64 x.bits] T)) b k1 k2 a c (.pointer (some ⟨w2.heap.size + 1, 0, none⟩)) (.pointer (some ⟨w2.heap.size, 0, none⟩)) := (twoP_aa hb iy ix by_ bx).swap
theorem twoP_sa {B : Nat} (hb : Below W.heap.size W w2) (ix : SpAt w2 x k1 a.1 a.2) (iy : SpAt w2 y k2 c.1 c.2) (bx : x.bits = (b : Int)) (by_ : y.bits = (b : Int)) (g : NoC w2 B) (h1 : W.heap.size ≤ B) :
    TwoP W ((put5w w2 B x).alloc (.cells #[.bool y.ln, .slice y.la y.lN y.lc, .bool y.hn, .slice y.ha y.hN y.hc, .int .i64 y.bits] T)) b k1 k2 a c (.pointer (some ⟨B, 0, none⟩)) (.pointer (some ⟨w2.heap.size, 0, none⟩)) := by
  have hx := g.vr x
  have ix' := g.spat ix x
  have iy' := g.spat iy x
  have hl := g.lt
  have hs := size_put w2 B x
  have hb' := below_put hb h1 x
  generalize put5w w2 B x = V at *
  rw [← hs]
  exact ⟨_, _, x, y, rfl, rfl, h1, hb'.size, by omega, hx.below (bl1 _ _), vr_new V y T, ix'.below (bl1 _ _), iy'.below (bl1 _ _), bx, by_, bthen hb' (bl1 _ _)⟩
theorem twoP_as {B : Nat} (hb : Below W.heap.size W w2) (ix : SpAt w2 x k1 a.1 a.2) (iy : SpAt w2 y k2 c.1 c.2) (bx : x.bits = (b : Int)) (by_ : y.bits = (b : Int)) (g : NoC w2 B) (h1 : W.heap.size ≤ B) :
    TwoP W ((put5w w2 B y).alloc (.cells #[.bool x.ln, .slice x.la x.lN x.lc, .bool x.hn, .slice x.ha x.hN x.hc, .int .i64 x.bits] T)) b k1 k2 a c (.pointer (some ⟨w2.heap.size, 0, none⟩)) (.pointer (some ⟨B, 0, none⟩)) := (twoP_sa hb iy ix by_ bx g h1).swap
theorem twoP_ss {B B' : Nat} (hb : Below W.heap.size W w2) (ix : SpAt w2 x k1 a.1 a.2) (iy : SpAt w2 y k2 c.1 c.2) (bx : x.bits = (b : Int)) (by_ : y.bits = (b : Int)) (g : NoC w2 B) (g' : NoC w2 B') (h1 : W.heap.size ≤ B) (h2 : W.heap.size ≤ B') (hne : B ≠ B') :
    TwoP W (put5w (put5w w2 B x) B' y) b k1 k2 a c (.pointer (some ⟨B, 0, none⟩)) (.pointer (some ⟨B', 0, none⟩)) := by
  have hx := g.vr x
  have ix' := g.spat ix x
  have iy' := g.spat iy x
  have g2 := g'.off (Ne.symm hne) x
  have hb' := below_put hb h1 x
  generalize put5w w2 B x = V at *
  exact ⟨_, _, x, y, rfl, rfl, h1, h2, hne, hx.off hne y, g2.vr y, g2.spat ix' y, g2.spat iy' y, bx, by_, below_put hb' h2 y⟩
end Go.Proofs.YtgmnknmjainababGreat
