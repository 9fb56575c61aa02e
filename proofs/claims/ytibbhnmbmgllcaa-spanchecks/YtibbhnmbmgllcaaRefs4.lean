/-
  What tailsureref.RatioOf, RightRatio, RightBits, Turn and wide.To answer, and that they leave old memory alone.
-/
import Derived.Test.YtibbhnmbmgllcaaRefs3
namespace Go.Proofs.Ytibbhnmbmgllcaa
set_option linter.unusedVariables false
set_option linter.unusedSimpArgs false
set_option linter.unnecessarySimpa false
open Go.RowKit
attribute [local go_sem ↓] Go.wp_at_zero Go.wp_at_succ

/-- Bits that one may ask for. -/
def bitOk (b : Int) : Bool := decide (8 ≤ b) && decide (b ≤ 120)

set_option maxRecDepth 100000 in
set_option maxHeartbeats 2000000 in
theorem refRightBits (b : Int) (w : World) :
    Calls Try.prog 19 #[.int .i64 b] w fun r w' => r = .returned (.bool (bitOk b)) ∧ w' = w := by
  go_enter Try.func19, Try.ntmps19
  go_wp2_with fail
  refine (between_any _ _ _ _).mono ?_
  rintro r w1 ⟨rfl, hw⟩
  subst hw
  go_wp2_with fail
  go_ret
  exact ⟨rfl, rfl⟩

set_option maxRecDepth 100000 in
set_option maxHeartbeats 2000000 in
theorem refRightRatio (p q : Int) (w : World) :
    Calls Try.prog 18 #[.agg #[.int .i64 p, .int .i64 q]] w fun r w' => r = .returned (.bool (decide (rok p q))) ∧ Below w.heap.size w w' := by
  by_cases h : -1048576 ≤ p ∧ p ≤ 1048576
  · have h1 : (decide (-1048576 ≤ p) && decide (p ≤ 1048576)) = true := by simp; omega
    have h2 : (decide (1 ≤ q) && decide (q ≤ 1024)) = decide (rok p q) := by
      rw [Bool.eq_iff_iff, Bool.and_eq_true, decide_eq_true_iff, decide_eq_true_iff, decide_eq_true_iff]
      exact ⟨fun ⟨a, b⟩ => ⟨h.1, h.2, a, b⟩, fun ⟨_, _, a, b⟩ => ⟨a, b⟩⟩
    have HE := hide h2
    clear h2
    go_enter Try.func18, Try.ntmps18
    go_wp2_with fail
    refine (between_any _ _ _ _).mono ?_
    rintro r w1 ⟨rfl, hw⟩
    subst hw
    rw [h1]
    go_wp2_with fail
    refine (between_any _ _ _ _).mono ?_
    rintro r w2 ⟨rfl, hw⟩
    subst hw
    rw [unhide HE]
    go_wp2_with fail
    go_ret
    exact ⟨rfl, bl1 _ _⟩
  · have h1 : (decide (-1048576 ≤ p) && decide (p ≤ 1048576)) = false := by
      rw [Bool.and_eq_false_iff]; simp; omega
    have h2 : decide (rok p q) = false := rok_no (by omega)
    have HE := hide h2
    clear h2 h
    go_enter Try.func18, Try.ntmps18
    go_wp2_with fail
    refine (between_any _ _ _ _).mono ?_
    rintro r w1 ⟨rfl, hw⟩
    subst hw
    rw [h1]
    go_wp2_with fail
    go_ret
    exact ⟨by rw [unhide HE]; rfl, bl1 _ _⟩

set_option maxRecDepth 100000 in
set_option maxHeartbeats 2000000 in
theorem refRatioOf_any (p q : Int) (b : Nat) (w : World) (h : rok p q) (hb : b ≤ 100000) :
    Calls Try.prog 21 #[.agg #[.int .i64 p, .int .i64 q], .int .i64 b] w (SpanAns w b (b / 16 + 18) (p * Q b / q) (-(-(p * Q b) / q))) := by
  obtain ⟨r1, r2, r3, r4⟩ := h
  obtain ⟨W, hW⟩ : ∃ W, W = (w.alloc (.cells #[.int .i64 p, .int .i64 q] 28)).alloc (.cells #[.bool false, .slice none 0 0, .bool false, .slice none 0 0, .int .i64 0] 38) := ⟨_, rfl⟩
  have hBW : Below w.heap.size w W := by rw [hW]; exact bl2 _ _ _
  have k0 : W.cell? ⟨w.heap.size, 0, none⟩ = some (.int .i64 p) := by rw [hW]; simp [go_sem]
  have k1 : W.cell? ⟨w.heap.size, 1, none⟩ = some (.int .i64 q) := by rw [hW]; simp [go_sem]
  have lw : w.heap.size < W.heap.size := by rw [hW]; simp; omega
  have R : NoC W (w.heap.size + 1) := by rw [hW]; exact ⟨by simp [go_sem], by simp [go_sem], by simp [go_sem], by simp [go_sem], by simp [go_sem], fun o => by simp [go_sem]⟩
  have lR := R.lt
  have hB0 : Below W.heap.size W W.drew := (Below.refl _ _).drew
  have HK := hide (show ∀ w', Below W.heap.size W w' → (w'.cell? ⟨w.heap.size, 0, none⟩ = some (.int .i64 p) ∧ w'.cell? ⟨w.heap.size, 1, none⟩ = some (.int .i64 q)) from fun w' hB => ⟨(hB.cell (p := ⟨w.heap.size, 0, none⟩) lw).trans k0, (hB.cell (p := ⟨w.heap.size, 1, none⟩) lw).trans k1⟩)
  go_enter Try.func21, Try.ntmps21
  go_wp2
  rw [← hW]
  clear hW
  go_region_held3 (fun w' => w'.cell? ⟨w.heap.size, 0, none⟩ = some (.int .i64 p) ∧ w'.cell? ⟨w.heap.size, 1, none⟩ = some (.int .i64 q)) (first | exact unhide HK _ (by first | with_reducible exact hB0 | with_reducible exact hB3 | with_reducible exact hB2 | with_reducible exact hB1) | go_keep)
    (first
      | (go_at_call 62; have hq := hB1; refine (numOf_int q _ (by omega) (by omega)).mono ?_; rintro r w2 ⟨neg2, a2, n2, c2, rfl, hint2, hb2⟩; replace hint1 := hint1.below hb2; have hB2 := bthen hB1 hb2)
      | (go_at_call 62; refine (numOf_int p _ (by omega) (by omega)).mono ?_; rintro r w1 ⟨neg1, a1, n1, c1, rfl, hint1, hb1⟩; have hB1 := bthen hB0 hb1)
      | (go_at_call 78; refine (refRatio_core _ _ _ _ _ _ _ _ 4 4 b p q _ hint1 hint2 (by omega) (by omega) hb (by omega) (fun neg' a' n' cap' w' p1 p2 => floor_small neg' _ a' _ n' _ cap' _ _ 4 (p * Q b) q w' p1 p2 (by omega) (by omega) (by omega))).mono ?_; rintro r w3 ⟨s, rfl, hsb, hsp, hb3⟩; have HSB := hide hsb; clear hsb; have hB3 := bthen hB2 hb3; obtain ⟨q0, q1, q2, q3, q4, q5⟩ := R.below hB3; obtain ⟨i0, i1⟩ := unhide HK _ hB3))
  go_wp2
  refine bodyPost_ret (v := .agg #[.bool s.ln, .slice s.la s.lN s.lc, .bool s.hn, .slice s.ha s.hN s.hc, .int .i64 s.bits]) (by simp [results, Try.results21, go_sem, q0, q1, q2, q3, q4]) rfl ⟨s, rfl, unhide HSB, ?_, ?_⟩
  · exact SpAt.put5 (hsp.mono (by omega)) q0 q1 q2 q3 q4 _ _ _ _ _
  · exact set5 (bthen hBW hB3) (Nat.le_succ _) _ _ _ _ _

set_option maxRecDepth 100000 in
set_option maxHeartbeats 2000000 in
theorem wideTo_int (w : World) (s : Sp) (k : Nat) (bt lo hi : Int) (hs : SpAt w s k lo hi) (hk : k ≤ 300000000) (hb0 : 0 ≤ s.bits) (hbm : s.bits ≤ 1000000) (hc0 : 0 ≤ bt) (hcm : bt ≤ 1000000) :
    Calls Try.prog 74 #[.agg #[.bool s.ln, .slice s.la s.lN s.lc, .bool s.hn, .slice s.ha s.hN s.hc, .int .i64 s.bits], .int .i64 bt] w (SpanAns w bt (k + 62505) (downZ lo (s.bits - bt)) (-(downZ (-hi) (s.bits - bt)))) := by
  obtain ⟨W, hW⟩ : ∃ W, W = (w.alloc (.cells #[.bool s.ln, .slice s.la s.lN s.lc, .bool s.hn, .slice s.ha s.hN s.hc, .int .i64 s.bits] 26)).alloc (.cells #[.bool false, .slice none 0 0, .bool false, .slice none 0 0, .int .i64 0] 26) := ⟨_, rfl⟩
  have hBW : Below w.heap.size w W := by rw [hW]; exact bl2 _ _ _
  have A : SpC W w.heap.size s := by rw [hW]; exact ⟨by simp [go_sem], by simp [go_sem], by simp [go_sem], by simp [go_sem], by simp [go_sem]⟩
  have R : NoC W (w.heap.size + 1) := by rw [hW]; exact ⟨by simp [go_sem], by simp [go_sem], by simp [go_sem], by simp [go_sem], by simp [go_sem], fun o => by simp [go_sem]⟩
  have HS := hide (hs.below hBW)
  have lA := A.lt
  have lR := R.lt
  have hB0 : Below W.heap.size W W.drew := (Below.refl _ _).drew
  have HK := hide (show ∀ w', Below W.heap.size W w' → (w'.cell? ⟨w.heap.size, 0, none⟩ = some (.bool s.ln) ∧ w'.cell? ⟨w.heap.size, 1, none⟩ = some (.slice s.la s.lN s.lc) ∧ w'.cell? ⟨w.heap.size, 2, none⟩ = some (.bool s.hn) ∧ w'.cell? ⟨w.heap.size, 3, none⟩ = some (.slice s.ha s.hN s.hc)) from fun w' hB => by
    obtain ⟨x0, x1, x2, x3, x4⟩ := A.below hB
    exact ⟨x0, x1, x2, x3⟩)
  go_enter Try.func74, Try.ntmps74
  go_wp2
  obtain ⟨x0, x1, x2, x3, x4⟩ := A
  rw [← hW]
  clear hW
  go_region_held3 (fun w' => w'.cell? ⟨w.heap.size, 0, none⟩ = some (.bool s.ln) ∧ w'.cell? ⟨w.heap.size, 1, none⟩ = some (.slice s.la s.lN s.lc) ∧ w'.cell? ⟨w.heap.size, 2, none⟩ = some (.bool s.hn) ∧ w'.cell? ⟨w.heap.size, 3, none⟩ = some (.slice s.ha s.hN s.hc)) (first | exact unhide HK _ (by first | with_reducible exact hB0 | with_reducible exact hB2 | with_reducible exact hB1) | go_keep)
    (first
      | (go_at_call 79; refine (down_z _ _ _ _ k (s.bits - bt) lo _ ((unhide HS).lo.below hB0) (by omega) (by omega) (by omega)).mono ?_; rintro r w1 ⟨neg1, a1, n1, c1, rfl, hint1, hb1⟩; have hB1 := bthen hB0 hb1)
      | (go_at_call 125; refine (ceilDown_z _ _ _ _ k (s.bits - bt) hi _ ((unhide HS).hi.below hB1) (by omega) (by omega) (by omega)).mono ?_; rintro r w2 ⟨neg2, a2, n2, c2, rfl, hint2, hb2⟩; replace hint1 := hint1.below hb2; have hB2 := bthen hB1 hb2; obtain ⟨q0, q1, q2, q3, q4, q5⟩ := R.below hB2; obtain ⟨i0, i1, i2, i3⟩ := unhide HK _ hB2))
  go_wp2
  refine bodyPost_ret (v := .agg #[.bool neg1, .slice a1 n1 c1, .bool neg2, .slice a2 n2 c2, .int .i64 bt]) (by simp [results, Try.results74, go_sem, q0, q1, q2, q3, q4]) rfl ⟨⟨neg1, a1, n1, c1, neg2, a2, n2, c2, bt⟩, rfl, rfl, ?_, ?_⟩
  · exact SpAt.put5 ⟨hint1.mono (by omega), hint2.mono (by omega)⟩ q0 q1 q2 q3 q4 _ _ _ _ _
  · exact set5 (bthen hBW hB2) (Nat.le_succ _) _ _ _ _ _
end Go.Proofs.Ytibbhnmbmgllcaa
