/-
  That tailsurelaw.SpanOrders answers true of whatever spans and number, and leaves old memory alone.
-/
import Derived.Test.YtgmnknmjainabaaK08
namespace Go.Proofs.Ytgmnknmjainabaa
set_option linter.unusedVariables false
set_option linter.unusedSimpArgs false
set_option linter.unnecessarySimpa false
open Go.RowKit
attribute [local go_sem ↓] Go.wp_at_zero Go.wp_at_succ

/-- A contract of a callee, said of every world that holds the digits of both spans. -/
def Said2 (F : Nat) (args : Array Value) (s t : Sp) (d e d' e' : Nat → Int) (v : Value) : Prop :=
  ∀ W, SpDig W s d e → SpDig W t d' e' → Calls Try.prog F args W fun r w' => r = .returned v ∧ Below W.heap.size W w'

set_option maxRecDepth 100000 in
set_option maxHeartbeats 4000000 in
theorem ord_A_N1 (w : World) (s t : Sp) (d e d' e' : Nat → Int) (n : Int) (hs : SpDig w s d e) (ht : SpDig w t d' e') (E : Int) (hE : (E == 0) = false) (C : Int) (hC : (C == 0) = false)
    (HO : Said2 44 #[.agg #[.bool s.ln, .slice s.la s.lN s.lc, .bool s.hn, .slice s.ha s.hN s.hc, .int .i64 s.bits], .agg #[.bool t.ln, .slice t.la t.lN t.lc, .bool t.hn, .slice t.ha t.hN t.hc, .int .i64 t.bits]] s t d e d' e' (.tuple #[.int .i64 (0), .int .i64 E]))
    (HN : Said2 45 #[.agg #[.bool s.ln, .slice s.la s.lN s.lc, .bool s.hn, .slice s.ha s.hN s.hc, .int .i64 s.bits], .int .i64 n] s t d e d' e' (.tuple #[.bool false, .int .i64 C]))
    (HT : Said2 31 #[.agg #[.bool s.ln, .slice s.la s.lN s.lc, .bool s.hn, .slice s.ha s.hN s.hc, .int .i64 s.bits], .agg #[.bool t.ln, .slice t.la t.lN t.lc, .bool t.hn, .slice t.ha t.hN t.hc, .int .i64 t.bits]] s t d e d' e' (.int .i64 E))
    (HC : Said2 17 #[.agg #[.bool s.ln, .slice s.la s.lN s.lc, .bool s.hn, .slice s.ha s.hN s.hc, .int .i64 s.bits]] s t d e d' e' (.int .i64 C)) :
    Calls Try.prog 6 #[.agg #[.bool s.ln, .slice s.la s.lN s.lc, .bool s.hn, .slice s.ha s.hN s.hc, .int .i64 s.bits], .agg #[.bool t.ln, .slice t.la t.lN t.lc, .bool t.hn, .slice t.ha t.hN t.hc, .int .i64 t.bits], .int .i64 n] w fun r w' => r = .returned (.bool true) ∧ Below w.heap.size w w' := by
  obtain ⟨W, hW⟩ : ∃ W, W = (w.alloc (.cells #[.bool s.ln, .slice s.la s.lN s.lc, .bool s.hn, .slice s.ha s.hN s.hc, .int .i64 s.bits] 26)).alloc (.cells #[.bool t.ln, .slice t.la t.lN t.lc, .bool t.hn, .slice t.ha t.hN t.hc, .int .i64 t.bits] 26) := ⟨_, rfl⟩
  have hBW : Below w.heap.size w W := by rw [hW]; exact bl2 _ _ _
  have n0 : w.heap.size < W.heap.size := by rw [hW]; simp; omega
  have n1 : w.heap.size + 1 < W.heap.size := by rw [hW]; simp
  have k00 : W.cell? ⟨w.heap.size, 0, none⟩ = some (.bool s.ln) := by rw [hW]; simp [go_sem]
  have k01 : W.cell? ⟨w.heap.size, 1, none⟩ = some (.slice s.la s.lN s.lc) := by rw [hW]; simp [go_sem]
  have k02 : W.cell? ⟨w.heap.size, 2, none⟩ = some (.bool s.hn) := by rw [hW]; simp [go_sem]
  have k03 : W.cell? ⟨w.heap.size, 3, none⟩ = some (.slice s.ha s.hN s.hc) := by rw [hW]; simp [go_sem]
  have k04 : W.cell? ⟨w.heap.size, 4, none⟩ = some (.int .i64 s.bits) := by rw [hW]; simp [go_sem]
  have k10 : W.cell? ⟨w.heap.size + 1, 0, none⟩ = some (.bool t.ln) := by rw [hW]; simp [go_sem]
  have k11 : W.cell? ⟨w.heap.size + 1, 1, none⟩ = some (.slice t.la t.lN t.lc) := by rw [hW]; simp [go_sem]
  have k12 : W.cell? ⟨w.heap.size + 1, 2, none⟩ = some (.bool t.hn) := by rw [hW]; simp [go_sem]
  have k13 : W.cell? ⟨w.heap.size + 1, 3, none⟩ = some (.slice t.ha t.hN t.hc) := by rw [hW]; simp [go_sem]
  have k14 : W.cell? ⟨w.heap.size + 1, 4, none⟩ = some (.int .i64 t.bits) := by rw [hW]; simp [go_sem]
  have HK := hide (show ∀ w', Below W.heap.size W w' → (w'.cell? ⟨w.heap.size, 0, none⟩ = some (.bool s.ln) ∧ w'.cell? ⟨w.heap.size, 1, none⟩ = some (.slice s.la s.lN s.lc) ∧ w'.cell? ⟨w.heap.size, 2, none⟩ = some (.bool s.hn) ∧ w'.cell? ⟨w.heap.size, 3, none⟩ = some (.slice s.ha s.hN s.hc) ∧ w'.cell? ⟨w.heap.size, 4, none⟩ = some (.int .i64 s.bits) ∧ w'.cell? ⟨w.heap.size + 1, 0, none⟩ = some (.bool t.ln) ∧ w'.cell? ⟨w.heap.size + 1, 1, none⟩ = some (.slice t.la t.lN t.lc) ∧ w'.cell? ⟨w.heap.size + 1, 2, none⟩ = some (.bool t.hn) ∧ w'.cell? ⟨w.heap.size + 1, 3, none⟩ = some (.slice t.ha t.hN t.hc) ∧ w'.cell? ⟨w.heap.size + 1, 4, none⟩ = some (.int .i64 t.bits)) from fun w' hB => ⟨(hB.cell (p := ⟨w.heap.size, 0, none⟩) n0).trans k00, (hB.cell (p := ⟨w.heap.size, 1, none⟩) n0).trans k01, (hB.cell (p := ⟨w.heap.size, 2, none⟩) n0).trans k02, (hB.cell (p := ⟨w.heap.size, 3, none⟩) n0).trans k03, (hB.cell (p := ⟨w.heap.size, 4, none⟩) n0).trans k04, (hB.cell (p := ⟨w.heap.size + 1, 0, none⟩) n1).trans k10, (hB.cell (p := ⟨w.heap.size + 1, 1, none⟩) n1).trans k11, (hB.cell (p := ⟨w.heap.size + 1, 2, none⟩) n1).trans k12, (hB.cell (p := ⟨w.heap.size + 1, 3, none⟩) n1).trans k13, (hB.cell (p := ⟨w.heap.size + 1, 4, none⟩) n1).trans k14⟩)
  have hs1 := hide (hs.below hBW)
  have ht1 := hide (ht.below hBW)
  clear k00 k01 k02 k03 k04 k10 k11 k12 k13 k14 hs ht
  go_enter Try.func6, Try.ntmps6
  go_wp2_with fail
  rw [← hW]
  clear hW
  refine (HO W (unhide hs1) (unhide ht1)).mono ?_
  rintro r w1 ⟨rfl, hb1⟩
  have hB1 : Below W.heap.size W w1 := hb1
  obtain ⟨q0, q1, q2, q3, q4, q5, q6, q7, q8, q9⟩ := unhide HK w1 hB1
  go_wp2_with fail
  refine (HN w1 ((unhide hs1).below hB1) ((unhide ht1).below hB1)).mono ?_
  rintro r w2 ⟨rfl, hb2⟩
  have hB2 : Below W.heap.size W w2 := bthen hB1 hb2
  obtain ⟨q0, q1, q2, q3, q4, q5, q6, q7, q8, q9⟩ := unhide HK w2 hB2
  go_wp2_with fail
  go_region_held3 (fun w' => w'.cell? ⟨w.heap.size, 0, none⟩ = some (.bool s.ln) ∧ w'.cell? ⟨w.heap.size, 1, none⟩ = some (.slice s.la s.lN s.lc) ∧ w'.cell? ⟨w.heap.size, 2, none⟩ = some (.bool s.hn) ∧ w'.cell? ⟨w.heap.size, 3, none⟩ = some (.slice s.ha s.hN s.hc) ∧ w'.cell? ⟨w.heap.size, 4, none⟩ = some (.int .i64 s.bits) ∧ w'.cell? ⟨w.heap.size + 1, 0, none⟩ = some (.bool t.ln) ∧ w'.cell? ⟨w.heap.size + 1, 1, none⟩ = some (.slice t.la t.lN t.lc) ∧ w'.cell? ⟨w.heap.size + 1, 2, none⟩ = some (.bool t.hn) ∧ w'.cell? ⟨w.heap.size + 1, 3, none⟩ = some (.slice t.ha t.hN t.hc) ∧ w'.cell? ⟨w.heap.size + 1, 4, none⟩ = some (.int .i64 t.bits)) (exact unhide HK _ (by first | exact hB2.drew | exact hB3 | exact hB4))
    (first
      | (go_at_call 31; refine (HT _ ((unhide hs1).below hB2.drew) ((unhide ht1).below hB2.drew)).mono ?_; rintro r w3 ⟨rfl, hb3⟩; have hB3 : Below W.heap.size W w3 := bthen hB2.drew hb3)
      | (go_at_call 17; refine (HC _ ((unhide hs1).below hB3) ((unhide ht1).below hB3)).mono ?_; rintro r w4 ⟨rfl, hb4⟩; have hB4 : Below W.heap.size W w4 := bthen hB3 hb4))
  obtain ⟨q0, q1, q2, q3, q4, q5, q6, q7, q8, q9⟩ := unhide HK w4 hB4
  go_wp2_with fail
  refine (spanBegun_any _).mono ?_
  rintro r w5 ⟨rfl, hb5⟩
  have hB5 : Below W.heap.size W w5 := bthen hB4 hb5
  obtain ⟨q0, q1, q2, q3, q4, q5, q6, q7, q8, q9⟩ := unhide HK w5 hB5
  go_wp2_with fail
  go_ret
  exact ⟨by simp, bthen hBW hB5⟩

set_option maxRecDepth 100000 in
set_option maxHeartbeats 4000000 in
theorem ord_A_N2 (w : World) (s t : Sp) (d e d' e' : Nat → Int) (n : Int) (hs : SpDig w s d e) (ht : SpDig w t d' e') (E : Int) (hE : (E == 0) = false) (hn : n < 0)
    (HO : Said2 44 #[.agg #[.bool s.ln, .slice s.la s.lN s.lc, .bool s.hn, .slice s.ha s.hN s.hc, .int .i64 s.bits], .agg #[.bool t.ln, .slice t.la t.lN t.lc, .bool t.hn, .slice t.ha t.hN t.hc, .int .i64 t.bits]] s t d e d' e' (.tuple #[.int .i64 (0), .int .i64 E]))
    (HN : Said2 45 #[.agg #[.bool s.ln, .slice s.la s.lN s.lc, .bool s.hn, .slice s.ha s.hN s.hc, .int .i64 s.bits], .int .i64 n] s t d e d' e' (.tuple #[.bool false, .int .i64 3]))
    (HT : Said2 31 #[.agg #[.bool s.ln, .slice s.la s.lN s.lc, .bool s.hn, .slice s.ha s.hN s.hc, .int .i64 s.bits], .agg #[.bool t.ln, .slice t.la t.lN t.lc, .bool t.hn, .slice t.ha t.hN t.hc, .int .i64 t.bits]] s t d e d' e' (.int .i64 E))
    (HC : Said2 17 #[.agg #[.bool s.ln, .slice s.la s.lN s.lc, .bool s.hn, .slice s.ha s.hN s.hc, .int .i64 s.bits]] s t d e d' e' (.int .i64 0)) :
    Calls Try.prog 6 #[.agg #[.bool s.ln, .slice s.la s.lN s.lc, .bool s.hn, .slice s.ha s.hN s.hc, .int .i64 s.bits], .agg #[.bool t.ln, .slice t.la t.lN t.lc, .bool t.hn, .slice t.ha t.hN t.hc, .int .i64 t.bits], .int .i64 n] w fun r w' => r = .returned (.bool true) ∧ Below w.heap.size w w' := by
  obtain ⟨W, hW⟩ : ∃ W, W = (w.alloc (.cells #[.bool s.ln, .slice s.la s.lN s.lc, .bool s.hn, .slice s.ha s.hN s.hc, .int .i64 s.bits] 26)).alloc (.cells #[.bool t.ln, .slice t.la t.lN t.lc, .bool t.hn, .slice t.ha t.hN t.hc, .int .i64 t.bits] 26) := ⟨_, rfl⟩
  have hBW : Below w.heap.size w W := by rw [hW]; exact bl2 _ _ _
  have n0 : w.heap.size < W.heap.size := by rw [hW]; simp; omega
  have n1 : w.heap.size + 1 < W.heap.size := by rw [hW]; simp
  have k00 : W.cell? ⟨w.heap.size, 0, none⟩ = some (.bool s.ln) := by rw [hW]; simp [go_sem]
  have k01 : W.cell? ⟨w.heap.size, 1, none⟩ = some (.slice s.la s.lN s.lc) := by rw [hW]; simp [go_sem]
  have k02 : W.cell? ⟨w.heap.size, 2, none⟩ = some (.bool s.hn) := by rw [hW]; simp [go_sem]
  have k03 : W.cell? ⟨w.heap.size, 3, none⟩ = some (.slice s.ha s.hN s.hc) := by rw [hW]; simp [go_sem]
  have k04 : W.cell? ⟨w.heap.size, 4, none⟩ = some (.int .i64 s.bits) := by rw [hW]; simp [go_sem]
  have k10 : W.cell? ⟨w.heap.size + 1, 0, none⟩ = some (.bool t.ln) := by rw [hW]; simp [go_sem]
  have k11 : W.cell? ⟨w.heap.size + 1, 1, none⟩ = some (.slice t.la t.lN t.lc) := by rw [hW]; simp [go_sem]
  have k12 : W.cell? ⟨w.heap.size + 1, 2, none⟩ = some (.bool t.hn) := by rw [hW]; simp [go_sem]
  have k13 : W.cell? ⟨w.heap.size + 1, 3, none⟩ = some (.slice t.ha t.hN t.hc) := by rw [hW]; simp [go_sem]
  have k14 : W.cell? ⟨w.heap.size + 1, 4, none⟩ = some (.int .i64 t.bits) := by rw [hW]; simp [go_sem]
  have HK := hide (show ∀ w', Below W.heap.size W w' → (w'.cell? ⟨w.heap.size, 0, none⟩ = some (.bool s.ln) ∧ w'.cell? ⟨w.heap.size, 1, none⟩ = some (.slice s.la s.lN s.lc) ∧ w'.cell? ⟨w.heap.size, 2, none⟩ = some (.bool s.hn) ∧ w'.cell? ⟨w.heap.size, 3, none⟩ = some (.slice s.ha s.hN s.hc) ∧ w'.cell? ⟨w.heap.size, 4, none⟩ = some (.int .i64 s.bits) ∧ w'.cell? ⟨w.heap.size + 1, 0, none⟩ = some (.bool t.ln) ∧ w'.cell? ⟨w.heap.size + 1, 1, none⟩ = some (.slice t.la t.lN t.lc) ∧ w'.cell? ⟨w.heap.size + 1, 2, none⟩ = some (.bool t.hn) ∧ w'.cell? ⟨w.heap.size + 1, 3, none⟩ = some (.slice t.ha t.hN t.hc) ∧ w'.cell? ⟨w.heap.size + 1, 4, none⟩ = some (.int .i64 t.bits)) from fun w' hB => ⟨(hB.cell (p := ⟨w.heap.size, 0, none⟩) n0).trans k00, (hB.cell (p := ⟨w.heap.size, 1, none⟩) n0).trans k01, (hB.cell (p := ⟨w.heap.size, 2, none⟩) n0).trans k02, (hB.cell (p := ⟨w.heap.size, 3, none⟩) n0).trans k03, (hB.cell (p := ⟨w.heap.size, 4, none⟩) n0).trans k04, (hB.cell (p := ⟨w.heap.size + 1, 0, none⟩) n1).trans k10, (hB.cell (p := ⟨w.heap.size + 1, 1, none⟩) n1).trans k11, (hB.cell (p := ⟨w.heap.size + 1, 2, none⟩) n1).trans k12, (hB.cell (p := ⟨w.heap.size + 1, 3, none⟩) n1).trans k13, (hB.cell (p := ⟨w.heap.size + 1, 4, none⟩) n1).trans k14⟩)
  have hs1 := hide (hs.below hBW)
  have ht1 := hide (ht.below hBW)
  clear k00 k01 k02 k03 k04 k10 k11 k12 k13 k14 hs ht
  go_enter Try.func6, Try.ntmps6
  go_wp2_with fail
  rw [← hW]
  clear hW
  refine (HO W (unhide hs1) (unhide ht1)).mono ?_
  rintro r w1 ⟨rfl, hb1⟩
  have hB1 : Below W.heap.size W w1 := hb1
  obtain ⟨q0, q1, q2, q3, q4, q5, q6, q7, q8, q9⟩ := unhide HK w1 hB1
  go_wp2_with fail
  refine (HN w1 ((unhide hs1).below hB1) ((unhide ht1).below hB1)).mono ?_
  rintro r w2 ⟨rfl, hb2⟩
  have hB2 : Below W.heap.size W w2 := bthen hB1 hb2
  obtain ⟨q0, q1, q2, q3, q4, q5, q6, q7, q8, q9⟩ := unhide HK w2 hB2
  go_wp2_with fail
  go_region_held3 (fun w' => w'.cell? ⟨w.heap.size, 0, none⟩ = some (.bool s.ln) ∧ w'.cell? ⟨w.heap.size, 1, none⟩ = some (.slice s.la s.lN s.lc) ∧ w'.cell? ⟨w.heap.size, 2, none⟩ = some (.bool s.hn) ∧ w'.cell? ⟨w.heap.size, 3, none⟩ = some (.slice s.ha s.hN s.hc) ∧ w'.cell? ⟨w.heap.size, 4, none⟩ = some (.int .i64 s.bits) ∧ w'.cell? ⟨w.heap.size + 1, 0, none⟩ = some (.bool t.ln) ∧ w'.cell? ⟨w.heap.size + 1, 1, none⟩ = some (.slice t.la t.lN t.lc) ∧ w'.cell? ⟨w.heap.size + 1, 2, none⟩ = some (.bool t.hn) ∧ w'.cell? ⟨w.heap.size + 1, 3, none⟩ = some (.slice t.ha t.hN t.hc) ∧ w'.cell? ⟨w.heap.size + 1, 4, none⟩ = some (.int .i64 t.bits)) (exact unhide HK _ (by first | exact hB2.drew | exact hB3 | exact hB4))
    (first
      | (go_at_call 31; refine (HT _ ((unhide hs1).below hB2.drew) ((unhide ht1).below hB2.drew)).mono ?_; rintro r w3 ⟨rfl, hb3⟩; have hB3 : Below W.heap.size W w3 := bthen hB2.drew hb3)
      | (go_at_call 17; refine (HC _ ((unhide hs1).below hB3) ((unhide ht1).below hB3)).mono ?_; rintro r w4 ⟨rfl, hb4⟩; have hB4 : Below W.heap.size W w4 := bthen hB3 hb4))
  obtain ⟨q0, q1, q2, q3, q4, q5, q6, q7, q8, q9⟩ := unhide HK w4 hB4
  go_wp2_with fail
  refine (spanBegun_any _).mono ?_
  rintro r w5 ⟨rfl, hb5⟩
  have hB5 : Below W.heap.size W w5 := bthen hB4 hb5
  obtain ⟨q0, q1, q2, q3, q4, q5, q6, q7, q8, q9⟩ := unhide HK w5 hB5
  go_wp2_with fail
  go_ret
  exact ⟨by simp, bthen hBW hB5⟩

set_option maxRecDepth 100000 in
set_option maxHeartbeats 4000000 in
theorem ord_A_N3 (w : World) (s t : Sp) (d e d' e' : Nat → Int) (n : Int) (hs : SpDig w s d e) (ht : SpDig w t d' e') (E : Int) (hE : (E == 0) = false) (hn0 : ¬ n < 0) (hn : 1000000 < n)
    (HO : Said2 44 #[.agg #[.bool s.ln, .slice s.la s.lN s.lc, .bool s.hn, .slice s.ha s.hN s.hc, .int .i64 s.bits], .agg #[.bool t.ln, .slice t.la t.lN t.lc, .bool t.hn, .slice t.ha t.hN t.hc, .int .i64 t.bits]] s t d e d' e' (.tuple #[.int .i64 (0), .int .i64 E]))
    (HN : Said2 45 #[.agg #[.bool s.ln, .slice s.la s.lN s.lc, .bool s.hn, .slice s.ha s.hN s.hc, .int .i64 s.bits], .int .i64 n] s t d e d' e' (.tuple #[.bool false, .int .i64 3]))
    (HT : Said2 31 #[.agg #[.bool s.ln, .slice s.la s.lN s.lc, .bool s.hn, .slice s.ha s.hN s.hc, .int .i64 s.bits], .agg #[.bool t.ln, .slice t.la t.lN t.lc, .bool t.hn, .slice t.ha t.hN t.hc, .int .i64 t.bits]] s t d e d' e' (.int .i64 E))
    (HC : Said2 17 #[.agg #[.bool s.ln, .slice s.la s.lN s.lc, .bool s.hn, .slice s.ha s.hN s.hc, .int .i64 s.bits]] s t d e d' e' (.int .i64 0)) :
    Calls Try.prog 6 #[.agg #[.bool s.ln, .slice s.la s.lN s.lc, .bool s.hn, .slice s.ha s.hN s.hc, .int .i64 s.bits], .agg #[.bool t.ln, .slice t.la t.lN t.lc, .bool t.hn, .slice t.ha t.hN t.hc, .int .i64 t.bits], .int .i64 n] w fun r w' => r = .returned (.bool true) ∧ Below w.heap.size w w' := by
  obtain ⟨W, hW⟩ : ∃ W, W = (w.alloc (.cells #[.bool s.ln, .slice s.la s.lN s.lc, .bool s.hn, .slice s.ha s.hN s.hc, .int .i64 s.bits] 26)).alloc (.cells #[.bool t.ln, .slice t.la t.lN t.lc, .bool t.hn, .slice t.ha t.hN t.hc, .int .i64 t.bits] 26) := ⟨_, rfl⟩
  have hBW : Below w.heap.size w W := by rw [hW]; exact bl2 _ _ _
  have n0 : w.heap.size < W.heap.size := by rw [hW]; simp; omega
  have n1 : w.heap.size + 1 < W.heap.size := by rw [hW]; simp
  have k00 : W.cell? ⟨w.heap.size, 0, none⟩ = some (.bool s.ln) := by rw [hW]; simp [go_sem]
  have k01 : W.cell? ⟨w.heap.size, 1, none⟩ = some (.slice s.la s.lN s.lc) := by rw [hW]; simp [go_sem]
  have k02 : W.cell? ⟨w.heap.size, 2, none⟩ = some (.bool s.hn) := by rw [hW]; simp [go_sem]
  have k03 : W.cell? ⟨w.heap.size, 3, none⟩ = some (.slice s.ha s.hN s.hc) := by rw [hW]; simp [go_sem]
  have k04 : W.cell? ⟨w.heap.size, 4, none⟩ = some (.int .i64 s.bits) := by rw [hW]; simp [go_sem]
  have k10 : W.cell? ⟨w.heap.size + 1, 0, none⟩ = some (.bool t.ln) := by rw [hW]; simp [go_sem]
  have k11 : W.cell? ⟨w.heap.size + 1, 1, none⟩ = some (.slice t.la t.lN t.lc) := by rw [hW]; simp [go_sem]
  have k12 : W.cell? ⟨w.heap.size + 1, 2, none⟩ = some (.bool t.hn) := by rw [hW]; simp [go_sem]
  have k13 : W.cell? ⟨w.heap.size + 1, 3, none⟩ = some (.slice t.ha t.hN t.hc) := by rw [hW]; simp [go_sem]
  have k14 : W.cell? ⟨w.heap.size + 1, 4, none⟩ = some (.int .i64 t.bits) := by rw [hW]; simp [go_sem]
  have HK := hide (show ∀ w', Below W.heap.size W w' → (w'.cell? ⟨w.heap.size, 0, none⟩ = some (.bool s.ln) ∧ w'.cell? ⟨w.heap.size, 1, none⟩ = some (.slice s.la s.lN s.lc) ∧ w'.cell? ⟨w.heap.size, 2, none⟩ = some (.bool s.hn) ∧ w'.cell? ⟨w.heap.size, 3, none⟩ = some (.slice s.ha s.hN s.hc) ∧ w'.cell? ⟨w.heap.size, 4, none⟩ = some (.int .i64 s.bits) ∧ w'.cell? ⟨w.heap.size + 1, 0, none⟩ = some (.bool t.ln) ∧ w'.cell? ⟨w.heap.size + 1, 1, none⟩ = some (.slice t.la t.lN t.lc) ∧ w'.cell? ⟨w.heap.size + 1, 2, none⟩ = some (.bool t.hn) ∧ w'.cell? ⟨w.heap.size + 1, 3, none⟩ = some (.slice t.ha t.hN t.hc) ∧ w'.cell? ⟨w.heap.size + 1, 4, none⟩ = some (.int .i64 t.bits)) from fun w' hB => ⟨(hB.cell (p := ⟨w.heap.size, 0, none⟩) n0).trans k00, (hB.cell (p := ⟨w.heap.size, 1, none⟩) n0).trans k01, (hB.cell (p := ⟨w.heap.size, 2, none⟩) n0).trans k02, (hB.cell (p := ⟨w.heap.size, 3, none⟩) n0).trans k03, (hB.cell (p := ⟨w.heap.size, 4, none⟩) n0).trans k04, (hB.cell (p := ⟨w.heap.size + 1, 0, none⟩) n1).trans k10, (hB.cell (p := ⟨w.heap.size + 1, 1, none⟩) n1).trans k11, (hB.cell (p := ⟨w.heap.size + 1, 2, none⟩) n1).trans k12, (hB.cell (p := ⟨w.heap.size + 1, 3, none⟩) n1).trans k13, (hB.cell (p := ⟨w.heap.size + 1, 4, none⟩) n1).trans k14⟩)
  have hs1 := hide (hs.below hBW)
  have ht1 := hide (ht.below hBW)
  clear k00 k01 k02 k03 k04 k10 k11 k12 k13 k14 hs ht
  go_enter Try.func6, Try.ntmps6
  go_wp2_with fail
  rw [← hW]
  clear hW
  refine (HO W (unhide hs1) (unhide ht1)).mono ?_
  rintro r w1 ⟨rfl, hb1⟩
  have hB1 : Below W.heap.size W w1 := hb1
  obtain ⟨q0, q1, q2, q3, q4, q5, q6, q7, q8, q9⟩ := unhide HK w1 hB1
  go_wp2_with fail
  refine (HN w1 ((unhide hs1).below hB1) ((unhide ht1).below hB1)).mono ?_
  rintro r w2 ⟨rfl, hb2⟩
  have hB2 : Below W.heap.size W w2 := bthen hB1 hb2
  obtain ⟨q0, q1, q2, q3, q4, q5, q6, q7, q8, q9⟩ := unhide HK w2 hB2
  go_wp2_with fail
  go_region_held3 (fun w' => w'.cell? ⟨w.heap.size, 0, none⟩ = some (.bool s.ln) ∧ w'.cell? ⟨w.heap.size, 1, none⟩ = some (.slice s.la s.lN s.lc) ∧ w'.cell? ⟨w.heap.size, 2, none⟩ = some (.bool s.hn) ∧ w'.cell? ⟨w.heap.size, 3, none⟩ = some (.slice s.ha s.hN s.hc) ∧ w'.cell? ⟨w.heap.size, 4, none⟩ = some (.int .i64 s.bits) ∧ w'.cell? ⟨w.heap.size + 1, 0, none⟩ = some (.bool t.ln) ∧ w'.cell? ⟨w.heap.size + 1, 1, none⟩ = some (.slice t.la t.lN t.lc) ∧ w'.cell? ⟨w.heap.size + 1, 2, none⟩ = some (.bool t.hn) ∧ w'.cell? ⟨w.heap.size + 1, 3, none⟩ = some (.slice t.ha t.hN t.hc) ∧ w'.cell? ⟨w.heap.size + 1, 4, none⟩ = some (.int .i64 t.bits)) (exact unhide HK _ (by first | exact hB2.drew | exact hB3 | exact hB4))
    (first
      | (go_at_call 31; refine (HT _ ((unhide hs1).below hB2.drew) ((unhide ht1).below hB2.drew)).mono ?_; rintro r w3 ⟨rfl, hb3⟩; have hB3 : Below W.heap.size W w3 := bthen hB2.drew hb3)
      | (go_at_call 17; refine (HC _ ((unhide hs1).below hB3) ((unhide ht1).below hB3)).mono ?_; rintro r w4 ⟨rfl, hb4⟩; have hB4 : Below W.heap.size W w4 := bthen hB3 hb4))
  obtain ⟨q0, q1, q2, q3, q4, q5, q6, q7, q8, q9⟩ := unhide HK w4 hB4
  go_wp2_with fail
  refine (spanBegun_any _).mono ?_
  rintro r w5 ⟨rfl, hb5⟩
  have hB5 : Below W.heap.size W w5 := bthen hB4 hb5
  obtain ⟨q0, q1, q2, q3, q4, q5, q6, q7, q8, q9⟩ := unhide HK w5 hB5
  go_wp2_with fail
  go_ret
  exact ⟨by simp, bthen hBW hB5⟩

set_option maxRecDepth 100000 in
set_option maxHeartbeats 4000000 in
theorem ord_A_N4 (w : World) (s t : Sp) (d e d' e' : Nat → Int) (n : Int) (hs : SpDig w s d e) (ht : SpDig w t d' e') (E : Int) (hE : (E == 0) = false) (hn0 : ¬ n < 0) (hn : ¬ 1000000 < n) (b : Bool)
    (HO : Said2 44 #[.agg #[.bool s.ln, .slice s.la s.lN s.lc, .bool s.hn, .slice s.ha s.hN s.hc, .int .i64 s.bits], .agg #[.bool t.ln, .slice t.la t.lN t.lc, .bool t.hn, .slice t.ha t.hN t.hc, .int .i64 t.bits]] s t d e d' e' (.tuple #[.int .i64 (0), .int .i64 E]))
    (HN : Said2 45 #[.agg #[.bool s.ln, .slice s.la s.lN s.lc, .bool s.hn, .slice s.ha s.hN s.hc, .int .i64 s.bits], .int .i64 n] s t d e d' e' (.tuple #[.bool b, .int .i64 0]))
    (HT : Said2 31 #[.agg #[.bool s.ln, .slice s.la s.lN s.lc, .bool s.hn, .slice s.ha s.hN s.hc, .int .i64 s.bits], .agg #[.bool t.ln, .slice t.la t.lN t.lc, .bool t.hn, .slice t.ha t.hN t.hc, .int .i64 t.bits]] s t d e d' e' (.int .i64 E))
    (HC : Said2 17 #[.agg #[.bool s.ln, .slice s.la s.lN s.lc, .bool s.hn, .slice s.ha s.hN s.hc, .int .i64 s.bits]] s t d e d' e' (.int .i64 0))
    (HB : Said2 46 #[.agg #[.bool s.ln, .slice s.la s.lN s.lc, .bool s.hn, .slice s.ha s.hN s.hc, .int .i64 s.bits], .int .i64 n] s t d e d' e' (.bool b)) :
    Calls Try.prog 6 #[.agg #[.bool s.ln, .slice s.la s.lN s.lc, .bool s.hn, .slice s.ha s.hN s.hc, .int .i64 s.bits], .agg #[.bool t.ln, .slice t.la t.lN t.lc, .bool t.hn, .slice t.ha t.hN t.hc, .int .i64 t.bits], .int .i64 n] w fun r w' => r = .returned (.bool true) ∧ Below w.heap.size w w' := by
  obtain ⟨W, hW⟩ : ∃ W, W = (w.alloc (.cells #[.bool s.ln, .slice s.la s.lN s.lc, .bool s.hn, .slice s.ha s.hN s.hc, .int .i64 s.bits] 26)).alloc (.cells #[.bool t.ln, .slice t.la t.lN t.lc, .bool t.hn, .slice t.ha t.hN t.hc, .int .i64 t.bits] 26) := ⟨_, rfl⟩
  have hBW : Below w.heap.size w W := by rw [hW]; exact bl2 _ _ _
  have n0 : w.heap.size < W.heap.size := by rw [hW]; simp; omega
  have n1 : w.heap.size + 1 < W.heap.size := by rw [hW]; simp
  have k00 : W.cell? ⟨w.heap.size, 0, none⟩ = some (.bool s.ln) := by rw [hW]; simp [go_sem]
  have k01 : W.cell? ⟨w.heap.size, 1, none⟩ = some (.slice s.la s.lN s.lc) := by rw [hW]; simp [go_sem]
  have k02 : W.cell? ⟨w.heap.size, 2, none⟩ = some (.bool s.hn) := by rw [hW]; simp [go_sem]
  have k03 : W.cell? ⟨w.heap.size, 3, none⟩ = some (.slice s.ha s.hN s.hc) := by rw [hW]; simp [go_sem]
  have k04 : W.cell? ⟨w.heap.size, 4, none⟩ = some (.int .i64 s.bits) := by rw [hW]; simp [go_sem]
  have k10 : W.cell? ⟨w.heap.size + 1, 0, none⟩ = some (.bool t.ln) := by rw [hW]; simp [go_sem]
  have k11 : W.cell? ⟨w.heap.size + 1, 1, none⟩ = some (.slice t.la t.lN t.lc) := by rw [hW]; simp [go_sem]
  have k12 : W.cell? ⟨w.heap.size + 1, 2, none⟩ = some (.bool t.hn) := by rw [hW]; simp [go_sem]
  have k13 : W.cell? ⟨w.heap.size + 1, 3, none⟩ = some (.slice t.ha t.hN t.hc) := by rw [hW]; simp [go_sem]
  have k14 : W.cell? ⟨w.heap.size + 1, 4, none⟩ = some (.int .i64 t.bits) := by rw [hW]; simp [go_sem]
  have HK := hide (show ∀ w', Below W.heap.size W w' → (w'.cell? ⟨w.heap.size, 0, none⟩ = some (.bool s.ln) ∧ w'.cell? ⟨w.heap.size, 1, none⟩ = some (.slice s.la s.lN s.lc) ∧ w'.cell? ⟨w.heap.size, 2, none⟩ = some (.bool s.hn) ∧ w'.cell? ⟨w.heap.size, 3, none⟩ = some (.slice s.ha s.hN s.hc) ∧ w'.cell? ⟨w.heap.size, 4, none⟩ = some (.int .i64 s.bits) ∧ w'.cell? ⟨w.heap.size + 1, 0, none⟩ = some (.bool t.ln) ∧ w'.cell? ⟨w.heap.size + 1, 1, none⟩ = some (.slice t.la t.lN t.lc) ∧ w'.cell? ⟨w.heap.size + 1, 2, none⟩ = some (.bool t.hn) ∧ w'.cell? ⟨w.heap.size + 1, 3, none⟩ = some (.slice t.ha t.hN t.hc) ∧ w'.cell? ⟨w.heap.size + 1, 4, none⟩ = some (.int .i64 t.bits)) from fun w' hB => ⟨(hB.cell (p := ⟨w.heap.size, 0, none⟩) n0).trans k00, (hB.cell (p := ⟨w.heap.size, 1, none⟩) n0).trans k01, (hB.cell (p := ⟨w.heap.size, 2, none⟩) n0).trans k02, (hB.cell (p := ⟨w.heap.size, 3, none⟩) n0).trans k03, (hB.cell (p := ⟨w.heap.size, 4, none⟩) n0).trans k04, (hB.cell (p := ⟨w.heap.size + 1, 0, none⟩) n1).trans k10, (hB.cell (p := ⟨w.heap.size + 1, 1, none⟩) n1).trans k11, (hB.cell (p := ⟨w.heap.size + 1, 2, none⟩) n1).trans k12, (hB.cell (p := ⟨w.heap.size + 1, 3, none⟩) n1).trans k13, (hB.cell (p := ⟨w.heap.size + 1, 4, none⟩) n1).trans k14⟩)
  have hs1 := hide (hs.below hBW)
  have ht1 := hide (ht.below hBW)
  clear k00 k01 k02 k03 k04 k10 k11 k12 k13 k14 hs ht
  go_enter Try.func6, Try.ntmps6
  go_wp2_with fail
  rw [← hW]
  clear hW
  refine (HO W (unhide hs1) (unhide ht1)).mono ?_
  rintro r w1 ⟨rfl, hb1⟩
  have hB1 : Below W.heap.size W w1 := hb1
  obtain ⟨q0, q1, q2, q3, q4, q5, q6, q7, q8, q9⟩ := unhide HK w1 hB1
  go_wp2_with fail
  refine (HN w1 ((unhide hs1).below hB1) ((unhide ht1).below hB1)).mono ?_
  rintro r w2 ⟨rfl, hb2⟩
  have hB2 : Below W.heap.size W w2 := bthen hB1 hb2
  obtain ⟨q0, q1, q2, q3, q4, q5, q6, q7, q8, q9⟩ := unhide HK w2 hB2
  go_wp2_with fail
  go_region_held3 (fun w' => w'.cell? ⟨w.heap.size, 0, none⟩ = some (.bool s.ln) ∧ w'.cell? ⟨w.heap.size, 1, none⟩ = some (.slice s.la s.lN s.lc) ∧ w'.cell? ⟨w.heap.size, 2, none⟩ = some (.bool s.hn) ∧ w'.cell? ⟨w.heap.size, 3, none⟩ = some (.slice s.ha s.hN s.hc) ∧ w'.cell? ⟨w.heap.size, 4, none⟩ = some (.int .i64 s.bits) ∧ w'.cell? ⟨w.heap.size + 1, 0, none⟩ = some (.bool t.ln) ∧ w'.cell? ⟨w.heap.size + 1, 1, none⟩ = some (.slice t.la t.lN t.lc) ∧ w'.cell? ⟨w.heap.size + 1, 2, none⟩ = some (.bool t.hn) ∧ w'.cell? ⟨w.heap.size + 1, 3, none⟩ = some (.slice t.ha t.hN t.hc) ∧ w'.cell? ⟨w.heap.size + 1, 4, none⟩ = some (.int .i64 t.bits)) (exact unhide HK _ (by first | exact hB2.drew | exact hB3 | exact hB4))
    (first
      | (go_at_call 31; refine (HT _ ((unhide hs1).below hB2.drew) ((unhide ht1).below hB2.drew)).mono ?_; rintro r w3 ⟨rfl, hb3⟩; have hB3 : Below W.heap.size W w3 := bthen hB2.drew hb3)
      | (go_at_call 17; refine (HC _ ((unhide hs1).below hB3) ((unhide ht1).below hB3)).mono ?_; rintro r w4 ⟨rfl, hb4⟩; have hB4 : Below W.heap.size W w4 := bthen hB3 hb4))
  obtain ⟨q0, q1, q2, q3, q4, q5, q6, q7, q8, q9⟩ := unhide HK w4 hB4
  go_wp2_with fail
  refine (HB _ ((unhide hs1).below hB4) ((unhide ht1).below hB4)).mono ?_
  rintro r w5 ⟨rfl, hb5⟩
  have hB5 : Below W.heap.size W w5 := bthen hB4 hb5
  obtain ⟨q0, q1, q2, q3, q4, q5, q6, q7, q8, q9⟩ := unhide HK w5 hB5
  go_wp2_with fail
  refine (spanBegun_any _).mono ?_
  rintro r w6 ⟨rfl, hb6⟩
  have hB6 : Below W.heap.size W w6 := bthen hB5 hb6
  obtain ⟨q0, q1, q2, q3, q4, q5, q6, q7, q8, q9⟩ := unhide HK w6 hB6
  go_wp2_with fail
  go_ret
  exact ⟨by simp, bthen hBW hB6⟩

set_option maxRecDepth 100000 in
set_option maxHeartbeats 4000000 in
theorem ord_B1_N2 (w : World) (s t : Sp) (d e d' e' : Nat → Int) (n : Int) (hs : SpDig w s d e) (ht : SpDig w t d' e') (hn : n < 0) (hc1 : cmpI s.hn t.ln e d' s.hN t.lN < 0) (hc2 : ¬ 0 < cmpI s.ln t.hn d e' s.lN t.hN)
    (HO : Said2 44 #[.agg #[.bool s.ln, .slice s.la s.lN s.lc, .bool s.hn, .slice s.ha s.hN s.hc, .int .i64 s.bits], .agg #[.bool t.ln, .slice t.la t.lN t.lc, .bool t.hn, .slice t.ha t.hN t.hc, .int .i64 t.bits]] s t d e d' e' (.tuple #[.int .i64 (-1), .int .i64 0]))
    (HN : Said2 45 #[.agg #[.bool s.ln, .slice s.la s.lN s.lc, .bool s.hn, .slice s.ha s.hN s.hc, .int .i64 s.bits], .int .i64 n] s t d e d' e' (.tuple #[.bool false, .int .i64 3]))
    (HT : Said2 31 #[.agg #[.bool s.ln, .slice s.la s.lN s.lc, .bool s.hn, .slice s.ha s.hN s.hc, .int .i64 s.bits], .agg #[.bool t.ln, .slice t.la t.lN t.lc, .bool t.hn, .slice t.ha t.hN t.hc, .int .i64 t.bits]] s t d e d' e' (.int .i64 0))
    (HC : Said2 17 #[.agg #[.bool s.ln, .slice s.la s.lN s.lc, .bool s.hn, .slice s.ha s.hN s.hc, .int .i64 s.bits]] s t d e d' e' (.int .i64 0)) :
    Calls Try.prog 6 #[.agg #[.bool s.ln, .slice s.la s.lN s.lc, .bool s.hn, .slice s.ha s.hN s.hc, .int .i64 s.bits], .agg #[.bool t.ln, .slice t.la t.lN t.lc, .bool t.hn, .slice t.ha t.hN t.hc, .int .i64 t.bits], .int .i64 n] w fun r w' => r = .returned (.bool true) ∧ Below w.heap.size w w' := by
  obtain ⟨W, hW⟩ : ∃ W, W = (w.alloc (.cells #[.bool s.ln, .slice s.la s.lN s.lc, .bool s.hn, .slice s.ha s.hN s.hc, .int .i64 s.bits] 26)).alloc (.cells #[.bool t.ln, .slice t.la t.lN t.lc, .bool t.hn, .slice t.ha t.hN t.hc, .int .i64 t.bits] 26) := ⟨_, rfl⟩
  have hBW : Below w.heap.size w W := by rw [hW]; exact bl2 _ _ _
  have n0 : w.heap.size < W.heap.size := by rw [hW]; simp; omega
  have n1 : w.heap.size + 1 < W.heap.size := by rw [hW]; simp
  have k00 : W.cell? ⟨w.heap.size, 0, none⟩ = some (.bool s.ln) := by rw [hW]; simp [go_sem]
  have k01 : W.cell? ⟨w.heap.size, 1, none⟩ = some (.slice s.la s.lN s.lc) := by rw [hW]; simp [go_sem]
  have k02 : W.cell? ⟨w.heap.size, 2, none⟩ = some (.bool s.hn) := by rw [hW]; simp [go_sem]
  have k03 : W.cell? ⟨w.heap.size, 3, none⟩ = some (.slice s.ha s.hN s.hc) := by rw [hW]; simp [go_sem]
  have k04 : W.cell? ⟨w.heap.size, 4, none⟩ = some (.int .i64 s.bits) := by rw [hW]; simp [go_sem]
  have k10 : W.cell? ⟨w.heap.size + 1, 0, none⟩ = some (.bool t.ln) := by rw [hW]; simp [go_sem]
  have k11 : W.cell? ⟨w.heap.size + 1, 1, none⟩ = some (.slice t.la t.lN t.lc) := by rw [hW]; simp [go_sem]
  have k12 : W.cell? ⟨w.heap.size + 1, 2, none⟩ = some (.bool t.hn) := by rw [hW]; simp [go_sem]
  have k13 : W.cell? ⟨w.heap.size + 1, 3, none⟩ = some (.slice t.ha t.hN t.hc) := by rw [hW]; simp [go_sem]
  have k14 : W.cell? ⟨w.heap.size + 1, 4, none⟩ = some (.int .i64 t.bits) := by rw [hW]; simp [go_sem]
  have HK := hide (show ∀ w', Below W.heap.size W w' → (w'.cell? ⟨w.heap.size, 0, none⟩ = some (.bool s.ln) ∧ w'.cell? ⟨w.heap.size, 1, none⟩ = some (.slice s.la s.lN s.lc) ∧ w'.cell? ⟨w.heap.size, 2, none⟩ = some (.bool s.hn) ∧ w'.cell? ⟨w.heap.size, 3, none⟩ = some (.slice s.ha s.hN s.hc) ∧ w'.cell? ⟨w.heap.size, 4, none⟩ = some (.int .i64 s.bits) ∧ w'.cell? ⟨w.heap.size + 1, 0, none⟩ = some (.bool t.ln) ∧ w'.cell? ⟨w.heap.size + 1, 1, none⟩ = some (.slice t.la t.lN t.lc) ∧ w'.cell? ⟨w.heap.size + 1, 2, none⟩ = some (.bool t.hn) ∧ w'.cell? ⟨w.heap.size + 1, 3, none⟩ = some (.slice t.ha t.hN t.hc) ∧ w'.cell? ⟨w.heap.size + 1, 4, none⟩ = some (.int .i64 t.bits)) from fun w' hB => ⟨(hB.cell (p := ⟨w.heap.size, 0, none⟩) n0).trans k00, (hB.cell (p := ⟨w.heap.size, 1, none⟩) n0).trans k01, (hB.cell (p := ⟨w.heap.size, 2, none⟩) n0).trans k02, (hB.cell (p := ⟨w.heap.size, 3, none⟩) n0).trans k03, (hB.cell (p := ⟨w.heap.size, 4, none⟩) n0).trans k04, (hB.cell (p := ⟨w.heap.size + 1, 0, none⟩) n1).trans k10, (hB.cell (p := ⟨w.heap.size + 1, 1, none⟩) n1).trans k11, (hB.cell (p := ⟨w.heap.size + 1, 2, none⟩) n1).trans k12, (hB.cell (p := ⟨w.heap.size + 1, 3, none⟩) n1).trans k13, (hB.cell (p := ⟨w.heap.size + 1, 4, none⟩) n1).trans k14⟩)
  have hs1 := hide (hs.below hBW)
  have ht1 := hide (ht.below hBW)
  clear k00 k01 k02 k03 k04 k10 k11 k12 k13 k14 hs ht
  go_enter Try.func6, Try.ntmps6
  go_wp2_with fail
  rw [← hW]
  clear hW
  refine (HO W (unhide hs1) (unhide ht1)).mono ?_
  rintro r w1 ⟨rfl, hb1⟩
  have hB1 : Below W.heap.size W w1 := hb1
  obtain ⟨q0, q1, q2, q3, q4, q5, q6, q7, q8, q9⟩ := unhide HK w1 hB1
  go_wp2_with fail
  refine (HN w1 ((unhide hs1).below hB1) ((unhide ht1).below hB1)).mono ?_
  rintro r w2 ⟨rfl, hb2⟩
  have hB2 : Below W.heap.size W w2 := bthen hB1 hb2
  obtain ⟨q0, q1, q2, q3, q4, q5, q6, q7, q8, q9⟩ := unhide HK w2 hB2
  go_wp2_with fail
  go_region_held3 (fun w' => w'.cell? ⟨w.heap.size, 0, none⟩ = some (.bool s.ln) ∧ w'.cell? ⟨w.heap.size, 1, none⟩ = some (.slice s.la s.lN s.lc) ∧ w'.cell? ⟨w.heap.size, 2, none⟩ = some (.bool s.hn) ∧ w'.cell? ⟨w.heap.size, 3, none⟩ = some (.slice s.ha s.hN s.hc) ∧ w'.cell? ⟨w.heap.size, 4, none⟩ = some (.int .i64 s.bits) ∧ w'.cell? ⟨w.heap.size + 1, 0, none⟩ = some (.bool t.ln) ∧ w'.cell? ⟨w.heap.size + 1, 1, none⟩ = some (.slice t.la t.lN t.lc) ∧ w'.cell? ⟨w.heap.size + 1, 2, none⟩ = some (.bool t.hn) ∧ w'.cell? ⟨w.heap.size + 1, 3, none⟩ = some (.slice t.ha t.hN t.hc) ∧ w'.cell? ⟨w.heap.size + 1, 4, none⟩ = some (.int .i64 t.bits)) (exact unhide HK _ (by first | exact hB2.drew | exact hB3 | exact hB4))
    (first
      | (go_at_call 31; refine (HT _ ((unhide hs1).below hB2.drew) ((unhide ht1).below hB2.drew)).mono ?_; rintro r w3 ⟨rfl, hb3⟩; have hB3 : Below W.heap.size W w3 := bthen hB2.drew hb3)
      | (go_at_call 17; refine (HC _ ((unhide hs1).below hB3) ((unhide ht1).below hB3)).mono ?_; rintro r w4 ⟨rfl, hb4⟩; have hB4 : Below W.heap.size W w4 := bthen hB3 hb4))
  obtain ⟨q0, q1, q2, q3, q4, q5, q6, q7, q8, q9⟩ := unhide HK w4 hB4
  go_wp2_with fail
  refine (cmp_any _ _ _ _ _ _ _ _ e d' _ ((unhide hs1).below hB4).hi ((unhide ht1).below hB4).lo).mono ?_
  rintro r w5 ⟨rfl, hb5⟩
  have hB5 : Below W.heap.size W w5 := bthen hB4 hb5
  obtain ⟨q0, q1, q2, q3, q4, q5, q6, q7, q8, q9⟩ := unhide HK w5 hB5
  go_wp2_with fail
  refine (cmp_any _ _ _ _ _ _ _ _ d e' _ ((unhide hs1).below hB5).lo ((unhide ht1).below hB5).hi).mono ?_
  rintro r w6 ⟨rfl, hb6⟩
  have hB6 : Below W.heap.size W w6 := bthen hB5 hb6
  obtain ⟨q0, q1, q2, q3, q4, q5, q6, q7, q8, q9⟩ := unhide HK w6 hB6
  go_wp2_with fail
  refine (spanBegun_any _).mono ?_
  rintro r w7 ⟨rfl, hb7⟩
  have hB7 : Below W.heap.size W w7 := bthen hB6 hb7
  obtain ⟨q0, q1, q2, q3, q4, q5, q6, q7, q8, q9⟩ := unhide HK w7 hB7
  go_wp2_with fail
  go_ret
  exact ⟨by simp, bthen hBW hB7⟩

set_option maxRecDepth 100000 in
set_option maxHeartbeats 4000000 in
theorem ord_B1_N3 (w : World) (s t : Sp) (d e d' e' : Nat → Int) (n : Int) (hs : SpDig w s d e) (ht : SpDig w t d' e') (hn0 : ¬ n < 0) (hn : 1000000 < n) (hc1 : cmpI s.hn t.ln e d' s.hN t.lN < 0) (hc2 : ¬ 0 < cmpI s.ln t.hn d e' s.lN t.hN)
    (HO : Said2 44 #[.agg #[.bool s.ln, .slice s.la s.lN s.lc, .bool s.hn, .slice s.ha s.hN s.hc, .int .i64 s.bits], .agg #[.bool t.ln, .slice t.la t.lN t.lc, .bool t.hn, .slice t.ha t.hN t.hc, .int .i64 t.bits]] s t d e d' e' (.tuple #[.int .i64 (-1), .int .i64 0]))
    (HN : Said2 45 #[.agg #[.bool s.ln, .slice s.la s.lN s.lc, .bool s.hn, .slice s.ha s.hN s.hc, .int .i64 s.bits], .int .i64 n] s t d e d' e' (.tuple #[.bool false, .int .i64 3]))
    (HT : Said2 31 #[.agg #[.bool s.ln, .slice s.la s.lN s.lc, .bool s.hn, .slice s.ha s.hN s.hc, .int .i64 s.bits], .agg #[.bool t.ln, .slice t.la t.lN t.lc, .bool t.hn, .slice t.ha t.hN t.hc, .int .i64 t.bits]] s t d e d' e' (.int .i64 0))
    (HC : Said2 17 #[.agg #[.bool s.ln, .slice s.la s.lN s.lc, .bool s.hn, .slice s.ha s.hN s.hc, .int .i64 s.bits]] s t d e d' e' (.int .i64 0)) :
    Calls Try.prog 6 #[.agg #[.bool s.ln, .slice s.la s.lN s.lc, .bool s.hn, .slice s.ha s.hN s.hc, .int .i64 s.bits], .agg #[.bool t.ln, .slice t.la t.lN t.lc, .bool t.hn, .slice t.ha t.hN t.hc, .int .i64 t.bits], .int .i64 n] w fun r w' => r = .returned (.bool true) ∧ Below w.heap.size w w' := by
  obtain ⟨W, hW⟩ : ∃ W, W = (w.alloc (.cells #[.bool s.ln, .slice s.la s.lN s.lc, .bool s.hn, .slice s.ha s.hN s.hc, .int .i64 s.bits] 26)).alloc (.cells #[.bool t.ln, .slice t.la t.lN t.lc, .bool t.hn, .slice t.ha t.hN t.hc, .int .i64 t.bits] 26) := ⟨_, rfl⟩
  have hBW : Below w.heap.size w W := by rw [hW]; exact bl2 _ _ _
  have n0 : w.heap.size < W.heap.size := by rw [hW]; simp; omega
  have n1 : w.heap.size + 1 < W.heap.size := by rw [hW]; simp
  have k00 : W.cell? ⟨w.heap.size, 0, none⟩ = some (.bool s.ln) := by rw [hW]; simp [go_sem]
  have k01 : W.cell? ⟨w.heap.size, 1, none⟩ = some (.slice s.la s.lN s.lc) := by rw [hW]; simp [go_sem]
  have k02 : W.cell? ⟨w.heap.size, 2, none⟩ = some (.bool s.hn) := by rw [hW]; simp [go_sem]
  have k03 : W.cell? ⟨w.heap.size, 3, none⟩ = some (.slice s.ha s.hN s.hc) := by rw [hW]; simp [go_sem]
  have k04 : W.cell? ⟨w.heap.size, 4, none⟩ = some (.int .i64 s.bits) := by rw [hW]; simp [go_sem]
  have k10 : W.cell? ⟨w.heap.size + 1, 0, none⟩ = some (.bool t.ln) := by rw [hW]; simp [go_sem]
  have k11 : W.cell? ⟨w.heap.size + 1, 1, none⟩ = some (.slice t.la t.lN t.lc) := by rw [hW]; simp [go_sem]
  have k12 : W.cell? ⟨w.heap.size + 1, 2, none⟩ = some (.bool t.hn) := by rw [hW]; simp [go_sem]
  have k13 : W.cell? ⟨w.heap.size + 1, 3, none⟩ = some (.slice t.ha t.hN t.hc) := by rw [hW]; simp [go_sem]
  have k14 : W.cell? ⟨w.heap.size + 1, 4, none⟩ = some (.int .i64 t.bits) := by rw [hW]; simp [go_sem]
  have HK := hide (show ∀ w', Below W.heap.size W w' → (w'.cell? ⟨w.heap.size, 0, none⟩ = some (.bool s.ln) ∧ w'.cell? ⟨w.heap.size, 1, none⟩ = some (.slice s.la s.lN s.lc) ∧ w'.cell? ⟨w.heap.size, 2, none⟩ = some (.bool s.hn) ∧ w'.cell? ⟨w.heap.size, 3, none⟩ = some (.slice s.ha s.hN s.hc) ∧ w'.cell? ⟨w.heap.size, 4, none⟩ = some (.int .i64 s.bits) ∧ w'.cell? ⟨w.heap.size + 1, 0, none⟩ = some (.bool t.ln) ∧ w'.cell? ⟨w.heap.size + 1, 1, none⟩ = some (.slice t.la t.lN t.lc) ∧ w'.cell? ⟨w.heap.size + 1, 2, none⟩ = some (.bool t.hn) ∧ w'.cell? ⟨w.heap.size + 1, 3, none⟩ = some (.slice t.ha t.hN t.hc) ∧ w'.cell? ⟨w.heap.size + 1, 4, none⟩ = some (.int .i64 t.bits)) from fun w' hB => ⟨(hB.cell (p := ⟨w.heap.size, 0, none⟩) n0).trans k00, (hB.cell (p := ⟨w.heap.size, 1, none⟩) n0).trans k01, (hB.cell (p := ⟨w.heap.size, 2, none⟩) n0).trans k02, (hB.cell (p := ⟨w.heap.size, 3, none⟩) n0).trans k03, (hB.cell (p := ⟨w.heap.size, 4, none⟩) n0).trans k04, (hB.cell (p := ⟨w.heap.size + 1, 0, none⟩) n1).trans k10, (hB.cell (p := ⟨w.heap.size + 1, 1, none⟩) n1).trans k11, (hB.cell (p := ⟨w.heap.size + 1, 2, none⟩) n1).trans k12, (hB.cell (p := ⟨w.heap.size + 1, 3, none⟩) n1).trans k13, (hB.cell (p := ⟨w.heap.size + 1, 4, none⟩) n1).trans k14⟩)
  have hs1 := hide (hs.below hBW)
  have ht1 := hide (ht.below hBW)
  clear k00 k01 k02 k03 k04 k10 k11 k12 k13 k14 hs ht
  go_enter Try.func6, Try.ntmps6
  go_wp2_with fail
  rw [← hW]
  clear hW
  refine (HO W (unhide hs1) (unhide ht1)).mono ?_
  rintro r w1 ⟨rfl, hb1⟩
  have hB1 : Below W.heap.size W w1 := hb1
  obtain ⟨q0, q1, q2, q3, q4, q5, q6, q7, q8, q9⟩ := unhide HK w1 hB1
  go_wp2_with fail
  refine (HN w1 ((unhide hs1).below hB1) ((unhide ht1).below hB1)).mono ?_
  rintro r w2 ⟨rfl, hb2⟩
  have hB2 : Below W.heap.size W w2 := bthen hB1 hb2
  obtain ⟨q0, q1, q2, q3, q4, q5, q6, q7, q8, q9⟩ := unhide HK w2 hB2
  go_wp2_with fail
  go_region_held3 (fun w' => w'.cell? ⟨w.heap.size, 0, none⟩ = some (.bool s.ln) ∧ w'.cell? ⟨w.heap.size, 1, none⟩ = some (.slice s.la s.lN s.lc) ∧ w'.cell? ⟨w.heap.size, 2, none⟩ = some (.bool s.hn) ∧ w'.cell? ⟨w.heap.size, 3, none⟩ = some (.slice s.ha s.hN s.hc) ∧ w'.cell? ⟨w.heap.size, 4, none⟩ = some (.int .i64 s.bits) ∧ w'.cell? ⟨w.heap.size + 1, 0, none⟩ = some (.bool t.ln) ∧ w'.cell? ⟨w.heap.size + 1, 1, none⟩ = some (.slice t.la t.lN t.lc) ∧ w'.cell? ⟨w.heap.size + 1, 2, none⟩ = some (.bool t.hn) ∧ w'.cell? ⟨w.heap.size + 1, 3, none⟩ = some (.slice t.ha t.hN t.hc) ∧ w'.cell? ⟨w.heap.size + 1, 4, none⟩ = some (.int .i64 t.bits)) (exact unhide HK _ (by first | exact hB2.drew | exact hB3 | exact hB4))
    (first
      | (go_at_call 31; refine (HT _ ((unhide hs1).below hB2.drew) ((unhide ht1).below hB2.drew)).mono ?_; rintro r w3 ⟨rfl, hb3⟩; have hB3 : Below W.heap.size W w3 := bthen hB2.drew hb3)
      | (go_at_call 17; refine (HC _ ((unhide hs1).below hB3) ((unhide ht1).below hB3)).mono ?_; rintro r w4 ⟨rfl, hb4⟩; have hB4 : Below W.heap.size W w4 := bthen hB3 hb4))
  obtain ⟨q0, q1, q2, q3, q4, q5, q6, q7, q8, q9⟩ := unhide HK w4 hB4
  go_wp2_with fail
  refine (cmp_any _ _ _ _ _ _ _ _ e d' _ ((unhide hs1).below hB4).hi ((unhide ht1).below hB4).lo).mono ?_
  rintro r w5 ⟨rfl, hb5⟩
  have hB5 : Below W.heap.size W w5 := bthen hB4 hb5
  obtain ⟨q0, q1, q2, q3, q4, q5, q6, q7, q8, q9⟩ := unhide HK w5 hB5
  go_wp2_with fail
  refine (cmp_any _ _ _ _ _ _ _ _ d e' _ ((unhide hs1).below hB5).lo ((unhide ht1).below hB5).hi).mono ?_
  rintro r w6 ⟨rfl, hb6⟩
  have hB6 : Below W.heap.size W w6 := bthen hB5 hb6
  obtain ⟨q0, q1, q2, q3, q4, q5, q6, q7, q8, q9⟩ := unhide HK w6 hB6
  go_wp2_with fail
  refine (spanBegun_any _).mono ?_
  rintro r w7 ⟨rfl, hb7⟩
  have hB7 : Below W.heap.size W w7 := bthen hB6 hb7
  obtain ⟨q0, q1, q2, q3, q4, q5, q6, q7, q8, q9⟩ := unhide HK w7 hB7
  go_wp2_with fail
  go_ret
  exact ⟨by simp, bthen hBW hB7⟩

set_option maxRecDepth 100000 in
set_option maxHeartbeats 4000000 in
theorem ord_B1_N4 (w : World) (s t : Sp) (d e d' e' : Nat → Int) (n : Int) (hs : SpDig w s d e) (ht : SpDig w t d' e') (hn0 : ¬ n < 0) (hn : ¬ 1000000 < n) (b : Bool) (hc1 : cmpI s.hn t.ln e d' s.hN t.lN < 0) (hc2 : ¬ 0 < cmpI s.ln t.hn d e' s.lN t.hN)
    (HO : Said2 44 #[.agg #[.bool s.ln, .slice s.la s.lN s.lc, .bool s.hn, .slice s.ha s.hN s.hc, .int .i64 s.bits], .agg #[.bool t.ln, .slice t.la t.lN t.lc, .bool t.hn, .slice t.ha t.hN t.hc, .int .i64 t.bits]] s t d e d' e' (.tuple #[.int .i64 (-1), .int .i64 0]))
    (HN : Said2 45 #[.agg #[.bool s.ln, .slice s.la s.lN s.lc, .bool s.hn, .slice s.ha s.hN s.hc, .int .i64 s.bits], .int .i64 n] s t d e d' e' (.tuple #[.bool b, .int .i64 0]))
    (HT : Said2 31 #[.agg #[.bool s.ln, .slice s.la s.lN s.lc, .bool s.hn, .slice s.ha s.hN s.hc, .int .i64 s.bits], .agg #[.bool t.ln, .slice t.la t.lN t.lc, .bool t.hn, .slice t.ha t.hN t.hc, .int .i64 t.bits]] s t d e d' e' (.int .i64 0))
    (HC : Said2 17 #[.agg #[.bool s.ln, .slice s.la s.lN s.lc, .bool s.hn, .slice s.ha s.hN s.hc, .int .i64 s.bits]] s t d e d' e' (.int .i64 0))
    (HB : Said2 46 #[.agg #[.bool s.ln, .slice s.la s.lN s.lc, .bool s.hn, .slice s.ha s.hN s.hc, .int .i64 s.bits], .int .i64 n] s t d e d' e' (.bool b)) :
    Calls Try.prog 6 #[.agg #[.bool s.ln, .slice s.la s.lN s.lc, .bool s.hn, .slice s.ha s.hN s.hc, .int .i64 s.bits], .agg #[.bool t.ln, .slice t.la t.lN t.lc, .bool t.hn, .slice t.ha t.hN t.hc, .int .i64 t.bits], .int .i64 n] w fun r w' => r = .returned (.bool true) ∧ Below w.heap.size w w' := by
  obtain ⟨W, hW⟩ : ∃ W, W = (w.alloc (.cells #[.bool s.ln, .slice s.la s.lN s.lc, .bool s.hn, .slice s.ha s.hN s.hc, .int .i64 s.bits] 26)).alloc (.cells #[.bool t.ln, .slice t.la t.lN t.lc, .bool t.hn, .slice t.ha t.hN t.hc, .int .i64 t.bits] 26) := ⟨_, rfl⟩
  have hBW : Below w.heap.size w W := by rw [hW]; exact bl2 _ _ _
  have n0 : w.heap.size < W.heap.size := by rw [hW]; simp; omega
  have n1 : w.heap.size + 1 < W.heap.size := by rw [hW]; simp
  have k00 : W.cell? ⟨w.heap.size, 0, none⟩ = some (.bool s.ln) := by rw [hW]; simp [go_sem]
  have k01 : W.cell? ⟨w.heap.size, 1, none⟩ = some (.slice s.la s.lN s.lc) := by rw [hW]; simp [go_sem]
  have k02 : W.cell? ⟨w.heap.size, 2, none⟩ = some (.bool s.hn) := by rw [hW]; simp [go_sem]
  have k03 : W.cell? ⟨w.heap.size, 3, none⟩ = some (.slice s.ha s.hN s.hc) := by rw [hW]; simp [go_sem]
  have k04 : W.cell? ⟨w.heap.size, 4, none⟩ = some (.int .i64 s.bits) := by rw [hW]; simp [go_sem]
  have k10 : W.cell? ⟨w.heap.size + 1, 0, none⟩ = some (.bool t.ln) := by rw [hW]; simp [go_sem]
  have k11 : W.cell? ⟨w.heap.size + 1, 1, none⟩ = some (.slice t.la t.lN t.lc) := by rw [hW]; simp [go_sem]
  have k12 : W.cell? ⟨w.heap.size + 1, 2, none⟩ = some (.bool t.hn) := by rw [hW]; simp [go_sem]
  have k13 : W.cell? ⟨w.heap.size + 1, 3, none⟩ = some (.slice t.ha t.hN t.hc) := by rw [hW]; simp [go_sem]
  have k14 : W.cell? ⟨w.heap.size + 1, 4, none⟩ = some (.int .i64 t.bits) := by rw [hW]; simp [go_sem]
  have HK := hide (show ∀ w', Below W.heap.size W w' → (w'.cell? ⟨w.heap.size, 0, none⟩ = some (.bool s.ln) ∧ w'.cell? ⟨w.heap.size, 1, none⟩ = some (.slice s.la s.lN s.lc) ∧ w'.cell? ⟨w.heap.size, 2, none⟩ = some (.bool s.hn) ∧ w'.cell? ⟨w.heap.size, 3, none⟩ = some (.slice s.ha s.hN s.hc) ∧ w'.cell? ⟨w.heap.size, 4, none⟩ = some (.int .i64 s.bits) ∧ w'.cell? ⟨w.heap.size + 1, 0, none⟩ = some (.bool t.ln) ∧ w'.cell? ⟨w.heap.size + 1, 1, none⟩ = some (.slice t.la t.lN t.lc) ∧ w'.cell? ⟨w.heap.size + 1, 2, none⟩ = some (.bool t.hn) ∧ w'.cell? ⟨w.heap.size + 1, 3, none⟩ = some (.slice t.ha t.hN t.hc) ∧ w'.cell? ⟨w.heap.size + 1, 4, none⟩ = some (.int .i64 t.bits)) from fun w' hB => ⟨(hB.cell (p := ⟨w.heap.size, 0, none⟩) n0).trans k00, (hB.cell (p := ⟨w.heap.size, 1, none⟩) n0).trans k01, (hB.cell (p := ⟨w.heap.size, 2, none⟩) n0).trans k02, (hB.cell (p := ⟨w.heap.size, 3, none⟩) n0).trans k03, (hB.cell (p := ⟨w.heap.size, 4, none⟩) n0).trans k04, (hB.cell (p := ⟨w.heap.size + 1, 0, none⟩) n1).trans k10, (hB.cell (p := ⟨w.heap.size + 1, 1, none⟩) n1).trans k11, (hB.cell (p := ⟨w.heap.size + 1, 2, none⟩) n1).trans k12, (hB.cell (p := ⟨w.heap.size + 1, 3, none⟩) n1).trans k13, (hB.cell (p := ⟨w.heap.size + 1, 4, none⟩) n1).trans k14⟩)
  have hs1 := hide (hs.below hBW)
  have ht1 := hide (ht.below hBW)
  clear k00 k01 k02 k03 k04 k10 k11 k12 k13 k14 hs ht
  go_enter Try.func6, Try.ntmps6
  go_wp2_with fail
  rw [← hW]
  clear hW
  refine (HO W (unhide hs1) (unhide ht1)).mono ?_
  rintro r w1 ⟨rfl, hb1⟩
  have hB1 : Below W.heap.size W w1 := hb1
  obtain ⟨q0, q1, q2, q3, q4, q5, q6, q7, q8, q9⟩ := unhide HK w1 hB1
  go_wp2_with fail
  refine (HN w1 ((unhide hs1).below hB1) ((unhide ht1).below hB1)).mono ?_
  rintro r w2 ⟨rfl, hb2⟩
  have hB2 : Below W.heap.size W w2 := bthen hB1 hb2
  obtain ⟨q0, q1, q2, q3, q4, q5, q6, q7, q8, q9⟩ := unhide HK w2 hB2
  go_wp2_with fail
  go_region_held3 (fun w' => w'.cell? ⟨w.heap.size, 0, none⟩ = some (.bool s.ln) ∧ w'.cell? ⟨w.heap.size, 1, none⟩ = some (.slice s.la s.lN s.lc) ∧ w'.cell? ⟨w.heap.size, 2, none⟩ = some (.bool s.hn) ∧ w'.cell? ⟨w.heap.size, 3, none⟩ = some (.slice s.ha s.hN s.hc) ∧ w'.cell? ⟨w.heap.size, 4, none⟩ = some (.int .i64 s.bits) ∧ w'.cell? ⟨w.heap.size + 1, 0, none⟩ = some (.bool t.ln) ∧ w'.cell? ⟨w.heap.size + 1, 1, none⟩ = some (.slice t.la t.lN t.lc) ∧ w'.cell? ⟨w.heap.size + 1, 2, none⟩ = some (.bool t.hn) ∧ w'.cell? ⟨w.heap.size + 1, 3, none⟩ = some (.slice t.ha t.hN t.hc) ∧ w'.cell? ⟨w.heap.size + 1, 4, none⟩ = some (.int .i64 t.bits)) (exact unhide HK _ (by first | exact hB2.drew | exact hB3 | exact hB4))
    (first
      | (go_at_call 31; refine (HT _ ((unhide hs1).below hB2.drew) ((unhide ht1).below hB2.drew)).mono ?_; rintro r w3 ⟨rfl, hb3⟩; have hB3 : Below W.heap.size W w3 := bthen hB2.drew hb3)
      | (go_at_call 17; refine (HC _ ((unhide hs1).below hB3) ((unhide ht1).below hB3)).mono ?_; rintro r w4 ⟨rfl, hb4⟩; have hB4 : Below W.heap.size W w4 := bthen hB3 hb4))
  obtain ⟨q0, q1, q2, q3, q4, q5, q6, q7, q8, q9⟩ := unhide HK w4 hB4
  go_wp2_with fail
  refine (cmp_any _ _ _ _ _ _ _ _ e d' _ ((unhide hs1).below hB4).hi ((unhide ht1).below hB4).lo).mono ?_
  rintro r w5 ⟨rfl, hb5⟩
  have hB5 : Below W.heap.size W w5 := bthen hB4 hb5
  obtain ⟨q0, q1, q2, q3, q4, q5, q6, q7, q8, q9⟩ := unhide HK w5 hB5
  go_wp2_with fail
  refine (cmp_any _ _ _ _ _ _ _ _ d e' _ ((unhide hs1).below hB5).lo ((unhide ht1).below hB5).hi).mono ?_
  rintro r w6 ⟨rfl, hb6⟩
  have hB6 : Below W.heap.size W w6 := bthen hB5 hb6
  obtain ⟨q0, q1, q2, q3, q4, q5, q6, q7, q8, q9⟩ := unhide HK w6 hB6
  go_wp2_with fail
  refine (HB _ ((unhide hs1).below hB6) ((unhide ht1).below hB6)).mono ?_
  rintro r w7 ⟨rfl, hb7⟩
  have hB7 : Below W.heap.size W w7 := bthen hB6 hb7
  obtain ⟨q0, q1, q2, q3, q4, q5, q6, q7, q8, q9⟩ := unhide HK w7 hB7
  go_wp2_with fail
  refine (spanBegun_any _).mono ?_
  rintro r w8 ⟨rfl, hb8⟩
  have hB8 : Below W.heap.size W w8 := bthen hB7 hb8
  obtain ⟨q0, q1, q2, q3, q4, q5, q6, q7, q8, q9⟩ := unhide HK w8 hB8
  go_wp2_with fail
  go_ret
  exact ⟨by simp, bthen hBW hB8⟩

set_option maxRecDepth 100000 in
set_option maxHeartbeats 4000000 in
theorem ord_B2_N2 (w : World) (s t : Sp) (d e d' e' : Nat → Int) (n : Int) (hs : SpDig w s d e) (ht : SpDig w t d' e') (hn : n < 0) (hc1 : ¬ cmpI s.hn t.ln e d' s.hN t.lN < 0) (hc2 : 0 < cmpI s.ln t.hn d e' s.lN t.hN)
    (HO : Said2 44 #[.agg #[.bool s.ln, .slice s.la s.lN s.lc, .bool s.hn, .slice s.ha s.hN s.hc, .int .i64 s.bits], .agg #[.bool t.ln, .slice t.la t.lN t.lc, .bool t.hn, .slice t.ha t.hN t.hc, .int .i64 t.bits]] s t d e d' e' (.tuple #[.int .i64 (1), .int .i64 0]))
    (HN : Said2 45 #[.agg #[.bool s.ln, .slice s.la s.lN s.lc, .bool s.hn, .slice s.ha s.hN s.hc, .int .i64 s.bits], .int .i64 n] s t d e d' e' (.tuple #[.bool false, .int .i64 3]))
    (HT : Said2 31 #[.agg #[.bool s.ln, .slice s.la s.lN s.lc, .bool s.hn, .slice s.ha s.hN s.hc, .int .i64 s.bits], .agg #[.bool t.ln, .slice t.la t.lN t.lc, .bool t.hn, .slice t.ha t.hN t.hc, .int .i64 t.bits]] s t d e d' e' (.int .i64 0))
    (HC : Said2 17 #[.agg #[.bool s.ln, .slice s.la s.lN s.lc, .bool s.hn, .slice s.ha s.hN s.hc, .int .i64 s.bits]] s t d e d' e' (.int .i64 0)) :
    Calls Try.prog 6 #[.agg #[.bool s.ln, .slice s.la s.lN s.lc, .bool s.hn, .slice s.ha s.hN s.hc, .int .i64 s.bits], .agg #[.bool t.ln, .slice t.la t.lN t.lc, .bool t.hn, .slice t.ha t.hN t.hc, .int .i64 t.bits], .int .i64 n] w fun r w' => r = .returned (.bool true) ∧ Below w.heap.size w w' := by
  obtain ⟨W, hW⟩ : ∃ W, W = (w.alloc (.cells #[.bool s.ln, .slice s.la s.lN s.lc, .bool s.hn, .slice s.ha s.hN s.hc, .int .i64 s.bits] 26)).alloc (.cells #[.bool t.ln, .slice t.la t.lN t.lc, .bool t.hn, .slice t.ha t.hN t.hc, .int .i64 t.bits] 26) := ⟨_, rfl⟩
  have hBW : Below w.heap.size w W := by rw [hW]; exact bl2 _ _ _
  have n0 : w.heap.size < W.heap.size := by rw [hW]; simp; omega
  have n1 : w.heap.size + 1 < W.heap.size := by rw [hW]; simp
  have k00 : W.cell? ⟨w.heap.size, 0, none⟩ = some (.bool s.ln) := by rw [hW]; simp [go_sem]
  have k01 : W.cell? ⟨w.heap.size, 1, none⟩ = some (.slice s.la s.lN s.lc) := by rw [hW]; simp [go_sem]
  have k02 : W.cell? ⟨w.heap.size, 2, none⟩ = some (.bool s.hn) := by rw [hW]; simp [go_sem]
  have k03 : W.cell? ⟨w.heap.size, 3, none⟩ = some (.slice s.ha s.hN s.hc) := by rw [hW]; simp [go_sem]
  have k04 : W.cell? ⟨w.heap.size, 4, none⟩ = some (.int .i64 s.bits) := by rw [hW]; simp [go_sem]
  have k10 : W.cell? ⟨w.heap.size + 1, 0, none⟩ = some (.bool t.ln) := by rw [hW]; simp [go_sem]
  have k11 : W.cell? ⟨w.heap.size + 1, 1, none⟩ = some (.slice t.la t.lN t.lc) := by rw [hW]; simp [go_sem]
  have k12 : W.cell? ⟨w.heap.size + 1, 2, none⟩ = some (.bool t.hn) := by rw [hW]; simp [go_sem]
  have k13 : W.cell? ⟨w.heap.size + 1, 3, none⟩ = some (.slice t.ha t.hN t.hc) := by rw [hW]; simp [go_sem]
  have k14 : W.cell? ⟨w.heap.size + 1, 4, none⟩ = some (.int .i64 t.bits) := by rw [hW]; simp [go_sem]
  have HK := hide (show ∀ w', Below W.heap.size W w' → (w'.cell? ⟨w.heap.size, 0, none⟩ = some (.bool s.ln) ∧ w'.cell? ⟨w.heap.size, 1, none⟩ = some (.slice s.la s.lN s.lc) ∧ w'.cell? ⟨w.heap.size, 2, none⟩ = some (.bool s.hn) ∧ w'.cell? ⟨w.heap.size, 3, none⟩ = some (.slice s.ha s.hN s.hc) ∧ w'.cell? ⟨w.heap.size, 4, none⟩ = some (.int .i64 s.bits) ∧ w'.cell? ⟨w.heap.size + 1, 0, none⟩ = some (.bool t.ln) ∧ w'.cell? ⟨w.heap.size + 1, 1, none⟩ = some (.slice t.la t.lN t.lc) ∧ w'.cell? ⟨w.heap.size + 1, 2, none⟩ = some (.bool t.hn) ∧ w'.cell? ⟨w.heap.size + 1, 3, none⟩ = some (.slice t.ha t.hN t.hc) ∧ w'.cell? ⟨w.heap.size + 1, 4, none⟩ = some (.int .i64 t.bits)) from fun w' hB => ⟨(hB.cell (p := ⟨w.heap.size, 0, none⟩) n0).trans k00, (hB.cell (p := ⟨w.heap.size, 1, none⟩) n0).trans k01, (hB.cell (p := ⟨w.heap.size, 2, none⟩) n0).trans k02, (hB.cell (p := ⟨w.heap.size, 3, none⟩) n0).trans k03, (hB.cell (p := ⟨w.heap.size, 4, none⟩) n0).trans k04, (hB.cell (p := ⟨w.heap.size + 1, 0, none⟩) n1).trans k10, (hB.cell (p := ⟨w.heap.size + 1, 1, none⟩) n1).trans k11, (hB.cell (p := ⟨w.heap.size + 1, 2, none⟩) n1).trans k12, (hB.cell (p := ⟨w.heap.size + 1, 3, none⟩) n1).trans k13, (hB.cell (p := ⟨w.heap.size + 1, 4, none⟩) n1).trans k14⟩)
  have hs1 := hide (hs.below hBW)
  have ht1 := hide (ht.below hBW)
  clear k00 k01 k02 k03 k04 k10 k11 k12 k13 k14 hs ht
  go_enter Try.func6, Try.ntmps6
  go_wp2_with fail
  rw [← hW]
  clear hW
  refine (HO W (unhide hs1) (unhide ht1)).mono ?_
  rintro r w1 ⟨rfl, hb1⟩
  have hB1 : Below W.heap.size W w1 := hb1
  obtain ⟨q0, q1, q2, q3, q4, q5, q6, q7, q8, q9⟩ := unhide HK w1 hB1
  go_wp2_with fail
  refine (HN w1 ((unhide hs1).below hB1) ((unhide ht1).below hB1)).mono ?_
  rintro r w2 ⟨rfl, hb2⟩
  have hB2 : Below W.heap.size W w2 := bthen hB1 hb2
  obtain ⟨q0, q1, q2, q3, q4, q5, q6, q7, q8, q9⟩ := unhide HK w2 hB2
  go_wp2_with fail
  go_region_held3 (fun w' => w'.cell? ⟨w.heap.size, 0, none⟩ = some (.bool s.ln) ∧ w'.cell? ⟨w.heap.size, 1, none⟩ = some (.slice s.la s.lN s.lc) ∧ w'.cell? ⟨w.heap.size, 2, none⟩ = some (.bool s.hn) ∧ w'.cell? ⟨w.heap.size, 3, none⟩ = some (.slice s.ha s.hN s.hc) ∧ w'.cell? ⟨w.heap.size, 4, none⟩ = some (.int .i64 s.bits) ∧ w'.cell? ⟨w.heap.size + 1, 0, none⟩ = some (.bool t.ln) ∧ w'.cell? ⟨w.heap.size + 1, 1, none⟩ = some (.slice t.la t.lN t.lc) ∧ w'.cell? ⟨w.heap.size + 1, 2, none⟩ = some (.bool t.hn) ∧ w'.cell? ⟨w.heap.size + 1, 3, none⟩ = some (.slice t.ha t.hN t.hc) ∧ w'.cell? ⟨w.heap.size + 1, 4, none⟩ = some (.int .i64 t.bits)) (exact unhide HK _ (by first | exact hB2.drew | exact hB3 | exact hB4))
    (first
      | (go_at_call 31; refine (HT _ ((unhide hs1).below hB2.drew) ((unhide ht1).below hB2.drew)).mono ?_; rintro r w3 ⟨rfl, hb3⟩; have hB3 : Below W.heap.size W w3 := bthen hB2.drew hb3)
      | (go_at_call 17; refine (HC _ ((unhide hs1).below hB3) ((unhide ht1).below hB3)).mono ?_; rintro r w4 ⟨rfl, hb4⟩; have hB4 : Below W.heap.size W w4 := bthen hB3 hb4))
  obtain ⟨q0, q1, q2, q3, q4, q5, q6, q7, q8, q9⟩ := unhide HK w4 hB4
  go_wp2_with fail
  refine (cmp_any _ _ _ _ _ _ _ _ e d' _ ((unhide hs1).below hB4).hi ((unhide ht1).below hB4).lo).mono ?_
  rintro r w5 ⟨rfl, hb5⟩
  have hB5 : Below W.heap.size W w5 := bthen hB4 hb5
  obtain ⟨q0, q1, q2, q3, q4, q5, q6, q7, q8, q9⟩ := unhide HK w5 hB5
  go_wp2_with fail
  refine (cmp_any _ _ _ _ _ _ _ _ d e' _ ((unhide hs1).below hB5).lo ((unhide ht1).below hB5).hi).mono ?_
  rintro r w6 ⟨rfl, hb6⟩
  have hB6 : Below W.heap.size W w6 := bthen hB5 hb6
  obtain ⟨q0, q1, q2, q3, q4, q5, q6, q7, q8, q9⟩ := unhide HK w6 hB6
  go_wp2_with fail
  refine (spanBegun_any _).mono ?_
  rintro r w7 ⟨rfl, hb7⟩
  have hB7 : Below W.heap.size W w7 := bthen hB6 hb7
  obtain ⟨q0, q1, q2, q3, q4, q5, q6, q7, q8, q9⟩ := unhide HK w7 hB7
  go_wp2_with fail
  go_ret
  exact ⟨by simp, bthen hBW hB7⟩

set_option maxRecDepth 100000 in
set_option maxHeartbeats 4000000 in
theorem ord_B2_N3 (w : World) (s t : Sp) (d e d' e' : Nat → Int) (n : Int) (hs : SpDig w s d e) (ht : SpDig w t d' e') (hn0 : ¬ n < 0) (hn : 1000000 < n) (hc1 : ¬ cmpI s.hn t.ln e d' s.hN t.lN < 0) (hc2 : 0 < cmpI s.ln t.hn d e' s.lN t.hN)
    (HO : Said2 44 #[.agg #[.bool s.ln, .slice s.la s.lN s.lc, .bool s.hn, .slice s.ha s.hN s.hc, .int .i64 s.bits], .agg #[.bool t.ln, .slice t.la t.lN t.lc, .bool t.hn, .slice t.ha t.hN t.hc, .int .i64 t.bits]] s t d e d' e' (.tuple #[.int .i64 (1), .int .i64 0]))
    (HN : Said2 45 #[.agg #[.bool s.ln, .slice s.la s.lN s.lc, .bool s.hn, .slice s.ha s.hN s.hc, .int .i64 s.bits], .int .i64 n] s t d e d' e' (.tuple #[.bool false, .int .i64 3]))
    (HT : Said2 31 #[.agg #[.bool s.ln, .slice s.la s.lN s.lc, .bool s.hn, .slice s.ha s.hN s.hc, .int .i64 s.bits], .agg #[.bool t.ln, .slice t.la t.lN t.lc, .bool t.hn, .slice t.ha t.hN t.hc, .int .i64 t.bits]] s t d e d' e' (.int .i64 0))
    (HC : Said2 17 #[.agg #[.bool s.ln, .slice s.la s.lN s.lc, .bool s.hn, .slice s.ha s.hN s.hc, .int .i64 s.bits]] s t d e d' e' (.int .i64 0)) :
    Calls Try.prog 6 #[.agg #[.bool s.ln, .slice s.la s.lN s.lc, .bool s.hn, .slice s.ha s.hN s.hc, .int .i64 s.bits], .agg #[.bool t.ln, .slice t.la t.lN t.lc, .bool t.hn, .slice t.ha t.hN t.hc, .int .i64 t.bits], .int .i64 n] w fun r w' => r = .returned (.bool true) ∧ Below w.heap.size w w' := by
  obtain ⟨W, hW⟩ : ∃ W, W = (w.alloc (.cells #[.bool s.ln, .slice s.la s.lN s.lc, .bool s.hn, .slice s.ha s.hN s.hc, .int .i64 s.bits] 26)).alloc (.cells #[.bool t.ln, .slice t.la t.lN t.lc, .bool t.hn, .slice t.ha t.hN t.hc, .int .i64 t.bits] 26) := ⟨_, rfl⟩
  have hBW : Below w.heap.size w W := by rw [hW]; exact bl2 _ _ _
  have n0 : w.heap.size < W.heap.size := by rw [hW]; simp; omega
  have n1 : w.heap.size + 1 < W.heap.size := by rw [hW]; simp
  have k00 : W.cell? ⟨w.heap.size, 0, none⟩ = some (.bool s.ln) := by rw [hW]; simp [go_sem]
  have k01 : W.cell? ⟨w.heap.size, 1, none⟩ = some (.slice s.la s.lN s.lc) := by rw [hW]; simp [go_sem]
  have k02 : W.cell? ⟨w.heap.size, 2, none⟩ = some (.bool s.hn) := by rw [hW]; simp [go_sem]
  have k03 : W.cell? ⟨w.heap.size, 3, none⟩ = some (.slice s.ha s.hN s.hc) := by rw [hW]; simp [go_sem]
  have k04 : W.cell? ⟨w.heap.size, 4, none⟩ = some (.int .i64 s.bits) := by rw [hW]; simp [go_sem]
  have k10 : W.cell? ⟨w.heap.size + 1, 0, none⟩ = some (.bool t.ln) := by rw [hW]; simp [go_sem]
  have k11 : W.cell? ⟨w.heap.size + 1, 1, none⟩ = some (.slice t.la t.lN t.lc) := by rw [hW]; simp [go_sem]
  have k12 : W.cell? ⟨w.heap.size + 1, 2, none⟩ = some (.bool t.hn) := by rw [hW]; simp [go_sem]
  have k13 : W.cell? ⟨w.heap.size + 1, 3, none⟩ = some (.slice t.ha t.hN t.hc) := by rw [hW]; simp [go_sem]
  have k14 : W.cell? ⟨w.heap.size + 1, 4, none⟩ = some (.int .i64 t.bits) := by rw [hW]; simp [go_sem]
  have HK := hide (show ∀ w', Below W.heap.size W w' → (w'.cell? ⟨w.heap.size, 0, none⟩ = some (.bool s.ln) ∧ w'.cell? ⟨w.heap.size, 1, none⟩ = some (.slice s.la s.lN s.lc) ∧ w'.cell? ⟨w.heap.size, 2, none⟩ = some (.bool s.hn) ∧ w'.cell? ⟨w.heap.size, 3, none⟩ = some (.slice s.ha s.hN s.hc) ∧ w'.cell? ⟨w.heap.size, 4, none⟩ = some (.int .i64 s.bits) ∧ w'.cell? ⟨w.heap.size + 1, 0, none⟩ = some (.bool t.ln) ∧ w'.cell? ⟨w.heap.size + 1, 1, none⟩ = some (.slice t.la t.lN t.lc) ∧ w'.cell? ⟨w.heap.size + 1, 2, none⟩ = some (.bool t.hn) ∧ w'.cell? ⟨w.heap.size + 1, 3, none⟩ = some (.slice t.ha t.hN t.hc) ∧ w'.cell? ⟨w.heap.size + 1, 4, none⟩ = some (.int .i64 t.bits)) from fun w' hB => ⟨(hB.cell (p := ⟨w.heap.size, 0, none⟩) n0).trans k00, (hB.cell (p := ⟨w.heap.size, 1, none⟩) n0).trans k01, (hB.cell (p := ⟨w.heap.size, 2, none⟩) n0).trans k02, (hB.cell (p := ⟨w.heap.size, 3, none⟩) n0).trans k03, (hB.cell (p := ⟨w.heap.size, 4, none⟩) n0).trans k04, (hB.cell (p := ⟨w.heap.size + 1, 0, none⟩) n1).trans k10, (hB.cell (p := ⟨w.heap.size + 1, 1, none⟩) n1).trans k11, (hB.cell (p := ⟨w.heap.size + 1, 2, none⟩) n1).trans k12, (hB.cell (p := ⟨w.heap.size + 1, 3, none⟩) n1).trans k13, (hB.cell (p := ⟨w.heap.size + 1, 4, none⟩) n1).trans k14⟩)
  have hs1 := hide (hs.below hBW)
  have ht1 := hide (ht.below hBW)
  clear k00 k01 k02 k03 k04 k10 k11 k12 k13 k14 hs ht
  go_enter Try.func6, Try.ntmps6
  go_wp2_with fail
  rw [← hW]
  clear hW
  refine (HO W (unhide hs1) (unhide ht1)).mono ?_
  rintro r w1 ⟨rfl, hb1⟩
  have hB1 : Below W.heap.size W w1 := hb1
  obtain ⟨q0, q1, q2, q3, q4, q5, q6, q7, q8, q9⟩ := unhide HK w1 hB1
  go_wp2_with fail
  refine (HN w1 ((unhide hs1).below hB1) ((unhide ht1).below hB1)).mono ?_
  rintro r w2 ⟨rfl, hb2⟩
  have hB2 : Below W.heap.size W w2 := bthen hB1 hb2
  obtain ⟨q0, q1, q2, q3, q4, q5, q6, q7, q8, q9⟩ := unhide HK w2 hB2
  go_wp2_with fail
  go_region_held3 (fun w' => w'.cell? ⟨w.heap.size, 0, none⟩ = some (.bool s.ln) ∧ w'.cell? ⟨w.heap.size, 1, none⟩ = some (.slice s.la s.lN s.lc) ∧ w'.cell? ⟨w.heap.size, 2, none⟩ = some (.bool s.hn) ∧ w'.cell? ⟨w.heap.size, 3, none⟩ = some (.slice s.ha s.hN s.hc) ∧ w'.cell? ⟨w.heap.size, 4, none⟩ = some (.int .i64 s.bits) ∧ w'.cell? ⟨w.heap.size + 1, 0, none⟩ = some (.bool t.ln) ∧ w'.cell? ⟨w.heap.size + 1, 1, none⟩ = some (.slice t.la t.lN t.lc) ∧ w'.cell? ⟨w.heap.size + 1, 2, none⟩ = some (.bool t.hn) ∧ w'.cell? ⟨w.heap.size + 1, 3, none⟩ = some (.slice t.ha t.hN t.hc) ∧ w'.cell? ⟨w.heap.size + 1, 4, none⟩ = some (.int .i64 t.bits)) (exact unhide HK _ (by first | exact hB2.drew | exact hB3 | exact hB4))
    (first
      | (go_at_call 31; refine (HT _ ((unhide hs1).below hB2.drew) ((unhide ht1).below hB2.drew)).mono ?_; rintro r w3 ⟨rfl, hb3⟩; have hB3 : Below W.heap.size W w3 := bthen hB2.drew hb3)
      | (go_at_call 17; refine (HC _ ((unhide hs1).below hB3) ((unhide ht1).below hB3)).mono ?_; rintro r w4 ⟨rfl, hb4⟩; have hB4 : Below W.heap.size W w4 := bthen hB3 hb4))
  obtain ⟨q0, q1, q2, q3, q4, q5, q6, q7, q8, q9⟩ := unhide HK w4 hB4
  go_wp2_with fail
  refine (cmp_any _ _ _ _ _ _ _ _ e d' _ ((unhide hs1).below hB4).hi ((unhide ht1).below hB4).lo).mono ?_
  rintro r w5 ⟨rfl, hb5⟩
  have hB5 : Below W.heap.size W w5 := bthen hB4 hb5
  obtain ⟨q0, q1, q2, q3, q4, q5, q6, q7, q8, q9⟩ := unhide HK w5 hB5
  go_wp2_with fail
  refine (cmp_any _ _ _ _ _ _ _ _ d e' _ ((unhide hs1).below hB5).lo ((unhide ht1).below hB5).hi).mono ?_
  rintro r w6 ⟨rfl, hb6⟩
  have hB6 : Below W.heap.size W w6 := bthen hB5 hb6
  obtain ⟨q0, q1, q2, q3, q4, q5, q6, q7, q8, q9⟩ := unhide HK w6 hB6
  go_wp2_with fail
  refine (spanBegun_any _).mono ?_
  rintro r w7 ⟨rfl, hb7⟩
  have hB7 : Below W.heap.size W w7 := bthen hB6 hb7
  obtain ⟨q0, q1, q2, q3, q4, q5, q6, q7, q8, q9⟩ := unhide HK w7 hB7
  go_wp2_with fail
  go_ret
  exact ⟨by simp, bthen hBW hB7⟩

set_option maxRecDepth 100000 in
set_option maxHeartbeats 4000000 in
theorem ord_B2_N4 (w : World) (s t : Sp) (d e d' e' : Nat → Int) (n : Int) (hs : SpDig w s d e) (ht : SpDig w t d' e') (hn0 : ¬ n < 0) (hn : ¬ 1000000 < n) (b : Bool) (hc1 : ¬ cmpI s.hn t.ln e d' s.hN t.lN < 0) (hc2 : 0 < cmpI s.ln t.hn d e' s.lN t.hN)
    (HO : Said2 44 #[.agg #[.bool s.ln, .slice s.la s.lN s.lc, .bool s.hn, .slice s.ha s.hN s.hc, .int .i64 s.bits], .agg #[.bool t.ln, .slice t.la t.lN t.lc, .bool t.hn, .slice t.ha t.hN t.hc, .int .i64 t.bits]] s t d e d' e' (.tuple #[.int .i64 (1), .int .i64 0]))
    (HN : Said2 45 #[.agg #[.bool s.ln, .slice s.la s.lN s.lc, .bool s.hn, .slice s.ha s.hN s.hc, .int .i64 s.bits], .int .i64 n] s t d e d' e' (.tuple #[.bool b, .int .i64 0]))
    (HT : Said2 31 #[.agg #[.bool s.ln, .slice s.la s.lN s.lc, .bool s.hn, .slice s.ha s.hN s.hc, .int .i64 s.bits], .agg #[.bool t.ln, .slice t.la t.lN t.lc, .bool t.hn, .slice t.ha t.hN t.hc, .int .i64 t.bits]] s t d e d' e' (.int .i64 0))
    (HC : Said2 17 #[.agg #[.bool s.ln, .slice s.la s.lN s.lc, .bool s.hn, .slice s.ha s.hN s.hc, .int .i64 s.bits]] s t d e d' e' (.int .i64 0))
    (HB : Said2 46 #[.agg #[.bool s.ln, .slice s.la s.lN s.lc, .bool s.hn, .slice s.ha s.hN s.hc, .int .i64 s.bits], .int .i64 n] s t d e d' e' (.bool b)) :
    Calls Try.prog 6 #[.agg #[.bool s.ln, .slice s.la s.lN s.lc, .bool s.hn, .slice s.ha s.hN s.hc, .int .i64 s.bits], .agg #[.bool t.ln, .slice t.la t.lN t.lc, .bool t.hn, .slice t.ha t.hN t.hc, .int .i64 t.bits], .int .i64 n] w fun r w' => r = .returned (.bool true) ∧ Below w.heap.size w w' := by
  obtain ⟨W, hW⟩ : ∃ W, W = (w.alloc (.cells #[.bool s.ln, .slice s.la s.lN s.lc, .bool s.hn, .slice s.ha s.hN s.hc, .int .i64 s.bits] 26)).alloc (.cells #[.bool t.ln, .slice t.la t.lN t.lc, .bool t.hn, .slice t.ha t.hN t.hc, .int .i64 t.bits] 26) := ⟨_, rfl⟩
  have hBW : Below w.heap.size w W := by rw [hW]; exact bl2 _ _ _
  have n0 : w.heap.size < W.heap.size := by rw [hW]; simp; omega
  have n1 : w.heap.size + 1 < W.heap.size := by rw [hW]; simp
  have k00 : W.cell? ⟨w.heap.size, 0, none⟩ = some (.bool s.ln) := by rw [hW]; simp [go_sem]
  have k01 : W.cell? ⟨w.heap.size, 1, none⟩ = some (.slice s.la s.lN s.lc) := by rw [hW]; simp [go_sem]
  have k02 : W.cell? ⟨w.heap.size, 2, none⟩ = some (.bool s.hn) := by rw [hW]; simp [go_sem]
  have k03 : W.cell? ⟨w.heap.size, 3, none⟩ = some (.slice s.ha s.hN s.hc) := by rw [hW]; simp [go_sem]
  have k04 : W.cell? ⟨w.heap.size, 4, none⟩ = some (.int .i64 s.bits) := by rw [hW]; simp [go_sem]
  have k10 : W.cell? ⟨w.heap.size + 1, 0, none⟩ = some (.bool t.ln) := by rw [hW]; simp [go_sem]
  have k11 : W.cell? ⟨w.heap.size + 1, 1, none⟩ = some (.slice t.la t.lN t.lc) := by rw [hW]; simp [go_sem]
  have k12 : W.cell? ⟨w.heap.size + 1, 2, none⟩ = some (.bool t.hn) := by rw [hW]; simp [go_sem]
  have k13 : W.cell? ⟨w.heap.size + 1, 3, none⟩ = some (.slice t.ha t.hN t.hc) := by rw [hW]; simp [go_sem]
  have k14 : W.cell? ⟨w.heap.size + 1, 4, none⟩ = some (.int .i64 t.bits) := by rw [hW]; simp [go_sem]
  have HK := hide (show ∀ w', Below W.heap.size W w' → (w'.cell? ⟨w.heap.size, 0, none⟩ = some (.bool s.ln) ∧ w'.cell? ⟨w.heap.size, 1, none⟩ = some (.slice s.la s.lN s.lc) ∧ w'.cell? ⟨w.heap.size, 2, none⟩ = some (.bool s.hn) ∧ w'.cell? ⟨w.heap.size, 3, none⟩ = some (.slice s.ha s.hN s.hc) ∧ w'.cell? ⟨w.heap.size, 4, none⟩ = some (.int .i64 s.bits) ∧ w'.cell? ⟨w.heap.size + 1, 0, none⟩ = some (.bool t.ln) ∧ w'.cell? ⟨w.heap.size + 1, 1, none⟩ = some (.slice t.la t.lN t.lc) ∧ w'.cell? ⟨w.heap.size + 1, 2, none⟩ = some (.bool t.hn) ∧ w'.cell? ⟨w.heap.size + 1, 3, none⟩ = some (.slice t.ha t.hN t.hc) ∧ w'.cell? ⟨w.heap.size + 1, 4, none⟩ = some (.int .i64 t.bits)) from fun w' hB => ⟨(hB.cell (p := ⟨w.heap.size, 0, none⟩) n0).trans k00, (hB.cell (p := ⟨w.heap.size, 1, none⟩) n0).trans k01, (hB.cell (p := ⟨w.heap.size, 2, none⟩) n0).trans k02, (hB.cell (p := ⟨w.heap.size, 3, none⟩) n0).trans k03, (hB.cell (p := ⟨w.heap.size, 4, none⟩) n0).trans k04, (hB.cell (p := ⟨w.heap.size + 1, 0, none⟩) n1).trans k10, (hB.cell (p := ⟨w.heap.size + 1, 1, none⟩) n1).trans k11, (hB.cell (p := ⟨w.heap.size + 1, 2, none⟩) n1).trans k12, (hB.cell (p := ⟨w.heap.size + 1, 3, none⟩) n1).trans k13, (hB.cell (p := ⟨w.heap.size + 1, 4, none⟩) n1).trans k14⟩)
  have hs1 := hide (hs.below hBW)
  have ht1 := hide (ht.below hBW)
  clear k00 k01 k02 k03 k04 k10 k11 k12 k13 k14 hs ht
  go_enter Try.func6, Try.ntmps6
  go_wp2_with fail
  rw [← hW]
  clear hW
  refine (HO W (unhide hs1) (unhide ht1)).mono ?_
  rintro r w1 ⟨rfl, hb1⟩
  have hB1 : Below W.heap.size W w1 := hb1
  obtain ⟨q0, q1, q2, q3, q4, q5, q6, q7, q8, q9⟩ := unhide HK w1 hB1
  go_wp2_with fail
  refine (HN w1 ((unhide hs1).below hB1) ((unhide ht1).below hB1)).mono ?_
  rintro r w2 ⟨rfl, hb2⟩
  have hB2 : Below W.heap.size W w2 := bthen hB1 hb2
  obtain ⟨q0, q1, q2, q3, q4, q5, q6, q7, q8, q9⟩ := unhide HK w2 hB2
  go_wp2_with fail
  go_region_held3 (fun w' => w'.cell? ⟨w.heap.size, 0, none⟩ = some (.bool s.ln) ∧ w'.cell? ⟨w.heap.size, 1, none⟩ = some (.slice s.la s.lN s.lc) ∧ w'.cell? ⟨w.heap.size, 2, none⟩ = some (.bool s.hn) ∧ w'.cell? ⟨w.heap.size, 3, none⟩ = some (.slice s.ha s.hN s.hc) ∧ w'.cell? ⟨w.heap.size, 4, none⟩ = some (.int .i64 s.bits) ∧ w'.cell? ⟨w.heap.size + 1, 0, none⟩ = some (.bool t.ln) ∧ w'.cell? ⟨w.heap.size + 1, 1, none⟩ = some (.slice t.la t.lN t.lc) ∧ w'.cell? ⟨w.heap.size + 1, 2, none⟩ = some (.bool t.hn) ∧ w'.cell? ⟨w.heap.size + 1, 3, none⟩ = some (.slice t.ha t.hN t.hc) ∧ w'.cell? ⟨w.heap.size + 1, 4, none⟩ = some (.int .i64 t.bits)) (exact unhide HK _ (by first | exact hB2.drew | exact hB3 | exact hB4))
    (first
      | (go_at_call 31; refine (HT _ ((unhide hs1).below hB2.drew) ((unhide ht1).below hB2.drew)).mono ?_; rintro r w3 ⟨rfl, hb3⟩; have hB3 : Below W.heap.size W w3 := bthen hB2.drew hb3)
      | (go_at_call 17; refine (HC _ ((unhide hs1).below hB3) ((unhide ht1).below hB3)).mono ?_; rintro r w4 ⟨rfl, hb4⟩; have hB4 : Below W.heap.size W w4 := bthen hB3 hb4))
  obtain ⟨q0, q1, q2, q3, q4, q5, q6, q7, q8, q9⟩ := unhide HK w4 hB4
  go_wp2_with fail
  refine (cmp_any _ _ _ _ _ _ _ _ e d' _ ((unhide hs1).below hB4).hi ((unhide ht1).below hB4).lo).mono ?_
  rintro r w5 ⟨rfl, hb5⟩
  have hB5 : Below W.heap.size W w5 := bthen hB4 hb5
  obtain ⟨q0, q1, q2, q3, q4, q5, q6, q7, q8, q9⟩ := unhide HK w5 hB5
  go_wp2_with fail
  refine (cmp_any _ _ _ _ _ _ _ _ d e' _ ((unhide hs1).below hB5).lo ((unhide ht1).below hB5).hi).mono ?_
  rintro r w6 ⟨rfl, hb6⟩
  have hB6 : Below W.heap.size W w6 := bthen hB5 hb6
  obtain ⟨q0, q1, q2, q3, q4, q5, q6, q7, q8, q9⟩ := unhide HK w6 hB6
  go_wp2_with fail
  refine (HB _ ((unhide hs1).below hB6) ((unhide ht1).below hB6)).mono ?_
  rintro r w7 ⟨rfl, hb7⟩
  have hB7 : Below W.heap.size W w7 := bthen hB6 hb7
  obtain ⟨q0, q1, q2, q3, q4, q5, q6, q7, q8, q9⟩ := unhide HK w7 hB7
  go_wp2_with fail
  refine (spanBegun_any _).mono ?_
  rintro r w8 ⟨rfl, hb8⟩
  have hB8 : Below W.heap.size W w8 := bthen hB7 hb8
  obtain ⟨q0, q1, q2, q3, q4, q5, q6, q7, q8, q9⟩ := unhide HK w8 hB8
  go_wp2_with fail
  go_ret
  exact ⟨by simp, bthen hBW hB8⟩

set_option maxRecDepth 100000 in
set_option maxHeartbeats 4000000 in
theorem ord_B3_N2 (w : World) (s t : Sp) (d e d' e' : Nat → Int) (n : Int) (hs : SpDig w s d e) (ht : SpDig w t d' e') (hn : n < 0) (hc1 : ¬ cmpI s.hn t.ln e d' s.hN t.lN < 0) (hc2 : ¬ 0 < cmpI s.ln t.hn d e' s.lN t.hN)
    (HO : Said2 44 #[.agg #[.bool s.ln, .slice s.la s.lN s.lc, .bool s.hn, .slice s.ha s.hN s.hc, .int .i64 s.bits], .agg #[.bool t.ln, .slice t.la t.lN t.lc, .bool t.hn, .slice t.ha t.hN t.hc, .int .i64 t.bits]] s t d e d' e' (.tuple #[.int .i64 (0), .int .i64 0]))
    (HN : Said2 45 #[.agg #[.bool s.ln, .slice s.la s.lN s.lc, .bool s.hn, .slice s.ha s.hN s.hc, .int .i64 s.bits], .int .i64 n] s t d e d' e' (.tuple #[.bool false, .int .i64 3]))
    (HT : Said2 31 #[.agg #[.bool s.ln, .slice s.la s.lN s.lc, .bool s.hn, .slice s.ha s.hN s.hc, .int .i64 s.bits], .agg #[.bool t.ln, .slice t.la t.lN t.lc, .bool t.hn, .slice t.ha t.hN t.hc, .int .i64 t.bits]] s t d e d' e' (.int .i64 0))
    (HC : Said2 17 #[.agg #[.bool s.ln, .slice s.la s.lN s.lc, .bool s.hn, .slice s.ha s.hN s.hc, .int .i64 s.bits]] s t d e d' e' (.int .i64 0)) :
    Calls Try.prog 6 #[.agg #[.bool s.ln, .slice s.la s.lN s.lc, .bool s.hn, .slice s.ha s.hN s.hc, .int .i64 s.bits], .agg #[.bool t.ln, .slice t.la t.lN t.lc, .bool t.hn, .slice t.ha t.hN t.hc, .int .i64 t.bits], .int .i64 n] w fun r w' => r = .returned (.bool true) ∧ Below w.heap.size w w' := by
  obtain ⟨W, hW⟩ : ∃ W, W = (w.alloc (.cells #[.bool s.ln, .slice s.la s.lN s.lc, .bool s.hn, .slice s.ha s.hN s.hc, .int .i64 s.bits] 26)).alloc (.cells #[.bool t.ln, .slice t.la t.lN t.lc, .bool t.hn, .slice t.ha t.hN t.hc, .int .i64 t.bits] 26) := ⟨_, rfl⟩
  have hBW : Below w.heap.size w W := by rw [hW]; exact bl2 _ _ _
  have n0 : w.heap.size < W.heap.size := by rw [hW]; simp; omega
  have n1 : w.heap.size + 1 < W.heap.size := by rw [hW]; simp
  have k00 : W.cell? ⟨w.heap.size, 0, none⟩ = some (.bool s.ln) := by rw [hW]; simp [go_sem]
  have k01 : W.cell? ⟨w.heap.size, 1, none⟩ = some (.slice s.la s.lN s.lc) := by rw [hW]; simp [go_sem]
  have k02 : W.cell? ⟨w.heap.size, 2, none⟩ = some (.bool s.hn) := by rw [hW]; simp [go_sem]
  have k03 : W.cell? ⟨w.heap.size, 3, none⟩ = some (.slice s.ha s.hN s.hc) := by rw [hW]; simp [go_sem]
  have k04 : W.cell? ⟨w.heap.size, 4, none⟩ = some (.int .i64 s.bits) := by rw [hW]; simp [go_sem]
  have k10 : W.cell? ⟨w.heap.size + 1, 0, none⟩ = some (.bool t.ln) := by rw [hW]; simp [go_sem]
  have k11 : W.cell? ⟨w.heap.size + 1, 1, none⟩ = some (.slice t.la t.lN t.lc) := by rw [hW]; simp [go_sem]
  have k12 : W.cell? ⟨w.heap.size + 1, 2, none⟩ = some (.bool t.hn) := by rw [hW]; simp [go_sem]
  have k13 : W.cell? ⟨w.heap.size + 1, 3, none⟩ = some (.slice t.ha t.hN t.hc) := by rw [hW]; simp [go_sem]
  have k14 : W.cell? ⟨w.heap.size + 1, 4, none⟩ = some (.int .i64 t.bits) := by rw [hW]; simp [go_sem]
  have HK := hide (show ∀ w', Below W.heap.size W w' → (w'.cell? ⟨w.heap.size, 0, none⟩ = some (.bool s.ln) ∧ w'.cell? ⟨w.heap.size, 1, none⟩ = some (.slice s.la s.lN s.lc) ∧ w'.cell? ⟨w.heap.size, 2, none⟩ = some (.bool s.hn) ∧ w'.cell? ⟨w.heap.size, 3, none⟩ = some (.slice s.ha s.hN s.hc) ∧ w'.cell? ⟨w.heap.size, 4, none⟩ = some (.int .i64 s.bits) ∧ w'.cell? ⟨w.heap.size + 1, 0, none⟩ = some (.bool t.ln) ∧ w'.cell? ⟨w.heap.size + 1, 1, none⟩ = some (.slice t.la t.lN t.lc) ∧ w'.cell? ⟨w.heap.size + 1, 2, none⟩ = some (.bool t.hn) ∧ w'.cell? ⟨w.heap.size + 1, 3, none⟩ = some (.slice t.ha t.hN t.hc) ∧ w'.cell? ⟨w.heap.size + 1, 4, none⟩ = some (.int .i64 t.bits)) from fun w' hB => ⟨(hB.cell (p := ⟨w.heap.size, 0, none⟩) n0).trans k00, (hB.cell (p := ⟨w.heap.size, 1, none⟩) n0).trans k01, (hB.cell (p := ⟨w.heap.size, 2, none⟩) n0).trans k02, (hB.cell (p := ⟨w.heap.size, 3, none⟩) n0).trans k03, (hB.cell (p := ⟨w.heap.size, 4, none⟩) n0).trans k04, (hB.cell (p := ⟨w.heap.size + 1, 0, none⟩) n1).trans k10, (hB.cell (p := ⟨w.heap.size + 1, 1, none⟩) n1).trans k11, (hB.cell (p := ⟨w.heap.size + 1, 2, none⟩) n1).trans k12, (hB.cell (p := ⟨w.heap.size + 1, 3, none⟩) n1).trans k13, (hB.cell (p := ⟨w.heap.size + 1, 4, none⟩) n1).trans k14⟩)
  have hs1 := hide (hs.below hBW)
  have ht1 := hide (ht.below hBW)
  clear k00 k01 k02 k03 k04 k10 k11 k12 k13 k14 hs ht
  go_enter Try.func6, Try.ntmps6
  go_wp2_with fail
  rw [← hW]
  clear hW
  refine (HO W (unhide hs1) (unhide ht1)).mono ?_
  rintro r w1 ⟨rfl, hb1⟩
  have hB1 : Below W.heap.size W w1 := hb1
  obtain ⟨q0, q1, q2, q3, q4, q5, q6, q7, q8, q9⟩ := unhide HK w1 hB1
  go_wp2_with fail
  refine (HN w1 ((unhide hs1).below hB1) ((unhide ht1).below hB1)).mono ?_
  rintro r w2 ⟨rfl, hb2⟩
  have hB2 : Below W.heap.size W w2 := bthen hB1 hb2
  obtain ⟨q0, q1, q2, q3, q4, q5, q6, q7, q8, q9⟩ := unhide HK w2 hB2
  go_wp2_with fail
  go_region_held3 (fun w' => w'.cell? ⟨w.heap.size, 0, none⟩ = some (.bool s.ln) ∧ w'.cell? ⟨w.heap.size, 1, none⟩ = some (.slice s.la s.lN s.lc) ∧ w'.cell? ⟨w.heap.size, 2, none⟩ = some (.bool s.hn) ∧ w'.cell? ⟨w.heap.size, 3, none⟩ = some (.slice s.ha s.hN s.hc) ∧ w'.cell? ⟨w.heap.size, 4, none⟩ = some (.int .i64 s.bits) ∧ w'.cell? ⟨w.heap.size + 1, 0, none⟩ = some (.bool t.ln) ∧ w'.cell? ⟨w.heap.size + 1, 1, none⟩ = some (.slice t.la t.lN t.lc) ∧ w'.cell? ⟨w.heap.size + 1, 2, none⟩ = some (.bool t.hn) ∧ w'.cell? ⟨w.heap.size + 1, 3, none⟩ = some (.slice t.ha t.hN t.hc) ∧ w'.cell? ⟨w.heap.size + 1, 4, none⟩ = some (.int .i64 t.bits)) (exact unhide HK _ (by first | exact hB2.drew | exact hB3 | exact hB4))
    (first
      | (go_at_call 31; refine (HT _ ((unhide hs1).below hB2.drew) ((unhide ht1).below hB2.drew)).mono ?_; rintro r w3 ⟨rfl, hb3⟩; have hB3 : Below W.heap.size W w3 := bthen hB2.drew hb3)
      | (go_at_call 17; refine (HC _ ((unhide hs1).below hB3) ((unhide ht1).below hB3)).mono ?_; rintro r w4 ⟨rfl, hb4⟩; have hB4 : Below W.heap.size W w4 := bthen hB3 hb4))
  obtain ⟨q0, q1, q2, q3, q4, q5, q6, q7, q8, q9⟩ := unhide HK w4 hB4
  go_wp2_with fail
  refine (cmp_any _ _ _ _ _ _ _ _ e d' _ ((unhide hs1).below hB4).hi ((unhide ht1).below hB4).lo).mono ?_
  rintro r w5 ⟨rfl, hb5⟩
  have hB5 : Below W.heap.size W w5 := bthen hB4 hb5
  obtain ⟨q0, q1, q2, q3, q4, q5, q6, q7, q8, q9⟩ := unhide HK w5 hB5
  go_wp2_with fail
  refine (cmp_any _ _ _ _ _ _ _ _ d e' _ ((unhide hs1).below hB5).lo ((unhide ht1).below hB5).hi).mono ?_
  rintro r w6 ⟨rfl, hb6⟩
  have hB6 : Below W.heap.size W w6 := bthen hB5 hb6
  obtain ⟨q0, q1, q2, q3, q4, q5, q6, q7, q8, q9⟩ := unhide HK w6 hB6
  go_wp2_with fail
  refine (spanBegun_any _).mono ?_
  rintro r w7 ⟨rfl, hb7⟩
  have hB7 : Below W.heap.size W w7 := bthen hB6 hb7
  obtain ⟨q0, q1, q2, q3, q4, q5, q6, q7, q8, q9⟩ := unhide HK w7 hB7
  go_wp2_with fail
  go_ret
  exact ⟨by simp, bthen hBW hB7⟩

set_option maxRecDepth 100000 in
set_option maxHeartbeats 4000000 in
theorem ord_B3_N3 (w : World) (s t : Sp) (d e d' e' : Nat → Int) (n : Int) (hs : SpDig w s d e) (ht : SpDig w t d' e') (hn0 : ¬ n < 0) (hn : 1000000 < n) (hc1 : ¬ cmpI s.hn t.ln e d' s.hN t.lN < 0) (hc2 : ¬ 0 < cmpI s.ln t.hn d e' s.lN t.hN)
    (HO : Said2 44 #[.agg #[.bool s.ln, .slice s.la s.lN s.lc, .bool s.hn, .slice s.ha s.hN s.hc, .int .i64 s.bits], .agg #[.bool t.ln, .slice t.la t.lN t.lc, .bool t.hn, .slice t.ha t.hN t.hc, .int .i64 t.bits]] s t d e d' e' (.tuple #[.int .i64 (0), .int .i64 0]))
    (HN : Said2 45 #[.agg #[.bool s.ln, .slice s.la s.lN s.lc, .bool s.hn, .slice s.ha s.hN s.hc, .int .i64 s.bits], .int .i64 n] s t d e d' e' (.tuple #[.bool false, .int .i64 3]))
    (HT : Said2 31 #[.agg #[.bool s.ln, .slice s.la s.lN s.lc, .bool s.hn, .slice s.ha s.hN s.hc, .int .i64 s.bits], .agg #[.bool t.ln, .slice t.la t.lN t.lc, .bool t.hn, .slice t.ha t.hN t.hc, .int .i64 t.bits]] s t d e d' e' (.int .i64 0))
    (HC : Said2 17 #[.agg #[.bool s.ln, .slice s.la s.lN s.lc, .bool s.hn, .slice s.ha s.hN s.hc, .int .i64 s.bits]] s t d e d' e' (.int .i64 0)) :
    Calls Try.prog 6 #[.agg #[.bool s.ln, .slice s.la s.lN s.lc, .bool s.hn, .slice s.ha s.hN s.hc, .int .i64 s.bits], .agg #[.bool t.ln, .slice t.la t.lN t.lc, .bool t.hn, .slice t.ha t.hN t.hc, .int .i64 t.bits], .int .i64 n] w fun r w' => r = .returned (.bool true) ∧ Below w.heap.size w w' := by
  obtain ⟨W, hW⟩ : ∃ W, W = (w.alloc (.cells #[.bool s.ln, .slice s.la s.lN s.lc, .bool s.hn, .slice s.ha s.hN s.hc, .int .i64 s.bits] 26)).alloc (.cells #[.bool t.ln, .slice t.la t.lN t.lc, .bool t.hn, .slice t.ha t.hN t.hc, .int .i64 t.bits] 26) := ⟨_, rfl⟩
  have hBW : Below w.heap.size w W := by rw [hW]; exact bl2 _ _ _
  have n0 : w.heap.size < W.heap.size := by rw [hW]; simp; omega
  have n1 : w.heap.size + 1 < W.heap.size := by rw [hW]; simp
  have k00 : W.cell? ⟨w.heap.size, 0, none⟩ = some (.bool s.ln) := by rw [hW]; simp [go_sem]
  have k01 : W.cell? ⟨w.heap.size, 1, none⟩ = some (.slice s.la s.lN s.lc) := by rw [hW]; simp [go_sem]
  have k02 : W.cell? ⟨w.heap.size, 2, none⟩ = some (.bool s.hn) := by rw [hW]; simp [go_sem]
  have k03 : W.cell? ⟨w.heap.size, 3, none⟩ = some (.slice s.ha s.hN s.hc) := by rw [hW]; simp [go_sem]
  have k04 : W.cell? ⟨w.heap.size, 4, none⟩ = some (.int .i64 s.bits) := by rw [hW]; simp [go_sem]
  have k10 : W.cell? ⟨w.heap.size + 1, 0, none⟩ = some (.bool t.ln) := by rw [hW]; simp [go_sem]
  have k11 : W.cell? ⟨w.heap.size + 1, 1, none⟩ = some (.slice t.la t.lN t.lc) := by rw [hW]; simp [go_sem]
  have k12 : W.cell? ⟨w.heap.size + 1, 2, none⟩ = some (.bool t.hn) := by rw [hW]; simp [go_sem]
  have k13 : W.cell? ⟨w.heap.size + 1, 3, none⟩ = some (.slice t.ha t.hN t.hc) := by rw [hW]; simp [go_sem]
  have k14 : W.cell? ⟨w.heap.size + 1, 4, none⟩ = some (.int .i64 t.bits) := by rw [hW]; simp [go_sem]
  have HK := hide (show ∀ w', Below W.heap.size W w' → (w'.cell? ⟨w.heap.size, 0, none⟩ = some (.bool s.ln) ∧ w'.cell? ⟨w.heap.size, 1, none⟩ = some (.slice s.la s.lN s.lc) ∧ w'.cell? ⟨w.heap.size, 2, none⟩ = some (.bool s.hn) ∧ w'.cell? ⟨w.heap.size, 3, none⟩ = some (.slice s.ha s.hN s.hc) ∧ w'.cell? ⟨w.heap.size, 4, none⟩ = some (.int .i64 s.bits) ∧ w'.cell? ⟨w.heap.size + 1, 0, none⟩ = some (.bool t.ln) ∧ w'.cell? ⟨w.heap.size + 1, 1, none⟩ = some (.slice t.la t.lN t.lc) ∧ w'.cell? ⟨w.heap.size + 1, 2, none⟩ = some (.bool t.hn) ∧ w'.cell? ⟨w.heap.size + 1, 3, none⟩ = some (.slice t.ha t.hN t.hc) ∧ w'.cell? ⟨w.heap.size + 1, 4, none⟩ = some (.int .i64 t.bits)) from fun w' hB => ⟨(hB.cell (p := ⟨w.heap.size, 0, none⟩) n0).trans k00, (hB.cell (p := ⟨w.heap.size, 1, none⟩) n0).trans k01, (hB.cell (p := ⟨w.heap.size, 2, none⟩) n0).trans k02, (hB.cell (p := ⟨w.heap.size, 3, none⟩) n0).trans k03, (hB.cell (p := ⟨w.heap.size, 4, none⟩) n0).trans k04, (hB.cell (p := ⟨w.heap.size + 1, 0, none⟩) n1).trans k10, (hB.cell (p := ⟨w.heap.size + 1, 1, none⟩) n1).trans k11, (hB.cell (p := ⟨w.heap.size + 1, 2, none⟩) n1).trans k12, (hB.cell (p := ⟨w.heap.size + 1, 3, none⟩) n1).trans k13, (hB.cell (p := ⟨w.heap.size + 1, 4, none⟩) n1).trans k14⟩)
  have hs1 := hide (hs.below hBW)
  have ht1 := hide (ht.below hBW)
  clear k00 k01 k02 k03 k04 k10 k11 k12 k13 k14 hs ht
  go_enter Try.func6, Try.ntmps6
  go_wp2_with fail
  rw [← hW]
  clear hW
  refine (HO W (unhide hs1) (unhide ht1)).mono ?_
  rintro r w1 ⟨rfl, hb1⟩
  have hB1 : Below W.heap.size W w1 := hb1
  obtain ⟨q0, q1, q2, q3, q4, q5, q6, q7, q8, q9⟩ := unhide HK w1 hB1
  go_wp2_with fail
  refine (HN w1 ((unhide hs1).below hB1) ((unhide ht1).below hB1)).mono ?_
  rintro r w2 ⟨rfl, hb2⟩
  have hB2 : Below W.heap.size W w2 := bthen hB1 hb2
  obtain ⟨q0, q1, q2, q3, q4, q5, q6, q7, q8, q9⟩ := unhide HK w2 hB2
  go_wp2_with fail
  go_region_held3 (fun w' => w'.cell? ⟨w.heap.size, 0, none⟩ = some (.bool s.ln) ∧ w'.cell? ⟨w.heap.size, 1, none⟩ = some (.slice s.la s.lN s.lc) ∧ w'.cell? ⟨w.heap.size, 2, none⟩ = some (.bool s.hn) ∧ w'.cell? ⟨w.heap.size, 3, none⟩ = some (.slice s.ha s.hN s.hc) ∧ w'.cell? ⟨w.heap.size, 4, none⟩ = some (.int .i64 s.bits) ∧ w'.cell? ⟨w.heap.size + 1, 0, none⟩ = some (.bool t.ln) ∧ w'.cell? ⟨w.heap.size + 1, 1, none⟩ = some (.slice t.la t.lN t.lc) ∧ w'.cell? ⟨w.heap.size + 1, 2, none⟩ = some (.bool t.hn) ∧ w'.cell? ⟨w.heap.size + 1, 3, none⟩ = some (.slice t.ha t.hN t.hc) ∧ w'.cell? ⟨w.heap.size + 1, 4, none⟩ = some (.int .i64 t.bits)) (exact unhide HK _ (by first | exact hB2.drew | exact hB3 | exact hB4))
    (first
      | (go_at_call 31; refine (HT _ ((unhide hs1).below hB2.drew) ((unhide ht1).below hB2.drew)).mono ?_; rintro r w3 ⟨rfl, hb3⟩; have hB3 : Below W.heap.size W w3 := bthen hB2.drew hb3)
      | (go_at_call 17; refine (HC _ ((unhide hs1).below hB3) ((unhide ht1).below hB3)).mono ?_; rintro r w4 ⟨rfl, hb4⟩; have hB4 : Below W.heap.size W w4 := bthen hB3 hb4))
  obtain ⟨q0, q1, q2, q3, q4, q5, q6, q7, q8, q9⟩ := unhide HK w4 hB4
  go_wp2_with fail
  refine (cmp_any _ _ _ _ _ _ _ _ e d' _ ((unhide hs1).below hB4).hi ((unhide ht1).below hB4).lo).mono ?_
  rintro r w5 ⟨rfl, hb5⟩
  have hB5 : Below W.heap.size W w5 := bthen hB4 hb5
  obtain ⟨q0, q1, q2, q3, q4, q5, q6, q7, q8, q9⟩ := unhide HK w5 hB5
  go_wp2_with fail
  refine (cmp_any _ _ _ _ _ _ _ _ d e' _ ((unhide hs1).below hB5).lo ((unhide ht1).below hB5).hi).mono ?_
  rintro r w6 ⟨rfl, hb6⟩
  have hB6 : Below W.heap.size W w6 := bthen hB5 hb6
  obtain ⟨q0, q1, q2, q3, q4, q5, q6, q7, q8, q9⟩ := unhide HK w6 hB6
  go_wp2_with fail
  refine (spanBegun_any _).mono ?_
  rintro r w7 ⟨rfl, hb7⟩
  have hB7 : Below W.heap.size W w7 := bthen hB6 hb7
  obtain ⟨q0, q1, q2, q3, q4, q5, q6, q7, q8, q9⟩ := unhide HK w7 hB7
  go_wp2_with fail
  go_ret
  exact ⟨by simp, bthen hBW hB7⟩

set_option maxRecDepth 100000 in
set_option maxHeartbeats 4000000 in
theorem ord_B3_N4 (w : World) (s t : Sp) (d e d' e' : Nat → Int) (n : Int) (hs : SpDig w s d e) (ht : SpDig w t d' e') (hn0 : ¬ n < 0) (hn : ¬ 1000000 < n) (b : Bool) (hc1 : ¬ cmpI s.hn t.ln e d' s.hN t.lN < 0) (hc2 : ¬ 0 < cmpI s.ln t.hn d e' s.lN t.hN)
    (HO : Said2 44 #[.agg #[.bool s.ln, .slice s.la s.lN s.lc, .bool s.hn, .slice s.ha s.hN s.hc, .int .i64 s.bits], .agg #[.bool t.ln, .slice t.la t.lN t.lc, .bool t.hn, .slice t.ha t.hN t.hc, .int .i64 t.bits]] s t d e d' e' (.tuple #[.int .i64 (0), .int .i64 0]))
    (HN : Said2 45 #[.agg #[.bool s.ln, .slice s.la s.lN s.lc, .bool s.hn, .slice s.ha s.hN s.hc, .int .i64 s.bits], .int .i64 n] s t d e d' e' (.tuple #[.bool b, .int .i64 0]))
    (HT : Said2 31 #[.agg #[.bool s.ln, .slice s.la s.lN s.lc, .bool s.hn, .slice s.ha s.hN s.hc, .int .i64 s.bits], .agg #[.bool t.ln, .slice t.la t.lN t.lc, .bool t.hn, .slice t.ha t.hN t.hc, .int .i64 t.bits]] s t d e d' e' (.int .i64 0))
    (HC : Said2 17 #[.agg #[.bool s.ln, .slice s.la s.lN s.lc, .bool s.hn, .slice s.ha s.hN s.hc, .int .i64 s.bits]] s t d e d' e' (.int .i64 0))
    (HB : Said2 46 #[.agg #[.bool s.ln, .slice s.la s.lN s.lc, .bool s.hn, .slice s.ha s.hN s.hc, .int .i64 s.bits], .int .i64 n] s t d e d' e' (.bool b)) :
    Calls Try.prog 6 #[.agg #[.bool s.ln, .slice s.la s.lN s.lc, .bool s.hn, .slice s.ha s.hN s.hc, .int .i64 s.bits], .agg #[.bool t.ln, .slice t.la t.lN t.lc, .bool t.hn, .slice t.ha t.hN t.hc, .int .i64 t.bits], .int .i64 n] w fun r w' => r = .returned (.bool true) ∧ Below w.heap.size w w' := by
  obtain ⟨W, hW⟩ : ∃ W, W = (w.alloc (.cells #[.bool s.ln, .slice s.la s.lN s.lc, .bool s.hn, .slice s.ha s.hN s.hc, .int .i64 s.bits] 26)).alloc (.cells #[.bool t.ln, .slice t.la t.lN t.lc, .bool t.hn, .slice t.ha t.hN t.hc, .int .i64 t.bits] 26) := ⟨_, rfl⟩
  have hBW : Below w.heap.size w W := by rw [hW]; exact bl2 _ _ _
  have n0 : w.heap.size < W.heap.size := by rw [hW]; simp; omega
  have n1 : w.heap.size + 1 < W.heap.size := by rw [hW]; simp
  have k00 : W.cell? ⟨w.heap.size, 0, none⟩ = some (.bool s.ln) := by rw [hW]; simp [go_sem]
  have k01 : W.cell? ⟨w.heap.size, 1, none⟩ = some (.slice s.la s.lN s.lc) := by rw [hW]; simp [go_sem]
  have k02 : W.cell? ⟨w.heap.size, 2, none⟩ = some (.bool s.hn) := by rw [hW]; simp [go_sem]
  have k03 : W.cell? ⟨w.heap.size, 3, none⟩ = some (.slice s.ha s.hN s.hc) := by rw [hW]; simp [go_sem]
  have k04 : W.cell? ⟨w.heap.size, 4, none⟩ = some (.int .i64 s.bits) := by rw [hW]; simp [go_sem]
  have k10 : W.cell? ⟨w.heap.size + 1, 0, none⟩ = some (.bool t.ln) := by rw [hW]; simp [go_sem]
  have k11 : W.cell? ⟨w.heap.size + 1, 1, none⟩ = some (.slice t.la t.lN t.lc) := by rw [hW]; simp [go_sem]
  have k12 : W.cell? ⟨w.heap.size + 1, 2, none⟩ = some (.bool t.hn) := by rw [hW]; simp [go_sem]
  have k13 : W.cell? ⟨w.heap.size + 1, 3, none⟩ = some (.slice t.ha t.hN t.hc) := by rw [hW]; simp [go_sem]
  have k14 : W.cell? ⟨w.heap.size + 1, 4, none⟩ = some (.int .i64 t.bits) := by rw [hW]; simp [go_sem]
  have HK := hide (show ∀ w', Below W.heap.size W w' → (w'.cell? ⟨w.heap.size, 0, none⟩ = some (.bool s.ln) ∧ w'.cell? ⟨w.heap.size, 1, none⟩ = some (.slice s.la s.lN s.lc) ∧ w'.cell? ⟨w.heap.size, 2, none⟩ = some (.bool s.hn) ∧ w'.cell? ⟨w.heap.size, 3, none⟩ = some (.slice s.ha s.hN s.hc) ∧ w'.cell? ⟨w.heap.size, 4, none⟩ = some (.int .i64 s.bits) ∧ w'.cell? ⟨w.heap.size + 1, 0, none⟩ = some (.bool t.ln) ∧ w'.cell? ⟨w.heap.size + 1, 1, none⟩ = some (.slice t.la t.lN t.lc) ∧ w'.cell? ⟨w.heap.size + 1, 2, none⟩ = some (.bool t.hn) ∧ w'.cell? ⟨w.heap.size + 1, 3, none⟩ = some (.slice t.ha t.hN t.hc) ∧ w'.cell? ⟨w.heap.size + 1, 4, none⟩ = some (.int .i64 t.bits)) from fun w' hB => ⟨(hB.cell (p := ⟨w.heap.size, 0, none⟩) n0).trans k00, (hB.cell (p := ⟨w.heap.size, 1, none⟩) n0).trans k01, (hB.cell (p := ⟨w.heap.size, 2, none⟩) n0).trans k02, (hB.cell (p := ⟨w.heap.size, 3, none⟩) n0).trans k03, (hB.cell (p := ⟨w.heap.size, 4, none⟩) n0).trans k04, (hB.cell (p := ⟨w.heap.size + 1, 0, none⟩) n1).trans k10, (hB.cell (p := ⟨w.heap.size + 1, 1, none⟩) n1).trans k11, (hB.cell (p := ⟨w.heap.size + 1, 2, none⟩) n1).trans k12, (hB.cell (p := ⟨w.heap.size + 1, 3, none⟩) n1).trans k13, (hB.cell (p := ⟨w.heap.size + 1, 4, none⟩) n1).trans k14⟩)
  have hs1 := hide (hs.below hBW)
  have ht1 := hide (ht.below hBW)
  clear k00 k01 k02 k03 k04 k10 k11 k12 k13 k14 hs ht
  go_enter Try.func6, Try.ntmps6
  go_wp2_with fail
  rw [← hW]
  clear hW
  refine (HO W (unhide hs1) (unhide ht1)).mono ?_
  rintro r w1 ⟨rfl, hb1⟩
  have hB1 : Below W.heap.size W w1 := hb1
  obtain ⟨q0, q1, q2, q3, q4, q5, q6, q7, q8, q9⟩ := unhide HK w1 hB1
  go_wp2_with fail
  refine (HN w1 ((unhide hs1).below hB1) ((unhide ht1).below hB1)).mono ?_
  rintro r w2 ⟨rfl, hb2⟩
  have hB2 : Below W.heap.size W w2 := bthen hB1 hb2
  obtain ⟨q0, q1, q2, q3, q4, q5, q6, q7, q8, q9⟩ := unhide HK w2 hB2
  go_wp2_with fail
  go_region_held3 (fun w' => w'.cell? ⟨w.heap.size, 0, none⟩ = some (.bool s.ln) ∧ w'.cell? ⟨w.heap.size, 1, none⟩ = some (.slice s.la s.lN s.lc) ∧ w'.cell? ⟨w.heap.size, 2, none⟩ = some (.bool s.hn) ∧ w'.cell? ⟨w.heap.size, 3, none⟩ = some (.slice s.ha s.hN s.hc) ∧ w'.cell? ⟨w.heap.size, 4, none⟩ = some (.int .i64 s.bits) ∧ w'.cell? ⟨w.heap.size + 1, 0, none⟩ = some (.bool t.ln) ∧ w'.cell? ⟨w.heap.size + 1, 1, none⟩ = some (.slice t.la t.lN t.lc) ∧ w'.cell? ⟨w.heap.size + 1, 2, none⟩ = some (.bool t.hn) ∧ w'.cell? ⟨w.heap.size + 1, 3, none⟩ = some (.slice t.ha t.hN t.hc) ∧ w'.cell? ⟨w.heap.size + 1, 4, none⟩ = some (.int .i64 t.bits)) (exact unhide HK _ (by first | exact hB2.drew | exact hB3 | exact hB4))
    (first
      | (go_at_call 31; refine (HT _ ((unhide hs1).below hB2.drew) ((unhide ht1).below hB2.drew)).mono ?_; rintro r w3 ⟨rfl, hb3⟩; have hB3 : Below W.heap.size W w3 := bthen hB2.drew hb3)
      | (go_at_call 17; refine (HC _ ((unhide hs1).below hB3) ((unhide ht1).below hB3)).mono ?_; rintro r w4 ⟨rfl, hb4⟩; have hB4 : Below W.heap.size W w4 := bthen hB3 hb4))
  obtain ⟨q0, q1, q2, q3, q4, q5, q6, q7, q8, q9⟩ := unhide HK w4 hB4
  go_wp2_with fail
  refine (cmp_any _ _ _ _ _ _ _ _ e d' _ ((unhide hs1).below hB4).hi ((unhide ht1).below hB4).lo).mono ?_
  rintro r w5 ⟨rfl, hb5⟩
  have hB5 : Below W.heap.size W w5 := bthen hB4 hb5
  obtain ⟨q0, q1, q2, q3, q4, q5, q6, q7, q8, q9⟩ := unhide HK w5 hB5
  go_wp2_with fail
  refine (cmp_any _ _ _ _ _ _ _ _ d e' _ ((unhide hs1).below hB5).lo ((unhide ht1).below hB5).hi).mono ?_
  rintro r w6 ⟨rfl, hb6⟩
  have hB6 : Below W.heap.size W w6 := bthen hB5 hb6
  obtain ⟨q0, q1, q2, q3, q4, q5, q6, q7, q8, q9⟩ := unhide HK w6 hB6
  go_wp2_with fail
  refine (HB _ ((unhide hs1).below hB6) ((unhide ht1).below hB6)).mono ?_
  rintro r w7 ⟨rfl, hb7⟩
  have hB7 : Below W.heap.size W w7 := bthen hB6 hb7
  obtain ⟨q0, q1, q2, q3, q4, q5, q6, q7, q8, q9⟩ := unhide HK w7 hB7
  go_wp2_with fail
  refine (spanBegun_any _).mono ?_
  rintro r w8 ⟨rfl, hb8⟩
  have hB8 : Below W.heap.size W w8 := bthen hB7 hb8
  obtain ⟨q0, q1, q2, q3, q4, q5, q6, q7, q8, q9⟩ := unhide HK w8 hB8
  go_wp2_with fail
  go_ret
  exact ⟨by simp, bthen hBW hB8⟩

end Go.Proofs.Ytgmnknmjainabaa
