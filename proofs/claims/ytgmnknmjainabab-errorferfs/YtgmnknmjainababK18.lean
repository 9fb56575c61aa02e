/-
  What tailsurelaw.inside answers, whatever its bounds, and that it leaves old memory alone.
  What tailsureref.Scaled answers, and that it leaves old memory alone.
  The reference's way to what the angles make: its numbers, its end, what it has; and that it is very near the other one. Plain arithmetic: no statement of the seat is proved here.
  What wide.RareOne and tailsureref.raisedInt answer, and that they leave old memory alone.
  What tailsureref.raisedInt, countTerm and CountMass answer, and that they leave old memory alone.
  What tailsureref.Clip and tailsurelaw.inside answer, and that they leave old memory alone.
-/
import Derived.Test.YtgmnknmjainababK17
namespace Go.Proofs.Ytgmnknmjainabab
set_option linter.unusedVariables false
set_option linter.unusedSimpArgs false
set_option linter.unnecessarySimpa false
open Go.RowKit
attribute [local go_sem ↓] Go.wp_at_zero Go.wp_at_succ

theorem refWholeZ {b : Nat} (z : Int) (hz : z = (b : Int)) (w : World) (n : Int) (hb : b ≤ 100000) (h0 : -9223372036854775808 ≤ n) (h1 : n ≤ 9223372036854775807) :
    Calls Try.prog 17 #[.int .i64 n, .int .i64 z] w (SpanAns w b (b / 16 + 18) (n * Q b) (n * Q b)) := by
  subst hz; exact refWhole w n b hb h0 h1

set_option maxRecDepth 100000 in
set_option maxHeartbeats 4000000 in
theorem ins_aa (w : World) (s : Sp) (K b : Nat) (lo hi m1 m2 : Int) (hs : SpAt w s K lo hi) (hbits : s.bits = (b : Int)) (hb : b ≤ 10000) (hm1 : -1000 ≤ m1) (hm2 : m1 ≤ 1000) (hm3 : -1000 ≤ m2) (hm4 : m2 ≤ 1000) (h1 : cmpInt lo (m1 * Q b) = 0) (h2 : cmpInt hi (m2 * Q b) = -1) :
    Calls Try.prog 18 #[.agg #[.bool s.ln, .slice s.la s.lN s.lc, .bool s.hn, .slice s.ha s.hN s.hc, .int .i64 s.bits], .int .i64 m1, .int .i64 m2] w fun r w' => r = .returned (.bool true) ∧ Below w.heap.size w w' := by
  obtain ⟨W, hW⟩ : ∃ W, W = w.alloc (.cells #[.bool s.ln, .slice s.la s.lN s.lc, .bool s.hn, .slice s.ha s.hN s.hc, .int .i64 s.bits] 28) := ⟨_, rfl⟩
  have hBW : Below w.heap.size w W := by rw [hW]; exact bl1 _ _
  have A : SpC W w.heap.size s := by rw [hW]; exact ⟨by simp [go_sem], by simp [go_sem], by simp [go_sem], by simp [go_sem], by simp [go_sem]⟩
  have HS := hide (hs.below hBW)
  have HB := hide hbits
  have H1 := hide h1
  have H2 := hide h2
  have HK := hide (show ∀ w', Below W.heap.size W w' → (w'.cell? ⟨w.heap.size, 0, none⟩ = some (.bool s.ln) ∧ w'.cell? ⟨w.heap.size, 1, none⟩ = some (.slice s.la s.lN s.lc) ∧ w'.cell? ⟨w.heap.size, 2, none⟩ = some (.bool s.hn) ∧ w'.cell? ⟨w.heap.size, 3, none⟩ = some (.slice s.ha s.hN s.hc) ∧ w'.cell? ⟨w.heap.size, 4, none⟩ = some (.int .i64 s.bits)) from fun w' hB => ⟨(A.below hB).c0, (A.below hB).c1, (A.below hB).c2, (A.below hB).c3, (A.below hB).c4⟩)
  clear hs hbits h1 h2 A
  have hf0 := fieldS0
  go_enter Try.func18, Try.ntmps18
  go_wp2
  rw [← hW]
  clear hW
  obtain ⟨x0, x1, x2, x3, x4⟩ := unhide HK _ (Below.refl _ _)
  have hD0 : Below W.heap.size W W.drew := (Below.refl _ _).drew
  go_region_held3 (fun w' => w'.cell? ⟨w.heap.size, 0, none⟩ = some (.bool s.ln) ∧ w'.cell? ⟨w.heap.size, 1, none⟩ = some (.slice s.la s.lN s.lc) ∧ w'.cell? ⟨w.heap.size, 2, none⟩ = some (.bool s.hn) ∧ w'.cell? ⟨w.heap.size, 3, none⟩ = some (.slice s.ha s.hN s.hc) ∧ w'.cell? ⟨w.heap.size, 4, none⟩ = some (.int .i64 s.bits)) (first | exact unhide HK _ (by first | with_reducible exact hD0 | with_reducible exact hD4 | with_reducible exact hD3 | with_reducible exact hD2 | with_reducible exact hD1) | go_keep)
    (first
      | (go_at_call 24; have hqq := hD3; refine (cmp_int _ _ _ _ _ _ _ _ _ _ hi (m2 * Q b) _ ((unhide HS).hi.below hD3) hs3.lo).mono ?_; rintro r' w4 ⟨rfl, hb4⟩; rw [unhide H2]; have hD4 := bthen hD3 hb4)
      | (go_at_call 17; have hqq := hD2; refine (refWholeZ s.bits (unhide HB) _ m2 (by omega) (by omega) (by omega)).mono ?_; rintro r' w3 ⟨v3, rfl, hvb3, hs3, hb3⟩; clear hvb3; have hD3 := bthen hD2 hb3)
      | (go_at_call 24; have hqq := hD1; refine (cmp_int _ _ _ _ _ _ _ _ _ _ lo (m1 * Q b) _ ((unhide HS).lo.below hD1) hs1.lo).mono ?_; rintro r' w2 ⟨rfl, hb2⟩; rw [unhide H1]; have hD2 := bthen hD1 hb2)
      | (go_at_call 17; refine (refWholeZ s.bits (unhide HB) _ m1 (by omega) (by omega) (by omega)).mono ?_; rintro r' w1 ⟨v1, rfl, hvb1, hs1, hb1⟩; clear hvb1; have hD1 := bthen hD0 hb1))
  all_goals
    go_wp2_with fail
    go_ret
    exact ⟨rfl, bthen hBW hD4⟩

set_option maxRecDepth 100000 in
set_option maxHeartbeats 4000000 in
theorem ins_ab (w : World) (s : Sp) (K b : Nat) (lo hi m1 m2 : Int) (hs : SpAt w s K lo hi) (hbits : s.bits = (b : Int)) (hb : b ≤ 10000) (hm1 : -1000 ≤ m1) (hm2 : m1 ≤ 1000) (hm3 : -1000 ≤ m2) (hm4 : m2 ≤ 1000) (h1 : cmpInt lo (m1 * Q b) = 0) (h2 : cmpInt hi (m2 * Q b) = 0) :
    Calls Try.prog 18 #[.agg #[.bool s.ln, .slice s.la s.lN s.lc, .bool s.hn, .slice s.ha s.hN s.hc, .int .i64 s.bits], .int .i64 m1, .int .i64 m2] w fun r w' => r = .returned (.bool true) ∧ Below w.heap.size w w' := by
  obtain ⟨W, hW⟩ : ∃ W, W = w.alloc (.cells #[.bool s.ln, .slice s.la s.lN s.lc, .bool s.hn, .slice s.ha s.hN s.hc, .int .i64 s.bits] 28) := ⟨_, rfl⟩
  have hBW : Below w.heap.size w W := by rw [hW]; exact bl1 _ _
  have A : SpC W w.heap.size s := by rw [hW]; exact ⟨by simp [go_sem], by simp [go_sem], by simp [go_sem], by simp [go_sem], by simp [go_sem]⟩
  have HS := hide (hs.below hBW)
  have HB := hide hbits
  have H1 := hide h1
  have H2 := hide h2
  have HK := hide (show ∀ w', Below W.heap.size W w' → (w'.cell? ⟨w.heap.size, 0, none⟩ = some (.bool s.ln) ∧ w'.cell? ⟨w.heap.size, 1, none⟩ = some (.slice s.la s.lN s.lc) ∧ w'.cell? ⟨w.heap.size, 2, none⟩ = some (.bool s.hn) ∧ w'.cell? ⟨w.heap.size, 3, none⟩ = some (.slice s.ha s.hN s.hc) ∧ w'.cell? ⟨w.heap.size, 4, none⟩ = some (.int .i64 s.bits)) from fun w' hB => ⟨(A.below hB).c0, (A.below hB).c1, (A.below hB).c2, (A.below hB).c3, (A.below hB).c4⟩)
  clear hs hbits h1 h2 A
  have hf0 := fieldS0
  go_enter Try.func18, Try.ntmps18
  go_wp2
  rw [← hW]
  clear hW
  obtain ⟨x0, x1, x2, x3, x4⟩ := unhide HK _ (Below.refl _ _)
  have hD0 : Below W.heap.size W W.drew := (Below.refl _ _).drew
  go_region_held3 (fun w' => w'.cell? ⟨w.heap.size, 0, none⟩ = some (.bool s.ln) ∧ w'.cell? ⟨w.heap.size, 1, none⟩ = some (.slice s.la s.lN s.lc) ∧ w'.cell? ⟨w.heap.size, 2, none⟩ = some (.bool s.hn) ∧ w'.cell? ⟨w.heap.size, 3, none⟩ = some (.slice s.ha s.hN s.hc) ∧ w'.cell? ⟨w.heap.size, 4, none⟩ = some (.int .i64 s.bits)) (first | exact unhide HK _ (by first | with_reducible exact hD0 | with_reducible exact hD4 | with_reducible exact hD3 | with_reducible exact hD2 | with_reducible exact hD1) | go_keep)
    (first
      | (go_at_call 24; have hqq := hD3; refine (cmp_int _ _ _ _ _ _ _ _ _ _ hi (m2 * Q b) _ ((unhide HS).hi.below hD3) hs3.lo).mono ?_; rintro r' w4 ⟨rfl, hb4⟩; rw [unhide H2]; have hD4 := bthen hD3 hb4)
      | (go_at_call 17; have hqq := hD2; refine (refWholeZ s.bits (unhide HB) _ m2 (by omega) (by omega) (by omega)).mono ?_; rintro r' w3 ⟨v3, rfl, hvb3, hs3, hb3⟩; clear hvb3; have hD3 := bthen hD2 hb3)
      | (go_at_call 24; have hqq := hD1; refine (cmp_int _ _ _ _ _ _ _ _ _ _ lo (m1 * Q b) _ ((unhide HS).lo.below hD1) hs1.lo).mono ?_; rintro r' w2 ⟨rfl, hb2⟩; rw [unhide H1]; have hD2 := bthen hD1 hb2)
      | (go_at_call 17; refine (refWholeZ s.bits (unhide HB) _ m1 (by omega) (by omega) (by omega)).mono ?_; rintro r' w1 ⟨v1, rfl, hvb1, hs1, hb1⟩; clear hvb1; have hD1 := bthen hD0 hb1))
  all_goals
    go_wp2_with fail
    go_ret
    exact ⟨rfl, bthen hBW hD4⟩

set_option maxRecDepth 100000 in
set_option maxHeartbeats 4000000 in
theorem ins_ba (w : World) (s : Sp) (K b : Nat) (lo hi m1 m2 : Int) (hs : SpAt w s K lo hi) (hbits : s.bits = (b : Int)) (hb : b ≤ 10000) (hm1 : -1000 ≤ m1) (hm2 : m1 ≤ 1000) (hm3 : -1000 ≤ m2) (hm4 : m2 ≤ 1000) (h1 : cmpInt lo (m1 * Q b) = 1) (h2 : cmpInt hi (m2 * Q b) = -1) :
    Calls Try.prog 18 #[.agg #[.bool s.ln, .slice s.la s.lN s.lc, .bool s.hn, .slice s.ha s.hN s.hc, .int .i64 s.bits], .int .i64 m1, .int .i64 m2] w fun r w' => r = .returned (.bool true) ∧ Below w.heap.size w w' := by
  obtain ⟨W, hW⟩ : ∃ W, W = w.alloc (.cells #[.bool s.ln, .slice s.la s.lN s.lc, .bool s.hn, .slice s.ha s.hN s.hc, .int .i64 s.bits] 28) := ⟨_, rfl⟩
  have hBW : Below w.heap.size w W := by rw [hW]; exact bl1 _ _
  have A : SpC W w.heap.size s := by rw [hW]; exact ⟨by simp [go_sem], by simp [go_sem], by simp [go_sem], by simp [go_sem], by simp [go_sem]⟩
  have HS := hide (hs.below hBW)
  have HB := hide hbits
  have H1 := hide h1
  have H2 := hide h2
  have HK := hide (show ∀ w', Below W.heap.size W w' → (w'.cell? ⟨w.heap.size, 0, none⟩ = some (.bool s.ln) ∧ w'.cell? ⟨w.heap.size, 1, none⟩ = some (.slice s.la s.lN s.lc) ∧ w'.cell? ⟨w.heap.size, 2, none⟩ = some (.bool s.hn) ∧ w'.cell? ⟨w.heap.size, 3, none⟩ = some (.slice s.ha s.hN s.hc) ∧ w'.cell? ⟨w.heap.size, 4, none⟩ = some (.int .i64 s.bits)) from fun w' hB => ⟨(A.below hB).c0, (A.below hB).c1, (A.below hB).c2, (A.below hB).c3, (A.below hB).c4⟩)
  clear hs hbits h1 h2 A
  have hf0 := fieldS0
  go_enter Try.func18, Try.ntmps18
  go_wp2
  rw [← hW]
  clear hW
  obtain ⟨x0, x1, x2, x3, x4⟩ := unhide HK _ (Below.refl _ _)
  have hD0 : Below W.heap.size W W.drew := (Below.refl _ _).drew
  go_region_held3 (fun w' => w'.cell? ⟨w.heap.size, 0, none⟩ = some (.bool s.ln) ∧ w'.cell? ⟨w.heap.size, 1, none⟩ = some (.slice s.la s.lN s.lc) ∧ w'.cell? ⟨w.heap.size, 2, none⟩ = some (.bool s.hn) ∧ w'.cell? ⟨w.heap.size, 3, none⟩ = some (.slice s.ha s.hN s.hc) ∧ w'.cell? ⟨w.heap.size, 4, none⟩ = some (.int .i64 s.bits)) (first | exact unhide HK _ (by first | with_reducible exact hD0 | with_reducible exact hD4 | with_reducible exact hD3 | with_reducible exact hD2 | with_reducible exact hD1) | go_keep)
    (first
      | (go_at_call 24; have hqq := hD3; refine (cmp_int _ _ _ _ _ _ _ _ _ _ hi (m2 * Q b) _ ((unhide HS).hi.below hD3) hs3.lo).mono ?_; rintro r' w4 ⟨rfl, hb4⟩; rw [unhide H2]; have hD4 := bthen hD3 hb4)
      | (go_at_call 17; have hqq := hD2; refine (refWholeZ s.bits (unhide HB) _ m2 (by omega) (by omega) (by omega)).mono ?_; rintro r' w3 ⟨v3, rfl, hvb3, hs3, hb3⟩; clear hvb3; have hD3 := bthen hD2 hb3)
      | (go_at_call 24; have hqq := hD1; refine (cmp_int _ _ _ _ _ _ _ _ _ _ lo (m1 * Q b) _ ((unhide HS).lo.below hD1) hs1.lo).mono ?_; rintro r' w2 ⟨rfl, hb2⟩; rw [unhide H1]; have hD2 := bthen hD1 hb2)
      | (go_at_call 17; refine (refWholeZ s.bits (unhide HB) _ m1 (by omega) (by omega) (by omega)).mono ?_; rintro r' w1 ⟨v1, rfl, hvb1, hs1, hb1⟩; clear hvb1; have hD1 := bthen hD0 hb1))
  all_goals
    go_wp2_with fail
    go_ret
    exact ⟨rfl, bthen hBW hD4⟩

set_option maxRecDepth 100000 in
set_option maxHeartbeats 4000000 in
theorem ins_bb (w : World) (s : Sp) (K b : Nat) (lo hi m1 m2 : Int) (hs : SpAt w s K lo hi) (hbits : s.bits = (b : Int)) (hb : b ≤ 10000) (hm1 : -1000 ≤ m1) (hm2 : m1 ≤ 1000) (hm3 : -1000 ≤ m2) (hm4 : m2 ≤ 1000) (h1 : cmpInt lo (m1 * Q b) = 1) (h2 : cmpInt hi (m2 * Q b) = 0) :
    Calls Try.prog 18 #[.agg #[.bool s.ln, .slice s.la s.lN s.lc, .bool s.hn, .slice s.ha s.hN s.hc, .int .i64 s.bits], .int .i64 m1, .int .i64 m2] w fun r w' => r = .returned (.bool true) ∧ Below w.heap.size w w' := by
  obtain ⟨W, hW⟩ : ∃ W, W = w.alloc (.cells #[.bool s.ln, .slice s.la s.lN s.lc, .bool s.hn, .slice s.ha s.hN s.hc, .int .i64 s.bits] 28) := ⟨_, rfl⟩
  have hBW : Below w.heap.size w W := by rw [hW]; exact bl1 _ _
  have A : SpC W w.heap.size s := by rw [hW]; exact ⟨by simp [go_sem], by simp [go_sem], by simp [go_sem], by simp [go_sem], by simp [go_sem]⟩
  have HS := hide (hs.below hBW)
  have HB := hide hbits
  have H1 := hide h1
  have H2 := hide h2
  have HK := hide (show ∀ w', Below W.heap.size W w' → (w'.cell? ⟨w.heap.size, 0, none⟩ = some (.bool s.ln) ∧ w'.cell? ⟨w.heap.size, 1, none⟩ = some (.slice s.la s.lN s.lc) ∧ w'.cell? ⟨w.heap.size, 2, none⟩ = some (.bool s.hn) ∧ w'.cell? ⟨w.heap.size, 3, none⟩ = some (.slice s.ha s.hN s.hc) ∧ w'.cell? ⟨w.heap.size, 4, none⟩ = some (.int .i64 s.bits)) from fun w' hB => ⟨(A.below hB).c0, (A.below hB).c1, (A.below hB).c2, (A.below hB).c3, (A.below hB).c4⟩)
  clear hs hbits h1 h2 A
  have hf0 := fieldS0
  go_enter Try.func18, Try.ntmps18
  go_wp2
  rw [← hW]
  clear hW
  obtain ⟨x0, x1, x2, x3, x4⟩ := unhide HK _ (Below.refl _ _)
  have hD0 : Below W.heap.size W W.drew := (Below.refl _ _).drew
  go_region_held3 (fun w' => w'.cell? ⟨w.heap.size, 0, none⟩ = some (.bool s.ln) ∧ w'.cell? ⟨w.heap.size, 1, none⟩ = some (.slice s.la s.lN s.lc) ∧ w'.cell? ⟨w.heap.size, 2, none⟩ = some (.bool s.hn) ∧ w'.cell? ⟨w.heap.size, 3, none⟩ = some (.slice s.ha s.hN s.hc) ∧ w'.cell? ⟨w.heap.size, 4, none⟩ = some (.int .i64 s.bits)) (first | exact unhide HK _ (by first | with_reducible exact hD0 | with_reducible exact hD4 | with_reducible exact hD3 | with_reducible exact hD2 | with_reducible exact hD1) | go_keep)
    (first
      | (go_at_call 24; have hqq := hD3; refine (cmp_int _ _ _ _ _ _ _ _ _ _ hi (m2 * Q b) _ ((unhide HS).hi.below hD3) hs3.lo).mono ?_; rintro r' w4 ⟨rfl, hb4⟩; rw [unhide H2]; have hD4 := bthen hD3 hb4)
      | (go_at_call 17; have hqq := hD2; refine (refWholeZ s.bits (unhide HB) _ m2 (by omega) (by omega) (by omega)).mono ?_; rintro r' w3 ⟨v3, rfl, hvb3, hs3, hb3⟩; clear hvb3; have hD3 := bthen hD2 hb3)
      | (go_at_call 24; have hqq := hD1; refine (cmp_int _ _ _ _ _ _ _ _ _ _ lo (m1 * Q b) _ ((unhide HS).lo.below hD1) hs1.lo).mono ?_; rintro r' w2 ⟨rfl, hb2⟩; rw [unhide H1]; have hD2 := bthen hD1 hb2)
      | (go_at_call 17; refine (refWholeZ s.bits (unhide HB) _ m1 (by omega) (by omega) (by omega)).mono ?_; rintro r' w1 ⟨v1, rfl, hvb1, hs1, hb1⟩; clear hvb1; have hD1 := bthen hD0 hb1))
  all_goals
    go_wp2_with fail
    go_ret
    exact ⟨rfl, bthen hBW hD4⟩

theorem ins_ok (w : World) (s : Sp) (K b : Nat) (lo hi m1 m2 : Int) (hs : SpAt w s K lo hi) (hbits : s.bits = (b : Int)) (hb : b ≤ 10000) (hm1 : -1000 ≤ m1) (hm2 : m1 ≤ 1000) (hm3 : -1000 ≤ m2) (hm4 : m2 ≤ 1000) (h1 : m1 * Q b ≤ lo) (h2 : hi ≤ m2 * Q b) :
    Calls Try.prog 18 #[.agg #[.bool s.ln, .slice s.la s.lN s.lc, .bool s.hn, .slice s.ha s.hN s.hc, .int .i64 s.bits], .int .i64 m1, .int .i64 m2] w fun r w' => r = .returned (.bool true) ∧ Below w.heap.size w w' := by
  rcases cmp3 lo (m1 * Q b) with ⟨e1, g1⟩ | ⟨e1, g1⟩ | ⟨e1, g1⟩
  · omega
  · rcases cmp3 hi (m2 * Q b) with ⟨e2, g2⟩ | ⟨e2, g2⟩ | ⟨e2, g2⟩
    · exact ins_aa w s K b lo hi m1 m2 hs hbits hb hm1 hm2 hm3 hm4 e1 e2
    · exact ins_ab w s K b lo hi m1 m2 hs hbits hb hm1 hm2 hm3 hm4 e1 e2
    · omega
  · rcases cmp3 hi (m2 * Q b) with ⟨e2, g2⟩ | ⟨e2, g2⟩ | ⟨e2, g2⟩
    · exact ins_ba w s K b lo hi m1 m2 hs hbits hb hm1 hm2 hm3 hm4 e1 e2
    · exact ins_bb w s K b lo hi m1 m2 hs hbits hb hm1 hm2 hm3 hm4 e1 e2
    · omega
end Go.Proofs.Ytgmnknmjainabab

namespace Go.Proofs.Ytgmnknmjainabab
set_option linter.unusedVariables false
set_option linter.unusedSimpArgs false
set_option linter.unnecessarySimpa false
open Go.RowKit
attribute [local go_sem ↓] Go.wp_at_zero Go.wp_at_succ

set_option maxRecDepth 100000 in
set_option maxHeartbeats 4000000 in
theorem refScaled (w : World) (s : Sp) (x : Nm) (k k1 e b : Nat) (a : Int × Int) (n : Int) (hs : SpAt w s k a.1 a.2) (hx : IntAt w x.neg x.a x.n x.cap k1 n) (hle : a.1 ≤ a.2) (hn : 0 ≤ n) (hk : k ≤ 100000000) (hk1 : k1 ≤ 100000000) (he : e ≤ 1000000) (hbits : s.bits = (b : Int)) :
    Calls Try.prog 140 #[.agg #[.bool s.ln, .slice s.la s.lN s.lc, .bool s.hn, .slice s.ha s.hN s.hc, .int .i64 s.bits], .agg #[.bool x.neg, .slice x.a x.n x.cap], .int .i64 e] w (SpanAns w b (k + k1 + 30) (scaleI a n (Q e)).1 (scaleI a n (Q e)).2) := by
  obtain ⟨W, hW⟩ : ∃ W, W = ((w.alloc (.cells #[.bool s.ln, .slice s.la s.lN s.lc, .bool s.hn, .slice s.ha s.hN s.hc, .int .i64 s.bits] 36)).alloc (.cells #[.bool x.neg, .slice x.a x.n x.cap] 26)).alloc (.cells #[.bool false, .slice none 0 0, .bool false, .slice none 0 0, .int .i64 0] 36) := ⟨_, rfl⟩
  have hBW : Below w.heap.size w W := by rw [hW]; exact bl3 _ _ _ _
  have A : SpC W w.heap.size s := by rw [hW]; exact ⟨by simp [go_sem], by simp [go_sem], by simp [go_sem], by simp [go_sem], by simp [go_sem]⟩
  have X : NmC W (w.heap.size + 1) x := by rw [hW]; exact ⟨by simp [go_sem], by simp [go_sem]⟩
  have R : NoC W (w.heap.size + 1 + 1) := by rw [hW]; exact ⟨by simp [go_sem], by simp [go_sem], by simp [go_sem], by simp [go_sem], by simp [go_sem], fun o => by simp [go_sem]⟩
  have HS := hide (hs.below hBW)
  have HX := hide (hx.below hBW)
  have HB := hide hbits
  have HB2 := hide (byI_nonneg (d := Q e) hle hn)
  have HK := hide (show ∀ w', Below W.heap.size W w' → (w'.cell? ⟨w.heap.size, 0, none⟩ = some (.bool s.ln) ∧ w'.cell? ⟨w.heap.size, 1, none⟩ = some (.slice s.la s.lN s.lc) ∧ w'.cell? ⟨w.heap.size, 2, none⟩ = some (.bool s.hn) ∧ w'.cell? ⟨w.heap.size, 3, none⟩ = some (.slice s.ha s.hN s.hc) ∧ w'.cell? ⟨w.heap.size + 1, 0, none⟩ = some (.bool x.neg) ∧ w'.cell? ⟨w.heap.size + 1, 1, none⟩ = some (.slice x.a x.n x.cap)) from fun w' hB => ⟨(A.below hB).c0, (A.below hB).c1, (A.below hB).c2, (A.below hB).c3, (X.below hB).c0, (X.below hB).c1⟩)
  clear hs hx hbits hle hn
  go_enter Try.func140, Try.ntmps140
  go_wp2
  rw [← hW]
  clear hW
  obtain ⟨x0, x1, x2, x3, x4, x5⟩ := unhide HK _ (Below.refl _ _)
  have hB0 : Below W.heap.size W W.drew := (Below.refl _ _).drew
  go_region_held3 (fun w' => w'.cell? ⟨w.heap.size, 0, none⟩ = some (.bool s.ln) ∧ w'.cell? ⟨w.heap.size, 1, none⟩ = some (.slice s.la s.lN s.lc) ∧ w'.cell? ⟨w.heap.size, 2, none⟩ = some (.bool s.hn) ∧ w'.cell? ⟨w.heap.size, 3, none⟩ = some (.slice s.ha s.hN s.hc) ∧ w'.cell? ⟨w.heap.size + 1, 0, none⟩ = some (.bool x.neg) ∧ w'.cell? ⟨w.heap.size + 1, 1, none⟩ = some (.slice x.a x.n x.cap)) (exact unhide HK _ (by first | with_reducible exact hB0 | with_reducible exact balloc hB2 _ | with_reducible exact hB2 | with_reducible exact hB1))
    (first
      | (go_at_call 84; have hq := hB1; refine (mul_int _ _ _ _ _ _ _ _ k k1 a.2 n _ ((unhide HS).hi.below hB1) ((unhide HX).below hB1) (by omega) (by omega)).mono ?_; rintro r w2 ⟨neg2, a2, n2, c2, rfl, hint2, hb2⟩; have hint1 := hint1.below hb2; have hB2 := bthen hB1 hb2)
      | (go_at_call 84; refine (mul_int _ _ _ _ _ _ _ _ k k1 a.1 n _ ((unhide HS).lo.below hB0) ((unhide HX).below hB0) (by omega) (by omega)).mono ?_; rintro r w1 ⟨neg1, a1, n1, c1, rfl, hint1, hb1⟩; have hB1 := bthen hB0 hb1))
  obtain ⟨w5, hw5⟩ : ∃ w5, w5 = w2.alloc (.cells #[.bool neg1, .slice a1 n1 c1, .bool neg2, .slice a2 n2 c2] 26) := ⟨_, rfl⟩
  have hB5 : Below W.heap.size W w5 := by rw [hw5]; exact balloc hB2 _
  have hN : Nums w5 w2.heap.size 2 (k + k1) (pr ⟨neg1, a1, n1, c1⟩ ⟨neg2, a2, n2, c2⟩) (pr (a.1 * n) (a.2 * n)) := by rw [hw5]; exact nums2' w2 _ rfl ⟨neg1, a1, n1, c1⟩ ⟨neg2, a2, n2, c2⟩ _ _ _ _ hint1 hint2
  have R5 := R.below hB5
  have hl1 := R5.lt
  have A5 := A.below hB5
  have lA := A5.lt
  have HK1 := hide (show ∀ w', Below w5.heap.size w5 w' → (w'.cell? ⟨w.heap.size, 4, none⟩ = some (.int .i64 s.bits)) from fun w' hB => (A5.below hB).c4)
  have hD0 : Below w5.heap.size w5 w5.drew := (Below.refl _ _).drew
  clear x0 x1 x2 x3 x4 x5 hb1 hb2 hint1 hint2 hB1 hB2 hB0 HK HS HX A X R
  go_wp2
  rw [← hw5]
  clear hw5
  have x0 := unhide HK1 _ (Below.refl _ _)
  have n3 : w.heap.size + 1 + 1 ≠ w.heap.size := by omega
  have n4 : w.heap.size ≠ w.heap.size + 1 + 1 := by omega
  go_region_held3 (fun w' => w'.cell? ⟨w.heap.size, 4, none⟩ = some (.int .i64 s.bits)) (first | exact unhide HK1 _ (by first | with_reducible exact hD0 | with_reducible exact hD6 | with_reducible exact hD5 | with_reducible exact hD4 | with_reducible exact hD3 | with_reducible exact hD2 | with_reducible exact hD1) | go_keep)
    (first
      | (go_at_call 83; have hq := hD5; refine (neg_int _ _ _ _ (k + k1 + 5 + 2) _ _ (hint10.mono (by omega)) (by omega)).mono ?_; rintro r w11 ⟨neg11, a11, n11, c11, rfl, hint11, hb11⟩; have hint7 := ((((hint7.below hb8).below hb9).below hb10).below hb11); have hD6 := bthen hD5 hb11; obtain ⟨q0, q1, q2, q3, q4, q5⟩ := R5.below hD6; have y0 := unhide HK1 _ hD6)
      | (go_at_call 94; have hq := hD4; refine (down_int _ _ _ _ e _ _ _ hint9 (by omega) (by omega)).mono ?_; rintro r w10 ⟨neg10, a10, n10, c10, rfl, hint10, hb10⟩; have hD5 := bthen hD4 hb10)
      | (go_at_call 83; have hq := hD3; refine (neg_int _ _ _ _ (k + k1) _ _ hint8 (by omega)).mono ?_; rintro r w9 ⟨neg9, a9, n9, c9, rfl, hint9, hb9⟩; have hD4 := bthen hD3 hb9)
      | (go_at_call 82; have hq := hD2; refine (greatest_int _ 1 _ (k + k1) _ _ _ (hN.below hD2) (by omega)).mono ?_; rintro r w8 ⟨neg8, a8, n8, c8, rfl, hint8, hb8⟩; have hD3 := bthen hD2 hb8)
      | (go_at_call 94; have hq := hD1; refine (down_int _ _ _ _ e _ _ _ hint6 (by omega) (by omega)).mono ?_; rintro r w7 ⟨neg7, a7, n7, c7, rfl, hint7, hb7⟩; have hD2 := bthen hD1 hb7)
      | (go_at_call 147; refine (least_int _ 1 _ (k + k1) _ _ _ (hN.below hD0) (by omega)).mono ?_; rintro r w6 ⟨neg6, a6, n6, c6, rfl, hint6, hb6⟩; have hD1 := bthen hD0 hb6))
  all_goals
    go_wp2_with fail
    refine bodyPost_ret (v := .agg #[.bool neg7, .slice a7 n7 c7, .bool neg11, .slice a11 n11 c11, .int .i64 s.bits]) (by simp [results, Try.results140, go_sem, q0, q1, q2, q3, q4]) rfl ⟨⟨neg7, a7, n7, c7, neg11, a11, n11, c11, s.bits⟩, rfl, unhide HB, ?_, ?_⟩
    · rw [← unhide HB2]
      exact SpAt.put5 ⟨hint7.mono (by omega), hint11.mono (by omega)⟩ q0 q1 q2 q3 q4 _ _ _ _ _
    · exact set5 (bthen (bthen hBW hB5) hD6) (by omega) _ _ _ _ _
end Go.Proofs.Ytgmnknmjainabab

namespace Go.Proofs.Ytgmnknmjainabab
set_option linter.unusedVariables false
open Ex

/-- The numbers of tailsureref.Pi's sum. -/
def prT (B : Nat) : Nat → Int × Int
  | 0 => (3 * Q B, 3 * Q B)
  | n + 1 => scaleI (prT B n) ((2 * (n : Int) + 1) * (2 * (n : Int) + 1)) (8 * ((n : Int) + 1) * (2 * ((n : Int) + 1) + 1))
theorem pr_den (n : Nat) : 0 ≤ (2 * (n : Int) + 1) * (2 * (n : Int) + 1) ∧ 0 < 8 * ((n : Int) + 1) * (2 * ((n : Int) + 1) + 1) ∧ 4 * ((2 * (n : Int) + 1) * (2 * (n : Int) + 1)) ≤ 8 * ((n : Int) + 1) * (2 * ((n : Int) + 1) + 1) := by
  have n0 : (0 : Int) ≤ (n : Int) := by omega
  have nn := Int.mul_nonneg n0 n0
  have e1 : (2 * (n : Int) + 1) * (2 * (n : Int) + 1) = 4 * ((n : Int) * (n : Int)) + 4 * (n : Int) + 1 := by grind
  have e2 : 8 * ((n : Int) + 1) * (2 * ((n : Int) + 1) + 1) = 16 * ((n : Int) * (n : Int)) + 40 * (n : Int) + 24 := by grind
  rw [e1, e2]
  omega
theorem prT_le (B n : Nat) : (prT B n).1 ≤ (prT B n).2 := by
  induction n with
  | zero => exact Int.le_refl _
  | succ n ih => exact scaleI_le ih (pr_den n).2.1 (pr_den n).1
theorem prT_nonneg (B n : Nat) : 0 ≤ (prT B n).1 := by
  induction n with
  | zero => have := Q_pos B; show 0 ≤ 3 * Q B; omega
  | succ n ih => exact Int.ediv_nonneg (Int.mul_nonneg ih (pr_den n).1) (by have := (pr_den n).2.1; omega)
theorem prT_abs (B n : Nat) : Abs (prT B n) (Q (B + 2 - 2 * n)) := by
  have hle := prT_le B n
  have h0 := prT_nonneg B n
  have q := Q_pos (B + 2 - 2 * n)
  have up : (prT B n).2 ≤ Q (B + 2 - 2 * n) := by
    clear hle h0 q
    induction n with
    | zero =>
      have e : Q (B + 2) = 2 * (2 * Q B) := rfl
      have := Q_pos B
      show 3 * Q B ≤ Q (B + 2 - 2 * 0)
      rw [show B + 2 - 2 * 0 = B + 2 by omega]
      omega
    | succ n ih =>
      obtain ⟨d1, d2, d3⟩ := pr_den n
      have st := Q_step (B := B + 2) (s := 2) (by omega) n
      have q2 := Q_pos (B + 2 - 2)
      have eB : Q (B + 2) = 4 * Q (B + 2 - 2) := by
        have := Q_add 2 (B + 2 - 2)
        rw [show 2 + (B + 2 - 2) = B + 2 by omega] at this
        rw [this]; rfl
      have hq : Q (B + 2 - 2 * n) ≤ 4 * Q (B + 2 - 2 * (n + 1)) := by
        refine Int.le_of_mul_le_mul_right (a := Q (B + 2 - 2)) ?_ (by omega)
        rw [eB] at st
        have e : 4 * Q (B + 2 - 2 * (n + 1)) * Q (B + 2 - 2) = Q (B + 2 - 2 * (n + 1)) * (4 * Q (B + 2 - 2)) := by grind
        omega
      have q3 := Q_pos (B + 2 - 2 * (n + 1))
      show -(-((prT B n).2 * ((2 * (n : Int) + 1) * (2 * (n : Int) + 1))) / (8 * ((n : Int) + 1) * (2 * ((n : Int) + 1) + 1))) ≤ _
      generalize (2 * (n : Int) + 1) * (2 * (n : Int) + 1) = u at *
      generalize 8 * ((n : Int) + 1) * (2 * ((n : Int) + 1) + 1) = v at *
      have k1 := Int.mul_le_mul_of_nonneg_right (show (prT B n).2 ≤ 4 * Q (B + 2 - 2 * (n + 1)) by omega) d1
      have k2 := Int.mul_le_mul_of_nonneg_left d3 (show 0 ≤ Q (B + 2 - 2 * (n + 1)) by omega)
      have e : 4 * Q (B + 2 - 2 * (n + 1)) * u = Q (B + 2 - 2 * (n + 1)) * (4 * u) := by grind
      have : -Q (B + 2 - 2 * (n + 1)) ≤ -((prT B n).2 * u) / v := Int.le_ediv_of_mul_le d2 (by
        have e2 : -Q (B + 2 - 2 * (n + 1)) * v = -(Q (B + 2 - 2 * (n + 1)) * v) := by grind
        omega)
      omega
  exact ⟨by omega, by omega, by omega, up⟩
theorem pr_stop (B : Nat) : ∃ N, N ≤ B / 2 + 2 ∧ IsStop (prT B) N := by
  obtain ⟨N, h1, h2⟩ := stop_ex (B := B + 2) (s := 2) (by omega) (prT_abs B)
  exact ⟨N, by omega, h2⟩
/-- The numbers themselves. -/
def prV : Nat → Rat
  | 0 => 3
  | n + 1 => (((2 * (n : Int) + 1) * (2 * (n : Int) + 1) : Int) : Rat) / ((8 * ((n : Int) + 1) * (2 * ((n : Int) + 1) + 1) : Int) : Rat) * prV n
def prS (M : Nat) : Rat := S prV M
theorem prT_has (B n : Nat) : Iv B (prT B n) (fun _ => prV n) := by
  induction n with
  | zero =>
    have h := (one_iv B).scale (n := 3) (d := 1) (by omega) (by omega)
    have e : scaleI (Q B, Q B) 3 1 = (3 * Q B, 3 * Q B) := by unfold scaleI; simp only [Int.ediv_one, Int.neg_neg]; rw [Int.mul_comm]
    rw [e] at h
    exact Has.of_eq h fun M => by show (3 : Rat) = ((3 : Int) : Rat) / ((1 : Int) : Rat) * 1; decide +kernel
  | succ n ih => exact ih.scale (pr_den n).1 (pr_den n).2.1
theorem prV_half (n : Nat) {b : Rat} (h : AB (prV n) b) : AB (prV (n + 1)) (b / 2) := by
  obtain ⟨d1, d2, d3⟩ := pr_den n
  obtain ⟨q0, q1⟩ := rat_quarter d1 d2 d3
  have b0 := h.nonneg
  have := AB.mul (s := (((2 * (n : Int) + 1) * (2 * (n : Int) + 1) : Int) : Rat) / ((8 * ((n : Int) + 1) * (2 * ((n : Int) + 1) + 1) : Int) : Rat)) (a := 1 / 4) ⟨by grind, q1⟩ h
  exact this.mono (by grind)
theorem pr_has (B N : Nat) : Iv B (doneI (prT B) N) prS :=
  done_has (g := fun n _ => prV n) (prT_le B) (fun k _ => prT_has B k) 0 (fun M _ n b _ hb => prV_half n hb)
/-- The two ways come within 2 to the power of -200 of each other. -/
theorem pi_close : LeN (fun M => prS M) (fun M => piS M + 1 / ((Q 200 : Int) : Rat)) ∧ LeN (fun M => piS M) (fun M => prS M + 1 / ((Q 200 : Int) : Rat)) := by
  have h1 := pi_has 220 60 20
  have h2 := pr_has 220 115
  have q := Qr_pos 220
  have key : ∀ {a b : Int × Int} {x y : Nat → Rat}, Iv 220 a x → Iv 220 b y → a.2 - b.1 ≤ Q 20 → LeN x (fun M => y M + 1 / ((Q 200 : Int) : Rat)) := fun {a b x y} ha hb hab e he => by
    obtain ⟨N1, k1⟩ := ha (e / 2) (by grind)
    obtain ⟨N2, k2⟩ := hb (e / 2) (by grind)
    refine ⟨N1 + N2, fun M hM => ?_⟩
    have a1 := (k1 M (by omega)).2
    have a2 := (k2 M (by omega)).1
    have a3 : (a.2 : Rat) / (Q 220 : Rat) ≤ (b.1 : Rat) / (Q 220 : Rat) + 1 / ((Q 200 : Int) : Rat) := by
      refine rdiv_le q ?_
      have e1 := rdm (a := (b.1 : Rat)) q
      have e2 : 1 / ((Q 200 : Int) : Rat) * (Q 220 : Rat) = ((Q 20 : Int) : Rat) := by decide +kernel
      have e3 : ((b.1 : Rat) / (Q 220 : Rat) + 1 / ((Q 200 : Int) : Rat)) * (Q 220 : Rat) = (b.1 : Rat) / (Q 220 : Rat) * (Q 220 : Rat) + 1 / ((Q 200 : Int) : Rat) * (Q 220 : Rat) := by grind
      rw [e3, e1, e2]
      have := cast_le (show a.2 ≤ b.1 + Q 20 by omega)
      rw [Rat.intCast_add] at this
      exact this
    grind
  exact ⟨key h2 h1 (by decide +kernel), key h1 h2 (by decide +kernel)⟩
end Go.Proofs.Ytgmnknmjainabab

namespace Go.Proofs.Ytgmnknmjainabab
set_option linter.unusedVariables false
set_option linter.unusedSimpArgs false
set_option linter.unnecessarySimpa false
open Go.RowKit
attribute [local go_sem ↓] Go.wp_at_zero Go.wp_at_succ

/-- A number in a block that may be written. -/
structure VnC (w : World) (B : Nat) (x : Nm) : Prop where
  c : NmC w B x
  fz : ∀ o, w.frozen? ⟨B, o, none⟩ = false
theorem VnC.lt {w : World} {B : Nat} {x : Nm} (h : VnC w B x) : B < w.heap.size := h.c.lt
theorem VnC.below {w w' : World} {B : Nat} {x : Nm} (h : VnC w B x) (hb : Below w.heap.size w w') : VnC w' B x :=
  ⟨h.c.below hb, fun o => (hb.frozen (p := ⟨B, o, none⟩) h.lt).trans (h.fz o)⟩
abbrev put2w (w : World) (B : Nat) (x : Nm) : World := (w.setCell ⟨B, 0, none⟩ (.bool x.neg)).setCell ⟨B, 1, none⟩ (.slice x.a x.n x.cap)
theorem VnC.put {w : World} {B : Nat} {x : Nm} (h : VnC w B x) (y : Nm) : VnC (put2w w B y) B y := ⟨put_nm2 h.c y, put_fz2 h.fz _ _⟩
theorem VnC.off {w : World} {B B' : Nat} {x : Nm} (h : VnC w B x) (hne : B ≠ B') (y : Nm) : VnC (put2w w B' y) B x := ⟨h.c.off hne _ _, put_fz2 h.fz _ _⟩
theorem IntAt.putv {w : World} {neg : Bool} {a : Option Addr} {n cap k : Nat} {z : Int} (h : IntAt w neg a n cap k z) {B : Nat} {x : Nm} (hx : VnC w B x) (y : Nm) : IntAt (put2w w B y) neg a n cap k z := h.put2 hx.c.c0 hx.c.c1 _ _
theorem NoC.offv {w : World} {B B' : Nat} (h : NoC w B) (hne : B ≠ B') (y : Nm) : NoC (put2w w B' y) B := by
  obtain ⟨q0, q1, q2, q3, q4, q5⟩ := h
  exact ⟨by simp [go_sem, q0, hne, Ne.symm hne], by simp [go_sem, q1, hne, Ne.symm hne], by simp [go_sem, q2, hne, Ne.symm hne], by simp [go_sem, q3, hne, Ne.symm hne], by simp [go_sem, q4, hne, Ne.symm hne], put_fz2 q5 _ _⟩
/-- Where wide.RareOne is. -/
structure RaSt (w wr : World) (B : Nat) (X : Nm) (p q : Int) (k : Nat) (v : Int) : Prop where
  a : RaC wr w.heap.size p q
  x : VnC wr B X
  i : IntAt wr X.neg X.a X.n X.cap k v
  no : NoC wr (w.heap.size + 1)
  be : Below w.heap.size w wr
  l : w.heap.size + 1 < B
theorem RaSt.below {w wr wr' : World} {B : Nat} {X : Nm} {p q : Int} {k : Nat} {v : Int} (h : RaSt w wr B X p q k v) (hb : Below wr.heap.size wr wr') : RaSt w wr' B X p q k v :=
  ⟨h.a.below hb, h.x.below hb, h.i.below hb, h.no.below hb, bthen h.be hb, h.l⟩
theorem RaC.offv {w : World} {B B' : Nat} {p q : Int} (h : RaC w B p q) (hne : B ≠ B') (y : Nm) : RaC (put2w w B' y) B p q := by
  obtain ⟨q0, q1⟩ := h
  constructor <;> simp [go_sem, q0, q1, hne, Ne.symm hne]
theorem RaSt.put {w wr : World} {B : Nat} {X Y : Nm} {p q : Int} {k k' : Nat} {v v' : Int} (h : RaSt w wr B X p q k v) (hy : IntAt wr Y.neg Y.a Y.n Y.cap k' v') : RaSt w (put2w wr B Y) B Y p q k' v' :=
  ⟨h.a.offv (by have := h.l; omega) Y, h.x.put Y, hy.putv h.x Y, h.no.offv (by have := h.l; omega) Y, set2 h.be (by have := h.l; omega) _ _, h.l⟩

end Go.Proofs.Ytgmnknmjainabab

namespace Go.Proofs.Ytgmnknmjainabab
set_option linter.unusedVariables false
set_option linter.unusedSimpArgs false
set_option linter.unnecessarySimpa false
open Go.RowKit
attribute [local go_sem ↓] Go.wp_at_zero Go.wp_at_succ

theorem NoI.offv {w : World} {B B' : Nat} (h : NoI w B) (hne : B ≠ B') (y : Nm) : NoI (put2w w B' y) B := by
  obtain ⟨q0, q1, q2⟩ := h
  exact ⟨by simp [go_sem, q0, hne, Ne.symm hne], by simp [go_sem, q1, hne, Ne.symm hne], put_fz2 q2 _ _⟩
/-- Where tailsureref.raisedInt is. -/
structure RsSt (w wr : World) (B : Nat) (X : Nm) (k : Nat) (v : Int) : Prop where
  x : VnC wr B X
  i : IntAt wr X.neg X.a X.n X.cap k v
  no : NoI wr w.heap.size
  be : Below w.heap.size w wr
  l : w.heap.size < B
theorem RsSt.below {w wr wr' : World} {B : Nat} {X : Nm} {k : Nat} {v : Int} (h : RsSt w wr B X k v) (hb : Below wr.heap.size wr wr') : RsSt w wr' B X k v :=
  ⟨h.x.below hb, h.i.below hb, h.no.below hb, bthen h.be hb, h.l⟩
theorem RsSt.put {w wr : World} {B : Nat} {X Y : Nm} {k k' : Nat} {v v' : Int} (h : RsSt w wr B X k v) (hy : IntAt wr Y.neg Y.a Y.n Y.cap k' v') : RsSt w (put2w wr B Y) B Y k' v' :=
  ⟨h.x.put Y, hy.putv h.x Y, h.no.offv (by have := h.l; omega) Y, set2 h.be (by have := h.l; omega) _ _, h.l⟩

/-- Where tailsureref.countTerm is. -/
structure CtSt (w wr : World) (B B' : Nat) (X Y : Nm) (p q : Int) (k : Nat) (u v : Int) : Prop where
  a : RaC wr w.heap.size p q
  x : VnC wr B X
  y : VnC wr B' Y
  i : IntAt wr X.neg X.a X.n X.cap k u
  j : IntAt wr Y.neg Y.a Y.n Y.cap k v
  no : NoI wr (w.heap.size + 1)
  be : Below w.heap.size w wr
  l : w.heap.size + 1 < B
  l' : w.heap.size + 1 < B'
  n : B ≠ B'
theorem CtSt.below {w wr wr' : World} {B B' : Nat} {X Y : Nm} {p q : Int} {k : Nat} {u v : Int} (h : CtSt w wr B B' X Y p q k u v) (hb : Below wr.heap.size wr wr') : CtSt w wr' B B' X Y p q k u v :=
  ⟨h.a.below hb, h.x.below hb, h.y.below hb, h.i.below hb, h.j.below hb, h.no.below hb, bthen h.be hb, h.l, h.l', h.n⟩
theorem CtSt.mono {w wr : World} {B B' : Nat} {X Y : Nm} {p q : Int} {k k' : Nat} {u v : Int} (h : CtSt w wr B B' X Y p q k u v) (hk : k ≤ k') : CtSt w wr B B' X Y p q k' u v :=
  ⟨h.a, h.x, h.y, h.i.mono hk, h.j.mono hk, h.no, h.be, h.l, h.l', h.n⟩
end Go.Proofs.Ytgmnknmjainabab

namespace Go.Proofs.Ytgmnknmjainabab
set_option linter.unusedVariables false
set_option linter.unusedSimpArgs false
set_option linter.unnecessarySimpa false
open Go.RowKit
attribute [local go_sem ↓] Go.wp_at_zero Go.wp_at_succ

/-- What is cut off at 0, and at 1. -/
def clipL (lo : Int) : Int := if lo < 0 then 0 else lo
def clipH (b : Nat) (hi : Int) : Int := if Q b < hi then Q b else hi
theorem refWhole_z {b : Nat} (z : Int) (hz : z = (b : Int)) (w : World) (n : Int) (hb : b ≤ 100000) (h0 : -9223372036854775808 ≤ n) (h1 : n ≤ 9223372036854775807) :
    Calls Try.prog 17 #[.int .i64 n, .int .i64 z] w (SpanAns w b (b / 16 + 18) (n * Q b) (n * Q b)) := by
  subst hz; exact refWhole w n b hb h0 h1
theorem sp_putLo {w : World} {B : Nat} {s : Sp} (h : VrC w B s) (x : Nm) : VrC (put2w w B x) B ⟨x.neg, x.a, x.n, x.cap, s.hn, s.ha, s.hN, s.hc, s.bits⟩ := by
  obtain ⟨⟨q0, q1, q2, q3, q4⟩, q5⟩ := h
  exact ⟨⟨by simp [go_sem, q0], by simp [go_sem, q1], by simp [go_sem, q2], by simp [go_sem, q3], by simp [go_sem, q4]⟩, fun o => by rw [frozen_set', frozen_set']; exact q5 o⟩
theorem VrC.offv {w : World} {B B' : Nat} {s : Sp} (h : VrC w B s) (hne : B ≠ B') (y : Nm) : VrC (put2w w B' y) B s := by
  obtain ⟨⟨q0, q1, q2, q3, q4⟩, q5⟩ := h
  exact ⟨⟨by simp [go_sem, q0, hne, Ne.symm hne], by simp [go_sem, q1, hne, Ne.symm hne], by simp [go_sem, q2, hne, Ne.symm hne], by simp [go_sem, q3, hne, Ne.symm hne], by simp [go_sem, q4, hne, Ne.symm hne]⟩, fun o => by rw [frozen_set', frozen_set']; exact q5 o⟩
/-- Where tailsureref.Clip is. -/
structure ClSt (w wr : World) (B C : Nat) (ss xx yy : Sp) (K b : Nat) (lo hi : Int) : Prop where
  s : VrC wr w.heap.size ss
  x : VrC wr B xx
  y : VrC wr C yy
  ps : SpAt wr ss K lo hi
  px : SpAt wr xx K 0 0
  py : SpAt wr yy K (Q b) (Q b)
  no : NoC wr (w.heap.size + 1)
  be : Below w.heap.size w wr
  l : w.heap.size + 1 < B
  l' : w.heap.size + 1 < C
theorem ClSt.below {w wr wr' : World} {B C : Nat} {s x y : Sp} {K b : Nat} {lo hi : Int} (h : ClSt w wr B C s x y K b lo hi) (hb : Below wr.heap.size wr wr') : ClSt w wr' B C s x y K b lo hi :=
  ⟨h.s.below hb, h.x.below hb, h.y.below hb, h.ps.below hb, h.px.below hb, h.py.below hb, h.no.below hb, bthen h.be hb, h.l, h.l'⟩
theorem ClSt.putL {w wr : World} {B C : Nat} {s x y : Sp} {K b : Nat} {lo hi : Int} (h : ClSt w wr B C s x y K b lo hi) : ClSt w (put2w wr w.heap.size ⟨x.ln, x.la, x.lN, x.lc⟩) B C ⟨x.ln, x.la, x.lN, x.lc, s.hn, s.ha, s.hN, s.hc, s.bits⟩ x y K b 0 hi := by
  have c0 := h.s.c.c0
  have c1 := h.s.c.c1
  exact ⟨sp_putLo h.s ⟨x.ln, x.la, x.lN, x.lc⟩, h.x.offv (by have := h.l; omega) _, h.y.offv (by have := h.l'; omega) _, ⟨h.px.lo.put2 c0 c1 _ _, h.ps.hi.put2 c0 c1 _ _⟩, ⟨h.px.lo.put2 c0 c1 _ _, h.px.hi.put2 c0 c1 _ _⟩, ⟨h.py.lo.put2 c0 c1 _ _, h.py.hi.put2 c0 c1 _ _⟩, h.no.offv (by omega) _, set2 h.be (Nat.le_refl _) _ _, h.l, h.l'⟩

set_option maxRecDepth 100000 in
set_option maxHeartbeats 4000000 in
theorem refClip01 (w : World) (s : Sp) (K b : Nat) (lo hi : Int) (hs : SpAt w s K lo hi) (hbits : s.bits = (b : Int)) (hb : b ≤ 10000) (hk0 : b / 16 + 18 ≤ K) (hK : K ≤ 100000000) :
    Calls Try.prog 87 #[.agg #[.bool s.ln, .slice s.la s.lN s.lc, .bool s.hn, .slice s.ha s.hN s.hc, .int .i64 s.bits], .int .i64 0, .int .i64 1] w (SpanAns w b K (clipL lo) (clipH b hi)) := by
  have qb := Q_pos b
  obtain ⟨W, hW⟩ : ∃ W, W = (w.alloc (.cells #[.bool s.ln, .slice s.la s.lN s.lc, .bool s.hn, .slice s.ha s.hN s.hc, .int .i64 s.bits] 36)).alloc (.cells #[.bool false, .slice none 0 0, .bool false, .slice none 0 0, .int .i64 0] 36) := ⟨_, rfl⟩
  have hBW : Below w.heap.size w W := by rw [hW]; exact bl2 _ _ _
  have A : VrC W w.heap.size s := by rw [hW]; exact ⟨⟨by simp [go_sem], by simp [go_sem], by simp [go_sem], by simp [go_sem], by simp [go_sem]⟩, fun o => by simp [go_sem]⟩
  have R : NoC W (w.heap.size + 1) := by rw [hW]; exact ⟨by simp [go_sem], by simp [go_sem], by simp [go_sem], by simp [go_sem], by simp [go_sem], fun o => by simp [go_sem]⟩
  have HS := hide (hs.below hBW)
  have HB := hide hbits
  have lA := A.lt
  have lR := R.lt
  clear hs hbits
  go_enter Try.func87, Try.ntmps87
  go_wp2
  rw [← hW]
  clear hW
  have HK := hide (show ∀ w', Below W.heap.size W w' → (w'.cell? ⟨w.heap.size, 4, none⟩ = some (.int .i64 s.bits)) from fun w' hB => (A.below hB).c.c4)
  have x4 := unhide HK _ (Below.refl _ _)
  go_cut [7, 8] (fun p q wx => TwoP W wx b K K (0, 0) (Q b, Q b) p q)
  case first =>
    go_region_held3 (fun w' => w'.cell? ⟨w.heap.size, 4, none⟩ = some (.int .i64 s.bits)) (exact unhide HK _ (by repeat' (first | with_reducible exact hBU2 | with_reducible exact hBU1 | with_reducible exact Below.refl _ _ | with_reducible refine Below.drew ?_ | with_reducible refine balloc ?_ _ | with_reducible refine Below.setCell ?_ (by first | with_reducible exact Nat.le_refl _ | with_reducible exact Nat.le_succ _ | with_reducible exact hlU1 | with_reducible exact Nat.le_succ_of_le hlU1 | with_reducible exact hlU2 | with_reducible exact Nat.le_succ_of_le hlU2) _)))
      (first
        | (go_at_call 17; have hq := hBU1; refine (refWhole_z s.bits (unhide HB) _ 1 (by omega) (by decide) (by decide)).mono ?_; rintro r wU2 ⟨vU2, rfl, hvbU2, hintU2, hbU2⟩; have HVBU2 := hide hvbU2; clear hvbU2; have hCU2 : Below wU1.heap.size wU1 wU2 := (by first | with_reducible exact hbU2 | with_reducible exact bthen (bl1 _ _) hbU2 | with_reducible exact bthen (bl2 _ _ _) hbU2); have hBU2 := bthen hBU1 hCU2; (first | with_reducible have gaU2 := (noc_new wU1 36).below hbU2 | with_reducible have gaU2 := ((noc_new wU1 36).below (bl1 _ _)).below hbU2 | skip); (try with_reducible have gbU2 := (noc_new' (wU1.alloc _) (wU1.heap.size + 1) (hs1 _ _) 36).below hbU2); replace hintU1 := hintU1.below hCU2; (try have maU1 := gaU1.lt); (try have mbU1 := gbU1.lt); (try replace gaU1 := gaU1.below hCU2); (try replace gbU1 := gbU1.below hCU2); have hlU2 := hBU2.size; (try have eaU1 := gaU1); (try obtain ⟨zaU10, zaU11, zaU12, zaU13, zaU14, zaU15⟩ := eaU1); (try have yaU1 := gaU1.lt); (try have ebU1 := gbU1); (try obtain ⟨zbU10, zbU11, zbU12, zbU13, zbU14, zbU15⟩ := ebU1); (try have ybU1 := gbU1.lt); (try have eaU2 := gaU2); (try obtain ⟨zaU20, zaU21, zaU22, zaU23, zaU24, zaU25⟩ := eaU2); (try have yaU2 := gaU2.lt); (try have ebU2 := gbU2); (try obtain ⟨zbU20, zbU21, zbU22, zbU23, zbU24, zbU25⟩ := ebU2); (try have ybU2 := gbU2.lt))
        | (go_at_call 17; refine (refWhole_z s.bits (unhide HB) _ 0 (by omega) (by decide) (by decide)).mono ?_; rintro r wU1 ⟨vU1, rfl, hvbU1, hintU1, hbU1⟩; have HVBU1 := hide hvbU1; clear hvbU1; have hBU1 : Below W.heap.size W wU1 := (by first | with_reducible exact bthen (Below.refl _ _).drew hbU1 | with_reducible exact bthen (bl1 _ _).drew hbU1 | with_reducible exact bthen (bl2 _ _ _).drew hbU1); (first | with_reducible have gaU1 := ((noc_new W 36).below (Below.refl _ _).drew).below hbU1 | with_reducible have gaU1 := ((noc_new W 36).below (bl1 _ _).drew).below hbU1 | skip); (try with_reducible have gbU1 := ((noc_new' (W.alloc _) (W.heap.size + 1) (hs1 _ _) 36).below (Below.refl _ _).drew).below hbU1); have hlU1 := hBU1.size))
    all_goals
      have hiXU := (show SpAt wU2 vU1 K 0 0 by have h := hintU1.mono hk0; rw [Int.zero_mul] at h; exact h)
      have hiYU := (show SpAt wU2 vU2 K (Q b) (Q b) by have h := hintU2.mono hk0; rw [Int.one_mul] at h; exact h)
      go_wp2_with fail
      go_meet
      first
        | with_reducible exact twoP_aa (x := vU1) (y := vU2) hBU2 hiXU hiYU (unhide HVBU1) (unhide HVBU2)
        | with_reducible exact twoP_aa' (x := vU1) (y := vU2) hBU2 hiXU hiYU (unhide HVBU1) (unhide HVBU2)
        | with_reducible exact twoP_sa (x := vU1) (y := vU2) hBU2 hiXU hiYU (unhide HVBU1) (unhide HVBU2) (by assumption) (by first | with_reducible exact Nat.le_refl _ | with_reducible exact Nat.le_succ _ | with_reducible exact hlU1 | with_reducible exact Nat.le_succ_of_le hlU1 | with_reducible exact hlU2 | with_reducible exact Nat.le_succ_of_le hlU2)
        | with_reducible exact twoP_as (x := vU1) (y := vU2) hBU2 hiXU hiYU (unhide HVBU1) (unhide HVBU2) (by assumption) (by first | with_reducible exact Nat.le_refl _ | with_reducible exact Nat.le_succ _ | with_reducible exact hlU1 | with_reducible exact Nat.le_succ_of_le hlU1 | with_reducible exact hlU2 | with_reducible exact Nat.le_succ_of_le hlU2)
        | with_reducible exact twoP_ss (x := vU1) (y := vU2) hBU2 hiXU hiYU (unhide HVBU1) (unhide HVBU2) (by assumption) (by assumption) (by first | with_reducible exact Nat.le_refl _ | with_reducible exact Nat.le_succ _ | with_reducible exact hlU1 | with_reducible exact Nat.le_succ_of_le hlU1 | with_reducible exact hlU2 | with_reducible exact Nat.le_succ_of_le hlU2) (by first | with_reducible exact Nat.le_refl _ | with_reducible exact Nat.le_succ _ | with_reducible exact hlU1 | with_reducible exact Nat.le_succ_of_le hlU1 | with_reducible exact hlU2 | with_reducible exact Nat.le_succ_of_le hlU2) (by omega)
  case rest =>
  obtain ⟨BU, CU, xU, yU, rfl, rfl, hHU, hJU, hneU, XU, YU, hxU, hyU, bxU, byU, hblU⟩ := hcut
  have st : ClSt w wc BU CU s xU yU K b lo hi := ⟨A.below hblU, XU, YU, (unhide HS).below hblU, hxU, hyU, R.below hblU, bthen hBW hblU, by omega, by omega⟩
  have hsb := unhide HB
  have HXB := hide bxU
  clear A R HS x4 HK XU YU hxU hyU bxU byU hBW hblU lA lR
  have lz0 := st.s.lt
  have lz1 := st.x.lt
  obtain ⟨⟨t0, t1, t2, t3, t4⟩, t5⟩ := st.s
  obtain ⟨⟨u0, u1, u2, u3, u4⟩, u5⟩ := st.x
  have HSB := hide hsb
  clear hsb
  go_wp2_with fail
  refine (cmp_int _ _ _ _ _ _ _ _ _ _ lo 0 _ st.ps.lo st.px.lo).mono ?_
  rintro r' w4 ⟨rfl, hb4⟩
  replace st := st.below hb4
  clear hb4 t0 t1 t2 t3 t4 t5 u0 u1 u2 u3 u4 u5 lz0 lz1
  by_cases hl : lo < 0
  · have hc1 : cmpInt lo 0 < 0 := by unfold cmpInt; rw [if_pos (by omega)]; omega
    have HEL := hide (show clipL lo = 0 by unfold clipL; rw [if_pos hl])
    have lz0 := st.s.lt
    have lz1 := st.x.lt
    have stn := st.putL
    have HSY := hide st.y
    obtain ⟨⟨t0, t1, t2, t3, t4⟩, t5⟩ := st.s
    obtain ⟨⟨u0, u1, u2, u3, u4⟩, u5⟩ := st.x
    obtain ⟨V, hV⟩ : ∃ V, V = put2w w4 w.heap.size ⟨xU.ln, xU.la, xU.lN, xU.lc⟩ := ⟨_, rfl⟩
    rw [← hV] at stn
    unfold put2w at hV
    rw [unhide HEL]
    clear st hl
    have st := stn
    clear stn
    have lz0' := st.s.lt
    have lz2 := st.y.lt
    have n02 : w.heap.size ≠ CU := by have := st.l'; omega
    have n20 : CU ≠ w.heap.size := by have := st.l'; omega
    have y4 := (unhide HSY)
    obtain ⟨⟨v0, v1, v2, v3, v4⟩, v5⟩ := y4
    go_wp2_with fail
    rw [← hV]
    clear hV u0 u1 u2 u3 u4 u5 hc1 lz1 lz0'
    refine (cmp_int _ _ _ _ _ _ _ _ _ _ hi (Q b) _ st.ps.hi st.py.lo).mono ?_
    rintro r' w5 ⟨rfl, hb5⟩
    replace st := st.below hb5
    clear hb5 t0 t1 t2 t3 t4 t5 v0 v1 v2 v3 v4 v5 lz0 lz2
    have lz0 := st.s.lt
    have lz2 := st.y.lt
    have lzR := st.no.lt
    have HST := hide st
    by_cases hh : Q b < hi
    · have hc2 : 0 < cmpInt hi (Q b) := by unfold cmpInt; rw [if_neg (by omega), if_pos (by omega)]; omega
      have HEH := hide (show clipH b hi = Q b by unfold clipH; rw [if_pos (by omega)])
      obtain ⟨⟨t0, t1, t2, t3, t4⟩, t5⟩ := st.s
      obtain ⟨⟨v0, v1, v2, v3, v4⟩, v5⟩ := st.y
      obtain ⟨q0, q1, q2, q3, q4, q5⟩ := st.no
      have hBf := st.be
      have i1 := st.ps.lo
      have i2 := st.py.lo
      clear st hh
      go_wp2_with fail
      rw [unhide HEH]
      (try rw [unhide HEL])
      obtain ⟨p0, p1, p2, p3, p4, p5⟩ := NoC.offH ⟨q0, q1, q2, q3, q4, q5⟩ (show w.heap.size + 1 ≠ w.heap.size by omega) (.bool yU.ln) (.slice yU.la yU.lN yU.lc)
      refine bodyPost_ret (v := .agg #[.bool xU.ln, .slice xU.la xU.lN xU.lc, .bool yU.ln, .slice yU.la yU.lN yU.lc, .int .i64 s.bits]) (by simp [results, Try.results87, go_sem, q0, q1, q2, q3, q4]) rfl ⟨⟨xU.ln, xU.la, xU.lN, xU.lc, yU.ln, yU.la, yU.lN, yU.lc, s.bits⟩, rfl, unhide HSB, ?_, ?_⟩
      · exact SpAt.put5 (show SpAt _ (⟨xU.ln, xU.la, xU.lN, xU.lc, yU.ln, yU.la, yU.lN, yU.lc, s.bits⟩ : Sp) K _ _ from ⟨i1.putH t2 t3 _ _, i2.putH t2 t3 _ _⟩) p0 p1 p2 p3 p4 _ _ _ _ _
      · exact set5 ((hBf.setCell (p := ⟨w.heap.size, 2, none⟩) (Nat.le_refl _) _).setCell (p := ⟨w.heap.size, 3, none⟩) (Nat.le_refl _) _) (Nat.le_succ _) _ _ _ _ _
    · have hc2 : ¬ 0 < cmpInt hi (Q b) := by unfold cmpInt; split <;> (try split) <;> omega
      have HEH := hide (show clipH b hi = hi by unfold clipH; rw [if_neg (by omega)])
      obtain ⟨⟨t0, t1, t2, t3, t4⟩, t5⟩ := st.s
      obtain ⟨q0, q1, q2, q3, q4, q5⟩ := st.no
      have hBf := st.be
      have i1 := st.ps
      clear st hh
      go_wp2_with fail
      rw [unhide HEH]
      (try rw [unhide HEL])
      refine bodyPost_ret (v := .agg #[.bool xU.ln, .slice xU.la xU.lN xU.lc, .bool s.hn, .slice s.ha s.hN s.hc, .int .i64 s.bits]) (by simp [results, Try.results87, go_sem, q0, q1, q2, q3, q4]) rfl ⟨⟨xU.ln, xU.la, xU.lN, xU.lc, s.hn, s.ha, s.hN, s.hc, s.bits⟩, rfl, unhide HSB, ?_, ?_⟩
      · exact SpAt.put5 i1 q0 q1 q2 q3 q4 _ _ _ _ _
      · exact set5 hBf (Nat.le_succ _) _ _ _ _ _
  · have hc1 : ¬ cmpInt lo 0 < 0 := by unfold cmpInt; rw [if_neg (by omega)]; split <;> omega
    have HEL := hide (show clipL lo = lo by unfold clipL; rw [if_neg hl])
    rw [unhide HEL]
    clear hl
    have lz0 := st.s.lt
    have lz2 := st.y.lt
    obtain ⟨⟨t0, t1, t2, t3, t4⟩, t5⟩ := st.s
    obtain ⟨⟨v0, v1, v2, v3, v4⟩, v5⟩ := st.y
    go_wp2_with fail
    refine (cmp_int _ _ _ _ _ _ _ _ _ _ hi (Q b) _ st.ps.hi st.py.lo).mono ?_
    rintro r' w5 ⟨rfl, hb5⟩
    replace st := st.below hb5
    clear hb5 t0 t1 t2 t3 t4 t5 v0 v1 v2 v3 v4 v5 lz0 lz2
    have lz0 := st.s.lt
    have lz2 := st.y.lt
    have lzR := st.no.lt
    have HST := hide st
    by_cases hh : Q b < hi
    · have hc2 : 0 < cmpInt hi (Q b) := by unfold cmpInt; rw [if_neg (by omega), if_pos (by omega)]; omega
      have HEH := hide (show clipH b hi = Q b by unfold clipH; rw [if_pos (by omega)])
      obtain ⟨⟨t0, t1, t2, t3, t4⟩, t5⟩ := st.s
      obtain ⟨⟨v0, v1, v2, v3, v4⟩, v5⟩ := st.y
      obtain ⟨q0, q1, q2, q3, q4, q5⟩ := st.no
      have hBf := st.be
      have i1 := st.ps.lo
      have i2 := st.py.lo
      clear st hh
      go_wp2_with fail
      rw [unhide HEH]
      (try rw [unhide HEL])
      obtain ⟨p0, p1, p2, p3, p4, p5⟩ := NoC.offH ⟨q0, q1, q2, q3, q4, q5⟩ (show w.heap.size + 1 ≠ w.heap.size by omega) (.bool yU.ln) (.slice yU.la yU.lN yU.lc)
      refine bodyPost_ret (v := .agg #[.bool s.ln, .slice s.la s.lN s.lc, .bool yU.ln, .slice yU.la yU.lN yU.lc, .int .i64 s.bits]) (by simp [results, Try.results87, go_sem, q0, q1, q2, q3, q4]) rfl ⟨⟨s.ln, s.la, s.lN, s.lc, yU.ln, yU.la, yU.lN, yU.lc, s.bits⟩, rfl, unhide HSB, ?_, ?_⟩
      · exact SpAt.put5 (show SpAt _ (⟨s.ln, s.la, s.lN, s.lc, yU.ln, yU.la, yU.lN, yU.lc, s.bits⟩ : Sp) K _ _ from ⟨i1.putH t2 t3 _ _, i2.putH t2 t3 _ _⟩) p0 p1 p2 p3 p4 _ _ _ _ _
      · exact set5 ((hBf.setCell (p := ⟨w.heap.size, 2, none⟩) (Nat.le_refl _) _).setCell (p := ⟨w.heap.size, 3, none⟩) (Nat.le_refl _) _) (Nat.le_succ _) _ _ _ _ _
    · have hc2 : ¬ 0 < cmpInt hi (Q b) := by unfold cmpInt; split <;> (try split) <;> omega
      have HEH := hide (show clipH b hi = hi by unfold clipH; rw [if_neg (by omega)])
      obtain ⟨⟨t0, t1, t2, t3, t4⟩, t5⟩ := st.s
      obtain ⟨q0, q1, q2, q3, q4, q5⟩ := st.no
      have hBf := st.be
      have i1 := st.ps
      clear st hh
      go_wp2_with fail
      rw [unhide HEH]
      (try rw [unhide HEL])
      refine bodyPost_ret (v := .agg #[.bool s.ln, .slice s.la s.lN s.lc, .bool s.hn, .slice s.ha s.hN s.hc, .int .i64 s.bits]) (by simp [results, Try.results87, go_sem, q0, q1, q2, q3, q4]) rfl ⟨⟨s.ln, s.la, s.lN, s.lc, s.hn, s.ha, s.hN, s.hc, s.bits⟩, rfl, unhide HSB, ?_, ?_⟩
      · exact SpAt.put5 i1 q0 q1 q2 q3 q4 _ _ _ _ _
      · exact set5 hBf (Nat.le_succ _) _ _ _ _ _
end Go.Proofs.Ytgmnknmjainabab
