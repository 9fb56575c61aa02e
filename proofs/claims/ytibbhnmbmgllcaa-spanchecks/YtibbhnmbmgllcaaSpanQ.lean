/-
  What wide.Opposite and wide.Sub answer of right spans, and that they leave old memory alone.
-/
import Derived.Test.YtibbhnmbmgllcaaSpanL
namespace Go.Proofs.Ytibbhnmbmgllcaa
set_option linter.unusedVariables false
set_option linter.unusedSimpArgs false
set_option linter.unnecessarySimpa false
open Go.RowKit
attribute [local go_sem ↓] Go.wp_at_zero Go.wp_at_succ

set_option maxRecDepth 100000 in
set_option maxHeartbeats 2000000 in
theorem opposite_int (w : World) (s : Sp) (k : Nat) (lo hi : Int) (hs : SpAt w s k lo hi) (hk : k ≤ 700000000) :
    Calls Try.prog 126 #[.agg #[.bool s.ln, .slice s.la s.lN s.lc, .bool s.hn, .slice s.ha s.hN s.hc, .int .i64 s.bits]] w (SpanAns w s.bits k (-hi) (-lo)) := by
  go_enter Try.func126, Try.ntmps126
  go_wp2
  go_region_held3 (fun w' => w'.cell? ⟨w.heap.size, 0, none⟩ = some (.bool s.ln) ∧ w'.cell? ⟨w.heap.size, 1, none⟩ = some (.slice s.la s.lN s.lc) ∧ w'.cell? ⟨w.heap.size, 2, none⟩ = some (.bool s.hn) ∧ w'.cell? ⟨w.heap.size, 3, none⟩ = some (.slice s.ha s.hN s.hc) ∧ w'.cell? ⟨w.heap.size, 4, none⟩ = some (.int .i64 s.bits)) (go_keep)
    (first
      | (go_at_call 80; have hq := hb1; refine (neg_int _ _ _ _ k lo _ (hs.lo.below (bthen (bl2 _ _ _).drew hb1)) (by omega)).mono ?_; rintro r w2 ⟨neg2, a2, n2, c2, rfl, hint2, hb2⟩; obtain ⟨hsz2, hcell2, hfz2⟩ := near (w.heap.size + 1 + 1) hsz1 hb2)
      | (go_at_call 80; refine (neg_int _ _ _ _ k hi _ (hs.hi.below (bl2 _ _ _).drew) (by omega)).mono ?_; rintro r w1 ⟨neg1, a1, n1, c1, rfl, hint1, hb1⟩; obtain ⟨hsz1, hcell1, hfz1⟩ := near (w.heap.size + 1 + 1) (by simp) hb1))
  go_wp2
  have q0 : w2.cell? ⟨w.heap.size + 1, 0, none⟩ = some (.bool false) := by simp [hcell2, hcell1, go_sem]
  have q1 : w2.cell? ⟨w.heap.size + 1, 1, none⟩ = some (.slice none 0 0) := by simp [hcell2, hcell1, go_sem]
  have q2 : w2.cell? ⟨w.heap.size + 1, 2, none⟩ = some (.bool false) := by simp [hcell2, hcell1, go_sem]
  have q3 : w2.cell? ⟨w.heap.size + 1, 3, none⟩ = some (.slice none 0 0) := by simp [hcell2, hcell1, go_sem]
  have q4 : w2.cell? ⟨w.heap.size + 1, 4, none⟩ = some (.int .i64 0) := by simp [hcell2, hcell1, go_sem]
  refine bodyPost_ret (v := .agg #[.bool neg1, .slice a1 n1 c1, .bool neg2, .slice a2 n2 c2, .int .i64 s.bits]) (by simp [results, Try.results126, go_sem, q0, q1, q2, q3, q4]) rfl ⟨⟨neg1, a1, n1, c1, neg2, a2, n2, c2, s.bits⟩, rfl, rfl, ?_, ?_⟩
  · exact SpAt.put5 ⟨hint1.below hb2, hint2⟩ q0 q1 q2 q3 q4 _ _ _ _ _
  · exact set5 (bthen (bthen (bl2 _ _ _).drew hb1) hb2) (Nat.le_succ _) _ _ _ _ _
end Go.Proofs.Ytibbhnmbmgllcaa
