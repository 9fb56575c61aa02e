/-
  What the way that span.Hull hands to span.made answers, and that it leaves old memory alone.
-/
import Derived.Test.YtibbhnmbmgllcaaAdds
namespace Go.Proofs.Ytibbhnmbmgllcaa
set_option linter.unusedVariables false
set_option linter.unusedSimpArgs false
set_option linter.unnecessarySimpa false
open Go.RowKit
attribute [local go_sem ↓] Go.wp_at_zero Go.wp_at_succ

theorem cell_put5 {w : World} {B B' o : Nat} {v : Option Value} (h : w.cell? ⟨B, o, none⟩ = v) (hne : B ≠ B') (u0 u1 u2 u3 u4 : Value) :
    (((((w.setCell ⟨B', 0, none⟩ u0).setCell ⟨B', 1, none⟩ u1).setCell ⟨B', 2, none⟩ u2).setCell ⟨B', 3, none⟩ u3).setCell ⟨B', 4, none⟩ u4).cell? ⟨B, o, none⟩ = v := by
  have ne : ∀ i : Nat, (⟨B', i, none⟩ : Addr) ≠ ⟨B, o, none⟩ := fun i e => hne (by injection e with e1; exact e1.symm)
  rw [World.cell?_setCell_other _ _ _ _ (ne 4), World.cell?_setCell_other _ _ _ _ (ne 3), World.cell?_setCell_other _ _ _ _ (ne 2), World.cell?_setCell_other _ _ _ _ (ne 1), World.cell?_setCell_other _ _ _ _ (ne 0)]
  exact h
theorem SpC.put {w : World} {B B' : Nat} {s : Sp} (h : SpC w B s) (hne : B ≠ B') (u0 u1 u2 u3 u4 : Value) :
    SpC (((((w.setCell ⟨B', 0, none⟩ u0).setCell ⟨B', 1, none⟩ u1).setCell ⟨B', 2, none⟩ u2).setCell ⟨B', 3, none⟩ u3).setCell ⟨B', 4, none⟩ u4) B s :=
  ⟨cell_put5 h.c0 hne _ _ _ _ _, cell_put5 h.c1 hne _ _ _ _ _, cell_put5 h.c2 hne _ _ _ _ _, cell_put5 h.c3 hne _ _ _ _ _, cell_put5 h.c4 hne _ _ _ _ _⟩

theorem nums2' (w : World) (B : Nat) (hB : w.heap.size = B) (x y : Nm) (k : Nat) (zx zy : Int) (T : TypeId) (hx : IntAt w x.neg x.a x.n x.cap k zx) (hy : IntAt w y.neg y.a y.n y.cap k zy) :
    Nums (w.alloc (.cells #[.bool x.neg, .slice x.a x.n x.cap, .bool y.neg, .slice y.a y.n y.cap] T)) B 2 k (pr x y) (pr zx zy) := by
  subst hB; exact nums2 w x y k zx zy T hx hy

set_option maxRecDepth 100000 in
set_option maxHeartbeats 2000000 in
theorem hull1_int (w : World) (B0 B1 : Nat) (s t : Sp) (k : Nat) (lo hi lo' hi' : Int) (hs : SpAt w s k lo hi) (ht : SpAt w t k lo' hi') (hk : k ≤ 300000000) (a : SpC w B0 s) (g : SpC w B1 t) :
    Calls Try.prog 87 #[.pointer (some ⟨B0, 0, none⟩), .pointer (some ⟨B1, 0, none⟩)] w (PairAns w s.bits (k + 1) (minZ lo lo') (maxZ hi hi') 0) := by
  have l0 := a.lt
  have l1 := g.lt
  obtain ⟨W, hW⟩ : ∃ W, W = w.alloc (.cells #[.bool false, .slice none 0 0, .bool false, .slice none 0 0, .int .i64 0] 26) := ⟨_, rfl⟩
  have hBW : Below w.heap.size w W := by rw [hW]; exact bl1 _ _
  have r0 : NoC W w.heap.size := by rw [hW]; exact noc_new _ _
  have a0 := a.below hBW
  have g0 := g.below hBW
  have HS := hide (hs.below hBW)
  have HT := hide (ht.below hBW)
  have hB0 : Below W.heap.size W W.drew := (Below.refl _ _).drew
  have HK := hide (show ∀ w', Below W.heap.size W w' → (w'.cell? ⟨B0, 0, none⟩ = some (.bool s.ln) ∧ w'.cell? ⟨B0, 1, none⟩ = some (.slice s.la s.lN s.lc) ∧ w'.cell? ⟨B0, 2, none⟩ = some (.bool s.hn) ∧ w'.cell? ⟨B0, 3, none⟩ = some (.slice s.ha s.hN s.hc) ∧ w'.cell? ⟨B0, 4, none⟩ = some (.int .i64 s.bits) ∧ w'.cell? ⟨B1, 0, none⟩ = some (.bool t.ln) ∧ w'.cell? ⟨B1, 1, none⟩ = some (.slice t.la t.lN t.lc) ∧ w'.cell? ⟨B1, 2, none⟩ = some (.bool t.hn) ∧ w'.cell? ⟨B1, 3, none⟩ = some (.slice t.ha t.hN t.hc)) from fun w' hB => by
    obtain ⟨x0, x1, x2, x3, x4⟩ := a0.below hB
    obtain ⟨y0, y1, y2, y3, y4⟩ := g0.below hB
    exact ⟨x0, x1, x2, x3, x4, y0, y1, y2, y3⟩)
  have HK5 := hide (show ∀ w' u0 u1 u2 u3 u4, Below W.heap.size W w' → ((((((w'.setCell ⟨w.heap.size, 0, none⟩ u0).setCell ⟨w.heap.size, 1, none⟩ u1).setCell ⟨w.heap.size, 2, none⟩ u2).setCell ⟨w.heap.size, 3, none⟩ u3).setCell ⟨w.heap.size, 4, none⟩ u4).cell? ⟨B0, 0, none⟩ = some (.bool s.ln) ∧ (((((w'.setCell ⟨w.heap.size, 0, none⟩ u0).setCell ⟨w.heap.size, 1, none⟩ u1).setCell ⟨w.heap.size, 2, none⟩ u2).setCell ⟨w.heap.size, 3, none⟩ u3).setCell ⟨w.heap.size, 4, none⟩ u4).cell? ⟨B0, 1, none⟩ = some (.slice s.la s.lN s.lc) ∧ (((((w'.setCell ⟨w.heap.size, 0, none⟩ u0).setCell ⟨w.heap.size, 1, none⟩ u1).setCell ⟨w.heap.size, 2, none⟩ u2).setCell ⟨w.heap.size, 3, none⟩ u3).setCell ⟨w.heap.size, 4, none⟩ u4).cell? ⟨B0, 2, none⟩ = some (.bool s.hn) ∧ (((((w'.setCell ⟨w.heap.size, 0, none⟩ u0).setCell ⟨w.heap.size, 1, none⟩ u1).setCell ⟨w.heap.size, 2, none⟩ u2).setCell ⟨w.heap.size, 3, none⟩ u3).setCell ⟨w.heap.size, 4, none⟩ u4).cell? ⟨B0, 3, none⟩ = some (.slice s.ha s.hN s.hc) ∧ (((((w'.setCell ⟨w.heap.size, 0, none⟩ u0).setCell ⟨w.heap.size, 1, none⟩ u1).setCell ⟨w.heap.size, 2, none⟩ u2).setCell ⟨w.heap.size, 3, none⟩ u3).setCell ⟨w.heap.size, 4, none⟩ u4).cell? ⟨B0, 4, none⟩ = some (.int .i64 s.bits) ∧ (((((w'.setCell ⟨w.heap.size, 0, none⟩ u0).setCell ⟨w.heap.size, 1, none⟩ u1).setCell ⟨w.heap.size, 2, none⟩ u2).setCell ⟨w.heap.size, 3, none⟩ u3).setCell ⟨w.heap.size, 4, none⟩ u4).cell? ⟨B1, 0, none⟩ = some (.bool t.ln) ∧ (((((w'.setCell ⟨w.heap.size, 0, none⟩ u0).setCell ⟨w.heap.size, 1, none⟩ u1).setCell ⟨w.heap.size, 2, none⟩ u2).setCell ⟨w.heap.size, 3, none⟩ u3).setCell ⟨w.heap.size, 4, none⟩ u4).cell? ⟨B1, 1, none⟩ = some (.slice t.la t.lN t.lc) ∧ (((((w'.setCell ⟨w.heap.size, 0, none⟩ u0).setCell ⟨w.heap.size, 1, none⟩ u1).setCell ⟨w.heap.size, 2, none⟩ u2).setCell ⟨w.heap.size, 3, none⟩ u3).setCell ⟨w.heap.size, 4, none⟩ u4).cell? ⟨B1, 2, none⟩ = some (.bool t.hn) ∧ (((((w'.setCell ⟨w.heap.size, 0, none⟩ u0).setCell ⟨w.heap.size, 1, none⟩ u1).setCell ⟨w.heap.size, 2, none⟩ u2).setCell ⟨w.heap.size, 3, none⟩ u3).setCell ⟨w.heap.size, 4, none⟩ u4).cell? ⟨B1, 3, none⟩ = some (.slice t.ha t.hN t.hc)) from fun w' u0 u1 u2 u3 u4 hB => by
    obtain ⟨x0, x1, x2, x3, x4⟩ := (a0.below hB).put (Nat.ne_of_lt l0) u0 u1 u2 u3 u4
    obtain ⟨y0, y1, y2, y3, y4⟩ := (g0.below hB).put (Nat.ne_of_lt l1) u0 u1 u2 u3 u4
    exact ⟨x0, x1, x2, x3, x4, y0, y1, y2, y3⟩)
  go_enter Try.func87, Try.ntmps87
  go_wp2
  obtain ⟨x0, x1, x2, x3, x4⟩ := a0
  obtain ⟨y0, y1, y2, y3, y4⟩ := g0
  rw [← hW]
  clear hW
  go_region_held3 (fun w' => w'.cell? ⟨B0, 0, none⟩ = some (.bool s.ln) ∧ w'.cell? ⟨B0, 1, none⟩ = some (.slice s.la s.lN s.lc) ∧ w'.cell? ⟨B0, 2, none⟩ = some (.bool s.hn) ∧ w'.cell? ⟨B0, 3, none⟩ = some (.slice s.ha s.hN s.hc) ∧ w'.cell? ⟨B0, 4, none⟩ = some (.int .i64 s.bits) ∧ w'.cell? ⟨B1, 0, none⟩ = some (.bool t.ln) ∧ w'.cell? ⟨B1, 1, none⟩ = some (.slice t.la t.lN t.lc) ∧ w'.cell? ⟨B1, 2, none⟩ = some (.bool t.hn) ∧ w'.cell? ⟨B1, 3, none⟩ = some (.slice t.ha t.hN t.hc)) (first | exact unhide HK _ (by first | with_reducible exact hB0 | with_reducible exact (bl1 _ _).drew | with_reducible exact (bl2 _ _ _).drew | with_reducible exact hB2 | with_reducible exact hB1 | with_reducible exact balloc hB1 _ ) | exact unhide HK5 _ _ _ _ _ _ hB2)
    (first
      | (go_at_call 88; refine (leastw_int _ 1 _ k (pr ⟨s.ln, s.la, s.lN, s.lc⟩ ⟨t.ln, t.la, t.lN, t.lc⟩) (pr lo lo') _ (by first | with_reducible exact (nums2' W W.heap.size rfl ⟨s.ln, s.la, s.lN, s.lc⟩ ⟨t.ln, t.la, t.lN, t.lc⟩ k lo lo' _ (unhide HS).lo (unhide HT).lo).below (Below.refl _ _).drew | with_reducible exact (nums2' W W.heap.size rfl ⟨s.ln, s.la, s.lN, s.lc⟩ ⟨t.ln, t.la, t.lN, t.lc⟩ k lo lo' _ (unhide HS).lo (unhide HT).lo).below (bl1 _ _).drew | with_reducible exact (nums2' (W.alloc _) (W.heap.size + 1) (by simp) ⟨s.ln, s.la, s.lN, s.lc⟩ ⟨t.ln, t.la, t.lN, t.lc⟩ k lo lo' _ ((unhide HS).lo.below (bl1 _ _)) ((unhide HT).lo.below (bl1 _ _))).below (Below.refl _ _).drew) (by omega) (by omega)).mono ?_; rintro r w1 ⟨neg1, a1, n1, c1, rfl, hint1, hb1⟩; have hB1 : Below W.heap.size W w1 := (by first | with_reducible exact bthen (bl1 _ _).drew hb1 | with_reducible exact bthen (bl2 _ _ _).drew hb1))
      | (go_at_call 89; refine (most_int _ 1 _ k (pr ⟨s.hn, s.ha, s.hN, s.hc⟩ ⟨t.hn, t.ha, t.hN, t.hc⟩) (pr hi hi') _ (by first | with_reducible exact nums2' w1 w1.heap.size rfl ⟨s.hn, s.ha, s.hN, s.hc⟩ ⟨t.hn, t.ha, t.hN, t.hc⟩ k hi hi' _ ((unhide HS).hi.below hB1) ((unhide HT).hi.below hB1) | with_reducible exact (nums2' (W.alloc _) (W.heap.size + 1) (by simp) ⟨s.hn, s.ha, s.hN, s.hc⟩ ⟨t.hn, t.ha, t.hN, t.hc⟩ k hi hi' _ ((unhide HS).hi.below (bl1 _ _)) ((unhide HT).hi.below (bl1 _ _))).below (bthen (Below.refl _ _).drew hb1) | with_reducible exact (nums2' W W.heap.size rfl ⟨s.hn, s.ha, s.hN, s.hc⟩ ⟨t.hn, t.ha, t.hN, t.hc⟩ k hi hi' _ (unhide HS).hi (unhide HT).hi).below (bthen (bl1 _ _).drew hb1)) (by omega) (by omega)).mono ?_; rintro r w2 ⟨neg2, a2, n2, c2, rfl, hint2, hb2⟩; have hB12 : Below w1.heap.size w1 w2 := (by first | with_reducible exact hb2 | with_reducible exact bthen (bl1 _ _) hb2); have hint1 := hint1.below hB12; have hB2 := bthen hB1 hB12; obtain ⟨q0, q1, q2, q3, q4, q5⟩ := r0.below hB2; have x5 := unhide HK _ hB2))
  all_goals
    go_wp2
    refine bodyPost_ret (v := .tuple #[.agg #[.bool neg1, .slice a1 n1 c1, .bool neg2, .slice a2 n2 c2, .int .i64 s.bits], .int .i64 0]) (by simp [results, Try.results87, go_sem, q0, q1, q2, q3, q4]) rfl ⟨⟨neg1, a1, n1, c1, neg2, a2, n2, c2, s.bits⟩, rfl, rfl, ?_, ?_⟩
    · exact SpAt.put5 ⟨hint1, hint2⟩ q0 q1 q2 q3 q4 _ _ _ _ _
    · exact set5 (bthen hBW hB2) (Nat.le_refl _) _ _ _ _ _
end Go.Proofs.Ytibbhnmbmgllcaa
