/-
  What the way that span.Hull hands to span.made answers, and that it leaves old memory alone.
  What span.Add answers of two small right spans, and that tailsurelaw.spanBegun answers true, and that they leave old memory alone.
-/
import Derived.Test.YtgmnknmjainabaaK07
namespace Go.Proofs.Ytgmnknmjainabaa
set_option linter.unusedVariables false
set_option linter.unusedSimpArgs false
set_option linter.unnecessarySimpa false
open Go.RowKit
attribute [local go_sem ↓] Go.wp_at_zero Go.wp_at_succ

theorem cell_put5 {w : World} {B B' o : Nat} {v : Option Value} (h : w.cell? ⟨B, o, none⟩ = v) (hne : B ≠ B') (u0 u1 u2 u3 u4 : Value) :
    (((((w.setCell ⟨B', 0, none⟩ u0).setCell ⟨B', 1, none⟩ u1).setCell ⟨B', 2, none⟩ u2).setCell ⟨B', 3, none⟩ u3).setCell ⟨B', 4, none⟩ u4).cell? ⟨B, o, none⟩ = v := by
  have ne : ∀ i : Nat, (⟨B', i, none⟩ : Addr) ≠ ⟨B, o, none⟩ := fun i e => hne (by injection e with e1; exact e1.symm)
  rw [World.cell?_setCell_other _ _ _ _ (ne 4), World.cell?_setCell_other _ _ _ _ (ne 3), World.cell?_setCell_other _ _ _ _ (ne 2), World.cell?_setCell_other _ _ _ _ (ne 1), World.cell?_setCell_other _ _ _ _ (ne 0)]
  exact h
theorem SpC.put {w : World} {B B' : Nat} {s : Sp} (h : SpC w B s) (hne : B ≠ B') (u0 u1 u2 u3 u4 : Value) :
    SpC (((((w.setCell ⟨B', 0, none⟩ u0).setCell ⟨B', 1, none⟩ u1).setCell ⟨B', 2, none⟩ u2).setCell ⟨B', 3, none⟩ u3).setCell ⟨B', 4, none⟩ u4) B s :=
  ⟨cell_put5 h.c0 hne _ _ _ _ _, cell_put5 h.c1 hne _ _ _ _ _, cell_put5 h.c2 hne _ _ _ _ _, cell_put5 h.c3 hne _ _ _ _ _, cell_put5 h.c4 hne _ _ _ _ _⟩

theorem nums2' (w : World) (B : Nat) (hB : w.heap.size = B) (x y : Nm) (k : Nat) (zx zy : Int) (T : TypeId) (hx : IntAt w x.neg x.a x.n x.cap k zx) (hy : IntAt w y.neg y.a y.n y.cap k zy) :
    Nums (w.alloc (.cells #[.bool x.neg, .slice x.a x.n x.cap, .bool y.neg, .slice y.a y.n y.cap] T)) B 2 k (pr x y) (pr zx zy) := by
  subst hB; exact nums2 w x y k zx zy T hx hy

set_option maxRecDepth 100000 in
set_option maxHeartbeats 2000000 in
theorem hull1_int (w : World) (B0 B1 : Nat) (s t : Sp) (k : Nat) (lo hi lo' hi' : Int) (hs : SpAt w s k lo hi) (ht : SpAt w t k lo' hi') (hk : k ≤ 300000000) (a : SpC w B0 s) (g : SpC w B1 t) :
    Calls Try.prog 87 #[.pointer (some ⟨B0, 0, none⟩), .pointer (some ⟨B1, 0, none⟩)] w (PairAns w s.bits (k + 1) (minZ lo lo') (maxZ hi hi') 0) := by
  have l0 := a.lt
  have l1 := g.lt
  obtain ⟨W, hW⟩ : ∃ W, W = w.alloc (.cells #[.bool false, .slice none 0 0, .bool false, .slice none 0 0, .int .i64 0] 26) := ⟨_, rfl⟩
  have hBW : Below w.heap.size w W := by rw [hW]; exact bl1 _ _
  have r0 : NoC W w.heap.size := by rw [hW]; exact noc_new _ _
  have a0 := a.below hBW
  have g0 := g.below hBW
  have HS := hide (hs.below hBW)
  have HT := hide (ht.below hBW)
  have hB0 : Below W.heap.size W W.drew := (Below.refl _ _).drew
  have HK := hide (show ∀ w', Below W.heap.size W w' → (w'.cell? ⟨B0, 0, none⟩ = some (.bool s.ln) ∧ w'.cell? ⟨B0, 1, none⟩ = some (.slice s.la s.lN s.lc) ∧ w'.cell? ⟨B0, 2, none⟩ = some (.bool s.hn) ∧ w'.cell? ⟨B0, 3, none⟩ = some (.slice s.ha s.hN s.hc) ∧ w'.cell? ⟨B0, 4, none⟩ = some (.int .i64 s.bits) ∧ w'.cell? ⟨B1, 0, none⟩ = some (.bool t.ln) ∧ w'.cell? ⟨B1, 1, none⟩ = some (.slice t.la t.lN t.lc) ∧ w'.cell? ⟨B1, 2, none⟩ = some (.bool t.hn) ∧ w'.cell? ⟨B1, 3, none⟩ = some (.slice t.ha t.hN t.hc)) from fun w' hB => by
    obtain ⟨x0, x1, x2, x3, x4⟩ := a0.below hB
    obtain ⟨y0, y1, y2, y3, y4⟩ := g0.below hB
    exact ⟨x0, x1, x2, x3, x4, y0, y1, y2, y3⟩)
  have HK5 := hide (show ∀ w' u0 u1 u2 u3 u4, Below W.heap.size W w' → ((((((w'.setCell ⟨w.heap.size, 0, none⟩ u0).setCell ⟨w.heap.size, 1, none⟩ u1).setCell ⟨w.heap.size, 2, none⟩ u2).setCell ⟨w.heap.size, 3, none⟩ u3).setCell ⟨w.heap.size, 4, none⟩ u4).cell? ⟨B0, 0, none⟩ = some (.bool s.ln) ∧ (((((w'.setCell ⟨w.heap.size, 0, none⟩ u0).setCell ⟨w.heap.size, 1, none⟩ u1).setCell ⟨w.heap.size, 2, none⟩ u2).setCell ⟨w.heap.size, 3, none⟩ u3).setCell ⟨w.heap.size, 4, none⟩ u4).cell? ⟨B0, 1, none⟩ = some (.slice s.la s.lN s.lc) ∧ (((((w'.setCell ⟨w.heap.size, 0, none⟩ u0).setCell ⟨w.heap.size, 1, none⟩ u1).setCell ⟨w.heap.size, 2, none⟩ u2).setCell ⟨w.heap.size, 3, none⟩ u3).setCell ⟨w.heap.size, 4, none⟩ u4).cell? ⟨B0, 2, none⟩ = some (.bool s.hn) ∧ (((((w'.setCell ⟨w.heap.size, 0, none⟩ u0).setCell ⟨w.heap.size, 1, none⟩ u1).setCell ⟨w.heap.size, 2, none⟩ u2).setCell ⟨w.heap.size, 3, none⟩ u3).setCell ⟨w.heap.size, 4, none⟩ u4).cell? ⟨B0, 3, none⟩ = some (.slice s.ha s.hN s.hc) ∧ (((((w'.setCell ⟨w.heap.size, 0, none⟩ u0).setCell ⟨w.heap.size, 1, none⟩ u1).setCell ⟨w.heap.size, 2, none⟩ u2).setCell ⟨w.heap.size, 3, none⟩ u3).setCell ⟨w.heap.size, 4, none⟩ u4).cell? ⟨B0, 4, none⟩ = some (.int .i64 s.bits) ∧ (((((w'.setCell ⟨w.heap.size, 0, none⟩ u0).setCell ⟨w.heap.size, 1, none⟩ u1).setCell ⟨w.heap.size, 2, none⟩ u2).setCell ⟨w.heap.size, 3, none⟩ u3).setCell ⟨w.heap.size, 4, none⟩ u4).cell? ⟨B1, 0, none⟩ = some (.bool t.ln) ∧ (((((w'.setCell ⟨w.heap.size, 0, none⟩ u0).setCell ⟨w.heap.size, 1, none⟩ u1).setCell ⟨w.heap.size, 2, none⟩ u2).setCell ⟨w.heap.size, 3, none⟩ u3).setCell ⟨w.heap.size, 4, none⟩ u4).cell? ⟨B1, 1, none⟩ = some (.slice t.la t.lN t.lc) ∧ (((((w'.setCell ⟨w.heap.size, 0, none⟩ u0).setCell ⟨w.heap.size, 1, none⟩ u1).setCell ⟨w.heap.size, 2, none⟩ u2).setCell ⟨w.heap.size, 3, none⟩ u3).setCell ⟨w.heap.size, 4, none⟩ u4).cell? ⟨B1, 2, none⟩ = some (.bool t.hn) ∧ (((((w'.setCell ⟨w.heap.size, 0, none⟩ u0).setCell ⟨w.heap.size, 1, none⟩ u1).setCell ⟨w.heap.size, 2, none⟩ u2).setCell ⟨w.heap.size, 3, none⟩ u3).setCell ⟨w.heap.size, 4, none⟩ u4).cell? ⟨B1, 3, none⟩ = some (.slice t.ha t.hN t.hc)) from fun w' u0 u1 u2 u3 u4 hB => by
    obtain ⟨x0, x1, x2, x3, x4⟩ := (a0.below hB).put (Nat.ne_of_lt l0) u0 u1 u2 u3 u4
    obtain ⟨y0, y1, y2, y3, y4⟩ := (g0.below hB).put (Nat.ne_of_lt l1) u0 u1 u2 u3 u4
    exact ⟨x0, x1, x2, x3, x4, y0, y1, y2, y3⟩)
  go_enter Try.func87, Try.ntmps87
  go_wp2
  obtain ⟨x0, x1, x2, x3, x4⟩ := a0
  obtain ⟨y0, y1, y2, y3, y4⟩ := g0
  rw [← hW]
  clear hW
  go_region_held3 (fun w' => w'.cell? ⟨B0, 0, none⟩ = some (.bool s.ln) ∧ w'.cell? ⟨B0, 1, none⟩ = some (.slice s.la s.lN s.lc) ∧ w'.cell? ⟨B0, 2, none⟩ = some (.bool s.hn) ∧ w'.cell? ⟨B0, 3, none⟩ = some (.slice s.ha s.hN s.hc) ∧ w'.cell? ⟨B0, 4, none⟩ = some (.int .i64 s.bits) ∧ w'.cell? ⟨B1, 0, none⟩ = some (.bool t.ln) ∧ w'.cell? ⟨B1, 1, none⟩ = some (.slice t.la t.lN t.lc) ∧ w'.cell? ⟨B1, 2, none⟩ = some (.bool t.hn) ∧ w'.cell? ⟨B1, 3, none⟩ = some (.slice t.ha t.hN t.hc)) (first | exact unhide HK _ (by first | with_reducible exact hB0 | with_reducible exact (bl1 _ _).drew | with_reducible exact (bl2 _ _ _).drew | with_reducible exact hB2 | with_reducible exact hB1 | with_reducible exact balloc hB1 _ ) | exact unhide HK5 _ _ _ _ _ _ hB2)
    (first
      | (go_at_call 88; refine (leastw_int _ 1 _ k (pr ⟨s.ln, s.la, s.lN, s.lc⟩ ⟨t.ln, t.la, t.lN, t.lc⟩) (pr lo lo') _ (by first | with_reducible exact (nums2' W W.heap.size rfl ⟨s.ln, s.la, s.lN, s.lc⟩ ⟨t.ln, t.la, t.lN, t.lc⟩ k lo lo' _ (unhide HS).lo (unhide HT).lo).below (Below.refl _ _).drew | with_reducible exact (nums2' W W.heap.size rfl ⟨s.ln, s.la, s.lN, s.lc⟩ ⟨t.ln, t.la, t.lN, t.lc⟩ k lo lo' _ (unhide HS).lo (unhide HT).lo).below (bl1 _ _).drew | with_reducible exact (nums2' (W.alloc _) (W.heap.size + 1) (by simp) ⟨s.ln, s.la, s.lN, s.lc⟩ ⟨t.ln, t.la, t.lN, t.lc⟩ k lo lo' _ ((unhide HS).lo.below (bl1 _ _)) ((unhide HT).lo.below (bl1 _ _))).below (Below.refl _ _).drew) (by omega) (by omega)).mono ?_; rintro r w1 ⟨neg1, a1, n1, c1, rfl, hint1, hb1⟩; have hB1 : Below W.heap.size W w1 := (by first | with_reducible exact bthen (bl1 _ _).drew hb1 | with_reducible exact bthen (bl2 _ _ _).drew hb1))
      | (go_at_call 89; refine (most_int _ 1 _ k (pr ⟨s.hn, s.ha, s.hN, s.hc⟩ ⟨t.hn, t.ha, t.hN, t.hc⟩) (pr hi hi') _ (by first | with_reducible exact nums2' w1 w1.heap.size rfl ⟨s.hn, s.ha, s.hN, s.hc⟩ ⟨t.hn, t.ha, t.hN, t.hc⟩ k hi hi' _ ((unhide HS).hi.below hB1) ((unhide HT).hi.below hB1) | with_reducible exact (nums2' (W.alloc _) (W.heap.size + 1) (by simp) ⟨s.hn, s.ha, s.hN, s.hc⟩ ⟨t.hn, t.ha, t.hN, t.hc⟩ k hi hi' _ ((unhide HS).hi.below (bl1 _ _)) ((unhide HT).hi.below (bl1 _ _))).below (bthen (Below.refl _ _).drew hb1) | with_reducible exact (nums2' W W.heap.size rfl ⟨s.hn, s.ha, s.hN, s.hc⟩ ⟨t.hn, t.ha, t.hN, t.hc⟩ k hi hi' _ (unhide HS).hi (unhide HT).hi).below (bthen (bl1 _ _).drew hb1)) (by omega) (by omega)).mono ?_; rintro r w2 ⟨neg2, a2, n2, c2, rfl, hint2, hb2⟩; have hB12 : Below w1.heap.size w1 w2 := (by first | with_reducible exact hb2 | with_reducible exact bthen (bl1 _ _) hb2); have hint1 := hint1.below hB12; have hB2 := bthen hB1 hB12; obtain ⟨q0, q1, q2, q3, q4, q5⟩ := r0.below hB2; have x5 := unhide HK _ hB2))
  all_goals
    go_wp2
    refine bodyPost_ret (v := .tuple #[.agg #[.bool neg1, .slice a1 n1 c1, .bool neg2, .slice a2 n2 c2, .int .i64 s.bits], .int .i64 0]) (by simp [results, Try.results87, go_sem, q0, q1, q2, q3, q4]) rfl ⟨⟨neg1, a1, n1, c1, neg2, a2, n2, c2, s.bits⟩, rfl, rfl, ?_, ?_⟩
    · exact SpAt.put5 ⟨hint1, hint2⟩ q0 q1 q2 q3 q4 _ _ _ _ _
    · exact set5 (bthen hBW hB2) (Nat.le_refl _) _ _ _ _ _
end Go.Proofs.Ytgmnknmjainabaa

namespace Go.Proofs.Ytgmnknmjainabaa
set_option linter.unusedVariables false
set_option linter.unusedSimpArgs false
set_option linter.unnecessarySimpa false
open Go.RowKit
attribute [local go_sem ↓] Go.wp_at_zero Go.wp_at_succ

set_option maxRecDepth 100000 in
set_option maxHeartbeats 2000000 in
theorem spanAdd_ok (w : World) (s t : Sp) (d e d' e' : Nat → Int) (k : Nat) (lo hi lo' hi' : Int) (hs : SpDig w s d e) (ht : SpDig w t d' e') (c1 : chkE s d e = 0) (c2 : chkE t d' e' = 0) (hbt : s.bits = t.bits) (ps : SpAt w s k lo hi) (pt : SpAt w t k lo' hi')
    (hk : k ≤ 249) (l1 : lo ≤ hi) (l2 : lo' ≤ hi') (b1 : 1 ≤ s.bits) (b2 : s.bits ≤ 120) :
    Calls Try.prog 27 #[.agg #[.bool s.ln, .slice s.la s.lN s.lc, .bool s.hn, .slice s.ha s.hN s.hc, .int .i64 s.bits], .agg #[.bool t.ln, .slice t.la t.lN t.lc, .bool t.hn, .slice t.ha t.hN t.hc, .int .i64 t.bits]] w (PairAns w s.bits (k + 1) (lo + lo') (hi + hi') 0) := by
  have HM := hide (fun p1 p2 B W cap hS hF => made_ok_Add p1 p2 B W (pr s t) (pr d d') (pr e e') 2 cap (by omega) hS (fun z hz => by
    have e1 : (fun j => chkE (pr s t j) (pr d d' j) (pr e e' j)) = (fun j => pr (chkE s d e) (chkE t d' e') j) := by
      funext j; unfold pr; split <;> rfl
    have e2 : (fun j => (pr s t j).bits) = (fun j => pr s.bits t.bits j) := by
      funext j; unfold pr; split <;> rfl
    rw [e1, e2] at hz
    rw [flt2 hz]; simp [fltE2, c1, c2, hbt]) s.bits (k + 1) (lo + lo') (hi + hi') hF (by omega) (by omega) b1 b2)
  have HS := hide (fun W hS hT => spans2 W s t d e d' e' 26 hS hT)
  clear c1 c2 hbt b1 b2 l1 l2
  go_enter Try.func27, Try.ntmps27
  go_wp2_with fail
  obtain ⟨W, hW⟩ : ∃ W, W = ((w.alloc (.cells #[.bool s.ln, .slice s.la s.lN s.lc, .bool s.hn, .slice s.ha s.hN s.hc, .int .i64 s.bits] 26)).alloc (.cells #[.bool t.ln, .slice t.la t.lN t.lc, .bool t.hn, .slice t.ha t.hN t.hc, .int .i64 t.bits] 26)).alloc (.cells #[.bool false, .slice none 0 0, .bool false, .slice none 0 0, .int .i64 0] 26) := ⟨_, rfl⟩
  have s3 : W.heap.size = w.heap.size + 1 + 1 + 1 := by rw [hW]; simp
  have hBW : Below w.heap.size w W := by rw [hW]; exact bl3 _ _ _ _
  have a0 : W.cell? ⟨w.heap.size, 0, none⟩ = some (.bool s.ln) := by rw [hW]; simp [go_sem]
  have a1 : W.cell? ⟨w.heap.size, 1, none⟩ = some (.slice s.la s.lN s.lc) := by rw [hW]; simp [go_sem]
  have a2 : W.cell? ⟨w.heap.size, 2, none⟩ = some (.bool s.hn) := by rw [hW]; simp [go_sem]
  have a3 : W.cell? ⟨w.heap.size, 3, none⟩ = some (.slice s.ha s.hN s.hc) := by rw [hW]; simp [go_sem]
  have a4 : W.cell? ⟨w.heap.size, 4, none⟩ = some (.int .i64 s.bits) := by rw [hW]; simp [go_sem]
  have g0 : W.cell? ⟨w.heap.size + 1, 0, none⟩ = some (.bool t.ln) := by rw [hW]; simp [go_sem]
  have g1 : W.cell? ⟨w.heap.size + 1, 1, none⟩ = some (.slice t.la t.lN t.lc) := by rw [hW]; simp [go_sem]
  have g2 : W.cell? ⟨w.heap.size + 1, 2, none⟩ = some (.bool t.hn) := by rw [hW]; simp [go_sem]
  have g3 : W.cell? ⟨w.heap.size + 1, 3, none⟩ = some (.slice t.ha t.hN t.hc) := by rw [hW]; simp [go_sem]
  have g4 : W.cell? ⟨w.heap.size + 1, 4, none⟩ = some (.int .i64 t.bits) := by rw [hW]; simp [go_sem]
  have r0 : W.cell? ⟨w.heap.size + 1 + 1, 0, none⟩ = some (.bool false) := by rw [hW]; simp [go_sem]
  have r1 : W.cell? ⟨w.heap.size + 1 + 1, 1, none⟩ = some (.slice none 0 0) := by rw [hW]; simp [go_sem]
  have r2 : W.cell? ⟨w.heap.size + 1 + 1, 2, none⟩ = some (.bool false) := by rw [hW]; simp [go_sem]
  have r3 : W.cell? ⟨w.heap.size + 1 + 1, 3, none⟩ = some (.slice none 0 0) := by rw [hW]; simp [go_sem]
  have r4 : W.cell? ⟨w.heap.size + 1 + 1, 4, none⟩ = some (.int .i64 0) := by rw [hW]; simp [go_sem]
  have r5 : ∀ o, W.frozen? ⟨w.heap.size + 1 + 1, o, none⟩ = false := by intro o; rw [hW]; simp [go_sem]
  rw [← hW, ← s3]
  clear hW
  have n0 : w.heap.size < W.heap.size := by omega
  have n1 : w.heap.size + 1 < W.heap.size := by omega
  have n2 : w.heap.size + 1 + 1 < W.heap.size := by omega
  refine (unhide HM _ _ _ _ _ (unhide HS W (hs.below hBW) (ht.below hBW)) (fun w' hB => add1_int w' _ _ s t k lo hi lo' hi' ((ps.below hBW).below (bthen (bl1 _ _) hB)) ((pt.below hBW).below (bthen (bl1 _ _) hB)) (by omega)
    (((bthen (bl1 _ _) hB).cell (p := ⟨w.heap.size, 0, none⟩) n0).trans a0) (((bthen (bl1 _ _) hB).cell (p := ⟨w.heap.size, 1, none⟩) n0).trans a1) (((bthen (bl1 _ _) hB).cell (p := ⟨w.heap.size, 2, none⟩) n0).trans a2) (((bthen (bl1 _ _) hB).cell (p := ⟨w.heap.size, 3, none⟩) n0).trans a3) (((bthen (bl1 _ _) hB).cell (p := ⟨w.heap.size, 4, none⟩) n0).trans a4)
    (((bthen (bl1 _ _) hB).cell (p := ⟨w.heap.size + 1, 0, none⟩) n1).trans g0) (((bthen (bl1 _ _) hB).cell (p := ⟨w.heap.size + 1, 1, none⟩) n1).trans g1) (((bthen (bl1 _ _) hB).cell (p := ⟨w.heap.size + 1, 2, none⟩) n1).trans g2) (((bthen (bl1 _ _) hB).cell (p := ⟨w.heap.size + 1, 3, none⟩) n1).trans g3) (((bthen (bl1 _ _) hB).cell (p := ⟨w.heap.size + 1, 4, none⟩) n1).trans g4))).mono ?_
  rintro r w1 ⟨u, rfl, hub, hup, hb1⟩
  have hB1 : Below W.heap.size W w1 := bthen (bl1 _ _) hb1
  have q0 := (hB1.cell (p := ⟨w.heap.size + 1 + 1, 0, none⟩) n2).trans r0
  have q1 := (hB1.cell (p := ⟨w.heap.size + 1 + 1, 1, none⟩) n2).trans r1
  have q2 := (hB1.cell (p := ⟨w.heap.size + 1 + 1, 2, none⟩) n2).trans r2
  have q3 := (hB1.cell (p := ⟨w.heap.size + 1 + 1, 3, none⟩) n2).trans r3
  have q4 := (hB1.cell (p := ⟨w.heap.size + 1 + 1, 4, none⟩) n2).trans r4
  have q5 : ∀ o, w1.frozen? ⟨w.heap.size + 1 + 1, o, none⟩ = false := fun o => (hB1.frozen (p := ⟨w.heap.size + 1 + 1, o, none⟩) n2).trans (r5 o)
  have HB := hide hub
  clear hub
  go_wp2_with fail
  refine bodyPost_ret (v := .tuple #[.agg #[.bool u.ln, .slice u.la u.lN u.lc, .bool u.hn, .slice u.ha u.hN u.hc, .int .i64 u.bits], .int .i64 0]) (by simp [results, Try.results27, go_sem, q0, q1, q2, q3, q4]) rfl ⟨u, rfl, unhide HB, ?_, ?_⟩
  · exact SpAt.put5 hup q0 q1 q2 q3 q4 _ _ _ _ _
  · exact set5 (bthen hBW hB1) (by omega) _ _ _ _ _

set_option maxRecDepth 100000 in
set_option maxHeartbeats 4000000 in
theorem spanBegun_any (w : World) : Calls Try.prog 24 #[] w fun r w' => r = .returned (.bool true) ∧ Below w.heap.size w w' := by
  have e1 : (1 : Int) * Q 8 / 3 = 85 := by decide
  have e2 : -(-((1 : Int) * Q 8) / 3) = 86 := by decide
  have HO := hide (fun W => spanOf_ok 1 3 8 W (by omega) (by omega) (by omega) (by omega) (by omega) (by omega))
  rw [e1, e2] at HO
  clear e1 e2
  go_enter Try.func24, Try.ntmps24
  go_wp2_with fail
  refine (unhide HO _).mono ?_
  rintro r w1 ⟨s, rfl, hsb, hsp, hb1⟩
  obtain ⟨dd, ee, hdig, hchk⟩ := chk_small hsp (by omega) (by omega) (by omega) (by omega)
  have HB := hide hsb
  have HC := hide hchk
  have hs1 : 1 ≤ s.bits := by omega
  have hs2 : s.bits ≤ 120 := by omega
  clear hsb hchk
  go_wp2_with fail
  refine (spanAdd_ok _ s s dd ee dd ee 100 85 86 85 86 (hdig.below (bl1 _ _)) (hdig.below (bl1 _ _)) (unhide HC) (unhide HC) rfl (hsp.below (bl1 _ _)) (hsp.below (bl1 _ _)) (by omega) (by omega) (by omega) hs1 hs2).mono ?_
  rintro r w2 ⟨t, rfl, htb, htp, hb2⟩
  have hB2 : Below w.heap.size w w2 := bthen (balloc hb1 _) hb2
  have hB12 : Below w1.heap.size w1 w2 := bthen (bl1 _ _) hb2
  have HB2 := hide htb
  clear htb
  obtain ⟨hsz2, hcell2, hfz2⟩ := near (w1.heap.size + 1) (by simp) hb2
  have z1 := Nat.lt_of_lt_of_le (Nat.lt_succ_self w1.heap.size) hsz2
  have a0 : w2.cell? ⟨w1.heap.size, 0, none⟩ = some (.bool s.ln) := by simp [hcell2]
  have a1 : w2.cell? ⟨w1.heap.size, 1, none⟩ = some (.slice s.la s.lN s.lc) := by simp [hcell2]
  have a2 : w2.cell? ⟨w1.heap.size, 2, none⟩ = some (.bool s.hn) := by simp [hcell2]
  have a3 : w2.cell? ⟨w1.heap.size, 3, none⟩ = some (.slice s.ha s.hN s.hc) := by simp [hcell2]
  go_wp2_with fail
  obtain ⟨W, hW⟩ : ∃ W, W = w2.alloc (.cells #[.bool t.ln, .slice t.la t.lN t.lc, .bool t.hn, .slice t.ha t.hN t.hc, .int .i64 t.bits] 26) := ⟨_, rfl⟩
  have hBW : Below w2.heap.size w2 W := by rw [hW]; exact bl1 _ _
  have g0 : W.cell? ⟨w2.heap.size, 0, none⟩ = some (.bool t.ln) := by rw [hW]; simp
  have g1 : W.cell? ⟨w2.heap.size, 1, none⟩ = some (.slice t.la t.lN t.lc) := by rw [hW]; simp
  have hl2 : w2.heap.size < W.heap.size := by rw [hW]; simp
  have hl1 : w1.heap.size < W.heap.size := Nat.lt_trans z1 hl2
  have HS := hide ((hsp.below hB12).below hBW)
  have HT := hide (htp.below hBW)
  have HK := hide (show ∀ w', Below W.heap.size W w' → (w'.cell? ⟨w1.heap.size, 0, none⟩ = some (.bool s.ln) ∧ w'.cell? ⟨w1.heap.size, 1, none⟩ = some (.slice s.la s.lN s.lc) ∧ w'.cell? ⟨w1.heap.size, 2, none⟩ = some (.bool s.hn) ∧ w'.cell? ⟨w1.heap.size, 3, none⟩ = some (.slice s.ha s.hN s.hc) ∧ w'.cell? ⟨w2.heap.size, 0, none⟩ = some (.bool t.ln) ∧ w'.cell? ⟨w2.heap.size, 1, none⟩ = some (.slice t.la t.lN t.lc)) from fun w' hB =>
    ⟨(hB.cell (p := ⟨w1.heap.size, 0, none⟩) hl1).trans ((hBW.cell (p := ⟨w1.heap.size, 0, none⟩) z1).trans a0), (hB.cell (p := ⟨w1.heap.size, 1, none⟩) hl1).trans ((hBW.cell (p := ⟨w1.heap.size, 1, none⟩) z1).trans a1), (hB.cell (p := ⟨w1.heap.size, 2, none⟩) hl1).trans ((hBW.cell (p := ⟨w1.heap.size, 2, none⟩) z1).trans a2), (hB.cell (p := ⟨w1.heap.size, 3, none⟩) hl1).trans ((hBW.cell (p := ⟨w1.heap.size, 3, none⟩) z1).trans a3), (hB.cell (p := ⟨w2.heap.size, 0, none⟩) hl2).trans g0, (hB.cell (p := ⟨w2.heap.size, 1, none⟩) hl2).trans g1⟩)
  have hBw : Below w.heap.size w W := bthen hB2 hBW
  have f1 : cmpInt 85 85 = 0 := rfl
  have f2 : cmpInt 86 86 = 0 := rfl
  have f3 : cmpInt (85 + 85) 170 = 0 := rfl
  have F1 := hide f1
  have F2 := hide f2
  have F3 := hide f3
  obtain ⟨k0, k1, k2, k3, k4, k5⟩ := unhide HK W (Below.refl _ _)
  rw [← hW]
  clear hW a0 a1 a2 a3 g0 g1 hcell2 hfz2 hb2 hb1 hdig hsp htp hBW hB2 hB12 HO f1 f2 f3
  go_region_held3 (fun w' => w'.cell? ⟨w1.heap.size, 0, none⟩ = some (.bool s.ln) ∧ w'.cell? ⟨w1.heap.size, 1, none⟩ = some (.slice s.la s.lN s.lc) ∧ w'.cell? ⟨w1.heap.size, 2, none⟩ = some (.bool s.hn) ∧ w'.cell? ⟨w1.heap.size, 3, none⟩ = some (.slice s.ha s.hN s.hc) ∧ w'.cell? ⟨w2.heap.size, 0, none⟩ = some (.bool t.ln) ∧ w'.cell? ⟨w2.heap.size, 1, none⟩ = some (.slice t.la t.lN t.lc)) (exact unhide HK _ (by first | exact (Below.refl _ _).drew | exact hB8 | exact hB7 | exact hB6 | exact hB5 | exact hB4 | exact hB3))
    (first
      | (go_at_call 62; have hq := hB6; refine (numOf_int 170 _ (by decide) (by decide)).mono ?_; rintro r w7 ⟨neg7, a7, n7, c7, rfl, hint7, hb7⟩; have hB7 := bthen hB6 hb7)
      | (go_at_call 62; have hq := hB4; refine (numOf_int 86 _ (by decide) (by decide)).mono ?_; rintro r w5 ⟨neg5, a5, n5, c5, rfl, hint5, hb5⟩; have hB5 := bthen hB4 hb5)
      | (go_at_call 62; refine (numOf_int 85 _ (by decide) (by decide)).mono ?_; rintro r w3 ⟨neg3, a3, n3, c3, rfl, hint3, hb3⟩; have hB3 : Below W.heap.size W w3 := bthen (Below.refl _ _).drew hb3)
      | (go_at_call 33; have hq := hB7; refine (cmp_int _ _ _ _ _ _ _ _ 101 4 (85 + 85) 170 _ ((unhide HT).lo.below hB7) hint7).mono ?_; rintro r w8 ⟨rfl, hb8⟩; have hB8 := bthen hB7 hb8; rw [unhide F3])
      | (go_at_call 33; have hq := hB5; refine (cmp_int _ _ _ _ _ _ _ _ 100 4 86 86 _ ((unhide HS).hi.below hB5) hint5).mono ?_; rintro r w6 ⟨rfl, hb6⟩; have hB6 := bthen hB5 hb6; rw [unhide F2])
      | (go_at_call 33; refine (cmp_int _ _ _ _ _ _ _ _ 100 4 85 85 _ ((unhide HS).lo.below hB3) hint3).mono ?_; rintro r w4 ⟨rfl, hb4⟩; have hB4 := bthen hB3 hb4; rw [unhide F1]))
  go_wp2
  go_ret
  exact ⟨rfl, bthen hBw hB8⟩
end Go.Proofs.Ytgmnknmjainabaa
