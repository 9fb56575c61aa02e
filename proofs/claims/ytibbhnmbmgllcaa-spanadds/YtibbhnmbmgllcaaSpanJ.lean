/-
  What wide.ceil, wide.Of and span.Of answer, where the lower number is less than 2 to the power of 48, and that they leave old memory alone.
-/
import Derived.Test.YtibbhnmbmgllcaaSpanI
namespace Go.Proofs.Ytibbhnmbmgllcaa
set_option linter.unusedVariables false
set_option linter.unusedSimpArgs false
set_option linter.unnecessarySimpa false
open Go.RowKit
attribute [local go_sem ↓] Go.wp_at_zero Go.wp_at_succ

/-- A span that is stored into a variable of its own. -/
theorem IntAt.put5 {w : World} {neg : Bool} {a : Option Addr} {n cap k : Nat} {z : Int} (h : IntAt w neg a n cap k z) {B : Nat} {x0 x2 : Bool} {y0 y3 : Option Addr} {y1 y2 y4 y5 : Nat} {i : Int}
    (h0 : w.cell? ⟨B, 0, none⟩ = some (.bool x0)) (h1 : w.cell? ⟨B, 1, none⟩ = some (.slice y0 y1 y2)) (h2 : w.cell? ⟨B, 2, none⟩ = some (.bool x2)) (h3 : w.cell? ⟨B, 3, none⟩ = some (.slice y3 y4 y5)) (h4 : w.cell? ⟨B, 4, none⟩ = some (.int .i64 i)) (u0 u1 u2 u3 u4 : Value) :
    IntAt (((((w.setCell ⟨B, 0, none⟩ u0).setCell ⟨B, 1, none⟩ u1).setCell ⟨B, 2, none⟩ u2).setCell ⟨B, 3, none⟩ u3).setCell ⟨B, 4, none⟩ u4) neg a n cap k z := by
  have ne : ∀ i j : Nat, i ≠ j → (⟨B, i, none⟩ : Addr) ≠ ⟨B, j, none⟩ := fun i j hij e => hij (by injection e)
  have g1 : (w.setCell ⟨B, 0, none⟩ u0).cell? ⟨B, 1, none⟩ = some (.slice y0 y1 y2) := (World.cell?_setCell_other _ _ _ _ (ne 0 1 (by omega))).trans h1
  have g2 : ((w.setCell ⟨B, 0, none⟩ u0).setCell ⟨B, 1, none⟩ u1).cell? ⟨B, 2, none⟩ = some (.bool x2) := (World.cell?_setCell_other _ _ _ _ (ne 1 2 (by omega))).trans ((World.cell?_setCell_other _ _ _ _ (ne 0 2 (by omega))).trans h2)
  have g3 : (((w.setCell ⟨B, 0, none⟩ u0).setCell ⟨B, 1, none⟩ u1).setCell ⟨B, 2, none⟩ u2).cell? ⟨B, 3, none⟩ = some (.slice y3 y4 y5) := (World.cell?_setCell_other _ _ _ _ (ne 2 3 (by omega))).trans ((World.cell?_setCell_other _ _ _ _ (ne 1 3 (by omega))).trans ((World.cell?_setCell_other _ _ _ _ (ne 0 3 (by omega))).trans h3))
  have g4 : ((((w.setCell ⟨B, 0, none⟩ u0).setCell ⟨B, 1, none⟩ u1).setCell ⟨B, 2, none⟩ u2).setCell ⟨B, 3, none⟩ u3).cell? ⟨B, 4, none⟩ = some (.int .i64 i) := (World.cell?_setCell_other _ _ _ _ (ne 3 4 (by omega))).trans ((World.cell?_setCell_other _ _ _ _ (ne 2 4 (by omega))).trans ((World.cell?_setCell_other _ _ _ _ (ne 1 4 (by omega))).trans ((World.cell?_setCell_other _ _ _ _ (ne 0 4 (by omega))).trans h4)))
  exact ((((h.store h0 (fun _ e => by cases e) u0).store g1 (fun _ e => by cases e) u1).store g2 (fun _ e => by cases e) u2).store g3 (fun _ e => by cases e) u3).store g4 (fun _ e => by cases e) u4
theorem SpAt.put5 {w : World} {s : Sp} {k : Nat} {lo hi : Int} (h : SpAt w s k lo hi) {B : Nat} {x0 x2 : Bool} {y0 y3 : Option Addr} {y1 y2 y4 y5 : Nat} {i : Int}
    (h0 : w.cell? ⟨B, 0, none⟩ = some (.bool x0)) (h1 : w.cell? ⟨B, 1, none⟩ = some (.slice y0 y1 y2)) (h2 : w.cell? ⟨B, 2, none⟩ = some (.bool x2)) (h3 : w.cell? ⟨B, 3, none⟩ = some (.slice y3 y4 y5)) (h4 : w.cell? ⟨B, 4, none⟩ = some (.int .i64 i)) (u0 u1 u2 u3 u4 : Value) :
    SpAt (((((w.setCell ⟨B, 0, none⟩ u0).setCell ⟨B, 1, none⟩ u1).setCell ⟨B, 2, none⟩ u2).setCell ⟨B, 3, none⟩ u3).setCell ⟨B, 4, none⟩ u4) s k lo hi := ⟨h.lo.put5 h0 h1 h2 h3 h4 u0 u1 u2 u3 u4, h.hi.put5 h0 h1 h2 h3 h4 u0 u1 u2 u3 u4⟩
theorem set5 {B B' : Nat} {a w : World} (h : Below B a w) (hB : B ≤ B') (u0 u1 u2 u3 u4 : Value) : Below B a (((((w.setCell ⟨B', 0, none⟩ u0).setCell ⟨B', 1, none⟩ u1).setCell ⟨B', 2, none⟩ u2).setCell ⟨B', 3, none⟩ u3).setCell ⟨B', 4, none⟩ u4) :=
  ((((h.setCell (p := ⟨B', 0, none⟩) hB u0).setCell (p := ⟨B', 1, none⟩) hB u1).setCell (p := ⟨B', 2, none⟩) hB u2).setCell (p := ⟨B', 3, none⟩) hB u3).setCell (p := ⟨B', 4, none⟩) hB u4

set_option maxRecDepth 100000 in
set_option maxHeartbeats 2000000 in
theorem ceil_core (neg neg2 : Bool) (a c : Option Addr) (n m cap cap2 k k2 : Nat) (x y : Int) (w : World) (h1 : IntAt w neg a n cap k x) (h2 : IntAt w neg2 c m cap2 k2 y) (hk : k ≤ 800000000)
    (hfl : ∀ w' neg' a' n' cap', IntAt w' neg' a' n' cap' k (-x) → IntAt w' neg2 c m cap2 k2 y → Calls Try.prog 103 #[.agg #[.bool neg', .slice a' n' cap'], .agg #[.bool neg2, .slice c m cap2]] w' (FloorAns w' k (-x / y))) :
    Calls Try.prog 123 #[.agg #[.bool neg, .slice a n cap], .agg #[.bool neg2, .slice c m cap2]] w (FloorAns w k (-(-x / y))) := by
  have ne1 : w.heap.size ≠ w.heap.size + 1 + 1 := by omega
  have ne2 : w.heap.size + 1 + 1 ≠ w.heap.size := by omega
  have le2 : w.heap.size ≤ w.heap.size + 1 + 1 := by omega
  have HF := hide hfl
  clear hfl
  go_enter Try.func123, Try.ntmps123
  go_wp2
  go_region_held3 (fun w' => w'.cell? ⟨w.heap.size, 0, none⟩ = some (.bool neg) ∧ w'.cell? ⟨w.heap.size, 1, none⟩ = some (.slice a n cap) ∧ w'.cell? ⟨w.heap.size + 1, 0, none⟩ = some (.bool neg2) ∧ w'.cell? ⟨w.heap.size + 1, 1, none⟩ = some (.slice c m cap2)) (go_keep)
    (first
      | (go_at_call 103; refine (unhide HF _ _ _ _ _ hint1 (h2.below (bthen (bl3 _ _ _ _).drew hb1))).mono ?_; rintro r w2 ⟨neg2', a2, n2, c2, rfl, hint2, hb2⟩; obtain ⟨hsz2, hcell2, hfz2⟩ := near (w.heap.size + 1 + 1 + 1) hsz1 hb2)
      | (go_at_call 80; have hq := hb2; refine (neg_int _ _ _ _ (k + 8) _ _ hint2 (by omega)).mono ?_; rintro r w3 ⟨neg3, a3, n3, c3, rfl, hint3, hb3⟩; obtain ⟨hsz3, hcell3, hfz3⟩ := near (w.heap.size + 1 + 1 + 1) hsz2 hb3)
      | (go_at_call 80; refine (neg_int _ _ _ _ k x _ (h1.below (bl3 _ _ _ _).drew) (by omega)).mono ?_; rintro r w1 ⟨neg1, a1, n1, c1, rfl, hint1, hb1⟩; obtain ⟨hsz1, hcell1, hfz1⟩ := near (w.heap.size + 1 + 1 + 1) (by simp) hb1))
  go_wp2
  have h0 : w3.cell? ⟨w.heap.size + 1 + 1, 0, none⟩ = some (.bool false) := by simp [hcell3, hcell2, hcell1, go_sem]
  have h1' : w3.cell? ⟨w.heap.size + 1 + 1, 1, none⟩ = some (.slice none 0 0) := by simp [hcell3, hcell2, hcell1, go_sem]
  refine bodyPost_ret (v := .agg #[.bool neg3, .slice a3 n3 c3]) (by simp [results, Try.results123, go_sem, h0, h1']) rfl ⟨neg3, a3, n3, c3, rfl, hint3.put2 h0 h1' _ _, ?_⟩
  exact ((bthen (bthen (bthen (bl3 _ _ _ _).drew hb1) hb2) hb3).setCell (p := ⟨w.heap.size + 1 + 1, 0, none⟩) le2 _).setCell (p := ⟨w.heap.size + 1 + 1, 1, none⟩) le2 _

theorem ceil_small (neg neg2 : Bool) (a c : Option Addr) (n m cap cap2 k k2 : Nat) (x y : Int) (w : World) (h1 : IntAt w neg a n cap k x) (h2 : IntAt w neg2 c m cap2 k2 y) (hk : k ≤ 800000000) (hy : 0 < y) (hy3 : y < 281474976710656) :
    Calls Try.prog 123 #[.agg #[.bool neg, .slice a n cap], .agg #[.bool neg2, .slice c m cap2]] w (FloorAns w k (-(-x / y))) :=
  ceil_core neg neg2 a c n m cap cap2 k k2 x y w h1 h2 hk (fun w' neg' a' n' cap' g1 g2 => floor_small neg' neg2 a' c n' m cap' cap2 k k2 (-x) y w' g1 g2 (by omega) hy hy3)

/-- What wide.Of answers. -/
def SpanAns (w : World) (b : Int) (k : Nat) (lo hi : Int) (r : Ending) (w' : World) : Prop :=
  ∃ s : Sp, r = .returned (.agg #[.bool s.ln, .slice s.la s.lN s.lc, .bool s.hn, .slice s.ha s.hN s.hc, .int .i64 s.bits]) ∧ s.bits = b ∧ SpAt w' s k lo hi ∧ Below w.heap.size w w'

set_option maxRecDepth 100000 in
set_option maxHeartbeats 2000000 in
theorem wideOf_small (neg neg2 : Bool) (a c : Option Addr) (n m cap cap2 k k2 b : Nat) (x y : Int) (w : World) (h1 : IntAt w neg a n cap k x) (h2 : IntAt w neg2 c m cap2 k2 y) (hk : k ≤ 700000000) (hb : b ≤ 1000) (hy : 0 < y) (hy3 : y < 281474976710656) :
    Calls Try.prog 71 #[.agg #[.bool neg, .slice a n cap], .agg #[.bool neg2, .slice c m cap2], .int .i64 b] w (SpanAns w b (k + 80) (x * Q b / y) (-(-(x * Q b) / y))) := by
  go_enter Try.func71, Try.ntmps71
  go_wp2_with (go_at_call 107; refine (up_int _ _ _ _ b k x _ (h1.below (bl3 _ _ _ _)) (by omega) (by omega)).mono ?_; rintro r w1 ⟨neg1, a1, n1, c1, rfl, hint1, hb1⟩; obtain ⟨hsz1, hcell1, hfz1⟩ := near (w.heap.size + 1 + 1 + 1) (by simp) hb1; have hz1 := Nat.lt_of_lt_of_le (Nat.lt_succ_self (w.heap.size + 1 + 1)) hsz1; have hz0 := Nat.lt_of_succ_lt hz1)
  have hint1 := hint1.mono (show b / 16 + k + 1 ≤ k + 70 by omega)
  have hBw : Below w.heap.size w w1 := bthen (bl3 _ _ _ _) hb1
  have k0 : w1.cell? ⟨w.heap.size + 1, 0, none⟩ = some (.bool neg2) := by simp [hcell1, go_sem]
  have k1 : w1.cell? ⟨w.heap.size + 1, 1, none⟩ = some (.slice c m cap2) := by simp [hcell1, go_sem]
  have r0 : w1.cell? ⟨w.heap.size + 1 + 1, 0, none⟩ = some (.bool false) := by simp [hcell1, go_sem]
  have r1 : w1.cell? ⟨w.heap.size + 1 + 1, 1, none⟩ = some (.slice none 0 0) := by simp [hcell1, go_sem]
  have r2 : w1.cell? ⟨w.heap.size + 1 + 1, 2, none⟩ = some (.bool false) := by simp [hcell1, go_sem]
  have r3 : w1.cell? ⟨w.heap.size + 1 + 1, 3, none⟩ = some (.slice none 0 0) := by simp [hcell1, go_sem]
  have r4 : w1.cell? ⟨w.heap.size + 1 + 1, 4, none⟩ = some (.int .i64 0) := by simp [hcell1, go_sem]
  have r5 : ∀ o, w1.frozen? ⟨w.heap.size + 1 + 1, o, none⟩ = false := by intro o; simp [hfz1, go_sem]
  have H2 := hide (h2.below hBw)
  clear hcell1 hfz1
  obtain ⟨W, hW⟩ : ∃ W, W = w1.alloc (.cells #[.bool neg1, .slice a1 n1 c1] 24) := ⟨_, rfl⟩
  have hBW : Below w1.heap.size w1 W := by rw [hW]; exact bl1 _ _
  have u0 : W.cell? ⟨w1.heap.size, 0, none⟩ = some (.bool neg1) := by rw [hW]; simp
  have u1 : W.cell? ⟨w1.heap.size, 1, none⟩ = some (.slice a1 n1 c1) := by rw [hW]; simp
  have hlW : w1.heap.size < W.heap.size := by rw [hW]; simp
  have HI := hide (hint1.below hBW)
  have HI2 := hide ((unhide H2).below hBW)
  have hl1 : w.heap.size + 1 < W.heap.size := Nat.lt_trans hz0 hlW
  have hl2 : w.heap.size + 1 + 1 < W.heap.size := Nat.lt_trans hz1 hlW
  have HK := hide (show ∀ w', Below W.heap.size W w' → (w'.cell? ⟨w1.heap.size, 0, none⟩ = some (.bool neg1) ∧ w'.cell? ⟨w1.heap.size, 1, none⟩ = some (.slice a1 n1 c1) ∧ w'.cell? ⟨w.heap.size + 1, 0, none⟩ = some (.bool neg2) ∧ w'.cell? ⟨w.heap.size + 1, 1, none⟩ = some (.slice c m cap2)) from fun w' hB =>
    ⟨(hB.cell (p := ⟨w1.heap.size, 0, none⟩) hlW).trans u0, (hB.cell (p := ⟨w1.heap.size, 1, none⟩) hlW).trans u1, (hB.cell (p := ⟨w.heap.size + 1, 0, none⟩) hl1).trans ((hBW.cell (p := ⟨w.heap.size + 1, 0, none⟩) hz0).trans k0), (hB.cell (p := ⟨w.heap.size + 1, 1, none⟩) hl1).trans ((hBW.cell (p := ⟨w.heap.size + 1, 1, none⟩) hz0).trans k1)⟩)
  have HR := hide (show ∀ w', Below W.heap.size W w' → (w'.cell? ⟨w.heap.size + 1 + 1, 0, none⟩ = some (.bool false) ∧ w'.cell? ⟨w.heap.size + 1 + 1, 1, none⟩ = some (.slice none 0 0) ∧ w'.cell? ⟨w.heap.size + 1 + 1, 2, none⟩ = some (.bool false) ∧ w'.cell? ⟨w.heap.size + 1 + 1, 3, none⟩ = some (.slice none 0 0) ∧ w'.cell? ⟨w.heap.size + 1 + 1, 4, none⟩ = some (.int .i64 0) ∧ ∀ o, w'.frozen? ⟨w.heap.size + 1 + 1, o, none⟩ = false) from fun w' hB =>
    ⟨(hB.cell (p := ⟨w.heap.size + 1 + 1, 0, none⟩) hl2).trans ((hBW.cell (p := ⟨w.heap.size + 1 + 1, 0, none⟩) hz1).trans r0), (hB.cell (p := ⟨w.heap.size + 1 + 1, 1, none⟩) hl2).trans ((hBW.cell (p := ⟨w.heap.size + 1 + 1, 1, none⟩) hz1).trans r1), (hB.cell (p := ⟨w.heap.size + 1 + 1, 2, none⟩) hl2).trans ((hBW.cell (p := ⟨w.heap.size + 1 + 1, 2, none⟩) hz1).trans r2), (hB.cell (p := ⟨w.heap.size + 1 + 1, 3, none⟩) hl2).trans ((hBW.cell (p := ⟨w.heap.size + 1 + 1, 3, none⟩) hz1).trans r3), (hB.cell (p := ⟨w.heap.size + 1 + 1, 4, none⟩) hl2).trans ((hBW.cell (p := ⟨w.heap.size + 1 + 1, 4, none⟩) hz1).trans r4), fun o => (hB.frozen (p := ⟨w.heap.size + 1 + 1, o, none⟩) hl2).trans ((hBW.frozen (p := ⟨w.heap.size + 1 + 1, o, none⟩) hz1).trans (r5 o))⟩)
  have hBW2 : Below w.heap.size w W := bthen hBw hBW
  have ne1 : w.heap.size + 1 + 1 ≠ w1.heap.size := by omega
  have ne2 : w1.heap.size ≠ w.heap.size + 1 + 1 := by omega
  rw [← hW]
  clear hW k0 k1 r0 r1 r2 r3 r4 r5 u0 u1 H2 hint1 hb1 hBw hBW
  go_region_held3 (fun w' => w'.cell? ⟨w1.heap.size, 0, none⟩ = some (.bool neg1) ∧ w'.cell? ⟨w1.heap.size, 1, none⟩ = some (.slice a1 n1 c1) ∧ w'.cell? ⟨w.heap.size + 1, 0, none⟩ = some (.bool neg2) ∧ w'.cell? ⟨w.heap.size + 1, 1, none⟩ = some (.slice c m cap2)) (first | exact unhide HK _ (by first | exact (Below.refl _ _).drew | exact hB2 | exact hB3) | go_keep)
    (first
      | (go_at_call 103; refine (floor_small _ _ _ _ _ _ _ _ (k + 70) k2 (x * Q b) y _ ((unhide HI).below (Below.refl _ _).drew) ((unhide HI2).below (Below.refl _ _).drew) (by omega) hy hy3).mono ?_; rintro r w2 ⟨neg4, a4, n4, c4, rfl, hint4, hb4⟩; have hB2 : Below W.heap.size W w2 := bthen (Below.refl _ _).drew hb4)
      | (go_at_call 123; refine (ceil_small _ _ _ _ _ _ _ _ (k + 70) k2 (x * Q b) y _ ((unhide HI).below hB2) ((unhide HI2).below hB2) (by omega) hy hy3).mono ?_; rintro r w3 ⟨neg5, a5, n5, c5, rfl, hint5, hb5⟩; have hB3 := bthen hB2 hb5; obtain ⟨q0, q1, q2, q3, q4, q5⟩ := unhide HR w3 hB3; obtain ⟨q6, q7, q8, q9⟩ := unhide HK w3 hB3))
  go_wp2
  refine bodyPost_ret (v := .agg #[.bool neg4, .slice a4 n4 c4, .bool neg5, .slice a5 n5 c5, .int .i64 b]) (by simp [results, Try.results71, go_sem, q0, q1, q2, q3, q4]) rfl ⟨⟨neg4, a4, n4, c4, neg5, a5, n5, c5, b⟩, rfl, rfl, ?_, ?_⟩
  · exact SpAt.put5 ⟨(hint4.below hb5).mono (by omega), hint5.mono (by omega)⟩ q0 q1 q2 q3 q4 _ _ _ _ _
  · exact set5 (hBW2.trans (hB3.mono hBW2.size)) (by omega) _ _ _ _ _

end Go.Proofs.Ytibbhnmbmgllcaa
