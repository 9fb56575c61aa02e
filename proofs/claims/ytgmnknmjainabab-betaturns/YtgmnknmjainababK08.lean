/-
  Texts SpanJ, Rat, SpanK, SpanL, Fits, Made, SpanQ, Refs: what they hold is told in the last text.
-/
import Derived.Test.YtgmnknmjainababK07
set_option linter.unnecessarySimpa false
set_option linter.unusedSimpArgs false
set_option linter.unusedVariables false
namespace Go.Proofs.Ytgmnknmjainabab
open Go.RowKit
attribute [local go_sem ↓] Go.wp_at_zero Go.wp_at_succ
theorem IntAt.put5 {w : World} {neg : Bool} {a : Option Addr} {n cap k : Nat} {z : Int} (h : IntAt w neg a n cap k z) {B : Nat} {x0 x2 : Bool} {y0 y3 : Option Addr} {y1 y2 y4 y5 : Nat} {i : Int}
    (h0 : w.cell? ⟨B, 0, none⟩ = some (.bool x0)) (h1 : w.cell? ⟨B, 1, none⟩ = some (.slice y0 y1 y2)) (h2 : w.cell? ⟨B, 2, none⟩ = some (.bool x2)) (h3 : w.cell? ⟨B, 3, none⟩ = some (.slice y3 y4 y5)) (h4 : w.cell? ⟨B, 4, none⟩ = some (.int .i64 i)) (u0 u1 u2 u3 u4 : Value) :
    IntAt (((((w.setCell ⟨B, 0, none⟩ u0).setCell ⟨B, 1, none⟩ u1).setCell ⟨B, 2, none⟩ u2).setCell ⟨B, 3, none⟩ u3).setCell ⟨B, 4, none⟩ u4) neg a n cap k z := by
  have ne : ∀ i j : Nat, i ≠ j → (⟨B, i, none⟩ : Addr) ≠ ⟨B, j, none⟩ := fun i j hij e => hij (by injection e)
  have g1 : (w.setCell ⟨B, 0, none⟩ u0).cell? ⟨B, 1, none⟩ = some (.slice y0 y1 y2) := (World.cell?_setCell_other _ _ _ _ (ne 0 1 (by omega))).trans h1
  have g2 : ((w.setCell ⟨B, 0, none⟩ u0).setCell ⟨B, 1, none⟩ u1).cell? ⟨B, 2, none⟩ = some (.bool x2) := (World.cell?_setCell_other _ _ _ _ (ne 1 2 (by omega))).trans ((World.cell?_setCell_other _ _ _ _ (ne 0 2 (by omega))).trans h2)
  have g3 : (((w.setCell ⟨B, 0, none⟩ u0).setCell ⟨B, 1, none⟩ u1).setCell ⟨B, 2, none⟩ u2).cell? ⟨B, 3, none⟩ = some (.slice y3 y4 y5) := (World.cell?_setCell_other _ _ _ _ (ne 2 3 (by omega))).trans ((World.cell?_setCell_other _ _ _ _ (ne 1 3 (by omega))).trans ((World.cell?_setCell_other _ _ _ _ (ne 0 3 (by omega))).trans h3))
  have g4 : ((((w.setCell ⟨B, 0, none⟩ u0).setCell ⟨B, 1, none⟩ u1).setCell ⟨B, 2, none⟩ u2).setCell ⟨B, 3, none⟩ u3).cell? ⟨B, 4, none⟩ = some (.int .i64 i) := (World.cell?_setCell_other _ _ _ _ (ne 3 4 (by omega))).trans ((World.cell?_setCell_other _ _ _ _ (ne 2 4 (by omega))).trans ((World.cell?_setCell_other _ _ _ _ (ne 1 4 (by omega))).trans ((World.cell?_setCell_other _ _ _ _ (ne 0 4 (by omega))).trans h4)))
  exact ((((h.store h0 (fun _ e => by cases e) u0).store g1 (fun _ e => by cases e) u1).store g2 (fun _ e => by cases e) u2).store g3 (fun _ e => by cases e) u3).store g4 (fun _ e => by cases e) u4
theorem SpAt.put5 {w : World} {s : Sp} {k : Nat} {lo hi : Int} (h : SpAt w s k lo hi) {B : Nat} {x0 x2 : Bool} {y0 y3 : Option Addr} {y1 y2 y4 y5 : Nat} {i : Int}
    (h0 : w.cell? ⟨B, 0, none⟩ = some (.bool x0)) (h1 : w.cell? ⟨B, 1, none⟩ = some (.slice y0 y1 y2)) (h2 : w.cell? ⟨B, 2, none⟩ = some (.bool x2)) (h3 : w.cell? ⟨B, 3, none⟩ = some (.slice y3 y4 y5)) (h4 : w.cell? ⟨B, 4, none⟩ = some (.int .i64 i)) (u0 u1 u2 u3 u4 : Value) :
    SpAt (((((w.setCell ⟨B, 0, none⟩ u0).setCell ⟨B, 1, none⟩ u1).setCell ⟨B, 2, none⟩ u2).setCell ⟨B, 3, none⟩ u3).setCell ⟨B, 4, none⟩ u4) s k lo hi := ⟨h.lo.put5 h0 h1 h2 h3 h4 u0 u1 u2 u3 u4, h.hi.put5 h0 h1 h2 h3 h4 u0 u1 u2 u3 u4⟩
theorem set5 {B B' : Nat} {a w : World} (h : Below B a w) (hB : B ≤ B') (u0 u1 u2 u3 u4 : Value) : Below B a (((((w.setCell ⟨B', 0, none⟩ u0).setCell ⟨B', 1, none⟩ u1).setCell ⟨B', 2, none⟩ u2).setCell ⟨B', 3, none⟩ u3).setCell ⟨B', 4, none⟩ u4) :=
  ((((h.setCell (p := ⟨B', 0, none⟩) hB u0).setCell (p := ⟨B', 1, none⟩) hB u1).setCell (p := ⟨B', 2, none⟩) hB u2).setCell (p := ⟨B', 3, none⟩) hB u3).setCell (p := ⟨B', 4, none⟩) hB u4
set_option maxRecDepth 100000 in
set_option maxHeartbeats 2000000 in
theorem ceil_core (neg neg2 : Bool) (a c : Option Addr) (n m cap cap2 k k2 : Nat) (x y : Int) (w : World) (h1 : IntAt w neg a n cap k x) (h2 : IntAt w neg2 c m cap2 k2 y) (hk : k ≤ 800000000)
    (hfl : ∀ w' neg' a' n' cap', IntAt w' neg' a' n' cap' k (-x) → IntAt w' neg2 c m cap2 k2 y → Calls Try.prog 105 #[.agg #[.bool neg', .slice a' n' cap'], .agg #[.bool neg2, .slice c m cap2]] w' (FloorAns w' k (-x / y))) :
    Calls Try.prog 114 #[.agg #[.bool neg, .slice a n cap], .agg #[.bool neg2, .slice c m cap2]] w (FloorAns w k (-(-x / y))) := by
  have ne1 : w.heap.size ≠ w.heap.size + 1 + 1 := by omega
  have ne2 : w.heap.size + 1 + 1 ≠ w.heap.size := by omega
  have le2 : w.heap.size ≤ w.heap.size + 1 + 1 := by omega
  have HF := hide hfl
  clear hfl
  go_enter Try.func114, Try.ntmps114
  go_wp2
  go_region_held3 (fun w' => w'.cell? ⟨w.heap.size, 0, none⟩ = some (.bool neg) ∧ w'.cell? ⟨w.heap.size, 1, none⟩ = some (.slice a n cap) ∧ w'.cell? ⟨w.heap.size + 1, 0, none⟩ = some (.bool neg2) ∧ w'.cell? ⟨w.heap.size + 1, 1, none⟩ = some (.slice c m cap2)) (go_keep)
    (first
      | (go_at_call 105; refine (unhide HF _ _ _ _ _ hint1 (h2.below (bthen (bl3 _ _ _ _).drew hb1))).mono ?_; rintro r w2 ⟨neg2', a2, n2, c2, rfl, hint2, hb2⟩; obtain ⟨hsz2, hcell2, hfz2⟩ := near (w.heap.size + 1 + 1 + 1) hsz1 hb2)
      | (go_at_call 83; have hq := hb2; refine (neg_int _ _ _ _ (k + 8) _ _ hint2 (by omega)).mono ?_; rintro r w3 ⟨neg3, a3, n3, c3, rfl, hint3, hb3⟩; obtain ⟨hsz3, hcell3, hfz3⟩ := near (w.heap.size + 1 + 1 + 1) hsz2 hb3)
      | (go_at_call 83; refine (neg_int _ _ _ _ k x _ (h1.below (bl3 _ _ _ _).drew) (by omega)).mono ?_; rintro r w1 ⟨neg1, a1, n1, c1, rfl, hint1, hb1⟩; obtain ⟨hsz1, hcell1, hfz1⟩ := near (w.heap.size + 1 + 1 + 1) (by simp) hb1))
  go_wp2
  have h0 : w3.cell? ⟨w.heap.size + 1 + 1, 0, none⟩ = some (.bool false) := by simp [hcell3, hcell2, hcell1, go_sem]
  have h1' : w3.cell? ⟨w.heap.size + 1 + 1, 1, none⟩ = some (.slice none 0 0) := by simp [hcell3, hcell2, hcell1, go_sem]
  refine bodyPost_ret (v := .agg #[.bool neg3, .slice a3 n3 c3]) (by simp [results, Try.results114, go_sem, h0, h1']) rfl ⟨neg3, a3, n3, c3, rfl, hint3.put2 h0 h1' _ _, ?_⟩
  exact ((bthen (bthen (bthen (bl3 _ _ _ _).drew hb1) hb2) hb3).setCell (p := ⟨w.heap.size + 1 + 1, 0, none⟩) le2 _).setCell (p := ⟨w.heap.size + 1 + 1, 1, none⟩) le2 _
theorem ceil_small (neg neg2 : Bool) (a c : Option Addr) (n m cap cap2 k k2 : Nat) (x y : Int) (w : World) (h1 : IntAt w neg a n cap k x) (h2 : IntAt w neg2 c m cap2 k2 y) (hk : k ≤ 800000000) (hy : 0 < y) (hy3 : y < 281474976710656) :
    Calls Try.prog 114 #[.agg #[.bool neg, .slice a n cap], .agg #[.bool neg2, .slice c m cap2]] w (FloorAns w k (-(-x / y))) :=
  ceil_core neg neg2 a c n m cap cap2 k k2 x y w h1 h2 hk (fun w' neg' a' n' cap' g1 g2 => floor_small neg' neg2 a' c n' m cap' cap2 k k2 (-x) y w' g1 g2 (by omega) hy hy3)
def SpanAns (w : World) (b : Int) (k : Nat) (lo hi : Int) (r : Ending) (w' : World) : Prop :=
  ∃ s : Sp, r = .returned (.agg #[.bool s.ln, .slice s.la s.lN s.lc, .bool s.hn, .slice s.ha s.hN s.hc, .int .i64 s.bits]) ∧ s.bits = b ∧ SpAt w' s k lo hi ∧ Below w.heap.size w w'
set_option maxRecDepth 100000 in
set_option maxHeartbeats 2000000 in
theorem wideOf_small (neg neg2 : Bool) (a c : Option Addr) (n m cap cap2 k k2 b : Nat) (x y : Int) (w : World) (h1 : IntAt w neg a n cap k x) (h2 : IntAt w neg2 c m cap2 k2 y) (hk : k ≤ 700000000) (hb : b ≤ 1000) (hy : 0 < y) (hy3 : y < 281474976710656) :
    Calls Try.prog 66 #[.agg #[.bool neg, .slice a n cap], .agg #[.bool neg2, .slice c m cap2], .int .i64 b] w (SpanAns w b (k + 80) (x * Q b / y) (-(-(x * Q b) / y))) := by
  go_enter Try.func66, Try.ntmps66
  go_wp2_with (go_at_call 113; refine (up_int _ _ _ _ b k x _ (h1.below (bl3 _ _ _ _)) (by omega) (by omega)).mono ?_; rintro r w1 ⟨neg1, a1, n1, c1, rfl, hint1, hb1⟩; obtain ⟨hsz1, hcell1, hfz1⟩ := near (w.heap.size + 1 + 1 + 1) (by simp) hb1; have hz1 := Nat.lt_of_lt_of_le (Nat.lt_succ_self (w.heap.size + 1 + 1)) hsz1; have hz0 := Nat.lt_of_succ_lt hz1)
  have hint1 := hint1.mono (show b / 16 + k + 1 ≤ k + 70 by omega)
  have hBw : Below w.heap.size w w1 := bthen (bl3 _ _ _ _) hb1
  have k0 : w1.cell? ⟨w.heap.size + 1, 0, none⟩ = some (.bool neg2) := by simp [hcell1, go_sem]
  have k1 : w1.cell? ⟨w.heap.size + 1, 1, none⟩ = some (.slice c m cap2) := by simp [hcell1, go_sem]
  have r0 : w1.cell? ⟨w.heap.size + 1 + 1, 0, none⟩ = some (.bool false) := by simp [hcell1, go_sem]
  have r1 : w1.cell? ⟨w.heap.size + 1 + 1, 1, none⟩ = some (.slice none 0 0) := by simp [hcell1, go_sem]
  have r2 : w1.cell? ⟨w.heap.size + 1 + 1, 2, none⟩ = some (.bool false) := by simp [hcell1, go_sem]
  have r3 : w1.cell? ⟨w.heap.size + 1 + 1, 3, none⟩ = some (.slice none 0 0) := by simp [hcell1, go_sem]
  have r4 : w1.cell? ⟨w.heap.size + 1 + 1, 4, none⟩ = some (.int .i64 0) := by simp [hcell1, go_sem]
  have r5 : ∀ o, w1.frozen? ⟨w.heap.size + 1 + 1, o, none⟩ = false := by intro o; simp [hfz1, go_sem]
  have H2 := hide (h2.below hBw)
  clear hcell1 hfz1
  obtain ⟨W, hW⟩ : ∃ W, W = w1.alloc (.cells #[.bool neg1, .slice a1 n1 c1] 26) := ⟨_, rfl⟩
  have hBW : Below w1.heap.size w1 W := by rw [hW]; exact bl1 _ _
  have u0 : W.cell? ⟨w1.heap.size, 0, none⟩ = some (.bool neg1) := by rw [hW]; simp
  have u1 : W.cell? ⟨w1.heap.size, 1, none⟩ = some (.slice a1 n1 c1) := by rw [hW]; simp
  have hlW : w1.heap.size < W.heap.size := by rw [hW]; simp
  have HI := hide (hint1.below hBW)
  have HI2 := hide ((unhide H2).below hBW)
  have hl1 : w.heap.size + 1 < W.heap.size := Nat.lt_trans hz0 hlW
  have hl2 : w.heap.size + 1 + 1 < W.heap.size := Nat.lt_trans hz1 hlW
  have HK := hide (show ∀ w', Below W.heap.size W w' → (w'.cell? ⟨w1.heap.size, 0, none⟩ = some (.bool neg1) ∧ w'.cell? ⟨w1.heap.size, 1, none⟩ = some (.slice a1 n1 c1) ∧ w'.cell? ⟨w.heap.size + 1, 0, none⟩ = some (.bool neg2) ∧ w'.cell? ⟨w.heap.size + 1, 1, none⟩ = some (.slice c m cap2)) from fun w' hB =>
    ⟨(hB.cell (p := ⟨w1.heap.size, 0, none⟩) hlW).trans u0, (hB.cell (p := ⟨w1.heap.size, 1, none⟩) hlW).trans u1, (hB.cell (p := ⟨w.heap.size + 1, 0, none⟩) hl1).trans ((hBW.cell (p := ⟨w.heap.size + 1, 0, none⟩) hz0).trans k0), (hB.cell (p := ⟨w.heap.size + 1, 1, none⟩) hl1).trans ((hBW.cell (p := ⟨w.heap.size + 1, 1, none⟩) hz0).trans k1)⟩)
  have HR := hide (show ∀ w', Below W.heap.size W w' → (w'.cell? ⟨w.heap.size + 1 + 1, 0, none⟩ = some (.bool false) ∧ w'.cell? ⟨w.heap.size + 1 + 1, 1, none⟩ = some (.slice none 0 0) ∧ w'.cell? ⟨w.heap.size + 1 + 1, 2, none⟩ = some (.bool false) ∧ w'.cell? ⟨w.heap.size + 1 + 1, 3, none⟩ = some (.slice none 0 0) ∧ w'.cell? ⟨w.heap.size + 1 + 1, 4, none⟩ = some (.int .i64 0) ∧ ∀ o, w'.frozen? ⟨w.heap.size + 1 + 1, o, none⟩ = false) from fun w' hB =>
    ⟨(hB.cell (p := ⟨w.heap.size + 1 + 1, 0, none⟩) hl2).trans ((hBW.cell (p := ⟨w.heap.size + 1 + 1, 0, none⟩) hz1).trans r0), (hB.cell (p := ⟨w.heap.size + 1 + 1, 1, none⟩) hl2).trans ((hBW.cell (p := ⟨w.heap.size + 1 + 1, 1, none⟩) hz1).trans r1), (hB.cell (p := ⟨w.heap.size + 1 + 1, 2, none⟩) hl2).trans ((hBW.cell (p := ⟨w.heap.size + 1 + 1, 2, none⟩) hz1).trans r2), (hB.cell (p := ⟨w.heap.size + 1 + 1, 3, none⟩) hl2).trans ((hBW.cell (p := ⟨w.heap.size + 1 + 1, 3, none⟩) hz1).trans r3), (hB.cell (p := ⟨w.heap.size + 1 + 1, 4, none⟩) hl2).trans ((hBW.cell (p := ⟨w.heap.size + 1 + 1, 4, none⟩) hz1).trans r4), fun o => (hB.frozen (p := ⟨w.heap.size + 1 + 1, o, none⟩) hl2).trans ((hBW.frozen (p := ⟨w.heap.size + 1 + 1, o, none⟩) hz1).trans (r5 o))⟩)
  have hBW2 : Below w.heap.size w W := bthen hBw hBW
  have ne1 : w.heap.size + 1 + 1 ≠ w1.heap.size := by omega
  have ne2 : w1.heap.size ≠ w.heap.size + 1 + 1 := by omega
  rw [← hW]
  clear hW k0 k1 r0 r1 r2 r3 r4 r5 u0 u1 H2 hint1 hb1 hBw hBW
  go_region_held3 (fun w' => w'.cell? ⟨w1.heap.size, 0, none⟩ = some (.bool neg1) ∧ w'.cell? ⟨w1.heap.size, 1, none⟩ = some (.slice a1 n1 c1) ∧ w'.cell? ⟨w.heap.size + 1, 0, none⟩ = some (.bool neg2) ∧ w'.cell? ⟨w.heap.size + 1, 1, none⟩ = some (.slice c m cap2)) (first | exact unhide HK _ (by first | exact (Below.refl _ _).drew | exact hB2 | exact hB3) | go_keep)
    (first
      | (go_at_call 105; refine (floor_small _ _ _ _ _ _ _ _ (k + 70) k2 (x * Q b) y _ ((unhide HI).below (Below.refl _ _).drew) ((unhide HI2).below (Below.refl _ _).drew) (by omega) hy hy3).mono ?_; rintro r w2 ⟨neg4, a4, n4, c4, rfl, hint4, hb4⟩; have hB2 : Below W.heap.size W w2 := bthen (Below.refl _ _).drew hb4)
      | (go_at_call 114; refine (ceil_small _ _ _ _ _ _ _ _ (k + 70) k2 (x * Q b) y _ ((unhide HI).below hB2) ((unhide HI2).below hB2) (by omega) hy hy3).mono ?_; rintro r w3 ⟨neg5, a5, n5, c5, rfl, hint5, hb5⟩; have hB3 := bthen hB2 hb5; obtain ⟨q0, q1, q2, q3, q4, q5⟩ := unhide HR w3 hB3; obtain ⟨q6, q7, q8, q9⟩ := unhide HK w3 hB3))
  go_wp2
  refine bodyPost_ret (v := .agg #[.bool neg4, .slice a4 n4 c4, .bool neg5, .slice a5 n5 c5, .int .i64 b]) (by simp [results, Try.results66, go_sem, q0, q1, q2, q3, q4]) rfl ⟨⟨neg4, a4, n4, c4, neg5, a5, n5, c5, b⟩, rfl, rfl, ?_, ?_⟩
  · exact SpAt.put5 ⟨(hint4.below hb5).mono (by omega), hint5.mono (by omega)⟩ q0 q1 q2 q3 q4 _ _ _ _ _
  · exact set5 (hBW2.trans (hB3.mono hBW2.size)) (by omega) _ _ _ _ _
end Go.Proofs.Ytgmnknmjainabab
namespace Go.Proofs.Ytgmnknmjainabab
open Go.RowKit
attribute [local go_sem ↓] Go.wp_at_zero Go.wp_at_succ
def rok (p q : Int) : Prop := -1048576 ≤ p ∧ p ≤ 1048576 ∧ 1 ≤ q ∧ q ≤ 1024
instance (p q : Int) : Decidable (rok p q) := by unfold rok; infer_instance
theorem rok_no {p q : Int} (h : p < -1048576 ∨ 1048576 < p ∨ q < 1 ∨ 1024 < q) : decide (rok p q) = false := by
  rw [decide_eq_false_iff_not]; unfold rok; omega
set_option maxHeartbeats 400000 in
theorem ratioRight_any (p q : Int) (w : World) :
    Calls Try.prog 112 #[.agg #[.int .i64 p, .int .i64 q]] w fun r w' => r = .returned (.bool (decide (rok p q))) ∧ Below w.heap.size w w' := by
  by_cases h1 : -1048576 ≤ p
  · by_cases h2 : p ≤ 1048576
    · by_cases h3 : 1 ≤ q
      · go_enter Try.func112, Try.ntmps112
        go_wp2
        go_ret
        exact ⟨by simp [rok, h1, h2, h3], bl1 _ _⟩
      · go_enter Try.func112, Try.ntmps112
        go_wp2
        go_ret
        exact ⟨by rw [rok_no (p := p) (q := q) (by omega)]; rfl, bl1 _ _⟩
    · go_enter Try.func112, Try.ntmps112
      go_wp2
      go_ret
      exact ⟨by rw [rok_no (p := p) (q := q) (by omega)]; rfl, bl1 _ _⟩
  · go_enter Try.func112, Try.ntmps112
    go_wp2
    go_ret
    exact ⟨by rw [rok_no (p := p) (q := q) (by omega)]; rfl, bl1 _ _⟩
def ratE (p q bt : Int) : Int := if rok p q ∧ 8 ≤ bt ∧ bt ≤ 120 then 0 else 3
structure Rats (w : World) (b n : Nat) (p q : Nat → Int) : Prop where
  lt : b < w.heap.size
  c0 : ∀ j, j < n → w.cell? ⟨b, j * 2, none⟩ = some (.int .i64 (p j))
  c1 : ∀ j, j < n → w.cell? ⟨b, j * 2 + 1, none⟩ = some (.int .i64 (q j))
theorem Rats.below {w w' : World} {b n : Nat} {p q : Nat → Int} (h : Rats w b n p q) (hb : Below w.heap.size w w') : Rats w' b n p q :=
  ⟨Nat.lt_of_lt_of_le h.lt hb.size, fun j hj => (hb.cell (p := ⟨b, j * 2, none⟩) h.lt).trans (h.c0 j hj), fun j hj => (hb.cell (p := ⟨b, j * 2 + 1, none⟩) h.lt).trans (h.c1 j hj)⟩
def RFlt (bt : Int) (p q : Nat → Int) (n : Nat) (z : Int) : Prop :=
  (z = 0 ∧ (8 ≤ bt ∧ bt ≤ 120) ∧ ∀ j, j < n → rok (p j) (q j)) ∨ (z = 3 ∧ ¬ ((8 ≤ bt ∧ bt ≤ 120) ∧ ∀ j, j < n → rok (p j) (q j)))
set_option maxRecDepth 100000 in
set_option maxHeartbeats 2000000 in
theorem ratioFault_any (bt : Int) (b n cap : Nat) (p q : Nat → Int) (w : World) (h : Rats w b n p q) (hn : n ≤ 1000) :
    Calls Try.prog 65 #[.int .i64 bt, .slice (some ⟨b, 0, none⟩) n cap] w fun r w' => ∃ z, r = .returned (.int .i64 z) ∧ RFlt bt p q n z ∧ Below w.heap.size w w' := by
  by_cases b1 : bt < 8
  · go_enter Try.func65, Try.ntmps65
    go_wp2
    go_ret
    exact ⟨3, rfl, Or.inr ⟨rfl, fun ⟨h1, _⟩ => by omega⟩, Below.refl _ _⟩
  by_cases b2 : 120 < bt
  · go_enter Try.func65, Try.ntmps65
    go_wp2
    go_ret
    exact ⟨3, rfl, Or.inr ⟨rfl, fun ⟨h1, _⟩ => by omega⟩, Below.refl _ _⟩
  have hblt := h.lt
  have HH := hide h
  clear h
  go_enter Try.func65, Try.ntmps65
  go_wp2
  go_loopw [15] (fun ii wr => ∃ i : Nat, i ≤ n ∧ ii = .int .i64 i ∧ (∀ j, j < i → rok (p j) (q j)) ∧ Below w.heap.size w wr) (fun ii _ => n - (intOf ii).toNat)
  case atStart => exact ⟨0, by omega, rfl, fun j hj => by omega, Below.refl _ _⟩
  case round =>
    obtain ⟨i, hi, rfl, hz, hB⟩ := hrel
    by_cases hin : i < n
    · have H2 := (unhide HH).below hB
      have g0 := H2.c0 i hin
      have g1 := H2.c1 i hin
      have hi1 : (i : Int) < (n : Int) := by omega
      have HZ := hide hz
      clear hz H2
      by_cases hc : rok (p i) (q i)
      · have hc' : decide (rok (p i) (q i)) = true := by simpa using hc
        have HC := hide hc
        clear hc
        go_wp2_with (go_at_call 112; refine (ratioRight_any _ _ _).mono ?_; rintro r w1 ⟨rfl, hb1⟩; rw [hc'])
        go_roundw
        case rel => exact ⟨i + 1, by omega, by go_num, fun j hj => by
                            by_cases hji : j = i
                            · subst hji; exact unhide HC
                            · exact unhide HZ j (by omega), bthen (balloc hB _) hb1⟩
        case measure => simp [intOf]; omega
      · have hc' : decide (rok (p i) (q i)) = false := by simpa using hc
        have HC := hide hc
        clear hc
        go_wp2_with (go_at_call 112; refine (ratioRight_any _ _ _).mono ?_; rintro r w1 ⟨rfl, hb1⟩; rw [hc'])
        go_ret
        exact ⟨3, rfl, Or.inr ⟨rfl, fun ⟨_, h2⟩ => unhide HC (h2 i hin)⟩, bthen (balloc hB _) hb1⟩
    · have hiE : i = n := by omega
      subst hiE
      have HZ := hide hz
      clear hz hin hi
      go_wp2
      go_ret
      exact ⟨0, rfl, Or.inl ⟨rfl, ⟨by omega, by omega⟩, unhide HZ⟩, hB⟩
end Go.Proofs.Ytgmnknmjainabab
namespace Go.Proofs.Ytgmnknmjainabab
open Go.RowKit
attribute [local go_sem ↓] Go.wp_at_zero Go.wp_at_succ
def PairAns (w : World) (b : Int) (k : Nat) (lo hi er : Int) (r : Ending) (w' : World) : Prop :=
  ∃ s : Sp, r = .returned (.tuple #[.agg #[.bool s.ln, .slice s.la s.lN s.lc, .bool s.hn, .slice s.ha s.hN s.hc, .int .i64 s.bits], .int .i64 er]) ∧ s.bits = b ∧ SpAt w' s k lo hi ∧ Below w.heap.size w w'
theorem zeroInt (w : World) (k : Nat) : IntAt w false none 0 0 k 0 :=
  ⟨fun _ => 0, ⟨fun h => by omega, fun _ => ⟨by simp, by simp⟩, Nat.le_refl _, by omega⟩, Or.inl rfl, fun _ => rfl, by omega, by simp [sgn, V]⟩
theorem zeroSp (w : World) (k : Nat) : SpAt w ⟨false, none, 0, 0, false, none, 0, 0, 0⟩ k 0 0 := ⟨zeroInt w k, zeroInt w k⟩
theorem rats1 (w : World) (p q : Int) (T : TypeId) : Rats (w.alloc (.cells #[.int .i64 p, .int .i64 q] T)) w.heap.size 1 (fun _ => p) (fun _ => q) := by
  refine ⟨by simp, ?_, ?_⟩
  all_goals
    intro j hj
    match j, hj with
    | 0, _ => simp
theorem ratioFault1 (bt : Int) (w : World) (B : Nat) (hB : w.heap.size = B) (p q : Int) (T : TypeId) (cap : Nat) :
    Calls Try.prog 65 #[.int .i64 bt, .slice (some ⟨B, 0, none⟩) 1 cap] (w.alloc (.cells #[.int .i64 p, .int .i64 q] T)) fun r w' =>
      r = .returned (.int .i64 (ratE p q bt)) ∧ Below w.heap.size w w' := by
  subst hB
  exact (ratioFault_any bt w.heap.size 1 cap (fun _ => p) (fun _ => q) _ (rats1 w p q T) (by omega)).mono fun r w' ⟨z, h1, h2, h3⟩ => by
    refine ⟨?_, (bl1 _ _).trans (h3.mono (by simp))⟩
    rw [h1]; unfold ratE
    rcases h2 with ⟨rfl, h4, h5⟩ | ⟨rfl, h4⟩
    · rw [if_pos ⟨h5 0 (by omega), h4⟩]
    · rw [if_neg (fun ⟨h5, h6⟩ => h4 ⟨h6, fun _ _ => h5⟩)]
set_option maxRecDepth 100000 in
set_option maxHeartbeats 2000000 in
theorem spanOf_ok (p q : Int) (b : Nat) (w : World) (h1 : -1048576 ≤ p) (h2 : p ≤ 1048576) (h3 : 1 ≤ q) (h4 : q ≤ 1024) (h5 : 8 ≤ b) (h6 : b ≤ 120) :
    Calls Try.prog 31 #[.agg #[.int .i64 p, .int .i64 q], .int .i64 b] w (PairAns w b 100 (p * Q b / q) (-(-(p * Q b) / q)) 0) := by
  have d1 : ratE p q b = 0 := by unfold ratE; rw [if_pos]; exact ⟨⟨h1, h2, h3, h4⟩, by omega, by omega⟩
  go_enter Try.func31, Try.ntmps31
  go_wp2_with (go_at_call 65; refine (ratioFault1 _ _ _ (by simp) _ _ _ _).mono ?_; rintro r w1 ⟨rfl, hb1⟩; rw [d1]; obtain ⟨hsz1, hcell1, hfz1⟩ := near (w.heap.size + 1 + 1) (by simp) hb1)
  have k0 : w1.cell? ⟨w.heap.size, 0, none⟩ = some (.int .i64 p) := by simp [hcell1, go_sem]
  have k1 : w1.cell? ⟨w.heap.size, 1, none⟩ = some (.int .i64 q) := by simp [hcell1, go_sem]
  have r0 : w1.cell? ⟨w.heap.size + 1, 0, none⟩ = some (.bool false) := by simp [hcell1, go_sem]
  have r1 : w1.cell? ⟨w.heap.size + 1, 1, none⟩ = some (.slice none 0 0) := by simp [hcell1, go_sem]
  have r2 : w1.cell? ⟨w.heap.size + 1, 2, none⟩ = some (.bool false) := by simp [hcell1, go_sem]
  have r3 : w1.cell? ⟨w.heap.size + 1, 3, none⟩ = some (.slice none 0 0) := by simp [hcell1, go_sem]
  have r4 : w1.cell? ⟨w.heap.size + 1, 4, none⟩ = some (.int .i64 0) := by simp [hcell1, go_sem]
  have r5 : ∀ o, w1.frozen? ⟨w.heap.size + 1, o, none⟩ = false := by intro o; simp [hfz1, go_sem]
  have hBw : Below w.heap.size w w1 := bthen (bl2 _ _ _) hb1
  have hl0 : w.heap.size < w1.heap.size := by omega
  have hl1 : w.heap.size + 1 < w1.heap.size := by omega
  have HK := hide (show ∀ w', Below w1.heap.size w1 w' → (w'.cell? ⟨w.heap.size, 0, none⟩ = some (.int .i64 p) ∧ w'.cell? ⟨w.heap.size, 1, none⟩ = some (.int .i64 q)) from fun w' hB => ⟨(hB.cell (p := ⟨w.heap.size, 0, none⟩) hl0).trans k0, (hB.cell (p := ⟨w.heap.size, 1, none⟩) hl0).trans k1⟩)
  have HR := hide (show ∀ w', Below w1.heap.size w1 w' → (w'.cell? ⟨w.heap.size + 1, 0, none⟩ = some (.bool false) ∧ w'.cell? ⟨w.heap.size + 1, 1, none⟩ = some (.slice none 0 0) ∧ w'.cell? ⟨w.heap.size + 1, 2, none⟩ = some (.bool false) ∧ w'.cell? ⟨w.heap.size + 1, 3, none⟩ = some (.slice none 0 0) ∧ w'.cell? ⟨w.heap.size + 1, 4, none⟩ = some (.int .i64 0) ∧ ∀ o, w'.frozen? ⟨w.heap.size + 1, o, none⟩ = false) from fun w' hB =>
    ⟨(hB.cell (p := ⟨w.heap.size + 1, 0, none⟩) hl1).trans r0, (hB.cell (p := ⟨w.heap.size + 1, 1, none⟩) hl1).trans r1, (hB.cell (p := ⟨w.heap.size + 1, 2, none⟩) hl1).trans r2, (hB.cell (p := ⟨w.heap.size + 1, 3, none⟩) hl1).trans r3, (hB.cell (p := ⟨w.heap.size + 1, 4, none⟩) hl1).trans r4, fun o => (hB.frozen (p := ⟨w.heap.size + 1, o, none⟩) hl1).trans (r5 o)⟩)
  clear r0 r1 r2 r3 r4 r5 hcell1 hfz1 hb1
  go_region_held3 (fun w' => w'.cell? ⟨w.heap.size, 0, none⟩ = some (.int .i64 p) ∧ w'.cell? ⟨w.heap.size, 1, none⟩ = some (.int .i64 q)) (first | exact unhide HK _ (by first | exact (Below.refl _ _).drew | exact hB2 | exact hB3 | exact hB4) | go_keep)
    (first
      | (go_at_call 48; have hq := hb2; refine (numOf_int q _ (by omega) (by omega)).mono ?_; rintro r w3 ⟨neg3, a3, n3, c3, rfl, hint3, hb3⟩; have hB3 := bthen hB2 hb3)
      | (go_at_call 48; refine (numOf_int p _ (by omega) (by omega)).mono ?_; rintro r w2 ⟨neg2, a2, n2, c2, rfl, hint2, hb2⟩; have hB2 : Below w1.heap.size w1 w2 := bthen (Below.refl _ _).drew hb2)
      | (go_at_call 66; refine (wideOf_small _ _ _ _ _ _ _ _ 4 4 b p q _ (hint2.below hb3) hint3 (by omega) (by omega) (by omega) (by omega)).mono ?_; rintro r w4 ⟨s, rfl, hsb, hsp, hb4⟩; have HSB := hide hsb; clear hsb; have hB4 := bthen hB3 hb4; obtain ⟨q0, q1, q2, q3, q4, q5⟩ := unhide HR w4 hB4; obtain ⟨q6, q7⟩ := unhide HK w4 hB4))
  go_wp2
  refine bodyPost_ret (v := .tuple #[.agg #[.bool s.ln, .slice s.la s.lN s.lc, .bool s.hn, .slice s.ha s.hN s.hc, .int .i64 s.bits], .int .i64 0]) (by simp [results, Try.results31, go_sem, q0, q1, q2, q3, q4]) rfl ⟨s, rfl, unhide HSB, ?_, ?_⟩
  · exact SpAt.put5 ⟨hsp.lo.mono (by omega), hsp.hi.mono (by omega)⟩ q0 q1 q2 q3 q4 _ _ _ _ _
  · exact set5 (hBw.trans (hB4.mono hBw.size)) (Nat.le_succ _) _ _ _ _ _
end Go.Proofs.Ytgmnknmjainabab
namespace Go.Proofs.Ytgmnknmjainabab
open Go.RowKit
attribute [local go_sem ↓] Go.wp_at_zero Go.wp_at_succ
def FitAns (w : World) (s : Sp) (d e : Nat → Int) (r : Ending) (w' : World) : Prop :=
  ((chkE s d e = 0 ∧ r = .returned (.tuple #[.agg #[.bool s.ln, .slice s.la s.lN s.lc, .bool s.hn, .slice s.ha s.hN s.hc, .int .i64 s.bits], .int .i64 0])) ∨
   (chkE s d e ≠ 0 ∧ r = .returned (.tuple #[.agg #[.bool false, .slice none 0 0, .bool false, .slice none 0 0, .int .i64 0], .int .i64 (chkE s d e)]))) ∧ Below w.heap.size w w'
set_option maxRecDepth 100000 in
set_option maxHeartbeats 2000000 in
theorem fit_any (w : World) (s : Sp) (d e : Nat → Int) (h : SpDig w s d e) :
    Calls Try.prog 93 #[.agg #[.bool s.ln, .slice s.la s.lN s.lc, .bool s.hn, .slice s.ha s.hN s.hc, .int .i64 s.bits]] w (FitAns w s d e) := by
  by_cases h1 : chkE s d e = 0
  · have h1' : (chkE s d e != 0) = false := by simp [h1]
    have HE := hide h1
    clear h1
    go_enter Try.func93, Try.ntmps93
    go_wp2_with (go_at_call 144; refine (check_any s d e _ (h.below (bl2 _ _ _))).mono ?_; rintro r w1 ⟨rfl, hb1⟩; obtain ⟨hsz1, hcell1, hfz1⟩ := near (w.heap.size + 1 + 1) (by simp) hb1)
    refine bodyPost_ret (v := .tuple #[.agg #[.bool s.ln, .slice s.la s.lN s.lc, .bool s.hn, .slice s.ha s.hN s.hc, .int .i64 s.bits], .int .i64 0]) (by simp [results, Try.results93, go_sem, hcell1]) rfl ⟨Or.inl ⟨unhide HE, rfl⟩, ?_⟩
    exact set5 (bthen (bl2 _ _ _) hb1) (Nat.le_succ _) _ _ _ _ _
  · have h1' : (chkE s d e != 0) = true := by simp [h1]
    have HE := hide h1
    clear h1
    go_enter Try.func93, Try.ntmps93
    go_wp2_with (go_at_call 144; refine (check_any s d e _ (h.below (bl2 _ _ _))).mono ?_; rintro r w1 ⟨rfl, hb1⟩; obtain ⟨hsz1, hcell1, hfz1⟩ := near (w.heap.size + 1 + 1) (by simp) hb1)
    refine bodyPost_ret (v := .tuple #[.agg #[.bool false, .slice none 0 0, .bool false, .slice none 0 0, .int .i64 0], .int .i64 (chkE s d e)]) (by simp [results, Try.results93, go_sem, hcell1]) rfl ⟨Or.inr ⟨unhide HE, rfl⟩, ?_⟩
    exact set5 (bthen (bl2 _ _ _) hb1) (Nat.le_succ _) _ _ _ _ _
set_option maxRecDepth 100000 in
set_option maxHeartbeats 2000000 in
theorem wideAdd_int (w : World) (s t : Sp) (k : Nat) (lo hi lo' hi' : Int) (hs : SpAt w s k lo hi) (ht : SpAt w t k lo' hi') (hk : k ≤ 700000000) :
    Calls Try.prog 56 #[.agg #[.bool s.ln, .slice s.la s.lN s.lc, .bool s.hn, .slice s.ha s.hN s.hc, .int .i64 s.bits], .agg #[.bool t.ln, .slice t.la t.lN t.lc, .bool t.hn, .slice t.ha t.hN t.hc, .int .i64 t.bits]] w (SpanAns w s.bits (k + 1) (lo + lo') (hi + hi')) := by
  have ne1 : w.heap.size ≠ w.heap.size + 1 + 1 := by omega
  have ne2 : w.heap.size + 1 + 1 ≠ w.heap.size := by omega
  have le2 : w.heap.size ≤ w.heap.size + 1 + 1 := by omega
  go_enter Try.func56, Try.ntmps56
  go_wp2
  go_region_held3 (fun w' => w'.cell? ⟨w.heap.size, 0, none⟩ = some (.bool s.ln) ∧ w'.cell? ⟨w.heap.size, 1, none⟩ = some (.slice s.la s.lN s.lc) ∧ w'.cell? ⟨w.heap.size, 2, none⟩ = some (.bool s.hn) ∧ w'.cell? ⟨w.heap.size, 3, none⟩ = some (.slice s.ha s.hN s.hc) ∧ w'.cell? ⟨w.heap.size, 4, none⟩ = some (.int .i64 s.bits) ∧ w'.cell? ⟨w.heap.size + 1, 0, none⟩ = some (.bool t.ln) ∧ w'.cell? ⟨w.heap.size + 1, 1, none⟩ = some (.slice t.la t.lN t.lc) ∧ w'.cell? ⟨w.heap.size + 1, 2, none⟩ = some (.bool t.hn) ∧ w'.cell? ⟨w.heap.size + 1, 3, none⟩ = some (.slice t.ha t.hN t.hc)) (go_keep)
    (first
      | (go_at_call 86; have hq := hb1; refine (add_int _ _ _ _ _ _ _ _ k k hi hi' _ (hs.hi.below (bthen (bl3 _ _ _ _).drew hb1)) (ht.hi.below (bthen (bl3 _ _ _ _).drew hb1)) (by omega) (by omega)).mono ?_; rintro r w2 ⟨neg2, a2, n2, c2, rfl, hint2, hb2⟩; obtain ⟨hsz2, hcell2, hfz2⟩ := near (w.heap.size + 1 + 1 + 1) hsz1 hb2)
      | (go_at_call 86; refine (add_int _ _ _ _ _ _ _ _ k k lo lo' _ (hs.lo.below (bl3 _ _ _ _).drew) (ht.lo.below (bl3 _ _ _ _).drew) (by omega) (by omega)).mono ?_; rintro r w1 ⟨neg1, a1, n1, c1, rfl, hint1, hb1⟩; obtain ⟨hsz1, hcell1, hfz1⟩ := near (w.heap.size + 1 + 1 + 1) (by simp) hb1))
  go_wp2
  have q0 : w2.cell? ⟨w.heap.size + 1 + 1, 0, none⟩ = some (.bool false) := by simp [hcell2, hcell1, go_sem]
  have q1 : w2.cell? ⟨w.heap.size + 1 + 1, 1, none⟩ = some (.slice none 0 0) := by simp [hcell2, hcell1, go_sem]
  have q2 : w2.cell? ⟨w.heap.size + 1 + 1, 2, none⟩ = some (.bool false) := by simp [hcell2, hcell1, go_sem]
  have q3 : w2.cell? ⟨w.heap.size + 1 + 1, 3, none⟩ = some (.slice none 0 0) := by simp [hcell2, hcell1, go_sem]
  have q4 : w2.cell? ⟨w.heap.size + 1 + 1, 4, none⟩ = some (.int .i64 0) := by simp [hcell2, hcell1, go_sem]
  refine bodyPost_ret (v := .agg #[.bool neg1, .slice a1 n1 c1, .bool neg2, .slice a2 n2 c2, .int .i64 s.bits]) (by simp [results, Try.results56, go_sem, q0, q1, q2, q3, q4]) rfl ⟨⟨neg1, a1, n1, c1, neg2, a2, n2, c2, s.bits⟩, rfl, rfl, ?_, ?_⟩
  · exact SpAt.put5 ⟨(hint1.below hb2).mono (by omega), hint2.mono (by omega)⟩ q0 q1 q2 q3 q4 _ _ _ _ _
  · exact set5 (bthen (bthen (bl3 _ _ _ _).drew hb1) hb2) le2 _ _ _ _ _
theorem lenZ_le (n : Nat) (d : Nat → Int) : lenZ n d ≤ 16 * n := by
  unfold lenZ
  have := blenF_bd 16 (d (n - 1))
  split <;> omega
theorem chk_small {w : World} {s : Sp} {k : Nat} {lo hi : Int} (h : SpAt w s k lo hi) (hk : k ≤ 250) (hle : lo ≤ hi) (h1 : 1 ≤ s.bits) (h2 : s.bits ≤ 120) : ∃ d e, SpDig w s d e ∧ chkE s d e = 0 := by
  obtain ⟨⟨d, p1, p2, p3, p4, p5⟩, ⟨e, r1, r2, r3, r4, r5⟩⟩ := h
  refine ⟨d, e, ⟨p1, r1⟩, ?_⟩
  have l1 := lenZ_le s.lN d
  have l2 := lenZ_le s.hN e
  have g1 : rightB s.ln s.lN d ≠ false := by
    unfold rightB
    by_cases h0 : s.lN = 0
    · simp [h0, p3 h0]
    · rw [if_neg h0]; simpa using (show d (s.lN - 1) ≠ 0 by omega)
  have g2 : rightB s.hn s.hN e ≠ false := by
    unfold rightB
    by_cases h0 : s.hN = 0
    · simp [h0, r3 h0]
    · rw [if_neg h0]; simpa using (show e (s.hN - 1) ≠ 0 by omega)
  have g3 : ¬ 0 < cmpI s.ln s.hn d e s.lN s.hN := by
    rw [sgn_nonneg_lt p1.dgs r1.dgs s.ln s.hn s.lN s.hN p2 r2 p3 r3, ← p5, ← r5]
    exact cmpInt_le0 (by omega)
  unfold chkE
  rw [if_neg (by omega), if_neg (fun q => q.elim g1 g2), if_neg (by omega), if_neg g3]
set_option maxRecDepth 100000 in
set_option maxHeartbeats 2000000 in
theorem made_ok_Add (p1 p2 : Value) (B : Nat) (W : World) (f : Nat → Sp) (d e : Nat → Nat → Int) (n cap : Nat) (hn : n ≤ 1000) (hS : Spans W B n f d e) (h0 : ∀ z, Flt (fun j => chkE (f j) (d j) (e j)) (fun j => (f j).bits) n z → z = 0)
    (b : Int) (k : Nat) (lo hi : Int) (hF : ∀ w', Below W.heap.size W w' → Calls Try.prog 55 #[p1, p2] w' (PairAns w' b k lo hi 0)) (hk : k ≤ 250) (hle : lo ≤ hi) (hb1 : 1 ≤ b) (hb2 : b ≤ 120) :
    Calls Try.prog 54 #[.func (.func 55) #[] #[p1, p2], .slice (some ⟨B, 0, none⟩) n cap] W (PairAns W b k lo hi 0) := by
  have HF := hide hF
  have HZ := hide h0
  have HS := hide hS
  clear hF h0 hS
  go_enter Try.func54, Try.ntmps54
  go_wp2_with fail
  refine (fault_any _ _ _ f d e _ ((unhide HS).below (bl1 _ _)) hn).mono ?_
  rintro r w1 ⟨z, rfl, hz, hb1'⟩
  have hz0 := unhide HZ z hz
  subst hz0
  obtain ⟨hsz1, hcell1, hfz1⟩ := near (W.heap.size + 1) (by simp) hb1'
  have hB1 : Below W.heap.size W w1 := bthen (bl1 _ _) hb1'
  clear hz
  go_wp2_with fail
  refine (unhide HF _ hB1).mono ?_
  rintro r w2 ⟨s, rfl, hsb, hsp, hb3⟩
  have hB2 := bthen hB1 hb3
  obtain ⟨hsz2, hcell2, hfz2⟩ := near (W.heap.size + 1) hsz1 hb3
  have hz0 := Nat.lt_of_lt_of_le (Nat.lt_succ_self W.heap.size) hsz2
  obtain ⟨dd, ee, hdig, hchk⟩ := chk_small hsp hk hle (by omega) (by omega)
  have q0 : w2.cell? ⟨W.heap.size, 0, none⟩ = some (.bool false) := by simp [hcell2, hcell1]
  have q1 : w2.cell? ⟨W.heap.size, 1, none⟩ = some (.slice none 0 0) := by simp [hcell2, hcell1]
  have q2 : w2.cell? ⟨W.heap.size, 2, none⟩ = some (.bool false) := by simp [hcell2, hcell1]
  have q3 : w2.cell? ⟨W.heap.size, 3, none⟩ = some (.slice none 0 0) := by simp [hcell2, hcell1]
  have q4 : w2.cell? ⟨W.heap.size, 4, none⟩ = some (.int .i64 0) := by simp [hcell2, hcell1]
  have q5 : ∀ o, w2.frozen? ⟨W.heap.size, o, none⟩ = false := by intro o; simp [hfz2, hfz1, go_sem]
  have HB := hide hsb
  have HC := hide hchk
  clear hsb hcell2 hcell1 hfz2 hfz1 hb1' hchk
  go_wp2_with fail
  refine (fit_any _ s dd ee (hdig.below (bl1 _ _))).mono ?_
  rintro r w3 ⟨hr, hb4⟩
  have hr' : r = .returned (.tuple #[.agg #[.bool s.ln, .slice s.la s.lN s.lc, .bool s.hn, .slice s.ha s.hN s.hc, .int .i64 s.bits], .int .i64 0]) := by
    rcases hr with ⟨_, h⟩ | ⟨h, _⟩
    · exact h
    · exact absurd (unhide HC) h
  subst hr'
  clear hr
  have hB3 : Below w2.heap.size w2 w3 := bthen (bl1 _ _) hb4
  have t0 := (hB3.cell (p := ⟨W.heap.size, 0, none⟩) hz0).trans q0
  have t1 := (hB3.cell (p := ⟨W.heap.size, 1, none⟩) hz0).trans q1
  have t2 := (hB3.cell (p := ⟨W.heap.size, 2, none⟩) hz0).trans q2
  have t3 := (hB3.cell (p := ⟨W.heap.size, 3, none⟩) hz0).trans q3
  have t4 := (hB3.cell (p := ⟨W.heap.size, 4, none⟩) hz0).trans q4
  have t5 : ∀ o, w3.frozen? ⟨W.heap.size, o, none⟩ = false := fun o => (hB3.frozen (p := ⟨W.heap.size, o, none⟩) hz0).trans (q5 o)
  go_wp2_with fail
  refine bodyPost_ret (v := .tuple #[.agg #[.bool s.ln, .slice s.la s.lN s.lc, .bool s.hn, .slice s.ha s.hN s.hc, .int .i64 s.bits], .int .i64 0]) (by simp [results, Try.results54, go_sem, t0, t1, t2, t3, t4]) rfl ⟨s, rfl, unhide HB, ?_, ?_⟩
  · exact SpAt.put5 (hsp.below hB3) t0 t1 t2 t3 t4 _ _ _ _ _
  · exact set5 (bthen hB2 hB3) (Nat.le_refl _) _ _ _ _ _
set_option maxRecDepth 100000 in
set_option maxHeartbeats 2000000 in
theorem add1_int (w : World) (B0 B1 : Nat) (s t : Sp) (k : Nat) (lo hi lo' hi' : Int) (hs : SpAt w s k lo hi) (ht : SpAt w t k lo' hi') (hk : k ≤ 700000000)
    (a0 : w.cell? ⟨B0, 0, none⟩ = some (.bool s.ln)) (a1 : w.cell? ⟨B0, 1, none⟩ = some (.slice s.la s.lN s.lc)) (a2 : w.cell? ⟨B0, 2, none⟩ = some (.bool s.hn)) (a3 : w.cell? ⟨B0, 3, none⟩ = some (.slice s.ha s.hN s.hc)) (a4 : w.cell? ⟨B0, 4, none⟩ = some (.int .i64 s.bits))
    (b0 : w.cell? ⟨B1, 0, none⟩ = some (.bool t.ln)) (b1 : w.cell? ⟨B1, 1, none⟩ = some (.slice t.la t.lN t.lc)) (b2 : w.cell? ⟨B1, 2, none⟩ = some (.bool t.hn)) (b3 : w.cell? ⟨B1, 3, none⟩ = some (.slice t.ha t.hN t.hc)) (b4 : w.cell? ⟨B1, 4, none⟩ = some (.int .i64 t.bits)) :
    Calls Try.prog 55 #[.pointer (some ⟨B0, 0, none⟩), .pointer (some ⟨B1, 0, none⟩)] w (PairAns w s.bits (k + 1) (lo + lo') (hi + hi') 0) := by
  have l0 : B0 < w.heap.size := World.block_lt_of_cell? w ⟨B0, 0, none⟩ a0
  have l1 : B1 < w.heap.size := World.block_lt_of_cell? w ⟨B1, 0, none⟩ b0
  go_enter Try.func55, Try.ntmps55
  go_wp2_with fail
  refine (wideAdd_int _ s t k lo hi lo' hi' (hs.below (bl1 _ _)) (ht.below (bl1 _ _)) hk).mono ?_
  rintro r w1 ⟨u, rfl, hub, hup, hb1⟩
  obtain ⟨hsz1, hcell1, hfz1⟩ := near (w.heap.size + 1) (by simp) hb1
  have q0 : w1.cell? ⟨w.heap.size, 0, none⟩ = some (.bool false) := by simp [hcell1]
  have q1 : w1.cell? ⟨w.heap.size, 1, none⟩ = some (.slice none 0 0) := by simp [hcell1]
  have q2 : w1.cell? ⟨w.heap.size, 2, none⟩ = some (.bool false) := by simp [hcell1]
  have q3 : w1.cell? ⟨w.heap.size, 3, none⟩ = some (.slice none 0 0) := by simp [hcell1]
  have q4 : w1.cell? ⟨w.heap.size, 4, none⟩ = some (.int .i64 0) := by simp [hcell1]
  have q5 : ∀ o, w1.frozen? ⟨w.heap.size, o, none⟩ = false := by intro o; simp [hfz1, go_sem]
  have HB := hide hub
  clear hub
  go_wp2_with fail
  refine bodyPost_ret (v := .tuple #[.agg #[.bool u.ln, .slice u.la u.lN u.lc, .bool u.hn, .slice u.ha u.hN u.hc, .int .i64 u.bits], .int .i64 0]) (by simp [results, Try.results55, go_sem, q0, q1, q2, q3, q4]) rfl ⟨u, rfl, unhide HB, ?_, ?_⟩
  · exact SpAt.put5 hup q0 q1 q2 q3 q4 _ _ _ _ _
  · exact set5 (bthen (bl1 _ _) hb1) (Nat.le_refl _) _ _ _ _ _
end Go.Proofs.Ytgmnknmjainabab
namespace Go.Proofs.Ytgmnknmjainabab
open Go.RowKit
theorem blenF_Q (f : Nat) : ∀ x : Int, 0 < x → x < Q f → ∃ b : Nat, blenF f x = (b : Int) + 1 ∧ Q b ≤ x ∧ x < Q (b + 1) := by
  induction f with
  | zero => intro x h0 h1; simp [Q] at h1; omega
  | succ f ih =>
    intro x h0 h1
    have hx : ¬ x ≤ 0 := by omega
    simp only [blenF, hx, if_false]
    simp only [Q] at h1
    by_cases h2 : x / 2 = 0
    · refine ⟨0, ?_, by simp [Q]; omega, by simp [Q]; omega⟩
      rw [h2]; cases f <;> simp [blenF]
    · obtain ⟨b, e1, e2, e3⟩ := ih (x / 2) (by omega) (by omega)
      refine ⟨b + 1, by rw [e1]; omega, ?_, ?_⟩
      · simp only [Q]; omega
      · simp only [Q] at *; omega
theorem lenZ_Q {d : Nat → Int} (hd : Dgs d) {n : Nat} (hn : 0 < n) (ht : d (n - 1) ≠ 0) : ∃ L : Nat, lenZ n d = (L : Int) + 1 ∧ Q L ≤ V d n ∧ V d n < Q (L + 1) := by
  obtain ⟨m, rfl⟩ : ∃ m, n = m + 1 := ⟨n - 1, by omega⟩
  simp only [Nat.add_sub_cancel] at ht
  have hx := hd m
  obtain ⟨b, e1, e2, e3⟩ := blenF_Q 16 (d m) (by omega) (by rw [Q16]; omega)
  refine ⟨16 * m + b, ?_, ?_, ?_⟩
  · unfold lenZ; rw [if_neg (by omega)]; simp only [Nat.add_sub_cancel]; rw [e1]; omega
  · rw [Q_add, Q_P]; simp only [V]
    have h1 := V_nonneg hd m
    have h2 : P m * Q b ≤ P m * d m := Int.mul_le_mul_of_nonneg_left e2 (by have := P_pos m; omega)
    rw [Int.mul_comm (d m)]; omega
  · rw [show 16 * m + b + 1 = 16 * m + (b + 1) by omega, Q_add, Q_P]; simp only [V]
    have h1 := V_lt hd m
    have h2 : P m * (d m + 1) ≤ P m * Q (b + 1) := Int.mul_le_mul_of_nonneg_left (by omega) (by have := P_pos m; omega)
    rw [Int.mul_add, Int.mul_one] at h2
    rw [Int.mul_comm (d m)]; omega
def big (z : Int) : Prop := Q 4000 ≤ z ∨ z ≤ - Q 4000
instance (z : Int) : Decidable (big z) := by unfold big; infer_instance
theorem lenZ_big {d : Nat → Int} (hd : Dgs d) {n : Nat} (ht : n = 0 ∨ d (n - 1) ≠ 0) (neg : Bool) : 4000 < lenZ n d ↔ big (sgn neg (V d n)) := by
  have hq := Q_pos 4000
  by_cases hn : n = 0
  · subst hn
    have h1 : lenZ 0 d = 0 := by simp [lenZ]
    have h2 : sgn neg (V d 0) = 0 := by cases neg <;> simp [sgn, V]
    rw [h1, h2]; unfold big; constructor <;> intro h <;> omega
  · obtain ⟨L, e1, e2, e3⟩ := lenZ_Q hd (show 0 < n by omega) (by omega)
    rw [e1]
    have key : (4000 : Int) < (L : Int) + 1 ↔ Q 4000 ≤ V d n := by
      constructor
      · intro h
        have := Q_mono (show 4000 ≤ L by omega)
        omega
      · intro h
        rcases Nat.lt_or_ge 4000 (L + 1) with h2 | h2
        · omega
        · have := Q_mono h2; omega
    have hv := V_nonneg hd n
    rw [key]; unfold big
    cases neg <;> simp only [sgn] <;> constructor <;> intro h <;> simp at * <;> omega
theorem sq_lt {x y : Int} (hx : 0 ≤ x) (hy : 0 ≤ y) (h : x * x < y * y) : x < y := by
  rcases Int.lt_or_le x y with h1 | h1
  · exact h1
  · have := Int.mul_le_mul h1 h1 hy hx; omega
theorem root_uniq {a x y : Int} (hx : 0 ≤ x) (hy : 0 ≤ y) (h1 : x * x ≤ a) (h2 : a < (x + 1) * (x + 1)) (h3 : y * y ≤ a) (h4 : a < (y + 1) * (y + 1)) : x = y := by
  have := sq_lt hx (show 0 ≤ y + 1 by omega) (by omega)
  have := sq_lt hy (show 0 ≤ x + 1 by omega) (by omega)
  omega
def bigs (lo hi : Int) : Prop := big lo ∨ big hi
instance (lo hi : Int) : Decidable (bigs lo hi) := by unfold bigs; infer_instance
def fitE (lo hi : Int) : Int := if bigs lo hi then 2 else 0
def fitZ (lo hi z : Int) : Int := if bigs lo hi then 0 else z
theorem rightB_of {neg : Bool} {n : Nat} {d : Nat → Int} (h1 : n = 0 ∨ d (n - 1) ≠ 0) (h2 : n = 0 → neg = false) : rightB neg n d ≠ false := by
  unfold rightB
  by_cases h0 : n = 0
  · simp [h0, h2 h0]
  · rw [if_neg h0]; simpa using (show d (n - 1) ≠ 0 by omega)
theorem chk_fit {w : World} {s : Sp} {k : Nat} {lo hi : Int} (h : SpAt w s k lo hi) (hle : lo ≤ hi) (h1 : 1 ≤ s.bits) (h2 : s.bits ≤ 120) : ∃ d e, SpDig w s d e ∧ chkE s d e = fitE lo hi := by
  obtain ⟨⟨d, p1, p2, p3, p4, p5⟩, ⟨e, r1, r2, r3, r4, r5⟩⟩ := h
  refine ⟨d, e, ⟨p1, r1⟩, ?_⟩
  have g1 := rightB_of (neg := s.ln) p2 p3
  have g2 := rightB_of (neg := s.hn) r2 r3
  have b1 := lenZ_big p1.dgs p2 s.ln
  have b2 := lenZ_big r1.dgs r2 s.hn
  rw [← p5] at b1
  rw [← r5] at b2
  have g3 : ¬ 0 < cmpI s.ln s.hn d e s.lN s.hN := by
    rw [sgn_nonneg_lt p1.dgs r1.dgs s.ln s.hn s.lN s.hN p2 r2 p3 r3, ← p5, ← r5]
    exact cmpInt_le0 (by omega)
  by_cases hb : bigs lo hi
  · have f : fitE lo hi = 2 := if_pos hb
    rw [f]; unfold chkE
    rw [if_neg (by omega), if_neg (fun q => q.elim g1 g2), if_pos (by rw [b1, b2]; exact hb)]
  · have f : fitE lo hi = 0 := if_neg hb
    rw [f]; unfold chkE
    rw [if_neg (by omega), if_neg (fun q => q.elim g1 g2), if_neg (by rw [b1, b2]; exact hb), if_neg g3]
theorem fit_cases (lo hi : Int) : (bigs lo hi ∧ fitE lo hi = 2 ∧ ∀ z, fitZ lo hi z = 0) ∨ (¬ bigs lo hi ∧ fitE lo hi = 0 ∧ ∀ z, fitZ lo hi z = z) := by
  by_cases hb : bigs lo hi
  · exact Or.inl ⟨hb, if_pos hb, fun _ => if_pos hb⟩
  · exact Or.inr ⟨hb, if_neg hb, fun _ => if_neg hb⟩
end Go.Proofs.Ytgmnknmjainabab
namespace Go.Proofs.Ytgmnknmjainabab
open Go.RowKit
attribute [local go_sem ↓] Go.wp_at_zero Go.wp_at_succ
structure SpC (w : World) (B : Nat) (s : Sp) : Prop where
  c0 : w.cell? ⟨B, 0, none⟩ = some (.bool s.ln)
  c1 : w.cell? ⟨B, 1, none⟩ = some (.slice s.la s.lN s.lc)
  c2 : w.cell? ⟨B, 2, none⟩ = some (.bool s.hn)
  c3 : w.cell? ⟨B, 3, none⟩ = some (.slice s.ha s.hN s.hc)
  c4 : w.cell? ⟨B, 4, none⟩ = some (.int .i64 s.bits)
theorem SpC.lt {w : World} {B : Nat} {s : Sp} (h : SpC w B s) : B < w.heap.size := World.block_lt_of_cell? w ⟨B, 0, none⟩ h.c0
theorem SpC.below {w w' : World} {B : Nat} {s : Sp} (h : SpC w B s) (hb : Below w.heap.size w w') : SpC w' B s :=
  ⟨(hb.cell (p := ⟨B, 0, none⟩) h.lt).trans h.c0, (hb.cell (p := ⟨B, 1, none⟩) h.lt).trans h.c1, (hb.cell (p := ⟨B, 2, none⟩) h.lt).trans h.c2, (hb.cell (p := ⟨B, 3, none⟩) h.lt).trans h.c3, (hb.cell (p := ⟨B, 4, none⟩) h.lt).trans h.c4⟩
theorem spc_new (w : World) (s : Sp) (T : TypeId) : SpC (w.alloc (.cells #[.bool s.ln, .slice s.la s.lN s.lc, .bool s.hn, .slice s.ha s.hN s.hc, .int .i64 s.bits] T)) w.heap.size s := ⟨by simp, by simp, by simp, by simp, by simp⟩
structure NoC (w : World) (B : Nat) : Prop where
  c0 : w.cell? ⟨B, 0, none⟩ = some (.bool false)
  c1 : w.cell? ⟨B, 1, none⟩ = some (.slice none 0 0)
  c2 : w.cell? ⟨B, 2, none⟩ = some (.bool false)
  c3 : w.cell? ⟨B, 3, none⟩ = some (.slice none 0 0)
  c4 : w.cell? ⟨B, 4, none⟩ = some (.int .i64 0)
  fz : ∀ o, w.frozen? ⟨B, o, none⟩ = false
theorem NoC.lt {w : World} {B : Nat} (h : NoC w B) : B < w.heap.size := World.block_lt_of_cell? w ⟨B, 0, none⟩ h.c0
theorem NoC.below {w w' : World} {B : Nat} (h : NoC w B) (hb : Below w.heap.size w w') : NoC w' B :=
  ⟨(hb.cell (p := ⟨B, 0, none⟩) h.lt).trans h.c0, (hb.cell (p := ⟨B, 1, none⟩) h.lt).trans h.c1, (hb.cell (p := ⟨B, 2, none⟩) h.lt).trans h.c2, (hb.cell (p := ⟨B, 3, none⟩) h.lt).trans h.c3, (hb.cell (p := ⟨B, 4, none⟩) h.lt).trans h.c4, fun o => (hb.frozen (p := ⟨B, o, none⟩) h.lt).trans (h.fz o)⟩
theorem noc_new (w : World) (T : TypeId) : NoC (w.alloc (.cells #[.bool false, .slice none 0 0, .bool false, .slice none 0 0, .int .i64 0] T)) w.heap.size := ⟨by simp, by simp, by simp, by simp, by simp, fun o => by simp [go_sem]⟩
theorem SpAt.putN {w : World} {s : Sp} {k : Nat} {lo hi : Int} (h : SpAt w s k lo hi) {B : Nat} (hB : NoC w B) (u0 u1 u2 u3 u4 : Value) :
    SpAt (((((w.setCell ⟨B, 0, none⟩ u0).setCell ⟨B, 1, none⟩ u1).setCell ⟨B, 2, none⟩ u2).setCell ⟨B, 3, none⟩ u3).setCell ⟨B, 4, none⟩ u4) s k lo hi := SpAt.put5 h hB.c0 hB.c1 hB.c2 hB.c3 hB.c4 _ _ _ _ _
theorem SpAt.mono {w : World} {s : Sp} {k k' : Nat} {lo hi : Int} (h : SpAt w s k lo hi) (hk : k ≤ k') : SpAt w s k' lo hi := ⟨h.lo.mono hk, h.hi.mono hk⟩
theorem PairAns.mono {w : World} {b : Int} {k k' : Nat} {lo hi er : Int} {r : Ending} {w' : World} (h : PairAns w b k lo hi er r w') (hk : k ≤ k') : PairAns w b k' lo hi er r w' := by
  obtain ⟨s, h1, h2, h3, h4⟩ := h
  exact ⟨s, h1, h2, h3.mono hk, h4⟩
theorem flt_pr {s t : Sp} {d e d' e' : Nat → Int} {z : Int} (hz : Flt (fun j => chkE (pr s t j) (pr d d' j) (pr e e' j)) (fun j => (pr s t j).bits) 2 z) : z = fltE2 (chkE s d e) (chkE t d' e') s.bits t.bits := by
  have e1 : (fun j => chkE (pr s t j) (pr d d' j) (pr e e' j)) = (fun j => pr (chkE s d e) (chkE t d' e') j) := by
    funext j; unfold pr; split <;> rfl
  have e2 : (fun j => (pr s t j).bits) = (fun j => pr s.bits t.bits j) := by
    funext j; unfold pr; split <;> rfl
  rw [e1, e2] at hz
  exact flt2 hz
set_option maxRecDepth 100000 in
set_option maxHeartbeats 2000000 in
theorem made_fit_Add (p1 p2 : Value) (B : Nat) (W : World) (f : Nat → Sp) (d e : Nat → Nat → Int) (n cap : Nat) (hn : n ≤ 1000) (hS : Spans W B n f d e) (h0 : ∀ z, Flt (fun j => chkE (f j) (d j) (e j)) (fun j => (f j).bits) n z → z = 0) (b : Int) (k : Nat) (lo hi : Int)
    (hF : ∀ w', Below W.heap.size W w' → Calls Try.prog 55 #[p1, p2] w' (PairAns w' b k lo hi 0)) (hle : lo ≤ hi) (hb1 : 1 ≤ b) (hb2 : b ≤ 120) :
    Calls Try.prog 54 #[.func (.func 55) #[] #[p1, p2], .slice (some ⟨B, 0, none⟩) n cap] W (PairAns W (fitZ lo hi b) k (fitZ lo hi lo) (fitZ lo hi hi) (fitE lo hi)) := by
  have HF := hide hF
  have HZ := hide h0
  have HS := hide hS
  clear hF h0 hS
  go_enter Try.func54, Try.ntmps54
  go_wp2_with fail
  refine (fault_any _ _ _ f d e _ ((unhide HS).below (bl1 _ _)) hn).mono ?_
  rintro r w1 ⟨z, rfl, hz, hb1'⟩
  have hz0 := unhide HZ z hz
  subst hz0
  have hN1 := (noc_new W 28).below hb1'
  have hB1 : Below W.heap.size W w1 := bthen (bl1 _ _) hb1'
  clear hz
  go_wp2_with fail
  refine (unhide HF _ hB1).mono ?_
  rintro r w2 ⟨s, rfl, hsb, hsp, hb3⟩
  have hB2 := bthen hB1 hb3
  have hN2 := hN1.below hb3
  have hlt := hN2.lt
  obtain ⟨dd, ee, hdig, hchk⟩ := chk_fit hsp hle (by omega) (by omega)
  obtain ⟨q0, q1, q2, q3, q4, q5⟩ := hN2
  have HB := hide hsb
  have HC := hide hchk
  clear hsb hb1' hchk
  go_wp2_with fail
  refine (fit_any _ s dd ee (hdig.below (bl1 _ _))).mono ?_
  rintro r w3 ⟨hr, hb4⟩
  have hB3 : Below w2.heap.size w2 w3 := bthen (bl1 _ _) hb4
  have hN3 := (NoC.mk q0 q1 q2 q3 q4 q5).below hB3
  obtain ⟨t0, t1, t2, t3, t4, t5⟩ := hN3
  have hr' : ∃ u : Sp, r = .returned (.tuple #[.agg #[.bool u.ln, .slice u.la u.lN u.lc, .bool u.hn, .slice u.ha u.hN u.hc, .int .i64 u.bits], .int .i64 (fitE lo hi)]) ∧ u.bits = fitZ lo hi b ∧ SpAt w3 u k (fitZ lo hi lo) (fitZ lo hi hi) := by
    have hc := unhide HC
    rcases fit_cases lo hi with ⟨_, f2, f3⟩ | ⟨_, f2, f3⟩
    · rcases hr with ⟨h1, h⟩ | ⟨h1, h⟩
      · omega
      · refine ⟨⟨false, none, 0, 0, false, none, 0, 0, 0⟩, by rw [h, hc], by rw [f3], ?_⟩
        rw [f3, f3]; exact zeroSp _ _
    · rcases hr with ⟨h1, h⟩ | ⟨h1, h⟩
      · refine ⟨s, by rw [h, f2], by rw [f3]; exact unhide HB, ?_⟩
        rw [f3, f3]; exact hsp.below hB3
      · omega
  obtain ⟨u, hru, hub, hup⟩ := hr'
  clear hr
  rw [hru]
  clear hru
  have HU := hide hub
  clear hub
  have hB9 := bthen hB2 hB3
  generalize fitE lo hi = er at *
  go_wp2_with fail
  refine bodyPost_ret (v := .tuple #[.agg #[.bool u.ln, .slice u.la u.lN u.lc, .bool u.hn, .slice u.ha u.hN u.hc, .int .i64 u.bits], .int .i64 er]) (by simp [results, Try.results54, go_sem, t0, t1, t2, t3, t4]) rfl ⟨u, rfl, unhide HU, ?_, ?_⟩
  · exact SpAt.putN hup ⟨t0, t1, t2, t3, t4, t5⟩ _ _ _ _ _
  · exact set5 hB9 (Nat.le_refl _) _ _ _ _ _
set_option maxRecDepth 100000 in
set_option maxHeartbeats 2000000 in
theorem span2_Add (w : World) (s t : Sp) (d e d' e' : Nat → Int) (hs : SpDig w s d e) (ht : SpDig w t d' e') (b' : Int) (k : Nat) (lo hi er : Int)
    (hM : ∀ (W : World) (B0 B1 B cap : Nat), Below w.heap.size w W → SpC W B0 s → SpC W B1 t → Spans W B 2 (pr s t) (pr d d') (pr e e') → Calls Try.prog 54 #[.func (.func 55) #[] #[.pointer (some ⟨B0, 0, none⟩), .pointer (some ⟨B1, 0, none⟩)], .slice (some ⟨B, 0, none⟩) 2 cap] W (PairAns W b' k lo hi er)) :
    Calls Try.prog 20 #[.agg #[.bool s.ln, .slice s.la s.lN s.lc, .bool s.hn, .slice s.ha s.hN s.hc, .int .i64 s.bits], .agg #[.bool t.ln, .slice t.la t.lN t.lc, .bool t.hn, .slice t.ha t.hN t.hc, .int .i64 t.bits]] w (PairAns w b' k lo hi er) := by
  have HM := hide hM
  have HS := hide (fun W hS hT => spans2 W s t d e d' e' 28 hS hT)
  clear hM
  go_enter Try.func20, Try.ntmps20
  go_wp2_with fail
  obtain ⟨W, hW⟩ : ∃ W, W = ((w.alloc (.cells #[.bool s.ln, .slice s.la s.lN s.lc, .bool s.hn, .slice s.ha s.hN s.hc, .int .i64 s.bits] 28)).alloc (.cells #[.bool t.ln, .slice t.la t.lN t.lc, .bool t.hn, .slice t.ha t.hN t.hc, .int .i64 t.bits] 28)).alloc (.cells #[.bool false, .slice none 0 0, .bool false, .slice none 0 0, .int .i64 0] 28) := ⟨_, rfl⟩
  have s3 : W.heap.size = w.heap.size + 1 + 1 + 1 := by rw [hW]; simp
  have hBW : Below w.heap.size w W := by rw [hW]; exact bl3 _ _ _ _
  have a0 : SpC W w.heap.size s := by rw [hW]; exact ⟨by simp [go_sem], by simp [go_sem], by simp [go_sem], by simp [go_sem], by simp [go_sem]⟩
  have g0 : SpC W (w.heap.size + 1) t := by rw [hW]; exact ⟨by simp [go_sem], by simp [go_sem], by simp [go_sem], by simp [go_sem], by simp [go_sem]⟩
  have r0 : NoC W (w.heap.size + 1 + 1) := by rw [hW]; exact ⟨by simp [go_sem], by simp [go_sem], by simp [go_sem], by simp [go_sem], by simp [go_sem], fun o => by simp [go_sem]⟩
  rw [← hW, ← s3]
  clear hW
  refine (unhide HM _ _ _ _ _ (bthen hBW (bl1 _ _)) (a0.below (bl1 _ _)) (g0.below (bl1 _ _)) (unhide HS W (hs.below hBW) (ht.below hBW))).mono ?_
  rintro r w1 ⟨u, rfl, hub, hup, hb1⟩
  have hB1 : Below W.heap.size W w1 := bthen (bl1 _ _) hb1
  obtain ⟨q0, q1, q2, q3, q4, q5⟩ := r0.below hB1
  have HB := hide hub
  clear hub
  go_wp2_with fail
  refine bodyPost_ret (v := .tuple #[.agg #[.bool u.ln, .slice u.la u.lN u.lc, .bool u.hn, .slice u.ha u.hN u.hc, .int .i64 u.bits], .int .i64 er]) (by simp [results, Try.results20, go_sem, q0, q1, q2, q3, q4]) rfl ⟨u, rfl, unhide HB, ?_, ?_⟩
  · exact SpAt.put5 hup q0 q1 q2 q3 q4 _ _ _ _ _
  · exact set5 (bthen hBW hB1) (by omega) _ _ _ _ _
end Go.Proofs.Ytgmnknmjainabab
namespace Go.Proofs.Ytgmnknmjainabab
open Go.RowKit
attribute [local go_sem ↓] Go.wp_at_zero Go.wp_at_succ
set_option maxRecDepth 100000 in
set_option maxHeartbeats 2000000 in
theorem opposite_int (w : World) (s : Sp) (k : Nat) (lo hi : Int) (hs : SpAt w s k lo hi) (hk : k ≤ 700000000) :
    Calls Try.prog 78 #[.agg #[.bool s.ln, .slice s.la s.lN s.lc, .bool s.hn, .slice s.ha s.hN s.hc, .int .i64 s.bits]] w (SpanAns w s.bits k (-hi) (-lo)) := by
  go_enter Try.func78, Try.ntmps78
  go_wp2
  go_region_held3 (fun w' => w'.cell? ⟨w.heap.size, 0, none⟩ = some (.bool s.ln) ∧ w'.cell? ⟨w.heap.size, 1, none⟩ = some (.slice s.la s.lN s.lc) ∧ w'.cell? ⟨w.heap.size, 2, none⟩ = some (.bool s.hn) ∧ w'.cell? ⟨w.heap.size, 3, none⟩ = some (.slice s.ha s.hN s.hc) ∧ w'.cell? ⟨w.heap.size, 4, none⟩ = some (.int .i64 s.bits)) (go_keep)
    (first
      | (go_at_call 83; have hq := hb1; refine (neg_int _ _ _ _ k lo _ (hs.lo.below (bthen (bl2 _ _ _).drew hb1)) (by omega)).mono ?_; rintro r w2 ⟨neg2, a2, n2, c2, rfl, hint2, hb2⟩; obtain ⟨hsz2, hcell2, hfz2⟩ := near (w.heap.size + 1 + 1) hsz1 hb2)
      | (go_at_call 83; refine (neg_int _ _ _ _ k hi _ (hs.hi.below (bl2 _ _ _).drew) (by omega)).mono ?_; rintro r w1 ⟨neg1, a1, n1, c1, rfl, hint1, hb1⟩; obtain ⟨hsz1, hcell1, hfz1⟩ := near (w.heap.size + 1 + 1) (by simp) hb1))
  go_wp2
  have q0 : w2.cell? ⟨w.heap.size + 1, 0, none⟩ = some (.bool false) := by simp [hcell2, hcell1, go_sem]
  have q1 : w2.cell? ⟨w.heap.size + 1, 1, none⟩ = some (.slice none 0 0) := by simp [hcell2, hcell1, go_sem]
  have q2 : w2.cell? ⟨w.heap.size + 1, 2, none⟩ = some (.bool false) := by simp [hcell2, hcell1, go_sem]
  have q3 : w2.cell? ⟨w.heap.size + 1, 3, none⟩ = some (.slice none 0 0) := by simp [hcell2, hcell1, go_sem]
  have q4 : w2.cell? ⟨w.heap.size + 1, 4, none⟩ = some (.int .i64 0) := by simp [hcell2, hcell1, go_sem]
  refine bodyPost_ret (v := .agg #[.bool neg1, .slice a1 n1 c1, .bool neg2, .slice a2 n2 c2, .int .i64 s.bits]) (by simp [results, Try.results78, go_sem, q0, q1, q2, q3, q4]) rfl ⟨⟨neg1, a1, n1, c1, neg2, a2, n2, c2, s.bits⟩, rfl, rfl, ?_, ?_⟩
  · exact SpAt.put5 ⟨hint1.below hb2, hint2⟩ q0 q1 q2 q3 q4 _ _ _ _ _
  · exact set5 (bthen (bthen (bl2 _ _ _).drew hb1) hb2) (Nat.le_succ _) _ _ _ _ _
end Go.Proofs.Ytgmnknmjainabab
namespace Go.Proofs.Ytgmnknmjainabab
open Go.RowKit
attribute [local go_sem ↓] Go.wp_at_zero Go.wp_at_succ
theorem cmpInt_self (x : Int) : cmpInt x x = 0 := by simp [cmpInt]
theorem isRight_int (neg : Bool) (a : Option Addr) (n cap k : Nat) (x : Int) (w : World) (h : IntAt w neg a n cap k x) :
    Calls Try.prog 50 #[.agg #[.bool neg, .slice a n cap]] w fun r w' => r = .returned (.bool true) ∧ Below w.heap.size w w' := by
  obtain ⟨d, h1, h2, h3, h4, h5⟩ := h
  have h6 : rightB neg n d = true := by
    have := rightB_of (neg := neg) h2 h3
    simpa using this
  exact (isRight_any neg a n cap d w h1).mono fun r w' ⟨p1, p2⟩ => ⟨by rw [p1, h6], p2⟩
set_option maxRecDepth 100000 in
set_option maxHeartbeats 2000000 in
theorem refOf_any (w : World) (s : Sp) : Calls Try.prog 22 #[.agg #[.bool s.ln, .slice s.la s.lN s.lc, .bool s.hn, .slice s.ha s.hN s.hc, .int .i64 s.bits]] w fun r w' => r = .returned (.agg #[.bool s.ln, .slice s.la s.lN s.lc, .bool s.hn, .slice s.ha s.hN s.hc, .int .i64 s.bits]) ∧ Below w.heap.size w w' := by
  go_enter Try.func22, Try.ntmps22
  go_wp2_with fail
  refine bodyPost_ret (v := .agg #[.bool s.ln, .slice s.la s.lN s.lc, .bool s.hn, .slice s.ha s.hN s.hc, .int .i64 s.bits]) (by simp [results, Try.results22, go_sem]) rfl ⟨rfl, ?_⟩
  first | exact bl2 _ _ _ | exact set5 (bl2 _ _ _) (Nat.le_succ _) _ _ _ _ _
set_option maxRecDepth 100000 in
set_option maxHeartbeats 2000000 in
theorem wideSub_int (w : World) (s t : Sp) (k : Nat) (lo hi lo' hi' : Int) (hs : SpAt w s k lo hi) (ht : SpAt w t k lo' hi') (hk : k ≤ 600000000) :
    Calls Try.prog 79 #[.agg #[.bool s.ln, .slice s.la s.lN s.lc, .bool s.hn, .slice s.ha s.hN s.hc, .int .i64 s.bits], .agg #[.bool t.ln, .slice t.la t.lN t.lc, .bool t.hn, .slice t.ha t.hN t.hc, .int .i64 t.bits]] w (SpanAns w s.bits (k + 1) (lo - hi') (hi - lo')) := by
  have ne1 : w.heap.size ≠ w.heap.size + 1 + 1 := by omega
  have ne2 : w.heap.size + 1 + 1 ≠ w.heap.size := by omega
  have le2 : w.heap.size ≤ w.heap.size + 1 + 1 := by omega
  go_enter Try.func79, Try.ntmps79
  go_wp2
  go_region_held3 (fun w' => w'.cell? ⟨w.heap.size, 0, none⟩ = some (.bool s.ln) ∧ w'.cell? ⟨w.heap.size, 1, none⟩ = some (.slice s.la s.lN s.lc) ∧ w'.cell? ⟨w.heap.size, 2, none⟩ = some (.bool s.hn) ∧ w'.cell? ⟨w.heap.size, 3, none⟩ = some (.slice s.ha s.hN s.hc) ∧ w'.cell? ⟨w.heap.size, 4, none⟩ = some (.int .i64 s.bits) ∧ w'.cell? ⟨w.heap.size + 1, 0, none⟩ = some (.bool t.ln) ∧ w'.cell? ⟨w.heap.size + 1, 1, none⟩ = some (.slice t.la t.lN t.lc) ∧ w'.cell? ⟨w.heap.size + 1, 2, none⟩ = some (.bool t.hn) ∧ w'.cell? ⟨w.heap.size + 1, 3, none⟩ = some (.slice t.ha t.hN t.hc) ∧ w'.cell? ⟨w.heap.size + 1, 4, none⟩ = some (.int .i64 t.bits)) (go_keep)
    (first
      | (go_at_call 78; refine (opposite_int _ t k lo' hi' (ht.below (bl3 _ _ _ _).drew) (by omega)).mono ?_; rintro r w1 ⟨u, rfl, hub, hup, hb1⟩; have HUB := hide hub; clear hub; obtain ⟨hsz1, hcell1, hfz1⟩ := near (w.heap.size + 1 + 1 + 1) (by simp) hb1)
      | (go_at_call 56; refine (wideAdd_int _ s u k lo hi (-hi') (-lo') (hs.below (bthen (bl3 _ _ _ _).drew hb1)) hup (by omega)).mono ?_; rintro r w2 ⟨v, rfl, hvb, hvp, hb2⟩; have HVB := hide hvb; clear hvb; obtain ⟨hsz2, hcell2, hfz2⟩ := near (w.heap.size + 1 + 1 + 1) hsz1 hb2))
  go_wp2
  have q0 : w2.cell? ⟨w.heap.size + 1 + 1, 0, none⟩ = some (.bool false) := by simp [hcell2, hcell1, go_sem]
  have q1 : w2.cell? ⟨w.heap.size + 1 + 1, 1, none⟩ = some (.slice none 0 0) := by simp [hcell2, hcell1, go_sem]
  have q2 : w2.cell? ⟨w.heap.size + 1 + 1, 2, none⟩ = some (.bool false) := by simp [hcell2, hcell1, go_sem]
  have q3 : w2.cell? ⟨w.heap.size + 1 + 1, 3, none⟩ = some (.slice none 0 0) := by simp [hcell2, hcell1, go_sem]
  have q4 : w2.cell? ⟨w.heap.size + 1 + 1, 4, none⟩ = some (.int .i64 0) := by simp [hcell2, hcell1, go_sem]
  refine bodyPost_ret (v := .agg #[.bool v.ln, .slice v.la v.lN v.lc, .bool v.hn, .slice v.ha v.hN v.hc, .int .i64 v.bits]) (by simp [results, Try.results79, go_sem, q0, q1, q2, q3, q4]) rfl ⟨v, rfl, unhide HVB, ?_, ?_⟩
  · rw [Int.sub_eq_add_neg, Int.sub_eq_add_neg]
    exact SpAt.put5 hvp q0 q1 q2 q3 q4 _ _ _ _ _
  · exact set5 (bthen (bthen (bl3 _ _ _ _).drew hb1) hb2) le2 _ _ _ _ _
set_option maxRecDepth 100000 in
set_option maxHeartbeats 2000000 in
theorem same_true (w : World) (s t : Sp) (k : Nat) (lo hi : Int) (hs : SpAt w s k lo hi) (ht : SpAt w t k lo hi) (hb : s.bits = t.bits) :
    Calls Try.prog 40 #[.agg #[.bool s.ln, .slice s.la s.lN s.lc, .bool s.hn, .slice s.ha s.hN s.hc, .int .i64 s.bits], .agg #[.bool t.ln, .slice t.la t.lN t.lc, .bool t.hn, .slice t.ha t.hN t.hc, .int .i64 t.bits]] w fun r w' => r = .returned (.bool true) ∧ Below w.heap.size w w' := by
  have hb1 : (s.bits == t.bits) = true := by simp [hb]
  clear hb
  go_enter Try.func40, Try.ntmps40
  go_wp2_with fail
  refine (cmp_int _ _ _ _ _ _ _ _ k k lo lo _ (hs.lo.below (bl2 _ _ _)) (ht.lo.below (bl2 _ _ _))).mono ?_
  rintro r w1 ⟨rfl, hb1'⟩
  obtain ⟨hsz1, hcell1, hfz1⟩ := near (w.heap.size + 1 + 1) (by simp) hb1'
  have hB1 : Below w.heap.size w w1 := bthen (bl2 _ _ _) hb1'
  rw [cmpInt_self]
  go_wp2_with fail
  refine (cmp_int _ _ _ _ _ _ _ _ k k hi hi _ (hs.hi.below hB1) (ht.hi.below hB1)).mono ?_
  rintro r w2 ⟨rfl, hb2⟩
  obtain ⟨hsz2, hcell2, hfz2⟩ := near (w.heap.size + 1 + 1) hsz1 hb2
  have hB2 : Below w.heap.size w w2 := bthen hB1 hb2
  rw [cmpInt_self]
  go_wp2_with fail
  refine (isRight_int _ _ _ _ k lo _ (hs.lo.below hB2)).mono ?_
  rintro r w3 ⟨rfl, hb3⟩
  obtain ⟨hsz3, hcell3, hfz3⟩ := near (w.heap.size + 1 + 1) hsz2 hb3
  have hB3 : Below w.heap.size w w3 := bthen hB2 hb3
  go_wp2_with fail
  refine (isRight_int _ _ _ _ k hi _ (hs.hi.below hB3)).mono ?_
  rintro r w4 ⟨rfl, hb4⟩
  go_wp2_with fail
  go_ret
  exact ⟨rfl, bthen hB3 hb4⟩
end Go.Proofs.Ytgmnknmjainabab
