/-
  What span.Of answers of whatever ratio, and that it leaves old memory alone.
-/
import Derived.Test.YtibbhnmbmgllcaaRat
namespace Go.Proofs.Ytibbhnmbmgllcaa
set_option linter.unusedVariables false
set_option linter.unusedSimpArgs false
set_option linter.unnecessarySimpa false
open Go.RowKit
attribute [local go_sem ↓] Go.wp_at_zero Go.wp_at_succ

/-- A span and an errno. -/
def PairAns (w : World) (b : Int) (k : Nat) (lo hi er : Int) (r : Ending) (w' : World) : Prop :=
  ∃ s : Sp, r = .returned (.tuple #[.agg #[.bool s.ln, .slice s.la s.lN s.lc, .bool s.hn, .slice s.ha s.hN s.hc, .int .i64 s.bits], .int .i64 er]) ∧ s.bits = b ∧ SpAt w' s k lo hi ∧ Below w.heap.size w w'

theorem zeroInt (w : World) (k : Nat) : IntAt w false none 0 0 k 0 :=
  ⟨fun _ => 0, ⟨fun h => by omega, fun _ => ⟨by simp, by simp⟩, Nat.le_refl _, by omega⟩, Or.inl rfl, fun _ => rfl, by omega, by simp [sgn, V]⟩
theorem zeroSp (w : World) (k : Nat) : SpAt w ⟨false, none, 0, 0, false, none, 0, 0, 0⟩ k 0 0 := ⟨zeroInt w k, zeroInt w k⟩

theorem rats1 (w : World) (p q : Int) (T : TypeId) : Rats (w.alloc (.cells #[.int .i64 p, .int .i64 q] T)) w.heap.size 1 (fun _ => p) (fun _ => q) := by
  refine ⟨by simp, ?_, ?_⟩
  all_goals
    intro j hj
    match j, hj with
    | 0, _ => simp

theorem ratioFault1 (bt : Int) (w : World) (B : Nat) (hB : w.heap.size = B) (p q : Int) (T : TypeId) (cap : Nat) :
    Calls Try.prog 70 #[.int .i64 bt, .slice (some ⟨B, 0, none⟩) 1 cap] (w.alloc (.cells #[.int .i64 p, .int .i64 q] T)) fun r w' =>
      r = .returned (.int .i64 (ratE p q bt)) ∧ Below w.heap.size w w' := by
  subst hB
  exact (ratioFault_any bt w.heap.size 1 cap (fun _ => p) (fun _ => q) _ (rats1 w p q T) (by omega)).mono fun r w' ⟨z, h1, h2, h3⟩ => by
    refine ⟨?_, (bl1 _ _).trans (h3.mono (by simp))⟩
    rw [h1]; unfold ratE
    rcases h2 with ⟨rfl, h4, h5⟩ | ⟨rfl, h4⟩
    · rw [if_pos ⟨h5 0 (by omega), h4⟩]
    · rw [if_neg (fun ⟨h5, h6⟩ => h4 ⟨h6, fun _ _ => h5⟩)]

set_option maxRecDepth 100000 in
set_option maxHeartbeats 2000000 in
theorem spanOf_ok (p q : Int) (b : Nat) (w : World) (h1 : -1048576 ≤ p) (h2 : p ≤ 1048576) (h3 : 1 ≤ q) (h4 : q ≤ 1024) (h5 : 8 ≤ b) (h6 : b ≤ 120) :
    Calls Try.prog 15 #[.agg #[.int .i64 p, .int .i64 q], .int .i64 b] w (PairAns w b 100 (p * Q b / q) (-(-(p * Q b) / q)) 0) := by
  have d1 : ratE p q b = 0 := by unfold ratE; rw [if_pos]; exact ⟨⟨h1, h2, h3, h4⟩, by omega, by omega⟩
  go_enter Try.func15, Try.ntmps15
  go_wp2_with (go_at_call 70; refine (ratioFault1 _ _ _ (by simp) _ _ _ _).mono ?_; rintro r w1 ⟨rfl, hb1⟩; rw [d1]; obtain ⟨hsz1, hcell1, hfz1⟩ := near (w.heap.size + 1 + 1) (by simp) hb1)
  have k0 : w1.cell? ⟨w.heap.size, 0, none⟩ = some (.int .i64 p) := by simp [hcell1, go_sem]
  have k1 : w1.cell? ⟨w.heap.size, 1, none⟩ = some (.int .i64 q) := by simp [hcell1, go_sem]
  have r0 : w1.cell? ⟨w.heap.size + 1, 0, none⟩ = some (.bool false) := by simp [hcell1, go_sem]
  have r1 : w1.cell? ⟨w.heap.size + 1, 1, none⟩ = some (.slice none 0 0) := by simp [hcell1, go_sem]
  have r2 : w1.cell? ⟨w.heap.size + 1, 2, none⟩ = some (.bool false) := by simp [hcell1, go_sem]
  have r3 : w1.cell? ⟨w.heap.size + 1, 3, none⟩ = some (.slice none 0 0) := by simp [hcell1, go_sem]
  have r4 : w1.cell? ⟨w.heap.size + 1, 4, none⟩ = some (.int .i64 0) := by simp [hcell1, go_sem]
  have r5 : ∀ o, w1.frozen? ⟨w.heap.size + 1, o, none⟩ = false := by intro o; simp [hfz1, go_sem]
  have hBw : Below w.heap.size w w1 := bthen (bl2 _ _ _) hb1
  have hl0 : w.heap.size < w1.heap.size := by omega
  have hl1 : w.heap.size + 1 < w1.heap.size := by omega
  have HK := hide (show ∀ w', Below w1.heap.size w1 w' → (w'.cell? ⟨w.heap.size, 0, none⟩ = some (.int .i64 p) ∧ w'.cell? ⟨w.heap.size, 1, none⟩ = some (.int .i64 q)) from fun w' hB => ⟨(hB.cell (p := ⟨w.heap.size, 0, none⟩) hl0).trans k0, (hB.cell (p := ⟨w.heap.size, 1, none⟩) hl0).trans k1⟩)
  have HR := hide (show ∀ w', Below w1.heap.size w1 w' → (w'.cell? ⟨w.heap.size + 1, 0, none⟩ = some (.bool false) ∧ w'.cell? ⟨w.heap.size + 1, 1, none⟩ = some (.slice none 0 0) ∧ w'.cell? ⟨w.heap.size + 1, 2, none⟩ = some (.bool false) ∧ w'.cell? ⟨w.heap.size + 1, 3, none⟩ = some (.slice none 0 0) ∧ w'.cell? ⟨w.heap.size + 1, 4, none⟩ = some (.int .i64 0) ∧ ∀ o, w'.frozen? ⟨w.heap.size + 1, o, none⟩ = false) from fun w' hB =>
    ⟨(hB.cell (p := ⟨w.heap.size + 1, 0, none⟩) hl1).trans r0, (hB.cell (p := ⟨w.heap.size + 1, 1, none⟩) hl1).trans r1, (hB.cell (p := ⟨w.heap.size + 1, 2, none⟩) hl1).trans r2, (hB.cell (p := ⟨w.heap.size + 1, 3, none⟩) hl1).trans r3, (hB.cell (p := ⟨w.heap.size + 1, 4, none⟩) hl1).trans r4, fun o => (hB.frozen (p := ⟨w.heap.size + 1, o, none⟩) hl1).trans (r5 o)⟩)
  clear r0 r1 r2 r3 r4 r5 hcell1 hfz1 hb1
  go_region_held3 (fun w' => w'.cell? ⟨w.heap.size, 0, none⟩ = some (.int .i64 p) ∧ w'.cell? ⟨w.heap.size, 1, none⟩ = some (.int .i64 q)) (first | exact unhide HK _ (by first | exact (Below.refl _ _).drew | exact hB2 | exact hB3 | exact hB4) | go_keep)
    (first
      | (go_at_call 62; have hq := hb2; refine (numOf_int q _ (by omega) (by omega)).mono ?_; rintro r w3 ⟨neg3, a3, n3, c3, rfl, hint3, hb3⟩; have hB3 := bthen hB2 hb3)
      | (go_at_call 62; refine (numOf_int p _ (by omega) (by omega)).mono ?_; rintro r w2 ⟨neg2, a2, n2, c2, rfl, hint2, hb2⟩; have hB2 : Below w1.heap.size w1 w2 := bthen (Below.refl _ _).drew hb2)
      | (go_at_call 71; refine (wideOf_small _ _ _ _ _ _ _ _ 4 4 b p q _ (hint2.below hb3) hint3 (by omega) (by omega) (by omega) (by omega)).mono ?_; rintro r w4 ⟨s, rfl, hsb, hsp, hb4⟩; have HSB := hide hsb; clear hsb; have hB4 := bthen hB3 hb4; obtain ⟨q0, q1, q2, q3, q4, q5⟩ := unhide HR w4 hB4; obtain ⟨q6, q7⟩ := unhide HK w4 hB4))
  go_wp2
  refine bodyPost_ret (v := .tuple #[.agg #[.bool s.ln, .slice s.la s.lN s.lc, .bool s.hn, .slice s.ha s.hN s.hc, .int .i64 s.bits], .int .i64 0]) (by simp [results, Try.results15, go_sem, q0, q1, q2, q3, q4]) rfl ⟨s, rfl, unhide HSB, ?_, ?_⟩
  · exact SpAt.put5 ⟨hsp.lo.mono (by omega), hsp.hi.mono (by omega)⟩ q0 q1 q2 q3 q4 _ _ _ _ _
  · exact set5 (hBw.trans (hB4.mono hBw.size)) (Nat.le_succ _) _ _ _ _ _

set_option maxRecDepth 100000 in
set_option maxHeartbeats 2000000 in
theorem spanOf_bad (p q b : Int) (w : World) (h : ¬ ((-1048576 ≤ p ∧ p ≤ 1048576 ∧ 1 ≤ q ∧ q ≤ 1024) ∧ (8 ≤ b ∧ b ≤ 120))) :
    Calls Try.prog 15 #[.agg #[.int .i64 p, .int .i64 q], .int .i64 b] w (PairAns w 0 100 0 0 3) := by
  have d1 : ratE p q b = 3 := by unfold ratE; rw [if_neg]; exact h
  clear h
  go_enter Try.func15, Try.ntmps15
  go_wp2_with (go_at_call 70; refine (ratioFault1 _ _ _ (by simp) _ _ _ _).mono ?_; rintro r w1 ⟨rfl, hb1⟩; rw [d1]; obtain ⟨hsz1, hcell1, hfz1⟩ := near (w.heap.size + 1 + 1) (by simp) hb1)
  refine bodyPost_ret (v := .tuple #[.agg #[.bool false, .slice none 0 0, .bool false, .slice none 0 0, .int .i64 0], .int .i64 3]) (by simp [results, Try.results15, go_sem, hcell1]) rfl ⟨⟨false, none, 0, 0, false, none, 0, 0, 0⟩, rfl, rfl, zeroSp _ _, ?_⟩
  exact set5 (bthen (bl2 _ _ _) hb1) (Nat.le_succ _) _ _ _ _ _
end Go.Proofs.Ytibbhnmbmgllcaa
