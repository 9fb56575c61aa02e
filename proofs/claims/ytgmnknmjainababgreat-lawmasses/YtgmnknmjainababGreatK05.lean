/-
  What tailsureref.Down, Up, Ratio, RatioOf, RightRatio, RightBits and Turn answer, where the lower number is less than 2 to the power of 48, and that they leave old memory alone.
  What tailsureref.Ratio answers, and that it leaves old memory alone.
  What tailsureref.RatioOf, RightRatio, RightBits, Turn and wide.To answer, and that they leave old memory alone.
  What tailsureref.Turn answers, and that it leaves old memory alone.
  What num.times answers, and that it leaves old memory alone.
  The long way of num.over: what it leans on: num.Up's digits are the call's own, digits laid over others, append of two digits; no statement of the seat is proved here.
-/
import Derived.Laws.CopyOwn
import Derived.Test.YtgmnknmjainababGreatK04
namespace Go.Proofs.YtgmnknmjainababGreat
set_option linter.unusedVariables false
set_option linter.unusedSimpArgs false
set_option linter.unnecessarySimpa false
open Go.RowKit
attribute [local go_sem ↓] Go.wp_at_zero Go.wp_at_succ

/-- A number lies in a block. -/
structure NmC (w : World) (B : Nat) (x : Nm) : Prop where
  c0 : w.cell? ⟨B, 0, none⟩ = some (.bool x.neg)
  c1 : w.cell? ⟨B, 1, none⟩ = some (.slice x.a x.n x.cap)
theorem NmC.lt {w : World} {B : Nat} {x : Nm} (h : NmC w B x) : B < w.heap.size := World.block_lt_of_cell? w ⟨B, 0, none⟩ h.c0
theorem NmC.below {w w' : World} {B : Nat} {x : Nm} (h : NmC w B x) (hb : Below w.heap.size w w') : NmC w' B x :=
  ⟨(hb.cell (p := ⟨B, 0, none⟩) h.lt).trans h.c0, (hb.cell (p := ⟨B, 1, none⟩) h.lt).trans h.c1⟩
theorem nmc_new (w : World) (x : Nm) (T : TypeId) : NmC (w.alloc (.cells #[.bool x.neg, .slice x.a x.n x.cap] T)) w.heap.size x := ⟨by simp, by simp⟩
/-- The number 0 in a block that may be written. -/
structure NoI (w : World) (B : Nat) : Prop where
  c0 : w.cell? ⟨B, 0, none⟩ = some (.bool false)
  c1 : w.cell? ⟨B, 1, none⟩ = some (.slice none 0 0)
  fz : ∀ o, w.frozen? ⟨B, o, none⟩ = false
theorem NoI.lt {w : World} {B : Nat} (h : NoI w B) : B < w.heap.size := World.block_lt_of_cell? w ⟨B, 0, none⟩ h.c0
theorem NoI.below {w w' : World} {B : Nat} (h : NoI w B) (hb : Below w.heap.size w w') : NoI w' B :=
  ⟨(hb.cell (p := ⟨B, 0, none⟩) h.lt).trans h.c0, (hb.cell (p := ⟨B, 1, none⟩) h.lt).trans h.c1, fun o => (hb.frozen (p := ⟨B, o, none⟩) h.lt).trans (h.fz o)⟩
theorem set2 {B B' : Nat} {a w : World} (h : Below B a w) (hB : B ≤ B') (u0 u1 : Value) : Below B a ((w.setCell ⟨B', 0, none⟩ u0).setCell ⟨B', 1, none⟩ u1) :=
  (h.setCell (p := ⟨B', 0, none⟩) hB u0).setCell (p := ⟨B', 1, none⟩) hB u1

/-- A number, as a call answers it. -/
def IntAns (w : World) (k : Nat) (z : Int) (r : Ending) (w' : World) : Prop :=
  ∃ neg' a' n' cap', r = .returned (.agg #[.bool neg', .slice a' n' cap']) ∧ IntAt w' neg' a' n' cap' k z ∧ Below w.heap.size w w'
theorem IntAns.mono {w : World} {k k' : Nat} {z : Int} {r : Ending} {w' : World} (h : IntAns w k z r w') (hk : k ≤ k') : IntAns w k' z r w' := by
  obtain ⟨n1, n2, n3, n4, h1, h2, h3⟩ := h
  exact ⟨n1, n2, n3, n4, h1, h2.mono hk, h3⟩

set_option maxRecDepth 100000 in
set_option maxHeartbeats 2000000 in
theorem refDown_core (neg neg2 : Bool) (a c : Option Addr) (n m cap cap2 k k2 : Nat) (x y : Int) (w : World) (h1 : IntAt w neg a n cap k x) (h2 : IntAt w neg2 c m cap2 k2 y) (hk : k ≤ 700000000) (hk2 : k2 ≤ 100000000) (hfl : ∀ w', IntAt w' neg a n cap k x → IntAt w' neg2 c m cap2 k2 y → Calls Tryz.prog 119 #[.agg #[.bool neg, .slice a n cap], .agg #[.bool neg2, .slice c m cap2]] w' (FloorAns w' k (x / y))) :
    Calls Tryz.prog 108 #[.agg #[.bool neg, .slice a n cap], .agg #[.bool neg2, .slice c m cap2]] w (IntAns w (k + 8) (x / y)) := by
  have HF := hide hfl
  clear hfl
  have le2 : w.heap.size ≤ w.heap.size + 1 + 1 := by omega
  go_enter Tryz.func108, Tryz.ntmps108
  go_wp2_with fail
  refine (unhide HF _ (h1.below (bl3 _ _ _ _)) (h2.below (bl3 _ _ _ _))).mono ?_
  rintro r w1 ⟨neg1, a1, n1, c1, rfl, hint1, hb1⟩
  obtain ⟨hsz1, hcell1, hfz1⟩ := near (w.heap.size + 1 + 1 + 1) (by simp) hb1
  go_wp2_with fail
  have q0 : w1.cell? ⟨w.heap.size + 1 + 1, 0, none⟩ = some (.bool false) := by simp [hcell1, go_sem]
  have q1 : w1.cell? ⟨w.heap.size + 1 + 1, 1, none⟩ = some (.slice none 0 0) := by simp [hcell1, go_sem]
  refine bodyPost_ret (v := .agg #[.bool neg1, .slice a1 n1 c1]) (by simp [results, Tryz.results108, go_sem, q0, q1]) rfl ⟨neg1, a1, n1, c1, rfl, hint1.put2 q0 q1 _ _, ?_⟩
  exact set2 (bthen (bl3 _ _ _ _) hb1) le2 _ _

theorem ceil_up {x y : Int} (hy : 0 < y) (h : x / y * y < x) : x / y + 1 = -(-x / y) := by
  have h1 := Int.mul_ediv_add_emod x y
  have h2 := Int.mul_ediv_add_emod (-x) y
  have h3 := Int.emod_lt_of_pos x hy
  have h4 := Int.emod_nonneg (-x) (show y ≠ 0 by omega)
  have h5 := Int.emod_lt_of_pos (-x) hy
  rw [Int.mul_comm y] at h1 h2
  generalize x / y = p at *
  generalize -x / y = q at *
  generalize x % y = r at *
  generalize -x % y = t at *
  -- (p + q) * y = -(r + t), and r + t is from 1 to 2y - 1
  have h6 : (p + q) * y = p * y + q * y := Int.add_mul _ _ _
  have h7 : p + q < 0 := by
    rcases Int.lt_or_le (p + q) 0 with h | h
    · exact h
    · have := Int.mul_nonneg h (show 0 ≤ y by omega); omega
  have h8 : -2 < p + q := by
    rcases Int.lt_or_le (-2) (p + q) with h | h
    · exact h
    · have := Int.mul_le_mul_of_nonneg_right h (show 0 ≤ y by omega); omega
  omega
theorem ceil_same {x y : Int} (hy : 0 < y) (h : ¬ x / y * y < x) : x / y = -(-x / y) := by
  have h1 := Int.mul_ediv_add_emod x y
  have h3 := Int.emod_nonneg x (show y ≠ 0 by omega)
  rw [Int.mul_comm y] at h1
  have h4 : x = x / y * y := by omega
  have h5 : -x = -(x / y) * y := by rw [Int.neg_mul]; omega
  rw [h5, Int.mul_ediv_cancel _ (show y ≠ 0 by omega)]; omega

set_option maxRecDepth 100000 in
set_option maxHeartbeats 4000000 in
theorem refUp_core (neg neg2 : Bool) (a c : Option Addr) (n m cap cap2 k k2 : Nat) (x y : Int) (w : World) (h1 : IntAt w neg a n cap k x) (h2 : IntAt w neg2 c m cap2 k2 y) (hk : k ≤ 700000000) (hk2 : k2 ≤ 100000000) (hy : 0 < y) (hfl : ∀ w', IntAt w' neg a n cap k x → IntAt w' neg2 c m cap2 k2 y → Calls Tryz.prog 119 #[.agg #[.bool neg, .slice a n cap], .agg #[.bool neg2, .slice c m cap2]] w' (FloorAns w' k (x / y))) :
    Calls Tryz.prog 109 #[.agg #[.bool neg, .slice a n cap], .agg #[.bool neg2, .slice c m cap2]] w (IntAns w (k + 9) (-(-x / y))) := by
  have HF := hide hfl
  clear hfl
  by_cases hlt : x / y * y < x
  · have t1 : cmpInt (x / y * y) x < 0 := by simp [cmpInt, hlt]
    have HE := hide (ceil_up hy hlt)
    clear hlt
    go_enter Tryz.func109, Tryz.ntmps109
    go_wp2_with fail
    refine (unhide HF _ (h1.below (bl3 _ _ _ _)) (h2.below (bl3 _ _ _ _))).mono ?_
    rintro r w1 ⟨neg1, a1, n1, c1, rfl, hint1, hb1⟩
    have hBw : Below w.heap.size w w1 := bthen (bl3 _ _ _ _) hb1
    obtain ⟨hsz1, hcell1, hfz1⟩ := near (w.heap.size + 1 + 1 + 1) (by simp) hb1
    have A : NmC w1 w.heap.size ⟨neg, a, n, cap⟩ := ⟨by simp [hcell1, go_sem], by simp [hcell1, go_sem]⟩
    have G : NmC w1 (w.heap.size + 1) ⟨neg2, c, m, cap2⟩ := ⟨by simp [hcell1, go_sem], by simp [hcell1, go_sem]⟩
    have R : NoI w1 (w.heap.size + 1 + 1) := ⟨by simp [hcell1, go_sem], by simp [hcell1, go_sem], fun o => by simp [hfz1, go_sem]⟩
    have hnr := R.lt
    clear hcell1 hfz1 hb1 hsz1
    obtain ⟨W1, hW1⟩ : ∃ W', W' = w1.alloc (.cells #[.bool neg1, .slice a1 n1 c1] 26) := ⟨_, rfl⟩
    have hc1 : Below w1.heap.size w1 W1 := by rw [hW1]; exact bl1 _ _
    have X : NmC W1 w1.heap.size ⟨neg1, a1, n1, c1⟩ := by rw [hW1]; exact nmc_new w1 ⟨neg1, a1, n1, c1⟩ _
    replace A := A.below hc1
    replace G := G.below hc1
    replace R := R.below hc1
    have hB2 := bthen hBw hc1
    have HX := hide (h1.below hB2)
    have HY := hide (h2.below hB2)
    replace hint1 := hide (hint1.below hc1)
    have lR := R.lt
    have lX := X.lt
    have nR : w1.heap.size ≠ w.heap.size + 1 + 1 := Nat.ne_of_gt hnr
    have nR' : w.heap.size + 1 + 1 ≠ w1.heap.size := fun e => nR e.symm
    have hB0 : Below W1.heap.size W1 W1.drew := (Below.refl _ _).drew
    have HK := hide (show ∀ w', Below W1.heap.size W1 w' → (w'.cell? ⟨w.heap.size, 0, none⟩ = some (.bool neg) ∧ w'.cell? ⟨w.heap.size, 1, none⟩ = some (.slice a n cap) ∧ w'.cell? ⟨w.heap.size + 1, 0, none⟩ = some (.bool neg2) ∧ w'.cell? ⟨w.heap.size + 1, 1, none⟩ = some (.slice c m cap2) ∧ w'.cell? ⟨w1.heap.size, 0, none⟩ = some (.bool neg1) ∧ w'.cell? ⟨w1.heap.size, 1, none⟩ = some (.slice a1 n1 c1)) from fun w' hB =>
      ⟨(A.below hB).c0, (A.below hB).c1, (G.below hB).c0, (G.below hB).c1, (X.below hB).c0, (X.below hB).c1⟩)
    go_wp2
    rw [← hW1]
    clear hW1
    obtain ⟨j0, j1, j2, j3, j4, j5⟩ := unhide HK _ (Below.refl _ _)
    go_region_held3 (fun w' => w'.cell? ⟨w.heap.size, 0, none⟩ = some (.bool neg) ∧ w'.cell? ⟨w.heap.size, 1, none⟩ = some (.slice a n cap) ∧ w'.cell? ⟨w.heap.size + 1, 0, none⟩ = some (.bool neg2) ∧ w'.cell? ⟨w.heap.size + 1, 1, none⟩ = some (.slice c m cap2) ∧ w'.cell? ⟨w1.heap.size, 0, none⟩ = some (.bool neg1) ∧ w'.cell? ⟨w1.heap.size, 1, none⟩ = some (.slice a1 n1 c1)) (exact unhide HK _ (by first | with_reducible exact hB0 | with_reducible exact hB5 | with_reducible exact hB4))
      (first
        | (go_at_call 66; refine (mul_int _ _ _ _ _ _ _ _ (k + 8) k2 (x / y) y _ ((unhide hint1).below hB0) ((unhide HY).below hB0) (by omega) (by omega)).mono ?_; rintro r w4 ⟨neg4, a4, n4, c4, rfl, hint4, hb4⟩; have hB4 := bthen hB0 hb4)
        | (go_at_call 46; refine (cmp_int _ _ _ _ _ _ _ _ (k + 8 + k2) k (x / y * y) x _ hint4 ((unhide HX).below hB4)).mono ?_; rintro r w5 ⟨rfl, hb5⟩; have hB5 := bthen hB4 hb5))
    clear j0 j1 j2 j3 j4 j5
    have X5 := X.below hB5
    have R5 := R.below hB5
    have lR5 := R5.lt
    have lX5 := X5.lt
    obtain ⟨j4, j5⟩ := X5
    obtain ⟨q0, q1, q2⟩ := R5
    have hD0 : Below w5.heap.size w5 w5.drew := (Below.refl _ _).drew
    have X5 : NmC w5 w1.heap.size ⟨neg1, a1, n1, c1⟩ := ⟨j4, j5⟩
    have R5 : NoI w5 (w.heap.size + 1 + 1) := ⟨q0, q1, q2⟩
    have HK5 := hide (show ∀ w', Below w5.heap.size w5 w' → (w'.cell? ⟨w1.heap.size, 0, none⟩ = some (.bool neg1) ∧ w'.cell? ⟨w1.heap.size, 1, none⟩ = some (.slice a1 n1 c1)) from fun w' hB => ⟨(X5.below hB).c0, (X5.below hB).c1⟩)
    go_wp2
    go_region_held3 (fun w' => w'.cell? ⟨w1.heap.size, 0, none⟩ = some (.bool neg1) ∧ w'.cell? ⟨w1.heap.size, 1, none⟩ = some (.slice a1 n1 c1)) (first | exact unhide HK5 _ (by first | with_reducible exact hD0 | with_reducible exact hD7 | with_reducible exact hD6) | go_keep)
      (first
        | (go_at_call 43; refine (numOf_int 1 _ (by decide) (by decide)).mono ?_; rintro r w6 ⟨neg6, a6, n6, c6, rfl, hint6, hb6⟩; have hD6 := bthen hD0 hb6)
        | (go_at_call 65; refine (add_int _ _ _ _ _ _ _ _ (k + 8) 4 (x / y) 1 _ (((unhide hint1).below hB5).below hD6) hint6 (by omega) (by omega)).mono ?_; rintro r w7 ⟨neg7, a7, n7, c7, rfl, hint7, hb7⟩; have hD7 := bthen hD6 hb7; obtain ⟨p0, p1, p2⟩ := R5.below hD7; obtain ⟨i0, i1⟩ := unhide HK5 _ hD7))
    go_wp2
    refine bodyPost_ret (v := .agg #[.bool neg7, .slice a7 n7 c7]) (by simp [results, Tryz.results109, go_sem, p0, p1]) rfl ⟨neg7, a7, n7, c7, rfl, ?_, ?_⟩
    · rw [unhide HE] at hint7
      exact (hint7.put2 p0 p1 _ _).mono (by omega)
    · exact set2 (bthen (bthen hB2 hB5) hD7) (by omega) _ _
  · have t1 : ¬ cmpInt (x / y * y) x < 0 := cmpInt_ge0 hlt
    have HE := hide (ceil_same hy hlt)
    clear hlt
    go_enter Tryz.func109, Tryz.ntmps109
    go_wp2_with fail
    refine (unhide HF _ (h1.below (bl3 _ _ _ _)) (h2.below (bl3 _ _ _ _))).mono ?_
    rintro r w1 ⟨neg1, a1, n1, c1, rfl, hint1, hb1⟩
    have hBw : Below w.heap.size w w1 := bthen (bl3 _ _ _ _) hb1
    obtain ⟨hsz1, hcell1, hfz1⟩ := near (w.heap.size + 1 + 1 + 1) (by simp) hb1
    have A : NmC w1 w.heap.size ⟨neg, a, n, cap⟩ := ⟨by simp [hcell1, go_sem], by simp [hcell1, go_sem]⟩
    have G : NmC w1 (w.heap.size + 1) ⟨neg2, c, m, cap2⟩ := ⟨by simp [hcell1, go_sem], by simp [hcell1, go_sem]⟩
    have R : NoI w1 (w.heap.size + 1 + 1) := ⟨by simp [hcell1, go_sem], by simp [hcell1, go_sem], fun o => by simp [hfz1, go_sem]⟩
    have hnr := R.lt
    clear hcell1 hfz1 hb1 hsz1
    obtain ⟨W1, hW1⟩ : ∃ W', W' = w1.alloc (.cells #[.bool neg1, .slice a1 n1 c1] 26) := ⟨_, rfl⟩
    have hc1 : Below w1.heap.size w1 W1 := by rw [hW1]; exact bl1 _ _
    have X : NmC W1 w1.heap.size ⟨neg1, a1, n1, c1⟩ := by rw [hW1]; exact nmc_new w1 ⟨neg1, a1, n1, c1⟩ _
    replace A := A.below hc1
    replace G := G.below hc1
    replace R := R.below hc1
    have hB2 := bthen hBw hc1
    have HX := hide (h1.below hB2)
    have HY := hide (h2.below hB2)
    replace hint1 := hide (hint1.below hc1)
    have lR := R.lt
    have lX := X.lt
    have nR : w1.heap.size ≠ w.heap.size + 1 + 1 := Nat.ne_of_gt hnr
    have nR' : w.heap.size + 1 + 1 ≠ w1.heap.size := fun e => nR e.symm
    have hB0 : Below W1.heap.size W1 W1.drew := (Below.refl _ _).drew
    have HK := hide (show ∀ w', Below W1.heap.size W1 w' → (w'.cell? ⟨w.heap.size, 0, none⟩ = some (.bool neg) ∧ w'.cell? ⟨w.heap.size, 1, none⟩ = some (.slice a n cap) ∧ w'.cell? ⟨w.heap.size + 1, 0, none⟩ = some (.bool neg2) ∧ w'.cell? ⟨w.heap.size + 1, 1, none⟩ = some (.slice c m cap2) ∧ w'.cell? ⟨w1.heap.size, 0, none⟩ = some (.bool neg1) ∧ w'.cell? ⟨w1.heap.size, 1, none⟩ = some (.slice a1 n1 c1)) from fun w' hB =>
      ⟨(A.below hB).c0, (A.below hB).c1, (G.below hB).c0, (G.below hB).c1, (X.below hB).c0, (X.below hB).c1⟩)
    go_wp2
    rw [← hW1]
    clear hW1
    obtain ⟨j0, j1, j2, j3, j4, j5⟩ := unhide HK _ (Below.refl _ _)
    go_region_held3 (fun w' => w'.cell? ⟨w.heap.size, 0, none⟩ = some (.bool neg) ∧ w'.cell? ⟨w.heap.size, 1, none⟩ = some (.slice a n cap) ∧ w'.cell? ⟨w.heap.size + 1, 0, none⟩ = some (.bool neg2) ∧ w'.cell? ⟨w.heap.size + 1, 1, none⟩ = some (.slice c m cap2) ∧ w'.cell? ⟨w1.heap.size, 0, none⟩ = some (.bool neg1) ∧ w'.cell? ⟨w1.heap.size, 1, none⟩ = some (.slice a1 n1 c1)) (exact unhide HK _ (by first | with_reducible exact hB0 | with_reducible exact hB5 | with_reducible exact hB4))
      (first
        | (go_at_call 66; refine (mul_int _ _ _ _ _ _ _ _ (k + 8) k2 (x / y) y _ ((unhide hint1).below hB0) ((unhide HY).below hB0) (by omega) (by omega)).mono ?_; rintro r w4 ⟨neg4, a4, n4, c4, rfl, hint4, hb4⟩; have hB4 := bthen hB0 hb4)
        | (go_at_call 46; refine (cmp_int _ _ _ _ _ _ _ _ (k + 8 + k2) k (x / y * y) x _ hint4 ((unhide HX).below hB4)).mono ?_; rintro r w5 ⟨rfl, hb5⟩; have hB5 := bthen hB4 hb5))
    clear j0 j1 j2 j3 j4 j5
    have X5 := X.below hB5
    have R5 := R.below hB5
    have lR5 := R5.lt
    have lX5 := X5.lt
    obtain ⟨j4, j5⟩ := X5
    obtain ⟨q0, q1, q2⟩ := R5
    go_wp2
    refine bodyPost_ret (v := .agg #[.bool neg1, .slice a1 n1 c1]) (by simp [results, Tryz.results109, go_sem, q0, q1]) rfl ⟨neg1, a1, n1, c1, rfl, ?_, ?_⟩
    · replace hint1 := (unhide hint1).below hB5
      rw [unhide HE] at hint1
      exact (hint1.put2 q0 q1 _ _).mono (by omega)
    · exact set2 (bthen hB2 hB5) (by omega) _ _
end Go.Proofs.YtgmnknmjainababGreat

namespace Go.Proofs.YtgmnknmjainababGreat
set_option linter.unusedVariables false
set_option linter.unusedSimpArgs false
set_option linter.unnecessarySimpa false
open Go.RowKit
attribute [local go_sem ↓] Go.wp_at_zero Go.wp_at_succ

theorem noi_new (w : World) (T : TypeId) : NoI (w.alloc (.cells #[.bool false, .slice none 0 0] T)) w.heap.size := ⟨by simp, by simp, fun o => by simp [go_sem]⟩

set_option maxRecDepth 100000 in
set_option maxHeartbeats 4000000 in
theorem refRatio_core (neg neg2 : Bool) (a c : Option Addr) (n m cap cap2 k k2 b : Nat) (x y : Int) (w : World) (h1 : IntAt w neg a n cap k x) (h2 : IntAt w neg2 c m cap2 k2 y) (hk : k ≤ 600000000) (hk2 : k2 ≤ 100000000) (hb : b ≤ 100000) (hy : 0 < y)
    (hfl : ∀ neg' a' n' cap' w', IntAt w' neg' a' n' cap' (k + b / 16 + 5) (x * Q b) → IntAt w' neg2 c m cap2 k2 y → Calls Tryz.prog 119 #[.agg #[.bool neg', .slice a' n' cap'], .agg #[.bool neg2, .slice c m cap2]] w' (FloorAns w' (k + b / 16 + 5) (x * Q b / y))) :
    Calls Tryz.prog 54 #[.agg #[.bool neg, .slice a n cap], .agg #[.bool neg2, .slice c m cap2], .int .i64 b] w (SpanAns w b (k + b / 16 + 14) (x * Q b / y) (-(-(x * Q b) / y))) := by
  have HF := hide hfl
  clear hfl
  obtain ⟨W, hW⟩ : ∃ W, W = ((w.alloc (.cells #[.bool neg, .slice a n cap] 26)).alloc (.cells #[.bool neg2, .slice c m cap2] 26)).alloc (.cells #[.bool false, .slice none 0 0, .bool false, .slice none 0 0, .int .i64 0] 36) := ⟨_, rfl⟩
  have hBW : Below w.heap.size w W := by rw [hW]; exact bl3 _ _ _ _
  have A : NmC W w.heap.size ⟨neg, a, n, cap⟩ := by rw [hW]; exact ⟨by simp [go_sem], by simp [go_sem]⟩
  have G : NmC W (w.heap.size + 1) ⟨neg2, c, m, cap2⟩ := by rw [hW]; exact ⟨by simp [go_sem], by simp [go_sem]⟩
  have R : NoC W (w.heap.size + 1 + 1) := by rw [hW]; exact ⟨by simp [go_sem], by simp [go_sem], by simp [go_sem], by simp [go_sem], by simp [go_sem], fun o => by simp [go_sem]⟩
  have HX := hide (h1.below hBW)
  have HY := hide (h2.below hBW)
  have HK := hide (show ∀ w', Below W.heap.size W w' → (w'.cell? ⟨w.heap.size, 0, none⟩ = some (.bool neg) ∧ w'.cell? ⟨w.heap.size, 1, none⟩ = some (.slice a n cap)) from fun w' hB => ⟨(A.below hB).c0, (A.below hB).c1⟩)
  go_enter Tryz.func54, Tryz.ntmps54
  go_wp2
  rw [← hW]
  clear hW
  obtain ⟨i0, i1⟩ := A
  have lW := G.lt
  have lR := R.lt
  go_cut [7] (fun p wx => VarAt wx p W.heap.size (k + b / 16 + 5) (x * Q b) ∧ Below W.heap.size W wx)
  case first =>
    go_region_held3 (fun w' => w'.cell? ⟨w.heap.size, 0, none⟩ = some (.bool neg) ∧ w'.cell? ⟨w.heap.size, 1, none⟩ = some (.slice a n cap)) (exact unhide HK _ (by repeat' (first | with_reducible exact hBX2 | with_reducible exact hBX1 | with_reducible exact Below.refl _ _ | with_reducible refine Below.drew ?_ | with_reducible refine balloc ?_ _ | with_reducible refine Below.setCell ?_ (by first | exact Nat.le_refl _ | exact hlX1 | exact hlX2) _)))
      (first
        | (go_at_call 66; have hq := hBX1; refine (mul_int _ _ _ _ _ _ _ _ k (b / 16 + 5) x (Q b) _ ((unhide HX).below (by first | with_reducible exact hBX1 | with_reducible exact balloc hBX1 _)) (hintX1.below (by first | with_reducible exact Below.refl _ _ | with_reducible exact bl1 _ _)) (by omega) (by omega)).mono ?_; rintro r wX2 ⟨negX2, aX2, nX2, cX2, rfl, hintX2, hbX2⟩; have hCX2 : Below wX1.heap.size wX1 wX2 := (by first | with_reducible exact hbX2 | with_reducible exact bthen (bl1 _ _) hbX2); have hBX2 := bthen hBX1 hCX2; (try with_reducible have gX2 := (noi_new wX1 26).below hbX2); replace hintX1 := hintX1.below hCX2; (try replace gX1 := gX1.below hCX2); have hlX2 := hBX2.size; (try have mX1 := gX1.lt); (try have eX1 := Nat.ne_of_lt mX1); (try have eX1' := Nat.ne_of_gt mX1); (try obtain ⟨zX10, zX11, zX12⟩ := gX1); (try have mX2 := gX2.lt); (try have eX2 := Nat.ne_of_lt mX2); (try have eX2' := Nat.ne_of_gt mX2); (try obtain ⟨zX20, zX21, zX22⟩ := gX2))
        | (go_at_call 104; refine (power2_int b _ (by omega)).mono ?_; rintro r wX1 ⟨negX1, aX1, nX1, cX1, rfl, hintX1, hbX1⟩; have hBX1 : Below W.heap.size W wX1 := (by first | with_reducible exact bthen (Below.refl _ _).drew hbX1 | with_reducible exact bthen (bl1 _ _).drew hbX1); (try with_reducible have gX1 := ((noi_new W 26).below (Below.refl _ _).drew).below hbX1); have hlX1 := hBX1.size))
    all_goals
      go_wp2_with fail
      go_meet
      refine ⟨⟨_, ⟨negX2, aX2, nX2, cX2⟩, rfl, ?_, ?_, ?_, ?_, ?_⟩, ?_⟩
      · simp [go_sem, *]
      · simp [go_sem, *]
      · first | with_reducible exact IntAt.mono (hintX2.below (bl1 _ _)) (by omega) | with_reducible exact IntAt.mono (hintX2.put2 (by assumption) (by assumption) _ _) (by omega)
      · first | exact Nat.le_refl _ | exact hlX1 | exact hlX2
      · simp [World.setCell]; try omega
      · repeat' (first | with_reducible exact hBX2 | with_reducible exact hBX1 | with_reducible exact Below.refl _ _ | with_reducible refine Below.drew ?_ | with_reducible refine balloc ?_ _ | with_reducible refine Below.setCell ?_ (by first | exact Nat.le_refl _ | exact hlX1 | exact hlX2) _)
  case rest =>
  obtain ⟨⟨BX, xX, rfl, jX0, jX1, hintX, hHX, hltX⟩, hblX⟩ := hcut
  have XX : NmC wc BX xX := ⟨jX0, jX1⟩
  clear i0 i1 HK
  replace G := G.below hblX
  replace R := R.below hblX
  replace HY := hide ((unhide HY).below hblX)
  replace hintX := hide hintX
  have lR2 := R.lt
  have lX2 := XX.lt
  have nR : BX ≠ w.heap.size + 1 + 1 := Nat.ne_of_gt (Nat.lt_of_lt_of_le lR hHX)
  have nR' : w.heap.size + 1 + 1 ≠ BX := fun e => nR e.symm
  have hBW2 := bthen hBW hblX
  have hD0 : Below wc.heap.size wc wc.drew := (Below.refl _ _).drew
  have HK := hide (show ∀ w', Below wc.heap.size wc w' → (w'.cell? ⟨BX, 0, none⟩ = some (.bool xX.neg) ∧ w'.cell? ⟨BX, 1, none⟩ = some (.slice xX.a xX.n xX.cap) ∧ w'.cell? ⟨w.heap.size + 1, 0, none⟩ = some (.bool neg2) ∧ w'.cell? ⟨w.heap.size + 1, 1, none⟩ = some (.slice c m cap2)) from fun w' hB => ⟨(XX.below hB).c0, (XX.below hB).c1, (G.below hB).c0, (G.below hB).c1⟩)
  obtain ⟨i2, i3⟩ := G
  go_wp2
  go_region_held3 (fun w' => w'.cell? ⟨BX, 0, none⟩ = some (.bool xX.neg) ∧ w'.cell? ⟨BX, 1, none⟩ = some (.slice xX.a xX.n xX.cap) ∧ w'.cell? ⟨w.heap.size + 1, 0, none⟩ = some (.bool neg2) ∧ w'.cell? ⟨w.heap.size + 1, 1, none⟩ = some (.slice c m cap2)) (first | exact unhide HK _ (by first | with_reducible exact hD0 | with_reducible exact hD2 | with_reducible exact hD1) | go_keep)
    (first
      | (go_at_call 108; refine (refDown_core _ _ _ _ _ _ _ _ (k + b / 16 + 5) k2 (x * Q b) y _ ((unhide hintX).below hD0) ((unhide HY).below hD0) (by omega) (by omega) (fun w' p q => unhide HF _ _ _ _ w' p q)).mono ?_; rintro r w1 ⟨neg1, a1, n1, c1, rfl, hint1, hb1⟩; have hD1 := bthen hD0 hb1)
      | (go_at_call 109; refine (refUp_core _ _ _ _ _ _ _ _ (k + b / 16 + 5) k2 (x * Q b) y _ ((unhide hintX).below hD1) ((unhide HY).below hD1) (by omega) (by omega) hy (fun w' p q => unhide HF _ _ _ _ w' p q)).mono ?_; rintro r w2 ⟨neg3, a3, n3, c3, rfl, hint3, hb2⟩; replace hint1 := hint1.below hb2; have hD2 := bthen hD1 hb2; obtain ⟨q0, q1, q2, q3, q4, q5⟩ := R.below hD2; obtain ⟨d0, d1, d2, d3⟩ := unhide HK _ hD2))
  go_wp2
  refine bodyPost_ret (v := .agg #[.bool neg1, .slice a1 n1 c1, .bool neg3, .slice a3 n3 c3, .int .i64 b]) (by simp [results, Tryz.results54, go_sem, q0, q1, q2, q3, q4]) rfl ⟨⟨neg1, a1, n1, c1, neg3, a3, n3, c3, b⟩, rfl, rfl, ?_, ?_⟩
  · exact SpAt.put5 ⟨hint1.mono (by omega), hint3.mono (by omega)⟩ q0 q1 q2 q3 q4 _ _ _ _ _
  · exact set5 (bthen hBW2 hD2) (by omega) _ _ _ _ _
end Go.Proofs.YtgmnknmjainababGreat

namespace Go.Proofs.YtgmnknmjainababGreat
set_option linter.unusedVariables false
set_option linter.unusedSimpArgs false
set_option linter.unnecessarySimpa false
open Go.RowKit
attribute [local go_sem ↓] Go.wp_at_zero Go.wp_at_succ

/-- Bits that one may ask for. -/
def bitOk (b : Int) : Bool := decide (8 ≤ b) && decide (b ≤ 120)

set_option maxRecDepth 100000 in
set_option maxHeartbeats 2000000 in
theorem refRightBits (b : Int) (w : World) :
    Calls Tryz.prog 37 #[.int .i64 b] w fun r w' => r = .returned (.bool (bitOk b)) ∧ w' = w := by
  go_enter Tryz.func37, Tryz.ntmps37
  go_wp2_with fail
  refine (between_any _ _ _ _).mono ?_
  rintro r w1 ⟨rfl, hw⟩
  subst hw
  go_wp2_with fail
  go_ret
  exact ⟨rfl, rfl⟩

set_option maxRecDepth 100000 in
set_option maxHeartbeats 2000000 in
theorem refRightRatio (p q : Int) (w : World) :
    Calls Tryz.prog 44 #[.agg #[.int .i64 p, .int .i64 q]] w fun r w' => r = .returned (.bool (decide (rok p q))) ∧ Below w.heap.size w w' := by
  by_cases h : -1048576 ≤ p ∧ p ≤ 1048576
  · have h1 : (decide (-1048576 ≤ p) && decide (p ≤ 1048576)) = true := by simp; omega
    have h2 : (decide (1 ≤ q) && decide (q ≤ 1024)) = decide (rok p q) := by
      rw [Bool.eq_iff_iff, Bool.and_eq_true, decide_eq_true_iff, decide_eq_true_iff, decide_eq_true_iff]
      exact ⟨fun ⟨a, b⟩ => ⟨h.1, h.2, a, b⟩, fun ⟨_, _, a, b⟩ => ⟨a, b⟩⟩
    have HE := hide h2
    clear h2
    go_enter Tryz.func44, Tryz.ntmps44
    go_wp2_with fail
    refine (between_any _ _ _ _).mono ?_
    rintro r w1 ⟨rfl, hw⟩
    subst hw
    rw [h1]
    go_wp2_with fail
    refine (between_any _ _ _ _).mono ?_
    rintro r w2 ⟨rfl, hw⟩
    subst hw
    rw [unhide HE]
    go_wp2_with fail
    go_ret
    exact ⟨rfl, bl1 _ _⟩
  · have h1 : (decide (-1048576 ≤ p) && decide (p ≤ 1048576)) = false := by
      rw [Bool.and_eq_false_iff]; simp; omega
    have h2 : decide (rok p q) = false := rok_no (by omega)
    have HE := hide h2
    clear h2 h
    go_enter Tryz.func44, Tryz.ntmps44
    go_wp2_with fail
    refine (between_any _ _ _ _).mono ?_
    rintro r w1 ⟨rfl, hw⟩
    subst hw
    rw [h1]
    go_wp2_with fail
    go_ret
    exact ⟨by rw [unhide HE]; rfl, bl1 _ _⟩

set_option maxRecDepth 100000 in
set_option maxHeartbeats 2000000 in
theorem refRatioOf_any (p q : Int) (b : Nat) (w : World) (h : rok p q) (hb : b ≤ 100000) :
    Calls Tryz.prog 14 #[.agg #[.int .i64 p, .int .i64 q], .int .i64 b] w (SpanAns w b (b / 16 + 18) (p * Q b / q) (-(-(p * Q b) / q))) := by
  obtain ⟨r1, r2, r3, r4⟩ := h
  obtain ⟨W, hW⟩ : ∃ W, W = (w.alloc (.cells #[.int .i64 p, .int .i64 q] 23)).alloc (.cells #[.bool false, .slice none 0 0, .bool false, .slice none 0 0, .int .i64 0] 36) := ⟨_, rfl⟩
  have hBW : Below w.heap.size w W := by rw [hW]; exact bl2 _ _ _
  have k0 : W.cell? ⟨w.heap.size, 0, none⟩ = some (.int .i64 p) := by rw [hW]; simp [go_sem]
  have k1 : W.cell? ⟨w.heap.size, 1, none⟩ = some (.int .i64 q) := by rw [hW]; simp [go_sem]
  have lw : w.heap.size < W.heap.size := by rw [hW]; simp; omega
  have R : NoC W (w.heap.size + 1) := by rw [hW]; exact ⟨by simp [go_sem], by simp [go_sem], by simp [go_sem], by simp [go_sem], by simp [go_sem], fun o => by simp [go_sem]⟩
  have lR := R.lt
  have hB0 : Below W.heap.size W W.drew := (Below.refl _ _).drew
  have HK := hide (show ∀ w', Below W.heap.size W w' → (w'.cell? ⟨w.heap.size, 0, none⟩ = some (.int .i64 p) ∧ w'.cell? ⟨w.heap.size, 1, none⟩ = some (.int .i64 q)) from fun w' hB => ⟨(hB.cell (p := ⟨w.heap.size, 0, none⟩) lw).trans k0, (hB.cell (p := ⟨w.heap.size, 1, none⟩) lw).trans k1⟩)
  go_enter Tryz.func14, Tryz.ntmps14
  go_wp2
  rw [← hW]
  clear hW
  go_region_held3 (fun w' => w'.cell? ⟨w.heap.size, 0, none⟩ = some (.int .i64 p) ∧ w'.cell? ⟨w.heap.size, 1, none⟩ = some (.int .i64 q)) (first | exact unhide HK _ (by first | with_reducible exact hB0 | with_reducible exact hB3 | with_reducible exact hB2 | with_reducible exact hB1) | go_keep)
    (first
      | (go_at_call 43; have hq := hB1; refine (numOf_int q _ (by omega) (by omega)).mono ?_; rintro r w2 ⟨neg2, a2, n2, c2, rfl, hint2, hb2⟩; replace hint1 := hint1.below hb2; have hB2 := bthen hB1 hb2)
      | (go_at_call 43; refine (numOf_int p _ (by omega) (by omega)).mono ?_; rintro r w1 ⟨neg1, a1, n1, c1, rfl, hint1, hb1⟩; have hB1 := bthen hB0 hb1)
      | (go_at_call 54; refine (refRatio_core _ _ _ _ _ _ _ _ 4 4 b p q _ hint1 hint2 (by omega) (by omega) hb (by omega) (fun neg' a' n' cap' w' p1 p2 => floor_small neg' _ a' _ n' _ cap' _ _ 4 (p * Q b) q w' p1 p2 (by omega) (by omega) (by omega))).mono ?_; rintro r w3 ⟨s, rfl, hsb, hsp, hb3⟩; have HSB := hide hsb; clear hsb; have hB3 := bthen hB2 hb3; obtain ⟨q0, q1, q2, q3, q4, q5⟩ := R.below hB3; obtain ⟨i0, i1⟩ := unhide HK _ hB3))
  go_wp2
  refine bodyPost_ret (v := .agg #[.bool s.ln, .slice s.la s.lN s.lc, .bool s.hn, .slice s.ha s.hN s.hc, .int .i64 s.bits]) (by simp [results, Tryz.results14, go_sem, q0, q1, q2, q3, q4]) rfl ⟨s, rfl, unhide HSB, ?_, ?_⟩
  · exact SpAt.put5 (hsp.mono (by omega)) q0 q1 q2 q3 q4 _ _ _ _ _
  · exact set5 (bthen hBW hB3) (Nat.le_succ _) _ _ _ _ _

set_option maxRecDepth 100000 in
set_option maxHeartbeats 2000000 in
theorem wideTo_int (w : World) (s : Sp) (k : Nat) (bt lo hi : Int) (hs : SpAt w s k lo hi) (hk : k ≤ 300000000) (hb0 : 0 ≤ s.bits) (hbm : s.bits ≤ 1000000) (hc0 : 0 ≤ bt) (hcm : bt ≤ 1000000) :
    Calls Tryz.prog 138 #[.agg #[.bool s.ln, .slice s.la s.lN s.lc, .bool s.hn, .slice s.ha s.hN s.hc, .int .i64 s.bits], .int .i64 bt] w (SpanAns w bt (k + 62505) (downZ lo (s.bits - bt)) (-(downZ (-hi) (s.bits - bt)))) := by
  obtain ⟨W, hW⟩ : ∃ W, W = (w.alloc (.cells #[.bool s.ln, .slice s.la s.lN s.lc, .bool s.hn, .slice s.ha s.hN s.hc, .int .i64 s.bits] 28)).alloc (.cells #[.bool false, .slice none 0 0, .bool false, .slice none 0 0, .int .i64 0] 28) := ⟨_, rfl⟩
  have hBW : Below w.heap.size w W := by rw [hW]; exact bl2 _ _ _
  have A : SpC W w.heap.size s := by rw [hW]; exact ⟨by simp [go_sem], by simp [go_sem], by simp [go_sem], by simp [go_sem], by simp [go_sem]⟩
  have R : NoC W (w.heap.size + 1) := by rw [hW]; exact ⟨by simp [go_sem], by simp [go_sem], by simp [go_sem], by simp [go_sem], by simp [go_sem], fun o => by simp [go_sem]⟩
  have HS := hide (hs.below hBW)
  have lA := A.lt
  have lR := R.lt
  have hB0 : Below W.heap.size W W.drew := (Below.refl _ _).drew
  have HK := hide (show ∀ w', Below W.heap.size W w' → (w'.cell? ⟨w.heap.size, 0, none⟩ = some (.bool s.ln) ∧ w'.cell? ⟨w.heap.size, 1, none⟩ = some (.slice s.la s.lN s.lc) ∧ w'.cell? ⟨w.heap.size, 2, none⟩ = some (.bool s.hn) ∧ w'.cell? ⟨w.heap.size, 3, none⟩ = some (.slice s.ha s.hN s.hc)) from fun w' hB => by
    obtain ⟨x0, x1, x2, x3, x4⟩ := A.below hB
    exact ⟨x0, x1, x2, x3⟩)
  go_enter Tryz.func138, Tryz.ntmps138
  go_wp2
  obtain ⟨x0, x1, x2, x3, x4⟩ := A
  rw [← hW]
  clear hW
  go_region_held3 (fun w' => w'.cell? ⟨w.heap.size, 0, none⟩ = some (.bool s.ln) ∧ w'.cell? ⟨w.heap.size, 1, none⟩ = some (.slice s.la s.lN s.lc) ∧ w'.cell? ⟨w.heap.size, 2, none⟩ = some (.bool s.hn) ∧ w'.cell? ⟨w.heap.size, 3, none⟩ = some (.slice s.ha s.hN s.hc)) (first | exact unhide HK _ (by first | with_reducible exact hB0 | with_reducible exact hB2 | with_reducible exact hB1) | go_keep)
    (first
      | (go_at_call 105; refine (down_z _ _ _ _ k (s.bits - bt) lo _ ((unhide HS).lo.below hB0) (by omega) (by omega) (by omega)).mono ?_; rintro r w1 ⟨neg1, a1, n1, c1, rfl, hint1, hb1⟩; have hB1 := bthen hB0 hb1)
      | (go_at_call 174; refine (ceilDown_z _ _ _ _ k (s.bits - bt) hi _ ((unhide HS).hi.below hB1) (by omega) (by omega) (by omega)).mono ?_; rintro r w2 ⟨neg2, a2, n2, c2, rfl, hint2, hb2⟩; replace hint1 := hint1.below hb2; have hB2 := bthen hB1 hb2; obtain ⟨q0, q1, q2, q3, q4, q5⟩ := R.below hB2; obtain ⟨i0, i1, i2, i3⟩ := unhide HK _ hB2))
  go_wp2
  refine bodyPost_ret (v := .agg #[.bool neg1, .slice a1 n1 c1, .bool neg2, .slice a2 n2 c2, .int .i64 bt]) (by simp [results, Tryz.results138, go_sem, q0, q1, q2, q3, q4]) rfl ⟨⟨neg1, a1, n1, c1, neg2, a2, n2, c2, bt⟩, rfl, rfl, ?_, ?_⟩
  · exact SpAt.put5 ⟨hint1.mono (by omega), hint2.mono (by omega)⟩ q0 q1 q2 q3 q4 _ _ _ _ _
  · exact set5 (bthen hBW hB2) (Nat.le_succ _) _ _ _ _ _
end Go.Proofs.YtgmnknmjainababGreat

namespace Go.Proofs.YtgmnknmjainababGreat
set_option linter.unusedVariables false
set_option linter.unusedSimpArgs false
set_option linter.unnecessarySimpa false
open Go.RowKit
attribute [local go_sem ↓] Go.wp_at_zero Go.wp_at_succ

set_option maxRecDepth 100000 in
set_option maxHeartbeats 2000000 in
theorem refTurn_int (w : World) (s : Sp) (k : Nat) (bt lo hi : Int) (hs : SpAt w s k lo hi) (hk : k ≤ 300000000) (hb0 : 0 ≤ s.bits) (hbm : s.bits ≤ 1000000) (hc0 : 0 ≤ bt) (hcm : bt ≤ 1000000) :
    Calls Tryz.prog 90 #[.agg #[.bool s.ln, .slice s.la s.lN s.lc, .bool s.hn, .slice s.ha s.hN s.hc, .int .i64 s.bits], .int .i64 bt] w (SpanAns w bt (k + 62505) (downZ lo (s.bits - bt)) (-(downZ (-hi) (s.bits - bt)))) := by
  by_cases hge : s.bits ≤ bt
  · obtain ⟨K, hK⟩ : ∃ K : Nat, bt - s.bits = K := ⟨(bt - s.bits).toNat, by omega⟩
    have e1 : ∀ x, downZ x (s.bits - bt) = x * Q K := by
      intro x; unfold downZ
      by_cases h0 : 0 ≤ s.bits - bt
      · have hz : s.bits - bt = 0 := by omega
        have hz2 : K = 0 := by omega
        rw [if_pos h0, hz, hz2]; simp [Q]
      · rw [if_neg h0, show (-(s.bits - bt)).toNat = K by omega]
    have HL := hide (e1 lo)
    have HH := hide (show -(downZ (-hi) (s.bits - bt)) = hi * Q K by rw [e1, Int.neg_mul, Int.neg_neg])
    clear e1
    have hK1 : K ≤ 1000000 := by omega
    rw [unhide HL, unhide HH]
    obtain ⟨W, hW⟩ : ∃ W, W = (w.alloc (.cells #[.bool s.ln, .slice s.la s.lN s.lc, .bool s.hn, .slice s.ha s.hN s.hc, .int .i64 s.bits] 36)).alloc (.cells #[.bool false, .slice none 0 0, .bool false, .slice none 0 0, .int .i64 0] 36) := ⟨_, rfl⟩
    have hBW : Below w.heap.size w W := by rw [hW]; exact bl2 _ _ _
    have A : SpC W w.heap.size s := by rw [hW]; exact ⟨by simp [go_sem], by simp [go_sem], by simp [go_sem], by simp [go_sem], by simp [go_sem]⟩
    have R : NoC W (w.heap.size + 1) := by rw [hW]; exact ⟨by simp [go_sem], by simp [go_sem], by simp [go_sem], by simp [go_sem], by simp [go_sem], fun o => by simp [go_sem]⟩
    have HS := hide (hs.below hBW)
    have lA := A.lt
    have lR := R.lt
    have hB0 : Below W.heap.size W W.drew := (Below.refl _ _).drew
    have HK := hide (show ∀ w', Below W.heap.size W w' → (w'.cell? ⟨w.heap.size, 0, none⟩ = some (.bool s.ln) ∧ w'.cell? ⟨w.heap.size, 1, none⟩ = some (.slice s.la s.lN s.lc) ∧ w'.cell? ⟨w.heap.size, 2, none⟩ = some (.bool s.hn) ∧ w'.cell? ⟨w.heap.size, 3, none⟩ = some (.slice s.ha s.hN s.hc)) from fun w' hB => by
      obtain ⟨x0, x1, x2, x3, x4⟩ := A.below hB
      exact ⟨x0, x1, x2, x3⟩)
    go_enter Tryz.func90, Tryz.ntmps90
    go_wp2_with fail
    rw [← hW]
    clear hW
    refine (power2_int K _ (by omega)).mono ?_
    rintro r w1 ⟨neg1, a1, n1, c1, rfl, hint1, hb1⟩
    obtain ⟨W1, hW1⟩ : ∃ W', W' = w1.alloc (.cells #[.bool neg1, .slice a1 n1 c1] 26) := ⟨_, rfl⟩
    have hc1 : Below w1.heap.size w1 W1 := by rw [hW1]; exact bl1 _ _
    have X : NmC W1 w1.heap.size ⟨neg1, a1, n1, c1⟩ := by rw [hW1]; exact nmc_new w1 ⟨neg1, a1, n1, c1⟩ _
    have nR : w1.heap.size ≠ w.heap.size + 1 := Nat.ne_of_gt (R.below hb1).lt
    have nR' : w.heap.size + 1 ≠ w1.heap.size := fun e => nR e.symm
    have hB1 := bthen hb1 hc1
    have R1 := R.below hB1
    have A1 := A.below hB1
    have lA1 := A1.lt
    have lR1 := R1.lt
    have lX := X.lt
    replace hint1 := hide (hint1.below hc1)
    replace HS := hide ((unhide HS).below hB1)
    have hD0 : Below W1.heap.size W1 W1.drew := (Below.refl _ _).drew
    have HK1 := hide (show ∀ w', Below W1.heap.size W1 w' → (w'.cell? ⟨w.heap.size, 0, none⟩ = some (.bool s.ln) ∧ w'.cell? ⟨w.heap.size, 1, none⟩ = some (.slice s.la s.lN s.lc) ∧ w'.cell? ⟨w.heap.size, 2, none⟩ = some (.bool s.hn) ∧ w'.cell? ⟨w.heap.size, 3, none⟩ = some (.slice s.ha s.hN s.hc) ∧ w'.cell? ⟨w1.heap.size, 0, none⟩ = some (.bool neg1) ∧ w'.cell? ⟨w1.heap.size, 1, none⟩ = some (.slice a1 n1 c1)) from fun w' hB => by
      obtain ⟨x0, x1, x2, x3, x4⟩ := A1.below hB
      exact ⟨x0, x1, x2, x3, (X.below hB).c0, (X.below hB).c1⟩)
    clear HK hB0
    go_wp2
    rw [← hW1]
    clear hW1
    obtain ⟨i0, i1, i2, i3, i4, i5⟩ := unhide HK1 _ (Below.refl _ _)
    go_region_held3 (fun w' => w'.cell? ⟨w.heap.size, 0, none⟩ = some (.bool s.ln) ∧ w'.cell? ⟨w.heap.size, 1, none⟩ = some (.slice s.la s.lN s.lc) ∧ w'.cell? ⟨w.heap.size, 2, none⟩ = some (.bool s.hn) ∧ w'.cell? ⟨w.heap.size, 3, none⟩ = some (.slice s.ha s.hN s.hc) ∧ w'.cell? ⟨w1.heap.size, 0, none⟩ = some (.bool neg1) ∧ w'.cell? ⟨w1.heap.size, 1, none⟩ = some (.slice a1 n1 c1)) (first | exact unhide HK1 _ (by first | with_reducible exact hD0 | with_reducible exact hD3 | with_reducible exact hD2) | go_keep)
      (first
        | (go_at_call 66; have hq := hD2; refine (mul_int _ _ _ _ _ _ _ _ k (K / 16 + 5) hi (Q K) _ ((unhide HS).hi.below hD2) ((unhide hint1).below hD2) (by omega) (by omega)).mono ?_; rintro r w3 ⟨neg3, a3, n3, c3, rfl, hint3, hb3⟩; replace hint2 := hint2.below hb3; have hD3 := bthen hD2 hb3; obtain ⟨q0, q1, q2, q3, q4, q5⟩ := R1.below hD3; obtain ⟨d0, d1, d2, d3, d4, d5⟩ := unhide HK1 _ hD3)
        | (go_at_call 66; refine (mul_int _ _ _ _ _ _ _ _ k (K / 16 + 5) lo (Q K) _ ((unhide HS).lo.below hD0) ((unhide hint1).below hD0) (by omega) (by omega)).mono ?_; rintro r w2 ⟨neg2, a2, n2, c2, rfl, hint2, hb2⟩; have hD2 := bthen hD0 hb2))
    clear i0 i1 i2 i3 i4 i5
    go_wp2
    refine bodyPost_ret (v := .agg #[.bool neg2, .slice a2 n2 c2, .bool neg3, .slice a3 n3 c3, .int .i64 bt]) (by simp [results, Tryz.results90, go_sem, q0, q1, q2, q3, q4]) rfl ⟨⟨neg2, a2, n2, c2, neg3, a3, n3, c3, bt⟩, rfl, rfl, ?_, ?_⟩
    · exact SpAt.put5 ⟨hint2.mono (by omega), hint3.mono (by omega)⟩ q0 q1 q2 q3 q4 _ _ _ _ _
    · exact set5 (bthen (bthen hBW hB1) hD3) (Nat.le_succ _) _ _ _ _ _
  · have e0 : ¬ bt ≥ s.bits := hge
    obtain ⟨W, hW⟩ : ∃ W, W = (w.alloc (.cells #[.bool s.ln, .slice s.la s.lN s.lc, .bool s.hn, .slice s.ha s.hN s.hc, .int .i64 s.bits] 36)).alloc (.cells #[.bool false, .slice none 0 0, .bool false, .slice none 0 0, .int .i64 0] 36) := ⟨_, rfl⟩
    have hBW : Below w.heap.size w W := by rw [hW]; exact bl2 _ _ _
    have A : SpC W w.heap.size s := by rw [hW]; exact ⟨by simp [go_sem], by simp [go_sem], by simp [go_sem], by simp [go_sem], by simp [go_sem]⟩
    have R : NoC W (w.heap.size + 1) := by rw [hW]; exact ⟨by simp [go_sem], by simp [go_sem], by simp [go_sem], by simp [go_sem], by simp [go_sem], fun o => by simp [go_sem]⟩
    have HS := hide (hs.below hBW)
    have lA := A.lt
    have lR := R.lt
    have hB0 : Below W.heap.size W W.drew := (Below.refl _ _).drew
    have HK := hide (show ∀ w', Below W.heap.size W w' → (w'.cell? ⟨w.heap.size, 0, none⟩ = some (.bool s.ln) ∧ w'.cell? ⟨w.heap.size, 1, none⟩ = some (.slice s.la s.lN s.lc) ∧ w'.cell? ⟨w.heap.size, 2, none⟩ = some (.bool s.hn) ∧ w'.cell? ⟨w.heap.size, 3, none⟩ = some (.slice s.ha s.hN s.hc)) from fun w' hB => by
      obtain ⟨x0, x1, x2, x3, x4⟩ := A.below hB
      exact ⟨x0, x1, x2, x3⟩)
    go_enter Tryz.func90, Tryz.ntmps90
    go_wp2
    obtain ⟨x0, x1, x2, x3, x4⟩ := A
    rw [← hW]
    clear hW
    go_region_held3 (fun w' => w'.cell? ⟨w.heap.size, 0, none⟩ = some (.bool s.ln) ∧ w'.cell? ⟨w.heap.size, 1, none⟩ = some (.slice s.la s.lN s.lc) ∧ w'.cell? ⟨w.heap.size, 2, none⟩ = some (.bool s.hn) ∧ w'.cell? ⟨w.heap.size, 3, none⟩ = some (.slice s.ha s.hN s.hc)) (first | exact unhide HK _ (by first | with_reducible exact hB0 | with_reducible exact hB4 | with_reducible exact hB3 | with_reducible exact hB2 | with_reducible exact hB1) | go_keep)
      (first
        | (go_at_call 103; have hq := hB3; refine (neg_int _ _ _ _ (k + 62505) _ _ (hint3.mono (by omega)) (by omega)).mono ?_; rintro r w4 ⟨neg4, a4, n4, c4, rfl, hint4, hb4⟩; replace hint1 := hint1.below hb4; have hB4 := bthen hB3 hb4; obtain ⟨q0, q1, q2, q3, q4, q5⟩ := R.below hB4; obtain ⟨i0, i1, i2, i3⟩ := unhide HK _ hB4)
        | (go_at_call 105; have hq := hB2; refine (down_z _ _ _ _ k (s.bits - bt) (-hi) _ hint2 (by omega) (by omega) (by omega)).mono ?_; rintro r w3 ⟨neg3, a3, n3, c3, rfl, hint3, hb3⟩; replace hint1 := hint1.below hb3; have hB3 := bthen hB2 hb3)
        | (go_at_call 103; have hq := hB1; refine (neg_int _ _ _ _ k hi _ ((unhide HS).hi.below hB1) (by omega)).mono ?_; rintro r w2 ⟨neg2, a2, n2, c2, rfl, hint2, hb2⟩; replace hint1 := hint1.below hb2; have hB2 := bthen hB1 hb2)
        | (go_at_call 105; refine (down_z _ _ _ _ k (s.bits - bt) lo _ ((unhide HS).lo.below hB0) (by omega) (by omega) (by omega)).mono ?_; rintro r w1 ⟨neg1, a1, n1, c1, rfl, hint1, hb1⟩; have hB1 := bthen hB0 hb1))
    go_wp2
    refine bodyPost_ret (v := .agg #[.bool neg1, .slice a1 n1 c1, .bool neg4, .slice a4 n4 c4, .int .i64 bt]) (by simp [results, Tryz.results90, go_sem, q0, q1, q2, q3, q4]) rfl ⟨⟨neg1, a1, n1, c1, neg4, a4, n4, c4, bt⟩, rfl, rfl, ?_, ?_⟩
    · exact SpAt.put5 ⟨hint1.mono (by omega), hint4.mono (by omega)⟩ q0 q1 q2 q3 q4 _ _ _ _ _
    · exact set5 (bthen hBW hB4) (Nat.le_succ _) _ _ _ _ _
end Go.Proofs.YtgmnknmjainababGreat

namespace Go.Proofs.YtgmnknmjainababGreat
set_option linter.unusedVariables false
set_option linter.unusedSimpArgs false
set_option linter.unnecessarySimpa false
open Go.RowKit

/-- What num.times writes: carries and digits. -/
def carryT (d : Nat → Int) (q : Int) : Nat → Int
  | 0 => 0
  | k + 1 => (carryT d q k + d k * q) / 65536
def timesD (d : Nat → Int) (q : Int) (n j : Nat) : Int := if j < n then (carryT d q j + d j * q) % 65536 else carryT d q n

theorem prod_bd {x q : Int} (hx : 0 ≤ x ∧ x < 65536) (hq : 0 ≤ q ∧ q < 65536) : 0 ≤ x * q ∧ x * q ≤ 4294836225 := mul_bd hx hq ⟨Int.le_refl 0, by omega⟩ ⟨Int.le_refl 0, by omega⟩
theorem carryT_bd {d : Nat → Int} (hd : Dgs d) {q : Int} (hq : 0 ≤ q ∧ q < 65536) (k : Nat) : 0 ≤ carryT d q k ∧ carryT d q k < 65536 := by
  induction k with
  | zero => simp [carryT]
  | succ k ih => simp only [carryT]; have := prod_bd (hd k) hq; omega
theorem timesD_dgs {d : Nat → Int} (hd : Dgs d) {q : Int} (hq : 0 ≤ q ∧ q < 65536) (n : Nat) : Dgs (timesD d q n) := by
  intro j; unfold timesD
  have := carryT_bd hd hq n
  split <;> omega
theorem times_aux (d : Nat → Int) (q : Int) (n : Nat) : ∀ k, k ≤ n → V (timesD d q n) k + carryT d q k * P k = V d k * q := by
  intro k
  induction k with
  | zero => intro _; simp [V, carryT]
  | succ k ih =>
    intro hk
    have h1 := ih (by omega)
    simp only [V, P]
    have h2 : timesD d q n k = (carryT d q k + d k * q) % 65536 := by simp [timesD]; omega
    rw [h2]
    simp only [carryT]
    have h3 : (carryT d q k + d k * q) % 65536 * P k + (carryT d q k + d k * q) / 65536 * (65536 * P k) = (carryT d q k + d k * q) * P k := by
      rw [← Int.mul_assoc, ← Int.add_mul]; congr 1; omega
    have h4 : (carryT d q k + d k * q) * P k = carryT d q k * P k + d k * q * P k := Int.add_mul _ _ _
    have h5 : (V d k + d k * P k) * q = V d k * q + d k * q * P k := by
      rw [Int.add_mul, Int.mul_assoc (d k), Int.mul_comm (P k) q, ← Int.mul_assoc]
    omega
theorem times_V (d : Nat → Int) (q : Int) (n : Nat) : V (timesD d q n) (n + 1) = V d n * q := by
  have h := times_aux d q n n (Nat.le_refl _)
  simp only [V]
  have : timesD d q n n = carryT d q n := by simp [timesD]
  rw [this]; exact h

set_option maxRecDepth 100000 in
set_option maxHeartbeats 1000000 in
theorem times_any (a : Option Addr) (n cap : Nat) (d : Nat → Int) (q : Int) (w : World) (ha : Dig w a n cap d) (hn : n ≤ 1000000000) (hq0 : 0 ≤ q) (hq1 : q < 65536) :
    Calls Tryz.prog 194 #[.slice a n cap, .int .u32 q] w fun r w' => ∃ a', r = .returned (.slice a' (n + 1) (n + 1)) ∧ Dig w' a' (n + 1) (n + 1) (timesD d q n) ∧ Below w.heap.size w w' := by
  have hmk := run_make_row' (P := Tryz.prog) 24 98 (.int .u16 0) 2 Tryz.underlying24 Tryz.infoU16 rfl .i64 .i64 (n + 1) (by omega) (by omega)
  have hnm : ((n + 1 : Nat) : Int) = (n : Int) + 1 := by omega
  rw [hnm] at hmk
  clear hnm
  go_enter Tryz.func194, Tryz.ntmps194
  go_wp2
  clear hmk
  go_loopw [6, 15] (fun cy i wr => ∃ k : Nat, k ≤ n ∧ i = .int .i64 k ∧ cy = .int .u32 (carryT d q k) ∧ wr.rowIs w.heap.size 98 (n + 1) (fun j => .int .u16 (if j < k then timesD d q n j else 0)) ∧ Below w.heap.size w wr) (fun _ i _ => n - (intOf i).toNat)
  case atStart => exact ⟨0, Nat.zero_le _, rfl, rfl, by simpa using World.rowIs_made w (.int .u16 0) (n + 1) 98, bl1 _ _⟩
  case round =>
    obtain ⟨k, hk, rfl, rfl, hrow, hbl⟩ := hrel
    have cb := carryT_bd ha.dgs ⟨hq0, hq1⟩ k
    by_cases hkn : k < n
    · obtain ⟨b1, o1, rfl, hb1, hc1⟩ := ha.at_ (by omega)
      have g1 : wr.cell? ⟨b1, o1 + k, none⟩ = some (.int .u16 (d k)) := (hbl.cell (p := ⟨b1, o1 + k, none⟩) hb1).trans (hc1 k hkn)
      have db := ha.dgs k
      have pb := prod_bd db ⟨hq0, hq1⟩
      have r1 := hrow.cell (show k < n + 1 by omega)
      have r2 := hrow.frozen k
      have H1 := hide (show (carryT d q k + d k * q) / 65536 = carryT d q (k + 1) from rfl)
      have H2 := hide (show IntKind.u16.wrap (carryT d q k + d k * q) = timesD d q n k by simp [wrap16, timesD, hkn])
      clear hc1
      go_wp2
      go_roundw
      case rel => exact ⟨k + 1, by omega, by go_num, by rw [unhide H1], row_step hrow (unhide H2), hbl.setCell (Nat.le_refl _) _⟩
      case measure => simp [intOf]; omega
    · have hkE : k = n := by omega
      subst hkE
      have r1 := hrow.cell (show k < k + 1 by omega)
      have r2 := hrow.frozen k
      have H2 := hide (show carryT d q k = timesD d q k k by simp [timesD])
      have HR := hide hrow
      clear hrow
      go_wp2
      go_ret
      refine ⟨_, rfl, rowDig ((row_step (unhide HR) (unhide H2)).congr (fun j hj => by simp [hj])) (timesD_dgs ha.dgs ⟨hq0, hq1⟩ k) (by omega), hbl.setCell (Nat.le_refl _) _⟩
end Go.Proofs.YtgmnknmjainababGreat

namespace Go.Proofs.YtgmnknmjainababGreat
set_option linter.unusedVariables false
set_option linter.unusedSimpArgs false
set_option linter.unnecessarySimpa false
open Go.RowKit

/-- Digits from j on laid over others. -/
def over1 (u f : Nat → Int) (j i : Nat) : Int := if i < j then u i else f (i - j)

theorem over1_dgs {u f : Nat → Int} (hu : Dgs u) (hf : Dgs f) (j : Nat) : Dgs (over1 u f j) := by
  intro i; unfold over1; split
  · exact hu i
  · exact hf _
theorem over1_Tp (u f : Nat → Int) (j L : Nat) : Tp (over1 u f j) j L = V f (L - j) := by
  unfold Tp; exact V_congr _ (fun i _ => by simp only [over1]; rw [if_neg (by omega)]; congr 1; omega)
theorem V_low (u : Nat → Int) {j L : Nat} (h : j ≤ L) : V u L = V u j + P j * Tp u j L := by
  unfold Tp
  have := V_split u j (L - j)
  rw [show j + (L - j) = L by omega] at this
  exact this
theorem over1_low (u f : Nat → Int) (j : Nat) : V (over1 u f j) j = V u j := V_congr _ (fun i hi => by simp [over1, hi])

/-- One step of the long division. -/
theorem div_step {u o f : Nat → Int} {j L M : Nat} {A D q : Int} (hjL : j < L) (hjM : j < M) (hA : A = V u L + D * (P (j + 1) * Tp o (j + 1) M)) (hf : V f (L - j) = Tp u j L - q * D) :
    A = V (over1 u f j) L + D * (P j * Tp (upd o j q) j M) := by
  rw [V_low (over1 u f j) (Nat.le_of_lt hjL), over1_low, over1_Tp, hf, Tp_step (upd o j q) j M hjM, Tp_upd]
  have h1 : upd o j q j = q := by simp [upd]
  rw [h1, hA, V_low u (Nat.le_of_lt hjL)]
  generalize Tp u j L = U
  generalize Tp o (j + 1) M = T
  simp only [P]
  rw [Int.mul_sub, Int.mul_add, Int.mul_add]
  have e1 : P j * (q * D) = D * (P j * q) := by rw [Int.mul_comm q D, ← Int.mul_assoc, ← Int.mul_assoc, Int.mul_comm (P j) D]
  have e2 : D * (P j * (65536 * T)) = D * (65536 * P j * T) := by rw [← Int.mul_assoc (P j), Int.mul_comm (P j) 65536]
  omega

/-- What the upper digits tell of the quotient: it is never too small. -/
theorem div_hat {u v : Nat → Int} {j L n : Nat} (hu : Dgs u) (hv : Dgs v) (hn : 0 < n) (hL : j + n < L) (hU : Tp u (j + 1) L < V v n) (q : Int) (hq : q * V v n ≤ Tp u j L) (hq0 : 0 ≤ q) :
    q * v (n - 1) ≤ u (j + n) * 65536 + u (j + n - 1) ∧ q < 65536 := by
  have hD := V_lt hv n
  have hT1 := Tp_step u j L (by omega)
  have hu0 := hu j
  have hDpos : 0 < V v n := by have := Tp_nonneg hu (j + 1) L; omega
  have hUlt : Tp u j L < 65536 * V v n := by omega
  have hq1 : q < 65536 := by
    rcases Int.lt_or_le q 65536 with h | h
    · exact h
    · have := Int.mul_le_mul_of_nonneg_right h (show 0 ≤ V v n by omega); omega
  refine ⟨?_, hq1⟩
  -- the digits above j + n are nought
  have hs := V_split (fun t => u (j + t)) (n + 1) (L - j - (n + 1))
  rw [show n + 1 + (L - j - (n + 1)) = L - j by omega] at hs
  have hs' : Tp u j L = V (fun t => u (j + t)) (n + 1) + P (n + 1) * V (fun t => u (j + (n + 1 + t))) (L - j - (n + 1)) := hs
  have hR0 := V_nonneg (fun t => hu (j + (n + 1 + t))) (L - j - (n + 1))
  have hL0 := V_nonneg (fun t => hu (j + t)) (n + 1)
  have hPn := P_pos (n + 1)
  have hP1 : P (n + 1) = 65536 * P n := rfl
  have hR : V (fun t => u (j + (n + 1 + t))) (L - j - (n + 1)) = 0 := by
    rcases Int.lt_or_le (V (fun t => u (j + (n + 1 + t))) (L - j - (n + 1))) 1 with h | h
    · omega
    · have := Int.mul_le_mul_of_nonneg_left h (show 0 ≤ P (n + 1) by omega)
      omega
  rw [hR, Int.mul_zero, Int.add_zero] at hs'
  obtain ⟨m, rfl⟩ : ∃ m, n = m + 1 := ⟨n - 1, by omega⟩
  have e1 : V (fun t => u (j + t)) (m + 1 + 1) = V (fun t => u (j + t)) m + u (j + m) * P m + u (j + (m + 1)) * (65536 * P m) := rfl
  have e2 : V v (m + 1) = V v m + v m * P m := rfl
  have b1 := V_lt (fun t => hu (j + t)) m
  have b2 := V_nonneg hv m
  have hp := P_pos m
  simp only [Nat.add_sub_cancel]
  rw [show j + (m + 1) - 1 = j + m by omega]
  have h5 : q * (v m * P m) ≤ q * V v (m + 1) := Int.mul_le_mul_of_nonneg_left (by omega) hq0
  have h6 : q * v m * P m < (u (j + (m + 1)) * 65536 + u (j + m) + 1) * P m := by
    rw [Int.mul_assoc, Int.add_mul, Int.add_mul, Int.one_mul, Int.mul_assoc (u (j + (m + 1)))]
    omega
  have h7 : q * v m < u (j + (m + 1)) * 65536 + u (j + m) + 1 := Int.lt_of_mul_lt_mul_right h6 (by omega)
  omega

theorem row_take {c : Array Value} {N n : Nat} {f : Nat → Int} (hc : ∀ i, i < N → c[i]? = some (.int .u16 (f i))) (hn : n ≤ N) : c.toList.take n = dcells f n := by
  apply List.ext_getElem?
  intro j
  rw [List.getElem?_take]
  by_cases hj : j < n
  · rw [if_pos hj, dcells_at f n j hj, Array.getElem?_toList]; exact hc j (by omega)
  · rw [if_neg hj]; symm; rw [List.getElem?_eq_none_iff, dcells_len]; omega
theorem row_own {w : World} {b t N n base : Nat} {f : Nat → Int} (h : w.rowIs b t N (fun j => .int .u16 (f j))) (hn : n ≤ N) (hN : N ≤ 4611686018427387904) (hb : base ≤ b) : Own w base t (some ⟨b, 0, none⟩) n N f := by
  obtain ⟨c, h1, h2, h3⟩ := h
  refine ⟨by rw [dcells_len]; omega, Or.inr ⟨b, N, c, rfl, hb, h1, hn, by unfold maxLen; omega, by omega, ?_⟩⟩
  rw [Nat.mul_one]; exact row_take h3 hn

set_option maxRecDepth 100000 in
set_option maxHeartbeats 1000000 in
theorem up_own (neg : Bool) (a : Option Addr) (n cap k : Nat) (d : Nat → Int) (w : World) (ha : Dig w a n cap d) (hn : n ≤ 1000000000) (hk : k ≤ 1000000000) :
    Calls Tryz.prog 95 #[.agg #[.bool neg, .slice a n cap], .int .i64 k] w fun r w' =>
      ∃ g n' cap' o neg', r = .returned (.agg #[.bool neg', .slice (some ⟨g, 0, none⟩) n' cap']) ∧ Own w' w.heap.size 98 (some ⟨g, 0, none⟩) n' cap' o ∧ Dgs o ∧ (n' = 0 ∨ o (n' - 1) ≠ 0) ∧ V o n' = V d n * Q k ∧ n' ≤ k / 16 + n + 1 ∧ Below w.heap.size w w' := by
  obtain ⟨q, hq⟩ : ∃ q, q = k / 16 := ⟨_, rfl⟩
  obtain ⟨s, hs⟩ : ∃ s, s = k % 16 := ⟨_, rfl⟩
  have hq' : (k : Int) / 16 = (q : Int) := by omega
  have hs' : (k : Int) % 16 = (s : Int) := by omega
  have hs16 : s < 16 := by omega
  have hk' : ¬ (k : Int) < 0 := by omega
  obtain ⟨W, hW⟩ : ∃ W, W = (w.alloc (.cells #[.bool neg, .slice a n cap] 26)).alloc (.cells #[.bool false, .slice none 0 0] 26) := ⟨_, rfl⟩
  have b3 : Below w.heap.size w W := by rw [hW]; exact bl2 _ _ _
  have s3 : W.heap.size = w.heap.size + 1 + 1 := by rw [hW]; simp
  have k0 : W.cell? ⟨w.heap.size, 0, none⟩ = some (.bool neg) := by rw [hW]; simp [go_sem]
  have k3 : W.cell? ⟨w.heap.size + 1, 0, none⟩ = some (.bool false) := by rw [hW]; simp [go_sem]
  have k4 : W.cell? ⟨w.heap.size + 1, 1, none⟩ = some (.slice none 0 0) := by rw [hW]; simp [go_sem]
  have k5 : ∀ o, W.frozen? ⟨w.heap.size + 1, o, none⟩ = false := by intro o; rw [hW]; simp [go_sem]
  have HW := hide hW
  clear hW
  have hmk := run_make_row' (P := Tryz.prog) 24 98 (.int .u16 0) 2 Tryz.underlying24 Tryz.infoU16 rfl .i64 .i64 (q + n + 1) (by omega) (by omega)
  have hnm : ((q + n + 1 : Nat) : Int) = (q : Int) + n + 1 := by omega
  rw [hnm] at hmk
  have Hq := hide hq
  have Hs := hide hs
  clear hnm hq hs
  go_enter Tryz.func95, Tryz.ntmps95
  go_wp2
  clear hmk
  go_loopw [26] (fun ii wr => ∃ (i : Nat) (o : Nat → Int), i ≤ n ∧ ii = .int .i64 i ∧ wr.rowIs (w.heap.size + 1 + 1) 98 (q + n + 1) (fun j => .int .u16 (o j)) ∧ Dgs o ∧ V o (q + n + 1) = V d i * Q s * P q ∧ (∀ j, i + q < j → o j = 0) ∧ o (i + q) < Q s ∧ Below (w.heap.size + 1 + 1) W wr) (fun ii _ => n - (intOf ii).toNat)
  case atStart =>
    refine ⟨0, fun _ => 0, Nat.zero_le _, rfl, ?_, fun _ => ⟨by simp, by simp⟩, ?_, fun _ _ => rfl, ?_, ?_⟩
    · have := World.rowIs_made W (.int .u16 0) (q + n + 1) 98
      rw [s3, unhide HW] at this; exact this
    · rw [V_zero]; simp [V]
    · have := Q_pos s; simp; omega
    · rw [unhide HW]; exact (Below.refl _ _).alloc (by simp) _
  case round =>
    obtain ⟨i, o, hi, rfl, hrow, hod, hov, hoz, hoq, hbl⟩ := hrel
    by_cases hin : i < n
    · obtain ⟨b1, o1, rfl, hb1, hc1⟩ := ha.at_ (by omega)
      have g1 : wr.cell? ⟨b1, o1 + i, none⟩ = some (.int .u16 (d i)) := (hbl.cell (p := ⟨b1, o1 + i, none⟩) (by show b1 < _; omega)).trans ((b3.cell (p := ⟨b1, o1 + i, none⟩) hb1).trans (hc1 i hin))
      have db := ha.dgs i
      have r1 := hrow.cell (show i + q < q + n + 1 by omega)
      have r2 := hrow.frozen (i + q)
      have r3 := hrow.cell (show i + q + 1 < q + n + 1 by omega)
      have r4 := hrow.frozen (i + q + 1)
      have hz1 := hoz (i + q + 1) (by omega)
      rw [hz1] at r3
      have ob := hod (i + q)
      have HV := hide hov
      have HZ := hide hoz
      have HR := hide hrow
      have HD := hide hod
      have HZ1 := hide hz1
      clear hc1 hov hoz hrow hod hz1
      obtain ⟨c, hlow⟩ := up_low (d i) s (by omega)
      have hhigh := up_high (d i) s db.1 db.2
      have hlt := up_lt (d i) s hs16 db.1 db.2
      have hmod : d i * 2 ^ s % 4294967296 = d i * Q s := by rw [Q_pow]; omega
      have hor := or16 (o (i + q)) (d i * Q s % 65536) c s (by omega) ob.1 hoq hlow (by omega) (by omega)
      have hor2 := or16 0 (d i * Q s / 65536) (d i * Q s / 65536) 0 (by omega) (by omega) (by simp [Q]) (by simp [Q]) hhigh.1 (by omega)
      have H1 := hide (show bits .or .u16 (o (i + q)) (IntKind.u16.wrap (d i * 2 ^ s % 4294967296)) = o (i + q) + d i * Q s % 65536 by rw [hmod, wrap16]; exact hor.1)
      have H2 := hide (show bits .or .u16 0 (d i * 2 ^ s % 4294967296 / 65536) = d i * Q s / 65536 by rw [hmod, hor2.1]; omega)
      have H3 := hide hor.2
      have H4 := hide hhigh
      have hQ16 := Q_mono (show s ≤ 15 by omega)
      have e15 : Q 15 = 32768 := rfl
      rw [e15] at hQ16
      clear hlow hlt hmod hor hor2 hhigh e15
      go_wp2
      go_roundw
      case rel =>
        have h3 := unhide H3
        have h4 := unhide H4
        have hne : i + q + 1 ≠ i + q := by omega
        have hz : upd o (i + q) (o (i + q) + d i * Q s % 65536) (i + q + 1) = 0 := by simp [upd]; exact unhide HZ1
        refine ⟨i + 1, upd (upd o (i + q) (o (i + q) + d i * Q s % 65536)) (i + q + 1) (d i * Q s / 65536), by omega, by go_num, row_upd (row_upd (unhide HR) (i + q) (unhide H1)) (i + q + 1) (unhide H2), upd_dgs (upd_dgs (unhide HD) _ (by omega) h3) _ h4.1 (by omega), ?_, fun j hj => ?_, ?_, (hbl.setCell (by simp) _).setCell (by simp) _⟩
        · rw [upd_V _ _ _ _ (by omega), upd_V _ _ _ _ (by omega), hz, unhide HV]
          exact up_alg (V d i) (d i) (o (i + q)) i q s
        · have e1 : j ≠ i + q := by omega
          have e2 : j ≠ i + q + 1 := by omega
          simp only [upd, e1, e2, if_false]; exact unhide HZ j (by omega)
        · have e1 : i + 1 + q = i + q + 1 := by omega
          rw [e1]; simp only [upd, if_true]; exact h4.2
      case measure => simp [intOf]; omega
    · have hiE : i = n := by omega
      subst hiE
      have q0 : wr.cell? ⟨w.heap.size, 0, none⟩ = some (.bool neg) := (hbl.cell (p := ⟨w.heap.size, 0, none⟩) (by show w.heap.size < _; omega)).trans k0
      have q3 : wr.cell? ⟨w.heap.size + 1, 0, none⟩ = some (.bool false) := (hbl.cell (p := ⟨w.heap.size + 1, 0, none⟩) (by simp)).trans k3
      have q4 : wr.cell? ⟨w.heap.size + 1, 1, none⟩ = some (.slice none 0 0) := (hbl.cell (p := ⟨w.heap.size + 1, 1, none⟩) (by simp)).trans k4
      have q5 : ∀ o, wr.frozen? ⟨w.heap.size + 1, o, none⟩ = false := fun o => (hbl.frozen (p := ⟨w.heap.size + 1, o, none⟩) (by simp)).trans (k5 o)
      have hsw := hbl.size
      rw [s3] at hsw
      have HR := hide (rowDig hrow hod (by omega))
      have HRow := hide hrow
      have HO := hide hod
      have HV := hide hov
      clear hov hoz hrow hod
      go_wp2_with (go_at_call 125; refine (of_any _ _ _ _ o _ (unhide HR)).mono ?_; rintro r w2 ⟨rfl, hb2⟩; obtain ⟨hsz2, hcell2, hfz2⟩ := near (w.heap.size + 1 + 1) hsw hb2)
      have tl := trimN_le o (q + i + 1)
      refine bodyPost_ret (v := .agg #[.bool (neg && decide (0 < trimN o (q + i + 1))), .slice (some ⟨w.heap.size + 1 + 1, 0, none⟩) (trimN o (q + i + 1)) (q + i + 1)]) (by simp [results, Tryz.results95, go_sem, hcell2, q3, q4]) rfl ⟨w.heap.size + 1 + 1, trimN o (q + i + 1), q + i + 1, o, _, rfl, ?_, unhide HO, trimN_top _ _, ?_, ?_, ?_⟩
      · refine row_own ?_ tl (by omega) (by omega)
        have hr2 : w2.rowIs (w.heap.size + 1 + 1) 98 (q + i + 1) (fun j => .int .u16 (o j)) := (unhide HRow).of_block (hb2.block _ (unhide HRow).lt)
        exact (hr2.setOther (by simp) _).setOther (by simp) _
      · rw [trimN_V, unhide HV, Int.mul_assoc, unhide Hs, unhide Hq, ← Q_split]
      · have := unhide Hq; omega
      · exact ((bthen (b3.trans (hbl.mono (by omega))) hb2).setCell (by simp) _).setCell (by simp) _

/-- A row of the call's own that holds digits, and room behind them. -/
def OwnL (w : World) (g t L C : Nat) (u : Nat → Int) : Prop := ∃ cur : List Value, w.heap[g]? = some (.cells cur.toArray t (0, 0)) ∧ cur.length = C ∧ L ≤ C ∧ ∀ j, j < L → cur[j]? = some (.int .u16 (u j))
theorem OwnL.lt {w : World} {g t L C : Nat} {u : Nat → Int} (h : OwnL w g t L C u) : g < w.heap.size := by
  obtain ⟨cur, h1, _⟩ := h
  exact (Array.getElem?_eq_some_iff.1 h1).1
theorem OwnL.cell {w : World} {g t L C : Nat} {u : Nat → Int} (h : OwnL w g t L C u) {j : Nat} (hj : j < L) : w.cell? ⟨g, j, none⟩ = some (.int .u16 (u j)) := by
  obtain ⟨cur, h1, h2, h3, h4⟩ := h
  simp [World.cell?, h1, h4 j hj]
theorem OwnL.of_block {w w' : World} {g t L C : Nat} {u : Nat → Int} (h : OwnL w g t L C u) (e : w'.heap[g]? = w.heap[g]?) : OwnL w' g t L C u := by
  obtain ⟨cur, h1, h2⟩ := h
  exact ⟨cur, e.trans h1, h2⟩
theorem OwnL.below {w w' : World} {g t L C : Nat} {u : Nat → Int} (h : OwnL w g t L C u) (hb : Below w.heap.size w w') : OwnL w' g t L C u := h.of_block (hb.block _ h.lt)
theorem OwnL.dig {w : World} {g t L C : Nat} {u : Nat → Int} (h : OwnL w g t L C u) (hu : Dgs u) (off : Nat) (ho : off ≤ L) (hL : L ≤ 70368744177664) : Dig w (some ⟨g, off, none⟩) (L - off) (C - off) (fun i => u (off + i)) :=
  ⟨fun _ => ⟨g, off, rfl, h.lt, fun j hj => h.cell (by omega)⟩, fun j => hu _, by obtain ⟨_, _, _, h3, _⟩ := h; omega, by omega⟩
theorem ownL_of {w : World} {base t g L C : Nat} {u : Nat → Int} (h : Own w base t (some ⟨g, 0, none⟩) L C u) : OwnL w g t L C u ∧ base ≤ g := by
  have h' : w.ownsRow base t 1 (.slice (some ⟨g, 0, none⟩) L C) L (dcells u L) := h
  rcases h'.2 with ⟨hv, h0⟩ | ⟨g', c2, cur, hv, hb, h1, h2, h3, h4, h5⟩
  · cases hv
  · simp only [Value.slice.injEq, Option.some.injEq, Addr.mk.injEq] at hv
    obtain ⟨⟨rfl, _, _⟩, _, rfl⟩ := hv
    refine ⟨⟨cur.toList, by simpa using h1, by simp; omega, h2, fun j hj => ?_⟩, hb⟩
    have h6 := dcells_at u L j hj
    rw [← h5, List.getElem?_take, if_pos (by omega)] at h6
    exact h6
theorem OwnL.splice {w w' : World} {g t L C : Nat} {u f : Nat → Int} (h : OwnL w g t L C u) (j : Nat) (hj : j ≤ L)
    (cur : List Value) (hc : w.heap[g]? = some (.cells cur.toArray t (0, 0))) (h' : w'.heap[g]? = some (.cells (Go.splice cur j (dcells f (L - j))).toArray t (0, 0))) : OwnL w' g t L C (over1 u f j) := by
  obtain ⟨cur2, h1, h2, h3, h4⟩ := h
  have e : cur2 = cur := by
    rw [hc] at h1
    have := Option.some.inj h1
    simp only [Obj.cells.injEq] at this
    have h5 := congrArg Array.toList this.1
    simpa using h5.symm
  subst e
  refine ⟨_, h', ?_, h3, fun i hi => ?_⟩
  · rw [length_splice _ _ _ (by rw [dcells_len]; omega)]; exact h2
  · unfold Go.splice over1
    by_cases hij : i < j
    · rw [if_pos hij, List.getElem?_append_left (by rw [List.length_take]; omega), List.getElem?_take, if_pos hij]; exact h4 i hi
    · rw [if_neg hij, List.getElem?_append_right (by rw [List.length_take]; omega), List.length_take, Nat.min_eq_left (by omega), List.getElem?_append_left (by rw [dcells_len]; omega), dcells_at _ _ _ (by omega)]

theorem dcells_two (d : Nat → Int) (n : Nat) : dcells (upd (upd d n 0) (n + 1) 0) (n + 2) = dcells d n ++ [.int .u16 0, .int .u16 0] := by
  rw [show n + 2 = n + 1 + 1 from rfl, dcells_upd, dcells_upd, List.append_assoc]; rfl
theorem wpList_append_two {Pr : Program} (w : World) {ops : Array Oper} {rest : List Oper} {o : Oper} {act : Act} {Q : Exit → Act → World → Prop} (hgd : o.guard = none) (s x : Operand) (t : TypeId)
    (ho : o.op = .call { callee := .builtin .append, args := #[s, x], argTypes := #[t, t] })
    (base : Nat) (e : TypeId) (ht : Pr.underlying t = some (.slice e)) (hinfo : (Pr.info? e).map (fun i => (i.zero, i.size, i.bytes)) = some (some (.int .u16 0), 1, 2))
    (a : Option Addr) (n cap : Nat) (d : Nat → Int) (hs : act.eval s = .slice a n cap) (hown : Own w base e a n cap d) (g c : Nat) (hx : act.eval x = .slice (some ⟨g, 0, none⟩) 2 c)
    (hv : w.cell? ⟨g, 0, none⟩ = some (.int .u16 0)) (hv1 : w.cell? ⟨g, 1, none⟩ = some (.int .u16 0)) (hn : n ≤ 1000000000) (hbase : base ≤ w.heap.size)
    (h : ∀ g' cap' w', Own w' base e (some ⟨g', 0, none⟩) (n + 2) cap' (upd (upd d n 0) (n + 1) 0) → Below base w w' → wpList Pr ops Q rest (act.put o.dst (.slice (some ⟨g', 0, none⟩) (n + 2) cap')) w') : wpList Pr ops Q (o :: rest) act w := by
  obtain ⟨i, hi, hz0, hz1, hz2⟩ := info_parts hinfo
  have hlt : ∀ k, (Value.slice a n cap).ownBlock = some k → base ≤ k := fun k hk => (World.ownsRow.lt hown k hk).1
  refine wpList_append_lies w hgd s x t ho base e i (.int .u16 0) 1 2 ht hi hz0 hz1 hz2 rfl (by decide) (.slice a n cap) n (dcells d n) hs hown ⟨g, 0, none⟩ 2 c [.int .u16 0, .int .u16 0] hx rfl ?_ ?_ (by decide) ?_ ?_ hbase _ rfl ?_
  · intro j u hj
    match j, hj with
    | 0, hj => simp at hj; subst hj; rw [add_off]; exact hv
    | 1, hj => simp at hj; subst hj; rw [add_off]; exact hv1
  · intro u hu; simp at hu; subst hu; rfl
  · unfold maxLen; omega
  · omega
  · intro g' cap' w' hown' hgrow _ _
    rw [← dcells_two] at hown'
    exact h _ _ _ hown' ((Below.refl base w).grown hgrow hbase hlt)

theorem or64' (a b c : Int) (ha : 0 ≤ a) (ha1 : a < 65536) (hb : b = 65536 * c) (hc0 : 0 ≤ c) (hc1 : c < 281474976710656) : bits .or .u64 a b = a + b := by
  obtain ⟨A, rfl⟩ := Int.eq_ofNat_of_zero_le ha
  obtain ⟨C, rfl⟩ := Int.eq_ofNat_of_zero_le hc0
  have h3 := or_nat A (65536 * C) C 16 (by omega) (by omega)
  have hb' : b = ((65536 * C : Nat) : Int) := by omega
  rw [hb', u64_or_nat A (65536 * C) (by omega) (by omega), h3]
  omega
end Go.Proofs.YtgmnknmjainababGreat
