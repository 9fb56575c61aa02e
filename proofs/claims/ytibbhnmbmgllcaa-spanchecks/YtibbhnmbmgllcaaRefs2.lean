/-
  What tailsureref.Down, Up, Ratio, RatioOf, RightRatio, RightBits and Turn answer, where the lower number is less than 2 to the power of 48, and that they leave old memory alone.
-/
import Derived.Test.YtibbhnmbmgllcaaAddsC
namespace Go.Proofs.Ytibbhnmbmgllcaa
set_option linter.unusedVariables false
set_option linter.unusedSimpArgs false
set_option linter.unnecessarySimpa false
open Go.RowKit
attribute [local go_sem ↓] Go.wp_at_zero Go.wp_at_succ

/-- A number lies in a block. -/
structure NmC (w : World) (B : Nat) (x : Nm) : Prop where
  c0 : w.cell? ⟨B, 0, none⟩ = some (.bool x.neg)
  c1 : w.cell? ⟨B, 1, none⟩ = some (.slice x.a x.n x.cap)
theorem NmC.lt {w : World} {B : Nat} {x : Nm} (h : NmC w B x) : B < w.heap.size := World.block_lt_of_cell? w ⟨B, 0, none⟩ h.c0
theorem NmC.below {w w' : World} {B : Nat} {x : Nm} (h : NmC w B x) (hb : Below w.heap.size w w') : NmC w' B x :=
  ⟨(hb.cell (p := ⟨B, 0, none⟩) h.lt).trans h.c0, (hb.cell (p := ⟨B, 1, none⟩) h.lt).trans h.c1⟩
theorem nmc_new (w : World) (x : Nm) (T : TypeId) : NmC (w.alloc (.cells #[.bool x.neg, .slice x.a x.n x.cap] T)) w.heap.size x := ⟨by simp, by simp⟩
/-- The number 0 in a block that may be written. -/
structure NoI (w : World) (B : Nat) : Prop where
  c0 : w.cell? ⟨B, 0, none⟩ = some (.bool false)
  c1 : w.cell? ⟨B, 1, none⟩ = some (.slice none 0 0)
  fz : ∀ o, w.frozen? ⟨B, o, none⟩ = false
theorem NoI.lt {w : World} {B : Nat} (h : NoI w B) : B < w.heap.size := World.block_lt_of_cell? w ⟨B, 0, none⟩ h.c0
theorem NoI.below {w w' : World} {B : Nat} (h : NoI w B) (hb : Below w.heap.size w w') : NoI w' B :=
  ⟨(hb.cell (p := ⟨B, 0, none⟩) h.lt).trans h.c0, (hb.cell (p := ⟨B, 1, none⟩) h.lt).trans h.c1, fun o => (hb.frozen (p := ⟨B, o, none⟩) h.lt).trans (h.fz o)⟩
theorem set2 {B B' : Nat} {a w : World} (h : Below B a w) (hB : B ≤ B') (u0 u1 : Value) : Below B a ((w.setCell ⟨B', 0, none⟩ u0).setCell ⟨B', 1, none⟩ u1) :=
  (h.setCell (p := ⟨B', 0, none⟩) hB u0).setCell (p := ⟨B', 1, none⟩) hB u1

/-- A number, as a call answers it. -/
def IntAns (w : World) (k : Nat) (z : Int) (r : Ending) (w' : World) : Prop :=
  ∃ neg' a' n' cap', r = .returned (.agg #[.bool neg', .slice a' n' cap']) ∧ IntAt w' neg' a' n' cap' k z ∧ Below w.heap.size w w'
theorem IntAns.mono {w : World} {k k' : Nat} {z : Int} {r : Ending} {w' : World} (h : IntAns w k z r w') (hk : k ≤ k') : IntAns w k' z r w' := by
  obtain ⟨n1, n2, n3, n4, h1, h2, h3⟩ := h
  exact ⟨n1, n2, n3, n4, h1, h2.mono hk, h3⟩

set_option maxRecDepth 100000 in
set_option maxHeartbeats 2000000 in
theorem refDown_core (neg neg2 : Bool) (a c : Option Addr) (n m cap cap2 k k2 : Nat) (x y : Int) (w : World) (h1 : IntAt w neg a n cap k x) (h2 : IntAt w neg2 c m cap2 k2 y) (hk : k ≤ 700000000) (hk2 : k2 ≤ 100000000) (hfl : ∀ w', IntAt w' neg a n cap k x → IntAt w' neg2 c m cap2 k2 y → Calls Try.prog 103 #[.agg #[.bool neg, .slice a n cap], .agg #[.bool neg2, .slice c m cap2]] w' (FloorAns w' k (x / y))) :
    Calls Try.prog 99 #[.agg #[.bool neg, .slice a n cap], .agg #[.bool neg2, .slice c m cap2]] w (IntAns w (k + 8) (x / y)) := by
  have HF := hide hfl
  clear hfl
  have le2 : w.heap.size ≤ w.heap.size + 1 + 1 := by omega
  go_enter Try.func99, Try.ntmps99
  go_wp2_with fail
  refine (unhide HF _ (h1.below (bl3 _ _ _ _)) (h2.below (bl3 _ _ _ _))).mono ?_
  rintro r w1 ⟨neg1, a1, n1, c1, rfl, hint1, hb1⟩
  obtain ⟨hsz1, hcell1, hfz1⟩ := near (w.heap.size + 1 + 1 + 1) (by simp) hb1
  go_wp2_with fail
  have q0 : w1.cell? ⟨w.heap.size + 1 + 1, 0, none⟩ = some (.bool false) := by simp [hcell1, go_sem]
  have q1 : w1.cell? ⟨w.heap.size + 1 + 1, 1, none⟩ = some (.slice none 0 0) := by simp [hcell1, go_sem]
  refine bodyPost_ret (v := .agg #[.bool neg1, .slice a1 n1 c1]) (by simp [results, Try.results99, go_sem, q0, q1]) rfl ⟨neg1, a1, n1, c1, rfl, hint1.put2 q0 q1 _ _, ?_⟩
  exact set2 (bthen (bl3 _ _ _ _) hb1) le2 _ _

theorem ceil_up {x y : Int} (hy : 0 < y) (h : x / y * y < x) : x / y + 1 = -(-x / y) := by
  have h1 := Int.mul_ediv_add_emod x y
  have h2 := Int.mul_ediv_add_emod (-x) y
  have h3 := Int.emod_lt_of_pos x hy
  have h4 := Int.emod_nonneg (-x) (show y ≠ 0 by omega)
  have h5 := Int.emod_lt_of_pos (-x) hy
  rw [Int.mul_comm y] at h1 h2
  generalize x / y = p at *
  generalize -x / y = q at *
  generalize x % y = r at *
  generalize -x % y = t at *
  -- (p + q) * y = -(r + t), and r + t is from 1 to 2y - 1
  have h6 : (p + q) * y = p * y + q * y := Int.add_mul _ _ _
  have h7 : p + q < 0 := by
    rcases Int.lt_or_le (p + q) 0 with h | h
    · exact h
    · have := Int.mul_nonneg h (show 0 ≤ y by omega); omega
  have h8 : -2 < p + q := by
    rcases Int.lt_or_le (-2) (p + q) with h | h
    · exact h
    · have := Int.mul_le_mul_of_nonneg_right h (show 0 ≤ y by omega); omega
  omega
theorem ceil_same {x y : Int} (hy : 0 < y) (h : ¬ x / y * y < x) : x / y = -(-x / y) := by
  have h1 := Int.mul_ediv_add_emod x y
  have h3 := Int.emod_nonneg x (show y ≠ 0 by omega)
  rw [Int.mul_comm y] at h1
  have h4 : x = x / y * y := by omega
  have h5 : -x = -(x / y) * y := by rw [Int.neg_mul]; omega
  rw [h5, Int.mul_ediv_cancel _ (show y ≠ 0 by omega)]; omega

set_option maxRecDepth 100000 in
set_option maxHeartbeats 4000000 in
theorem refUp_core (neg neg2 : Bool) (a c : Option Addr) (n m cap cap2 k k2 : Nat) (x y : Int) (w : World) (h1 : IntAt w neg a n cap k x) (h2 : IntAt w neg2 c m cap2 k2 y) (hk : k ≤ 700000000) (hk2 : k2 ≤ 100000000) (hy : 0 < y) (hfl : ∀ w', IntAt w' neg a n cap k x → IntAt w' neg2 c m cap2 k2 y → Calls Try.prog 103 #[.agg #[.bool neg, .slice a n cap], .agg #[.bool neg2, .slice c m cap2]] w' (FloorAns w' k (x / y))) :
    Calls Try.prog 100 #[.agg #[.bool neg, .slice a n cap], .agg #[.bool neg2, .slice c m cap2]] w (IntAns w (k + 9) (-(-x / y))) := by
  have HF := hide hfl
  clear hfl
  by_cases hlt : x / y * y < x
  · have t1 : cmpInt (x / y * y) x < 0 := by simp [cmpInt, hlt]
    have HE := hide (ceil_up hy hlt)
    clear hlt
    go_enter Try.func100, Try.ntmps100
    go_wp2_with fail
    refine (unhide HF _ (h1.below (bl3 _ _ _ _)) (h2.below (bl3 _ _ _ _))).mono ?_
    rintro r w1 ⟨neg1, a1, n1, c1, rfl, hint1, hb1⟩
    have hBw : Below w.heap.size w w1 := bthen (bl3 _ _ _ _) hb1
    obtain ⟨hsz1, hcell1, hfz1⟩ := near (w.heap.size + 1 + 1 + 1) (by simp) hb1
    have A : NmC w1 w.heap.size ⟨neg, a, n, cap⟩ := ⟨by simp [hcell1, go_sem], by simp [hcell1, go_sem]⟩
    have G : NmC w1 (w.heap.size + 1) ⟨neg2, c, m, cap2⟩ := ⟨by simp [hcell1, go_sem], by simp [hcell1, go_sem]⟩
    have R : NoI w1 (w.heap.size + 1 + 1) := ⟨by simp [hcell1, go_sem], by simp [hcell1, go_sem], fun o => by simp [hfz1, go_sem]⟩
    have hnr := R.lt
    clear hcell1 hfz1 hb1 hsz1
    obtain ⟨W1, hW1⟩ : ∃ W', W' = w1.alloc (.cells #[.bool neg1, .slice a1 n1 c1] 24) := ⟨_, rfl⟩
    have hc1 : Below w1.heap.size w1 W1 := by rw [hW1]; exact bl1 _ _
    have X : NmC W1 w1.heap.size ⟨neg1, a1, n1, c1⟩ := by rw [hW1]; exact nmc_new w1 ⟨neg1, a1, n1, c1⟩ _
    replace A := A.below hc1
    replace G := G.below hc1
    replace R := R.below hc1
    have hB2 := bthen hBw hc1
    have HX := hide (h1.below hB2)
    have HY := hide (h2.below hB2)
    replace hint1 := hide (hint1.below hc1)
    have lR := R.lt
    have lX := X.lt
    have nR : w1.heap.size ≠ w.heap.size + 1 + 1 := Nat.ne_of_gt hnr
    have nR' : w.heap.size + 1 + 1 ≠ w1.heap.size := fun e => nR e.symm
    have hB0 : Below W1.heap.size W1 W1.drew := (Below.refl _ _).drew
    have HK := hide (show ∀ w', Below W1.heap.size W1 w' → (w'.cell? ⟨w.heap.size, 0, none⟩ = some (.bool neg) ∧ w'.cell? ⟨w.heap.size, 1, none⟩ = some (.slice a n cap) ∧ w'.cell? ⟨w.heap.size + 1, 0, none⟩ = some (.bool neg2) ∧ w'.cell? ⟨w.heap.size + 1, 1, none⟩ = some (.slice c m cap2) ∧ w'.cell? ⟨w1.heap.size, 0, none⟩ = some (.bool neg1) ∧ w'.cell? ⟨w1.heap.size, 1, none⟩ = some (.slice a1 n1 c1)) from fun w' hB =>
      ⟨(A.below hB).c0, (A.below hB).c1, (G.below hB).c0, (G.below hB).c1, (X.below hB).c0, (X.below hB).c1⟩)
    go_wp2
    rw [← hW1]
    clear hW1
    obtain ⟨j0, j1, j2, j3, j4, j5⟩ := unhide HK _ (Below.refl _ _)
    go_region_held3 (fun w' => w'.cell? ⟨w.heap.size, 0, none⟩ = some (.bool neg) ∧ w'.cell? ⟨w.heap.size, 1, none⟩ = some (.slice a n cap) ∧ w'.cell? ⟨w.heap.size + 1, 0, none⟩ = some (.bool neg2) ∧ w'.cell? ⟨w.heap.size + 1, 1, none⟩ = some (.slice c m cap2) ∧ w'.cell? ⟨w1.heap.size, 0, none⟩ = some (.bool neg1) ∧ w'.cell? ⟨w1.heap.size, 1, none⟩ = some (.slice a1 n1 c1)) (exact unhide HK _ (by first | with_reducible exact hB0 | with_reducible exact hB5 | with_reducible exact hB4))
      (first
        | (go_at_call 52; refine (mul_int _ _ _ _ _ _ _ _ (k + 8) k2 (x / y) y _ ((unhide hint1).below hB0) ((unhide HY).below hB0) (by omega) (by omega)).mono ?_; rintro r w4 ⟨neg4, a4, n4, c4, rfl, hint4, hb4⟩; have hB4 := bthen hB0 hb4)
        | (go_at_call 33; refine (cmp_int _ _ _ _ _ _ _ _ (k + 8 + k2) k (x / y * y) x _ hint4 ((unhide HX).below hB4)).mono ?_; rintro r w5 ⟨rfl, hb5⟩; have hB5 := bthen hB4 hb5))
    clear j0 j1 j2 j3 j4 j5
    have X5 := X.below hB5
    have R5 := R.below hB5
    have lR5 := R5.lt
    have lX5 := X5.lt
    obtain ⟨j4, j5⟩ := X5
    obtain ⟨q0, q1, q2⟩ := R5
    have hD0 : Below w5.heap.size w5 w5.drew := (Below.refl _ _).drew
    have X5 : NmC w5 w1.heap.size ⟨neg1, a1, n1, c1⟩ := ⟨j4, j5⟩
    have R5 : NoI w5 (w.heap.size + 1 + 1) := ⟨q0, q1, q2⟩
    have HK5 := hide (show ∀ w', Below w5.heap.size w5 w' → (w'.cell? ⟨w1.heap.size, 0, none⟩ = some (.bool neg1) ∧ w'.cell? ⟨w1.heap.size, 1, none⟩ = some (.slice a1 n1 c1)) from fun w' hB => ⟨(X5.below hB).c0, (X5.below hB).c1⟩)
    go_wp2
    go_region_held3 (fun w' => w'.cell? ⟨w1.heap.size, 0, none⟩ = some (.bool neg1) ∧ w'.cell? ⟨w1.heap.size, 1, none⟩ = some (.slice a1 n1 c1)) (first | exact unhide HK5 _ (by first | with_reducible exact hD0 | with_reducible exact hD7 | with_reducible exact hD6) | go_keep)
      (first
        | (go_at_call 62; refine (numOf_int 1 _ (by decide) (by decide)).mono ?_; rintro r w6 ⟨neg6, a6, n6, c6, rfl, hint6, hb6⟩; have hD6 := bthen hD0 hb6)
        | (go_at_call 49; refine (add_int _ _ _ _ _ _ _ _ (k + 8) 4 (x / y) 1 _ (((unhide hint1).below hB5).below hD6) hint6 (by omega) (by omega)).mono ?_; rintro r w7 ⟨neg7, a7, n7, c7, rfl, hint7, hb7⟩; have hD7 := bthen hD6 hb7; obtain ⟨p0, p1, p2⟩ := R5.below hD7; obtain ⟨i0, i1⟩ := unhide HK5 _ hD7))
    go_wp2
    refine bodyPost_ret (v := .agg #[.bool neg7, .slice a7 n7 c7]) (by simp [results, Try.results100, go_sem, p0, p1]) rfl ⟨neg7, a7, n7, c7, rfl, ?_, ?_⟩
    · rw [unhide HE] at hint7
      exact (hint7.put2 p0 p1 _ _).mono (by omega)
    · exact set2 (bthen (bthen hB2 hB5) hD7) (by omega) _ _
  · have t1 : ¬ cmpInt (x / y * y) x < 0 := cmpInt_ge0 hlt
    have HE := hide (ceil_same hy hlt)
    clear hlt
    go_enter Try.func100, Try.ntmps100
    go_wp2_with fail
    refine (unhide HF _ (h1.below (bl3 _ _ _ _)) (h2.below (bl3 _ _ _ _))).mono ?_
    rintro r w1 ⟨neg1, a1, n1, c1, rfl, hint1, hb1⟩
    have hBw : Below w.heap.size w w1 := bthen (bl3 _ _ _ _) hb1
    obtain ⟨hsz1, hcell1, hfz1⟩ := near (w.heap.size + 1 + 1 + 1) (by simp) hb1
    have A : NmC w1 w.heap.size ⟨neg, a, n, cap⟩ := ⟨by simp [hcell1, go_sem], by simp [hcell1, go_sem]⟩
    have G : NmC w1 (w.heap.size + 1) ⟨neg2, c, m, cap2⟩ := ⟨by simp [hcell1, go_sem], by simp [hcell1, go_sem]⟩
    have R : NoI w1 (w.heap.size + 1 + 1) := ⟨by simp [hcell1, go_sem], by simp [hcell1, go_sem], fun o => by simp [hfz1, go_sem]⟩
    have hnr := R.lt
    clear hcell1 hfz1 hb1 hsz1
    obtain ⟨W1, hW1⟩ : ∃ W', W' = w1.alloc (.cells #[.bool neg1, .slice a1 n1 c1] 24) := ⟨_, rfl⟩
    have hc1 : Below w1.heap.size w1 W1 := by rw [hW1]; exact bl1 _ _
    have X : NmC W1 w1.heap.size ⟨neg1, a1, n1, c1⟩ := by rw [hW1]; exact nmc_new w1 ⟨neg1, a1, n1, c1⟩ _
    replace A := A.below hc1
    replace G := G.below hc1
    replace R := R.below hc1
    have hB2 := bthen hBw hc1
    have HX := hide (h1.below hB2)
    have HY := hide (h2.below hB2)
    replace hint1 := hide (hint1.below hc1)
    have lR := R.lt
    have lX := X.lt
    have nR : w1.heap.size ≠ w.heap.size + 1 + 1 := Nat.ne_of_gt hnr
    have nR' : w.heap.size + 1 + 1 ≠ w1.heap.size := fun e => nR e.symm
    have hB0 : Below W1.heap.size W1 W1.drew := (Below.refl _ _).drew
    have HK := hide (show ∀ w', Below W1.heap.size W1 w' → (w'.cell? ⟨w.heap.size, 0, none⟩ = some (.bool neg) ∧ w'.cell? ⟨w.heap.size, 1, none⟩ = some (.slice a n cap) ∧ w'.cell? ⟨w.heap.size + 1, 0, none⟩ = some (.bool neg2) ∧ w'.cell? ⟨w.heap.size + 1, 1, none⟩ = some (.slice c m cap2) ∧ w'.cell? ⟨w1.heap.size, 0, none⟩ = some (.bool neg1) ∧ w'.cell? ⟨w1.heap.size, 1, none⟩ = some (.slice a1 n1 c1)) from fun w' hB =>
      ⟨(A.below hB).c0, (A.below hB).c1, (G.below hB).c0, (G.below hB).c1, (X.below hB).c0, (X.below hB).c1⟩)
    go_wp2
    rw [← hW1]
    clear hW1
    obtain ⟨j0, j1, j2, j3, j4, j5⟩ := unhide HK _ (Below.refl _ _)
    go_region_held3 (fun w' => w'.cell? ⟨w.heap.size, 0, none⟩ = some (.bool neg) ∧ w'.cell? ⟨w.heap.size, 1, none⟩ = some (.slice a n cap) ∧ w'.cell? ⟨w.heap.size + 1, 0, none⟩ = some (.bool neg2) ∧ w'.cell? ⟨w.heap.size + 1, 1, none⟩ = some (.slice c m cap2) ∧ w'.cell? ⟨w1.heap.size, 0, none⟩ = some (.bool neg1) ∧ w'.cell? ⟨w1.heap.size, 1, none⟩ = some (.slice a1 n1 c1)) (exact unhide HK _ (by first | with_reducible exact hB0 | with_reducible exact hB5 | with_reducible exact hB4))
      (first
        | (go_at_call 52; refine (mul_int _ _ _ _ _ _ _ _ (k + 8) k2 (x / y) y _ ((unhide hint1).below hB0) ((unhide HY).below hB0) (by omega) (by omega)).mono ?_; rintro r w4 ⟨neg4, a4, n4, c4, rfl, hint4, hb4⟩; have hB4 := bthen hB0 hb4)
        | (go_at_call 33; refine (cmp_int _ _ _ _ _ _ _ _ (k + 8 + k2) k (x / y * y) x _ hint4 ((unhide HX).below hB4)).mono ?_; rintro r w5 ⟨rfl, hb5⟩; have hB5 := bthen hB4 hb5))
    clear j0 j1 j2 j3 j4 j5
    have X5 := X.below hB5
    have R5 := R.below hB5
    have lR5 := R5.lt
    have lX5 := X5.lt
    obtain ⟨j4, j5⟩ := X5
    obtain ⟨q0, q1, q2⟩ := R5
    go_wp2
    refine bodyPost_ret (v := .agg #[.bool neg1, .slice a1 n1 c1]) (by simp [results, Try.results100, go_sem, q0, q1]) rfl ⟨neg1, a1, n1, c1, rfl, ?_, ?_⟩
    · replace hint1 := (unhide hint1).below hB5
      rw [unhide HE] at hint1
      exact (hint1.put2 q0 q1 _ _).mono (by omega)
    · exact set2 (bthen hB2 hB5) (by omega) _ _
end Go.Proofs.Ytibbhnmbmgllcaa
