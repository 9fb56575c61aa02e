/-
  Plain arithmetic: what num.plus, num.less and num.compare come to, of the numbers that the digits are.
-/
import Derived.Test.YtibbhnmbmgllcaaNumB
namespace Go.Proofs.Ytibbhnmbmgllcaa
set_option linter.unusedVariables false
set_option linter.unusedSimpArgs false
set_option linter.unnecessarySimpa false
open Go.RowKit

theorem V_dg (d : Nat → Int) (n N : Nat) (h : n ≤ N) : V (dg d n) N = V d n := by
  induction N with
  | zero => have : n = 0 := by omega
            subst this; rfl
  | succ N ih =>
    by_cases hN : n = N + 1
    · subst hN
      apply V_congr
      intro j hj; simp [dg, hj]
    · simp only [V]
      rw [ih (by omega)]
      have : ¬ N < n := by omega
      simp [dg, this]

theorem plus_V_aux (d e : Nat → Int) (n m k : Nat) : V (plusD d e n m) k + carryP d e n m k * P k = V (dg d n) k + V (dg e m) k := by
  induction k with
  | zero => simp [V, carryP]
  | succ k ih =>
    simp only [V, P]
    have h1 : plusD d e n m k + 65536 * carryP d e n m (k + 1) = carryP d e n m k + dg d n k + dg e m k := by
      simp only [plusD, carryP]; omega
    have h2 : plusD d e n m k * P k + 65536 * carryP d e n m (k + 1) * P k = carryP d e n m k * P k + dg d n k * P k + dg e m k * P k := by
      rw [← Int.add_mul, h1, Int.add_mul, Int.add_mul]
    have h3 : carryP d e n m (k + 1) * (65536 * P k) = 65536 * carryP d e n m (k + 1) * P k := by
      rw [← Int.mul_assoc, Int.mul_comm (carryP d e n m (k + 1)) 65536]
    omega

theorem plusD_dgs (d e : Nat → Int) (n m : Nat) : Dgs (plusD d e n m) := by
  intro j; simp only [plusD]; omega

theorem plus_V {d e : Nat → Int} (hd : Dgs d) (he : Dgs e) (n m : Nat) : V (plusD d e n m) (max n m + 1) = V d n + V e m := by
  have h := plus_V_aux d e n m (max n m + 1)
  rw [V_dg d n _ (by omega), V_dg e m _ (by omega)] at h
  have c0 := carryP_bd hd he n m (max n m + 1)
  have b1 := V_lt hd n
  have b2 := V_lt he m
  have p1 : P n ≤ P (max n m) := P_mono (by omega)
  have p2 : P m ≤ P (max n m) := P_mono (by omega)
  have b3 := V_nonneg (plusD_dgs d e n m) (max n m + 1)
  have hP : P (max n m + 1) = 65536 * P (max n m) := rfl
  have hp := P_pos (max n m)
  by_cases hc : carryP d e n m (max n m + 1) = 0
  · rw [hc] at h; omega
  · have : carryP d e n m (max n m + 1) = 1 := by omega
    rw [this] at h; omega

theorem less_V_aux (d e : Nat → Int) (m k : Nat) : V (lessD d e m) k - borrowL d e m k * P k = V d k - V (dg e m) k := by
  induction k with
  | zero => simp [V, borrowL]
  | succ k ih =>
    simp only [V, P]
    have h1 : lessD d e m k - 65536 * borrowL d e m (k + 1) = d k - borrowL d e m k - dg e m k := by
      simp only [lessD, borrowL]; split <;> omega
    have h2 : lessD d e m k * P k - 65536 * borrowL d e m (k + 1) * P k = d k * P k - borrowL d e m k * P k - dg e m k * P k := by
      rw [← Int.sub_mul, h1, Int.sub_mul, Int.sub_mul]
    have h3 : borrowL d e m (k + 1) * (65536 * P k) = 65536 * borrowL d e m (k + 1) * P k := by
      rw [← Int.mul_assoc, Int.mul_comm (borrowL d e m (k + 1)) 65536]
    omega

theorem lessD_dgs {d e : Nat → Int} (hd : Dgs d) (he : Dgs e) (m : Nat) : Dgs (lessD d e m) := by
  intro j
  have := hd j; have := he j; have := borrowL_bd d e m j
  simp only [lessD, dg]; split <;> split <;> omega

theorem less_V {d e : Nat → Int} (hd : Dgs d) (he : Dgs e) (n m : Nat) (hnm : m ≤ n) (h : V e m ≤ V d n) : V (lessD d e m) n = V d n - V e m := by
  have h1 := less_V_aux d e m n
  rw [V_dg e m _ hnm] at h1
  have c0 := borrowL_bd d e m n
  have b3 := V_lt (lessD_dgs hd he m) n
  by_cases hc : borrowL d e m n = 0
  · rw [hc] at h1; omega
  · have : borrowL d e m n = 1 := by omega
    rw [this] at h1; omega

/-- Digits held against digits are numbers held against numbers. -/
def cmpInt (x y : Int) : Int := if x < y then -1 else if y < x then 1 else 0

theorem cmpTo_V {d e : Nat → Int} (hd : Dgs d) (he : Dgs e) (n : Nat) : cmpTo d e n = cmpInt (V d n) (V e n) := by
  induction n with
  | zero => simp [cmpTo, cmpInt, V]
  | succ n ih =>
    simp only [cmpTo, V]
    have a1 := V_lt hd n
    have a2 := V_lt he n
    have a3 := V_nonneg hd n
    have a4 := V_nonneg he n
    have hp := P_pos n
    by_cases h1 : d n < e n
    · have : d n * P n + P n ≤ e n * P n := by
        have := Int.mul_le_mul_of_nonneg_right (show d n + 1 ≤ e n by omega) (show 0 ≤ P n by omega)
        rw [Int.add_mul] at this; omega
      simp only [h1, if_true, cmpInt]; rw [if_pos (by omega)]
    · by_cases h2 : e n < d n
      · have : e n * P n + P n ≤ d n * P n := by
          have := Int.mul_le_mul_of_nonneg_right (show e n + 1 ≤ d n by omega) (show 0 ≤ P n by omega)
          rw [Int.add_mul] at this; omega
        simp only [h1, h2, if_true, if_false, cmpInt]; rw [if_neg (by omega), if_pos (by omega)]
      · have : d n = e n := by omega
        simp only [h1, h2, if_false, ih, this]
        generalize e n * P n = t
        unfold cmpInt
        repeat' split
        all_goals omega

theorem V_ge {d : Nat → Int} (hd : Dgs d) (n : Nat) (h : d n ≠ 0) : P n ≤ V d (n + 1) := by
  simp only [V]
  have := V_nonneg hd n
  have := hd n
  have hp := P_pos n
  have := Int.mul_le_mul_of_nonneg_right (show 1 ≤ d n by omega) (show 0 ≤ P n by omega)
  omega

theorem cmpZ_V {d e : Nat → Int} (hd : Dgs d) (he : Dgs e) (n m : Nat) (h1 : n = 0 ∨ d (n - 1) ≠ 0) (h2 : m = 0 ∨ e (m - 1) ≠ 0) : cmpZ d e n m = cmpInt (V d n) (V e m) := by
  unfold cmpZ
  by_cases hlt : n < m
  · have := V_lt hd n
    have hm : e (m - 1) ≠ 0 := by omega
    have := V_ge he (m - 1) hm
    have e1 : m - 1 + 1 = m := by omega
    rw [e1] at this
    have := P_mono (show n ≤ m - 1 by omega)
    simp only [hlt, if_true, cmpInt]; rw [if_pos (by omega)]
  · by_cases hgt : m < n
    · have := V_lt he m
      have hm : d (n - 1) ≠ 0 := by omega
      have := V_ge hd (n - 1) hm
      have e1 : n - 1 + 1 = n := by omega
      rw [e1] at this
      have := P_mono (show m ≤ n - 1 by omega)
      simp only [hlt, hgt, if_true, if_false, cmpInt]; rw [if_neg (by omega), if_pos (by omega)]
    · have : n = m := by omega
      subst this
      simp only [hlt, if_false]; exact cmpTo_V hd he n

theorem sgn_nonneg_lt {d e : Nat → Int} (hd : Dgs d) (he : Dgs e) (neg neg2 : Bool) (n m : Nat) (h1 : n = 0 ∨ d (n - 1) ≠ 0) (h2 : m = 0 ∨ e (m - 1) ≠ 0) (h3 : n = 0 → neg = false) (h4 : m = 0 → neg2 = false) :
    cmpI neg neg2 d e n m = cmpInt (sgn neg (V d n)) (sgn neg2 (V e m)) := by
  have c := cmpZ_V hd he n m h1 h2
  have a3 := V_nonneg hd n
  have a4 := V_nonneg he m
  have pos1 : neg = true → 1 ≤ V d n := fun hn => by
    have hn0 : n ≠ 0 := fun h0 => by rw [h3 h0] at hn; cases hn
    have := V_ge hd (n - 1) (by omega)
    have e1 : n - 1 + 1 = n := by omega
    rw [e1] at this
    have := P_pos (n - 1); omega
  have pos2 : neg2 = true → 1 ≤ V e m := fun hn => by
    have hn0 : m ≠ 0 := fun h0 => by rw [h4 h0] at hn; cases hn
    have := V_ge he (m - 1) (by omega)
    have e1 : m - 1 + 1 = m := by omega
    rw [e1] at this
    have := P_pos (m - 1); omega
  generalize V d n = x at *
  generalize V e m = y at *
  clear h1 h2 h3 h4
  cases neg <;> cases neg2 <;> simp [cmpI, sgn, c] at * <;> unfold cmpInt <;> repeat' split
  all_goals omega
end Go.Proofs.Ytibbhnmbmgllcaa
