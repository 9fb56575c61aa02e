/-
  Plain arithmetic of bits: 'or' of numbers that share no bit is their sum; what num.Up and num.Down come to.
-/
import Derived.Test.YtibbhnmbmgllcaaNumF
import Derived.Laws.BitsAllLaws
namespace Go.Proofs.Ytibbhnmbmgllcaa
set_option linter.unusedVariables false
set_option linter.unusedSimpArgs false
set_option linter.unnecessarySimpa false
open Go.RowKit

theorem Q_nat (s : Nat) : Q s = ((2 ^ s : Nat) : Int) := by
  induction s with
  | zero => rfl
  | succ s ih => simp only [Q, ih, Nat.pow_succ]; omega
theorem Q_pow (s : Nat) : (2 : Int) ^ s = Q s := by rw [Q_nat]; simp
theorem Q_pos (s : Nat) : 1 ≤ Q s := by
  induction s with
  | zero => simp [Q]
  | succ s ih => simp only [Q]; omega
theorem Q_add (s t : Nat) : Q (s + t) = Q s * Q t := by
  induction t with
  | zero => simp [Q]
  | succ t ih => rw [Nat.add_succ]; simp only [Q]; rw [ih, Int.mul_left_comm]
theorem Q_mono {s t : Nat} (h : s ≤ t) : Q s ≤ Q t := by
  obtain ⟨u, rfl⟩ := Nat.exists_eq_add_of_le h
  rw [Q_add]
  have := Int.mul_le_mul_of_nonneg_left (Q_pos u) (show 0 ≤ Q s by have := Q_pos s; omega)
  omega
theorem Q16 : Q 16 = 65536 := rfl
theorem Q16_split {s : Nat} (h : s ≤ 16) : Q s * Q (16 - s) = 65536 := by rw [← Q_add, show s + (16 - s) = 16 by omega]; rfl
theorem Q_P (q : Nat) : Q (16 * q) = P q := by
  induction q with
  | zero => rfl
  | succ q ih => rw [Nat.mul_succ, Q_add, ih, Q16]; simp only [P]; omega
theorem Q_split (k : Nat) : Q k = Q (k % 16) * P (k / 16) := by
  rw [← Q_P, ← Q_add]; congr 1; omega

theorem or_nat (a b c s : Nat) (ha : a < 2 ^ s) (hb : b = 2 ^ s * c) : a ||| b = a + b := by
  subst hb
  rw [Nat.or_comm, ← Nat.two_pow_add_eq_or_of_lt ha c, Nat.add_comm]

theorem or16 (a b c : Int) (s : Nat) (hs : s ≤ 16) (ha : 0 ≤ a) (ha1 : a < Q s) (hb : b = Q s * c) (hb0 : 0 ≤ b) (hb1 : b < 65536) :
    bits .or .u16 a b = a + b ∧ a + b < 65536 := by
  have hQ : Q s ≤ 65536 := by rw [← Q16]; exact Q_mono hs
  have hc : 0 ≤ c := by
    rcases Int.lt_or_le c 0 with h | h
    · have := Q_pos s
      have := Int.mul_le_mul_of_nonneg_left (show c ≤ -1 by omega) (show 0 ≤ Q s by omega)
      omega
    · exact h
  obtain ⟨A, rfl⟩ := Int.eq_ofNat_of_zero_le ha
  obtain ⟨B, rfl⟩ := Int.eq_ofNat_of_zero_le hb0
  obtain ⟨C, rfl⟩ := Int.eq_ofNat_of_zero_le hc
  have hA : (A : Int) < 65536 := by omega
  rw [Q_nat] at ha1 hb
  have h1 : A < 2 ^ s := by omega
  have h2 : B = 2 ^ s * C := by have := hb; rw [← Int.natCast_mul] at this; omega
  have h3 := or_nat A B C s h1 h2
  rw [u16_or_nat A B (by omega) (by omega), h3]
  have h4 : A ||| B < 2 ^ 16 := Nat.or_lt_two_pow (by omega) (by omega)
  rw [h3] at h4
  exact ⟨by omega, by omega⟩

theorem or32 (a b c : Int) (ha : 0 ≤ a) (ha1 : a < 65536) (hb : b = 65536 * c) (hc0 : 0 ≤ c) (hc1 : c < 65536) : bits .or .u32 a b = a + b := by
  obtain ⟨A, rfl⟩ := Int.eq_ofNat_of_zero_le ha
  obtain ⟨C, rfl⟩ := Int.eq_ofNat_of_zero_le hc0
  have h3 := or_nat A (65536 * C) C 16 (by omega) (by omega)
  have hb' : b = ((65536 * C : Nat) : Int) := by omega
  rw [hb', u32_or_nat A (65536 * C) (by omega) (by omega), h3]
  omega

theorem and16 (x : Int) (s : Nat) (hs : s ≤ 16) (hx : 0 ≤ x) (hx1 : x < 65536) : bits .and .u16 x (Q s - 1) = x % Q s := by
  have hQ : Q s ≤ 65536 := by rw [← Q16]; exact Q_mono hs
  have hQ1 := Q_pos s
  obtain ⟨A, rfl⟩ := Int.eq_ofNat_of_zero_le hx
  rw [u16_and _ _ (by omega) (by omega) (by omega) (by omega)]
  have h1 : (Q s - 1).toNat = 2 ^ s - 1 := by rw [Q_nat]; omega
  rw [h1, Int.toNat_natCast, Nat.and_two_pow_sub_one_eq_mod, Q_nat]
  omega

/-- One step of num.Up: low and high part of a digit that is moved up. -/
theorem up_low (x : Int) (s : Nat) (hs : s ≤ 16) : ∃ c, x * Q s % 65536 = Q s * c := by
  refine ⟨x - Q (16 - s) * (x * Q s / 65536), ?_⟩
  have h := Q16_split hs
  rw [Int.mul_sub, ← Int.mul_assoc, h, Int.mul_comm (Q s) x]
  omega
theorem up_high (x : Int) (s : Nat) (hx : 0 ≤ x) (hx1 : x < 65536) : 0 ≤ x * Q s / 65536 ∧ x * Q s / 65536 < Q s := by
  have hQ1 := Q_pos s
  have h0 : 0 ≤ x * Q s := Int.mul_nonneg hx (by omega)
  have h1 : x * Q s + Q s ≤ 65536 * Q s := by
    have := Int.mul_le_mul_of_nonneg_right (show x + 1 ≤ 65536 by omega) (show 0 ≤ Q s by omega)
    rw [Int.add_mul] at this; omega
  omega
theorem up_lt (x : Int) (s : Nat) (hs : s < 16) (hx : 0 ≤ x) (hx1 : x < 65536) : 0 ≤ x * Q s ∧ x * Q s < 4294967296 := by
  have hQ : Q s ≤ Q 15 := Q_mono (by omega)
  have e15 : Q 15 = 32768 := rfl
  have h := up_high x s hx hx1
  have hQ1 := Q_pos s
  have h0 : 0 ≤ x * Q s := Int.mul_nonneg hx (by omega)
  omega
end Go.Proofs.Ytibbhnmbmgllcaa
