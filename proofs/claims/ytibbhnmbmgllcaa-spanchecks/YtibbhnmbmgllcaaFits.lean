/-
  Plain arithmetic: how many bits a number has hangs on the number alone; what Check says of a right span; roots.
-/
import Derived.Test.YtibbhnmbmgllcaaSpanL
namespace Go.Proofs.Ytibbhnmbmgllcaa
set_option linter.unusedVariables false
set_option linter.unusedSimpArgs false
set_option linter.unnecessarySimpa false
open Go.RowKit

theorem blenF_Q (f : Nat) : ∀ x : Int, 0 < x → x < Q f → ∃ b : Nat, blenF f x = (b : Int) + 1 ∧ Q b ≤ x ∧ x < Q (b + 1) := by
  induction f with
  | zero => intro x h0 h1; simp [Q] at h1; omega
  | succ f ih =>
    intro x h0 h1
    have hx : ¬ x ≤ 0 := by omega
    simp only [blenF, hx, if_false]
    simp only [Q] at h1
    by_cases h2 : x / 2 = 0
    · refine ⟨0, ?_, by simp [Q]; omega, by simp [Q]; omega⟩
      rw [h2]; cases f <;> simp [blenF]
    · obtain ⟨b, e1, e2, e3⟩ := ih (x / 2) (by omega) (by omega)
      refine ⟨b + 1, by rw [e1]; omega, ?_, ?_⟩
      · simp only [Q]; omega
      · simp only [Q] at *; omega

theorem lenZ_Q {d : Nat → Int} (hd : Dgs d) {n : Nat} (hn : 0 < n) (ht : d (n - 1) ≠ 0) : ∃ L : Nat, lenZ n d = (L : Int) + 1 ∧ Q L ≤ V d n ∧ V d n < Q (L + 1) := by
  obtain ⟨m, rfl⟩ : ∃ m, n = m + 1 := ⟨n - 1, by omega⟩
  simp only [Nat.add_sub_cancel] at ht
  have hx := hd m
  obtain ⟨b, e1, e2, e3⟩ := blenF_Q 16 (d m) (by omega) (by rw [Q16]; omega)
  refine ⟨16 * m + b, ?_, ?_, ?_⟩
  · unfold lenZ; rw [if_neg (by omega)]; simp only [Nat.add_sub_cancel]; rw [e1]; omega
  · rw [Q_add, Q_P]; simp only [V]
    have h1 := V_nonneg hd m
    have h2 : P m * Q b ≤ P m * d m := Int.mul_le_mul_of_nonneg_left e2 (by have := P_pos m; omega)
    rw [Int.mul_comm (d m)]; omega
  · rw [show 16 * m + b + 1 = 16 * m + (b + 1) by omega, Q_add, Q_P]; simp only [V]
    have h1 := V_lt hd m
    have h2 : P m * (d m + 1) ≤ P m * Q (b + 1) := Int.mul_le_mul_of_nonneg_left (by omega) (by have := P_pos m; omega)
    rw [Int.mul_add, Int.mul_one] at h2
    rw [Int.mul_comm (d m)]; omega

/-- Too many bits. -/
def big (z : Int) : Prop := Q 4000 ≤ z ∨ z ≤ - Q 4000
instance (z : Int) : Decidable (big z) := by unfold big; infer_instance

theorem lenZ_big {d : Nat → Int} (hd : Dgs d) {n : Nat} (ht : n = 0 ∨ d (n - 1) ≠ 0) (neg : Bool) : 4000 < lenZ n d ↔ big (sgn neg (V d n)) := by
  have hq := Q_pos 4000
  by_cases hn : n = 0
  · subst hn
    have h1 : lenZ 0 d = 0 := by simp [lenZ]
    have h2 : sgn neg (V d 0) = 0 := by cases neg <;> simp [sgn, V]
    rw [h1, h2]; unfold big; constructor <;> intro h <;> omega
  · obtain ⟨L, e1, e2, e3⟩ := lenZ_Q hd (show 0 < n by omega) (by omega)
    rw [e1]
    have key : (4000 : Int) < (L : Int) + 1 ↔ Q 4000 ≤ V d n := by
      constructor
      · intro h
        have := Q_mono (show 4000 ≤ L by omega)
        omega
      · intro h
        rcases Nat.lt_or_ge 4000 (L + 1) with h2 | h2
        · omega
        · have := Q_mono h2; omega
    have hv := V_nonneg hd n
    rw [key]; unfold big
    cases neg <;> simp only [sgn] <;> constructor <;> intro h <;> simp at * <;> omega

theorem newton_up {a x : Int} (hx : 0 < x) : a < ((x + a / x) / 2 + 1) * ((x + a / x) / 2 + 1) := by
  obtain ⟨t, ht⟩ : ∃ t, t = a / x := ⟨_, rfl⟩
  obtain ⟨y, hy⟩ : ∃ y, y = (x + t) / 2 := ⟨_, rfl⟩
  rw [← ht, ← hy]
  have h1 : a < (t + 1) * x := by
    have h2 := Int.mul_ediv_add_emod a x
    have h3 := Int.emod_lt_of_pos a hx
    rw [← ht] at h2
    rw [Int.add_mul, Int.one_mul, Int.mul_comm t x]; omega
  have h4 : (x + t + 1) * x ≤ (2 * y + 2) * x := Int.mul_le_mul_of_nonneg_right (by omega) (by omega)
  have h5 : 0 ≤ (y + 1 - x) * (y + 1 - x) := by
    rcases Int.le_total 0 (y + 1 - x) with h | h
    · exact Int.mul_nonneg h h
    · exact Int.mul_nonneg_of_nonpos_of_nonpos h h
  have h6 : (y + 1 - x) * (y + 1 - x) = (y + 1) * (y + 1) - 2 * ((y + 1) * x) + x * x := by
    rw [Int.sub_mul, Int.mul_sub, Int.mul_sub, Int.mul_comm x (y + 1)]; omega
  have h7 : (2 * y + 2) * x = 2 * ((y + 1) * x) := by rw [← Int.mul_assoc]; congr 1; omega
  have h8 : (x + t + 1) * x = x * x + (t + 1) * x := by rw [← Int.add_mul]; congr 1; omega
  omega

theorem newton_end {a x : Int} (hx : 0 < x) (ha : 0 ≤ a) (h : x ≤ (x + a / x) / 2) : x * x ≤ a := by
  have h1 : x ≤ a / x := by omega
  have h2 := Int.mul_ediv_add_emod a x
  have h3 := Int.emod_nonneg a (show x ≠ 0 by omega)
  have h4 := Int.mul_le_mul_of_nonneg_left h1 (show 0 ≤ x by omega)
  omega
theorem sq_lt {x y : Int} (hx : 0 ≤ x) (hy : 0 ≤ y) (h : x * x < y * y) : x < y := by
  rcases Int.lt_or_le x y with h1 | h1
  · exact h1
  · have := Int.mul_le_mul h1 h1 hy hx; omega
/-- A root is one number. -/
theorem root_uniq {a x y : Int} (hx : 0 ≤ x) (hy : 0 ≤ y) (h1 : x * x ≤ a) (h2 : a < (x + 1) * (x + 1)) (h3 : y * y ≤ a) (h4 : a < (y + 1) * (y + 1)) : x = y := by
  have := sq_lt hx (show 0 ≤ y + 1 by omega) (by omega)
  have := sq_lt hy (show 0 ≤ x + 1 by omega) (by omega)
  omega

/-- Whether a span is too wide. -/
def bigs (lo hi : Int) : Prop := big lo ∨ big hi
instance (lo hi : Int) : Decidable (bigs lo hi) := by unfold bigs; infer_instance
/-- What comes of a span of right bits: an errno, and numbers. -/
def fitE (lo hi : Int) : Int := if bigs lo hi then 2 else 0
def fitZ (lo hi z : Int) : Int := if bigs lo hi then 0 else z

theorem rightB_of {neg : Bool} {n : Nat} {d : Nat → Int} (h1 : n = 0 ∨ d (n - 1) ≠ 0) (h2 : n = 0 → neg = false) : rightB neg n d ≠ false := by
  unfold rightB
  by_cases h0 : n = 0
  · simp [h0, h2 h0]
  · rw [if_neg h0]; simpa using (show d (n - 1) ≠ 0 by omega)

/-- What Check says of a right span of right bits. -/
theorem chk_fit {w : World} {s : Sp} {k : Nat} {lo hi : Int} (h : SpAt w s k lo hi) (hle : lo ≤ hi) (h1 : 1 ≤ s.bits) (h2 : s.bits ≤ 120) : ∃ d e, SpDig w s d e ∧ chkE s d e = fitE lo hi := by
  obtain ⟨⟨d, p1, p2, p3, p4, p5⟩, ⟨e, r1, r2, r3, r4, r5⟩⟩ := h
  refine ⟨d, e, ⟨p1, r1⟩, ?_⟩
  have g1 := rightB_of (neg := s.ln) p2 p3
  have g2 := rightB_of (neg := s.hn) r2 r3
  have b1 := lenZ_big p1.dgs p2 s.ln
  have b2 := lenZ_big r1.dgs r2 s.hn
  rw [← p5] at b1
  rw [← r5] at b2
  have g3 : ¬ 0 < cmpI s.ln s.hn d e s.lN s.hN := by
    rw [sgn_nonneg_lt p1.dgs r1.dgs s.ln s.hn s.lN s.hN p2 r2 p3 r3, ← p5, ← r5]
    exact cmpInt_le0 (by omega)
  by_cases hb : bigs lo hi
  · have f : fitE lo hi = 2 := if_pos hb
    rw [f]; unfold chkE
    rw [if_neg (by omega), if_neg (fun q => q.elim g1 g2), if_pos (by rw [b1, b2]; exact hb)]
  · have f : fitE lo hi = 0 := if_neg hb
    rw [f]; unfold chkE
    rw [if_neg (by omega), if_neg (fun q => q.elim g1 g2), if_neg (by rw [b1, b2]; exact hb), if_neg g3]

/-- What span.fit and tailsureref.Done answer. -/
theorem fit_cases (lo hi : Int) : (bigs lo hi ∧ fitE lo hi = 2 ∧ ∀ z, fitZ lo hi z = 0) ∨ (¬ bigs lo hi ∧ fitE lo hi = 0 ∧ ∀ z, fitZ lo hi z = z) := by
  by_cases hb : bigs lo hi
  · exact Or.inl ⟨hb, if_pos hb, fun _ => if_pos hb⟩
  · exact Or.inr ⟨hb, if_neg hb, fun _ => if_neg hb⟩
theorem fitZ_zero {lo hi : Int} (h : fitE lo hi ≠ 0) (z : Int) : fitZ lo hi z = 0 := by
  rcases fit_cases lo hi with ⟨_, _, h3⟩ | ⟨_, h2, _⟩
  · exact h3 z
  · exact absurd h2 h
theorem fitZ_same {lo hi : Int} (h : fitE lo hi = 0) (z : Int) : fitZ lo hi z = z := by
  rcases fit_cases lo hi with ⟨_, h2, _⟩ | ⟨_, _, h3⟩
  · omega
  · exact h3 z
theorem fitE_two {lo hi : Int} (h : fitE lo hi ≠ 0) : fitE lo hi = 2 := by
  rcases fit_cases lo hi with ⟨_, h2, _⟩ | ⟨_, h2, _⟩
  · exact h2
  · exact absurd h2 h
end Go.Proofs.Ytibbhnmbmgllcaa
