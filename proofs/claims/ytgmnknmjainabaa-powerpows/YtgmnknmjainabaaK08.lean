/-
  e to the power of a number that is told by a sequence: of a sum, of little, of more. Plain arithmetic: no statement of the seat is proved here.
  e to the power of the sum of y^k over k is 1 over 1 less y. Plain arithmetic: no statement of the seat is proved here.
  Logarithms of numbers that are told by sequences: of products, roots, quotients. Plain arithmetic: no statement of the seat is proved here.
  Spans by their ends: what is made of them, how wide that is, how far from 0, and which numbers it has. Plain arithmetic: no statement of the seat is proved here.
-/
import Derived.Test.YtgmnknmjainabaaK07
namespace Go.Proofs.Ytgmnknmjainabaa.Ex
set_option linter.unusedVariables false

theorem tm_AB {x R : Rat} (h : AB x R) (n : Nat) : AB (tm x n) (tm R n) := by
  induction n with
  | zero => simp only [tm]; constructor <;> grind
  | succ n ih =>
    have hp := pos1 n
    have g := ih.mul h
    have e1 := tm_succ x n
    have e2 := tm_succ R n
    have e3 : tm x n * x = ((n : Rat) + 1) * tm x (n + 1) := by grind
    have e4 : tm R n * R = ((n : Rat) + 1) * tm R (n + 1) := by grind
    rw [e3, e4] at g
    obtain ⟨g1, g2⟩ := g
    generalize (n : Rat) + 1 = m at *
    constructor
    · refine Rat.not_lt.1 fun hn => ?_
      have := Rat.mul_pos hp (show 0 < -tm R (n + 1) - tm x (n + 1) by grind)
      grind
    · refine Rat.not_lt.1 fun hn => ?_
      have := Rat.mul_pos hp (show 0 < tm x (n + 1) - tm R (n + 1) by grind)
      grind
theorem tm_unif (R : Rat) : ∃ K, 0 ≤ K ∧ ∀ x, AB x R → ∀ i, AB (tm x i) (K * q4 i) := by
  obtain ⟨K, k0, h⟩ := tm_bd R
  exact ⟨K, k0, fun x hx i => (tm_AB hx i).mono (h i).2⟩
theorem E_unif (R : Rat) : ∃ K, 0 ≤ K ∧ ∀ M x y, AB x R → AB y R → AB (E x M * E y M - E (x + y) M) (K * ((M : Rat) * q4 M)) := by
  obtain ⟨K, k0, h⟩ := tm_unif R
  refine ⟨2 * K * K, ?_, fun M x y hx hy => (E_mul x y K K (h x hx) (h y hy) M).mono (by grind)⟩
  have := Rat.mul_nonneg k0 k0; grind
theorem E_bound (R : Rat) : ∃ K, 0 ≤ K ∧ ∀ M x, AB x R → AB (E x M) K := by
  obtain ⟨K, k0, h⟩ := tm_unif R
  refine ⟨2 * K, by grind, fun M x hx => ?_⟩
  have := E_sub x K (h x hx) 0 M
  have e : E x 0 = 0 := rfl
  rw [Nat.zero_add, e] at this
  have e1 : E x M - 0 = E x M := by grind
  rw [e1] at this
  refine this.mono ?_
  have := q4_pos M
  have := Rat.mul_nonneg k0 (Rat.le_of_lt this)
  simp only [q4]
  grind
theorem tm_zero (n : Nat) : tm 0 (n + 1) = 0 := by
  have := tm_succ 0 n
  have hp := pos1 n
  have h5 : ((n : Rat) + 1) * tm 0 (n + 1) = 0 := by grind
  rcases Rat.mul_eq_zero.1 h5 with h6 | h6
  · grind
  · exact h6
theorem E_zero (M : Nat) : E 0 (M + 1) = 1 := by
  induction M with
  | zero => simp only [E, S, tm]; grind
  | succ M ih =>
    have e : E 0 (M + 1 + 1) = E 0 (M + 1) + tm 0 (M + 1) := rfl
    rw [e, ih, tm_zero]; grind
theorem sq_nonneg (x : Rat) : 0 ≤ x * x := by
  rcases Rat.le_total (a := 0) (b := x) with h | h
  · exact Rat.mul_nonneg h h
  · have := Rat.mul_nonneg (show 0 ≤ -x by grind) (show 0 ≤ -x by grind); grind
theorem E_low (R : Rat) : ∃ c, 0 < c ∧ ∃ N, ∀ M, N ≤ M → ∀ x, AB x R → c ≤ E x M := by
  obtain ⟨K, k0, hK⟩ := E_unif R
  obtain ⟨L, l0, hL⟩ := E_bound R
  have hp : 0 < 4 * (L + 1) := by grind
  have hc := rdiv_pos (show (0 : Rat) < 1 by grind) hp
  have hcL := rdm (a := 1) hp
  refine ⟨_, hc, ?_⟩
  generalize 1 / (4 * (L + 1)) = c at *
  obtain ⟨N, hN⟩ := null_q4 K k0 c hc
  refine ⟨N + 1, fun M hM x hx => ?_⟩
  obtain ⟨n1, n2⟩ : AB (K * ((M : Rat) * q4 M)) c := hN M (by omega)
  have hx2 : AB (x / 2) R := by obtain ⟨a, b⟩ := hx; constructor <;> grind
  have h1 := hK M (x / 2) (x / 2) hx2 hx2
  rw [show x / 2 + x / 2 = x by grind] at h1
  have h2 := hK M x (-x) hx hx.neg
  rw [show x + -x = 0 by grind] at h2
  obtain ⟨m, rfl⟩ : ∃ m, M = m + 1 := ⟨M - 1, by omega⟩
  rw [E_zero] at h2
  have h3 := hL (m + 1) (-x) hx.neg
  have h4 := sq_nonneg (E (x / 2) (m + 1))
  obtain ⟨a1, a2⟩ := h1
  obtain ⟨b1, b2⟩ := h2
  generalize K * (((m + 1 : Nat) : Rat) * q4 (m + 1)) = η at *
  generalize E (x / 2) (m + 1) * E (x / 2) (m + 1) = s at *
  refine Rat.not_lt.1 fun hn => ?_
  have h5 : AB (E x (m + 1)) c := by constructor <;> grind
  have h6 := h5.mul h3
  obtain ⟨c1, c2⟩ := h6
  generalize E x (m + 1) * E (-x) (m + 1) = t at *
  have : c * L ≤ 1 / 4 := by grind
  have : c ≤ 1 / 4 := by
    have := Rat.mul_nonneg (Rat.le_of_lt hc) l0
    grind
  grind
/-- Of little it is nearly 1. -/
theorem tm_little {h b : Rat} (hb : AB h b) (h4 : b ≤ 1 / 4) (k : Nat) : AB (tm h (k + 1)) (b * q4 k) := by
  have b0 := hb.nonneg
  induction k with
  | zero => simp only [tm, q4]; obtain ⟨_, _⟩ := hb; simp; constructor <;> grind
  | succ k ih =>
    have e := tm_succ h (k + 1)
    have hp := pos1 (k + 1)
    have hp1 : (1 : Rat) ≤ ((k + 1 : Nat) : Rat) + 1 := by
      have : (0 : Rat) ≤ ((k + 1 : Nat) : Rat) := by exact_mod_cast Nat.zero_le (k + 1)
      grind
    have g := hb.mul ih
    rw [← e] at g
    have q := q4_pos k
    have e2 : q4 (k + 1) = q4 k / 4 := rfl
    rw [e2]
    generalize ((k + 1 : Nat) : Rat) + 1 = m at *
    have g2 : AB (m * tm h (k + 1 + 1)) (b * (q4 k / 4)) := by
      refine g.mono ?_
      have := Rat.mul_nonneg (Rat.mul_nonneg b0 (Rat.le_of_lt q)) (show 0 ≤ 1 / 4 - b by grind)
      grind
    obtain ⟨g3, g4⟩ := g2
    have hn := Rat.mul_nonneg b0 (Rat.le_of_lt q)
    generalize b * (q4 k / 4) = r at *
    have hr : 0 ≤ r := by grind
    constructor
    · refine Rat.not_lt.1 fun hn => ?_
      have := Rat.mul_nonneg (show 0 ≤ m - 1 by grind) (show 0 ≤ -r - tm h (k + 1 + 1) by grind)
      have := Rat.mul_nonneg (show 0 ≤ m - 1 by grind) hr
      grind
    · refine Rat.not_lt.1 fun hn => ?_
      have := Rat.mul_nonneg (show 0 ≤ m - 1 by grind) (show 0 ≤ tm h (k + 1 + 1) - r by grind)
      have := Rat.mul_nonneg (show 0 ≤ m - 1 by grind) hr
      grind
theorem E_little1 {h b : Rat} (hb : AB h b) (h4 : b ≤ 1 / 4) (M : Nat) : AB (E h (M + 1) - 1) (2 * b * (1 - q4 M)) := by
  have b0 := hb.nonneg
  induction M with
  | zero => simp only [E, S, tm, q4]; constructor <;> grind
  | succ M ih =>
    have e : E h (M + 1 + 1) = E h (M + 1) + tm h (M + 1) := rfl
    have g := ih.add (tm_little hb h4 M)
    rw [e]
    have e2 : q4 (M + 1) = q4 M / 4 := rfl
    have q := Rat.mul_nonneg b0 (Rat.le_of_lt (q4_pos M))
    have e3 : E h (M + 1) - 1 + tm h (M + 1) = E h (M + 1) + tm h (M + 1) - 1 := by grind
    rw [e3] at g
    rw [e2]
    exact g.mono (by grind)
theorem E_little {h b : Rat} (hb : AB h b) (h4 : b ≤ 1 / 4) {M : Nat} (hM : 1 ≤ M) : AB (E h M - 1) (2 * b) := by
  obtain ⟨m, rfl⟩ : ∃ m, M = m + 1 := ⟨M - 1, by omega⟩
  refine (E_little1 hb h4 m).mono ?_
  have q := Rat.mul_nonneg hb.nonneg (Rat.le_of_lt (q4_pos m))
  grind
theorem E_little2a {h b : Rat} (hb : AB h b) (h4 : b ≤ 1 / 4) (M : Nat) : AB (E h (M + 2) - 1 - h) (2 * (b * b) * (1 - q4 M)) := by
  have b0 := hb.nonneg
  have bb := Rat.mul_nonneg b0 b0
  induction M with
  | zero =>
    have : E h 2 = 1 + h := by simp [E, S, tm]; grind
    rw [this]; simp only [q4]; constructor <;> grind
  | succ M ih =>
    have e : E h (M + 1 + 2) = E h (M + 2) + tm h (M + 2) := rfl
    have hp := pos1 (M + 1)
    have g0 : AB (tm h (M + 2)) (b * b * q4 M) := by
      have e := tm_succ h (M + 1)
      have hp1 : (1 : Rat) ≤ ((M + 1 : Nat) : Rat) + 1 := by
        have : (0 : Rat) ≤ ((M + 1 : Nat) : Rat) := by exact_mod_cast Nat.zero_le (M + 1)
        grind
      have g := hb.mul (tm_little hb h4 M)
      rw [← e] at g
      have hr := Rat.mul_nonneg bb (Rat.le_of_lt (q4_pos M))
      rw [show b * (b * q4 M) = b * b * q4 M by grind] at g
      obtain ⟨g3, g4⟩ := g
      generalize ((M + 1 : Nat) : Rat) + 1 = m at *
      generalize b * b * q4 M = r at *
      rw [show M + 1 + 1 = M + 2 by omega] at *
      constructor
      · refine Rat.not_lt.1 fun hn => ?_
        have := Rat.mul_nonneg (show 0 ≤ m - 1 by grind) (show 0 ≤ -r - tm h (M + 2) by grind)
        have := Rat.mul_nonneg (show 0 ≤ m - 1 by grind) hr
        grind
      · refine Rat.not_lt.1 fun hn => ?_
        have := Rat.mul_nonneg (show 0 ≤ m - 1 by grind) (show 0 ≤ tm h (M + 2) - r by grind)
        have := Rat.mul_nonneg (show 0 ≤ m - 1 by grind) hr
        grind
    have g := ih.add g0
    rw [e]
    have e2 : q4 (M + 1) = q4 M / 4 := rfl
    have q := Rat.mul_nonneg bb (Rat.le_of_lt (q4_pos M))
    have e3 : E h (M + 2) - 1 - h + tm h (M + 2) = E h (M + 2) + tm h (M + 2) - 1 - h := by grind
    rw [e3] at g
    rw [e2]
    exact g.mono (by grind)
theorem E_little2 {h b : Rat} (hb : AB h b) (h4 : b ≤ 1 / 4) {M : Nat} (hM : 2 ≤ M) : AB (E h M - 1 - h) (2 * (b * b)) := by
  obtain ⟨m, rfl⟩ : ∃ m, M = m + 2 := ⟨M - 2, by omega⟩
  refine (E_little2a hb h4 m).mono ?_
  have q := Rat.mul_nonneg (Rat.mul_nonneg hb.nonneg hb.nonneg) (Rat.le_of_lt (q4_pos m))
  grind

/-- e to the power of a number that is told by a sequence. -/
def Ev (x : Nat → Rat) (M : Nat) : Rat := E (x M) M
theorem Ev_bdd {x : Nat → Rat} (h : Bdd x) : Bdd (Ev x) := by
  obtain ⟨R, N, r0, h⟩ := h
  obtain ⟨K, k0, hK⟩ := E_bound R
  exact ⟨K, N, k0, fun M hM => hK M _ (h M hM)⟩
theorem Ev_add {x y : Nat → Rat} (hx : Bdd x) (hy : Bdd y) : Null (fun M => Ev x M * Ev y M - Ev (fun M => x M + y M) M) := by
  obtain ⟨R, N, r0, hx⟩ := hx
  obtain ⟨R', N', r0', hy⟩ := hy
  obtain ⟨K, k0, hK⟩ := E_unif (R + R')
  exact (null_q4 K k0).of_le (N + N') fun M hM => hK M _ _ ((hx M (by omega)).mono (by grind)) ((hy M (by omega)).mono (by grind))
theorem Ev_low {x : Nat → Rat} (hx : Bdd x) : ∃ c, 0 < c ∧ ∃ N, ∀ M, N ≤ M → c ≤ Ev x M := by
  obtain ⟨R, N, r0, hx⟩ := hx
  obtain ⟨c, hc, N', h⟩ := E_low R
  exact ⟨c, hc, N + N', fun M hM => h M (by omega) _ (hx M (by omega))⟩
theorem Ev_null {h : Nat → Rat} (hn : Null h) : Null (fun M => Ev h M - 1) := fun e he => by
  obtain ⟨N, h1⟩ := hn (1 / 4) (by grind)
  obtain ⟨N', h2⟩ := hn (e / 2) (by grind)
  refine ⟨N + N' + 1, fun M hM => ?_⟩
  rcases Rat.le_total (a := e / 2) (b := 1 / 4) with hc | hc
  · exact (E_little (h2 M (by omega)) hc (by omega)).mono (by grind)
  · exact (E_little (h1 M (by omega)) (by grind) (by omega)).mono (by grind)
theorem Ev_congr {x y : Nat → Rat} (hx : Bdd x) (hy : Bdd y) (h : Null (fun M => x M - y M)) : Null (fun M => Ev x M - Ev y M) := by
  have h1 := Ev_add hy (hx.sub hy)
  have h2 := (Ev_null h).bmul (Ev_bdd hy)
  have e : (fun M => y M + (x M - y M)) = x := funext fun M => by grind
  rw [e] at h1
  refine (h2.sub h1).of_eq fun M => ?_
  grind
theorem Ev_inv {x : Nat → Rat} (hx : Bdd x) : Null (fun M => Ev x M * Ev (fun M => -x M) M - 1) := by
  have h1 := Ev_add hx hx.neg
  refine h1.of_eq_from 1 fun M hM => ?_
  obtain ⟨m, rfl⟩ : ∃ m, M = m + 1 := ⟨M - 1, by omega⟩
  have : Ev (fun M => x M + -x M) (m + 1) = 1 := by
    show E (x (m + 1) + -x (m + 1)) (m + 1) = 1
    rw [show x (m + 1) + -x (m + 1) = 0 by grind, E_zero]
  rw [this]
/-- Who is more has more. -/
theorem Ev_mono {x y z : Nat → Rat} (hx : Bdd x) (hy : Bdd y) (hz : Null z) (N0 : Nat) (h : ∀ M, N0 ≤ M → x M ≤ y M + z M) : ∃ v, Null v ∧ ∃ N, ∀ M, N ≤ M → Ev x M ≤ Ev y M + v M := by
  have b1 : Bdd (fun M => y M + z M) := hy.add hz.bdd
  have n1 := Ev_congr b1 hy (hz.of_eq fun M => by grind)
  have n2 := Ev_add hx (b1.sub hx)
  have e : (fun M => x M + (y M + z M - x M)) = fun M => y M + z M := funext fun M => by grind
  rw [e] at n2
  obtain ⟨c, hc, N1, hl⟩ := Ev_low hx
  refine ⟨_, n1.add n2, N0 + N1 + 1, fun M hM => ?_⟩
  have h1 := E_one (show 0 ≤ y M + z M - x M by have := h M (by omega); grind) (show 1 ≤ M by omega)
  have h2 := hl M (by omega)
  have h3 := Rat.mul_nonneg (show 0 ≤ Ev x M by grind) (show 0 ≤ Ev (fun M => y M + z M - x M) M - 1 by have : Ev (fun M => y M + z M - x M) M = E (y M + z M - x M) M := rfl; rw [this]; grind)
  grind
theorem E_one1 {x : Rat} (h : 0 ≤ x) {M : Nat} (hM : 2 ≤ M) : 1 + x ≤ E x M := by
  obtain ⟨m, rfl⟩ : ∃ m, M = m + 2 := ⟨M - 2, by omega⟩
  clear hM
  induction m with
  | zero => simp [E, S, tm]; grind
  | succ m ih =>
    have e1 : E x (m + 1 + 2) = E x (m + 2) + tm x (m + 2) := rfl
    have := tm_nonneg h (m + 2)
    grind
/-- And who has more is more. -/
theorem Ev_back {x y z : Nat → Rat} (hx : Bdd x) (hy : Bdd y) (hz : Null z) (N0 : Nat) (h : ∀ M, N0 ≤ M → Ev x M ≤ Ev y M + z M) (e : Rat) (he : 0 < e) : ∃ N, ∀ M, N ≤ M → x M ≤ y M + e := by
  obtain ⟨R, N1, r0, hx⟩ := hx
  obtain ⟨R', N2, r0', hy⟩ := hy
  -- all that is met is within B
  obtain ⟨K, k0, hK⟩ := E_unif (R + R' + R + R' + e)
  obtain ⟨c, hc, N3, hl⟩ := E_low (R + R' + R + R' + e)
  have hce := Rat.mul_pos hc he
  obtain ⟨N4, hn⟩ := null_q4 K k0 (c * e / 4) (by grind)
  obtain ⟨N5, hz⟩ := hz (c * e / 4) (by grind)
  refine ⟨N0 + N1 + N2 + N3 + N4 + N5 + 2, fun M hM => ?_⟩
  refine Rat.not_lt.1 fun hlt => ?_
  have a1 := hx M (by omega)
  have a2 := hy M (by omega)
  have a3 := h M (by omega)
  obtain ⟨a4, a5⟩ : AB (K * ((M : Rat) * q4 M)) (c * e / 4) := hn M (by omega)
  obtain ⟨a6, a7⟩ := hz M (by omega)
  have hye : AB (y M + e) (R + R' + R + R' + e) := by obtain ⟨_, _⟩ := a2; constructor <;> grind
  have hu : AB (x M - (y M + e)) (R + R' + R + R' + e) := by obtain ⟨_, _⟩ := a2; obtain ⟨_, _⟩ := a1; constructor <;> grind
  have hy' : AB (y M) (R + R' + R + R' + e) := a2.mono (by grind)
  have he' : AB e (R + R' + R + R' + e) := by constructor <;> grind
  obtain ⟨b1, b2⟩ := hK M _ _ hye hu
  obtain ⟨b3, b4⟩ := hK M _ _ hy' he'
  rw [show y M + e + (x M - (y M + e)) = x M by grind] at b1 b2
  have l1 := hl M (by omega) _ hye
  have l2 := hl M (by omega) _ hy'
  have o1 := E_one (show 0 ≤ x M - (y M + e) by grind) (show 1 ≤ M by omega)
  have o2 := E_one1 (Rat.le_of_lt he) (show 2 ≤ M by omega)
  have p1 := Rat.mul_nonneg (show 0 ≤ E (y M + e) M by grind) (show 0 ≤ E (x M - (y M + e)) M - 1 by grind)
  have p2 := Rat.mul_nonneg (show 0 ≤ E (y M) M by grind) (show 0 ≤ E e M - (1 + e) by grind)
  have p3 := Rat.mul_nonneg (show 0 ≤ E (y M) M - c by grind) (Rat.le_of_lt he)
  have a3' : E (x M) M ≤ E (y M) M + z M := a3
  generalize E (x M) M = X at *
  generalize E (y M) M = Y at *
  generalize K * ((M : Rat) * q4 M) = η at *
  grind
end Go.Proofs.Ytgmnknmjainabaa.Ex

namespace Go.Proofs.Ytgmnknmjainabaa.Ex
set_option linter.unusedVariables false

/-- x to the power of k. -/
def pw (x : Rat) : Nat → Rat
  | 0 => 1
  | k + 1 => x * pw x k
/-- 1 over 2 to the power of n. -/
def q2 : Nat → Rat
  | 0 => 1
  | n + 1 => q2 n / 2
theorem q2_pos (n : Nat) : 0 < q2 n := by
  induction n with
  | zero => simp only [q2]; grind
  | succ n ih => simp only [q2]; grind
theorem q2_le (n : Nat) : q2 n ≤ 1 := by
  induction n with
  | zero => simp only [q2]; grind
  | succ n ih => simp only [q2]; have := q2_pos n; grind
theorem pw_AB {y : Rat} (h : AB y (1 / 2)) (k : Nat) : AB (pw y k) (q2 k) := by
  induction k with
  | zero => simp only [pw, q2]; constructor <;> grind
  | succ k ih => simp only [pw, q2]; exact (h.mul ih).mono (by grind)
/-- What comes of a step, but for the step itself. -/
theorem pw_step {y h : Rat} (hy : AB y (1 / 2)) (hyh : AB (y + h) (1 / 2)) (k : Nat) :
    AB (pw (y + h) (k + 1) - pw y (k + 1) - ((k : Rat) + 1) * (h * pw y k)) ((k : Rat) * ((k : Rat) + 1) * q2 k * (h * h)) := by
  induction k with
  | zero => simp only [pw, q2]; simp; constructor <;> grind
  | succ k ih =>
    have e1 : pw (y + h) (k + 1 + 1) = (y + h) * pw (y + h) (k + 1) := rfl
    have e2 : pw y (k + 1 + 1) = y * pw y (k + 1) := rfl
    have e3 : pw y (k + 1) = y * pw y k := rfl
    have e4 : ((k + 1 : Nat) : Rat) = (k : Rat) + 1 := by simp
    have e5 : q2 (k + 1) = q2 k / 2 := rfl
    have h2 := sq_nonneg h
    have q := q2_pos k
    have kk : (0 : Rat) ≤ (k : Rat) := by exact_mod_cast Nat.zero_le k
    have g1 := hyh.mul ih
    have g2 : AB (((k : Rat) + 1) * (h * h) * pw y k) (((k : Rat) + 1) * (h * h) * q2 k) := by
      have : AB (((k : Rat) + 1) * (h * h)) (((k : Rat) + 1) * (h * h)) := by
        have := Rat.mul_nonneg (show 0 ≤ (k : Rat) + 1 by grind) h2
        constructor <;> grind
      exact this.mul (pw_AB hy k)
    have g := g1.add g2
    rw [e1, e2, e4, e5]
    have : (y + h) * (pw (y + h) (k + 1) - pw y (k + 1) - ((k : Rat) + 1) * (h * pw y k)) + ((k : Rat) + 1) * (h * h) * pw y k = (y + h) * pw (y + h) (k + 1) - y * pw y (k + 1) - ((k : Rat) + 1 + 1) * (h * pw y (k + 1)) := by
      rw [e3]; grind
    rw [this] at g
    exact g.mono (by grind)
/-- The sum of y^k over k: the logarithm of 1 over 1 less y. -/
def Lg (y : Rat) (M : Nat) : Rat := S (fun k => pw y (k + 1) / ((k : Rat) + 1)) M
theorem rdiv_AB {t b m : Rat} (hm : 0 < m) (h : AB t (m * b)) : AB (t / m) b := by
  have e := rdm (a := t) hm
  generalize t / m = q at *
  obtain ⟨h1, h2⟩ := h
  constructor
  · refine Rat.not_lt.1 fun hn => ?_
    have := Rat.mul_pos hm (show 0 < -b - q by grind)
    grind
  · refine Rat.not_lt.1 fun hn => ?_
    have := Rat.mul_pos hm (show 0 < q - b by grind)
    grind
theorem S_sub (f g : Nat → Rat) (n : Nat) : S (fun i => f i - g i) n = S f n - S g n := by
  induction n with
  | zero => simp [S]; try grind
  | succ n ih => simp only [S, ih]; grind
theorem S_k2 (M : Nat) : S (fun k => (k : Rat) * q2 k) M = 2 - 2 * ((M : Rat) + 1) * q2 M := by
  induction M with
  | zero => simp only [S, q2]; simp; grind
  | succ M ih =>
    simp only [S, ih, q2]
    have e4 : ((M + 1 : Nat) : Rat) = (M : Rat) + 1 := by simp
    rw [e4]; grind
theorem Lg_step {y h : Rat} (hy : AB y (1 / 2)) (hyh : AB (y + h) (1 / 2)) (M : Nat) :
    AB (Lg (y + h) M - Lg y M - h * S (pw y) M) (2 * (h * h)) := by
  have e : Lg (y + h) M - Lg y M - h * S (pw y) M = S (fun k => (pw (y + h) (k + 1) - pw y (k + 1) - ((k : Rat) + 1) * (h * pw y k)) / ((k : Rat) + 1)) M := by
    unfold Lg
    rw [← S_mul, ← S_sub, ← S_sub]
    refine S_congr _ fun i hi => ?_
    have hp := pos1 i
    generalize (i : Rat) + 1 = m at *
    grind
  rw [e]
  have h2 := sq_nonneg h
  have g : AB (S (fun k => (pw (y + h) (k + 1) - pw y (k + 1) - ((k : Rat) + 1) * (h * pw y k)) / ((k : Rat) + 1)) M) (S (fun k => (h * h) * ((k : Rat) * q2 k)) M) := by
    refine S_AB _ fun i hi => ?_
    refine rdiv_AB (pos1 i) ((pw_step hy hyh i).mono ?_)
    grind
  refine g.mono ?_
  rw [S_mul, S_k2]
  have q := q2_pos M
  have hM0 : (0 : Rat) ≤ (M : Rat) := by exact_mod_cast Nat.zero_le M
  have := Rat.mul_nonneg (Rat.mul_nonneg h2 (show 0 ≤ (M : Rat) + 1 by grind)) (Rat.le_of_lt q)
  grind
theorem S_pw (y : Rat) (M : Nat) : S (pw y) M * (1 - y) = 1 - pw y M := by
  induction M with
  | zero => simp only [S, pw]; grind
  | succ M ih => simp only [S, pw]; grind
theorem S_q2 (M : Nat) : S q2 M = 2 - 2 * q2 M := by
  induction M with
  | zero => simp only [S, q2]; grind
  | succ M ih => simp only [S, q2, ih]; grind
theorem S_pw_AB {y : Rat} (hy : AB y (1 / 2)) (M : Nat) : AB (S (pw y) M) 2 := by
  refine (S_AB M fun i _ => pw_AB hy i).mono ?_
  rw [S_q2]; have := q2_pos M; grind
theorem Lg_AB {y : Rat} (hy : AB y (1 / 2)) (M : Nat) : AB (Lg y M) 2 := by
  have : AB (Lg y M) (S q2 M) := by
    refine S_AB M fun i _ => rdiv_AB (pos1 i) ((pw_AB hy (i + 1)).mono ?_)
    have q := q2_pos i
    have kk : (0 : Rat) ≤ (i : Rat) := by exact_mod_cast Nat.zero_le i
    have := Rat.mul_nonneg kk (Rat.le_of_lt q)
    simp only [q2]; grind
  refine this.mono ?_
  rw [S_q2]; have := q2_pos M; grind
theorem pw_zero (k : Nat) : pw 0 (k + 1) = 0 := by simp only [pw]; grind
theorem Lg_zero (M : Nat) : Lg 0 M = 0 := by
  unfold Lg
  rw [S_congr M (g := fun _ => 0) (fun i _ => by rw [pw_zero]; grind), S_const]; grind

/-- One step: nearly nothing changes. -/
theorem G_step (K η : Rat) (M : Nat) (hM : 2 ≤ M) (hK : ∀ x, AB x 4 → AB (E x M) K) (hη : ∀ x y, AB x 4 → AB y 4 → AB (E x M * E y M - E (x + y) M) η)
    {y h b : Rat} (hy : AB y (1 / 2)) (hyh : AB (y + h) (1 / 2)) (hb : AB h b) (hb12 : b ≤ 1 / 12) :
    AB (E (Lg (y + h) M) M * (1 - (y + h)) - E (Lg y M) M * (1 - y)) (K * (33 * (b * b) + b * q2 M) + 2 * η) := by
  have b0 := hb.nonneg
  have g1 := Lg_step hy hyh M
  have g2 := S_pw y M
  have g3 := S_pw_AB hy M
  have g4 := pw_AB hy M
  have g5 := Lg_AB hy M
  have g6 := Lg_AB hyh M
  have hbb : h * h ≤ b * b := by have := (hb.mul hb).2; grind
  generalize S (pw y) M = g at *
  generalize pw y M = pM at *
  obtain ⟨δ, hδ⟩ : ∃ δ, δ = Lg (y + h) M - Lg y M := ⟨_, rfl⟩
  obtain ⟨r, hr⟩ : ∃ r, r = Lg (y + h) M - Lg y M - h * g := ⟨_, rfl⟩
  have hrb : AB r (2 * (b * b)) := by rw [hr]; exact g1.mono (by grind)
  have bb := Rat.mul_nonneg b0 b0
  have bb2 := Rat.mul_nonneg b0 (show 0 ≤ 1 / 12 - b by grind)
  have hδb : AB δ (3 * b) := by
    have := (hb.mul g3).add hrb
    have e : h * g + r = δ := by rw [hr, hδ]; grind
    rw [e] at this
    exact this.mono (by grind)
  have hs := E_little2 hδb (by grind) hM
  have hE := hK _ (g5.mono (by grind))
  have hmul := hη (Lg y M) δ (g5.mono (by grind)) (hδb.mono (by grind))
  rw [show Lg y M + δ = Lg (y + h) M by rw [hδ]; grind] at hmul
  generalize E (Lg (y + h) M) M = A at *
  generalize E (Lg y M) M = C at *
  generalize E δ M = D at *
  obtain ⟨s, hs'⟩ : ∃ s, s = D - 1 - δ := ⟨_, rfl⟩
  rw [← hs'] at hs
  obtain ⟨t, ht⟩ : ∃ t, t = C * D - A := ⟨_, rfl⟩
  rw [← ht] at hmul
  have h1y : AB (1 - y) (3 / 2) := by obtain ⟨_, _⟩ := hy; constructor <;> grind
  have h1yh : AB (1 - (y + h)) 2 := by obtain ⟨_, _⟩ := hyh; constructor <;> grind
  have h1yh' : AB (1 - (y + h)) (3 / 2) := by obtain ⟨_, _⟩ := hyh; constructor <;> grind
  have key : A * (1 - (y + h)) - C * (1 - y) = C * (-(h * pM) + r * (1 - y) + (-(δ * h)) + s * (1 - (y + h))) + -(t * (1 - (y + h))) := by
    have e1 : A = C * D - t := by grind
    have e2 : D = s + 1 + δ := by grind
    have e3 : δ = h * g + r := by rw [hr, hδ]; grind
    have e4 : pM = 1 - g * (1 - y) := by grind
    rw [e1, e2, e4, e3]
    grind
  rw [key]
  have m1 := (hb.mul g4).neg
  have m2 := hrb.mul h1y
  have m3 := (hδb.mul hb).neg
  have m4 := hs.mul h1yh'
  have m5 := (hmul.mul h1yh).neg
  have m := (hE.mul (((m1.add m2).add m3).add m4)).add m5
  refine m.mono ?_
  have := hE.nonneg
  have : b * q2 M + 2 * (b * b) * (3 / 2) + 3 * b * b + 2 * (3 * b * (3 * b)) * (3 / 2) = 33 * (b * b) + b * q2 M := by grind
  rw [this]
  grind
/-- Some steps. -/
theorem G_steps (K η : Rat) (M : Nat) (hM : 2 ≤ M) (hK : ∀ x, AB x 4 → AB (E x M) K) (hη : ∀ x y, AB x 4 → AB y 4 → AB (E x M * E y M - E (x + y) M) η)
    {h b : Rat} (n : Nat) (hn : (n : Rat) * b ≤ 1 / 2) (hb : AB h b) (hb12 : b ≤ 1 / 12) (j : Nat) (hj : j ≤ n) :
    AB (E (Lg ((j : Rat) * h) M) M * (1 - (j : Rat) * h) - 1) ((j : Rat) * (K * (33 * (b * b) + b * q2 M) + 2 * η)) := by
  have b0 := hb.nonneg
  have hin : ∀ i : Nat, i ≤ n → AB ((i : Rat) * h) (1 / 2) := fun i hi => by
    have hi' : (i : Rat) ≤ (n : Rat) := by exact_mod_cast hi
    have hi0 : (0 : Rat) ≤ (i : Rat) := by exact_mod_cast Nat.zero_le i
    have : AB (i : Rat) (i : Rat) := by constructor <;> grind
    refine (this.mul hb).mono ?_
    have := Rat.mul_nonneg (show 0 ≤ (n : Rat) - i by grind) b0
    grind
  induction j with
  | zero =>
    have : ((0 : Nat) : Rat) = 0 := by simp
    rw [this, Rat.zero_mul, Lg_zero]
    obtain ⟨m, rfl⟩ : ∃ m, M = m + 1 := ⟨M - 1, by omega⟩
    rw [E_zero, Rat.zero_mul]
    constructor <;> grind
  | succ j ih =>
    have ih := ih (by omega)
    have e4 : ((j + 1 : Nat) : Rat) = (j : Rat) + 1 := by simp
    have h2 := hin (j + 1) hj
    rw [e4] at h2 ⊢
    have e5 : ((j : Rat) + 1) * h = (j : Rat) * h + h := by grind
    rw [e5] at h2 ⊢
    have g := G_step K η M hM hK hη (hin j (by omega)) h2 hb hb12
    have := ih.add g
    generalize E (Lg ((j : Rat) * h + h) M) M * (1 - ((j : Rat) * h + h)) = X at *
    generalize E (Lg ((j : Rat) * h) M) M * (1 - (j : Rat) * h) = Y at *
    have e6 : Y - 1 + (X - Y) = X - 1 := by grind
    rw [e6] at this
    exact this.mono (by grind)
theorem q4_q2 (M : Nat) : (M : Rat) * q2 M ≤ 1 := by
  induction M with
  | zero => simp only [q2]; simp; grind
  | succ M ih =>
    have e4 : ((M + 1 : Nat) : Rat) = (M : Rat) + 1 := by simp
    rw [e4]; simp only [q2]
    have := q2_le M
    grind
theorem null_q2 : Null q2 := fun e he => by
  obtain ⟨n, hn1, hn2⟩ := rat_nat (1 / e)
  refine ⟨n + 1, fun M hM => ?_⟩
  have hMn : (n : Rat) ≤ (M : Rat) := by exact_mod_cast (show n ≤ M by omega)
  have u := q4_q2 M
  have q := q2_pos M
  have e1 := rdm (a := 1) he
  generalize 1 / e = d at *
  have s1 := Rat.mul_nonneg (show 0 ≤ (M : Rat) - d by grind) (Rat.le_of_lt q)
  have s2 := Rat.mul_nonneg (show 0 ≤ 1 - d * q2 M by grind) (Rat.le_of_lt he)
  have s3 : (1 - d * q2 M) * e = e - d * e * q2 M := by grind
  rw [s3, e1] at s2
  constructor <;> grind
theorem pos_of_mul {b n c : Rat} (hn : 0 < n) (hc : 0 < c) (h : b * n = c) : 0 < b := by
  refine Rat.not_le.1 fun hb => ?_
  have := Rat.mul_nonneg (show 0 ≤ -b by grind) (Rat.le_of_lt hn)
  grind
/-- e to the power of the sum is 1 over 1 less y. -/
theorem Lg_exp (e : Rat) (he : 0 < e) : ∃ N, ∀ M, N ≤ M → ∀ y, AB y (1 / 2) → AB (E (Lg y M) M * (1 - y) - 1) e := by
  obtain ⟨K, k0, hK⟩ := E_bound 4
  obtain ⟨L, l0, hL⟩ := E_unif 4
  obtain ⟨n0, hn1, hn2⟩ := rat_nat (33 * K / e)
  obtain ⟨n, hn⟩ : ∃ n : Nat, n = n0 + 6 := ⟨_, rfl⟩
  have hnr : (n0 : Rat) + 6 = (n : Rat) := by rw [hn]; simp
  have hn0 : (0 : Rat) ≤ (n0 : Rat) := by exact_mod_cast Nat.zero_le n0
  have npos : (0 : Rat) < (n : Rat) := by grind
  have hKn : 33 * K ≤ e * (n : Rat) := by
    have e1 := rdm (a := 33 * K) he
    generalize 33 * K / e = d at *
    have := Rat.mul_nonneg (show 0 ≤ (n : Rat) - d by grind) (Rat.le_of_lt he)
    grind
  have hn6 : (6 : Rat) ≤ (n : Rat) := by grind
  clear hn hn1 hn2 hnr hn0
  have d1 := rdiv_pos he (show 0 < 4 * (K + 1) by grind)
  obtain ⟨N1, h1⟩ := null_q2 _ d1
  have d2 := rdiv_pos he (show (0 : Rat) < 8 * (n : Rat) by grind)
  obtain ⟨N2, h2⟩ := null_q4 L l0 _ d2
  refine ⟨N1 + N2 + 2, fun M hM y hy => ?_⟩
  have g1 := (h1 M (by omega)).2
  have g2 : L * ((M : Rat) * q4 M) ≤ e / (8 * (n : Rat)) := (h2 M (by omega)).2
  have e1 := rdm (a := e) (show 0 < 4 * (K + 1) by grind)
  have e2 := rdm (a := e) (show (0 : Rat) < 8 * (n : Rat) by grind)
  generalize e / (4 * (K + 1)) = c1 at *
  generalize e / (8 * (n : Rat)) = c2 at *
  obtain ⟨b, hbn⟩ : ∃ b, b * (n : Rat) = 1 / 2 := ⟨1 / 2 / (n : Rat), rdm npos⟩
  have b0 : 0 < b := pos_of_mul npos (by grind) hbn
  have hyn := rdm (a := y) npos
  have hh : AB (y / (n : Rat)) b := rdiv_AB npos (hy.mono (by rw [Rat.mul_comm, hbn]; exact Rat.le_refl))
  have hb12 : b ≤ 1 / 12 := by
    have h6 := Rat.mul_nonneg (Rat.le_of_lt b0) (show 0 ≤ (n : Rat) - 6 by grind)
    have h7 : b * ((n : Rat) - 6) = b * n - 6 * b := by grind
    rw [h7, hbn] at h6
    grind
  have g := G_steps K (L * ((M : Rat) * q4 M)) M (by omega) (hK M) (hL M) n (by rw [Rat.mul_comm, hbn]; exact Rat.le_refl) hh hb12 n (Nat.le_refl _)
  rw [show (n : Rat) * (y / (n : Rat)) = y from (Rat.mul_comm _ _).trans hyn] at g
  refine g.mono ?_
  generalize L * ((M : Rat) * q4 M) = η at *
  have q := q2_pos M
  generalize q2 M = Q at *
  -- n (K (33 b b + b Q) + 2 η) = K (33 b / 2 + Q / 2) + 2 n η
  have t1 : (n : Rat) * (K * (33 * (b * b) + b * Q) + 2 * η) = K * (33 * b * (b * n) + (b * n) * Q) + 2 * (n * η) := by grind
  rw [t1, hbn]
  have t2 := Rat.mul_nonneg (Rat.le_of_lt npos) (show 0 ≤ c2 - η by grind)
  have t3 := Rat.mul_nonneg k0 (show 0 ≤ c1 - Q by grind)
  have t4 := Rat.mul_nonneg (Rat.le_of_lt b0) (show 0 ≤ e * (n : Rat) - 33 * K by grind)
  have t5 : b * (e * (n : Rat) - 33 * K) = e * (b * n) - 33 * K * b := by grind
  rw [t5, hbn] at t4
  have t6 : (n : Rat) * (c2 - η) = (c2 * (8 * n)) / 8 - n * η := by grind
  rw [t6, e2] at t2
  have t7 : K * (c1 - Q) = (c1 * (4 * (K + 1))) / 4 - c1 - K * Q := by grind
  rw [t7, e1] at t3
  have t8 : K * (33 * b * (1 / 2) + 1 / 2 * Q) = 33 * K * b / 2 + K * Q / 2 := by grind
  rw [t8]
  generalize K * Q = A at *
  generalize 33 * K * b = B at *
  generalize (n : Rat) * η = C at *
  grind
end Go.Proofs.Ytgmnknmjainabaa.Ex

namespace Go.Proofs.Ytgmnknmjainabaa.Ex
set_option linter.unusedVariables false

/-- l is the logarithm of r. -/
def IsLog (l r : Nat → Rat) : Prop := Bdd l ∧ Null (fun M => Ev l M - r M)
theorem Bdd.of_null {f g : Nat → Rat} (h : Bdd f) (k : Null (fun M => f M - g M)) : Bdd g := by
  obtain ⟨K, N, k0, h⟩ := h.sub k.bdd
  exact ⟨K, N, k0, fun M hM => by have : AB (f M - (f M - g M)) K := h M hM; rw [show f M - (f M - g M) = g M by grind] at this; exact this⟩
theorem IsLog.bdd {l r : Nat → Rat} (h : IsLog l r) : Bdd r := (Ev_bdd h.1).of_null h.2
/-- What is not more has a logarithm that is not more. -/
theorem IsLog.le {l r l' r' z : Nat → Rat} (h : IsLog l r) (h' : IsLog l' r') (hz : Null z) (N0 : Nat) (hr : ∀ M, N0 ≤ M → r M ≤ r' M + z M) (e : Rat) (he : 0 < e) : ∃ N, ∀ M, N ≤ M → l M ≤ l' M + e := by
  refine Ev_back h.1 h'.1 ((h.2.sub h'.2).add hz) N0 (fun M hM => ?_) e he
  have := hr M hM
  grind
theorem IsLog.uniq {l l' r : Nat → Rat} (h : IsLog l r) (h' : IsLog l' r) : Null (fun M => l M - l' M) := fun e he => by
  obtain ⟨N, h1⟩ := h.le h' null_zero 0 (fun M _ => by grind) e he
  obtain ⟨N', h2⟩ := h'.le h null_zero 0 (fun M _ => by grind) e he
  refine ⟨N + N', fun M hM => ?_⟩
  have := h1 M (by omega)
  have := h2 M (by omega)
  constructor <;> grind
theorem IsLog.congr {l l' r : Nat → Rat} (h : IsLog l r) (k : Null (fun M => l M - l' M)) : IsLog l' r := by
  have b := h.1.of_null k
  refine ⟨b, ?_⟩
  refine (h.2.sub (Ev_congr h.1 b k)).of_eq fun M => ?_
  grind
theorem IsLog.congr_r {l r r' : Nat → Rat} (h : IsLog l r) (k : Null (fun M => r M - r' M)) : IsLog l r' :=
  ⟨h.1, (h.2.add k).of_eq fun M => by grind⟩
theorem IsLog.add {l l' r r' : Nat → Rat} (h : IsLog l r) (h' : IsLog l' r') : IsLog (fun M => l M + l' M) (fun M => r M * r' M) := by
  refine ⟨h.1.add h'.1, ?_⟩
  have n1 := Ev_add h.1 h'.1
  have n2 := h.2.bmul (Ev_bdd h'.1)
  have n3 := h'.2.bmul h.bdd
  refine ((n2.add n3).sub n1).of_eq fun M => ?_
  grind
theorem IsLog.neg {l r s : Nat → Rat} (h : IsLog l r) (hs : Bdd s) (N : Nat) (hrs : ∀ M, N ≤ M → s M * r M = 1) : IsLog (fun M => -l M) s := by
  refine ⟨h.1.neg, ?_⟩
  have n1 := Ev_inv h.1
  have n2 := h.2.bmul (Ev_bdd h.1.neg)
  have n3 := (n1.sub n2).bmul hs
  refine n3.of_eq_from N fun M hM => ?_
  have e := hrs M hM
  have : (Ev l M * Ev (fun M => -l M) M - 1 - (Ev l M - r M) * Ev (fun M => -l M) M) * s M = (s M * r M) * Ev (fun M => -l M) M - s M := by grind
  rw [this, e]; grind
theorem isLog_one : IsLog (fun _ => 0) (fun _ => 1) := ⟨Bdd.const 0, null_zero.of_eq_from 1 fun M hM => by
  obtain ⟨m, rfl⟩ : ∃ m, M = m + 1 := ⟨M - 1, by omega⟩
  show E 0 (m + 1) - 1 = 0
  rw [E_zero]; grind⟩
/-- The sum of y^k over k is the opposite of the logarithm of 1 less y. -/
theorem isLog_Lg {y : Nat → Rat} (N0 : Nat) (hy : ∀ M, N0 ≤ M → AB (y M) (1 / 2)) : IsLog (fun M => -Lg (y M) M) (fun M => 1 - y M) := by
  have b1 : Bdd (fun M => Lg (y M) M) := Bdd.of_le 2 N0 fun M hM => Lg_AB (hy M hM) M
  have b2 : Bdd (fun M => 1 - y M) := Bdd.of_le 2 N0 fun M hM => by obtain ⟨_, _⟩ := hy M hM; constructor <;> grind
  refine ⟨b1.neg, ?_⟩
  have n1 := (Ev_inv b1).bmul b2
  have n2 : Null (fun M => E (Lg (y M) M) M * (1 - y M) - 1) := fun e he => by
    obtain ⟨N, h⟩ := Lg_exp e he
    exact ⟨N + N0, fun M hM => h M (by omega) _ (hy M (by omega))⟩
  have n3 := n2.bmul (Ev_bdd b1.neg)
  refine (n1.sub n3).of_eq fun M => ?_
  show Ev (fun M => -Lg (y M) M) M - (1 - y M) = (E (Lg (y M) M) M * Ev (fun M => -Lg (y M) M) M - 1) * (1 - y M) - (E (Lg (y M) M) M * (1 - y M) - 1) * Ev (fun M => -Lg (y M) M) M
  grind
/-- The half is the logarithm of the root. -/
theorem IsLog.half {l r : Nat → Rat} (h : IsLog l (fun M => r M * r M)) (c : Rat) (hc : 0 < c) (N : Nat) (hr : ∀ M, N ≤ M → c ≤ r M) : IsLog (fun M => l M / 2) r := by
  have b : Bdd (fun M => l M / 2) := by
    obtain ⟨K, N', k0, hb⟩ := h.1
    exact ⟨K, N', k0, fun M hM => by obtain ⟨_, _⟩ := hb M hM; constructor <;> grind⟩
  refine ⟨b, ?_⟩
  have n1 := Ev_add b b
  have e : (fun M => l M / 2 + l M / 2) = l := funext fun M => by grind
  rw [e] at n1
  have n2 := n1.add h.2
  obtain ⟨d, hd, N1, hl⟩ := Ev_low b
  intro ε hε
  obtain ⟨N2, h2⟩ := n2 (ε * c) (Rat.mul_pos hε hc)
  refine ⟨N + N1 + N2, fun M hM => ?_⟩
  have g1 := hr M (by omega)
  have g2 := hl M (by omega)
  obtain ⟨g3, g4⟩ : AB (Ev (fun M => l M / 2) M * Ev (fun M => l M / 2) M - Ev l M + (Ev l M - r M * r M)) (ε * c) := h2 M (by omega)
  show AB (Ev (fun M => l M / 2) M - r M) ε
  generalize Ev (fun M => l M / 2) M = X at *
  generalize r M = Y at *
  generalize Ev l M = Z at *
  have e1 : X * X - Z + (Z - Y * Y) = (X - Y) * (X + Y) := by grind
  rw [e1] at g3 g4
  constructor
  · refine Rat.not_lt.1 fun hn => ?_
    have p1 := Rat.mul_nonneg (show 0 ≤ -ε - (X - Y) by grind) (show 0 ≤ X + Y by grind)
    have p2 := Rat.mul_pos hε (show 0 < X + Y - c by grind)
    grind
  · refine Rat.not_lt.1 fun hn => ?_
    have p1 := Rat.mul_nonneg (show 0 ≤ X - Y - ε by grind) (show 0 ≤ X + Y by grind)
    have p2 := Rat.mul_pos hε (show 0 < X + Y - c by grind)
    grind
/-- Some times. -/
theorem IsLog.times {l r : Nat → Rat} (h : IsLog l r) (k : Nat) : IsLog (fun M => (k : Rat) * l M) (fun M => pw (r M) k) := by
  induction k with
  | zero =>
    have e1 : (fun M => ((0 : Nat) : Rat) * l M) = fun _ => 0 := funext fun M => by simp; try grind
    rw [e1]; exact isLog_one
  | succ k ih =>
    have e1 : (fun M => ((k + 1 : Nat) : Rat) * l M) = fun M => l M + (k : Rat) * l M := funext fun M => by
      have : ((k + 1 : Nat) : Rat) = (k : Rat) + 1 := by simp
      rw [this]; grind
    rw [e1]; exact h.add ih
/-- What is left out of the sum is little. -/
theorem Lg_tail {y : Rat} (hy : AB y (1 / 2)) (a i : Nat) : AB (Lg y (a + i) - Lg y a) (2 * (q2 a - q2 (a + i))) := by
  induction i with
  | zero => simp only [Nat.add_zero]; constructor <;> grind
  | succ i ih =>
    have e : Lg y (a + (i + 1)) = Lg y (a + i) + pw y (a + i + 1) / (((a + i : Nat) : Rat) + 1) := rfl
    have e2 : q2 (a + (i + 1)) = q2 (a + i) / 2 := rfl
    have h : AB (pw y (a + i + 1) / (((a + i : Nat) : Rat) + 1)) (q2 (a + i)) := by
      refine rdiv_AB (pos1 _) ((pw_AB hy (a + i + 1)).mono ?_)
      have q := q2_pos (a + i)
      have kk : (0 : Rat) ≤ ((a + i : Nat) : Rat) := by exact_mod_cast Nat.zero_le (a + i)
      have := Rat.mul_nonneg kk (Rat.le_of_lt q)
      simp only [q2]; grind
    have := ih.add h
    rw [e, e2]
    generalize pw y (a + i + 1) / (((a + i : Nat) : Rat) + 1) = t at *
    have h3 : Lg y (a + i) + t - Lg y a = Lg y (a + i) - Lg y a + t := by grind
    rw [h3]
    exact this.mono (by grind)
theorem Lg_double {y : Nat → Rat} (N0 : Nat) (hy : ∀ M, N0 ≤ M → AB (y M) (1 / 2)) : Null (fun M => Lg (y M) (M + M) - Lg (y M) M) := by
  refine ((null_q2.add null_q2)).of_le N0 fun M hM => ?_
  refine (Lg_tail (hy M hM) M M).mono ?_
  have := q2_pos (M + M)
  grind
/-- The odd ones alone, doubled. -/
def Az (z : Rat) (M : Nat) : Rat := S (fun k => pw z (2 * k + 1) / (2 * (k : Rat) + 1)) M
theorem pw_neg (z : Rat) (k : Nat) : pw (-z) (2 * k) = pw z (2 * k) := by
  induction k with
  | zero => rfl
  | succ k ih => rw [show 2 * (k + 1) = 2 * k + 1 + 1 by omega]; simp only [pw, ih]; grind
theorem Az_Lg (z : Rat) (M : Nat) : 2 * Az z M = Lg z (M + M) - Lg (-z) (M + M) := by
  induction M with
  | zero => simp [Az, Lg, S]; try grind
  | succ M ih =>
    have e : M + 1 + (M + 1) = M + M + 1 + 1 := by omega
    have e1 : ∀ y, Lg y (M + M + 1 + 1) = Lg y (M + M) + pw y (M + M + 1) / (((M + M : Nat) : Rat) + 1) + pw y (M + M + 1 + 1) / (((M + M + 1 : Nat) : Rat) + 1) := fun y => rfl
    have e2 : Az z (M + 1) = Az z M + pw z (2 * M + 1) / (2 * (M : Rat) + 1) := rfl
    have e3 : ((M + M : Nat) : Rat) = 2 * (M : Rat) := by
      have : ((M + M : Nat) : Rat) = (M : Rat) + (M : Rat) := by simp
      rw [this]; grind
    rw [e, e1, e1, e2, e3]
    have p1 : pw (-z) (M + M + 1) = -pw z (M + M + 1) := by
      have := pw_neg z M
      rw [show M + M = 2 * M by omega]
      simp only [pw, this]; grind
    have p2 : pw (-z) (M + M + 1 + 1) = pw z (M + M + 1 + 1) := by
      have := pw_neg z (M + 1)
      rw [show 2 * (M + 1) = M + M + 1 + 1 by omega] at this
      exact this
    rw [p1, p2, show 2 * M + 1 = M + M + 1 by omega]
    generalize pw z (M + M + 1) = a
    generalize pw z (M + M + 1 + 1) / (((M + M + 1 : Nat) : Rat) + 1) = b
    have : -a / (2 * (M : Rat) + 1) = -(a / (2 * (M : Rat) + 1)) := by rw [Rat.div_def, Rat.div_def, Rat.neg_mul]
    rw [this]
    grind
/-- The logarithm of 1 and z over 1 less z. -/
theorem isLog_Az {z r : Nat → Rat} (N0 : Nat) (hz : ∀ M, N0 ≤ M → AB (z M) (1 / 2)) (hr : ∀ M, N0 ≤ M → r M * (1 - z M) = 1 + z M) : IsLog (fun M => 2 * Az (z M) M) r := by
  have h1 := isLog_Lg N0 (y := fun M => -z M) (fun M hM => (hz M hM).neg)
  have h2 := isLog_Lg N0 hz
  have hinv : ∀ M, N0 ≤ M → 1 / (1 - z M) * (1 - z M) = 1 := fun M hM => rdm (by obtain ⟨_, _⟩ := hz M hM; grind)
  have h3 := h2.neg (s := fun M => 1 / (1 - z M)) (Bdd.of_le 2 N0 fun M hM => by
    have hp : 0 < 1 - z M := by obtain ⟨_, _⟩ := hz M hM; grind
    refine rdiv_AB hp ?_
    obtain ⟨_, _⟩ := hz M hM
    constructor <;> grind) N0 hinv
  have h4 := (h1.add h3).congr_r (r' := r) (null_zero.of_eq_from N0 fun M hM => by
    have e1 := hinv M hM
    have e2 := hr M hM
    have hp : 0 < 1 - z M := by obtain ⟨_, _⟩ := hz M hM; grind
    generalize 1 / (1 - z M) = i at *
    have : r M = (1 + z M) * i := by
      have : r M * (1 - z M) * i = (1 + z M) * i := by rw [e2]
      have e3 : r M * (1 - z M) * i = r M * (i * (1 - z M)) := by grind
      rw [e3, e1] at this
      grind
    grind)
  refine h4.congr ?_
  have d1 := Lg_double N0 hz
  have d2 := Lg_double N0 (y := fun M => -z M) (fun M hM => (hz M hM).neg)
  refine (d2.sub d1).of_eq fun M => ?_
  rw [Az_Lg]; grind
end Go.Proofs.Ytgmnknmjainabaa.Ex

namespace Go.Proofs.Ytgmnknmjainabaa
set_option linter.unusedVariables false
open Ex

/-- The least and the greatest of four. -/
theorem least4 (a b c d : Int) : leastZ (pr4 a b c d) 3 ≤ a ∧ leastZ (pr4 a b c d) 3 ≤ b ∧ leastZ (pr4 a b c d) 3 ≤ c ∧ leastZ (pr4 a b c d) 3 ≤ d ∧ (leastZ (pr4 a b c d) 3 = a ∨ leastZ (pr4 a b c d) 3 = b ∨ leastZ (pr4 a b c d) 3 = c ∨ leastZ (pr4 a b c d) 3 = d) := by
  simp only [leastZ, pr4]; simp; repeat' split
  all_goals omega
theorem greatest4 (a b c d : Int) : a ≤ mostZ (pr4 a b c d) 3 ∧ b ≤ mostZ (pr4 a b c d) 3 ∧ c ≤ mostZ (pr4 a b c d) 3 ∧ d ≤ mostZ (pr4 a b c d) 3 ∧ (mostZ (pr4 a b c d) 3 = a ∨ mostZ (pr4 a b c d) 3 = b ∨ mostZ (pr4 a b c d) 3 = c ∨ mostZ (pr4 a b c d) 3 = d) := by
  simp only [mostZ, pr4]; simp; repeat' split
  all_goals omega

/-- Spans by their ends: their product, sum; one times a number over another one; how far from 0. -/
def mulI (B : Nat) (a b : Int × Int) : Int × Int := (leastZ (pr4 (a.1 * b.1) (a.1 * b.2) (a.2 * b.1) (a.2 * b.2)) 3 / Q B, -(-(mostZ (pr4 (a.1 * b.1) (a.1 * b.2) (a.2 * b.1) (a.2 * b.2)) 3) / Q B))
def addI (a b : Int × Int) : Int × Int := (a.1 + b.1, a.2 + b.2)
def subI (a b : Int × Int) : Int × Int := (a.1 - b.2, a.2 - b.1)
def scaleI (a : Int × Int) (n d : Int) : Int × Int := (a.1 * n / d, -(-(a.2 * n) / d))
def timesI (a : Int × Int) (n : Int) : Int × Int := (a.1 * n, a.2 * n)
def reachI (a : Int × Int) : Int := maxZ a.2 (-a.1)
def ofI (n d : Int) (B : Nat) : Int × Int := (n * Q B / d, -(-(n * Q B) / d))
def downI (a : Int × Int) (t : Nat) : Int × Int := (a.1 / Q t, -(-a.2 / Q t))
/-- In how far a sum has come. -/
def sumI (f : Nat → Int × Int) : Nat → Int × Int
  | 0 => f 0
  | n + 1 => addI (sumI f n) (f (n + 1))
/-- Where it ends. -/
def IsStop (f : Nat → Int × Int) (N : Nat) : Prop := reachI (f N) ≤ 1 ∧ ∀ n, n < N → 1 < reachI (f n)
/-- And what comes of it. -/
def doneI (f : Nat → Int × Int) (N : Nat) : Int × Int := addI (sumI f N) (-reachI (f N), reachI (f N))
/-- Squares, again and again. -/
def sqI (B : Nat) (a : Int × Int) : Nat → Int × Int
  | 0 => a
  | t + 1 => mulI B (sqI B a t) (sqI B a t)
/-- Within so much of 0. -/
def Abs (a : Int × Int) (m : Int) : Prop := -m ≤ a.1 ∧ a.1 ≤ m ∧ -m ≤ a.2 ∧ a.2 ≤ m

theorem reach_abs {a : Int × Int} (h : a.1 ≤ a.2) : Abs a (reachI a) := by
  unfold Abs reachI maxZ; split <;> omega
theorem abs_reach {a : Int × Int} {m : Int} (h : Abs a m) : reachI a ≤ m := by
  obtain ⟨h1, h2, h3, h4⟩ := h
  unfold reachI maxZ; split <;> omega
theorem Abs.nonneg {a : Int × Int} {m : Int} (h : Abs a m) : 0 ≤ m := by obtain ⟨h1, h2, h3, h4⟩ := h; omega
theorem Abs.mono {a : Int × Int} {m n : Int} (h : Abs a m) (k : m ≤ n) : Abs a n := by obtain ⟨h1, h2, h3, h4⟩ := h; exact ⟨by omega, by omega, by omega, by omega⟩
theorem Abs.add {a b : Int × Int} {m n : Int} (h : Abs a m) (k : Abs b n) : Abs (addI a b) (m + n) := by
  obtain ⟨h1, h2, h3, h4⟩ := h
  obtain ⟨k1, k2, k3, k4⟩ := k
  refine ⟨?_, ?_, ?_, ?_⟩ <;> simp only [addI] <;> omega
theorem abs_mul {x y m n : Int} (h1 : -m ≤ x) (h2 : x ≤ m) (k1 : -n ≤ y) (k2 : y ≤ n) : -(m * n) ≤ x * y ∧ x * y ≤ m * n := by
  have p1 := Int.mul_nonneg (show 0 ≤ m - x by omega) (show 0 ≤ n + y by omega)
  have p2 := Int.mul_nonneg (show 0 ≤ m + x by omega) (show 0 ≤ n - y by omega)
  have p3 := Int.mul_nonneg (show 0 ≤ m - x by omega) (show 0 ≤ n - y by omega)
  have p4 := Int.mul_nonneg (show 0 ≤ m + x by omega) (show 0 ≤ n + y by omega)
  constructor <;> grind
/-- Over a number, rounded away from 0, it is within what has just that. -/
theorem round_abs {x m q : Int} (hq : 0 < q) (h1 : -(m * q) ≤ x) (h2 : x ≤ m * q) : -m ≤ x / q ∧ x / q ≤ m ∧ -m ≤ -(-x / q) ∧ -(-x / q) ≤ m := by
  have a1 : -m ≤ x / q := by rw [Int.le_ediv_iff_mul_le hq, Int.neg_mul]; exact h1
  have a2 : -m ≤ -x / q := by rw [Int.le_ediv_iff_mul_le hq, Int.neg_mul]; omega
  have a3 := flo_le x q hq
  have a4 := ceil_ge x q hq
  refine ⟨a1, ?_, ?_, by omega⟩
  · refine Int.not_lt.1 fun hn => ?_
    have := Int.mul_le_mul_of_nonneg_right (show m + 1 ≤ x / q by omega) (show 0 ≤ q by omega)
    rw [Int.add_mul] at this; omega
  · refine Int.not_lt.1 fun hn => ?_
    have := Int.mul_le_mul_of_nonneg_right (show -(-x / q) ≤ -m - 1 by omega) (show 0 ≤ q by omega)
    have e : (-m - 1) * q = -(m * q) - q := by grind
    rw [e] at this; omega
theorem mulI_abs {B : Nat} {a b : Int × Int} {m n p : Int} (h : Abs a m) (k : Abs b n) (hp : m * n ≤ p * Q B) : Abs (mulI B a b) p := by
  obtain ⟨h1, h2, h3, h4⟩ := h
  obtain ⟨k1, k2, k3, k4⟩ := k
  have q := Q_pos B
  have c1 := abs_mul h1 h2 k1 k2
  have c2 := abs_mul h1 h2 k3 k4
  have c3 := abs_mul h3 h4 k1 k2
  have c4 := abs_mul h3 h4 k3 k4
  have l := (least4 (a.1 * b.1) (a.1 * b.2) (a.2 * b.1) (a.2 * b.2)).2.2.2.2
  have g := (greatest4 (a.1 * b.1) (a.1 * b.2) (a.2 * b.1) (a.2 * b.2)).2.2.2.2
  have r1 := round_abs (x := leastZ (pr4 (a.1 * b.1) (a.1 * b.2) (a.2 * b.1) (a.2 * b.2)) 3) (m := p) (show 0 < Q B by omega) (by omega) (by omega)
  have r2 := round_abs (x := mostZ (pr4 (a.1 * b.1) (a.1 * b.2) (a.2 * b.1) (a.2 * b.2)) 3) (m := p) (show 0 < Q B by omega) (by omega) (by omega)
  exact ⟨r1.1, r1.2.1, r2.2.2.1, r2.2.2.2⟩
theorem mulI_le (B : Nat) {a b : Int × Int} : (mulI B a b).1 ≤ (mulI B a b).2 := by
  have q := Q_pos B
  have l := least4 (a.1 * b.1) (a.1 * b.2) (a.2 * b.1) (a.2 * b.2)
  have g := greatest4 (a.1 * b.1) (a.1 * b.2) (a.2 * b.1) (a.2 * b.2)
  simp only [mulI]
  have a1 := flo_le (leastZ (pr4 (a.1 * b.1) (a.1 * b.2) (a.2 * b.1) (a.2 * b.2)) 3) (Q B) (by omega)
  have a2 := ceil_ge (mostZ (pr4 (a.1 * b.1) (a.1 * b.2) (a.2 * b.1) (a.2 * b.2)) 3) (Q B) (by omega)
  refine Int.not_lt.1 fun hn => ?_
  have := Int.mul_lt_mul_of_pos_right hn (show 0 < Q B by omega)
  omega
theorem scaleI_abs {a : Int × Int} {m n d : Int} (h : Abs a m) (hd : 0 < d) (hn : 0 ≤ n) (hnd : n ≤ d) : Abs (scaleI a n d) m := by
  have m0 := h.nonneg
  obtain ⟨h1, h2, h3, h4⟩ := h
  have p := Int.mul_nonneg m0 (show 0 ≤ d - n by omega)
  have c1 := abs_mul h1 h2 (show -n ≤ n by omega) (Int.le_refl n)
  have c2 := abs_mul h3 h4 (show -n ≤ n by omega) (Int.le_refl n)
  rw [Int.mul_sub] at p
  have r1 := round_abs (x := a.1 * n) (m := m) hd (by omega) (by omega)
  have r2 := round_abs (x := a.2 * n) (m := m) hd (by omega) (by omega)
  exact ⟨r1.1, r1.2.1, r2.2.2.1, r2.2.2.2⟩
theorem scaleI_le {a : Int × Int} {n d : Int} (h : a.1 ≤ a.2) (hd : 0 < d) (hn : 0 ≤ n) : (scaleI a n d).1 ≤ (scaleI a n d).2 := by
  simp only [scaleI]
  have a1 := flo_le (a.1 * n) d hd
  have a2 := ceil_ge (a.2 * n) d hd
  have a3 := Int.mul_le_mul_of_nonneg_right h hn
  refine Int.not_lt.1 fun hn => ?_
  have := Int.mul_lt_mul_of_pos_right hn hd
  omega
/-- Widths. -/
theorem corner_wide {x y x' y' a1 a2 b1 b2 m n : Int} (hx : x = a1 ∨ x = a2) (hy : y = b1 ∨ y = b2) (hx' : x' = a1 ∨ x' = a2) (hy' : y' = b1 ∨ y' = b2)
    (ha : a1 ≤ a2) (hb : b1 ≤ b2) (h1 : -m ≤ a1) (h2 : a1 ≤ m) (h3 : -m ≤ a2) (h4 : a2 ≤ m) (k1 : -n ≤ b1) (k2 : b1 ≤ n) (k3 : -n ≤ b2) (k4 : b2 ≤ n) :
    x * y - x' * y' ≤ m * (b2 - b1) + n * (a2 - a1) := by
  -- x y - x' y' = x (y - y') + (x - x') y'
  have e : x * y - x' * y' = x * (y - y') + (x - x') * y' := by grind
  rw [e]
  have c1 : -m ≤ x ∧ x ≤ m := by rcases hx with h | h <;> subst h <;> exact ⟨by assumption, by assumption⟩
  have c2 : -n ≤ y' ∧ y' ≤ n := by rcases hy' with h | h <;> subst h <;> exact ⟨by assumption, by assumption⟩
  have d1 : -(b2 - b1) ≤ y - y' ∧ y - y' ≤ b2 - b1 := by rcases hy with h | h <;> rcases hy' with h' | h' <;> omega
  have d2 : -(a2 - a1) ≤ x - x' ∧ x - x' ≤ a2 - a1 := by rcases hx with h | h <;> rcases hx' with h' | h' <;> omega
  have g1 := (abs_mul c1.1 c1.2 d1.1 d1.2).2
  have g2 := (abs_mul d2.1 d2.2 c2.1 c2.2).2
  rw [Int.mul_comm n]
  omega
theorem div_wide {x y q c : Int} (hq : 0 < q) (h : x - y ≤ c * q) : -(-x / q) - y / q ≤ c + 1 := by
  have a1 := ceil_lt x q hq
  have a2 := flo_gt y q hq
  refine Int.not_lt.1 fun hn => ?_
  have := Int.mul_le_mul_of_nonneg_right (show c + 2 ≤ -(-x / q) - y / q by omega) (show 0 ≤ q by omega)
  rw [Int.sub_mul, Int.add_mul] at this
  omega
theorem mulI_wide {B : Nat} {a b : Int × Int} {m n c : Int} (h : Abs a m) (k : Abs b n) (ha : a.1 ≤ a.2) (hb : b.1 ≤ b.2) (hc : m * (b.2 - b.1) + n * (a.2 - a.1) ≤ c * Q B) : (mulI B a b).2 - (mulI B a b).1 ≤ c + 1 := by
  obtain ⟨h1, h2, h3, h4⟩ := h
  obtain ⟨k1, k2, k3, k4⟩ := k
  have q := Q_pos B
  have l := (least4 (a.1 * b.1) (a.1 * b.2) (a.2 * b.1) (a.2 * b.2)).2.2.2.2
  have g := (greatest4 (a.1 * b.1) (a.1 * b.2) (a.2 * b.1) (a.2 * b.2)).2.2.2.2
  refine div_wide (show 0 < Q B by omega) (Int.le_trans ?_ hc)
  have key := fun x y x' y' (hx : x = a.1 ∨ x = a.2) (hy : y = b.1 ∨ y = b.2) (hx' : x' = a.1 ∨ x' = a.2) (hy' : y' = b.1 ∨ y' = b.2) => corner_wide hx hy hx' hy' ha hb h1 h2 h3 h4 k1 k2 k3 k4
  rcases g with g | g | g | g <;> rcases l with l | l | l | l <;> rw [g, l] <;> exact key _ _ _ _ (by simp) (by simp) (by simp) (by simp)
theorem scaleI_wide {a : Int × Int} {n d c : Int} (hd : 0 < d) (h : (a.2 - a.1) * n ≤ c * d) : (scaleI a n d).2 - (scaleI a n d).1 ≤ c + 1 := by
  refine div_wide hd ?_
  rw [← Int.sub_mul]; exact h

/-- The span has the number that the sequence tells. -/
def Iv (B : Nat) (a : Int × Int) (x : Nat → Rat) : Prop := Has ((a.1 : Rat) / (Q B : Rat)) ((a.2 : Rat) / (Q B : Rat)) x
theorem Qr_pos (B : Nat) : (0 : Rat) < (Q B : Rat) := by exact_mod_cast (show (0 : Int) < Q B by have := Q_pos B; omega)
theorem rle_div {a b c : Rat} (hc : 0 < c) (h : a * c ≤ b) : a ≤ b / c := by
  have e := rdm (a := b) hc
  generalize b / c = q at *
  refine Rat.not_lt.1 fun hn => ?_
  have := Rat.mul_pos hc (show 0 < a - q by grind)
  grind
theorem rdiv_le {a b c : Rat} (hc : 0 < c) (h : a ≤ b * c) : a / c ≤ b := by
  have e := rdm (a := a) hc
  generalize a / c = q at *
  refine Rat.not_lt.1 fun hn => ?_
  have := Rat.mul_pos hc (show 0 < q - b by grind)
  grind
theorem cast_le {a b : Int} (h : a ≤ b) : (a : Rat) ≤ (b : Rat) := by exact_mod_cast h
/-- Ends of a product, as ratios. -/
theorem mul_lo {L u v q : Int} (hq : 0 < q) (h : L * q ≤ u * v) : (L : Rat) / (q : Rat) ≤ (u : Rat) / (q : Rat) * ((v : Rat) / (q : Rat)) := by
  have q0 : (0 : Rat) < (q : Rat) := by exact_mod_cast hq
  have e1 := rdm (a := (u : Rat)) q0
  have e2 := rdm (a := (v : Rat)) q0
  have h1 := cast_le h
  rw [Rat.intCast_mul, Rat.intCast_mul] at h1
  refine rdiv_le q0 ?_
  generalize (u : Rat) / (q : Rat) = U at *
  generalize (v : Rat) / (q : Rat) = V at *
  rw [← e1, ← e2] at h1
  refine Rat.not_lt.1 fun hn => ?_
  have := Rat.mul_pos (show 0 < (L : Rat) - U * V * (q : Rat) by grind) q0
  grind
theorem mul_hi {L u v q : Int} (hq : 0 < q) (h : u * v ≤ L * q) : (u : Rat) / (q : Rat) * ((v : Rat) / (q : Rat)) ≤ (L : Rat) / (q : Rat) := by
  have q0 : (0 : Rat) < (q : Rat) := by exact_mod_cast hq
  have e1 := rdm (a := (u : Rat)) q0
  have e2 := rdm (a := (v : Rat)) q0
  have h1 := cast_le h
  rw [Rat.intCast_mul, Rat.intCast_mul] at h1
  refine rle_div q0 ?_
  generalize (u : Rat) / (q : Rat) = U at *
  generalize (v : Rat) / (q : Rat) = V at *
  rw [← e1, ← e2] at h1
  refine Rat.not_lt.1 fun hn => ?_
  have := Rat.mul_pos (show 0 < U * V * (q : Rat) - (L : Rat) by grind) q0
  grind
theorem Iv.mul {B : Nat} {a b : Int × Int} {x y : Nat → Rat} (h : Iv B a x) (k : Iv B b y) : Iv B (mulI B a b) (fun M => x M * y M) := by
  have q0 : 0 < Q B := by have := Q_pos B; omega
  have l := least4 (a.1 * b.1) (a.1 * b.2) (a.2 * b.1) (a.2 * b.2)
  have g := greatest4 (a.1 * b.1) (a.1 * b.2) (a.2 * b.1) (a.2 * b.2)
  have fl := flo_le (leastZ (pr4 (a.1 * b.1) (a.1 * b.2) (a.2 * b.1) (a.2 * b.2)) 3) (Q B) q0
  have ce := ceil_ge (mostZ (pr4 (a.1 * b.1) (a.1 * b.2) (a.2 * b.1) (a.2 * b.2)) 3) (Q B) q0
  exact Has.mul h k (mul_lo q0 (Int.le_trans fl l.1)) (mul_lo q0 (Int.le_trans fl l.2.1)) (mul_lo q0 (Int.le_trans fl l.2.2.1)) (mul_lo q0 (Int.le_trans fl l.2.2.2.1)) (mul_hi q0 (Int.le_trans g.1 ce)) (mul_hi q0 (Int.le_trans g.2.1 ce)) (mul_hi q0 (Int.le_trans g.2.2.1 ce)) (mul_hi q0 (Int.le_trans g.2.2.2.1 ce))
theorem rdiv_add (a b c : Rat) : (a + b) / c = a / c + b / c := by rw [Rat.div_def, Rat.div_def, Rat.div_def, Rat.add_mul]
theorem rdiv_sub (a b c : Rat) : (a - b) / c = a / c - b / c := by rw [Rat.sub_eq_add_neg, Rat.div_def, Rat.add_mul, Rat.neg_mul, Rat.div_def, Rat.div_def, ← Rat.sub_eq_add_neg]
theorem Iv.add {B : Nat} {a b : Int × Int} {x y : Nat → Rat} (h : Iv B a x) (k : Iv B b y) : Iv B (addI a b) (fun M => x M + y M) := by
  have := Has.add h k
  rw [← rdiv_add, ← rdiv_add, ← Rat.intCast_add, ← Rat.intCast_add] at this
  exact this
theorem Iv.sub {B : Nat} {a b : Int × Int} {x y : Nat → Rat} (h : Iv B a x) (k : Iv B b y) : Iv B (subI a b) (fun M => x M - y M) := by
  have := Has.sub h k
  rw [← rdiv_sub, ← rdiv_sub, ← Rat.intCast_sub, ← Rat.intCast_sub] at this
  exact this
theorem Iv.times {B : Nat} {a : Int × Int} {x : Nat → Rat} (h : Iv B a x) (n : Nat) : Iv B (timesI a n) (fun M => (n : Rat) * x M) := by
  have := Has.scale h (c := (n : Rat)) (by exact_mod_cast Nat.zero_le n)
  have e : ∀ z : Int, (n : Rat) * ((z : Rat) / (Q B : Rat)) = ((z * (n : Int) : Int) : Rat) / (Q B : Rat) := fun z => by
    rw [Rat.intCast_mul, Rat.div_def, Rat.div_def, ← Rat.mul_assoc, Rat.mul_comm (n : Rat)]; rfl
  rw [e, e] at this
  exact this
theorem frac_lo {L u n d q : Int} (hd : 0 < d) (hq : 0 < q) (h : L * d ≤ u * n) : (L : Rat) / (q : Rat) ≤ (n : Rat) / (d : Rat) * ((u : Rat) / (q : Rat)) := by
  have q0 : (0 : Rat) < (q : Rat) := by exact_mod_cast hq
  have d0 : (0 : Rat) < (d : Rat) := by exact_mod_cast hd
  have e1 := rdm (a := (u : Rat)) q0
  have e2 := rdm (a := (n : Rat)) d0
  have h1 := cast_le h
  rw [Rat.intCast_mul, Rat.intCast_mul] at h1
  refine rdiv_le q0 ?_
  generalize (u : Rat) / (q : Rat) = U at *
  generalize (n : Rat) / (d : Rat) = V at *
  rw [← e1, ← e2] at h1
  refine Rat.not_lt.1 fun hn => ?_
  have := Rat.mul_pos (show 0 < (L : Rat) - V * U * (q : Rat) by grind) d0
  grind
theorem frac_hi {L u n d q : Int} (hd : 0 < d) (hq : 0 < q) (h : u * n ≤ L * d) : (n : Rat) / (d : Rat) * ((u : Rat) / (q : Rat)) ≤ (L : Rat) / (q : Rat) := by
  have q0 : (0 : Rat) < (q : Rat) := by exact_mod_cast hq
  have d0 : (0 : Rat) < (d : Rat) := by exact_mod_cast hd
  have e1 := rdm (a := (u : Rat)) q0
  have e2 := rdm (a := (n : Rat)) d0
  have h1 := cast_le h
  rw [Rat.intCast_mul, Rat.intCast_mul] at h1
  refine rle_div q0 ?_
  generalize (u : Rat) / (q : Rat) = U at *
  generalize (n : Rat) / (d : Rat) = V at *
  rw [← e1, ← e2] at h1
  refine Rat.not_lt.1 fun hn => ?_
  have := Rat.mul_pos (show 0 < V * U * (q : Rat) - (L : Rat) by grind) d0
  grind
theorem Iv.scale {B : Nat} {a : Int × Int} {x : Nat → Rat} (h : Iv B a x) {n d : Int} (hn : 0 ≤ n) (hd : 0 < d) : Iv B (scaleI a n d) (fun M => (n : Rat) / (d : Rat) * x M) := by
  have q0 : 0 < Q B := by have := Q_pos B; omega
  have d0 : (0 : Rat) < (d : Rat) := by exact_mod_cast hd
  have n0 : (0 : Rat) ≤ (n : Rat) := by exact_mod_cast hn
  have c0 : 0 ≤ (n : Rat) / (d : Rat) := rle_div d0 (by grind)
  exact (Has.scale h c0).mono (frac_lo hd q0 (flo_le (a.1 * n) d hd)) (frac_hi hd q0 (ceil_ge (a.2 * n) d hd))
theorem Iv.of (B : Nat) {n d : Int} (hd : 0 < d) : Iv B (ofI n d B) (fun _ => (n : Rat) / (d : Rat)) := by
  have q0 : 0 < Q B := by have := Q_pos B; omega
  have qr := Qr_pos B
  have e : (n : Rat) / (d : Rat) * ((Q B : Rat) / (Q B : Rat)) = (n : Rat) / (d : Rat) := by
    rw [Rat.div_def (Q B : Rat), Rat.mul_inv_cancel _ (by grind), Rat.mul_one]
  have l := frac_lo hd q0 (L := (ofI n d B).1) (u := Q B) (n := n) (by rw [Int.mul_comm (Q B)]; exact flo_le (n * Q B) d hd)
  have g := frac_hi hd q0 (L := (ofI n d B).2) (u := Q B) (n := n) (by rw [Int.mul_comm (Q B)]; exact ceil_ge (n * Q B) d hd)
  rw [e] at l g
  exact Has.const l g
/-- By fewer bits. -/
theorem Iv.to {B m : Nat} {a : Int × Int} {x : Nat → Rat} (h : Iv (B + m) a x) : Iv B (downI a m) x := by
  have q := Qr_pos B
  have qm := Qr_pos m
  have e : (Q (B + m) : Rat) = (Q B : Rat) * (Q m : Rat) := by rw [Q_add, Rat.intCast_mul]
  have f1 := flo_le a.1 (Q m) (by have := Q_pos m; omega)
  have f2 := ceil_ge a.2 (Q m) (by have := Q_pos m; omega)
  have q2 : 0 < (Q B : Rat) * (Q m : Rat) := Rat.mul_pos q qm
  unfold Iv at h
  rw [e] at h
  refine Has.mono h ?_ ?_
  · have g : (((downI a m).1 * Q m : Int) : Rat) ≤ ((a.1 : Int) : Rat) := cast_le f1
    rw [Rat.intCast_mul] at g
    refine rle_div q2 ?_
    have ea := rdm (a := ((downI a m).1 : Rat)) q
    generalize ((downI a m).1 : Rat) / (Q B : Rat) = U at *
    generalize ((downI a m).1 : Rat) = L at *
    rw [← ea] at g
    grind
  · have g : ((a.2 : Int) : Rat) ≤ (((downI a m).2 * Q m : Int) : Rat) := cast_le f2
    rw [Rat.intCast_mul] at g
    refine rdiv_le q2 ?_
    have ea := rdm (a := ((downI a m).2 : Rat)) q
    generalize ((downI a m).2 : Rat) / (Q B : Rat) = U at *
    generalize ((downI a m).2 : Rat) = L at *
    rw [← ea] at g
    grind
/-- Over a power of 2. -/
theorem Iv.down {B : Nat} {a : Int × Int} {x : Nat → Rat} (h : Iv B a x) (t : Nat) : Iv B (downI a t) (fun M => x M / (Q t : Rat)) := by
  have qt : 0 < Q t := by have := Q_pos t; omega
  have := h.scale (n := 1) (d := Q t) (by omega) qt
  have e : scaleI a 1 (Q t) = downI a t := by simp [scaleI, downI]
  rw [e] at this
  refine Has.of_eq this fun M => ?_
  rw [Rat.div_def, Rat.div_def, Rat.mul_comm]
  simp
/-- Two spans that have one number touch. -/
theorem Iv.touch {B C : Nat} {a b : Int × Int} {x : Nat → Rat} (h : Iv B a x) (k : Iv C b x) : a.1 * Q C ≤ b.2 * Q B := by
  have q := Qr_pos B
  have q' := Qr_pos C
  have t := Has.touch h k
  have e1 := rdm (a := (a.1 : Rat)) q
  have e2 := rdm (a := (b.2 : Rat)) q'
  have : ((a.1 * Q C : Int) : Rat) ≤ ((b.2 * Q B : Int) : Rat) := by
    rw [Rat.intCast_mul, Rat.intCast_mul]
    generalize (a.1 : Rat) / (Q B : Rat) = U at *
    generalize (b.2 : Rat) / (Q C : Rat) = V at *
    rw [← e1, ← e2]
    have := Rat.mul_nonneg (Rat.mul_nonneg (show 0 ≤ V - U by grind) (Rat.le_of_lt q)) (Rat.le_of_lt q')
    grind
  exact_mod_cast this
/-- Who is not less has not less. -/
theorem Iv.touch_le {B : Nat} {a b : Int × Int} {x y z : Nat → Rat} (h : Iv B a x) (k : Iv B b y) (hz : Null z) (N0 : Nat) (hxy : ∀ M, N0 ≤ M → x M ≤ y M + z M) : a.1 ≤ b.2 := by
  have q := Qr_pos B
  have t := Has.touch_le h k hz N0 hxy
  have e1 := rdm (a := (a.1 : Rat)) q
  have e2 := rdm (a := (b.2 : Rat)) q
  have : ((a.1 : Int) : Rat) ≤ ((b.2 : Int) : Rat) := by
    generalize (a.1 : Rat) / (Q B : Rat) = U at *
    generalize (b.2 : Rat) / (Q B : Rat) = V at *
    rw [← e1, ← e2]
    have := Rat.mul_nonneg (show 0 ≤ V - U by grind) (Rat.le_of_lt q)
    grind
  exact_mod_cast this
theorem Iv.congr {B : Nat} {a : Int × Int} {x y : Nat → Rat} (h : Iv B a x) (k : Null (fun M => y M - x M)) : Iv B a y := Has.congr h k
end Go.Proofs.Ytgmnknmjainabaa
