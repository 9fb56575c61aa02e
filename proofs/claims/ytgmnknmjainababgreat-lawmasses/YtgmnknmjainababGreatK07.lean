/-
  e to the power of a number that is told by a sequence: of a sum, of little, of more. Plain arithmetic: no statement of the seat is proved here.
  e to the power of the sum of y^k over k is 1 over 1 less y. Plain arithmetic: no statement of the seat is proved here.
  Logarithms of numbers that are told by sequences: of products, roots, quotients. Plain arithmetic: no statement of the seat is proved here.
  Spans by their ends: what is made of them, how wide that is, how far from 0, and which numbers it has. Plain arithmetic: no statement of the seat is proved here.
  Sums whose numbers become less; the numbers that make up a power of e, and that what is made has it. Plain arithmetic: no statement of the seat is proved here.
  How far from 0, and how wide, what is made of a power of e is. Plain arithmetic: no statement of the seat is proved here.
  The numbers that make up a logarithm, that what is made has it, and how wide it is. Plain arithmetic: no statement of the seat is proved here.
  The numbers that make up a power of e of a number from 0 to 1, as package tailsureref takes them. Plain arithmetic: no statement of the seat is proved here.
-/
import Derived.Test.YtgmnknmjainababGreatK06
namespace Go.Proofs.YtgmnknmjainababGreat.Ex
set_option linter.unusedVariables false

theorem tm_AB {x R : Rat} (h : AB x R) (n : Nat) : AB (tm x n) (tm R n) := by
  induction n with
  | zero => simp only [tm]; constructor <;> grind
  | succ n ih =>
    have hp := pos1 n
    have g := ih.mul h
    have e1 := tm_succ x n
    have e2 := tm_succ R n
    have e3 : tm x n * x = ((n : Rat) + 1) * tm x (n + 1) := by grind
    have e4 : tm R n * R = ((n : Rat) + 1) * tm R (n + 1) := by grind
    rw [e3, e4] at g
    obtain ⟨g1, g2⟩ := g
    generalize (n : Rat) + 1 = m at *
    constructor
    · refine Rat.not_lt.1 fun hn => ?_
      have := Rat.mul_pos hp (show 0 < -tm R (n + 1) - tm x (n + 1) by grind)
      grind
    · refine Rat.not_lt.1 fun hn => ?_
      have := Rat.mul_pos hp (show 0 < tm x (n + 1) - tm R (n + 1) by grind)
      grind
theorem tm_unif (R : Rat) : ∃ K, 0 ≤ K ∧ ∀ x, AB x R → ∀ i, AB (tm x i) (K * q4 i) := by
  obtain ⟨K, k0, h⟩ := tm_bd R
  exact ⟨K, k0, fun x hx i => (tm_AB hx i).mono (h i).2⟩
theorem E_unif (R : Rat) : ∃ K, 0 ≤ K ∧ ∀ M x y, AB x R → AB y R → AB (E x M * E y M - E (x + y) M) (K * ((M : Rat) * q4 M)) := by
  obtain ⟨K, k0, h⟩ := tm_unif R
  refine ⟨2 * K * K, ?_, fun M x y hx hy => (E_mul x y K K (h x hx) (h y hy) M).mono (by grind)⟩
  have := Rat.mul_nonneg k0 k0; grind
theorem E_bound (R : Rat) : ∃ K, 0 ≤ K ∧ ∀ M x, AB x R → AB (E x M) K := by
  obtain ⟨K, k0, h⟩ := tm_unif R
  refine ⟨2 * K, by grind, fun M x hx => ?_⟩
  have := E_sub x K (h x hx) 0 M
  have e : E x 0 = 0 := rfl
  rw [Nat.zero_add, e] at this
  have e1 : E x M - 0 = E x M := by grind
  rw [e1] at this
  refine this.mono ?_
  have := q4_pos M
  have := Rat.mul_nonneg k0 (Rat.le_of_lt this)
  simp only [q4]
  grind
theorem tm_zero (n : Nat) : tm 0 (n + 1) = 0 := by
  have := tm_succ 0 n
  have hp := pos1 n
  have h5 : ((n : Rat) + 1) * tm 0 (n + 1) = 0 := by grind
  rcases Rat.mul_eq_zero.1 h5 with h6 | h6
  · grind
  · exact h6
theorem E_zero (M : Nat) : E 0 (M + 1) = 1 := by
  induction M with
  | zero => simp only [E, S, tm]; grind
  | succ M ih =>
    have e : E 0 (M + 1 + 1) = E 0 (M + 1) + tm 0 (M + 1) := rfl
    rw [e, ih, tm_zero]; grind
theorem sq_nonneg (x : Rat) : 0 ≤ x * x := by
  rcases Rat.le_total (a := 0) (b := x) with h | h
  · exact Rat.mul_nonneg h h
  · have := Rat.mul_nonneg (show 0 ≤ -x by grind) (show 0 ≤ -x by grind); grind
theorem E_low (R : Rat) : ∃ c, 0 < c ∧ ∃ N, ∀ M, N ≤ M → ∀ x, AB x R → c ≤ E x M := by
  obtain ⟨K, k0, hK⟩ := E_unif R
  obtain ⟨L, l0, hL⟩ := E_bound R
  have hp : 0 < 4 * (L + 1) := by grind
  have hc := rdiv_pos (show (0 : Rat) < 1 by grind) hp
  have hcL := rdm (a := 1) hp
  refine ⟨_, hc, ?_⟩
  generalize 1 / (4 * (L + 1)) = c at *
  obtain ⟨N, hN⟩ := null_q4 K k0 c hc
  refine ⟨N + 1, fun M hM x hx => ?_⟩
  obtain ⟨n1, n2⟩ : AB (K * ((M : Rat) * q4 M)) c := hN M (by omega)
  have hx2 : AB (x / 2) R := by obtain ⟨a, b⟩ := hx; constructor <;> grind
  have h1 := hK M (x / 2) (x / 2) hx2 hx2
  rw [show x / 2 + x / 2 = x by grind] at h1
  have h2 := hK M x (-x) hx hx.neg
  rw [show x + -x = 0 by grind] at h2
  obtain ⟨m, rfl⟩ : ∃ m, M = m + 1 := ⟨M - 1, by omega⟩
  rw [E_zero] at h2
  have h3 := hL (m + 1) (-x) hx.neg
  have h4 := sq_nonneg (E (x / 2) (m + 1))
  obtain ⟨a1, a2⟩ := h1
  obtain ⟨b1, b2⟩ := h2
  generalize K * (((m + 1 : Nat) : Rat) * q4 (m + 1)) = η at *
  generalize E (x / 2) (m + 1) * E (x / 2) (m + 1) = s at *
  refine Rat.not_lt.1 fun hn => ?_
  have h5 : AB (E x (m + 1)) c := by constructor <;> grind
  have h6 := h5.mul h3
  obtain ⟨c1, c2⟩ := h6
  generalize E x (m + 1) * E (-x) (m + 1) = t at *
  have : c * L ≤ 1 / 4 := by grind
  have : c ≤ 1 / 4 := by
    have := Rat.mul_nonneg (Rat.le_of_lt hc) l0
    grind
  grind
/-- Of little it is nearly 1. -/
theorem tm_little {h b : Rat} (hb : AB h b) (h4 : b ≤ 1 / 4) (k : Nat) : AB (tm h (k + 1)) (b * q4 k) := by
  have b0 := hb.nonneg
  induction k with
  | zero => simp only [tm, q4]; obtain ⟨_, _⟩ := hb; simp; constructor <;> grind
  | succ k ih =>
    have e := tm_succ h (k + 1)
    have hp := pos1 (k + 1)
    have hp1 : (1 : Rat) ≤ ((k + 1 : Nat) : Rat) + 1 := by
      have : (0 : Rat) ≤ ((k + 1 : Nat) : Rat) := by exact_mod_cast Nat.zero_le (k + 1)
      grind
    have g := hb.mul ih
    rw [← e] at g
    have q := q4_pos k
    have e2 : q4 (k + 1) = q4 k / 4 := rfl
    rw [e2]
    generalize ((k + 1 : Nat) : Rat) + 1 = m at *
    have g2 : AB (m * tm h (k + 1 + 1)) (b * (q4 k / 4)) := by
      refine g.mono ?_
      have := Rat.mul_nonneg (Rat.mul_nonneg b0 (Rat.le_of_lt q)) (show 0 ≤ 1 / 4 - b by grind)
      grind
    obtain ⟨g3, g4⟩ := g2
    have hn := Rat.mul_nonneg b0 (Rat.le_of_lt q)
    generalize b * (q4 k / 4) = r at *
    have hr : 0 ≤ r := by grind
    constructor
    · refine Rat.not_lt.1 fun hn => ?_
      have := Rat.mul_nonneg (show 0 ≤ m - 1 by grind) (show 0 ≤ -r - tm h (k + 1 + 1) by grind)
      have := Rat.mul_nonneg (show 0 ≤ m - 1 by grind) hr
      grind
    · refine Rat.not_lt.1 fun hn => ?_
      have := Rat.mul_nonneg (show 0 ≤ m - 1 by grind) (show 0 ≤ tm h (k + 1 + 1) - r by grind)
      have := Rat.mul_nonneg (show 0 ≤ m - 1 by grind) hr
      grind
theorem E_little1 {h b : Rat} (hb : AB h b) (h4 : b ≤ 1 / 4) (M : Nat) : AB (E h (M + 1) - 1) (2 * b * (1 - q4 M)) := by
  have b0 := hb.nonneg
  induction M with
  | zero => simp only [E, S, tm, q4]; constructor <;> grind
  | succ M ih =>
    have e : E h (M + 1 + 1) = E h (M + 1) + tm h (M + 1) := rfl
    have g := ih.add (tm_little hb h4 M)
    rw [e]
    have e2 : q4 (M + 1) = q4 M / 4 := rfl
    have q := Rat.mul_nonneg b0 (Rat.le_of_lt (q4_pos M))
    have e3 : E h (M + 1) - 1 + tm h (M + 1) = E h (M + 1) + tm h (M + 1) - 1 := by grind
    rw [e3] at g
    rw [e2]
    exact g.mono (by grind)
theorem E_little {h b : Rat} (hb : AB h b) (h4 : b ≤ 1 / 4) {M : Nat} (hM : 1 ≤ M) : AB (E h M - 1) (2 * b) := by
  obtain ⟨m, rfl⟩ : ∃ m, M = m + 1 := ⟨M - 1, by omega⟩
  refine (E_little1 hb h4 m).mono ?_
  have q := Rat.mul_nonneg hb.nonneg (Rat.le_of_lt (q4_pos m))
  grind
/-- e to the power of a number that is told by a sequence. -/
def Ev (x : Nat → Rat) (M : Nat) : Rat := E (x M) M
theorem Ev_bdd {x : Nat → Rat} (h : Bdd x) : Bdd (Ev x) := by
  obtain ⟨R, N, r0, h⟩ := h
  obtain ⟨K, k0, hK⟩ := E_bound R
  exact ⟨K, N, k0, fun M hM => hK M _ (h M hM)⟩
theorem Ev_add {x y : Nat → Rat} (hx : Bdd x) (hy : Bdd y) : Null (fun M => Ev x M * Ev y M - Ev (fun M => x M + y M) M) := by
  obtain ⟨R, N, r0, hx⟩ := hx
  obtain ⟨R', N', r0', hy⟩ := hy
  obtain ⟨K, k0, hK⟩ := E_unif (R + R')
  exact (null_q4 K k0).of_le (N + N') fun M hM => hK M _ _ ((hx M (by omega)).mono (by grind)) ((hy M (by omega)).mono (by grind))
theorem Ev_low {x : Nat → Rat} (hx : Bdd x) : ∃ c, 0 < c ∧ ∃ N, ∀ M, N ≤ M → c ≤ Ev x M := by
  obtain ⟨R, N, r0, hx⟩ := hx
  obtain ⟨c, hc, N', h⟩ := E_low R
  exact ⟨c, hc, N + N', fun M hM => h M (by omega) _ (hx M (by omega))⟩
theorem Ev_null {h : Nat → Rat} (hn : Null h) : Null (fun M => Ev h M - 1) := fun e he => by
  obtain ⟨N, h1⟩ := hn (1 / 4) (by grind)
  obtain ⟨N', h2⟩ := hn (e / 2) (by grind)
  refine ⟨N + N' + 1, fun M hM => ?_⟩
  rcases Rat.le_total (a := e / 2) (b := 1 / 4) with hc | hc
  · exact (E_little (h2 M (by omega)) hc (by omega)).mono (by grind)
  · exact (E_little (h1 M (by omega)) (by grind) (by omega)).mono (by grind)
theorem Ev_congr {x y : Nat → Rat} (hx : Bdd x) (hy : Bdd y) (h : Null (fun M => x M - y M)) : Null (fun M => Ev x M - Ev y M) := by
  have h1 := Ev_add hy (hx.sub hy)
  have h2 := (Ev_null h).bmul (Ev_bdd hy)
  have e : (fun M => y M + (x M - y M)) = x := funext fun M => by grind
  rw [e] at h1
  refine (h2.sub h1).of_eq fun M => ?_
  grind
theorem Ev_inv {x : Nat → Rat} (hx : Bdd x) : Null (fun M => Ev x M * Ev (fun M => -x M) M - 1) := by
  have h1 := Ev_add hx hx.neg
  refine h1.of_eq_from 1 fun M hM => ?_
  obtain ⟨m, rfl⟩ : ∃ m, M = m + 1 := ⟨M - 1, by omega⟩
  have : Ev (fun M => x M + -x M) (m + 1) = 1 := by
    show E (x (m + 1) + -x (m + 1)) (m + 1) = 1
    rw [show x (m + 1) + -x (m + 1) = 0 by grind, E_zero]
  rw [this]
/-- Who is more has more. -/
theorem Ev_mono {x y z : Nat → Rat} (hx : Bdd x) (hy : Bdd y) (hz : Null z) (N0 : Nat) (h : ∀ M, N0 ≤ M → x M ≤ y M + z M) : ∃ v, Null v ∧ ∃ N, ∀ M, N ≤ M → Ev x M ≤ Ev y M + v M := by
  have b1 : Bdd (fun M => y M + z M) := hy.add hz.bdd
  have n1 := Ev_congr b1 hy (hz.of_eq fun M => by grind)
  have n2 := Ev_add hx (b1.sub hx)
  have e : (fun M => x M + (y M + z M - x M)) = fun M => y M + z M := funext fun M => by grind
  rw [e] at n2
  obtain ⟨c, hc, N1, hl⟩ := Ev_low hx
  refine ⟨_, n1.add n2, N0 + N1 + 1, fun M hM => ?_⟩
  have h1 := E_one (show 0 ≤ y M + z M - x M by have := h M (by omega); grind) (show 1 ≤ M by omega)
  have h2 := hl M (by omega)
  have h3 := Rat.mul_nonneg (show 0 ≤ Ev x M by grind) (show 0 ≤ Ev (fun M => y M + z M - x M) M - 1 by have : Ev (fun M => y M + z M - x M) M = E (y M + z M - x M) M := rfl; rw [this]; grind)
  grind
theorem E_one1 {x : Rat} (h : 0 ≤ x) {M : Nat} (hM : 2 ≤ M) : 1 + x ≤ E x M := by
  obtain ⟨m, rfl⟩ : ∃ m, M = m + 2 := ⟨M - 2, by omega⟩
  clear hM
  induction m with
  | zero => simp [E, S, tm]; grind
  | succ m ih =>
    have e1 : E x (m + 1 + 2) = E x (m + 2) + tm x (m + 2) := rfl
    have := tm_nonneg h (m + 2)
    grind
/-- And who has more is more. -/
theorem Ev_back {x y z : Nat → Rat} (hx : Bdd x) (hy : Bdd y) (hz : Null z) (N0 : Nat) (h : ∀ M, N0 ≤ M → Ev x M ≤ Ev y M + z M) (e : Rat) (he : 0 < e) : ∃ N, ∀ M, N ≤ M → x M ≤ y M + e := by
  obtain ⟨R, N1, r0, hx⟩ := hx
  obtain ⟨R', N2, r0', hy⟩ := hy
  -- all that is met is within B
  obtain ⟨K, k0, hK⟩ := E_unif (R + R' + R + R' + e)
  obtain ⟨c, hc, N3, hl⟩ := E_low (R + R' + R + R' + e)
  have hce := Rat.mul_pos hc he
  obtain ⟨N4, hn⟩ := null_q4 K k0 (c * e / 4) (by grind)
  obtain ⟨N5, hz⟩ := hz (c * e / 4) (by grind)
  refine ⟨N0 + N1 + N2 + N3 + N4 + N5 + 2, fun M hM => ?_⟩
  refine Rat.not_lt.1 fun hlt => ?_
  have a1 := hx M (by omega)
  have a2 := hy M (by omega)
  have a3 := h M (by omega)
  obtain ⟨a4, a5⟩ : AB (K * ((M : Rat) * q4 M)) (c * e / 4) := hn M (by omega)
  obtain ⟨a6, a7⟩ := hz M (by omega)
  have hye : AB (y M + e) (R + R' + R + R' + e) := by obtain ⟨_, _⟩ := a2; constructor <;> grind
  have hu : AB (x M - (y M + e)) (R + R' + R + R' + e) := by obtain ⟨_, _⟩ := a2; obtain ⟨_, _⟩ := a1; constructor <;> grind
  have hy' : AB (y M) (R + R' + R + R' + e) := a2.mono (by grind)
  have he' : AB e (R + R' + R + R' + e) := by constructor <;> grind
  obtain ⟨b1, b2⟩ := hK M _ _ hye hu
  obtain ⟨b3, b4⟩ := hK M _ _ hy' he'
  rw [show y M + e + (x M - (y M + e)) = x M by grind] at b1 b2
  have l1 := hl M (by omega) _ hye
  have l2 := hl M (by omega) _ hy'
  have o1 := E_one (show 0 ≤ x M - (y M + e) by grind) (show 1 ≤ M by omega)
  have o2 := E_one1 (Rat.le_of_lt he) (show 2 ≤ M by omega)
  have p1 := Rat.mul_nonneg (show 0 ≤ E (y M + e) M by grind) (show 0 ≤ E (x M - (y M + e)) M - 1 by grind)
  have p2 := Rat.mul_nonneg (show 0 ≤ E (y M) M by grind) (show 0 ≤ E e M - (1 + e) by grind)
  have p3 := Rat.mul_nonneg (show 0 ≤ E (y M) M - c by grind) (Rat.le_of_lt he)
  have a3' : E (x M) M ≤ E (y M) M + z M := a3
  generalize E (x M) M = X at *
  generalize E (y M) M = Y at *
  generalize K * ((M : Rat) * q4 M) = η at *
  grind
end Go.Proofs.YtgmnknmjainababGreat.Ex

namespace Go.Proofs.YtgmnknmjainababGreat.Ex
set_option linter.unusedVariables false

/-- x to the power of k. -/
def pw (x : Rat) : Nat → Rat
  | 0 => 1
  | k + 1 => x * pw x k
/-- 1 over 2 to the power of n. -/
def q2 : Nat → Rat
  | 0 => 1
  | n + 1 => q2 n / 2
theorem q2_pos (n : Nat) : 0 < q2 n := by
  induction n with
  | zero => simp only [q2]; grind
  | succ n ih => simp only [q2]; grind
theorem rdiv_AB {t b m : Rat} (hm : 0 < m) (h : AB t (m * b)) : AB (t / m) b := by
  have e := rdm (a := t) hm
  generalize t / m = q at *
  obtain ⟨h1, h2⟩ := h
  constructor
  · refine Rat.not_lt.1 fun hn => ?_
    have := Rat.mul_pos hm (show 0 < -b - q by grind)
    grind
  · refine Rat.not_lt.1 fun hn => ?_
    have := Rat.mul_pos hm (show 0 < q - b by grind)
    grind
end Go.Proofs.YtgmnknmjainababGreat.Ex

namespace Go.Proofs.YtgmnknmjainababGreat.Ex
set_option linter.unusedVariables false

/-- l is the logarithm of r. -/
def IsLog (l r : Nat → Rat) : Prop := Bdd l ∧ Null (fun M => Ev l M - r M)
theorem Bdd.of_null {f g : Nat → Rat} (h : Bdd f) (k : Null (fun M => f M - g M)) : Bdd g := by
  obtain ⟨K, N, k0, h⟩ := h.sub k.bdd
  exact ⟨K, N, k0, fun M hM => by have : AB (f M - (f M - g M)) K := h M hM; rw [show f M - (f M - g M) = g M by grind] at this; exact this⟩
theorem IsLog.bdd {l r : Nat → Rat} (h : IsLog l r) : Bdd r := (Ev_bdd h.1).of_null h.2
/-- What is not more has a logarithm that is not more. -/
theorem IsLog.le {l r l' r' z : Nat → Rat} (h : IsLog l r) (h' : IsLog l' r') (hz : Null z) (N0 : Nat) (hr : ∀ M, N0 ≤ M → r M ≤ r' M + z M) (e : Rat) (he : 0 < e) : ∃ N, ∀ M, N ≤ M → l M ≤ l' M + e := by
  refine Ev_back h.1 h'.1 ((h.2.sub h'.2).add hz) N0 (fun M hM => ?_) e he
  have := hr M hM
  grind
theorem IsLog.congr {l l' r : Nat → Rat} (h : IsLog l r) (k : Null (fun M => l M - l' M)) : IsLog l' r := by
  have b := h.1.of_null k
  refine ⟨b, ?_⟩
  refine (h.2.sub (Ev_congr h.1 b k)).of_eq fun M => ?_
  grind
theorem IsLog.add {l l' r r' : Nat → Rat} (h : IsLog l r) (h' : IsLog l' r') : IsLog (fun M => l M + l' M) (fun M => r M * r' M) := by
  refine ⟨h.1.add h'.1, ?_⟩
  have n1 := Ev_add h.1 h'.1
  have n2 := h.2.bmul (Ev_bdd h'.1)
  have n3 := h'.2.bmul h.bdd
  refine ((n2.add n3).sub n1).of_eq fun M => ?_
  grind
theorem IsLog.neg {l r s : Nat → Rat} (h : IsLog l r) (hs : Bdd s) (N : Nat) (hrs : ∀ M, N ≤ M → s M * r M = 1) : IsLog (fun M => -l M) s := by
  refine ⟨h.1.neg, ?_⟩
  have n1 := Ev_inv h.1
  have n2 := h.2.bmul (Ev_bdd h.1.neg)
  have n3 := (n1.sub n2).bmul hs
  refine n3.of_eq_from N fun M hM => ?_
  have e := hrs M hM
  have : (Ev l M * Ev (fun M => -l M) M - 1 - (Ev l M - r M) * Ev (fun M => -l M) M) * s M = (s M * r M) * Ev (fun M => -l M) M - s M := by grind
  rw [this, e]; grind
theorem isLog_one : IsLog (fun _ => 0) (fun _ => 1) := ⟨Bdd.const 0, null_zero.of_eq_from 1 fun M hM => by
  obtain ⟨m, rfl⟩ : ∃ m, M = m + 1 := ⟨M - 1, by omega⟩
  show E 0 (m + 1) - 1 = 0
  rw [E_zero]; grind⟩
/-- The half is the logarithm of the root. -/
theorem IsLog.half {l r : Nat → Rat} (h : IsLog l (fun M => r M * r M)) (c : Rat) (hc : 0 < c) (N : Nat) (hr : ∀ M, N ≤ M → c ≤ r M) : IsLog (fun M => l M / 2) r := by
  have b : Bdd (fun M => l M / 2) := by
    obtain ⟨K, N', k0, hb⟩ := h.1
    exact ⟨K, N', k0, fun M hM => by obtain ⟨_, _⟩ := hb M hM; constructor <;> grind⟩
  refine ⟨b, ?_⟩
  have n1 := Ev_add b b
  have e : (fun M => l M / 2 + l M / 2) = l := funext fun M => by grind
  rw [e] at n1
  have n2 := n1.add h.2
  obtain ⟨d, hd, N1, hl⟩ := Ev_low b
  intro ε hε
  obtain ⟨N2, h2⟩ := n2 (ε * c) (Rat.mul_pos hε hc)
  refine ⟨N + N1 + N2, fun M hM => ?_⟩
  have g1 := hr M (by omega)
  have g2 := hl M (by omega)
  obtain ⟨g3, g4⟩ : AB (Ev (fun M => l M / 2) M * Ev (fun M => l M / 2) M - Ev l M + (Ev l M - r M * r M)) (ε * c) := h2 M (by omega)
  show AB (Ev (fun M => l M / 2) M - r M) ε
  generalize Ev (fun M => l M / 2) M = X at *
  generalize r M = Y at *
  generalize Ev l M = Z at *
  have e1 : X * X - Z + (Z - Y * Y) = (X - Y) * (X + Y) := by grind
  rw [e1] at g3 g4
  constructor
  · refine Rat.not_lt.1 fun hn => ?_
    have p1 := Rat.mul_nonneg (show 0 ≤ -ε - (X - Y) by grind) (show 0 ≤ X + Y by grind)
    have p2 := Rat.mul_pos hε (show 0 < X + Y - c by grind)
    grind
  · refine Rat.not_lt.1 fun hn => ?_
    have p1 := Rat.mul_nonneg (show 0 ≤ X - Y - ε by grind) (show 0 ≤ X + Y by grind)
    have p2 := Rat.mul_pos hε (show 0 < X + Y - c by grind)
    grind
/-- Some times. -/
theorem IsLog.times {l r : Nat → Rat} (h : IsLog l r) (k : Nat) : IsLog (fun M => (k : Rat) * l M) (fun M => pw (r M) k) := by
  induction k with
  | zero =>
    have e1 : (fun M => ((0 : Nat) : Rat) * l M) = fun _ => 0 := funext fun M => by simp; try grind
    rw [e1]; exact isLog_one
  | succ k ih =>
    have e1 : (fun M => ((k + 1 : Nat) : Rat) * l M) = fun M => l M + (k : Rat) * l M := funext fun M => by
      have : ((k + 1 : Nat) : Rat) = (k : Rat) + 1 := by simp
      rw [this]; grind
    rw [e1]; exact h.add ih
end Go.Proofs.YtgmnknmjainababGreat.Ex

namespace Go.Proofs.YtgmnknmjainababGreat
set_option linter.unusedVariables false
open Ex

/-- The least and the greatest of four. -/
theorem least4 (a b c d : Int) : leastZ (pr4 a b c d) 3 ≤ a ∧ leastZ (pr4 a b c d) 3 ≤ b ∧ leastZ (pr4 a b c d) 3 ≤ c ∧ leastZ (pr4 a b c d) 3 ≤ d ∧ (leastZ (pr4 a b c d) 3 = a ∨ leastZ (pr4 a b c d) 3 = b ∨ leastZ (pr4 a b c d) 3 = c ∨ leastZ (pr4 a b c d) 3 = d) := by
  simp only [leastZ, pr4]; simp; repeat' split
  all_goals omega
theorem greatest4 (a b c d : Int) : a ≤ mostZ (pr4 a b c d) 3 ∧ b ≤ mostZ (pr4 a b c d) 3 ∧ c ≤ mostZ (pr4 a b c d) 3 ∧ d ≤ mostZ (pr4 a b c d) 3 ∧ (mostZ (pr4 a b c d) 3 = a ∨ mostZ (pr4 a b c d) 3 = b ∨ mostZ (pr4 a b c d) 3 = c ∨ mostZ (pr4 a b c d) 3 = d) := by
  simp only [mostZ, pr4]; simp; repeat' split
  all_goals omega

/-- Spans by their ends: their product, sum; one times a number over another one; how far from 0. -/
def mulI (B : Nat) (a b : Int × Int) : Int × Int := (leastZ (pr4 (a.1 * b.1) (a.1 * b.2) (a.2 * b.1) (a.2 * b.2)) 3 / Q B, -(-(mostZ (pr4 (a.1 * b.1) (a.1 * b.2) (a.2 * b.1) (a.2 * b.2)) 3) / Q B))
def addI (a b : Int × Int) : Int × Int := (a.1 + b.1, a.2 + b.2)
def subI (a b : Int × Int) : Int × Int := (a.1 - b.2, a.2 - b.1)
def scaleI (a : Int × Int) (n d : Int) : Int × Int := (a.1 * n / d, -(-(a.2 * n) / d))
def timesI (a : Int × Int) (n : Int) : Int × Int := (a.1 * n, a.2 * n)
def reachI (a : Int × Int) : Int := maxZ a.2 (-a.1)
def ofI (n d : Int) (B : Nat) : Int × Int := (n * Q B / d, -(-(n * Q B) / d))
def downI (a : Int × Int) (t : Nat) : Int × Int := (a.1 / Q t, -(-a.2 / Q t))
/-- In how far a sum has come. -/
def sumI (f : Nat → Int × Int) : Nat → Int × Int
  | 0 => f 0
  | n + 1 => addI (sumI f n) (f (n + 1))
/-- Where it ends. -/
def IsStop (f : Nat → Int × Int) (N : Nat) : Prop := reachI (f N) ≤ 1 ∧ ∀ n, n < N → 1 < reachI (f n)
/-- And what comes of it. -/
def doneI (f : Nat → Int × Int) (N : Nat) : Int × Int := addI (sumI f N) (-reachI (f N), reachI (f N))
/-- Squares, again and again. -/
def sqI (B : Nat) (a : Int × Int) : Nat → Int × Int
  | 0 => a
  | t + 1 => mulI B (sqI B a t) (sqI B a t)
/-- Within so much of 0. -/
def Abs (a : Int × Int) (m : Int) : Prop := -m ≤ a.1 ∧ a.1 ≤ m ∧ -m ≤ a.2 ∧ a.2 ≤ m

theorem reach_abs {a : Int × Int} (h : a.1 ≤ a.2) : Abs a (reachI a) := by
  unfold Abs reachI maxZ; split <;> omega
theorem abs_reach {a : Int × Int} {m : Int} (h : Abs a m) : reachI a ≤ m := by
  obtain ⟨h1, h2, h3, h4⟩ := h
  unfold reachI maxZ; split <;> omega
theorem Abs.nonneg {a : Int × Int} {m : Int} (h : Abs a m) : 0 ≤ m := by obtain ⟨h1, h2, h3, h4⟩ := h; omega
theorem Abs.mono {a : Int × Int} {m n : Int} (h : Abs a m) (k : m ≤ n) : Abs a n := by obtain ⟨h1, h2, h3, h4⟩ := h; exact ⟨by omega, by omega, by omega, by omega⟩
theorem Abs.add {a b : Int × Int} {m n : Int} (h : Abs a m) (k : Abs b n) : Abs (addI a b) (m + n) := by
  obtain ⟨h1, h2, h3, h4⟩ := h
  obtain ⟨k1, k2, k3, k4⟩ := k
  refine ⟨?_, ?_, ?_, ?_⟩ <;> simp only [addI] <;> omega
theorem abs_mul {x y m n : Int} (h1 : -m ≤ x) (h2 : x ≤ m) (k1 : -n ≤ y) (k2 : y ≤ n) : -(m * n) ≤ x * y ∧ x * y ≤ m * n := by
  have p1 := Int.mul_nonneg (show 0 ≤ m - x by omega) (show 0 ≤ n + y by omega)
  have p2 := Int.mul_nonneg (show 0 ≤ m + x by omega) (show 0 ≤ n - y by omega)
  have p3 := Int.mul_nonneg (show 0 ≤ m - x by omega) (show 0 ≤ n - y by omega)
  have p4 := Int.mul_nonneg (show 0 ≤ m + x by omega) (show 0 ≤ n + y by omega)
  constructor <;> grind
/-- Over a number, rounded away from 0, it is within what has just that. -/
theorem round_abs {x m q : Int} (hq : 0 < q) (h1 : -(m * q) ≤ x) (h2 : x ≤ m * q) : -m ≤ x / q ∧ x / q ≤ m ∧ -m ≤ -(-x / q) ∧ -(-x / q) ≤ m := by
  have a1 : -m ≤ x / q := by rw [Int.le_ediv_iff_mul_le hq, Int.neg_mul]; exact h1
  have a2 : -m ≤ -x / q := by rw [Int.le_ediv_iff_mul_le hq, Int.neg_mul]; omega
  have a3 := flo_le x q hq
  have a4 := ceil_ge x q hq
  refine ⟨a1, ?_, ?_, by omega⟩
  · refine Int.not_lt.1 fun hn => ?_
    have := Int.mul_le_mul_of_nonneg_right (show m + 1 ≤ x / q by omega) (show 0 ≤ q by omega)
    rw [Int.add_mul] at this; omega
  · refine Int.not_lt.1 fun hn => ?_
    have := Int.mul_le_mul_of_nonneg_right (show -(-x / q) ≤ -m - 1 by omega) (show 0 ≤ q by omega)
    have e : (-m - 1) * q = -(m * q) - q := by grind
    rw [e] at this; omega
theorem mulI_abs {B : Nat} {a b : Int × Int} {m n p : Int} (h : Abs a m) (k : Abs b n) (hp : m * n ≤ p * Q B) : Abs (mulI B a b) p := by
  obtain ⟨h1, h2, h3, h4⟩ := h
  obtain ⟨k1, k2, k3, k4⟩ := k
  have q := Q_pos B
  have c1 := abs_mul h1 h2 k1 k2
  have c2 := abs_mul h1 h2 k3 k4
  have c3 := abs_mul h3 h4 k1 k2
  have c4 := abs_mul h3 h4 k3 k4
  have l := (least4 (a.1 * b.1) (a.1 * b.2) (a.2 * b.1) (a.2 * b.2)).2.2.2.2
  have g := (greatest4 (a.1 * b.1) (a.1 * b.2) (a.2 * b.1) (a.2 * b.2)).2.2.2.2
  have r1 := round_abs (x := leastZ (pr4 (a.1 * b.1) (a.1 * b.2) (a.2 * b.1) (a.2 * b.2)) 3) (m := p) (show 0 < Q B by omega) (by omega) (by omega)
  have r2 := round_abs (x := mostZ (pr4 (a.1 * b.1) (a.1 * b.2) (a.2 * b.1) (a.2 * b.2)) 3) (m := p) (show 0 < Q B by omega) (by omega) (by omega)
  exact ⟨r1.1, r1.2.1, r2.2.2.1, r2.2.2.2⟩
theorem mulI_le (B : Nat) {a b : Int × Int} : (mulI B a b).1 ≤ (mulI B a b).2 := by
  have q := Q_pos B
  have l := least4 (a.1 * b.1) (a.1 * b.2) (a.2 * b.1) (a.2 * b.2)
  have g := greatest4 (a.1 * b.1) (a.1 * b.2) (a.2 * b.1) (a.2 * b.2)
  simp only [mulI]
  have a1 := flo_le (leastZ (pr4 (a.1 * b.1) (a.1 * b.2) (a.2 * b.1) (a.2 * b.2)) 3) (Q B) (by omega)
  have a2 := ceil_ge (mostZ (pr4 (a.1 * b.1) (a.1 * b.2) (a.2 * b.1) (a.2 * b.2)) 3) (Q B) (by omega)
  refine Int.not_lt.1 fun hn => ?_
  have := Int.mul_lt_mul_of_pos_right hn (show 0 < Q B by omega)
  omega
theorem scaleI_abs {a : Int × Int} {m n d : Int} (h : Abs a m) (hd : 0 < d) (hn : 0 ≤ n) (hnd : n ≤ d) : Abs (scaleI a n d) m := by
  have m0 := h.nonneg
  obtain ⟨h1, h2, h3, h4⟩ := h
  have p := Int.mul_nonneg m0 (show 0 ≤ d - n by omega)
  have c1 := abs_mul h1 h2 (show -n ≤ n by omega) (Int.le_refl n)
  have c2 := abs_mul h3 h4 (show -n ≤ n by omega) (Int.le_refl n)
  rw [Int.mul_sub] at p
  have r1 := round_abs (x := a.1 * n) (m := m) hd (by omega) (by omega)
  have r2 := round_abs (x := a.2 * n) (m := m) hd (by omega) (by omega)
  exact ⟨r1.1, r1.2.1, r2.2.2.1, r2.2.2.2⟩
theorem scaleI_le {a : Int × Int} {n d : Int} (h : a.1 ≤ a.2) (hd : 0 < d) (hn : 0 ≤ n) : (scaleI a n d).1 ≤ (scaleI a n d).2 := by
  simp only [scaleI]
  have a1 := flo_le (a.1 * n) d hd
  have a2 := ceil_ge (a.2 * n) d hd
  have a3 := Int.mul_le_mul_of_nonneg_right h hn
  refine Int.not_lt.1 fun hn => ?_
  have := Int.mul_lt_mul_of_pos_right hn hd
  omega
/-- Widths. -/
theorem corner_wide {x y x' y' a1 a2 b1 b2 m n : Int} (hx : x = a1 ∨ x = a2) (hy : y = b1 ∨ y = b2) (hx' : x' = a1 ∨ x' = a2) (hy' : y' = b1 ∨ y' = b2)
    (ha : a1 ≤ a2) (hb : b1 ≤ b2) (h1 : -m ≤ a1) (h2 : a1 ≤ m) (h3 : -m ≤ a2) (h4 : a2 ≤ m) (k1 : -n ≤ b1) (k2 : b1 ≤ n) (k3 : -n ≤ b2) (k4 : b2 ≤ n) :
    x * y - x' * y' ≤ m * (b2 - b1) + n * (a2 - a1) := by
  -- x y - x' y' = x (y - y') + (x - x') y'
  have e : x * y - x' * y' = x * (y - y') + (x - x') * y' := by grind
  rw [e]
  have c1 : -m ≤ x ∧ x ≤ m := by rcases hx with h | h <;> subst h <;> exact ⟨by assumption, by assumption⟩
  have c2 : -n ≤ y' ∧ y' ≤ n := by rcases hy' with h | h <;> subst h <;> exact ⟨by assumption, by assumption⟩
  have d1 : -(b2 - b1) ≤ y - y' ∧ y - y' ≤ b2 - b1 := by rcases hy with h | h <;> rcases hy' with h' | h' <;> omega
  have d2 : -(a2 - a1) ≤ x - x' ∧ x - x' ≤ a2 - a1 := by rcases hx with h | h <;> rcases hx' with h' | h' <;> omega
  have g1 := (abs_mul c1.1 c1.2 d1.1 d1.2).2
  have g2 := (abs_mul d2.1 d2.2 c2.1 c2.2).2
  rw [Int.mul_comm n]
  omega
theorem div_wide {x y q c : Int} (hq : 0 < q) (h : x - y ≤ c * q) : -(-x / q) - y / q ≤ c + 1 := by
  have a1 := ceil_lt x q hq
  have a2 := flo_gt y q hq
  refine Int.not_lt.1 fun hn => ?_
  have := Int.mul_le_mul_of_nonneg_right (show c + 2 ≤ -(-x / q) - y / q by omega) (show 0 ≤ q by omega)
  rw [Int.sub_mul, Int.add_mul] at this
  omega
theorem mulI_wide {B : Nat} {a b : Int × Int} {m n c : Int} (h : Abs a m) (k : Abs b n) (ha : a.1 ≤ a.2) (hb : b.1 ≤ b.2) (hc : m * (b.2 - b.1) + n * (a.2 - a.1) ≤ c * Q B) : (mulI B a b).2 - (mulI B a b).1 ≤ c + 1 := by
  obtain ⟨h1, h2, h3, h4⟩ := h
  obtain ⟨k1, k2, k3, k4⟩ := k
  have q := Q_pos B
  have l := (least4 (a.1 * b.1) (a.1 * b.2) (a.2 * b.1) (a.2 * b.2)).2.2.2.2
  have g := (greatest4 (a.1 * b.1) (a.1 * b.2) (a.2 * b.1) (a.2 * b.2)).2.2.2.2
  refine div_wide (show 0 < Q B by omega) (Int.le_trans ?_ hc)
  have key := fun x y x' y' (hx : x = a.1 ∨ x = a.2) (hy : y = b.1 ∨ y = b.2) (hx' : x' = a.1 ∨ x' = a.2) (hy' : y' = b.1 ∨ y' = b.2) => corner_wide hx hy hx' hy' ha hb h1 h2 h3 h4 k1 k2 k3 k4
  rcases g with g | g | g | g <;> rcases l with l | l | l | l <;> rw [g, l] <;> exact key _ _ _ _ (by simp) (by simp) (by simp) (by simp)
theorem scaleI_wide {a : Int × Int} {n d c : Int} (hd : 0 < d) (h : (a.2 - a.1) * n ≤ c * d) : (scaleI a n d).2 - (scaleI a n d).1 ≤ c + 1 := by
  refine div_wide hd ?_
  rw [← Int.sub_mul]; exact h

/-- The span has the number that the sequence tells. -/
def Iv (B : Nat) (a : Int × Int) (x : Nat → Rat) : Prop := Has ((a.1 : Rat) / (Q B : Rat)) ((a.2 : Rat) / (Q B : Rat)) x
theorem Qr_pos (B : Nat) : (0 : Rat) < (Q B : Rat) := by exact_mod_cast (show (0 : Int) < Q B by have := Q_pos B; omega)
theorem rle_div {a b c : Rat} (hc : 0 < c) (h : a * c ≤ b) : a ≤ b / c := by
  have e := rdm (a := b) hc
  generalize b / c = q at *
  refine Rat.not_lt.1 fun hn => ?_
  have := Rat.mul_pos hc (show 0 < a - q by grind)
  grind
theorem rdiv_le {a b c : Rat} (hc : 0 < c) (h : a ≤ b * c) : a / c ≤ b := by
  have e := rdm (a := a) hc
  generalize a / c = q at *
  refine Rat.not_lt.1 fun hn => ?_
  have := Rat.mul_pos hc (show 0 < q - b by grind)
  grind
theorem cast_le {a b : Int} (h : a ≤ b) : (a : Rat) ≤ (b : Rat) := by exact_mod_cast h
/-- Ends of a product, as ratios. -/
theorem mul_lo {L u v q : Int} (hq : 0 < q) (h : L * q ≤ u * v) : (L : Rat) / (q : Rat) ≤ (u : Rat) / (q : Rat) * ((v : Rat) / (q : Rat)) := by
  have q0 : (0 : Rat) < (q : Rat) := by exact_mod_cast hq
  have e1 := rdm (a := (u : Rat)) q0
  have e2 := rdm (a := (v : Rat)) q0
  have h1 := cast_le h
  rw [Rat.intCast_mul, Rat.intCast_mul] at h1
  refine rdiv_le q0 ?_
  generalize (u : Rat) / (q : Rat) = U at *
  generalize (v : Rat) / (q : Rat) = V at *
  rw [← e1, ← e2] at h1
  refine Rat.not_lt.1 fun hn => ?_
  have := Rat.mul_pos (show 0 < (L : Rat) - U * V * (q : Rat) by grind) q0
  grind
theorem mul_hi {L u v q : Int} (hq : 0 < q) (h : u * v ≤ L * q) : (u : Rat) / (q : Rat) * ((v : Rat) / (q : Rat)) ≤ (L : Rat) / (q : Rat) := by
  have q0 : (0 : Rat) < (q : Rat) := by exact_mod_cast hq
  have e1 := rdm (a := (u : Rat)) q0
  have e2 := rdm (a := (v : Rat)) q0
  have h1 := cast_le h
  rw [Rat.intCast_mul, Rat.intCast_mul] at h1
  refine rle_div q0 ?_
  generalize (u : Rat) / (q : Rat) = U at *
  generalize (v : Rat) / (q : Rat) = V at *
  rw [← e1, ← e2] at h1
  refine Rat.not_lt.1 fun hn => ?_
  have := Rat.mul_pos (show 0 < U * V * (q : Rat) - (L : Rat) by grind) q0
  grind
theorem Iv.mul {B : Nat} {a b : Int × Int} {x y : Nat → Rat} (h : Iv B a x) (k : Iv B b y) : Iv B (mulI B a b) (fun M => x M * y M) := by
  have q0 : 0 < Q B := by have := Q_pos B; omega
  have l := least4 (a.1 * b.1) (a.1 * b.2) (a.2 * b.1) (a.2 * b.2)
  have g := greatest4 (a.1 * b.1) (a.1 * b.2) (a.2 * b.1) (a.2 * b.2)
  have fl := flo_le (leastZ (pr4 (a.1 * b.1) (a.1 * b.2) (a.2 * b.1) (a.2 * b.2)) 3) (Q B) q0
  have ce := ceil_ge (mostZ (pr4 (a.1 * b.1) (a.1 * b.2) (a.2 * b.1) (a.2 * b.2)) 3) (Q B) q0
  exact Has.mul h k (mul_lo q0 (Int.le_trans fl l.1)) (mul_lo q0 (Int.le_trans fl l.2.1)) (mul_lo q0 (Int.le_trans fl l.2.2.1)) (mul_lo q0 (Int.le_trans fl l.2.2.2.1)) (mul_hi q0 (Int.le_trans g.1 ce)) (mul_hi q0 (Int.le_trans g.2.1 ce)) (mul_hi q0 (Int.le_trans g.2.2.1 ce)) (mul_hi q0 (Int.le_trans g.2.2.2.1 ce))
theorem rdiv_add (a b c : Rat) : (a + b) / c = a / c + b / c := by rw [Rat.div_def, Rat.div_def, Rat.div_def, Rat.add_mul]
theorem rdiv_sub (a b c : Rat) : (a - b) / c = a / c - b / c := by rw [Rat.sub_eq_add_neg, Rat.div_def, Rat.add_mul, Rat.neg_mul, Rat.div_def, Rat.div_def, ← Rat.sub_eq_add_neg]
theorem Iv.add {B : Nat} {a b : Int × Int} {x y : Nat → Rat} (h : Iv B a x) (k : Iv B b y) : Iv B (addI a b) (fun M => x M + y M) := by
  have := Has.add h k
  rw [← rdiv_add, ← rdiv_add, ← Rat.intCast_add, ← Rat.intCast_add] at this
  exact this
theorem Iv.sub {B : Nat} {a b : Int × Int} {x y : Nat → Rat} (h : Iv B a x) (k : Iv B b y) : Iv B (subI a b) (fun M => x M - y M) := by
  have := Has.sub h k
  rw [← rdiv_sub, ← rdiv_sub, ← Rat.intCast_sub, ← Rat.intCast_sub] at this
  exact this
theorem Iv.times {B : Nat} {a : Int × Int} {x : Nat → Rat} (h : Iv B a x) (n : Nat) : Iv B (timesI a n) (fun M => (n : Rat) * x M) := by
  have := Has.scale h (c := (n : Rat)) (by exact_mod_cast Nat.zero_le n)
  have e : ∀ z : Int, (n : Rat) * ((z : Rat) / (Q B : Rat)) = ((z * (n : Int) : Int) : Rat) / (Q B : Rat) := fun z => by
    rw [Rat.intCast_mul, Rat.div_def, Rat.div_def, ← Rat.mul_assoc, Rat.mul_comm (n : Rat)]; rfl
  rw [e, e] at this
  exact this
theorem frac_lo {L u n d q : Int} (hd : 0 < d) (hq : 0 < q) (h : L * d ≤ u * n) : (L : Rat) / (q : Rat) ≤ (n : Rat) / (d : Rat) * ((u : Rat) / (q : Rat)) := by
  have q0 : (0 : Rat) < (q : Rat) := by exact_mod_cast hq
  have d0 : (0 : Rat) < (d : Rat) := by exact_mod_cast hd
  have e1 := rdm (a := (u : Rat)) q0
  have e2 := rdm (a := (n : Rat)) d0
  have h1 := cast_le h
  rw [Rat.intCast_mul, Rat.intCast_mul] at h1
  refine rdiv_le q0 ?_
  generalize (u : Rat) / (q : Rat) = U at *
  generalize (n : Rat) / (d : Rat) = V at *
  rw [← e1, ← e2] at h1
  refine Rat.not_lt.1 fun hn => ?_
  have := Rat.mul_pos (show 0 < (L : Rat) - V * U * (q : Rat) by grind) d0
  grind
theorem frac_hi {L u n d q : Int} (hd : 0 < d) (hq : 0 < q) (h : u * n ≤ L * d) : (n : Rat) / (d : Rat) * ((u : Rat) / (q : Rat)) ≤ (L : Rat) / (q : Rat) := by
  have q0 : (0 : Rat) < (q : Rat) := by exact_mod_cast hq
  have d0 : (0 : Rat) < (d : Rat) := by exact_mod_cast hd
  have e1 := rdm (a := (u : Rat)) q0
  have e2 := rdm (a := (n : Rat)) d0
  have h1 := cast_le h
  rw [Rat.intCast_mul, Rat.intCast_mul] at h1
  refine rle_div q0 ?_
  generalize (u : Rat) / (q : Rat) = U at *
  generalize (n : Rat) / (d : Rat) = V at *
  rw [← e1, ← e2] at h1
  refine Rat.not_lt.1 fun hn => ?_
  have := Rat.mul_pos (show 0 < V * U * (q : Rat) - (L : Rat) by grind) d0
  grind
theorem Iv.scale {B : Nat} {a : Int × Int} {x : Nat → Rat} (h : Iv B a x) {n d : Int} (hn : 0 ≤ n) (hd : 0 < d) : Iv B (scaleI a n d) (fun M => (n : Rat) / (d : Rat) * x M) := by
  have q0 : 0 < Q B := by have := Q_pos B; omega
  have d0 : (0 : Rat) < (d : Rat) := by exact_mod_cast hd
  have n0 : (0 : Rat) ≤ (n : Rat) := by exact_mod_cast hn
  have c0 : 0 ≤ (n : Rat) / (d : Rat) := rle_div d0 (by grind)
  exact (Has.scale h c0).mono (frac_lo hd q0 (flo_le (a.1 * n) d hd)) (frac_hi hd q0 (ceil_ge (a.2 * n) d hd))
theorem Iv.of (B : Nat) {n d : Int} (hd : 0 < d) : Iv B (ofI n d B) (fun _ => (n : Rat) / (d : Rat)) := by
  have q0 : 0 < Q B := by have := Q_pos B; omega
  have qr := Qr_pos B
  have e : (n : Rat) / (d : Rat) * ((Q B : Rat) / (Q B : Rat)) = (n : Rat) / (d : Rat) := by
    rw [Rat.div_def (Q B : Rat), Rat.mul_inv_cancel _ (by grind), Rat.mul_one]
  have l := frac_lo hd q0 (L := (ofI n d B).1) (u := Q B) (n := n) (by rw [Int.mul_comm (Q B)]; exact flo_le (n * Q B) d hd)
  have g := frac_hi hd q0 (L := (ofI n d B).2) (u := Q B) (n := n) (by rw [Int.mul_comm (Q B)]; exact ceil_ge (n * Q B) d hd)
  rw [e] at l g
  exact Has.const l g
/-- By fewer bits. -/
theorem Iv.to {B m : Nat} {a : Int × Int} {x : Nat → Rat} (h : Iv (B + m) a x) : Iv B (downI a m) x := by
  have q := Qr_pos B
  have qm := Qr_pos m
  have e : (Q (B + m) : Rat) = (Q B : Rat) * (Q m : Rat) := by rw [Q_add, Rat.intCast_mul]
  have f1 := flo_le a.1 (Q m) (by have := Q_pos m; omega)
  have f2 := ceil_ge a.2 (Q m) (by have := Q_pos m; omega)
  have q2 : 0 < (Q B : Rat) * (Q m : Rat) := Rat.mul_pos q qm
  unfold Iv at h
  rw [e] at h
  refine Has.mono h ?_ ?_
  · have g : (((downI a m).1 * Q m : Int) : Rat) ≤ ((a.1 : Int) : Rat) := cast_le f1
    rw [Rat.intCast_mul] at g
    refine rle_div q2 ?_
    have ea := rdm (a := ((downI a m).1 : Rat)) q
    generalize ((downI a m).1 : Rat) / (Q B : Rat) = U at *
    generalize ((downI a m).1 : Rat) = L at *
    rw [← ea] at g
    grind
  · have g : ((a.2 : Int) : Rat) ≤ (((downI a m).2 * Q m : Int) : Rat) := cast_le f2
    rw [Rat.intCast_mul] at g
    refine rdiv_le q2 ?_
    have ea := rdm (a := ((downI a m).2 : Rat)) q
    generalize ((downI a m).2 : Rat) / (Q B : Rat) = U at *
    generalize ((downI a m).2 : Rat) = L at *
    rw [← ea] at g
    grind
/-- Over a power of 2. -/
theorem Iv.down {B : Nat} {a : Int × Int} {x : Nat → Rat} (h : Iv B a x) (t : Nat) : Iv B (downI a t) (fun M => x M / (Q t : Rat)) := by
  have qt : 0 < Q t := by have := Q_pos t; omega
  have := h.scale (n := 1) (d := Q t) (by omega) qt
  have e : scaleI a 1 (Q t) = downI a t := by simp [scaleI, downI]
  rw [e] at this
  refine Has.of_eq this fun M => ?_
  rw [Rat.div_def, Rat.div_def, Rat.mul_comm]
  simp
/-- Two spans that have one number touch. -/
theorem Iv.touch {B C : Nat} {a b : Int × Int} {x : Nat → Rat} (h : Iv B a x) (k : Iv C b x) : a.1 * Q C ≤ b.2 * Q B := by
  have q := Qr_pos B
  have q' := Qr_pos C
  have t := Has.touch h k
  have e1 := rdm (a := (a.1 : Rat)) q
  have e2 := rdm (a := (b.2 : Rat)) q'
  have : ((a.1 * Q C : Int) : Rat) ≤ ((b.2 * Q B : Int) : Rat) := by
    rw [Rat.intCast_mul, Rat.intCast_mul]
    generalize (a.1 : Rat) / (Q B : Rat) = U at *
    generalize (b.2 : Rat) / (Q C : Rat) = V at *
    rw [← e1, ← e2]
    have := Rat.mul_nonneg (Rat.mul_nonneg (show 0 ≤ V - U by grind) (Rat.le_of_lt q)) (Rat.le_of_lt q')
    grind
  exact_mod_cast this
/-- Who is not less has not less. -/
theorem Iv.touch_le {B : Nat} {a b : Int × Int} {x y z : Nat → Rat} (h : Iv B a x) (k : Iv B b y) (hz : Null z) (N0 : Nat) (hxy : ∀ M, N0 ≤ M → x M ≤ y M + z M) : a.1 ≤ b.2 := by
  have q := Qr_pos B
  have t := Has.touch_le h k hz N0 hxy
  have e1 := rdm (a := (a.1 : Rat)) q
  have e2 := rdm (a := (b.2 : Rat)) q
  have : ((a.1 : Int) : Rat) ≤ ((b.2 : Int) : Rat) := by
    generalize (a.1 : Rat) / (Q B : Rat) = U at *
    generalize (b.2 : Rat) / (Q B : Rat) = V at *
    rw [← e1, ← e2]
    have := Rat.mul_nonneg (show 0 ≤ V - U by grind) (Rat.le_of_lt q)
    grind
  exact_mod_cast this
theorem Iv.congr {B : Nat} {a : Int × Int} {x y : Nat → Rat} (h : Iv B a x) (k : Null (fun M => y M - x M)) : Iv B a y := Has.congr h k
end Go.Proofs.YtgmnknmjainababGreat

namespace Go.Proofs.YtgmnknmjainababGreat
set_option linter.unusedVariables false
open Ex

theorem Q_step {B s : Nat} (hs : s ≤ B) (n : Nat) : Q (B - s * n) * Q (B - s) ≤ Q (B - s * (n + 1)) * Q B := by
  rw [← Q_add, ← Q_add]
  refine Q_mono ?_
  rw [Nat.mul_add, Nat.mul_one]
  generalize s * n = k
  omega
theorem exists_least {p : Nat → Prop} {K : Nat} (h : p K) : ∃ N, N ≤ K ∧ p N ∧ ∀ n, n < N → ¬ p n := by
  induction K using Nat.strongRecOn with
  | ind K ih =>
    by_cases hk : ∃ m, m < K ∧ p m
    · obtain ⟨m, hm, hp⟩ := hk
      obtain ⟨N, h1, h2⟩ := ih m hm hp
      exact ⟨N, by omega, h2⟩
    · exact ⟨K, Nat.le_refl _, h, fun n hn hp => hk ⟨n, hn, hp⟩⟩
/-- A sum whose numbers become less ends. -/
theorem stop_ex {B s : Nat} {f : Nat → Int × Int} (hs : 1 ≤ s) (h : ∀ n, Abs (f n) (Q (B - s * n))) : ∃ N, N ≤ B / s + 1 ∧ IsStop f N := by
  have h1 : reachI (f (B / s + 1)) ≤ 1 := by
    have := abs_reach (h (B / s + 1))
    have e : B - s * (B / s + 1) = 0 := by
      have := Nat.lt_mul_div_succ B (show 0 < s by omega)
      omega
    rw [e] at this; simp [Q] at this; exact this
  obtain ⟨N, n1, n2, n3⟩ := exists_least (p := fun n => reachI (f n) ≤ 1) h1
  exact ⟨N, n1, n2, fun n hn => by have := n3 n hn; simp at this; omega⟩
theorem half_step {B s N n : Nat} {f : Nat → Int × Int} (hs : 1 ≤ s) (h : ∀ n, Abs (f n) (Q (B - s * n))) (hN : IsStop f N) (hn : n < N) : 2 * Q (B - s * (n + 1)) ≤ Q (B - s * n) := by
  have h1 := hN.2 n hn
  have h2 := abs_reach (h n)
  have h3 : 1 ≤ B - s * n := by
    refine Nat.pos_of_ne_zero fun e => ?_
    rw [e] at h2; simp [Q] at h2; omega
  have e : 2 * Q (B - s * (n + 1)) = Q (B - s * (n + 1) + 1) := rfl
  rw [e]
  refine Q_mono ?_
  rw [Nat.mul_add, Nat.mul_one]
  generalize s * n = k at *
  omega
theorem sum_abs2 {B s N : Nat} {f : Nat → Int × Int} (hs : 1 ≤ s) (h : ∀ n, Abs (f n) (Q (B - s * n))) (hN : IsStop f N) (n : Nat) (hn : n ≤ N) : Abs (sumI f n) (2 * Q B - Q (B - s * n)) := by
  induction n with
  | zero => simp only [sumI]; exact (h 0).mono (by simp; omega)
  | succ n ih =>
    have h1 := (ih (by omega)).add (h (n + 1))
    have h2 := half_step hs h hN (show n < N by omega)
    simp only [sumI]
    exact h1.mono (by omega)
theorem sum_abs1 {B s N : Nat} {f : Nat → Int × Int} (hs : 1 ≤ s) (h : ∀ n, Abs (f n) (Q (B - s * n))) (hN : IsStop f N) (n : Nat) (hn : n + 1 ≤ N) : Abs (sumI f (n + 1)) (Q B + 2 * Q (B - s) - Q (B - s * (n + 1))) := by
  induction n with
  | zero =>
    simp only [sumI]
    have := (h 0).add (h 1)
    refine this.mono ?_
    simp; omega
  | succ n ih =>
    have h1 := (ih (by omega)).add (h (n + 1 + 1))
    have h2 := half_step hs h hN (show n + 1 < N by omega)
    have e : sumI f (n + 1 + 1) = addI (sumI f (n + 1)) (f (n + 1 + 1)) := rfl
    rw [e]
    exact h1.mono (by omega)
theorem reach_pair {a : Int × Int} (h : a.1 ≤ a.2) : 0 ≤ reachI a := (reach_abs h).nonneg
theorem done_abs2 {B s N : Nat} {f : Nat → Int × Int} (hs : 1 ≤ s) (hle : ∀ n, (f n).1 ≤ (f n).2) (h : ∀ n, Abs (f n) (Q (B - s * n))) (hN : IsStop f N) : Abs (doneI f N) (2 * Q B) := by
  have h1 := sum_abs2 hs h hN N (Nat.le_refl _)
  have h2 : Abs (-reachI (f N), reachI (f N)) (Q (B - s * N)) := by
    have := abs_reach (h N)
    have := reach_pair (hle N)
    exact ⟨by simp; omega, by simp; omega, by simp; omega, by simp; omega⟩
  exact (h1.add h2).mono (by omega)
theorem done_abs1 {B s N : Nat} {f : Nat → Int × Int} (hs : 1 ≤ s) (hle : ∀ n, (f n).1 ≤ (f n).2) (h : ∀ n, Abs (f n) (Q (B - s * n))) (hN : IsStop f N) (h1N : 1 ≤ N) : Abs (doneI f N) (Q B + 2 * Q (B - s)) := by
  obtain ⟨n, rfl⟩ : ∃ n, N = n + 1 := ⟨N - 1, by omega⟩
  have h1 := sum_abs1 hs h hN n (Nat.le_refl _)
  have h2 : Abs (-reachI (f (n + 1)), reachI (f (n + 1))) (Q (B - s * (n + 1))) := by
    have := abs_reach (h (n + 1))
    have := reach_pair (hle (n + 1))
    exact ⟨by simp; omega, by simp; omega, by simp; omega, by simp; omega⟩
  exact (h1.add h2).mono (by omega)
theorem sum_le {f : Nat → Int × Int} (hle : ∀ n, (f n).1 ≤ (f n).2) (n : Nat) : (sumI f n).1 ≤ (sumI f n).2 := by
  induction n with
  | zero => exact hle 0
  | succ n ih => simp only [sumI, addI]; have := hle (n + 1); omega
theorem done_le {f : Nat → Int × Int} (hle : ∀ n, (f n).1 ≤ (f n).2) (n : Nat) : (doneI f n).1 ≤ (doneI f n).2 := by
  have h1 := sum_le hle n
  have h2 := reach_pair (hle n)
  simp only [doneI, addI]; omega
theorem sum_wide {f : Nat → Int × Int} {W : Int} (hw : ∀ n, (f n).2 - (f n).1 ≤ W) (n : Nat) : (sumI f n).2 - (sumI f n).1 ≤ ((n : Int) + 1) * W := by
  induction n with
  | zero => simp only [sumI]; have := hw 0; simp; omega
  | succ n ih =>
    simp only [sumI, addI]
    have := hw (n + 1)
    have e : (((n + 1 : Nat) : Int) + 1) * W = ((n : Int) + 1) * W + W := by
      have : (((n + 1 : Nat) : Int) + 1) = ((n : Int) + 1) + 1 := by omega
      rw [this, Int.add_mul, Int.one_mul]
    omega
theorem done_wide {f : Nat → Int × Int} {W : Int} {N : Nat} (hw : ∀ n, (f n).2 - (f n).1 ≤ W) (hN : IsStop f N) : (doneI f N).2 - (doneI f N).1 ≤ ((N : Int) + 1) * W + 2 := by
  have h1 := sum_wide hw N
  have h2 := hN.1
  simp only [doneI, addI]; omega

/-- What is left out is no farther from 0 than the last one. -/
theorem S_rest {g : Nat → Rat} {N : Nat} {b : Rat} (hb : AB (g N) b) (hh : ∀ n c, N ≤ n → AB (g n) c → AB (g (n + 1)) (c / 2)) (i : Nat) : AB (g (N + i)) (b * q2 i) ∧ AB (S g (N + 1 + i) - S g (N + 1)) (b * (1 - q2 i)) := by
  induction i with
  | zero => simp only [Nat.add_zero, q2]; exact ⟨hb.mono (by grind), by constructor <;> grind⟩
  | succ i ih =>
    obtain ⟨h1, h2⟩ := ih
    have h3 := hh (N + i) _ (by omega) h1
    have e1 : q2 (i + 1) = q2 i / 2 := rfl
    have e2 : S g (N + 1 + (i + 1)) = S g (N + 1 + i) + g (N + 1 + i) := rfl
    have e3 : N + 1 + i = N + (i + 1) := by omega
    refine ⟨h3.mono (by rw [e1]; grind), ?_⟩
    rw [e2, e1]
    have h4 := h2.add h3
    rw [show N + i + 1 = N + 1 + i by omega] at h4
    have e4 : S g (N + 1 + i) - S g (N + 1) + g (N + 1 + i) = S g (N + 1 + i) + g (N + 1 + i) - S g (N + 1) := by grind
    rw [e4] at h4
    exact h4.mono (by grind)
theorem done_has {B N : Nat} {f : Nat → Int × Int} {g : Nat → Nat → Rat} (hle : ∀ n, (f n).1 ≤ (f n).2) (h : ∀ n, n ≤ N → Iv B (f n) (fun M => g n M)) (M0 : Nat) (hh : ∀ M, M0 ≤ M → ∀ n b, N ≤ n → AB (g n M) b → AB (g (n + 1) M) (b / 2)) : Iv B (doneI f N) (fun M => S (fun k => g k M) M) := by
  have h1 : ∀ n, n ≤ N → Iv B (sumI f n) (fun M => S (fun k => g k M) (n + 1)) := fun n hn => by
    induction n with
    | zero => exact Has.of_eq (h 0 (by omega)) fun M => by simp only [S]; grind
    | succ n ih => exact Has.of_eq ((ih (by omega)).add (h (n + 1) hn)) fun M => by simp only [S]
  have h2 := h1 N (Nat.le_refl _)
  have h3 : Iv B (-reachI (f N), reachI (f N)) (fun M => S (fun k => g k M) M - S (fun k => g k M) (N + 1)) := by
    have hr := reach_abs (hle N)
    have q := Qr_pos B
    have k1 := h N (Nat.le_refl _)
    intro e he
    obtain ⟨N1, k2⟩ := k1 e he
    refine ⟨N1 + M0 + N + 1, fun M hM => ?_⟩
    obtain ⟨a1, a2⟩ := k2 M (by omega)
    have l1 : ((-reachI (f N) : Int) : Rat) / (Q B : Rat) ≤ ((f N).1 : Rat) / (Q B : Rat) := rdiv_le q (by rw [rdm q]; exact cast_le hr.1)
    have l2 : ((f N).2 : Rat) / (Q B : Rat) ≤ ((reachI (f N) : Int) : Rat) / (Q B : Rat) := rdiv_le q (by rw [rdm q]; exact cast_le hr.2.2.2)
    have l3 : ((-reachI (f N) : Int) : Rat) / (Q B : Rat) = -(((reachI (f N) : Int) : Rat) / (Q B : Rat)) := by
      rw [Rat.intCast_neg, Rat.div_def, Rat.div_def, Rat.neg_mul]
    have hb : AB (g N M) (((reachI (f N) : Int) : Rat) / (Q B : Rat) + e) := by constructor <;> grind
    obtain ⟨i, rfl⟩ : ∃ i, M = N + 1 + i := ⟨M - (N + 1), by omega⟩
    have s := (S_rest (g := fun k => g k (N + 1 + i)) hb (fun n c hn hc => hh _ (by omega) n c hn hc) i).2
    have p := q2_pos i
    have nn := hb.nonneg
    have s' := s.mono (b := ((reachI (f N) : Int) : Rat) / (Q B : Rat) + e) (by
      have := Rat.mul_nonneg nn (Rat.le_of_lt p)
      grind)
    obtain ⟨s1, s2⟩ := s'
    simp only []
    rw [l3]
    constructor <;> grind
  exact Has.of_eq (h2.add h3) fun M => by grind

/-- The numbers that make up a power of e. -/
def expT (B : Nat) (sm : Int × Int) : Nat → Int × Int
  | 0 => (Q B, Q B)
  | n + 1 => scaleI (mulI B (expT B sm n) sm) 1 ((n : Int) + 1)
theorem expT_le (B : Nat) (sm : Int × Int) (n : Nat) : (expT B sm n).1 ≤ (expT B sm n).2 := by
  cases n with
  | zero => exact Int.le_refl _
  | succ n => exact scaleI_le (mulI_le B) (by omega) (by omega)
theorem expT_abs {B : Nat} {sm : Int × Int} (hB : 8 ≤ B) (hs : Abs sm (Q (B - 8))) (n : Nat) : Abs (expT B sm n) (Q (B - 8 * n)) := by
  induction n with
  | zero => have := Q_pos B; exact ⟨by simp [expT]; omega, by simp [expT], by simp [expT]; omega, by simp [expT]⟩
  | succ n ih => exact scaleI_abs (mulI_abs ih hs (Q_step hB n)) (by omega) (by omega) (by omega)
theorem Q_eight {B : Nat} (hB : 8 ≤ B) : Q B = 256 * Q (B - 8) := by
  have := Q_add 8 (B - 8)
  rw [show 8 + (B - 8) = B by omega] at this
  rw [this]; rfl
theorem expT_wide {B : Nat} {sm : Int × Int} {ws : Int} (hB : 8 ≤ B) (hs : Abs sm (Q (B - 8))) (hsl : sm.1 ≤ sm.2) (hw : sm.2 - sm.1 ≤ ws) (n : Nat) : (expT B sm n).2 - (expT B sm n).1 ≤ 2 * ws + 4 := by
  induction n with
  | zero => simp only [expT]; omega
  | succ n ih =>
    have q := Q_pos (B - 8)
    have e := Q_eight hB
    have m1 : Q (B - 8 * n) ≤ Q B := Q_mono (by omega)
    have p1 := Int.mul_le_mul m1 hw (by omega) (by omega)
    have p2 := Int.mul_le_mul_of_nonneg_left ih (show 0 ≤ Q (B - 8) by omega)
    have hc : Q (B - 8 * n) * (sm.2 - sm.1) + Q (B - 8) * ((expT B sm n).2 - (expT B sm n).1) ≤ (ws + (2 * ws + 4 + 255) / 256) * Q B := by
      have e2 : (ws + (2 * ws + 4 + 255) / 256) * Q B = Q B * ws + Q (B - 8) * (256 * ((2 * ws + 4 + 255) / 256)) := by
        rw [Int.add_mul, Int.mul_comm ws]; congr 1; rw [e]; grind
      rw [e2]
      have := Int.mul_le_mul_of_nonneg_left (show 2 * ws + 4 ≤ 256 * ((2 * ws + 4 + 255) / 256) by omega) (show 0 ≤ Q (B - 8) by omega)
      omega
    have h1 := mulI_wide (expT_abs hB hs n) hs (expT_le B sm n) hsl hc
    have hn : (0 : Int) < (n : Int) + 1 := by omega
    have hp := Int.mul_nonneg (show 0 ≤ ws + (2 * ws + 4 + 255) / 256 + 1 by omega) (show 0 ≤ (n : Int) by omega)
    have h2 := scaleI_wide (a := mulI B (expT B sm n) sm) (n := 1) (d := (n : Int) + 1) (c := ws + (2 * ws + 4 + 255) / 256 + 1) hn (by
      rw [Int.mul_one, Int.mul_add, Int.mul_one]; omega)
    simp only [expT]
    omega
theorem expT_has {B : Nat} {sm : Int × Int} {x : Nat → Rat} (h : Iv B sm x) (n : Nat) : Iv B (expT B sm n) (fun M => tm (x M) n) := by
  induction n with
  | zero =>
    have q := Qr_pos B
    have e : (Q B : Rat) / (Q B : Rat) = 1 := by rw [Rat.div_def, Rat.mul_inv_cancel _ (by grind)]
    show Has ((Q B : Rat) / (Q B : Rat)) ((Q B : Rat) / (Q B : Rat)) _
    rw [e]
    exact Has.const (c := 1) Rat.le_refl Rat.le_refl
  | succ n ih =>
    have := (ih.mul h).scale (n := 1) (d := (n : Int) + 1) (by omega) (by omega)
    refine Has.of_eq this fun M => ?_
    have e : (((n : Int) + 1 : Int) : Rat) = (n : Rat) + 1 := by rw [Rat.intCast_add]; rfl
    rw [e]
    simp only [tm]
    have hp := pos1 n
    rw [Rat.div_def, Rat.div_def]
    simp
    grind
theorem tm_half {x b : Rat} (hx : AB x (1 / 2)) (n : Nat) (h : AB (tm x n) b) : AB (tm x (n + 1)) (b / 2) := by
  have e := tm_succ x n
  have hp := pos1 n
  have g := hx.mul h
  rw [← e] at g
  have e3 : tm x (n + 1) = ((n : Rat) + 1) * tm x (n + 1) / ((n : Rat) + 1) := by grind
  rw [e3]
  refine rdiv_AB hp (g.mono ?_)
  have hn : (0 : Rat) ≤ (n : Rat) := by exact_mod_cast Nat.zero_le n
  have := Rat.mul_nonneg hn h.nonneg
  grind
theorem Iv.little {B : Nat} {a : Int × Int} {x : Nat → Rat} (h : Iv B a x) {m : Int} (ha : Abs a m) (hm : 4 * m ≤ Q B) : ∃ N, ∀ M, N ≤ M → AB (x M) (1 / 2) := by
  have q := Qr_pos B
  obtain ⟨N, h1⟩ := h (1 / 4) (by grind)
  refine ⟨N, fun M hM => ?_⟩
  have := h1 M hM
  have l1 : -(1 / 4 : Rat) ≤ (a.1 : Rat) / (Q B : Rat) := rle_div q (by
    have : ((-(Q B) : Int) : Rat) ≤ ((4 * a.1 : Int) : Rat) := cast_le (by have := ha.1; omega)
    rw [Rat.intCast_neg, Rat.intCast_mul] at this
    have e4 : ((4 : Int) : Rat) = 4 := rfl
    rw [e4] at this
    grind)
  have l2 : (a.2 : Rat) / (Q B : Rat) ≤ (1 / 4 : Rat) := rdiv_le q (by
    have : ((4 * a.2 : Int) : Rat) ≤ ((Q B : Int) : Rat) := cast_le (by have := ha.2.2.2; omega)
    rw [Rat.intCast_mul] at this
    have e4 : ((4 : Int) : Rat) = 4 := rfl
    rw [e4] at this
    grind)
  constructor <;> grind
/-- The sum is a power of e. -/
theorem expSum_has {B N : Nat} {sm : Int × Int} {x : Nat → Rat} (hB : 8 ≤ B) (h : Iv B sm x) (hs : Abs sm (Q (B - 8))) : Iv B (doneI (expT B sm) N) (Ev x) := by
  obtain ⟨M0, h0⟩ := h.little hs (by have := Q_eight hB; have := Q_pos (B - 8); omega)
  exact done_has (expT_le B sm) (fun n _ => expT_has h n) M0 (fun M hM n b _ hb => tm_half (h0 M hM) n hb)
/-- Squares. -/
def sqv (y : Nat → Rat) : Nat → Nat → Rat
  | 0 => y
  | t + 1 => fun M => sqv y t M * sqv y t M
theorem sqI_has {B : Nat} {a : Int × Int} {y : Nat → Rat} (h : Iv B a y) (t : Nat) : Iv B (sqI B a t) (sqv y t) := by
  induction t with
  | zero => exact h
  | succ t ih => exact ih.mul ih
theorem sqv_null {x : Nat → Rat} (h : Bdd x) (t : Nat) : Null (fun M => sqv (Ev x) t M - Ev (fun M => (Q t : Rat) * x M) M) := by
  have hb : ∀ t, Bdd (fun M => (Q t : Rat) * x M) := fun t => (Bdd.const _).mul h
  induction t with
  | zero =>
    have e : (fun M => (Q 0 : Rat) * x M) = x := funext fun M => by simp [Q]
    rw [e]
    exact null_zero.of_eq fun M => by simp only [sqv]; grind
  | succ t ih =>
    have b1 := Ev_bdd (hb t)
    have b2 : Bdd (sqv (Ev x) t) := b1.of_null (ih.neg.of_eq fun M => by grind)
    have n1 := ih.bmul (b1.add b2)
    have n2 := Ev_add (hb t) (hb t)
    have e : (fun M => (Q t : Rat) * x M + (Q t : Rat) * x M) = fun M => (Q (t + 1) : Rat) * x M := funext fun M => by
      have : (Q (t + 1) : Rat) = 2 * (Q t : Rat) := by
        have : Q (t + 1) = 2 * Q t := rfl
        rw [this, Rat.intCast_mul]; rfl
      rw [this]; grind
    rw [e] at n2
    refine (n1.add n2).of_eq fun M => ?_
    simp only [sqv]
    grind
/-- What wide.Exp makes has the power of e. -/
theorem exp_has {B N t : Nat} {a : Int × Int} {x : Nat → Rat} (hB : 8 ≤ B) (h : Iv B a x) (hs : Abs (downI a t) (Q (B - 8))) : Iv B (sqI B (doneI (expT B (downI a t)) N) t) (Ev x) := by
  have hx := Has.bdd h
  have h1 := sqI_has (expSum_has (N := N) hB (h.down t) hs) t
  have hb : Bdd (fun M => x M / (Q t : Rat)) := Has.bdd (h.down t)
  have n1 := sqv_null hb t
  have q := Qr_pos t
  have e : (fun M => (Q t : Rat) * (x M / (Q t : Rat))) = x := funext fun M => by
    rw [Rat.mul_comm]; exact rdm q
  rw [e] at n1
  exact h1.congr (n1.neg.of_eq fun M => by grind)
end Go.Proofs.YtgmnknmjainababGreat

namespace Go.Proofs.YtgmnknmjainababGreat
set_option linter.unusedVariables false
open Ex

/-- How many bits more some squares take, at most. -/
def eb (i : Nat) : Nat := if i ≤ 10 then 12 else 12 * 2 ^ (i - 10)
def cI : Nat → Int
  | 0 => 66048
  | i + 1 => cI i * cI i / 65536 + 1
theorem Q_16 {B : Nat} (hB : 16 ≤ B) : Q B = 65536 * Q (B - 16) ∧ Q (B - 8) = 256 * Q (B - 16) := by
  have h1 := Q_add 16 (B - 16)
  have h2 := Q_add 8 (B - 16)
  rw [show 16 + (B - 16) = B by omega] at h1
  rw [show 8 + (B - 16) = B - 8 by omega] at h2
  exact ⟨by rw [h1]; rfl, by rw [h2]; rfl⟩
theorem sq_abs0 {B : Nat} {d : Int × Int} (hB : 16 ≤ B) (h : Abs d (Q B + 2 * Q (B - 8))) (i : Nat) : Abs (sqI B d i) (cI i * Q (B - 16)) := by
  obtain ⟨e1, e2⟩ := Q_16 hB
  induction i with
  | zero => exact h.mono (by simp only [cI]; omega)
  | succ i ih =>
    refine mulI_abs ih ih ?_
    rw [e1]
    have q := Q_pos (B - 16)
    have h1 : cI i * cI i ≤ cI (i + 1) * 65536 := by simp only [cI]; omega
    have h2 := Int.mul_nonneg (show 0 ≤ Q (B - 16) by omega) (show 0 ≤ Q (B - 16) by omega)
    have h3 := Int.mul_le_mul_of_nonneg_right h1 h2
    generalize Q (B - 16) = r at *
    have e3 : cI i * r * (cI i * r) = cI i * cI i * (r * r) := by grind
    have e4 : cI (i + 1) * r * (65536 * r) = cI (i + 1) * 65536 * (r * r) := by grind
    rw [e3, e4]; exact h3
theorem cI_le : ∀ i, i < 11 → cI i ≤ 268435456 := by decide
theorem sq_abs {B : Nat} {d : Int × Int} (hB : 16 ≤ B) (h : Abs d (Q B + 2 * Q (B - 8))) (i : Nat) : Abs (sqI B d i) (Q (B + eb i)) := by
  by_cases hi : i ≤ 10
  · refine (sq_abs0 hB h i).mono ?_
    have e : eb i = 12 := by simp [eb, hi]
    have e2 : Q (B + 12) = 268435456 * Q (B - 16) := by
      have := Q_add 28 (B - 16)
      rw [show 28 + (B - 16) = B + 12 by omega] at this
      rw [this]; rfl
    rw [e, e2]
    exact Int.mul_le_mul_of_nonneg_right (cI_le i (by omega)) (by have := Q_pos (B - 16); omega)
  · obtain ⟨j, rfl⟩ : ∃ j, i = 10 + j := ⟨i - 10, by omega⟩
    clear hi
    have key : Abs (sqI B d (10 + j)) (Q (B + 12 * 2 ^ j)) := by
      induction j with
      | zero =>
        refine (sq_abs0 hB h 10).mono ?_
        have e2 : Q (B + 12 * 2 ^ 0) = 268435456 * Q (B - 16) := by
          have := Q_add 28 (B - 16)
          rw [show 28 + (B - 16) = B + 12 * 2 ^ 0 by omega] at this
          rw [this]; rfl
        rw [e2]
        exact Int.mul_le_mul_of_nonneg_right (cI_le 10 (by omega)) (by have := Q_pos (B - 16); omega)
      | succ j ih =>
        refine mulI_abs ih ih ?_
        rw [← Q_add, ← Q_add]
        refine Q_mono ?_
        rw [Nat.pow_succ]; omega
    by_cases hj : j = 0
    · subst hj; exact key
    · have : eb (10 + j) = 12 * 2 ^ j := by
        unfold eb; rw [if_neg (by omega)]; congr 2; omega
      rw [this]; exact key
/-- How many bits wider. -/
def wb : Nat → Nat
  | 0 => 0
  | i + 1 => wb i + eb i + 2
theorem sq_wide {B : Nat} {d : Int × Int} (hB : 16 ≤ B) (h : Abs d (Q B + 2 * Q (B - 8))) (hd : d.1 ≤ d.2) (i : Nat) : (sqI B d i).1 ≤ (sqI B d i).2 ∧ (sqI B d i).2 - (sqI B d i).1 + 1 ≤ (d.2 - d.1 + 1) * Q (wb i) := by
  induction i with
  | zero => simp only [sqI, wb, Q]; omega
  | succ i ih =>
    obtain ⟨h1, h2⟩ := ih
    refine ⟨mulI_le B, ?_⟩
    have ha := sq_abs hB h i
    obtain ⟨W, hW⟩ : ∃ W, W = (sqI B d i).2 - (sqI B d i).1 := ⟨_, rfl⟩
    rw [← hW] at h2
    have h3 := mulI_wide (B := B) (c := 2 * Q (eb i) * W) ha ha h1 h1 (by
      rw [← hW, Q_add]
      generalize Q B = q
      generalize Q (eb i) = r
      have : q * r * W + q * r * W = 2 * r * W * q := by grind
      omega)
    have e : Q (wb (i + 1)) = Q (wb i) * (4 * Q (eb i)) := by
      have : wb (i + 1) = wb i + (eb i + 2) := by simp only [wb]; omega
      rw [this, Q_add]
      congr 1
      have := Q_add (eb i) 2
      rw [this, Int.mul_comm]; rfl
    rw [e]
    have q1 := Q_pos (eb i)
    have p := Int.mul_le_mul_of_nonneg_right h2 (show 0 ≤ 4 * Q (eb i) by omega)
    rw [← Int.mul_assoc]
    refine Int.le_trans ?_ p
    have w0 : 0 ≤ W := by omega
    have p2 := Int.mul_nonneg w0 (show 0 ≤ Q (eb i) by omega)
    show (mulI B (sqI B d i) (sqI B d i)).2 - (mulI B (sqI B d i) (sqI B d i)).1 + 1 ≤ _
    have e5 : (W + 1) * (4 * Q (eb i)) = 4 * (W * Q (eb i)) + 4 * Q (eb i) := by grind
    have e6 : 2 * Q (eb i) * W = 2 * (W * Q (eb i)) := by grind
    rw [e5]; rw [e6] at h3
    omega
theorem eb_mono {i j : Nat} (h : i ≤ j) : eb i ≤ eb j := by
  unfold eb
  split
  · split
    · omega
    · have := Nat.pow_le_pow_right (show 0 < 2 by omega) (show 0 ≤ j - 10 by omega); simp at this; omega
  · split
    · omega
    · have := Nat.pow_le_pow_right (show 0 < 2 by omega) (show i - 10 ≤ j - 10 by omega); omega
theorem wb_mono {i j : Nat} (h : i ≤ j) : wb i ≤ wb j := by
  obtain ⟨d, rfl⟩ : ∃ d, j = i + d := ⟨j - i, by omega⟩
  clear h
  induction d with
  | zero => exact Nat.le_refl _
  | succ d ih => show wb i ≤ wb (i + d) + eb (i + d) + 2; omega
/-- What wide.Exp makes: how far from 0, how wide. -/
theorem exp_bound {B N t : Nat} {a : Int × Int} {ws : Int} (hB : 16 ≤ B) (hs : Abs (downI a t) (Q (B - 8))) (ha : a.1 ≤ a.2) (hw : a.2 - a.1 ≤ ws * Q t) (hN : IsStop (expT B (downI a t)) N) :
    (sqI B (doneI (expT B (downI a t)) N) t).1 ≤ (sqI B (doneI (expT B (downI a t)) N) t).2 ∧ Abs (sqI B (doneI (expT B (downI a t)) N) t) (Q (B + eb t)) ∧ N ≤ B / 8 + 1 ∧
    (sqI B (doneI (expT B (downI a t)) N) t).2 - (sqI B (doneI (expT B (downI a t)) N) t).1 ≤ (((N : Int) + 1) * (2 * ws + 6) + 3) * Q (wb t) := by
  have q := Q_pos t
  have hsl : (downI a t).1 ≤ (downI a t).2 := by
    have := scaleI_le (a := a) (n := 1) (d := Q t) ha (by omega) (by omega)
    simpa [scaleI, downI] using this
  have hsw : (downI a t).2 - (downI a t).1 ≤ ws + 1 := div_wide (by omega) hw
  have hT := expT_abs (by omega) hs
  have h1N : 1 ≤ N := by
    refine Nat.pos_of_ne_zero fun e => ?_
    have := hN.1
    rw [e] at this
    have h2 : reachI (expT B (downI a t) 0) = Q B := by
      show maxZ (Q B) (-Q B) = Q B
      have := Q_pos B
      unfold maxZ; rw [if_neg (by omega)]
    rw [h2] at this
    have := Q_mono hB
    have : Q 16 = 65536 := rfl
    omega
  have hd := done_abs1 (s := 8) (by omega) (expT_le B (downI a t)) hT hN h1N
  have hdl := done_le (expT_le B (downI a t)) N
  have hdw := done_wide (expT_wide (by omega) hs hsl hsw) hN
  obtain ⟨g1, g2⟩ := sq_wide hB hd hdl t
  have hle : N ≤ B / 8 + 1 := by
    obtain ⟨N', n1, n2⟩ := stop_ex (s := 8) (by omega) hT
    refine Nat.le_trans (Nat.not_lt.1 fun hlt => ?_) n1
    have := hN.2 N' hlt
    have := n2.1
    omega
  refine ⟨g1, sq_abs hB hd t, hle, ?_⟩
  have q2 := Q_pos (wb t)
  have e : 2 * (ws + 1) + 4 = 2 * ws + 6 := by omega
  rw [e] at hdw
  have := Int.mul_le_mul_of_nonneg_right (show (doneI (expT B (downI a t)) N).2 - (doneI (expT B (downI a t)) N).1 + 1 ≤ ((N : Int) + 1) * (2 * ws + 6) + 3 by omega) (show 0 ≤ Q (wb t) by omega)
  omega
end Go.Proofs.YtgmnknmjainababGreat

namespace Go.Proofs.YtgmnknmjainababGreat
set_option linter.unusedVariables false
open Ex

theorem ofI_le {n d : Int} (hd : 0 < d) (B : Nat) : (ofI n d B).1 ≤ (ofI n d B).2 := by
  have := scaleI_le (a := (n * Q B, n * Q B)) (n := 1) (Int.le_refl _) hd (by omega)
  simpa [scaleI, ofI] using this
theorem ofI_wide {n d : Int} (hd : 0 < d) (B : Nat) : (ofI n d B).2 - (ofI n d B).1 ≤ 1 := by
  have := div_wide (x := n * Q B) (y := n * Q B) (c := 0) hd (by omega)
  simpa [ofI] using this
theorem ofI_abs {n d m : Int} (hd : 0 < d) (B : Nat) (h1 : -(m * d) ≤ n * Q B) (h2 : n * Q B ≤ m * d) : Abs (ofI n d B) m := by
  have := round_abs hd h1 h2
  exact ⟨this.1, this.2.1, this.2.2.1, this.2.2.2⟩
end Go.Proofs.YtgmnknmjainababGreat

namespace Go.Proofs.YtgmnknmjainababGreat
set_option linter.unusedVariables false
open Ex

/-- What is left out is at most 1. -/
def doneT (f : Nat → Int × Int) (N : Nat) : Int × Int := addI (sumI f N) (-1, 1)
theorem Iv.mono {B : Nat} {a b : Int × Int} {x : Nat → Rat} (h : Iv B a x) (h1 : b.1 ≤ a.1) (h2 : a.2 ≤ b.2) : Iv B b x := by
  have q := Qr_pos B
  exact Has.mono h (rdiv_le q (by rw [rdm q]; exact cast_le h1)) (rdiv_le q (by rw [rdm q]; exact cast_le h2))
theorem doneT_has {B N : Nat} {f : Nat → Int × Int} {x : Nat → Rat} (h : Iv B (doneI f N) x) (hr : reachI (f N) ≤ 1) : Iv B (doneT f N) x := by
  refine h.mono ?_ ?_ <;> simp only [doneT, doneI, addI] <;> omega
theorem low_abs {b : Nat} {X : Int} (h0 : 0 ≤ X) (h1 : X ≤ Q b) (n : Nat) : Abs (expT b (X, X) (n + 1)) (Q (b - n)) := by
  have hX : Abs (X, X) (Q b) := ⟨by simp only []; omega, by simp only []; omega, by simp only []; omega, by simp only []; omega⟩
  induction n with
  | zero =>
    have h2 : Abs (expT b (X, X) 0) (Q b) := by have := Q_pos b; exact ⟨by simp [expT]; omega, by simp [expT], by simp [expT]; omega, by simp [expT]⟩
    exact scaleI_abs (mulI_abs h2 hX (Int.le_refl _)) (by omega) (by omega) (by omega)
  | succ n ih =>
    have h2 : Abs (mulI b (expT b (X, X) (n + 1)) (X, X)) (Q (b - n)) := mulI_abs ih hX (Int.le_refl _)
    obtain ⟨g1, g2, g3, g4⟩ := h2
    have q := Q_pos (b - (n + 1))
    have hq : Q (b - n) ≤ Q (b - (n + 1)) * ((n + 1 : Nat) + 1 : Int) := by
      by_cases hb : b - n = 0
      · have e : b - (n + 1) = 0 := by omega
        rw [hb, e]; simp [Q]; omega
      · have e : b - n = b - (n + 1) + 1 := by omega
        rw [e]
        have e2 : Q (b - (n + 1) + 1) = 2 * Q (b - (n + 1)) := rfl
        rw [e2]
        have := Int.mul_le_mul_of_nonneg_left (show (2 : Int) ≤ ((n + 1 : Nat) + 1 : Int) by omega) (show 0 ≤ Q (b - (n + 1)) by omega)
        omega
    have d0 : (0 : Int) < ((n + 1 : Nat) + 1 : Int) := by omega
    have r1 := round_abs (x := (mulI b (expT b (X, X) (n + 1)) (X, X)).1 * 1) (m := Q (b - (n + 1))) d0 (by omega) (by omega)
    have r2 := round_abs (x := (mulI b (expT b (X, X) (n + 1)) (X, X)).2 * 1) (m := Q (b - (n + 1))) d0 (by omega) (by omega)
    exact ⟨r1.1, r1.2.1, r2.2.2.1, r2.2.2.2⟩
theorem low_absB {b : Nat} {X : Int} (h0 : 0 ≤ X) (h1 : X ≤ Q b) (n : Nat) : Abs (expT b (X, X) n) (Q b) := by
  cases n with
  | zero => have := Q_pos b; exact ⟨by simp [expT]; omega, by simp [expT], by simp [expT]; omega, by simp [expT]⟩
  | succ n => exact (low_abs h0 h1 n).mono (Q_mono (by omega))
/-- Where tailsureref.lowExp ends. -/
def LowStop (f : Nat → Int × Int) (N : Nat) : Prop := 3 ≤ N ∧ reachI (f N) ≤ 1 ∧ ∀ n, 3 ≤ n → n < N → 1 < reachI (f n)
theorem low_stop {b : Nat} {X : Int} (h0 : 0 ≤ X) (h1 : X ≤ Q b) : ∃ N, N ≤ b + 4 ∧ LowStop (expT b (X, X)) N := by
  have h2 : 3 ≤ b + 4 ∧ reachI (expT b (X, X) (b + 4)) ≤ 1 := by
    refine ⟨by omega, ?_⟩
    have := abs_reach (low_abs h0 h1 (b + 3))
    have e : b - (b + 3) = 0 := by omega
    rw [e] at this; exact this
  obtain ⟨N, n1, n2, n3⟩ := exists_least (p := fun n => 3 ≤ n ∧ reachI (expT b (X, X) n) ≤ 1) h2
  exact ⟨N, n1, n2.1, n2.2, fun n h3 hn => by have := n3 n hn; simp at this; have := this h3; omega⟩
/-- The ends are not below 0. -/
theorem low_nonneg {b : Nat} {X : Int} (h0 : 0 ≤ X) (n : Nat) : 0 ≤ (expT b (X, X) n).1 := by
  induction n with
  | zero => have := Q_pos b; simp only [expT]; omega
  | succ n ih =>
    have hle := expT_le b (X, X) n
    have q := Q_pos b
    have l := (least4 ((expT b (X, X) n).1 * X) ((expT b (X, X) n).1 * X) ((expT b (X, X) n).2 * X) ((expT b (X, X) n).2 * X)).2.2.2.2
    have p1 := Int.mul_nonneg ih h0
    have p2 := Int.mul_nonneg (show 0 ≤ (expT b (X, X) n).2 by omega) h0
    have h3 : 0 ≤ (mulI b (expT b (X, X) n) (X, X)).1 := by
      simp only [mulI]
      refine Int.ediv_nonneg ?_ (by omega)
      rcases l with l | l | l | l <;> rw [l] <;> assumption
    simp only [expT, scaleI]
    exact Int.ediv_nonneg (by omega) (by omega)
theorem low_sum {b : Nat} {X : Int} (h0 : 0 ≤ X) (n : Nat) : Q b ≤ (sumI (expT b (X, X)) n).1 := by
  induction n with
  | zero => simp [sumI, expT]
  | succ n ih => simp only [sumI, addI]; have := low_nonneg (b := b) h0 (n + 1); omega
theorem low_sumabs {b : Nat} {X : Int} (h0 : 0 ≤ X) (h1 : X ≤ Q b) (n : Nat) : Abs (sumI (expT b (X, X)) n) (((n : Int) + 1) * Q b) := by
  induction n with
  | zero => simp only [sumI]; exact (low_absB h0 h1 0).mono (by simp)
  | succ n ih =>
    simp only [sumI]
    refine (ih.add (low_absB h0 h1 (n + 1))).mono ?_
    have : (((n + 1 : Nat) : Int) + 1) * Q b = ((n : Int) + 1) * Q b + Q b := by
      have e : (((n + 1 : Nat) : Int) + 1) = ((n : Int) + 1) + 1 := by omega
      rw [e, Int.add_mul, Int.one_mul]
    omega
theorem tm_half1 {x b : Rat} (hx : AB x 1) {n : Nat} (hn : 1 ≤ n) (h : AB (tm x n) b) : AB (tm x (n + 1)) (b / 2) := by
  have e := tm_succ x n
  have hp := pos1 n
  have g := hx.mul h
  rw [← e] at g
  have e3 : tm x (n + 1) = ((n : Rat) + 1) * tm x (n + 1) / ((n : Rat) + 1) := by grind
  rw [e3]
  refine rdiv_AB hp (g.mono ?_)
  have hn' : (1 : Rat) ≤ (n : Rat) := by exact_mod_cast hn
  have := Rat.mul_nonneg (show 0 ≤ (n : Rat) - 1 by grind) h.nonneg
  grind
/-- It has e to the power of X over 2 to the power of b. -/
theorem low_has {b N : Nat} {X : Int} (h0 : 0 ≤ X) (h1 : X ≤ Q b) (hN : LowStop (expT b (X, X)) N) : Iv b (doneT (expT b (X, X)) N) (Ev (fun _ => (X : Rat) / (Q b : Rat))) := by
  have q := Qr_pos b
  have hX : Iv b (X, X) (fun _ => (X : Rat) / (Q b : Rat)) := Has.const Rat.le_refl Rat.le_refl
  have hx : AB ((X : Rat) / (Q b : Rat)) 1 := by
    refine rdiv_AB q ?_
    have c1 : ((0 : Int) : Rat) ≤ (X : Rat) := cast_le h0
    have c2 := cast_le h1
    have c0 : ((0 : Int) : Rat) = 0 := rfl
    rw [c0] at c1
    constructor <;> grind
  refine doneT_has ?_ hN.2.1
  exact done_has (expT_le b (X, X)) (fun n _ => expT_has hX n) 0 (fun M _ n c hn hc => tm_half1 hx (by have := hN.1; omega) hc)
end Go.Proofs.YtgmnknmjainababGreat
