/-
  Logarithms of numbers that are told by sequences: of products, roots, quotients. Plain arithmetic: no statement of the seat is proved here.
  Spans by their ends: what is made of them, how wide that is, how far from 0, and which numbers it has. Plain arithmetic: no statement of the seat is proved here.
  Sums whose numbers become less; the numbers that make up a power of e, and that what is made has it. Plain arithmetic: no statement of the seat is proved here.
  How far from 0, and how wide, what is made of a power of e is. Plain arithmetic: no statement of the seat is proved here.
  Spans by their ends, as the calls of package wide answer them; the function literal of wide.Exp.
  What wide.sum answers of what the function literal of wide.Exp makes.
-/
import Derived.Test.YtgmnknmjainababGreatK07
namespace Go.Proofs.YtgmnknmjainababGreat.Ex
set_option linter.unusedVariables false

/-- l is the logarithm of r. -/
def IsLog (l r : Nat → Rat) : Prop := Bdd l ∧ Null (fun M => Ev l M - r M)
theorem Bdd.of_null {f g : Nat → Rat} (h : Bdd f) (k : Null (fun M => f M - g M)) : Bdd g := by
  obtain ⟨K, N, k0, h⟩ := h.sub k.bdd
  exact ⟨K, N, k0, fun M hM => by have : AB (f M - (f M - g M)) K := h M hM; rw [show f M - (f M - g M) = g M by grind] at this; exact this⟩
theorem IsLog.bdd {l r : Nat → Rat} (h : IsLog l r) : Bdd r := (Ev_bdd h.1).of_null h.2
/-- What is not more has a logarithm that is not more. -/
theorem IsLog.le {l r l' r' z : Nat → Rat} (h : IsLog l r) (h' : IsLog l' r') (hz : Null z) (N0 : Nat) (hr : ∀ M, N0 ≤ M → r M ≤ r' M + z M) (e : Rat) (he : 0 < e) : ∃ N, ∀ M, N ≤ M → l M ≤ l' M + e := by
  refine Ev_back h.1 h'.1 ((h.2.sub h'.2).add hz) N0 (fun M hM => ?_) e he
  have := hr M hM
  grind
theorem IsLog.congr {l l' r : Nat → Rat} (h : IsLog l r) (k : Null (fun M => l M - l' M)) : IsLog l' r := by
  have b := h.1.of_null k
  refine ⟨b, ?_⟩
  refine (h.2.sub (Ev_congr h.1 b k)).of_eq fun M => ?_
  grind
theorem IsLog.add {l l' r r' : Nat → Rat} (h : IsLog l r) (h' : IsLog l' r') : IsLog (fun M => l M + l' M) (fun M => r M * r' M) := by
  refine ⟨h.1.add h'.1, ?_⟩
  have n1 := Ev_add h.1 h'.1
  have n2 := h.2.bmul (Ev_bdd h'.1)
  have n3 := h'.2.bmul h.bdd
  refine ((n2.add n3).sub n1).of_eq fun M => ?_
  grind
theorem IsLog.neg {l r s : Nat → Rat} (h : IsLog l r) (hs : Bdd s) (N : Nat) (hrs : ∀ M, N ≤ M → s M * r M = 1) : IsLog (fun M => -l M) s := by
  refine ⟨h.1.neg, ?_⟩
  have n1 := Ev_inv h.1
  have n2 := h.2.bmul (Ev_bdd h.1.neg)
  have n3 := (n1.sub n2).bmul hs
  refine n3.of_eq_from N fun M hM => ?_
  have e := hrs M hM
  have : (Ev l M * Ev (fun M => -l M) M - 1 - (Ev l M - r M) * Ev (fun M => -l M) M) * s M = (s M * r M) * Ev (fun M => -l M) M - s M := by grind
  rw [this, e]; grind
theorem isLog_one : IsLog (fun _ => 0) (fun _ => 1) := ⟨Bdd.const 0, null_zero.of_eq_from 1 fun M hM => by
  obtain ⟨m, rfl⟩ : ∃ m, M = m + 1 := ⟨M - 1, by omega⟩
  show E 0 (m + 1) - 1 = 0
  rw [E_zero]; grind⟩
/-- The half is the logarithm of the root. -/
theorem IsLog.half {l r : Nat → Rat} (h : IsLog l (fun M => r M * r M)) (c : Rat) (hc : 0 < c) (N : Nat) (hr : ∀ M, N ≤ M → c ≤ r M) : IsLog (fun M => l M / 2) r := by
  have b : Bdd (fun M => l M / 2) := by
    obtain ⟨K, N', k0, hb⟩ := h.1
    exact ⟨K, N', k0, fun M hM => by obtain ⟨_, _⟩ := hb M hM; constructor <;> grind⟩
  refine ⟨b, ?_⟩
  have n1 := Ev_add b b
  have e : (fun M => l M / 2 + l M / 2) = l := funext fun M => by grind
  rw [e] at n1
  have n2 := n1.add h.2
  obtain ⟨d, hd, N1, hl⟩ := Ev_low b
  intro ε hε
  obtain ⟨N2, h2⟩ := n2 (ε * c) (Rat.mul_pos hε hc)
  refine ⟨N + N1 + N2, fun M hM => ?_⟩
  have g1 := hr M (by omega)
  have g2 := hl M (by omega)
  obtain ⟨g3, g4⟩ : AB (Ev (fun M => l M / 2) M * Ev (fun M => l M / 2) M - Ev l M + (Ev l M - r M * r M)) (ε * c) := h2 M (by omega)
  show AB (Ev (fun M => l M / 2) M - r M) ε
  generalize Ev (fun M => l M / 2) M = X at *
  generalize r M = Y at *
  generalize Ev l M = Z at *
  have e1 : X * X - Z + (Z - Y * Y) = (X - Y) * (X + Y) := by grind
  rw [e1] at g3 g4
  constructor
  · refine Rat.not_lt.1 fun hn => ?_
    have p1 := Rat.mul_nonneg (show 0 ≤ -ε - (X - Y) by grind) (show 0 ≤ X + Y by grind)
    have p2 := Rat.mul_pos hε (show 0 < X + Y - c by grind)
    grind
  · refine Rat.not_lt.1 fun hn => ?_
    have p1 := Rat.mul_nonneg (show 0 ≤ X - Y - ε by grind) (show 0 ≤ X + Y by grind)
    have p2 := Rat.mul_pos hε (show 0 < X + Y - c by grind)
    grind
/-- Some times. -/
theorem IsLog.times {l r : Nat → Rat} (h : IsLog l r) (k : Nat) : IsLog (fun M => (k : Rat) * l M) (fun M => pw (r M) k) := by
  induction k with
  | zero =>
    have e1 : (fun M => ((0 : Nat) : Rat) * l M) = fun _ => 0 := funext fun M => by simp; try grind
    rw [e1]; exact isLog_one
  | succ k ih =>
    have e1 : (fun M => ((k + 1 : Nat) : Rat) * l M) = fun M => l M + (k : Rat) * l M := funext fun M => by
      have : ((k + 1 : Nat) : Rat) = (k : Rat) + 1 := by simp
      rw [this]; grind
    rw [e1]; exact h.add ih
end Go.Proofs.YtgmnknmjainababGreat.Ex

namespace Go.Proofs.YtgmnknmjainababGreat
set_option linter.unusedVariables false
open Ex

/-- The least and the greatest of four. -/
theorem least4 (a b c d : Int) : leastZ (pr4 a b c d) 3 ≤ a ∧ leastZ (pr4 a b c d) 3 ≤ b ∧ leastZ (pr4 a b c d) 3 ≤ c ∧ leastZ (pr4 a b c d) 3 ≤ d ∧ (leastZ (pr4 a b c d) 3 = a ∨ leastZ (pr4 a b c d) 3 = b ∨ leastZ (pr4 a b c d) 3 = c ∨ leastZ (pr4 a b c d) 3 = d) := by
  simp only [leastZ, pr4]; simp; repeat' split
  all_goals omega
theorem greatest4 (a b c d : Int) : a ≤ mostZ (pr4 a b c d) 3 ∧ b ≤ mostZ (pr4 a b c d) 3 ∧ c ≤ mostZ (pr4 a b c d) 3 ∧ d ≤ mostZ (pr4 a b c d) 3 ∧ (mostZ (pr4 a b c d) 3 = a ∨ mostZ (pr4 a b c d) 3 = b ∨ mostZ (pr4 a b c d) 3 = c ∨ mostZ (pr4 a b c d) 3 = d) := by
  simp only [mostZ, pr4]; simp; repeat' split
  all_goals omega

/-- Spans by their ends: their product, sum; one times a number over another one; how far from 0. -/
def mulI (B : Nat) (a b : Int × Int) : Int × Int := (leastZ (pr4 (a.1 * b.1) (a.1 * b.2) (a.2 * b.1) (a.2 * b.2)) 3 / Q B, -(-(mostZ (pr4 (a.1 * b.1) (a.1 * b.2) (a.2 * b.1) (a.2 * b.2)) 3) / Q B))
def addI (a b : Int × Int) : Int × Int := (a.1 + b.1, a.2 + b.2)
def subI (a b : Int × Int) : Int × Int := (a.1 - b.2, a.2 - b.1)
def scaleI (a : Int × Int) (n d : Int) : Int × Int := (a.1 * n / d, -(-(a.2 * n) / d))
def timesI (a : Int × Int) (n : Int) : Int × Int := (a.1 * n, a.2 * n)
def reachI (a : Int × Int) : Int := maxZ a.2 (-a.1)
def ofI (n d : Int) (B : Nat) : Int × Int := (n * Q B / d, -(-(n * Q B) / d))
def downI (a : Int × Int) (t : Nat) : Int × Int := (a.1 / Q t, -(-a.2 / Q t))
/-- In how far a sum has come. -/
def sumI (f : Nat → Int × Int) : Nat → Int × Int
  | 0 => f 0
  | n + 1 => addI (sumI f n) (f (n + 1))
/-- Where it ends. -/
def IsStop (f : Nat → Int × Int) (N : Nat) : Prop := reachI (f N) ≤ 1 ∧ ∀ n, n < N → 1 < reachI (f n)
/-- And what comes of it. -/
def doneI (f : Nat → Int × Int) (N : Nat) : Int × Int := addI (sumI f N) (-reachI (f N), reachI (f N))
/-- Squares, again and again. -/
def sqI (B : Nat) (a : Int × Int) : Nat → Int × Int
  | 0 => a
  | t + 1 => mulI B (sqI B a t) (sqI B a t)
/-- Within so much of 0. -/
def Abs (a : Int × Int) (m : Int) : Prop := -m ≤ a.1 ∧ a.1 ≤ m ∧ -m ≤ a.2 ∧ a.2 ≤ m

theorem reach_abs {a : Int × Int} (h : a.1 ≤ a.2) : Abs a (reachI a) := by
  unfold Abs reachI maxZ; split <;> omega
theorem abs_reach {a : Int × Int} {m : Int} (h : Abs a m) : reachI a ≤ m := by
  obtain ⟨h1, h2, h3, h4⟩ := h
  unfold reachI maxZ; split <;> omega
theorem Abs.nonneg {a : Int × Int} {m : Int} (h : Abs a m) : 0 ≤ m := by obtain ⟨h1, h2, h3, h4⟩ := h; omega
theorem Abs.mono {a : Int × Int} {m n : Int} (h : Abs a m) (k : m ≤ n) : Abs a n := by obtain ⟨h1, h2, h3, h4⟩ := h; exact ⟨by omega, by omega, by omega, by omega⟩
theorem Abs.add {a b : Int × Int} {m n : Int} (h : Abs a m) (k : Abs b n) : Abs (addI a b) (m + n) := by
  obtain ⟨h1, h2, h3, h4⟩ := h
  obtain ⟨k1, k2, k3, k4⟩ := k
  refine ⟨?_, ?_, ?_, ?_⟩ <;> simp only [addI] <;> omega
theorem abs_mul {x y m n : Int} (h1 : -m ≤ x) (h2 : x ≤ m) (k1 : -n ≤ y) (k2 : y ≤ n) : -(m * n) ≤ x * y ∧ x * y ≤ m * n := by
  have p1 := Int.mul_nonneg (show 0 ≤ m - x by omega) (show 0 ≤ n + y by omega)
  have p2 := Int.mul_nonneg (show 0 ≤ m + x by omega) (show 0 ≤ n - y by omega)
  have p3 := Int.mul_nonneg (show 0 ≤ m - x by omega) (show 0 ≤ n - y by omega)
  have p4 := Int.mul_nonneg (show 0 ≤ m + x by omega) (show 0 ≤ n + y by omega)
  constructor <;> grind
/-- Over a number, rounded away from 0, it is within what has just that. -/
theorem round_abs {x m q : Int} (hq : 0 < q) (h1 : -(m * q) ≤ x) (h2 : x ≤ m * q) : -m ≤ x / q ∧ x / q ≤ m ∧ -m ≤ -(-x / q) ∧ -(-x / q) ≤ m := by
  have a1 : -m ≤ x / q := by rw [Int.le_ediv_iff_mul_le hq, Int.neg_mul]; exact h1
  have a2 : -m ≤ -x / q := by rw [Int.le_ediv_iff_mul_le hq, Int.neg_mul]; omega
  have a3 := flo_le x q hq
  have a4 := ceil_ge x q hq
  refine ⟨a1, ?_, ?_, by omega⟩
  · refine Int.not_lt.1 fun hn => ?_
    have := Int.mul_le_mul_of_nonneg_right (show m + 1 ≤ x / q by omega) (show 0 ≤ q by omega)
    rw [Int.add_mul] at this; omega
  · refine Int.not_lt.1 fun hn => ?_
    have := Int.mul_le_mul_of_nonneg_right (show -(-x / q) ≤ -m - 1 by omega) (show 0 ≤ q by omega)
    have e : (-m - 1) * q = -(m * q) - q := by grind
    rw [e] at this; omega
theorem mulI_abs {B : Nat} {a b : Int × Int} {m n p : Int} (h : Abs a m) (k : Abs b n) (hp : m * n ≤ p * Q B) : Abs (mulI B a b) p := by
  obtain ⟨h1, h2, h3, h4⟩ := h
  obtain ⟨k1, k2, k3, k4⟩ := k
  have q := Q_pos B
  have c1 := abs_mul h1 h2 k1 k2
  have c2 := abs_mul h1 h2 k3 k4
  have c3 := abs_mul h3 h4 k1 k2
  have c4 := abs_mul h3 h4 k3 k4
  have l := (least4 (a.1 * b.1) (a.1 * b.2) (a.2 * b.1) (a.2 * b.2)).2.2.2.2
  have g := (greatest4 (a.1 * b.1) (a.1 * b.2) (a.2 * b.1) (a.2 * b.2)).2.2.2.2
  have r1 := round_abs (x := leastZ (pr4 (a.1 * b.1) (a.1 * b.2) (a.2 * b.1) (a.2 * b.2)) 3) (m := p) (show 0 < Q B by omega) (by omega) (by omega)
  have r2 := round_abs (x := mostZ (pr4 (a.1 * b.1) (a.1 * b.2) (a.2 * b.1) (a.2 * b.2)) 3) (m := p) (show 0 < Q B by omega) (by omega) (by omega)
  exact ⟨r1.1, r1.2.1, r2.2.2.1, r2.2.2.2⟩
theorem mulI_le (B : Nat) {a b : Int × Int} : (mulI B a b).1 ≤ (mulI B a b).2 := by
  have q := Q_pos B
  have l := least4 (a.1 * b.1) (a.1 * b.2) (a.2 * b.1) (a.2 * b.2)
  have g := greatest4 (a.1 * b.1) (a.1 * b.2) (a.2 * b.1) (a.2 * b.2)
  simp only [mulI]
  have a1 := flo_le (leastZ (pr4 (a.1 * b.1) (a.1 * b.2) (a.2 * b.1) (a.2 * b.2)) 3) (Q B) (by omega)
  have a2 := ceil_ge (mostZ (pr4 (a.1 * b.1) (a.1 * b.2) (a.2 * b.1) (a.2 * b.2)) 3) (Q B) (by omega)
  refine Int.not_lt.1 fun hn => ?_
  have := Int.mul_lt_mul_of_pos_right hn (show 0 < Q B by omega)
  omega
theorem scaleI_abs {a : Int × Int} {m n d : Int} (h : Abs a m) (hd : 0 < d) (hn : 0 ≤ n) (hnd : n ≤ d) : Abs (scaleI a n d) m := by
  have m0 := h.nonneg
  obtain ⟨h1, h2, h3, h4⟩ := h
  have p := Int.mul_nonneg m0 (show 0 ≤ d - n by omega)
  have c1 := abs_mul h1 h2 (show -n ≤ n by omega) (Int.le_refl n)
  have c2 := abs_mul h3 h4 (show -n ≤ n by omega) (Int.le_refl n)
  rw [Int.mul_sub] at p
  have r1 := round_abs (x := a.1 * n) (m := m) hd (by omega) (by omega)
  have r2 := round_abs (x := a.2 * n) (m := m) hd (by omega) (by omega)
  exact ⟨r1.1, r1.2.1, r2.2.2.1, r2.2.2.2⟩
theorem scaleI_le {a : Int × Int} {n d : Int} (h : a.1 ≤ a.2) (hd : 0 < d) (hn : 0 ≤ n) : (scaleI a n d).1 ≤ (scaleI a n d).2 := by
  simp only [scaleI]
  have a1 := flo_le (a.1 * n) d hd
  have a2 := ceil_ge (a.2 * n) d hd
  have a3 := Int.mul_le_mul_of_nonneg_right h hn
  refine Int.not_lt.1 fun hn => ?_
  have := Int.mul_lt_mul_of_pos_right hn hd
  omega
/-- Widths. -/
theorem corner_wide {x y x' y' a1 a2 b1 b2 m n : Int} (hx : x = a1 ∨ x = a2) (hy : y = b1 ∨ y = b2) (hx' : x' = a1 ∨ x' = a2) (hy' : y' = b1 ∨ y' = b2)
    (ha : a1 ≤ a2) (hb : b1 ≤ b2) (h1 : -m ≤ a1) (h2 : a1 ≤ m) (h3 : -m ≤ a2) (h4 : a2 ≤ m) (k1 : -n ≤ b1) (k2 : b1 ≤ n) (k3 : -n ≤ b2) (k4 : b2 ≤ n) :
    x * y - x' * y' ≤ m * (b2 - b1) + n * (a2 - a1) := by
  -- x y - x' y' = x (y - y') + (x - x') y'
  have e : x * y - x' * y' = x * (y - y') + (x - x') * y' := by grind
  rw [e]
  have c1 : -m ≤ x ∧ x ≤ m := by rcases hx with h | h <;> subst h <;> exact ⟨by assumption, by assumption⟩
  have c2 : -n ≤ y' ∧ y' ≤ n := by rcases hy' with h | h <;> subst h <;> exact ⟨by assumption, by assumption⟩
  have d1 : -(b2 - b1) ≤ y - y' ∧ y - y' ≤ b2 - b1 := by rcases hy with h | h <;> rcases hy' with h' | h' <;> omega
  have d2 : -(a2 - a1) ≤ x - x' ∧ x - x' ≤ a2 - a1 := by rcases hx with h | h <;> rcases hx' with h' | h' <;> omega
  have g1 := (abs_mul c1.1 c1.2 d1.1 d1.2).2
  have g2 := (abs_mul d2.1 d2.2 c2.1 c2.2).2
  rw [Int.mul_comm n]
  omega
theorem div_wide {x y q c : Int} (hq : 0 < q) (h : x - y ≤ c * q) : -(-x / q) - y / q ≤ c + 1 := by
  have a1 := ceil_lt x q hq
  have a2 := flo_gt y q hq
  refine Int.not_lt.1 fun hn => ?_
  have := Int.mul_le_mul_of_nonneg_right (show c + 2 ≤ -(-x / q) - y / q by omega) (show 0 ≤ q by omega)
  rw [Int.sub_mul, Int.add_mul] at this
  omega
theorem mulI_wide {B : Nat} {a b : Int × Int} {m n c : Int} (h : Abs a m) (k : Abs b n) (ha : a.1 ≤ a.2) (hb : b.1 ≤ b.2) (hc : m * (b.2 - b.1) + n * (a.2 - a.1) ≤ c * Q B) : (mulI B a b).2 - (mulI B a b).1 ≤ c + 1 := by
  obtain ⟨h1, h2, h3, h4⟩ := h
  obtain ⟨k1, k2, k3, k4⟩ := k
  have q := Q_pos B
  have l := (least4 (a.1 * b.1) (a.1 * b.2) (a.2 * b.1) (a.2 * b.2)).2.2.2.2
  have g := (greatest4 (a.1 * b.1) (a.1 * b.2) (a.2 * b.1) (a.2 * b.2)).2.2.2.2
  refine div_wide (show 0 < Q B by omega) (Int.le_trans ?_ hc)
  have key := fun x y x' y' (hx : x = a.1 ∨ x = a.2) (hy : y = b.1 ∨ y = b.2) (hx' : x' = a.1 ∨ x' = a.2) (hy' : y' = b.1 ∨ y' = b.2) => corner_wide hx hy hx' hy' ha hb h1 h2 h3 h4 k1 k2 k3 k4
  rcases g with g | g | g | g <;> rcases l with l | l | l | l <;> rw [g, l] <;> exact key _ _ _ _ (by simp) (by simp) (by simp) (by simp)
theorem scaleI_wide {a : Int × Int} {n d c : Int} (hd : 0 < d) (h : (a.2 - a.1) * n ≤ c * d) : (scaleI a n d).2 - (scaleI a n d).1 ≤ c + 1 := by
  refine div_wide hd ?_
  rw [← Int.sub_mul]; exact h

/-- The span has the number that the sequence tells. -/
def Iv (B : Nat) (a : Int × Int) (x : Nat → Rat) : Prop := Has ((a.1 : Rat) / (Q B : Rat)) ((a.2 : Rat) / (Q B : Rat)) x
theorem Qr_pos (B : Nat) : (0 : Rat) < (Q B : Rat) := by exact_mod_cast (show (0 : Int) < Q B by have := Q_pos B; omega)
theorem rle_div {a b c : Rat} (hc : 0 < c) (h : a * c ≤ b) : a ≤ b / c := by
  have e := rdm (a := b) hc
  generalize b / c = q at *
  refine Rat.not_lt.1 fun hn => ?_
  have := Rat.mul_pos hc (show 0 < a - q by grind)
  grind
theorem rdiv_le {a b c : Rat} (hc : 0 < c) (h : a ≤ b * c) : a / c ≤ b := by
  have e := rdm (a := a) hc
  generalize a / c = q at *
  refine Rat.not_lt.1 fun hn => ?_
  have := Rat.mul_pos hc (show 0 < q - b by grind)
  grind
theorem cast_le {a b : Int} (h : a ≤ b) : (a : Rat) ≤ (b : Rat) := by exact_mod_cast h
/-- Ends of a product, as ratios. -/
theorem mul_lo {L u v q : Int} (hq : 0 < q) (h : L * q ≤ u * v) : (L : Rat) / (q : Rat) ≤ (u : Rat) / (q : Rat) * ((v : Rat) / (q : Rat)) := by
  have q0 : (0 : Rat) < (q : Rat) := by exact_mod_cast hq
  have e1 := rdm (a := (u : Rat)) q0
  have e2 := rdm (a := (v : Rat)) q0
  have h1 := cast_le h
  rw [Rat.intCast_mul, Rat.intCast_mul] at h1
  refine rdiv_le q0 ?_
  generalize (u : Rat) / (q : Rat) = U at *
  generalize (v : Rat) / (q : Rat) = V at *
  rw [← e1, ← e2] at h1
  refine Rat.not_lt.1 fun hn => ?_
  have := Rat.mul_pos (show 0 < (L : Rat) - U * V * (q : Rat) by grind) q0
  grind
theorem mul_hi {L u v q : Int} (hq : 0 < q) (h : u * v ≤ L * q) : (u : Rat) / (q : Rat) * ((v : Rat) / (q : Rat)) ≤ (L : Rat) / (q : Rat) := by
  have q0 : (0 : Rat) < (q : Rat) := by exact_mod_cast hq
  have e1 := rdm (a := (u : Rat)) q0
  have e2 := rdm (a := (v : Rat)) q0
  have h1 := cast_le h
  rw [Rat.intCast_mul, Rat.intCast_mul] at h1
  refine rle_div q0 ?_
  generalize (u : Rat) / (q : Rat) = U at *
  generalize (v : Rat) / (q : Rat) = V at *
  rw [← e1, ← e2] at h1
  refine Rat.not_lt.1 fun hn => ?_
  have := Rat.mul_pos (show 0 < U * V * (q : Rat) - (L : Rat) by grind) q0
  grind
theorem Iv.mul {B : Nat} {a b : Int × Int} {x y : Nat → Rat} (h : Iv B a x) (k : Iv B b y) : Iv B (mulI B a b) (fun M => x M * y M) := by
  have q0 : 0 < Q B := by have := Q_pos B; omega
  have l := least4 (a.1 * b.1) (a.1 * b.2) (a.2 * b.1) (a.2 * b.2)
  have g := greatest4 (a.1 * b.1) (a.1 * b.2) (a.2 * b.1) (a.2 * b.2)
  have fl := flo_le (leastZ (pr4 (a.1 * b.1) (a.1 * b.2) (a.2 * b.1) (a.2 * b.2)) 3) (Q B) q0
  have ce := ceil_ge (mostZ (pr4 (a.1 * b.1) (a.1 * b.2) (a.2 * b.1) (a.2 * b.2)) 3) (Q B) q0
  exact Has.mul h k (mul_lo q0 (Int.le_trans fl l.1)) (mul_lo q0 (Int.le_trans fl l.2.1)) (mul_lo q0 (Int.le_trans fl l.2.2.1)) (mul_lo q0 (Int.le_trans fl l.2.2.2.1)) (mul_hi q0 (Int.le_trans g.1 ce)) (mul_hi q0 (Int.le_trans g.2.1 ce)) (mul_hi q0 (Int.le_trans g.2.2.1 ce)) (mul_hi q0 (Int.le_trans g.2.2.2.1 ce))
theorem rdiv_add (a b c : Rat) : (a + b) / c = a / c + b / c := by rw [Rat.div_def, Rat.div_def, Rat.div_def, Rat.add_mul]
theorem rdiv_sub (a b c : Rat) : (a - b) / c = a / c - b / c := by rw [Rat.sub_eq_add_neg, Rat.div_def, Rat.add_mul, Rat.neg_mul, Rat.div_def, Rat.div_def, ← Rat.sub_eq_add_neg]
theorem Iv.add {B : Nat} {a b : Int × Int} {x y : Nat → Rat} (h : Iv B a x) (k : Iv B b y) : Iv B (addI a b) (fun M => x M + y M) := by
  have := Has.add h k
  rw [← rdiv_add, ← rdiv_add, ← Rat.intCast_add, ← Rat.intCast_add] at this
  exact this
theorem Iv.sub {B : Nat} {a b : Int × Int} {x y : Nat → Rat} (h : Iv B a x) (k : Iv B b y) : Iv B (subI a b) (fun M => x M - y M) := by
  have := Has.sub h k
  rw [← rdiv_sub, ← rdiv_sub, ← Rat.intCast_sub, ← Rat.intCast_sub] at this
  exact this
theorem Iv.times {B : Nat} {a : Int × Int} {x : Nat → Rat} (h : Iv B a x) (n : Nat) : Iv B (timesI a n) (fun M => (n : Rat) * x M) := by
  have := Has.scale h (c := (n : Rat)) (by exact_mod_cast Nat.zero_le n)
  have e : ∀ z : Int, (n : Rat) * ((z : Rat) / (Q B : Rat)) = ((z * (n : Int) : Int) : Rat) / (Q B : Rat) := fun z => by
    rw [Rat.intCast_mul, Rat.div_def, Rat.div_def, ← Rat.mul_assoc, Rat.mul_comm (n : Rat)]; rfl
  rw [e, e] at this
  exact this
theorem frac_lo {L u n d q : Int} (hd : 0 < d) (hq : 0 < q) (h : L * d ≤ u * n) : (L : Rat) / (q : Rat) ≤ (n : Rat) / (d : Rat) * ((u : Rat) / (q : Rat)) := by
  have q0 : (0 : Rat) < (q : Rat) := by exact_mod_cast hq
  have d0 : (0 : Rat) < (d : Rat) := by exact_mod_cast hd
  have e1 := rdm (a := (u : Rat)) q0
  have e2 := rdm (a := (n : Rat)) d0
  have h1 := cast_le h
  rw [Rat.intCast_mul, Rat.intCast_mul] at h1
  refine rdiv_le q0 ?_
  generalize (u : Rat) / (q : Rat) = U at *
  generalize (n : Rat) / (d : Rat) = V at *
  rw [← e1, ← e2] at h1
  refine Rat.not_lt.1 fun hn => ?_
  have := Rat.mul_pos (show 0 < (L : Rat) - V * U * (q : Rat) by grind) d0
  grind
theorem frac_hi {L u n d q : Int} (hd : 0 < d) (hq : 0 < q) (h : u * n ≤ L * d) : (n : Rat) / (d : Rat) * ((u : Rat) / (q : Rat)) ≤ (L : Rat) / (q : Rat) := by
  have q0 : (0 : Rat) < (q : Rat) := by exact_mod_cast hq
  have d0 : (0 : Rat) < (d : Rat) := by exact_mod_cast hd
  have e1 := rdm (a := (u : Rat)) q0
  have e2 := rdm (a := (n : Rat)) d0
  have h1 := cast_le h
  rw [Rat.intCast_mul, Rat.intCast_mul] at h1
  refine rle_div q0 ?_
  generalize (u : Rat) / (q : Rat) = U at *
  generalize (n : Rat) / (d : Rat) = V at *
  rw [← e1, ← e2] at h1
  refine Rat.not_lt.1 fun hn => ?_
  have := Rat.mul_pos (show 0 < V * U * (q : Rat) - (L : Rat) by grind) d0
  grind
theorem Iv.scale {B : Nat} {a : Int × Int} {x : Nat → Rat} (h : Iv B a x) {n d : Int} (hn : 0 ≤ n) (hd : 0 < d) : Iv B (scaleI a n d) (fun M => (n : Rat) / (d : Rat) * x M) := by
  have q0 : 0 < Q B := by have := Q_pos B; omega
  have d0 : (0 : Rat) < (d : Rat) := by exact_mod_cast hd
  have n0 : (0 : Rat) ≤ (n : Rat) := by exact_mod_cast hn
  have c0 : 0 ≤ (n : Rat) / (d : Rat) := rle_div d0 (by grind)
  exact (Has.scale h c0).mono (frac_lo hd q0 (flo_le (a.1 * n) d hd)) (frac_hi hd q0 (ceil_ge (a.2 * n) d hd))
theorem Iv.of (B : Nat) {n d : Int} (hd : 0 < d) : Iv B (ofI n d B) (fun _ => (n : Rat) / (d : Rat)) := by
  have q0 : 0 < Q B := by have := Q_pos B; omega
  have qr := Qr_pos B
  have e : (n : Rat) / (d : Rat) * ((Q B : Rat) / (Q B : Rat)) = (n : Rat) / (d : Rat) := by
    rw [Rat.div_def (Q B : Rat), Rat.mul_inv_cancel _ (by grind), Rat.mul_one]
  have l := frac_lo hd q0 (L := (ofI n d B).1) (u := Q B) (n := n) (by rw [Int.mul_comm (Q B)]; exact flo_le (n * Q B) d hd)
  have g := frac_hi hd q0 (L := (ofI n d B).2) (u := Q B) (n := n) (by rw [Int.mul_comm (Q B)]; exact ceil_ge (n * Q B) d hd)
  rw [e] at l g
  exact Has.const l g
/-- By fewer bits. -/
theorem Iv.to {B m : Nat} {a : Int × Int} {x : Nat → Rat} (h : Iv (B + m) a x) : Iv B (downI a m) x := by
  have q := Qr_pos B
  have qm := Qr_pos m
  have e : (Q (B + m) : Rat) = (Q B : Rat) * (Q m : Rat) := by rw [Q_add, Rat.intCast_mul]
  have f1 := flo_le a.1 (Q m) (by have := Q_pos m; omega)
  have f2 := ceil_ge a.2 (Q m) (by have := Q_pos m; omega)
  have q2 : 0 < (Q B : Rat) * (Q m : Rat) := Rat.mul_pos q qm
  unfold Iv at h
  rw [e] at h
  refine Has.mono h ?_ ?_
  · have g : (((downI a m).1 * Q m : Int) : Rat) ≤ ((a.1 : Int) : Rat) := cast_le f1
    rw [Rat.intCast_mul] at g
    refine rle_div q2 ?_
    have ea := rdm (a := ((downI a m).1 : Rat)) q
    generalize ((downI a m).1 : Rat) / (Q B : Rat) = U at *
    generalize ((downI a m).1 : Rat) = L at *
    rw [← ea] at g
    grind
  · have g : ((a.2 : Int) : Rat) ≤ (((downI a m).2 * Q m : Int) : Rat) := cast_le f2
    rw [Rat.intCast_mul] at g
    refine rdiv_le q2 ?_
    have ea := rdm (a := ((downI a m).2 : Rat)) q
    generalize ((downI a m).2 : Rat) / (Q B : Rat) = U at *
    generalize ((downI a m).2 : Rat) = L at *
    rw [← ea] at g
    grind
/-- Over a power of 2. -/
theorem Iv.down {B : Nat} {a : Int × Int} {x : Nat → Rat} (h : Iv B a x) (t : Nat) : Iv B (downI a t) (fun M => x M / (Q t : Rat)) := by
  have qt : 0 < Q t := by have := Q_pos t; omega
  have := h.scale (n := 1) (d := Q t) (by omega) qt
  have e : scaleI a 1 (Q t) = downI a t := by simp [scaleI, downI]
  rw [e] at this
  refine Has.of_eq this fun M => ?_
  rw [Rat.div_def, Rat.div_def, Rat.mul_comm]
  simp
/-- Two spans that have one number touch. -/
theorem Iv.touch {B C : Nat} {a b : Int × Int} {x : Nat → Rat} (h : Iv B a x) (k : Iv C b x) : a.1 * Q C ≤ b.2 * Q B := by
  have q := Qr_pos B
  have q' := Qr_pos C
  have t := Has.touch h k
  have e1 := rdm (a := (a.1 : Rat)) q
  have e2 := rdm (a := (b.2 : Rat)) q'
  have : ((a.1 * Q C : Int) : Rat) ≤ ((b.2 * Q B : Int) : Rat) := by
    rw [Rat.intCast_mul, Rat.intCast_mul]
    generalize (a.1 : Rat) / (Q B : Rat) = U at *
    generalize (b.2 : Rat) / (Q C : Rat) = V at *
    rw [← e1, ← e2]
    have := Rat.mul_nonneg (Rat.mul_nonneg (show 0 ≤ V - U by grind) (Rat.le_of_lt q)) (Rat.le_of_lt q')
    grind
  exact_mod_cast this
theorem Iv.congr {B : Nat} {a : Int × Int} {x y : Nat → Rat} (h : Iv B a x) (k : Null (fun M => y M - x M)) : Iv B a y := Has.congr h k
end Go.Proofs.YtgmnknmjainababGreat

namespace Go.Proofs.YtgmnknmjainababGreat
set_option linter.unusedVariables false
open Ex

theorem Q_step {B s : Nat} (hs : s ≤ B) (n : Nat) : Q (B - s * n) * Q (B - s) ≤ Q (B - s * (n + 1)) * Q B := by
  rw [← Q_add, ← Q_add]
  refine Q_mono ?_
  rw [Nat.mul_add, Nat.mul_one]
  generalize s * n = k
  omega
theorem exists_least {p : Nat → Prop} {K : Nat} (h : p K) : ∃ N, N ≤ K ∧ p N ∧ ∀ n, n < N → ¬ p n := by
  induction K using Nat.strongRecOn with
  | ind K ih =>
    by_cases hk : ∃ m, m < K ∧ p m
    · obtain ⟨m, hm, hp⟩ := hk
      obtain ⟨N, h1, h2⟩ := ih m hm hp
      exact ⟨N, by omega, h2⟩
    · exact ⟨K, Nat.le_refl _, h, fun n hn hp => hk ⟨n, hn, hp⟩⟩
/-- A sum whose numbers become less ends. -/
theorem stop_ex {B s : Nat} {f : Nat → Int × Int} (hs : 1 ≤ s) (h : ∀ n, Abs (f n) (Q (B - s * n))) : ∃ N, N ≤ B / s + 1 ∧ IsStop f N := by
  have h1 : reachI (f (B / s + 1)) ≤ 1 := by
    have := abs_reach (h (B / s + 1))
    have e : B - s * (B / s + 1) = 0 := by
      have := Nat.lt_mul_div_succ B (show 0 < s by omega)
      omega
    rw [e] at this; simp [Q] at this; exact this
  obtain ⟨N, n1, n2, n3⟩ := exists_least (p := fun n => reachI (f n) ≤ 1) h1
  exact ⟨N, n1, n2, fun n hn => by have := n3 n hn; simp at this; omega⟩
theorem half_step {B s N n : Nat} {f : Nat → Int × Int} (hs : 1 ≤ s) (h : ∀ n, Abs (f n) (Q (B - s * n))) (hN : IsStop f N) (hn : n < N) : 2 * Q (B - s * (n + 1)) ≤ Q (B - s * n) := by
  have h1 := hN.2 n hn
  have h2 := abs_reach (h n)
  have h3 : 1 ≤ B - s * n := by
    refine Nat.pos_of_ne_zero fun e => ?_
    rw [e] at h2; simp [Q] at h2; omega
  have e : 2 * Q (B - s * (n + 1)) = Q (B - s * (n + 1) + 1) := rfl
  rw [e]
  refine Q_mono ?_
  rw [Nat.mul_add, Nat.mul_one]
  generalize s * n = k at *
  omega
theorem sum_abs2 {B s N : Nat} {f : Nat → Int × Int} (hs : 1 ≤ s) (h : ∀ n, Abs (f n) (Q (B - s * n))) (hN : IsStop f N) (n : Nat) (hn : n ≤ N) : Abs (sumI f n) (2 * Q B - Q (B - s * n)) := by
  induction n with
  | zero => simp only [sumI]; exact (h 0).mono (by simp; omega)
  | succ n ih =>
    have h1 := (ih (by omega)).add (h (n + 1))
    have h2 := half_step hs h hN (show n < N by omega)
    simp only [sumI]
    exact h1.mono (by omega)
theorem sum_abs1 {B s N : Nat} {f : Nat → Int × Int} (hs : 1 ≤ s) (h : ∀ n, Abs (f n) (Q (B - s * n))) (hN : IsStop f N) (n : Nat) (hn : n + 1 ≤ N) : Abs (sumI f (n + 1)) (Q B + 2 * Q (B - s) - Q (B - s * (n + 1))) := by
  induction n with
  | zero =>
    simp only [sumI]
    have := (h 0).add (h 1)
    refine this.mono ?_
    simp; omega
  | succ n ih =>
    have h1 := (ih (by omega)).add (h (n + 1 + 1))
    have h2 := half_step hs h hN (show n + 1 < N by omega)
    have e : sumI f (n + 1 + 1) = addI (sumI f (n + 1)) (f (n + 1 + 1)) := rfl
    rw [e]
    exact h1.mono (by omega)
theorem reach_pair {a : Int × Int} (h : a.1 ≤ a.2) : 0 ≤ reachI a := (reach_abs h).nonneg
theorem done_abs2 {B s N : Nat} {f : Nat → Int × Int} (hs : 1 ≤ s) (hle : ∀ n, (f n).1 ≤ (f n).2) (h : ∀ n, Abs (f n) (Q (B - s * n))) (hN : IsStop f N) : Abs (doneI f N) (2 * Q B) := by
  have h1 := sum_abs2 hs h hN N (Nat.le_refl _)
  have h2 : Abs (-reachI (f N), reachI (f N)) (Q (B - s * N)) := by
    have := abs_reach (h N)
    have := reach_pair (hle N)
    exact ⟨by simp; omega, by simp; omega, by simp; omega, by simp; omega⟩
  exact (h1.add h2).mono (by omega)
theorem done_abs1 {B s N : Nat} {f : Nat → Int × Int} (hs : 1 ≤ s) (hle : ∀ n, (f n).1 ≤ (f n).2) (h : ∀ n, Abs (f n) (Q (B - s * n))) (hN : IsStop f N) (h1N : 1 ≤ N) : Abs (doneI f N) (Q B + 2 * Q (B - s)) := by
  obtain ⟨n, rfl⟩ : ∃ n, N = n + 1 := ⟨N - 1, by omega⟩
  have h1 := sum_abs1 hs h hN n (Nat.le_refl _)
  have h2 : Abs (-reachI (f (n + 1)), reachI (f (n + 1))) (Q (B - s * (n + 1))) := by
    have := abs_reach (h (n + 1))
    have := reach_pair (hle (n + 1))
    exact ⟨by simp; omega, by simp; omega, by simp; omega, by simp; omega⟩
  exact (h1.add h2).mono (by omega)
theorem sum_le {f : Nat → Int × Int} (hle : ∀ n, (f n).1 ≤ (f n).2) (n : Nat) : (sumI f n).1 ≤ (sumI f n).2 := by
  induction n with
  | zero => exact hle 0
  | succ n ih => simp only [sumI, addI]; have := hle (n + 1); omega
theorem done_le {f : Nat → Int × Int} (hle : ∀ n, (f n).1 ≤ (f n).2) (n : Nat) : (doneI f n).1 ≤ (doneI f n).2 := by
  have h1 := sum_le hle n
  have h2 := reach_pair (hle n)
  simp only [doneI, addI]; omega
theorem sum_wide {f : Nat → Int × Int} {W : Int} (hw : ∀ n, (f n).2 - (f n).1 ≤ W) (n : Nat) : (sumI f n).2 - (sumI f n).1 ≤ ((n : Int) + 1) * W := by
  induction n with
  | zero => simp only [sumI]; have := hw 0; simp; omega
  | succ n ih =>
    simp only [sumI, addI]
    have := hw (n + 1)
    have e : (((n + 1 : Nat) : Int) + 1) * W = ((n : Int) + 1) * W + W := by
      have : (((n + 1 : Nat) : Int) + 1) = ((n : Int) + 1) + 1 := by omega
      rw [this, Int.add_mul, Int.one_mul]
    omega
theorem done_wide {f : Nat → Int × Int} {W : Int} {N : Nat} (hw : ∀ n, (f n).2 - (f n).1 ≤ W) (hN : IsStop f N) : (doneI f N).2 - (doneI f N).1 ≤ ((N : Int) + 1) * W + 2 := by
  have h1 := sum_wide hw N
  have h2 := hN.1
  simp only [doneI, addI]; omega

/-- What is left out is no farther from 0 than the last one. -/
theorem S_rest {g : Nat → Rat} {N : Nat} {b : Rat} (hb : AB (g N) b) (hh : ∀ n c, N ≤ n → AB (g n) c → AB (g (n + 1)) (c / 2)) (i : Nat) : AB (g (N + i)) (b * q2 i) ∧ AB (S g (N + 1 + i) - S g (N + 1)) (b * (1 - q2 i)) := by
  induction i with
  | zero => simp only [Nat.add_zero, q2]; exact ⟨hb.mono (by grind), by constructor <;> grind⟩
  | succ i ih =>
    obtain ⟨h1, h2⟩ := ih
    have h3 := hh (N + i) _ (by omega) h1
    have e1 : q2 (i + 1) = q2 i / 2 := rfl
    have e2 : S g (N + 1 + (i + 1)) = S g (N + 1 + i) + g (N + 1 + i) := rfl
    have e3 : N + 1 + i = N + (i + 1) := by omega
    refine ⟨h3.mono (by rw [e1]; grind), ?_⟩
    rw [e2, e1]
    have h4 := h2.add h3
    rw [show N + i + 1 = N + 1 + i by omega] at h4
    have e4 : S g (N + 1 + i) - S g (N + 1) + g (N + 1 + i) = S g (N + 1 + i) + g (N + 1 + i) - S g (N + 1) := by grind
    rw [e4] at h4
    exact h4.mono (by grind)
theorem done_has {B N : Nat} {f : Nat → Int × Int} {g : Nat → Nat → Rat} (hle : ∀ n, (f n).1 ≤ (f n).2) (h : ∀ n, n ≤ N → Iv B (f n) (fun M => g n M)) (M0 : Nat) (hh : ∀ M, M0 ≤ M → ∀ n b, N ≤ n → AB (g n M) b → AB (g (n + 1) M) (b / 2)) : Iv B (doneI f N) (fun M => S (fun k => g k M) M) := by
  have h1 : ∀ n, n ≤ N → Iv B (sumI f n) (fun M => S (fun k => g k M) (n + 1)) := fun n hn => by
    induction n with
    | zero => exact Has.of_eq (h 0 (by omega)) fun M => by simp only [S]; grind
    | succ n ih => exact Has.of_eq ((ih (by omega)).add (h (n + 1) hn)) fun M => by simp only [S]
  have h2 := h1 N (Nat.le_refl _)
  have h3 : Iv B (-reachI (f N), reachI (f N)) (fun M => S (fun k => g k M) M - S (fun k => g k M) (N + 1)) := by
    have hr := reach_abs (hle N)
    have q := Qr_pos B
    have k1 := h N (Nat.le_refl _)
    intro e he
    obtain ⟨N1, k2⟩ := k1 e he
    refine ⟨N1 + M0 + N + 1, fun M hM => ?_⟩
    obtain ⟨a1, a2⟩ := k2 M (by omega)
    have l1 : ((-reachI (f N) : Int) : Rat) / (Q B : Rat) ≤ ((f N).1 : Rat) / (Q B : Rat) := rdiv_le q (by rw [rdm q]; exact cast_le hr.1)
    have l2 : ((f N).2 : Rat) / (Q B : Rat) ≤ ((reachI (f N) : Int) : Rat) / (Q B : Rat) := rdiv_le q (by rw [rdm q]; exact cast_le hr.2.2.2)
    have l3 : ((-reachI (f N) : Int) : Rat) / (Q B : Rat) = -(((reachI (f N) : Int) : Rat) / (Q B : Rat)) := by
      rw [Rat.intCast_neg, Rat.div_def, Rat.div_def, Rat.neg_mul]
    have hb : AB (g N M) (((reachI (f N) : Int) : Rat) / (Q B : Rat) + e) := by constructor <;> grind
    obtain ⟨i, rfl⟩ : ∃ i, M = N + 1 + i := ⟨M - (N + 1), by omega⟩
    have s := (S_rest (g := fun k => g k (N + 1 + i)) hb (fun n c hn hc => hh _ (by omega) n c hn hc) i).2
    have p := q2_pos i
    have nn := hb.nonneg
    have s' := s.mono (b := ((reachI (f N) : Int) : Rat) / (Q B : Rat) + e) (by
      have := Rat.mul_nonneg nn (Rat.le_of_lt p)
      grind)
    obtain ⟨s1, s2⟩ := s'
    simp only []
    rw [l3]
    constructor <;> grind
  exact Has.of_eq (h2.add h3) fun M => by grind

/-- The numbers that make up a power of e. -/
def expT (B : Nat) (sm : Int × Int) : Nat → Int × Int
  | 0 => (Q B, Q B)
  | n + 1 => scaleI (mulI B (expT B sm n) sm) 1 ((n : Int) + 1)
theorem expT_le (B : Nat) (sm : Int × Int) (n : Nat) : (expT B sm n).1 ≤ (expT B sm n).2 := by
  cases n with
  | zero => exact Int.le_refl _
  | succ n => exact scaleI_le (mulI_le B) (by omega) (by omega)
theorem expT_abs {B : Nat} {sm : Int × Int} (hB : 8 ≤ B) (hs : Abs sm (Q (B - 8))) (n : Nat) : Abs (expT B sm n) (Q (B - 8 * n)) := by
  induction n with
  | zero => have := Q_pos B; exact ⟨by simp [expT]; omega, by simp [expT], by simp [expT]; omega, by simp [expT]⟩
  | succ n ih => exact scaleI_abs (mulI_abs ih hs (Q_step hB n)) (by omega) (by omega) (by omega)
theorem Q_eight {B : Nat} (hB : 8 ≤ B) : Q B = 256 * Q (B - 8) := by
  have := Q_add 8 (B - 8)
  rw [show 8 + (B - 8) = B by omega] at this
  rw [this]; rfl
theorem expT_wide {B : Nat} {sm : Int × Int} {ws : Int} (hB : 8 ≤ B) (hs : Abs sm (Q (B - 8))) (hsl : sm.1 ≤ sm.2) (hw : sm.2 - sm.1 ≤ ws) (n : Nat) : (expT B sm n).2 - (expT B sm n).1 ≤ 2 * ws + 4 := by
  induction n with
  | zero => simp only [expT]; omega
  | succ n ih =>
    have q := Q_pos (B - 8)
    have e := Q_eight hB
    have m1 : Q (B - 8 * n) ≤ Q B := Q_mono (by omega)
    have p1 := Int.mul_le_mul m1 hw (by omega) (by omega)
    have p2 := Int.mul_le_mul_of_nonneg_left ih (show 0 ≤ Q (B - 8) by omega)
    have hc : Q (B - 8 * n) * (sm.2 - sm.1) + Q (B - 8) * ((expT B sm n).2 - (expT B sm n).1) ≤ (ws + (2 * ws + 4 + 255) / 256) * Q B := by
      have e2 : (ws + (2 * ws + 4 + 255) / 256) * Q B = Q B * ws + Q (B - 8) * (256 * ((2 * ws + 4 + 255) / 256)) := by
        rw [Int.add_mul, Int.mul_comm ws]; congr 1; rw [e]; grind
      rw [e2]
      have := Int.mul_le_mul_of_nonneg_left (show 2 * ws + 4 ≤ 256 * ((2 * ws + 4 + 255) / 256) by omega) (show 0 ≤ Q (B - 8) by omega)
      omega
    have h1 := mulI_wide (expT_abs hB hs n) hs (expT_le B sm n) hsl hc
    have hn : (0 : Int) < (n : Int) + 1 := by omega
    have hp := Int.mul_nonneg (show 0 ≤ ws + (2 * ws + 4 + 255) / 256 + 1 by omega) (show 0 ≤ (n : Int) by omega)
    have h2 := scaleI_wide (a := mulI B (expT B sm n) sm) (n := 1) (d := (n : Int) + 1) (c := ws + (2 * ws + 4 + 255) / 256 + 1) hn (by
      rw [Int.mul_one, Int.mul_add, Int.mul_one]; omega)
    simp only [expT]
    omega
theorem expT_has {B : Nat} {sm : Int × Int} {x : Nat → Rat} (h : Iv B sm x) (n : Nat) : Iv B (expT B sm n) (fun M => tm (x M) n) := by
  induction n with
  | zero =>
    have q := Qr_pos B
    have e : (Q B : Rat) / (Q B : Rat) = 1 := by rw [Rat.div_def, Rat.mul_inv_cancel _ (by grind)]
    show Has ((Q B : Rat) / (Q B : Rat)) ((Q B : Rat) / (Q B : Rat)) _
    rw [e]
    exact Has.const (c := 1) Rat.le_refl Rat.le_refl
  | succ n ih =>
    have := (ih.mul h).scale (n := 1) (d := (n : Int) + 1) (by omega) (by omega)
    refine Has.of_eq this fun M => ?_
    have e : (((n : Int) + 1 : Int) : Rat) = (n : Rat) + 1 := by rw [Rat.intCast_add]; rfl
    rw [e]
    simp only [tm]
    have hp := pos1 n
    rw [Rat.div_def, Rat.div_def]
    simp
    grind
theorem tm_half {x b : Rat} (hx : AB x (1 / 2)) (n : Nat) (h : AB (tm x n) b) : AB (tm x (n + 1)) (b / 2) := by
  have e := tm_succ x n
  have hp := pos1 n
  have g := hx.mul h
  rw [← e] at g
  have e3 : tm x (n + 1) = ((n : Rat) + 1) * tm x (n + 1) / ((n : Rat) + 1) := by grind
  rw [e3]
  refine rdiv_AB hp (g.mono ?_)
  have hn : (0 : Rat) ≤ (n : Rat) := by exact_mod_cast Nat.zero_le n
  have := Rat.mul_nonneg hn h.nonneg
  grind
theorem Iv.little {B : Nat} {a : Int × Int} {x : Nat → Rat} (h : Iv B a x) {m : Int} (ha : Abs a m) (hm : 4 * m ≤ Q B) : ∃ N, ∀ M, N ≤ M → AB (x M) (1 / 2) := by
  have q := Qr_pos B
  obtain ⟨N, h1⟩ := h (1 / 4) (by grind)
  refine ⟨N, fun M hM => ?_⟩
  have := h1 M hM
  have l1 : -(1 / 4 : Rat) ≤ (a.1 : Rat) / (Q B : Rat) := rle_div q (by
    have : ((-(Q B) : Int) : Rat) ≤ ((4 * a.1 : Int) : Rat) := cast_le (by have := ha.1; omega)
    rw [Rat.intCast_neg, Rat.intCast_mul] at this
    have e4 : ((4 : Int) : Rat) = 4 := rfl
    rw [e4] at this
    grind)
  have l2 : (a.2 : Rat) / (Q B : Rat) ≤ (1 / 4 : Rat) := rdiv_le q (by
    have : ((4 * a.2 : Int) : Rat) ≤ ((Q B : Int) : Rat) := cast_le (by have := ha.2.2.2; omega)
    rw [Rat.intCast_mul] at this
    have e4 : ((4 : Int) : Rat) = 4 := rfl
    rw [e4] at this
    grind)
  constructor <;> grind
/-- The sum is a power of e. -/
theorem expSum_has {B N : Nat} {sm : Int × Int} {x : Nat → Rat} (hB : 8 ≤ B) (h : Iv B sm x) (hs : Abs sm (Q (B - 8))) : Iv B (doneI (expT B sm) N) (Ev x) := by
  obtain ⟨M0, h0⟩ := h.little hs (by have := Q_eight hB; have := Q_pos (B - 8); omega)
  exact done_has (expT_le B sm) (fun n _ => expT_has h n) M0 (fun M hM n b _ hb => tm_half (h0 M hM) n hb)
/-- Squares. -/
def sqv (y : Nat → Rat) : Nat → Nat → Rat
  | 0 => y
  | t + 1 => fun M => sqv y t M * sqv y t M
theorem sqI_has {B : Nat} {a : Int × Int} {y : Nat → Rat} (h : Iv B a y) (t : Nat) : Iv B (sqI B a t) (sqv y t) := by
  induction t with
  | zero => exact h
  | succ t ih => exact ih.mul ih
theorem sqv_null {x : Nat → Rat} (h : Bdd x) (t : Nat) : Null (fun M => sqv (Ev x) t M - Ev (fun M => (Q t : Rat) * x M) M) := by
  have hb : ∀ t, Bdd (fun M => (Q t : Rat) * x M) := fun t => (Bdd.const _).mul h
  induction t with
  | zero =>
    have e : (fun M => (Q 0 : Rat) * x M) = x := funext fun M => by simp [Q]
    rw [e]
    exact null_zero.of_eq fun M => by simp only [sqv]; grind
  | succ t ih =>
    have b1 := Ev_bdd (hb t)
    have b2 : Bdd (sqv (Ev x) t) := b1.of_null (ih.neg.of_eq fun M => by grind)
    have n1 := ih.bmul (b1.add b2)
    have n2 := Ev_add (hb t) (hb t)
    have e : (fun M => (Q t : Rat) * x M + (Q t : Rat) * x M) = fun M => (Q (t + 1) : Rat) * x M := funext fun M => by
      have : (Q (t + 1) : Rat) = 2 * (Q t : Rat) := by
        have : Q (t + 1) = 2 * Q t := rfl
        rw [this, Rat.intCast_mul]; rfl
      rw [this]; grind
    rw [e] at n2
    refine (n1.add n2).of_eq fun M => ?_
    simp only [sqv]
    grind
/-- What wide.Exp makes has the power of e. -/
theorem exp_has {B N t : Nat} {a : Int × Int} {x : Nat → Rat} (hB : 8 ≤ B) (h : Iv B a x) (hs : Abs (downI a t) (Q (B - 8))) : Iv B (sqI B (doneI (expT B (downI a t)) N) t) (Ev x) := by
  have hx := Has.bdd h
  have h1 := sqI_has (expSum_has (N := N) hB (h.down t) hs) t
  have hb : Bdd (fun M => x M / (Q t : Rat)) := Has.bdd (h.down t)
  have n1 := sqv_null hb t
  have q := Qr_pos t
  have e : (fun M => (Q t : Rat) * (x M / (Q t : Rat))) = x := funext fun M => by
    rw [Rat.mul_comm]; exact rdm q
  rw [e] at n1
  exact h1.congr (n1.neg.of_eq fun M => by grind)
end Go.Proofs.YtgmnknmjainababGreat

namespace Go.Proofs.YtgmnknmjainababGreat
set_option linter.unusedVariables false
open Ex

/-- How many bits more some squares take, at most. -/
def eb (i : Nat) : Nat := if i ≤ 10 then 12 else 12 * 2 ^ (i - 10)
def cI : Nat → Int
  | 0 => 66048
  | i + 1 => cI i * cI i / 65536 + 1
theorem Q_16 {B : Nat} (hB : 16 ≤ B) : Q B = 65536 * Q (B - 16) ∧ Q (B - 8) = 256 * Q (B - 16) := by
  have h1 := Q_add 16 (B - 16)
  have h2 := Q_add 8 (B - 16)
  rw [show 16 + (B - 16) = B by omega] at h1
  rw [show 8 + (B - 16) = B - 8 by omega] at h2
  exact ⟨by rw [h1]; rfl, by rw [h2]; rfl⟩
theorem sq_abs0 {B : Nat} {d : Int × Int} (hB : 16 ≤ B) (h : Abs d (Q B + 2 * Q (B - 8))) (i : Nat) : Abs (sqI B d i) (cI i * Q (B - 16)) := by
  obtain ⟨e1, e2⟩ := Q_16 hB
  induction i with
  | zero => exact h.mono (by simp only [cI]; omega)
  | succ i ih =>
    refine mulI_abs ih ih ?_
    rw [e1]
    have q := Q_pos (B - 16)
    have h1 : cI i * cI i ≤ cI (i + 1) * 65536 := by simp only [cI]; omega
    have h2 := Int.mul_nonneg (show 0 ≤ Q (B - 16) by omega) (show 0 ≤ Q (B - 16) by omega)
    have h3 := Int.mul_le_mul_of_nonneg_right h1 h2
    generalize Q (B - 16) = r at *
    have e3 : cI i * r * (cI i * r) = cI i * cI i * (r * r) := by grind
    have e4 : cI (i + 1) * r * (65536 * r) = cI (i + 1) * 65536 * (r * r) := by grind
    rw [e3, e4]; exact h3
theorem cI_le : ∀ i, i < 11 → cI i ≤ 268435456 := by decide
theorem sq_abs {B : Nat} {d : Int × Int} (hB : 16 ≤ B) (h : Abs d (Q B + 2 * Q (B - 8))) (i : Nat) : Abs (sqI B d i) (Q (B + eb i)) := by
  by_cases hi : i ≤ 10
  · refine (sq_abs0 hB h i).mono ?_
    have e : eb i = 12 := by simp [eb, hi]
    have e2 : Q (B + 12) = 268435456 * Q (B - 16) := by
      have := Q_add 28 (B - 16)
      rw [show 28 + (B - 16) = B + 12 by omega] at this
      rw [this]; rfl
    rw [e, e2]
    exact Int.mul_le_mul_of_nonneg_right (cI_le i (by omega)) (by have := Q_pos (B - 16); omega)
  · obtain ⟨j, rfl⟩ : ∃ j, i = 10 + j := ⟨i - 10, by omega⟩
    clear hi
    have key : Abs (sqI B d (10 + j)) (Q (B + 12 * 2 ^ j)) := by
      induction j with
      | zero =>
        refine (sq_abs0 hB h 10).mono ?_
        have e2 : Q (B + 12 * 2 ^ 0) = 268435456 * Q (B - 16) := by
          have := Q_add 28 (B - 16)
          rw [show 28 + (B - 16) = B + 12 * 2 ^ 0 by omega] at this
          rw [this]; rfl
        rw [e2]
        exact Int.mul_le_mul_of_nonneg_right (cI_le 10 (by omega)) (by have := Q_pos (B - 16); omega)
      | succ j ih =>
        refine mulI_abs ih ih ?_
        rw [← Q_add, ← Q_add]
        refine Q_mono ?_
        rw [Nat.pow_succ]; omega
    by_cases hj : j = 0
    · subst hj; exact key
    · have : eb (10 + j) = 12 * 2 ^ j := by
        unfold eb; rw [if_neg (by omega)]; congr 2; omega
      rw [this]; exact key
/-- How many bits wider. -/
def wb : Nat → Nat
  | 0 => 0
  | i + 1 => wb i + eb i + 2
theorem sq_wide {B : Nat} {d : Int × Int} (hB : 16 ≤ B) (h : Abs d (Q B + 2 * Q (B - 8))) (hd : d.1 ≤ d.2) (i : Nat) : (sqI B d i).1 ≤ (sqI B d i).2 ∧ (sqI B d i).2 - (sqI B d i).1 + 1 ≤ (d.2 - d.1 + 1) * Q (wb i) := by
  induction i with
  | zero => simp only [sqI, wb, Q]; omega
  | succ i ih =>
    obtain ⟨h1, h2⟩ := ih
    refine ⟨mulI_le B, ?_⟩
    have ha := sq_abs hB h i
    obtain ⟨W, hW⟩ : ∃ W, W = (sqI B d i).2 - (sqI B d i).1 := ⟨_, rfl⟩
    rw [← hW] at h2
    have h3 := mulI_wide (B := B) (c := 2 * Q (eb i) * W) ha ha h1 h1 (by
      rw [← hW, Q_add]
      generalize Q B = q
      generalize Q (eb i) = r
      have : q * r * W + q * r * W = 2 * r * W * q := by grind
      omega)
    have e : Q (wb (i + 1)) = Q (wb i) * (4 * Q (eb i)) := by
      have : wb (i + 1) = wb i + (eb i + 2) := by simp only [wb]; omega
      rw [this, Q_add]
      congr 1
      have := Q_add (eb i) 2
      rw [this, Int.mul_comm]; rfl
    rw [e]
    have q1 := Q_pos (eb i)
    have p := Int.mul_le_mul_of_nonneg_right h2 (show 0 ≤ 4 * Q (eb i) by omega)
    rw [← Int.mul_assoc]
    refine Int.le_trans ?_ p
    have w0 : 0 ≤ W := by omega
    have p2 := Int.mul_nonneg w0 (show 0 ≤ Q (eb i) by omega)
    show (mulI B (sqI B d i) (sqI B d i)).2 - (mulI B (sqI B d i) (sqI B d i)).1 + 1 ≤ _
    have e5 : (W + 1) * (4 * Q (eb i)) = 4 * (W * Q (eb i)) + 4 * Q (eb i) := by grind
    have e6 : 2 * Q (eb i) * W = 2 * (W * Q (eb i)) := by grind
    rw [e5]; rw [e6] at h3
    omega
theorem eb_mono {i j : Nat} (h : i ≤ j) : eb i ≤ eb j := by
  unfold eb
  split
  · split
    · omega
    · have := Nat.pow_le_pow_right (show 0 < 2 by omega) (show 0 ≤ j - 10 by omega); simp at this; omega
  · split
    · omega
    · have := Nat.pow_le_pow_right (show 0 < 2 by omega) (show i - 10 ≤ j - 10 by omega); omega
theorem wb_mono {i j : Nat} (h : i ≤ j) : wb i ≤ wb j := by
  obtain ⟨d, rfl⟩ : ∃ d, j = i + d := ⟨j - i, by omega⟩
  clear h
  induction d with
  | zero => exact Nat.le_refl _
  | succ d ih => show wb i ≤ wb (i + d) + eb (i + d) + 2; omega
/-- What wide.Exp makes: how far from 0, how wide. -/
theorem exp_bound {B N t : Nat} {a : Int × Int} {ws : Int} (hB : 16 ≤ B) (hs : Abs (downI a t) (Q (B - 8))) (ha : a.1 ≤ a.2) (hw : a.2 - a.1 ≤ ws * Q t) (hN : IsStop (expT B (downI a t)) N) :
    (sqI B (doneI (expT B (downI a t)) N) t).1 ≤ (sqI B (doneI (expT B (downI a t)) N) t).2 ∧ Abs (sqI B (doneI (expT B (downI a t)) N) t) (Q (B + eb t)) ∧ N ≤ B / 8 + 1 ∧
    (sqI B (doneI (expT B (downI a t)) N) t).2 - (sqI B (doneI (expT B (downI a t)) N) t).1 ≤ (((N : Int) + 1) * (2 * ws + 6) + 3) * Q (wb t) := by
  have q := Q_pos t
  have hsl : (downI a t).1 ≤ (downI a t).2 := by
    have := scaleI_le (a := a) (n := 1) (d := Q t) ha (by omega) (by omega)
    simpa [scaleI, downI] using this
  have hsw : (downI a t).2 - (downI a t).1 ≤ ws + 1 := div_wide (by omega) hw
  have hT := expT_abs (by omega) hs
  have h1N : 1 ≤ N := by
    refine Nat.pos_of_ne_zero fun e => ?_
    have := hN.1
    rw [e] at this
    have h2 : reachI (expT B (downI a t) 0) = Q B := by
      show maxZ (Q B) (-Q B) = Q B
      have := Q_pos B
      unfold maxZ; rw [if_neg (by omega)]
    rw [h2] at this
    have := Q_mono hB
    have : Q 16 = 65536 := rfl
    omega
  have hd := done_abs1 (s := 8) (by omega) (expT_le B (downI a t)) hT hN h1N
  have hdl := done_le (expT_le B (downI a t)) N
  have hdw := done_wide (expT_wide (by omega) hs hsl hsw) hN
  obtain ⟨g1, g2⟩ := sq_wide hB hd hdl t
  have hle : N ≤ B / 8 + 1 := by
    obtain ⟨N', n1, n2⟩ := stop_ex (s := 8) (by omega) hT
    refine Nat.le_trans (Nat.not_lt.1 fun hlt => ?_) n1
    have := hN.2 N' hlt
    have := n2.1
    omega
  refine ⟨g1, sq_abs hB hd t, hle, ?_⟩
  have q2 := Q_pos (wb t)
  have e : 2 * (ws + 1) + 4 = 2 * ws + 6 := by omega
  rw [e] at hdw
  have := Int.mul_le_mul_of_nonneg_right (show (doneI (expT B (downI a t)) N).2 - (doneI (expT B (downI a t)) N).1 + 1 ≤ ((N : Int) + 1) * (2 * ws + 6) + 3 by omega) (show 0 ≤ Q (wb t) by omega)
  omega
end Go.Proofs.YtgmnknmjainababGreat

namespace Go.Proofs.YtgmnknmjainababGreat
set_option linter.unusedVariables false
set_option linter.unusedSimpArgs false
set_option linter.unnecessarySimpa false
open Go.RowKit
attribute [local go_sem ↓] Go.wp_at_zero Go.wp_at_succ

theorem downZ_nat (x : Int) (b : Nat) : downZ x (b : Int) = x / Q b := by unfold downZ; rw [if_pos (by omega)]; simp
theorem mul_iv (w : World) (s t : Sp) (k b : Nat) (a c : Int × Int) (hs : SpAt w s k a.1 a.2) (ht : SpAt w t k c.1 c.2) (hk : k ≤ 300000000) (hb : s.bits = (b : Int)) (hbm : b ≤ 1000000) :
    Calls Tryz.prog 162 #[.agg #[.bool s.ln, .slice s.la s.lN s.lc, .bool s.hn, .slice s.ha s.hN s.hc, .int .i64 s.bits], .agg #[.bool t.ln, .slice t.la t.lN t.lc, .bool t.hn, .slice t.ha t.hN t.hc, .int .i64 t.bits]] w (SpanAns w b (k + k + 8) (mulI b a c).1 (mulI b a c).2) :=
  (wideMul_int w s t k a.1 a.2 c.1 c.2 hs ht hk (by omega) (by omega)).mono fun r w' h => by
    rw [hb, downZ_nat, downZ_nat] at h; exact h
theorem add_iv (w : World) (s t : Sp) (k b : Nat) (a c : Int × Int) (hs : SpAt w s k a.1 a.2) (ht : SpAt w t k c.1 c.2) (hk : k ≤ 700000000) (hb : s.bits = (b : Int)) :
    Calls Tryz.prog 113 #[.agg #[.bool s.ln, .slice s.la s.lN s.lc, .bool s.hn, .slice s.ha s.hN s.hc, .int .i64 s.bits], .agg #[.bool t.ln, .slice t.la t.lN t.lc, .bool t.hn, .slice t.ha t.hN t.hc, .int .i64 t.bits]] w (SpanAns w b (k + 1) (addI a c).1 (addI a c).2) :=
  (wideAdd_int w s t k a.1 a.2 c.1 c.2 hs ht hk).mono fun r w' h => by rw [hb] at h; exact h
theorem sub_iv (w : World) (s t : Sp) (k b : Nat) (a c : Int × Int) (hs : SpAt w s k a.1 a.2) (ht : SpAt w t k c.1 c.2) (hk : k ≤ 600000000) (hb : s.bits = (b : Int)) :
    Calls Tryz.prog 118 #[.agg #[.bool s.ln, .slice s.la s.lN s.lc, .bool s.hn, .slice s.ha s.hN s.hc, .int .i64 s.bits], .agg #[.bool t.ln, .slice t.la t.lN t.lc, .bool t.hn, .slice t.ha t.hN t.hc, .int .i64 t.bits]] w (SpanAns w b (k + 1) (subI a c).1 (subI a c).2) :=
  (wideSub_int w s t k a.1 a.2 c.1 c.2 hs ht hk).mono fun r w' h => by rw [hb] at h; exact h
theorem over_iv (w : World) (s : Sp) (k b : Nat) (d : Int) (a : Int × Int) (hs : SpAt w s k a.1 a.2) (hk : k ≤ 300000000) (hb : s.bits = (b : Int)) (hd : 0 < d) (hd2 : d ≤ 9223372036854775807) :
    Calls Tryz.prog 98 #[.agg #[.bool s.ln, .slice s.la s.lN s.lc, .bool s.hn, .slice s.ha s.hN s.hc, .int .i64 s.bits], .int .i64 d] w (SpanAns w b (k + 14) (scaleI a 1 d).1 (scaleI a 1 d).2) :=
  (over1_int w s k d a.1 a.2 hs hk hd hd2).mono fun r w' h => by rw [hb] at h; exact h
theorem times_iv (w : World) (s : Sp) (k b : Nat) (d : Int) (a : Int × Int) (hs : SpAt w s k a.1 a.2) (hk : k ≤ 300000000) (hb : s.bits = (b : Int)) (hd : -9223372036854775808 ≤ d) (hd2 : d ≤ 9223372036854775807) :
    Calls Tryz.prog 161 #[.agg #[.bool s.ln, .slice s.la s.lN s.lc, .bool s.hn, .slice s.ha s.hN s.hc, .int .i64 s.bits], .int .i64 d] w (SpanAns w b (k + 4) (timesI a d).1 (timesI a d).2) :=
  (times_int w s k d a.1 a.2 hs hk hd hd2).mono fun r w' h => by rw [hb] at h; exact h

set_option maxRecDepth 100000 in
set_option maxHeartbeats 2000000 in
theorem exp1_iv (w : World) (B0 : Nat) (s u : Sp) (k b : Nat) (n : Int) (a c : Int × Int) (hs : SpAt w s k a.1 a.2) (hu : SpAt w u k c.1 c.2) (hU : SpC w B0 u) (hk : k ≤ 100000000) (hb : s.bits = (b : Int)) (hbm : b ≤ 1000000) (hn : 0 < n) (hn2 : n ≤ 9223372036854775807) :
    Calls Tryz.prog 183 #[.agg #[.bool s.ln, .slice s.la s.lN s.lc, .bool s.hn, .slice s.ha s.hN s.hc, .int .i64 s.bits], .int .i64 n, .pointer (some ⟨B0, 0, none⟩)] w (SpanAns w b (k + k + 22) (scaleI (mulI b a c) 1 n).1 (scaleI (mulI b a c) 1 n).2) := by
  obtain ⟨W, hW⟩ : ∃ W, W = (w.alloc (.cells #[.bool s.ln, .slice s.la s.lN s.lc, .bool s.hn, .slice s.ha s.hN s.hc, .int .i64 s.bits] 28)).alloc (.cells #[.bool false, .slice none 0 0, .bool false, .slice none 0 0, .int .i64 0] 28) := ⟨_, rfl⟩
  have hBW : Below w.heap.size w W := by rw [hW]; exact bl2 _ _ _
  have A : SpC W w.heap.size s := by rw [hW]; exact ⟨by simp [go_sem], by simp [go_sem], by simp [go_sem], by simp [go_sem], by simp [go_sem]⟩
  have R : NoC W (w.heap.size + 1) := by rw [hW]; exact ⟨by simp [go_sem], by simp [go_sem], by simp [go_sem], by simp [go_sem], by simp [go_sem], fun o => by simp [go_sem]⟩
  have HS := hide (hs.below hBW)
  have HU := hide (hu.below hBW)
  have l0 := hU.lt
  obtain ⟨y0, y1, y2, y3, y4⟩ := hU
  have HB := hide hb
  clear hs hu hb A
  go_enter Tryz.func183, Tryz.ntmps183
  go_wp2_with fail
  rw [← hW]
  clear hW
  refine (mul_iv _ s u k b a c (unhide HS) (unhide HU) (by omega) (unhide HB) hbm).mono ?_
  rintro r' w1 ⟨v, rfl, hvb, hvp, hb1⟩
  have HV := hide hvb
  clear hvb y0 y1 y2 y3 y4
  replace R := R.below hb1
  replace hBW := bthen hBW hb1
  go_wp2_with fail
  refine (over_iv _ v _ b n _ hvp (by omega) (unhide HV) hn hn2).mono ?_
  rintro r' w2 ⟨t, rfl, htb, htp, hb2⟩
  obtain ⟨q0, q1, q2, q3, q4, q5⟩ := R.below hb2
  replace hBW := bthen hBW hb2
  have HT := hide htb
  clear htb
  go_wp2_with fail
  refine bodyPost_ret (v := .agg #[.bool t.ln, .slice t.la t.lN t.lc, .bool t.hn, .slice t.ha t.hN t.hc, .int .i64 t.bits]) (by simp [results, Tryz.results183, go_sem, q0, q1, q2, q3, q4]) rfl ⟨t, rfl, unhide HT, ?_, ?_⟩
  · exact SpAt.put5 (htp.mono (by omega)) q0 q1 q2 q3 q4 _ _ _ _ _
  · exact set5 hBW (Nat.le_succ _) _ _ _ _ _
end Go.Proofs.YtgmnknmjainababGreat

namespace Go.Proofs.YtgmnknmjainababGreat
set_option linter.unusedVariables false
set_option linter.unusedSimpArgs false
set_option linter.unnecessarySimpa false
open Go.RowKit
attribute [local go_sem ↓] Go.wp_at_zero Go.wp_at_succ

/-- A span in a block that may be written. -/
structure VrC (w : World) (B : Nat) (s : Sp) : Prop where
  c : SpC w B s
  fz : ∀ o, w.frozen? ⟨B, o, none⟩ = false
theorem VrC.lt {w : World} {B : Nat} {s : Sp} (h : VrC w B s) : B < w.heap.size := h.c.lt
theorem VrC.below {w w' : World} {B : Nat} {s : Sp} (h : VrC w B s) (hb : Below w.heap.size w w') : VrC w' B s :=
  ⟨h.c.below hb, fun o => (hb.frozen (p := ⟨B, o, none⟩) h.lt).trans (h.fz o)⟩
abbrev put5w (w : World) (B : Nat) (u : Sp) : World := ((((w.setCell ⟨B, 0, none⟩ (.bool u.ln)).setCell ⟨B, 1, none⟩ (.slice u.la u.lN u.lc)).setCell ⟨B, 2, none⟩ (.bool u.hn)).setCell ⟨B, 3, none⟩ (.slice u.ha u.hN u.hc)).setCell ⟨B, 4, none⟩ (.int .i64 u.bits)
theorem fz_put5 {w : World} {B B' : Nat} (h : ∀ o, w.frozen? ⟨B, o, none⟩ = false) (u : Sp) : ∀ o, (put5w w B' u).frozen? ⟨B, o, none⟩ = false := fun o => by
  show (put5w w B' u).frozen? ⟨B, o, none⟩ = false
  unfold put5w
  rw [frozen_set', frozen_set', frozen_set', frozen_set', frozen_set']; exact h o
/-- Written, it holds what was written. -/
theorem VrC.put {w : World} {B : Nat} {s : Sp} (h : VrC w B s) (u : Sp) : VrC (put5w w B u) B u := by
  refine ⟨?_, fz_put5 h.fz u⟩
  obtain ⟨⟨q0, q1, q2, q3, q4⟩, q5⟩ := h
  constructor <;> simp [go_sem, q0, q1, q2, q3, q4]
theorem SpC.off {w : World} {B B' : Nat} {s : Sp} (h : SpC w B s) (hne : B ≠ B') (u : Sp) : SpC (put5w w B' u) B s := h.put hne _ _ _ _ _
theorem VrC.off {w : World} {B B' : Nat} {s : Sp} (h : VrC w B s) (hne : B ≠ B') (u : Sp) : VrC (put5w w B' u) B s := ⟨h.c.off hne u, fz_put5 h.fz u⟩
theorem NoC.off {w : World} {B B' : Nat} (h : NoC w B) (hne : B ≠ B') (u : Sp) : NoC (put5w w B' u) B := by
  obtain ⟨q0, q1, q2, q3, q4, q5⟩ := h
  exact ⟨cell_put5 q0 hne _ _ _ _ _, cell_put5 q1 hne _ _ _ _ _, cell_put5 q2 hne _ _ _ _ _, cell_put5 q3 hne _ _ _ _ _, cell_put5 q4 hne _ _ _ _ _, fz_put5 q5 u⟩
theorem SpAt.put {w : World} {s : Sp} {k : Nat} {lo hi : Int} (h : SpAt w s k lo hi) {B : Nat} {z : Sp} (hB : SpC w B z) (u : Sp) : SpAt (put5w w B u) s k lo hi := SpAt.put5 h hB.c0 hB.c1 hB.c2 hB.c3 hB.c4 _ _ _ _ _
theorem IntAt.put {w : World} {neg : Bool} {a : Option Addr} {n cap k : Nat} {z : Int} (h : IntAt w neg a n cap k z) {B : Nat} {y : Sp} (hB : SpC w B y) (u : Sp) : IntAt (put5w w B u) neg a n cap k z := IntAt.put5 h hB.c0 hB.c1 hB.c2 hB.c3 hB.c4 _ _ _ _ _
theorem below_put {B B' : Nat} {a w : World} (h : Below B a w) (hB : B ≤ B') (u : Sp) : Below B a (put5w w B' u) := set5 h hB _ _ _ _ _
theorem size_put (w : World) (B : Nat) (u : Sp) : (put5w w B u).heap.size = w.heap.size := by simp [put5w, World.setCell]

/-- Two variables of spans, made behind world W. -/
def TwoS (W wx : World) (s t : Sp) (p q : Value) : Prop :=
  ∃ B B', p = .pointer (some ⟨B, 0, none⟩) ∧ q = .pointer (some ⟨B', 0, none⟩) ∧ W.heap.size ≤ B ∧ W.heap.size ≤ B' ∧ B ≠ B' ∧ VrC wx B s ∧ VrC wx B' t ∧ Below W.heap.size W wx
theorem twoS_a (V : World) (s t : Sp) (T : TypeId) : TwoS V ((V.alloc (.cells #[.bool s.ln, .slice s.la s.lN s.lc, .bool s.hn, .slice s.ha s.hN s.hc, .int .i64 s.bits] T)).alloc (.cells #[.bool t.ln, .slice t.la t.lN t.lc, .bool t.hn, .slice t.ha t.hN t.hc, .int .i64 t.bits] T)).drew s t (.pointer (some ⟨V.heap.size, 0, none⟩)) (.pointer (some ⟨V.heap.size + 1, 0, none⟩)) := by
  refine ⟨_, _, rfl, rfl, Nat.le_refl _, Nat.le_succ _, Nat.ne_of_lt (Nat.lt_succ_self _), VrC.below (w := (V.alloc (.cells #[.bool s.ln, .slice s.la s.lN s.lc, .bool s.hn, .slice s.ha s.hN s.hc, .int .i64 s.bits] T)).alloc (.cells #[.bool t.ln, .slice t.la t.lN t.lc, .bool t.hn, .slice t.ha t.hN t.hc, .int .i64 t.bits] T)) ⟨⟨by simp [go_sem], by simp [go_sem], by simp [go_sem], by simp [go_sem], by simp [go_sem]⟩, fun o => by simp [go_sem]⟩ (Below.refl _ _).drew, VrC.below (w := (V.alloc (.cells #[.bool s.ln, .slice s.la s.lN s.lc, .bool s.hn, .slice s.ha s.hN s.hc, .int .i64 s.bits] T)).alloc (.cells #[.bool t.ln, .slice t.la t.lN t.lc, .bool t.hn, .slice t.ha t.hN t.hc, .int .i64 t.bits] T)) ⟨⟨by simp [go_sem], by simp [go_sem], by simp [go_sem], by simp [go_sem], by simp [go_sem]⟩, fun o => by simp [go_sem]⟩ (Below.refl _ _).drew, (bl2 _ _ _).drew⟩
theorem twoS_b (V : World) (s t : Sp) (T : TypeId) : TwoS V ((V.alloc (.cells #[.bool t.ln, .slice t.la t.lN t.lc, .bool t.hn, .slice t.ha t.hN t.hc, .int .i64 t.bits] T)).alloc (.cells #[.bool s.ln, .slice s.la s.lN s.lc, .bool s.hn, .slice s.ha s.hN s.hc, .int .i64 s.bits] T)).drew s t (.pointer (some ⟨V.heap.size + 1, 0, none⟩)) (.pointer (some ⟨V.heap.size, 0, none⟩)) := by
  obtain ⟨B, B', h1, h2, h3, h4, h5, h6, h7, h8⟩ := twoS_a V t s T
  exact ⟨B', B, h2, h1, h4, h3, fun e => h5 e.symm, h7, h6, h8⟩
/-- Where wide.sum is behind some rounds. -/
structure SumSt (W wr : World) (B5 B6 b K : Nat) (s X Y : Sp) (f : Nat → Int × Int) (i : Nat) : Prop where
  x : VrC wr B5 X
  y : VrC wr B6 Y
  xp : SpAt wr X K (sumI f i).1 (sumI f i).2
  yp : SpAt wr Y K (f i).1 (f i).2
  xb : X.bits = (b : Int)
  yb : Y.bits = (b : Int)
  fs : SpC wr W.heap.size s
  no : NoC wr (W.heap.size + 1)
  be : Below W.heap.size W wr
  l5 : W.heap.size + 1 < B5
  l6 : W.heap.size + 1 < B6
  ne : B5 ≠ B6
theorem SumSt.below {W wr wr' : World} {B5 B6 b K : Nat} {s X Y : Sp} {f : Nat → Int × Int} {i : Nat} (h : SumSt W wr B5 B6 b K s X Y f i) (hb : Below wr.heap.size wr wr') : SumSt W wr' B5 B6 b K s X Y f i :=
  ⟨h.x.below hb, h.y.below hb, h.xp.below hb, h.yp.below hb, h.xb, h.yb, h.fs.below hb, h.no.below hb, bthen h.be hb, h.l5, h.l6, h.ne⟩

set_option maxRecDepth 100000 in
set_option maxHeartbeats 4000000 in
theorem sum_exp (p1 : Value) (f : Nat → Int × Int) (N b K KF : Nat) (s : Sp) (W : World) (hs : SpAt W s K (f 0).1 (f 0).2) (hbits : s.bits = (b : Int)) (hb : b ≤ 1000000) (hK : K ≤ 100000000) (hKF : KF ≤ 900000000) (hN : IsStop f N) (hNb : N ≤ 1000000000)
    (hle : ∀ n, (f n).1 ≤ (f n).2) (hfit : ∀ n, n ≤ N → -P K < (f n).1 ∧ (f n).2 < P K) (hfitS : ∀ n, n ≤ N → -P K < (sumI f n).1 ∧ (sumI f n).2 < P K)
    (hF : ∀ (n : Nat) (u : Sp) w', n < N → u.bits = (b : Int) → SpAt w' u K (f n).1 (f n).2 → Below W.heap.size W w' → Calls Tryz.prog 183 #[.agg #[.bool u.ln, .slice u.la u.lN u.lc, .bool u.hn, .slice u.ha u.hN u.hc, .int .i64 u.bits], .int .i64 ((n : Int) + 1), p1] w' (SpanAns w' b KF (f (n + 1)).1 (f (n + 1)).2)) :
    Calls Tryz.prog 182 #[.agg #[.bool s.ln, .slice s.la s.lN s.lc, .bool s.hn, .slice s.ha s.hN s.hc, .int .i64 s.bits], .func (.func 183) #[] #[p1]] W (SpanAns W b (K + 3) (doneI f N).1 (doneI f N).2) := by
  have HF := hide hF
  have HN := hide hN
  have HBT := hide hbits
  clear hF hN hbits
  obtain ⟨V, hV⟩ : ∃ V, V = (W.alloc (.cells #[.bool s.ln, .slice s.la s.lN s.lc, .bool s.hn, .slice s.ha s.hN s.hc, .int .i64 s.bits] 28)).alloc (.cells #[.bool false, .slice none 0 0, .bool false, .slice none 0 0, .int .i64 0] 28) := ⟨_, rfl⟩
  have hBV : Below W.heap.size W V := by rw [hV]; exact bl2 _ _ _
  have A : SpC V W.heap.size s := by rw [hV]; exact ⟨by simp [go_sem], by simp [go_sem], by simp [go_sem], by simp [go_sem], by simp [go_sem]⟩
  have R : NoC V (W.heap.size + 1) := by rw [hV]; exact ⟨by simp [go_sem], by simp [go_sem], by simp [go_sem], by simp [go_sem], by simp [go_sem], fun o => by simp [go_sem]⟩
  have HS := hide (hs.below hBV)
  have lA := A.lt
  have lR := R.lt
  clear hs
  go_enter Tryz.func182, Tryz.ntmps182
  go_wp2
  rw [← hV]
  clear hV
  go_cut [5, 6] (fun p q wx => TwoS V wx s s p q)
  case first =>
    obtain ⟨x0, x1, x2, x3, x4⟩ := A
    go_region
    all_goals
      go_wp2_with fail
      go_meet
      first
        | with_reducible exact twoS_a _ _ _ _
        | with_reducible exact twoS_b _ _ _ _
  case rest =>
  obtain ⟨B5, B6, rfl, rfl, l5, l6, hne, X, Y, hB⟩ := hcut
  have n5 : W.heap.size + 1 < B5 := by omega
  have n6 : W.heap.size + 1 < B6 := by omega
  have st0 : SumSt W wc B5 B6 b K s s s f 0 := ⟨X, Y, (unhide HS).below hB, (unhide HS).below hB, unhide HBT, unhide HBT, A.below hB, R.below hB, bthen hBV hB, n5, n6, hne⟩
  clear X Y hB A R HS l5 l6 n5 n6 hne hBV lA lR
  go_wp2_with fail
  go_loopw [7] (fun nn wr => ∃ (i : Nat) (X Y : Sp), nn = .int .i64 ((i : Int) + 1) ∧ i ≤ N ∧ SumSt W wr B5 B6 b K s X Y f i) (fun nn _ => N + 1 - (intOf nn).toNat)
  case atStart => exact ⟨0, s, s, rfl, Nat.zero_le _, st0⟩
  case round =>
    obtain ⟨i, X, Y, rfl, hi, st⟩ := hrel
    have hr0 := reach_pair (hle i)
    obtain ⟨⟨y0, y1, y2, y3, y4⟩, y5⟩ := st.y
    go_wp2_with fail
    refine (reach_int _ Y K _ _ st.yp (by omega)).mono ?_
    rintro r w1 ⟨neg1, a1, n1, c1, rfl, hint1, hb1⟩
    replace st := st.below hb1
    clear hb1 y0 y1 y2 y3 y4 y5
    go_wp2_with fail
    refine (len_int _ _ _ _ _ (reachI (f i)) _ hint1 hr0).mono ?_
    rintro r w2 ⟨l, hlen, rfl, hb2⟩
    replace st := st.below hb2
    clear hb2 hint1
    by_cases hin : i < N
    · have hl : 1 < l := by
        refine Int.not_le.1 fun hl => ?_
        have := len_one hlen hl hr0
        have := (unhide HN).2 i hin
        omega
      clear hlen
      obtain ⟨⟨y0, y1, y2, y3, y4⟩, y5⟩ := st.y
      go_wp2_with fail
      refine (unhide HF i Y _ hin st.yb st.yp st.be).mono ?_
      rintro r w3 ⟨u, rfl, hub, hup, hb3⟩
      replace st := st.below hb3
      replace hup := hup.fits (K := K) (hle _) (hfit _ (by omega)).1 (hfit _ (by omega)).2
      have HU := hide hub
      clear hb3 y0 y1 y2 y3 y4 y5 hub
      obtain ⟨V3, hV3⟩ : ∃ V3, V3 = put5w w3 B6 u := ⟨_, rfl⟩
      have X3 : VrC V3 B5 X := by rw [hV3]; exact st.x.off st.ne u
      have Y3 : VrC V3 B6 u := by rw [hV3]; exact st.y.put u
      have P3 : SpAt V3 X K (sumI f i).1 (sumI f i).2 := by rw [hV3]; exact st.xp.put st.y.c u
      have U3 : SpAt V3 u K (f (i + 1)).1 (f (i + 1)).2 := by rw [hV3]; exact hup.put st.y.c u
      have F3 : SpC V3 W.heap.size s := by rw [hV3]; exact st.fs.off (by have := st.l6; omega) u
      have R3 : NoC V3 (W.heap.size + 1) := by rw [hV3]; exact st.no.off (by have := st.l6; omega) u
      have B3 : Below W.heap.size W V3 := by rw [hV3]; exact below_put st.be (by have := st.l6; omega) u
      have xb := hide st.xb
      have l5 := st.l5
      have l6 := st.l6
      have hne := st.ne
      have lY := st.y.lt
      have lX := st.x.lt
      obtain ⟨⟨y0, y1, y2, y3, y4⟩, y5⟩ := st.y
      obtain ⟨⟨x0, x1, x2, x3, x4⟩, x5⟩ := st.x
      clear st hup
      go_wp2_with fail
      have hV3' : V3 = put5w w3 B6 u := hV3
      unfold put5w at hV3'
      rw [← hV3']
      clear hV3' y0 y1 y2 y3 y4 y5 x0 x1 x2 x3 x4 x5
      have lX3 : B5 < V3.heap.size := X3.lt
      refine (add_iv _ X u K b (sumI f i) (f (i + 1)) P3 U3 (by omega) (unhide xb)).mono ?_
      rintro r w4 ⟨v, rfl, hvb, hvp, hb4⟩
      have X4 := X3.below hb4
      have Y4 := Y3.below hb4
      have U4 := U3.below hb4
      have F4 := F3.below hb4
      have R4 := R3.below hb4
      have B4 := bthen B3 hb4
      have e : addI (sumI f i) (f (i + 1)) = sumI f (i + 1) := rfl
      rw [e] at hvp
      replace hvp := hvp.fits (K := K) (sum_le hle _) (hfitS _ (by omega)).1 (hfitS _ (by omega)).2
      have HV := hide hvb
      clear hb4 hvb X3 Y3 P3 U3 F3 R3 B3 hV3
      have stn : SumSt W (put5w w4 B5 v) B5 B6 b K s v u f (i + 1) := ⟨X4.put v, Y4.off (Ne.symm hne) v, hvp.put X4.c v, U4.put X4.c v, unhide HV, unhide HU, F4.off (by omega) v, R4.off (by omega) v, below_put B4 (by omega) v, l5, l6, hne⟩
      unfold put5w at stn
      obtain ⟨⟨x0, x1, x2, x3, x4⟩, x5⟩ := X4
      go_wp2_with fail
      go_roundw
      case rel => exact ⟨i + 1, v, u, by go_num, by omega, stn⟩
      case measure => simp [intOf]; omega
    · have hie : i = N := by omega
      subst hie
      have hl : ¬ 1 < l := by
        have h1 := (unhide HN).1
        intro hl
        obtain ⟨g1, g2, g3⟩ := hlen
        by_cases hp : 0 < reachI (f i)
        · obtain ⟨L, e1, e2, e3⟩ := g3 hp
          have : 1 ≤ L := by omega
          have := Q_mono this
          have : Q 1 = 2 := rfl
          omega
        · have := g2 (by omega); omega
      clear hlen
      obtain ⟨⟨y0, y1, y2, y3, y4⟩, y5⟩ := st.y
      go_wp2_with fail
      refine (reach_int _ Y K _ _ st.yp (by omega)).mono ?_
      rintro r w3 ⟨neg3, a3, n3, c3, rfl, hint3, hb3⟩
      replace st := st.below hb3
      clear hb3 y0 y1 y2 y3 y4 y5
      obtain ⟨V3, hV3⟩ : ∃ V3, V3 = w3.alloc (.cells #[.bool neg3, .slice a3 n3 c3] 26) := ⟨_, rfl⟩
      have bV : Below w3.heap.size w3 V3 := by rw [hV3]; exact bl1 _ _
      have L3 : NmC V3 w3.heap.size ⟨neg3, a3, n3, c3⟩ := by rw [hV3]; exact nmc_new w3 ⟨neg3, a3, n3, c3⟩ _
      have st3 := st.below bV
      have HI := hide (hint3.below bV)
      have l5 := st.l5
      have lX := st.x.lt
      have HKr := hide (show ∀ w', Below V3.heap.size V3 w' → (w'.cell? ⟨B5, 0, none⟩ = some (.bool X.ln) ∧ w'.cell? ⟨B5, 1, none⟩ = some (.slice X.la X.lN X.lc) ∧ w'.cell? ⟨B5, 2, none⟩ = some (.bool X.hn) ∧ w'.cell? ⟨B5, 3, none⟩ = some (.slice X.ha X.hN X.hc) ∧ w'.cell? ⟨B5, 4, none⟩ = some (.int .i64 X.bits) ∧ w'.cell? ⟨w3.heap.size, 0, none⟩ = some (.bool neg3) ∧ w'.cell? ⟨w3.heap.size, 1, none⟩ = some (.slice a3 n3 c3) ∧ w'.cell? ⟨W.heap.size, 4, none⟩ = some (.int .i64 s.bits)) from fun w' hB => ⟨(st3.x.c.below hB).c0, (st3.x.c.below hB).c1, (st3.x.c.below hB).c2, (st3.x.c.below hB).c3, (st3.x.c.below hB).c4, (L3.below hB).c0, (L3.below hB).c1, (st3.fs.below hB).c4⟩)
      have lL := L3.lt
      have R3 := st3.no
      have lR3 := R3.lt
      clear st L3 hint3
      go_wp2_with fail
      rw [← hV3]
      clear hV3
      obtain ⟨x0, x1, x2, x3, x4, x5, x6, x7⟩ := unhide HKr _ (Below.refl _ _)
      have hD0 : Below V3.heap.size V3 V3.drew := (Below.refl _ _).drew
      have nR1 : W.heap.size + 1 ≠ B5 := by omega
      have nR2 : W.heap.size + 1 ≠ w3.heap.size := by omega
      have nR3 : W.heap.size + 1 ≠ W.heap.size := by omega
      go_region_held3 (fun w' => w'.cell? ⟨B5, 0, none⟩ = some (.bool X.ln) ∧ w'.cell? ⟨B5, 1, none⟩ = some (.slice X.la X.lN X.lc) ∧ w'.cell? ⟨B5, 2, none⟩ = some (.bool X.hn) ∧ w'.cell? ⟨B5, 3, none⟩ = some (.slice X.ha X.hN X.hc) ∧ w'.cell? ⟨B5, 4, none⟩ = some (.int .i64 X.bits) ∧ w'.cell? ⟨w3.heap.size, 0, none⟩ = some (.bool neg3) ∧ w'.cell? ⟨w3.heap.size, 1, none⟩ = some (.slice a3 n3 c3) ∧ w'.cell? ⟨W.heap.size, 4, none⟩ = some (.int .i64 s.bits)) (first | exact unhide HKr _ (by first | with_reducible exact hD0 | with_reducible exact hD2 | with_reducible exact hD1) | go_keep)
        (first
          | (go_at_call 113; have hq := hD1; refine (add_iv _ X ⟨neg4, a4, n4, c4, neg3, a3, n3, c3, s.bits⟩ (K + 1) b (sumI f i) (-reachI (f i), reachI (f i)) ((st3.xp.below hD1).mono (by omega)) ⟨hint4, (unhide HI).below hD1⟩ (by omega) st3.xb).mono ?_; rintro r' w5 ⟨v, rfl, hvb, hvp, hb5⟩; have hD2 := bthen hD1 hb5; have HV := hide hvb; clear hvb; obtain ⟨q0, q1, q2, q3, q4, q5⟩ := R3.below hD2; obtain ⟨y0, y1, y2, y3, y4, y5, y6, y7⟩ := unhide HKr _ hD2)
          | (go_at_call 103; refine (neg_int _ _ _ _ (K + 1) (reachI (f i)) _ ((unhide HI).below hD0) (by omega)).mono ?_; rintro r' w4 ⟨neg4, a4, n4, c4, rfl, hint4, hb4⟩; have hD1 := bthen hD0 hb4))
      all_goals
        go_wp2_with fail
        refine bodyPost_ret (v := .agg #[.bool v.ln, .slice v.la v.lN v.lc, .bool v.hn, .slice v.ha v.hN v.hc, .int .i64 v.bits]) (by simp [results, Tryz.results182, go_sem, q0, q1, q2, q3, q4]) rfl ⟨v, rfl, unhide HV, ?_, ?_⟩
        · exact SpAt.put5 (hvp.mono (by omega)) q0 q1 q2 q3 q4 _ _ _ _ _
        · exact set5 (bthen st3.be hD2) (Nat.le_succ _) _ _ _ _ _
end Go.Proofs.YtgmnknmjainababGreat
