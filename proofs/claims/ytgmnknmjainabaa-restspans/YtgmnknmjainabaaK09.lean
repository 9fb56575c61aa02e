/-
  The numbers that a span has, told by sequences of ratios; sums and products of them. Plain arithmetic: no statement of the seat is proved here.
  e to the power of a number that is told by a sequence: of a sum, of little, of more. Plain arithmetic: no statement of the seat is proved here.
  e to the power of the sum of y^k over k is 1 over 1 less y. Plain arithmetic: no statement of the seat is proved here.
  Logarithms of numbers that are told by sequences: of products, roots, quotients. Plain arithmetic: no statement of the seat is proved here.
  Spans by their ends: what is made of them, how wide that is, how far from 0, and which numbers it has. Plain arithmetic: no statement of the seat is proved here.
  Sums whose numbers become less; the numbers that make up a power of e, and that what is made has it. Plain arithmetic: no statement of the seat is proved here.
  How far from 0, and how wide, what is made of a power of e is. Plain arithmetic: no statement of the seat is proved here.
  What wide.sum answers of what the function literal of wide.Exp makes.
  Least and most of quotients of numbers between ends, and roots of whole numbers, down and up: plain arithmetic.
  What wide.Root answers of a right span that has nothing below 0, and that it leaves old memory alone.
  Two variables of numbers in memory that are made in one statement, wherever they came to lie.
  Two variables of spans in memory that are made in one statement, wherever they came to lie.
  Two copies of spans, in two variables.
-/
import Derived.Test.YtgmnknmjainabaaK08
namespace Go.Proofs.Ytgmnknmjainabaa.Ex
set_option linter.unusedVariables false

/-- At last smaller than anything. -/
def Null (f : Nat → Rat) : Prop := ∀ e : Rat, 0 < e → ∃ N : Nat, ∀ M, N ≤ M → AB (f M) e
/-- At last from a to b, but for what is smaller than anything. -/
def Has (a b : Rat) (x : Nat → Rat) : Prop := ∀ e : Rat, 0 < e → ∃ N : Nat, ∀ M, N ≤ M → a - e ≤ x M ∧ x M ≤ b + e
/-- At last bounded. -/
def Bdd (f : Nat → Rat) : Prop := ∃ K N, 0 ≤ K ∧ ∀ M : Nat, N ≤ M → AB (f M) K

theorem AB.sub {s t a b : Rat} (h : AB s a) (k : AB t b) : AB (s - t) (a + b) := by
  obtain ⟨h1, h2⟩ := h
  obtain ⟨k1, k2⟩ := k
  constructor <;> grind
theorem AB.zero {b : Rat} (h : 0 ≤ b) : AB 0 b := by constructor <;> grind

theorem rdm {a b : Rat} (h : 0 < b) : a / b * b = a := Rat.div_mul_cancel (by grind)
theorem rdiv_pos {a b : Rat} (ha : 0 < a) (hb : 0 < b) : 0 < a / b := by
  refine Rat.not_le.1 fun hn => ?_
  have h1 := Rat.mul_nonneg (show 0 ≤ -(a / b) by grind) (Rat.le_of_lt hb)
  have h2 := rdm (a := a) hb
  generalize a / b = q at *
  grind
theorem null_zero : Null (fun _ => 0) := fun e he => ⟨0, fun M _ => AB.zero (Rat.le_of_lt he)⟩
theorem Null.add {f g : Nat → Rat} (h : Null f) (k : Null g) : Null (fun M => f M + g M) := fun e he => by
  obtain ⟨N1, h1⟩ := h (e / 2) (by grind)
  obtain ⟨N2, h2⟩ := k (e / 2) (by grind)
  exact ⟨N1 + N2, fun M hM => ((h1 M (by omega)).add (h2 M (by omega))).mono (by grind)⟩
theorem Null.neg {f : Nat → Rat} (h : Null f) : Null (fun M => -f M) := fun e he => by
  obtain ⟨N1, h1⟩ := h e he
  exact ⟨N1, fun M hM => (h1 M hM).neg⟩
theorem Null.sub {f g : Nat → Rat} (h : Null f) (k : Null g) : Null (fun M => f M - g M) := fun e he => by
  obtain ⟨N1, h1⟩ := h (e / 2) (by grind)
  obtain ⟨N2, h2⟩ := k (e / 2) (by grind)
  exact ⟨N1 + N2, fun M hM => ((h1 M (by omega)).sub (h2 M (by omega))).mono (by grind)⟩
theorem Null.bmul {f g : Nat → Rat} (h : Null f) (k : Bdd g) : Null (fun M => f M * g M) := fun e he => by
  obtain ⟨K, N2, k0, h2⟩ := k
  have hp : 0 < K + 1 := by grind
  have h3 := rdm (a := e) hp
  have h4 := rdiv_pos he hp
  obtain ⟨N1, h1⟩ := h (e / (K + 1)) h4
  generalize e / (K + 1) = q at *
  refine ⟨N1 + N2, fun M hM => ((h1 M (by omega)).mul (h2 M (by omega))).mono ?_⟩
  grind
theorem Null.of_eq {f g : Nat → Rat} (h : Null f) (e : ∀ M, g M = f M) : Null g := by
  have : g = f := funext e
  rw [this]; exact h
/-- The same from some point on. -/
theorem Null.of_eq_from {f g : Nat → Rat} (h : Null f) (N : Nat) (e : ∀ M, N ≤ M → g M = f M) : Null g := fun d hd => by
  obtain ⟨N1, h1⟩ := h d hd
  exact ⟨N + N1, fun M hM => by rw [e M (by omega)]; exact h1 M (by omega)⟩
theorem Null.of_le {f g : Nat → Rat} (h : Null f) (N : Nat) (e : ∀ M, N ≤ M → AB (g M) (f M)) : Null g := fun d hd => by
  obtain ⟨N1, h1⟩ := h d hd
  exact ⟨N + N1, fun M hM => (e M (by omega)).mono (h1 M (by omega)).2⟩
theorem Null.bdd {f : Nat → Rat} (h : Null f) : Bdd f := by
  obtain ⟨N, h1⟩ := h 1 (by grind)
  exact ⟨1, N, by grind, h1⟩
theorem null_q4 (K : Rat) (k0 : 0 ≤ K) : Null (fun M => K * ((M : Rat) * q4 M)) := fun e he => by
  obtain ⟨n, hn1, hn2⟩ := rat_nat (K / e)
  refine ⟨n + 1, fun M hM => ?_⟩
  have hM0 : (0 : Rat) ≤ (M : Rat) := by exact_mod_cast Nat.zero_le M
  have hMn : (n : Rat) ≤ (M : Rat) := by exact_mod_cast (show n ≤ M by omega)
  have u := nat_q4 M
  have q := near_bd M
  have e1 : K / e * e = K := by grind
  have s1 := Rat.mul_nonneg (show 0 ≤ (M : Rat) - K / e by grind) (Rat.le_of_lt he)
  have s2 := Rat.mul_nonneg (show 0 ≤ (M : Rat) * e - K by grind) q
  have s3 := Rat.mul_nonneg (Rat.le_of_lt he) (show 0 ≤ 1 - (M : Rat) * ((M : Rat) + 1) * q4 M by grind)
  have s4 := Rat.mul_nonneg (Rat.le_of_lt he) q
  have s5 := Rat.mul_nonneg k0 q
  constructor <;> grind
theorem Bdd.add {f g : Nat → Rat} (h : Bdd f) (k : Bdd g) : Bdd (fun M => f M + g M) := by
  obtain ⟨K, N, k0, h⟩ := h
  obtain ⟨L, N', l0, k⟩ := k
  exact ⟨K + L, N + N', by grind, fun M hM => (h M (by omega)).add (k M (by omega))⟩
theorem Bdd.neg {f : Nat → Rat} (h : Bdd f) : Bdd (fun M => -f M) := by
  obtain ⟨K, N, k0, h⟩ := h
  exact ⟨K, N, k0, fun M hM => (h M hM).neg⟩
theorem Bdd.sub {f g : Nat → Rat} (h : Bdd f) (k : Bdd g) : Bdd (fun M => f M - g M) := by
  obtain ⟨K, N, k0, h⟩ := h
  obtain ⟨L, N', l0, k⟩ := k
  exact ⟨K + L, N + N', by grind, fun M hM => (h M (by omega)).sub (k M (by omega))⟩
theorem Bdd.mul {f g : Nat → Rat} (h : Bdd f) (k : Bdd g) : Bdd (fun M => f M * g M) := by
  obtain ⟨K, N, k0, h⟩ := h
  obtain ⟨L, N', l0, k⟩ := k
  exact ⟨K * L, N + N', Rat.mul_nonneg k0 l0, fun M hM => (h M (by omega)).mul (k M (by omega))⟩
theorem Bdd.const (c : Rat) : Bdd (fun _ => c) := by
  obtain ⟨b, hb⟩ := AB.self c
  exact ⟨b, 0, hb.nonneg, fun _ _ => hb⟩
theorem Bdd.of_le {f : Nat → Rat} (K : Rat) (N : Nat) (h : ∀ M, N ≤ M → AB (f M) K) : Bdd f := ⟨K, N, (h N (Nat.le_refl _)).nonneg, h⟩

theorem Has.le {a b : Rat} {x : Nat → Rat} (h : Has a b x) : a ≤ b := by
  refine Rat.not_lt.1 fun hn => ?_
  obtain ⟨N, h1⟩ := h ((a - b) / 4) (by grind)
  have := h1 N (Nat.le_refl _)
  grind
theorem Has.mono {a b a' b' : Rat} {x : Nat → Rat} (h : Has a b x) (h1 : a' ≤ a) (h2 : b ≤ b') : Has a' b' x := fun e he => by
  obtain ⟨N, h⟩ := h e he
  exact ⟨N, fun M hM => by have := h M hM; constructor <;> grind⟩
theorem Has.congr {a b : Rat} {x y : Nat → Rat} (h : Has a b x) (k : Null (fun M => y M - x M)) : Has a b y := fun e he => by
  obtain ⟨N, h⟩ := h (e / 2) (by grind)
  obtain ⟨N', k⟩ := k (e / 2) (by grind)
  refine ⟨N + N', fun M hM => ?_⟩
  have := h M (by omega)
  obtain ⟨k1, k2⟩ := k M (by omega)
  constructor <;> grind
theorem Has.bdd {a b : Rat} {x : Nat → Rat} (h : Has a b x) : Bdd x := by
  obtain ⟨N, h1⟩ := h 1 (by grind)
  obtain ⟨p, hp⟩ := AB.self a
  obtain ⟨q, hq⟩ := AB.self b
  have := hp.nonneg
  have := hq.nonneg
  refine ⟨p + q + 1, N, by grind, fun M hM => ?_⟩
  have := h1 M hM
  obtain ⟨_, _⟩ := hp
  obtain ⟨_, _⟩ := hq
  constructor <;> grind
theorem Has.const {a b c : Rat} (h1 : a ≤ c) (h2 : c ≤ b) : Has a b (fun _ => c) := fun e he => ⟨0, fun M _ => by constructor <;> grind⟩
theorem Has.add {a b c d : Rat} {x y : Nat → Rat} (h : Has a b x) (k : Has c d y) : Has (a + c) (b + d) (fun M => x M + y M) := fun e he => by
  obtain ⟨N, h⟩ := h (e / 2) (by grind)
  obtain ⟨N', k⟩ := k (e / 2) (by grind)
  refine ⟨N + N', fun M hM => ?_⟩
  have := h M (by omega)
  have := k M (by omega)
  constructor <;> grind
theorem Has.neg {a b : Rat} {x : Nat → Rat} (h : Has a b x) : Has (-b) (-a) (fun M => -x M) := fun e he => by
  obtain ⟨N, h⟩ := h e he
  refine ⟨N, fun M hM => ?_⟩
  have := h M hM
  constructor <;> grind
theorem Has.sub {a b c d : Rat} {x y : Nat → Rat} (h : Has a b x) (k : Has c d y) : Has (a - d) (b - c) (fun M => x M - y M) := fun e he => by
  obtain ⟨N, h⟩ := h (e / 2) (by grind)
  obtain ⟨N', k⟩ := k (e / 2) (by grind)
  refine ⟨N + N', fun M hM => ?_⟩
  have := h M (by omega)
  have := k M (by omega)
  constructor <;> grind
/-- Within: what is nearly from a to b is near something that is. -/
theorem clamp {a b x e : Rat} (hab : a ≤ b) (he : 0 ≤ e) (h1 : a - e ≤ x) (h2 : x ≤ b + e) : ∃ x0, a ≤ x0 ∧ x0 ≤ b ∧ AB (x - x0) e := by
  by_cases h : x < a
  · exact ⟨a, by grind, hab, by constructor <;> grind⟩
  · by_cases h' : b < x
    · exact ⟨b, hab, by grind, by constructor <;> grind⟩
    · exact ⟨x, by grind, by grind, by constructor <;> grind⟩
/-- A product is between those of the ends. -/
theorem corner {a b c d L U x y : Rat} (hx1 : a ≤ x) (hx2 : x ≤ b) (hy1 : c ≤ y) (hy2 : y ≤ d)
    (l1 : L ≤ a * c) (l2 : L ≤ a * d) (l3 : L ≤ b * c) (l4 : L ≤ b * d) (u1 : a * c ≤ U) (u2 : a * d ≤ U) (u3 : b * c ≤ U) (u4 : b * d ≤ U) : L ≤ x * y ∧ x * y ≤ U := by
  have p1 := Rat.mul_nonneg (show 0 ≤ x - a by grind) (show 0 ≤ y - c by grind)
  have p2 := Rat.mul_nonneg (show 0 ≤ x - a by grind) (show 0 ≤ d - y by grind)
  have p3 := Rat.mul_nonneg (show 0 ≤ b - x by grind) (show 0 ≤ y - c by grind)
  have p4 := Rat.mul_nonneg (show 0 ≤ b - x by grind) (show 0 ≤ d - y by grind)
  rcases Rat.le_total (a := 0) (b := y) with hy | hy
  · have g1 := Rat.mul_nonneg (show 0 ≤ x - a by grind) hy
    have g2 := Rat.mul_nonneg (show 0 ≤ b - x by grind) hy
    -- a y <= x y <= b y
    rcases Rat.le_total (a := 0) (b := a) with ha | ha
    · have := Rat.mul_nonneg ha (show 0 ≤ y - c by grind)
      rcases Rat.le_total (a := 0) (b := b) with hb | hb
      · have := Rat.mul_nonneg hb (show 0 ≤ d - y by grind); constructor <;> grind
      · have := Rat.mul_nonneg (show 0 ≤ -b by grind) (show 0 ≤ y - c by grind); constructor <;> grind
    · have := Rat.mul_nonneg (show 0 ≤ -a by grind) (show 0 ≤ d - y by grind)
      rcases Rat.le_total (a := 0) (b := b) with hb | hb
      · have := Rat.mul_nonneg hb (show 0 ≤ d - y by grind); constructor <;> grind
      · have := Rat.mul_nonneg (show 0 ≤ -b by grind) (show 0 ≤ y - c by grind); constructor <;> grind
  · have g1 := Rat.mul_nonneg (show 0 ≤ x - a by grind) (show 0 ≤ -y by grind)
    have g2 := Rat.mul_nonneg (show 0 ≤ b - x by grind) (show 0 ≤ -y by grind)
    -- b y <= x y <= a y
    rcases Rat.le_total (a := 0) (b := a) with ha | ha
    · have := Rat.mul_nonneg ha (show 0 ≤ d - y by grind)
      rcases Rat.le_total (a := 0) (b := b) with hb | hb
      · have := Rat.mul_nonneg hb (show 0 ≤ y - c by grind); constructor <;> grind
      · have := Rat.mul_nonneg (show 0 ≤ -b by grind) (show 0 ≤ d - y by grind); constructor <;> grind
    · have := Rat.mul_nonneg (show 0 ≤ -a by grind) (show 0 ≤ y - c by grind)
      rcases Rat.le_total (a := 0) (b := b) with hb | hb
      · have := Rat.mul_nonneg hb (show 0 ≤ y - c by grind); constructor <;> grind
      · have := Rat.mul_nonneg (show 0 ≤ -b by grind) (show 0 ≤ d - y by grind); constructor <;> grind
theorem AB.between {c d y p q : Rat} (hp : AB c p) (hq : AB d q) (h1 : c ≤ y) (h2 : y ≤ d) : AB y (p + q) := by
  have := hp.nonneg
  have := hq.nonneg
  obtain ⟨_, _⟩ := hp
  obtain ⟨_, _⟩ := hq
  constructor <;> grind
theorem Has.mul {a b c d L U : Rat} {x y : Nat → Rat} (h : Has a b x) (k : Has c d y)
    (l1 : L ≤ a * c) (l2 : L ≤ a * d) (l3 : L ≤ b * c) (l4 : L ≤ b * d) (u1 : a * c ≤ U) (u2 : a * d ≤ U) (u3 : b * c ≤ U) (u4 : b * d ≤ U) : Has L U (fun M => x M * y M) := fun e he => by
  obtain ⟨R, N0, r0, hR⟩ := h.bdd
  obtain ⟨p, hp1⟩ := AB.self c
  obtain ⟨q, hq1⟩ := AB.self d
  have p0 := hp1.nonneg
  have q0 := hq1.nonneg
  have hp : 0 < R + (p + q) + 1 := by grind
  have hd := rdiv_pos he hp
  have hab := h.le
  have hcd := k.le
  obtain ⟨N, h⟩ := h _ hd
  obtain ⟨N', k⟩ := k _ hd
  refine ⟨N + N' + N0, fun M hM => ?_⟩
  have h1 := h M (by omega)
  have k1 := k M (by omega)
  have hr := hR M (by omega)
  have hδ := rdm (a := e) hp
  generalize e / (R + (p + q) + 1) = δ at *
  obtain ⟨x0, a1, a2, a3⟩ := clamp hab (Rat.le_of_lt hd) h1.1 h1.2
  obtain ⟨y0, b1, b2, b3⟩ := clamp hcd (Rat.le_of_lt hd) k1.1 k1.2
  have hc := corner a1 a2 b1 b2 l1 l2 l3 l4 u1 u2 u3 u4
  have g := (hr.mul b3).add (a3.mul (AB.between hp1 hq1 b1 b2))
  have e1 : x M * (y M - y0) + (x M - x0) * y0 = x M * y M - x0 * y0 := by grind
  rw [e1] at g
  obtain ⟨g1, g2⟩ := g
  show L - e ≤ x M * y M ∧ x M * y M ≤ U + e
  generalize x M * y M = X at *
  generalize x0 * y0 = Y at *
  constructor <;> grind
theorem Has.scale {a b c : Rat} {x : Nat → Rat} (h : Has a b x) (hc : 0 ≤ c) : Has (c * a) (c * b) (fun M => c * x M) := by
  have hab := h.le
  have := Rat.mul_nonneg hc (show 0 ≤ b - a by grind)
  exact Has.mul (Has.const (Rat.le_refl) (Rat.le_refl) (c := c)) h (by grind) (by grind) (by grind) (by grind) (by grind) (by grind) (by grind) (by grind)
theorem Has.of_eq {a b : Rat} {x y : Nat → Rat} (h : Has a b x) (e : ∀ M, y M = x M) : Has a b y := by
  have : y = x := funext e
  rw [this]; exact h
end Go.Proofs.Ytgmnknmjainabaa.Ex

namespace Go.Proofs.Ytgmnknmjainabaa.Ex
set_option linter.unusedVariables false

theorem tm_AB {x R : Rat} (h : AB x R) (n : Nat) : AB (tm x n) (tm R n) := by
  induction n with
  | zero => simp only [tm]; constructor <;> grind
  | succ n ih =>
    have hp := pos1 n
    have g := ih.mul h
    have e1 := tm_succ x n
    have e2 := tm_succ R n
    have e3 : tm x n * x = ((n : Rat) + 1) * tm x (n + 1) := by grind
    have e4 : tm R n * R = ((n : Rat) + 1) * tm R (n + 1) := by grind
    rw [e3, e4] at g
    obtain ⟨g1, g2⟩ := g
    generalize (n : Rat) + 1 = m at *
    constructor
    · refine Rat.not_lt.1 fun hn => ?_
      have := Rat.mul_pos hp (show 0 < -tm R (n + 1) - tm x (n + 1) by grind)
      grind
    · refine Rat.not_lt.1 fun hn => ?_
      have := Rat.mul_pos hp (show 0 < tm x (n + 1) - tm R (n + 1) by grind)
      grind
theorem tm_unif (R : Rat) : ∃ K, 0 ≤ K ∧ ∀ x, AB x R → ∀ i, AB (tm x i) (K * q4 i) := by
  obtain ⟨K, k0, h⟩ := tm_bd R
  exact ⟨K, k0, fun x hx i => (tm_AB hx i).mono (h i).2⟩
theorem E_unif (R : Rat) : ∃ K, 0 ≤ K ∧ ∀ M x y, AB x R → AB y R → AB (E x M * E y M - E (x + y) M) (K * ((M : Rat) * q4 M)) := by
  obtain ⟨K, k0, h⟩ := tm_unif R
  refine ⟨2 * K * K, ?_, fun M x y hx hy => (E_mul x y K K (h x hx) (h y hy) M).mono (by grind)⟩
  have := Rat.mul_nonneg k0 k0; grind
theorem E_bound (R : Rat) : ∃ K, 0 ≤ K ∧ ∀ M x, AB x R → AB (E x M) K := by
  obtain ⟨K, k0, h⟩ := tm_unif R
  refine ⟨2 * K, by grind, fun M x hx => ?_⟩
  have := E_sub x K (h x hx) 0 M
  have e : E x 0 = 0 := rfl
  rw [Nat.zero_add, e] at this
  have e1 : E x M - 0 = E x M := by grind
  rw [e1] at this
  refine this.mono ?_
  have := q4_pos M
  have := Rat.mul_nonneg k0 (Rat.le_of_lt this)
  simp only [q4]
  grind
theorem tm_zero (n : Nat) : tm 0 (n + 1) = 0 := by
  have := tm_succ 0 n
  have hp := pos1 n
  have h5 : ((n : Rat) + 1) * tm 0 (n + 1) = 0 := by grind
  rcases Rat.mul_eq_zero.1 h5 with h6 | h6
  · grind
  · exact h6
theorem E_zero (M : Nat) : E 0 (M + 1) = 1 := by
  induction M with
  | zero => simp only [E, S, tm]; grind
  | succ M ih =>
    have e : E 0 (M + 1 + 1) = E 0 (M + 1) + tm 0 (M + 1) := rfl
    rw [e, ih, tm_zero]; grind
theorem sq_nonneg (x : Rat) : 0 ≤ x * x := by
  rcases Rat.le_total (a := 0) (b := x) with h | h
  · exact Rat.mul_nonneg h h
  · have := Rat.mul_nonneg (show 0 ≤ -x by grind) (show 0 ≤ -x by grind); grind
theorem E_low (R : Rat) : ∃ c, 0 < c ∧ ∃ N, ∀ M, N ≤ M → ∀ x, AB x R → c ≤ E x M := by
  obtain ⟨K, k0, hK⟩ := E_unif R
  obtain ⟨L, l0, hL⟩ := E_bound R
  have hp : 0 < 4 * (L + 1) := by grind
  have hc := rdiv_pos (show (0 : Rat) < 1 by grind) hp
  have hcL := rdm (a := 1) hp
  refine ⟨_, hc, ?_⟩
  generalize 1 / (4 * (L + 1)) = c at *
  obtain ⟨N, hN⟩ := null_q4 K k0 c hc
  refine ⟨N + 1, fun M hM x hx => ?_⟩
  obtain ⟨n1, n2⟩ : AB (K * ((M : Rat) * q4 M)) c := hN M (by omega)
  have hx2 : AB (x / 2) R := by obtain ⟨a, b⟩ := hx; constructor <;> grind
  have h1 := hK M (x / 2) (x / 2) hx2 hx2
  rw [show x / 2 + x / 2 = x by grind] at h1
  have h2 := hK M x (-x) hx hx.neg
  rw [show x + -x = 0 by grind] at h2
  obtain ⟨m, rfl⟩ : ∃ m, M = m + 1 := ⟨M - 1, by omega⟩
  rw [E_zero] at h2
  have h3 := hL (m + 1) (-x) hx.neg
  have h4 := sq_nonneg (E (x / 2) (m + 1))
  obtain ⟨a1, a2⟩ := h1
  obtain ⟨b1, b2⟩ := h2
  generalize K * (((m + 1 : Nat) : Rat) * q4 (m + 1)) = η at *
  generalize E (x / 2) (m + 1) * E (x / 2) (m + 1) = s at *
  refine Rat.not_lt.1 fun hn => ?_
  have h5 : AB (E x (m + 1)) c := by constructor <;> grind
  have h6 := h5.mul h3
  obtain ⟨c1, c2⟩ := h6
  generalize E x (m + 1) * E (-x) (m + 1) = t at *
  have : c * L ≤ 1 / 4 := by grind
  have : c ≤ 1 / 4 := by
    have := Rat.mul_nonneg (Rat.le_of_lt hc) l0
    grind
  grind
/-- Of little it is nearly 1. -/
theorem tm_little {h b : Rat} (hb : AB h b) (h4 : b ≤ 1 / 4) (k : Nat) : AB (tm h (k + 1)) (b * q4 k) := by
  have b0 := hb.nonneg
  induction k with
  | zero => simp only [tm, q4]; obtain ⟨_, _⟩ := hb; simp; constructor <;> grind
  | succ k ih =>
    have e := tm_succ h (k + 1)
    have hp := pos1 (k + 1)
    have hp1 : (1 : Rat) ≤ ((k + 1 : Nat) : Rat) + 1 := by
      have : (0 : Rat) ≤ ((k + 1 : Nat) : Rat) := by exact_mod_cast Nat.zero_le (k + 1)
      grind
    have g := hb.mul ih
    rw [← e] at g
    have q := q4_pos k
    have e2 : q4 (k + 1) = q4 k / 4 := rfl
    rw [e2]
    generalize ((k + 1 : Nat) : Rat) + 1 = m at *
    have g2 : AB (m * tm h (k + 1 + 1)) (b * (q4 k / 4)) := by
      refine g.mono ?_
      have := Rat.mul_nonneg (Rat.mul_nonneg b0 (Rat.le_of_lt q)) (show 0 ≤ 1 / 4 - b by grind)
      grind
    obtain ⟨g3, g4⟩ := g2
    have hn := Rat.mul_nonneg b0 (Rat.le_of_lt q)
    generalize b * (q4 k / 4) = r at *
    have hr : 0 ≤ r := by grind
    constructor
    · refine Rat.not_lt.1 fun hn => ?_
      have := Rat.mul_nonneg (show 0 ≤ m - 1 by grind) (show 0 ≤ -r - tm h (k + 1 + 1) by grind)
      have := Rat.mul_nonneg (show 0 ≤ m - 1 by grind) hr
      grind
    · refine Rat.not_lt.1 fun hn => ?_
      have := Rat.mul_nonneg (show 0 ≤ m - 1 by grind) (show 0 ≤ tm h (k + 1 + 1) - r by grind)
      have := Rat.mul_nonneg (show 0 ≤ m - 1 by grind) hr
      grind
theorem E_little1 {h b : Rat} (hb : AB h b) (h4 : b ≤ 1 / 4) (M : Nat) : AB (E h (M + 1) - 1) (2 * b * (1 - q4 M)) := by
  have b0 := hb.nonneg
  induction M with
  | zero => simp only [E, S, tm, q4]; constructor <;> grind
  | succ M ih =>
    have e : E h (M + 1 + 1) = E h (M + 1) + tm h (M + 1) := rfl
    have g := ih.add (tm_little hb h4 M)
    rw [e]
    have e2 : q4 (M + 1) = q4 M / 4 := rfl
    have q := Rat.mul_nonneg b0 (Rat.le_of_lt (q4_pos M))
    have e3 : E h (M + 1) - 1 + tm h (M + 1) = E h (M + 1) + tm h (M + 1) - 1 := by grind
    rw [e3] at g
    rw [e2]
    exact g.mono (by grind)
theorem E_little {h b : Rat} (hb : AB h b) (h4 : b ≤ 1 / 4) {M : Nat} (hM : 1 ≤ M) : AB (E h M - 1) (2 * b) := by
  obtain ⟨m, rfl⟩ : ∃ m, M = m + 1 := ⟨M - 1, by omega⟩
  refine (E_little1 hb h4 m).mono ?_
  have q := Rat.mul_nonneg hb.nonneg (Rat.le_of_lt (q4_pos m))
  grind
/-- e to the power of a number that is told by a sequence. -/
def Ev (x : Nat → Rat) (M : Nat) : Rat := E (x M) M
theorem Ev_bdd {x : Nat → Rat} (h : Bdd x) : Bdd (Ev x) := by
  obtain ⟨R, N, r0, h⟩ := h
  obtain ⟨K, k0, hK⟩ := E_bound R
  exact ⟨K, N, k0, fun M hM => hK M _ (h M hM)⟩
theorem Ev_add {x y : Nat → Rat} (hx : Bdd x) (hy : Bdd y) : Null (fun M => Ev x M * Ev y M - Ev (fun M => x M + y M) M) := by
  obtain ⟨R, N, r0, hx⟩ := hx
  obtain ⟨R', N', r0', hy⟩ := hy
  obtain ⟨K, k0, hK⟩ := E_unif (R + R')
  exact (null_q4 K k0).of_le (N + N') fun M hM => hK M _ _ ((hx M (by omega)).mono (by grind)) ((hy M (by omega)).mono (by grind))
theorem Ev_null {h : Nat → Rat} (hn : Null h) : Null (fun M => Ev h M - 1) := fun e he => by
  obtain ⟨N, h1⟩ := hn (1 / 4) (by grind)
  obtain ⟨N', h2⟩ := hn (e / 2) (by grind)
  refine ⟨N + N' + 1, fun M hM => ?_⟩
  rcases Rat.le_total (a := e / 2) (b := 1 / 4) with hc | hc
  · exact (E_little (h2 M (by omega)) hc (by omega)).mono (by grind)
  · exact (E_little (h1 M (by omega)) (by grind) (by omega)).mono (by grind)
theorem Ev_congr {x y : Nat → Rat} (hx : Bdd x) (hy : Bdd y) (h : Null (fun M => x M - y M)) : Null (fun M => Ev x M - Ev y M) := by
  have h1 := Ev_add hy (hx.sub hy)
  have h2 := (Ev_null h).bmul (Ev_bdd hy)
  have e : (fun M => y M + (x M - y M)) = x := funext fun M => by grind
  rw [e] at h1
  refine (h2.sub h1).of_eq fun M => ?_
  grind
theorem Ev_inv {x : Nat → Rat} (hx : Bdd x) : Null (fun M => Ev x M * Ev (fun M => -x M) M - 1) := by
  have h1 := Ev_add hx hx.neg
  refine h1.of_eq_from 1 fun M hM => ?_
  obtain ⟨m, rfl⟩ : ∃ m, M = m + 1 := ⟨M - 1, by omega⟩
  have : Ev (fun M => x M + -x M) (m + 1) = 1 := by
    show E (x (m + 1) + -x (m + 1)) (m + 1) = 1
    rw [show x (m + 1) + -x (m + 1) = 0 by grind, E_zero]
  rw [this]
theorem E_one1 {x : Rat} (h : 0 ≤ x) {M : Nat} (hM : 2 ≤ M) : 1 + x ≤ E x M := by
  obtain ⟨m, rfl⟩ : ∃ m, M = m + 2 := ⟨M - 2, by omega⟩
  clear hM
  induction m with
  | zero => simp [E, S, tm]; grind
  | succ m ih =>
    have e1 : E x (m + 1 + 2) = E x (m + 2) + tm x (m + 2) := rfl
    have := tm_nonneg h (m + 2)
    grind
/-- And who has more is more. -/
theorem Ev_back {x y z : Nat → Rat} (hx : Bdd x) (hy : Bdd y) (hz : Null z) (N0 : Nat) (h : ∀ M, N0 ≤ M → Ev x M ≤ Ev y M + z M) (e : Rat) (he : 0 < e) : ∃ N, ∀ M, N ≤ M → x M ≤ y M + e := by
  obtain ⟨R, N1, r0, hx⟩ := hx
  obtain ⟨R', N2, r0', hy⟩ := hy
  -- all that is met is within B
  obtain ⟨K, k0, hK⟩ := E_unif (R + R' + R + R' + e)
  obtain ⟨c, hc, N3, hl⟩ := E_low (R + R' + R + R' + e)
  have hce := Rat.mul_pos hc he
  obtain ⟨N4, hn⟩ := null_q4 K k0 (c * e / 4) (by grind)
  obtain ⟨N5, hz⟩ := hz (c * e / 4) (by grind)
  refine ⟨N0 + N1 + N2 + N3 + N4 + N5 + 2, fun M hM => ?_⟩
  refine Rat.not_lt.1 fun hlt => ?_
  have a1 := hx M (by omega)
  have a2 := hy M (by omega)
  have a3 := h M (by omega)
  obtain ⟨a4, a5⟩ : AB (K * ((M : Rat) * q4 M)) (c * e / 4) := hn M (by omega)
  obtain ⟨a6, a7⟩ := hz M (by omega)
  have hye : AB (y M + e) (R + R' + R + R' + e) := by obtain ⟨_, _⟩ := a2; constructor <;> grind
  have hu : AB (x M - (y M + e)) (R + R' + R + R' + e) := by obtain ⟨_, _⟩ := a2; obtain ⟨_, _⟩ := a1; constructor <;> grind
  have hy' : AB (y M) (R + R' + R + R' + e) := a2.mono (by grind)
  have he' : AB e (R + R' + R + R' + e) := by constructor <;> grind
  obtain ⟨b1, b2⟩ := hK M _ _ hye hu
  obtain ⟨b3, b4⟩ := hK M _ _ hy' he'
  rw [show y M + e + (x M - (y M + e)) = x M by grind] at b1 b2
  have l1 := hl M (by omega) _ hye
  have l2 := hl M (by omega) _ hy'
  have o1 := E_one (show 0 ≤ x M - (y M + e) by grind) (show 1 ≤ M by omega)
  have o2 := E_one1 (Rat.le_of_lt he) (show 2 ≤ M by omega)
  have p1 := Rat.mul_nonneg (show 0 ≤ E (y M + e) M by grind) (show 0 ≤ E (x M - (y M + e)) M - 1 by grind)
  have p2 := Rat.mul_nonneg (show 0 ≤ E (y M) M by grind) (show 0 ≤ E e M - (1 + e) by grind)
  have p3 := Rat.mul_nonneg (show 0 ≤ E (y M) M - c by grind) (Rat.le_of_lt he)
  have a3' : E (x M) M ≤ E (y M) M + z M := a3
  generalize E (x M) M = X at *
  generalize E (y M) M = Y at *
  generalize K * ((M : Rat) * q4 M) = η at *
  grind
end Go.Proofs.Ytgmnknmjainabaa.Ex

namespace Go.Proofs.Ytgmnknmjainabaa.Ex
set_option linter.unusedVariables false

/-- x to the power of k. -/
def pw (x : Rat) : Nat → Rat
  | 0 => 1
  | k + 1 => x * pw x k
/-- 1 over 2 to the power of n. -/
def q2 : Nat → Rat
  | 0 => 1
  | n + 1 => q2 n / 2
end Go.Proofs.Ytgmnknmjainabaa.Ex

namespace Go.Proofs.Ytgmnknmjainabaa.Ex
set_option linter.unusedVariables false

/-- l is the logarithm of r. -/
def IsLog (l r : Nat → Rat) : Prop := Bdd l ∧ Null (fun M => Ev l M - r M)
theorem Bdd.of_null {f g : Nat → Rat} (h : Bdd f) (k : Null (fun M => f M - g M)) : Bdd g := by
  obtain ⟨K, N, k0, h⟩ := h.sub k.bdd
  exact ⟨K, N, k0, fun M hM => by have : AB (f M - (f M - g M)) K := h M hM; rw [show f M - (f M - g M) = g M by grind] at this; exact this⟩
theorem IsLog.bdd {l r : Nat → Rat} (h : IsLog l r) : Bdd r := (Ev_bdd h.1).of_null h.2
/-- What is not more has a logarithm that is not more. -/
theorem IsLog.le {l r l' r' z : Nat → Rat} (h : IsLog l r) (h' : IsLog l' r') (hz : Null z) (N0 : Nat) (hr : ∀ M, N0 ≤ M → r M ≤ r' M + z M) (e : Rat) (he : 0 < e) : ∃ N, ∀ M, N ≤ M → l M ≤ l' M + e := by
  refine Ev_back h.1 h'.1 ((h.2.sub h'.2).add hz) N0 (fun M hM => ?_) e he
  have := hr M hM
  grind
theorem IsLog.congr {l l' r : Nat → Rat} (h : IsLog l r) (k : Null (fun M => l M - l' M)) : IsLog l' r := by
  have b := h.1.of_null k
  refine ⟨b, ?_⟩
  refine (h.2.sub (Ev_congr h.1 b k)).of_eq fun M => ?_
  grind
theorem IsLog.add {l l' r r' : Nat → Rat} (h : IsLog l r) (h' : IsLog l' r') : IsLog (fun M => l M + l' M) (fun M => r M * r' M) := by
  refine ⟨h.1.add h'.1, ?_⟩
  have n1 := Ev_add h.1 h'.1
  have n2 := h.2.bmul (Ev_bdd h'.1)
  have n3 := h'.2.bmul h.bdd
  refine ((n2.add n3).sub n1).of_eq fun M => ?_
  grind
theorem IsLog.neg {l r s : Nat → Rat} (h : IsLog l r) (hs : Bdd s) (N : Nat) (hrs : ∀ M, N ≤ M → s M * r M = 1) : IsLog (fun M => -l M) s := by
  refine ⟨h.1.neg, ?_⟩
  have n1 := Ev_inv h.1
  have n2 := h.2.bmul (Ev_bdd h.1.neg)
  have n3 := (n1.sub n2).bmul hs
  refine n3.of_eq_from N fun M hM => ?_
  have e := hrs M hM
  have : (Ev l M * Ev (fun M => -l M) M - 1 - (Ev l M - r M) * Ev (fun M => -l M) M) * s M = (s M * r M) * Ev (fun M => -l M) M - s M := by grind
  rw [this, e]; grind
theorem isLog_one : IsLog (fun _ => 0) (fun _ => 1) := ⟨Bdd.const 0, null_zero.of_eq_from 1 fun M hM => by
  obtain ⟨m, rfl⟩ : ∃ m, M = m + 1 := ⟨M - 1, by omega⟩
  show E 0 (m + 1) - 1 = 0
  rw [E_zero]; grind⟩
/-- Some times. -/
theorem IsLog.times {l r : Nat → Rat} (h : IsLog l r) (k : Nat) : IsLog (fun M => (k : Rat) * l M) (fun M => pw (r M) k) := by
  induction k with
  | zero =>
    have e1 : (fun M => ((0 : Nat) : Rat) * l M) = fun _ => 0 := funext fun M => by simp; try grind
    rw [e1]; exact isLog_one
  | succ k ih =>
    have e1 : (fun M => ((k + 1 : Nat) : Rat) * l M) = fun M => l M + (k : Rat) * l M := funext fun M => by
      have : ((k + 1 : Nat) : Rat) = (k : Rat) + 1 := by simp
      rw [this]; grind
    rw [e1]; exact h.add ih
end Go.Proofs.Ytgmnknmjainabaa.Ex

namespace Go.Proofs.Ytgmnknmjainabaa
set_option linter.unusedVariables false
open Ex

/-- The least and the greatest of four. -/
theorem least4 (a b c d : Int) : leastZ (pr4 a b c d) 3 ≤ a ∧ leastZ (pr4 a b c d) 3 ≤ b ∧ leastZ (pr4 a b c d) 3 ≤ c ∧ leastZ (pr4 a b c d) 3 ≤ d ∧ (leastZ (pr4 a b c d) 3 = a ∨ leastZ (pr4 a b c d) 3 = b ∨ leastZ (pr4 a b c d) 3 = c ∨ leastZ (pr4 a b c d) 3 = d) := by
  simp only [leastZ, pr4]; simp; repeat' split
  all_goals omega
theorem greatest4 (a b c d : Int) : a ≤ mostZ (pr4 a b c d) 3 ∧ b ≤ mostZ (pr4 a b c d) 3 ∧ c ≤ mostZ (pr4 a b c d) 3 ∧ d ≤ mostZ (pr4 a b c d) 3 ∧ (mostZ (pr4 a b c d) 3 = a ∨ mostZ (pr4 a b c d) 3 = b ∨ mostZ (pr4 a b c d) 3 = c ∨ mostZ (pr4 a b c d) 3 = d) := by
  simp only [mostZ, pr4]; simp; repeat' split
  all_goals omega

/-- Spans by their ends: their product, sum; one times a number over another one; how far from 0. -/
def mulI (B : Nat) (a b : Int × Int) : Int × Int := (leastZ (pr4 (a.1 * b.1) (a.1 * b.2) (a.2 * b.1) (a.2 * b.2)) 3 / Q B, -(-(mostZ (pr4 (a.1 * b.1) (a.1 * b.2) (a.2 * b.1) (a.2 * b.2)) 3) / Q B))
def addI (a b : Int × Int) : Int × Int := (a.1 + b.1, a.2 + b.2)
def subI (a b : Int × Int) : Int × Int := (a.1 - b.2, a.2 - b.1)
def scaleI (a : Int × Int) (n d : Int) : Int × Int := (a.1 * n / d, -(-(a.2 * n) / d))
def timesI (a : Int × Int) (n : Int) : Int × Int := (a.1 * n, a.2 * n)
def ofI (n d : Int) (B : Nat) : Int × Int := (n * Q B / d, -(-(n * Q B) / d))
def downI (a : Int × Int) (t : Nat) : Int × Int := (a.1 / Q t, -(-a.2 / Q t))
/-- In how far a sum has come. -/
def sumI (f : Nat → Int × Int) : Nat → Int × Int
  | 0 => f 0
  | n + 1 => addI (sumI f n) (f (n + 1))
/-- Within so much of 0. -/
def Abs (a : Int × Int) (m : Int) : Prop := -m ≤ a.1 ∧ a.1 ≤ m ∧ -m ≤ a.2 ∧ a.2 ≤ m

theorem Abs.nonneg {a : Int × Int} {m : Int} (h : Abs a m) : 0 ≤ m := by obtain ⟨h1, h2, h3, h4⟩ := h; omega
theorem Abs.mono {a : Int × Int} {m n : Int} (h : Abs a m) (k : m ≤ n) : Abs a n := by obtain ⟨h1, h2, h3, h4⟩ := h; exact ⟨by omega, by omega, by omega, by omega⟩
theorem Abs.add {a b : Int × Int} {m n : Int} (h : Abs a m) (k : Abs b n) : Abs (addI a b) (m + n) := by
  obtain ⟨h1, h2, h3, h4⟩ := h
  obtain ⟨k1, k2, k3, k4⟩ := k
  refine ⟨?_, ?_, ?_, ?_⟩ <;> simp only [addI] <;> omega
/-- The span has the number that the sequence tells. -/
def Iv (B : Nat) (a : Int × Int) (x : Nat → Rat) : Prop := Has ((a.1 : Rat) / (Q B : Rat)) ((a.2 : Rat) / (Q B : Rat)) x
theorem Qr_pos (B : Nat) : (0 : Rat) < (Q B : Rat) := by exact_mod_cast (show (0 : Int) < Q B by have := Q_pos B; omega)
theorem rle_div {a b c : Rat} (hc : 0 < c) (h : a * c ≤ b) : a ≤ b / c := by
  have e := rdm (a := b) hc
  generalize b / c = q at *
  refine Rat.not_lt.1 fun hn => ?_
  have := Rat.mul_pos hc (show 0 < a - q by grind)
  grind
theorem rdiv_le {a b c : Rat} (hc : 0 < c) (h : a ≤ b * c) : a / c ≤ b := by
  have e := rdm (a := a) hc
  generalize a / c = q at *
  refine Rat.not_lt.1 fun hn => ?_
  have := Rat.mul_pos hc (show 0 < q - b by grind)
  grind
theorem cast_le {a b : Int} (h : a ≤ b) : (a : Rat) ≤ (b : Rat) := by exact_mod_cast h
/-- Ends of a product, as ratios. -/
theorem mul_lo {L u v q : Int} (hq : 0 < q) (h : L * q ≤ u * v) : (L : Rat) / (q : Rat) ≤ (u : Rat) / (q : Rat) * ((v : Rat) / (q : Rat)) := by
  have q0 : (0 : Rat) < (q : Rat) := by exact_mod_cast hq
  have e1 := rdm (a := (u : Rat)) q0
  have e2 := rdm (a := (v : Rat)) q0
  have h1 := cast_le h
  rw [Rat.intCast_mul, Rat.intCast_mul] at h1
  refine rdiv_le q0 ?_
  generalize (u : Rat) / (q : Rat) = U at *
  generalize (v : Rat) / (q : Rat) = V at *
  rw [← e1, ← e2] at h1
  refine Rat.not_lt.1 fun hn => ?_
  have := Rat.mul_pos (show 0 < (L : Rat) - U * V * (q : Rat) by grind) q0
  grind
theorem mul_hi {L u v q : Int} (hq : 0 < q) (h : u * v ≤ L * q) : (u : Rat) / (q : Rat) * ((v : Rat) / (q : Rat)) ≤ (L : Rat) / (q : Rat) := by
  have q0 : (0 : Rat) < (q : Rat) := by exact_mod_cast hq
  have e1 := rdm (a := (u : Rat)) q0
  have e2 := rdm (a := (v : Rat)) q0
  have h1 := cast_le h
  rw [Rat.intCast_mul, Rat.intCast_mul] at h1
  refine rle_div q0 ?_
  generalize (u : Rat) / (q : Rat) = U at *
  generalize (v : Rat) / (q : Rat) = V at *
  rw [← e1, ← e2] at h1
  refine Rat.not_lt.1 fun hn => ?_
  have := Rat.mul_pos (show 0 < U * V * (q : Rat) - (L : Rat) by grind) q0
  grind
theorem Iv.mul {B : Nat} {a b : Int × Int} {x y : Nat → Rat} (h : Iv B a x) (k : Iv B b y) : Iv B (mulI B a b) (fun M => x M * y M) := by
  have q0 : 0 < Q B := by have := Q_pos B; omega
  have l := least4 (a.1 * b.1) (a.1 * b.2) (a.2 * b.1) (a.2 * b.2)
  have g := greatest4 (a.1 * b.1) (a.1 * b.2) (a.2 * b.1) (a.2 * b.2)
  have fl := flo_le (leastZ (pr4 (a.1 * b.1) (a.1 * b.2) (a.2 * b.1) (a.2 * b.2)) 3) (Q B) q0
  have ce := ceil_ge (mostZ (pr4 (a.1 * b.1) (a.1 * b.2) (a.2 * b.1) (a.2 * b.2)) 3) (Q B) q0
  exact Has.mul h k (mul_lo q0 (Int.le_trans fl l.1)) (mul_lo q0 (Int.le_trans fl l.2.1)) (mul_lo q0 (Int.le_trans fl l.2.2.1)) (mul_lo q0 (Int.le_trans fl l.2.2.2.1)) (mul_hi q0 (Int.le_trans g.1 ce)) (mul_hi q0 (Int.le_trans g.2.1 ce)) (mul_hi q0 (Int.le_trans g.2.2.1 ce)) (mul_hi q0 (Int.le_trans g.2.2.2.1 ce))
theorem rdiv_add (a b c : Rat) : (a + b) / c = a / c + b / c := by rw [Rat.div_def, Rat.div_def, Rat.div_def, Rat.add_mul]
theorem rdiv_sub (a b c : Rat) : (a - b) / c = a / c - b / c := by rw [Rat.sub_eq_add_neg, Rat.div_def, Rat.add_mul, Rat.neg_mul, Rat.div_def, Rat.div_def, ← Rat.sub_eq_add_neg]
theorem Iv.add {B : Nat} {a b : Int × Int} {x y : Nat → Rat} (h : Iv B a x) (k : Iv B b y) : Iv B (addI a b) (fun M => x M + y M) := by
  have := Has.add h k
  rw [← rdiv_add, ← rdiv_add, ← Rat.intCast_add, ← Rat.intCast_add] at this
  exact this
theorem Iv.sub {B : Nat} {a b : Int × Int} {x y : Nat → Rat} (h : Iv B a x) (k : Iv B b y) : Iv B (subI a b) (fun M => x M - y M) := by
  have := Has.sub h k
  rw [← rdiv_sub, ← rdiv_sub, ← Rat.intCast_sub, ← Rat.intCast_sub] at this
  exact this
theorem Iv.times {B : Nat} {a : Int × Int} {x : Nat → Rat} (h : Iv B a x) (n : Nat) : Iv B (timesI a n) (fun M => (n : Rat) * x M) := by
  have := Has.scale h (c := (n : Rat)) (by exact_mod_cast Nat.zero_le n)
  have e : ∀ z : Int, (n : Rat) * ((z : Rat) / (Q B : Rat)) = ((z * (n : Int) : Int) : Rat) / (Q B : Rat) := fun z => by
    rw [Rat.intCast_mul, Rat.div_def, Rat.div_def, ← Rat.mul_assoc, Rat.mul_comm (n : Rat)]; rfl
  rw [e, e] at this
  exact this
theorem frac_lo {L u n d q : Int} (hd : 0 < d) (hq : 0 < q) (h : L * d ≤ u * n) : (L : Rat) / (q : Rat) ≤ (n : Rat) / (d : Rat) * ((u : Rat) / (q : Rat)) := by
  have q0 : (0 : Rat) < (q : Rat) := by exact_mod_cast hq
  have d0 : (0 : Rat) < (d : Rat) := by exact_mod_cast hd
  have e1 := rdm (a := (u : Rat)) q0
  have e2 := rdm (a := (n : Rat)) d0
  have h1 := cast_le h
  rw [Rat.intCast_mul, Rat.intCast_mul] at h1
  refine rdiv_le q0 ?_
  generalize (u : Rat) / (q : Rat) = U at *
  generalize (n : Rat) / (d : Rat) = V at *
  rw [← e1, ← e2] at h1
  refine Rat.not_lt.1 fun hn => ?_
  have := Rat.mul_pos (show 0 < (L : Rat) - V * U * (q : Rat) by grind) d0
  grind
theorem frac_hi {L u n d q : Int} (hd : 0 < d) (hq : 0 < q) (h : u * n ≤ L * d) : (n : Rat) / (d : Rat) * ((u : Rat) / (q : Rat)) ≤ (L : Rat) / (q : Rat) := by
  have q0 : (0 : Rat) < (q : Rat) := by exact_mod_cast hq
  have d0 : (0 : Rat) < (d : Rat) := by exact_mod_cast hd
  have e1 := rdm (a := (u : Rat)) q0
  have e2 := rdm (a := (n : Rat)) d0
  have h1 := cast_le h
  rw [Rat.intCast_mul, Rat.intCast_mul] at h1
  refine rle_div q0 ?_
  generalize (u : Rat) / (q : Rat) = U at *
  generalize (n : Rat) / (d : Rat) = V at *
  rw [← e1, ← e2] at h1
  refine Rat.not_lt.1 fun hn => ?_
  have := Rat.mul_pos (show 0 < V * U * (q : Rat) - (L : Rat) by grind) d0
  grind
theorem Iv.scale {B : Nat} {a : Int × Int} {x : Nat → Rat} (h : Iv B a x) {n d : Int} (hn : 0 ≤ n) (hd : 0 < d) : Iv B (scaleI a n d) (fun M => (n : Rat) / (d : Rat) * x M) := by
  have q0 : 0 < Q B := by have := Q_pos B; omega
  have d0 : (0 : Rat) < (d : Rat) := by exact_mod_cast hd
  have n0 : (0 : Rat) ≤ (n : Rat) := by exact_mod_cast hn
  have c0 : 0 ≤ (n : Rat) / (d : Rat) := rle_div d0 (by grind)
  exact (Has.scale h c0).mono (frac_lo hd q0 (flo_le (a.1 * n) d hd)) (frac_hi hd q0 (ceil_ge (a.2 * n) d hd))
theorem Iv.of (B : Nat) {n d : Int} (hd : 0 < d) : Iv B (ofI n d B) (fun _ => (n : Rat) / (d : Rat)) := by
  have q0 : 0 < Q B := by have := Q_pos B; omega
  have qr := Qr_pos B
  have e : (n : Rat) / (d : Rat) * ((Q B : Rat) / (Q B : Rat)) = (n : Rat) / (d : Rat) := by
    rw [Rat.div_def (Q B : Rat), Rat.mul_inv_cancel _ (by grind), Rat.mul_one]
  have l := frac_lo hd q0 (L := (ofI n d B).1) (u := Q B) (n := n) (by rw [Int.mul_comm (Q B)]; exact flo_le (n * Q B) d hd)
  have g := frac_hi hd q0 (L := (ofI n d B).2) (u := Q B) (n := n) (by rw [Int.mul_comm (Q B)]; exact ceil_ge (n * Q B) d hd)
  rw [e] at l g
  exact Has.const l g
/-- By fewer bits. -/
theorem Iv.to {B m : Nat} {a : Int × Int} {x : Nat → Rat} (h : Iv (B + m) a x) : Iv B (downI a m) x := by
  have q := Qr_pos B
  have qm := Qr_pos m
  have e : (Q (B + m) : Rat) = (Q B : Rat) * (Q m : Rat) := by rw [Q_add, Rat.intCast_mul]
  have f1 := flo_le a.1 (Q m) (by have := Q_pos m; omega)
  have f2 := ceil_ge a.2 (Q m) (by have := Q_pos m; omega)
  have q2 : 0 < (Q B : Rat) * (Q m : Rat) := Rat.mul_pos q qm
  unfold Iv at h
  rw [e] at h
  refine Has.mono h ?_ ?_
  · have g : (((downI a m).1 * Q m : Int) : Rat) ≤ ((a.1 : Int) : Rat) := cast_le f1
    rw [Rat.intCast_mul] at g
    refine rle_div q2 ?_
    have ea := rdm (a := ((downI a m).1 : Rat)) q
    generalize ((downI a m).1 : Rat) / (Q B : Rat) = U at *
    generalize ((downI a m).1 : Rat) = L at *
    rw [← ea] at g
    grind
  · have g : ((a.2 : Int) : Rat) ≤ (((downI a m).2 * Q m : Int) : Rat) := cast_le f2
    rw [Rat.intCast_mul] at g
    refine rdiv_le q2 ?_
    have ea := rdm (a := ((downI a m).2 : Rat)) q
    generalize ((downI a m).2 : Rat) / (Q B : Rat) = U at *
    generalize ((downI a m).2 : Rat) = L at *
    rw [← ea] at g
    grind
/-- Over a power of 2. -/
theorem Iv.down {B : Nat} {a : Int × Int} {x : Nat → Rat} (h : Iv B a x) (t : Nat) : Iv B (downI a t) (fun M => x M / (Q t : Rat)) := by
  have qt : 0 < Q t := by have := Q_pos t; omega
  have := h.scale (n := 1) (d := Q t) (by omega) qt
  have e : scaleI a 1 (Q t) = downI a t := by simp [scaleI, downI]
  rw [e] at this
  refine Has.of_eq this fun M => ?_
  rw [Rat.div_def, Rat.div_def, Rat.mul_comm]
  simp
theorem Iv.congr {B : Nat} {a : Int × Int} {x y : Nat → Rat} (h : Iv B a x) (k : Null (fun M => y M - x M)) : Iv B a y := Has.congr h k
end Go.Proofs.Ytgmnknmjainabaa

namespace Go.Proofs.Ytgmnknmjainabaa
set_option linter.unusedVariables false
open Ex

theorem Iv.little {B : Nat} {a : Int × Int} {x : Nat → Rat} (h : Iv B a x) {m : Int} (ha : Abs a m) (hm : 4 * m ≤ Q B) : ∃ N, ∀ M, N ≤ M → AB (x M) (1 / 2) := by
  have q := Qr_pos B
  obtain ⟨N, h1⟩ := h (1 / 4) (by grind)
  refine ⟨N, fun M hM => ?_⟩
  have := h1 M hM
  have l1 : -(1 / 4 : Rat) ≤ (a.1 : Rat) / (Q B : Rat) := rle_div q (by
    have : ((-(Q B) : Int) : Rat) ≤ ((4 * a.1 : Int) : Rat) := cast_le (by have := ha.1; omega)
    rw [Rat.intCast_neg, Rat.intCast_mul] at this
    have e4 : ((4 : Int) : Rat) = 4 := rfl
    rw [e4] at this
    grind)
  have l2 : (a.2 : Rat) / (Q B : Rat) ≤ (1 / 4 : Rat) := rdiv_le q (by
    have : ((4 * a.2 : Int) : Rat) ≤ ((Q B : Int) : Rat) := cast_le (by have := ha.2.2.2; omega)
    rw [Rat.intCast_mul] at this
    have e4 : ((4 : Int) : Rat) = 4 := rfl
    rw [e4] at this
    grind)
  constructor <;> grind
end Go.Proofs.Ytgmnknmjainabaa

namespace Go.Proofs.Ytgmnknmjainabaa
set_option linter.unusedVariables false
open Ex

/-- How many bits more some squares take, at most. -/
def eb (i : Nat) : Nat := if i ≤ 10 then 12 else 12 * 2 ^ (i - 10)
end Go.Proofs.Ytgmnknmjainabaa

namespace Go.Proofs.Ytgmnknmjainabaa
set_option linter.unusedVariables false
set_option linter.unusedSimpArgs false
set_option linter.unnecessarySimpa false
open Go.RowKit
attribute [local go_sem ↓] Go.wp_at_zero Go.wp_at_succ

/-- A span in a block that may be written. -/
structure VrC (w : World) (B : Nat) (s : Sp) : Prop where
  c : SpC w B s
  fz : ∀ o, w.frozen? ⟨B, o, none⟩ = false
theorem VrC.lt {w : World} {B : Nat} {s : Sp} (h : VrC w B s) : B < w.heap.size := h.c.lt
theorem VrC.below {w w' : World} {B : Nat} {s : Sp} (h : VrC w B s) (hb : Below w.heap.size w w') : VrC w' B s :=
  ⟨h.c.below hb, fun o => (hb.frozen (p := ⟨B, o, none⟩) h.lt).trans (h.fz o)⟩
abbrev put5w (w : World) (B : Nat) (u : Sp) : World := ((((w.setCell ⟨B, 0, none⟩ (.bool u.ln)).setCell ⟨B, 1, none⟩ (.slice u.la u.lN u.lc)).setCell ⟨B, 2, none⟩ (.bool u.hn)).setCell ⟨B, 3, none⟩ (.slice u.ha u.hN u.hc)).setCell ⟨B, 4, none⟩ (.int .i64 u.bits)
theorem fz_put5 {w : World} {B B' : Nat} (h : ∀ o, w.frozen? ⟨B, o, none⟩ = false) (u : Sp) : ∀ o, (put5w w B' u).frozen? ⟨B, o, none⟩ = false := fun o => by
  show (put5w w B' u).frozen? ⟨B, o, none⟩ = false
  unfold put5w
  rw [frozen_set', frozen_set', frozen_set', frozen_set', frozen_set']; exact h o
/-- Written, it holds what was written. -/
theorem VrC.put {w : World} {B : Nat} {s : Sp} (h : VrC w B s) (u : Sp) : VrC (put5w w B u) B u := by
  refine ⟨?_, fz_put5 h.fz u⟩
  obtain ⟨⟨q0, q1, q2, q3, q4⟩, q5⟩ := h
  constructor <;> simp [go_sem, q0, q1, q2, q3, q4]
theorem SpC.off {w : World} {B B' : Nat} {s : Sp} (h : SpC w B s) (hne : B ≠ B') (u : Sp) : SpC (put5w w B' u) B s := h.put hne _ _ _ _ _
theorem VrC.off {w : World} {B B' : Nat} {s : Sp} (h : VrC w B s) (hne : B ≠ B') (u : Sp) : VrC (put5w w B' u) B s := ⟨h.c.off hne u, fz_put5 h.fz u⟩
theorem NoC.off {w : World} {B B' : Nat} (h : NoC w B) (hne : B ≠ B') (u : Sp) : NoC (put5w w B' u) B := by
  obtain ⟨q0, q1, q2, q3, q4, q5⟩ := h
  exact ⟨cell_put5 q0 hne _ _ _ _ _, cell_put5 q1 hne _ _ _ _ _, cell_put5 q2 hne _ _ _ _ _, cell_put5 q3 hne _ _ _ _ _, cell_put5 q4 hne _ _ _ _ _, fz_put5 q5 u⟩
theorem SpAt.put {w : World} {s : Sp} {k : Nat} {lo hi : Int} (h : SpAt w s k lo hi) {B : Nat} {z : Sp} (hB : SpC w B z) (u : Sp) : SpAt (put5w w B u) s k lo hi := SpAt.put5 h hB.c0 hB.c1 hB.c2 hB.c3 hB.c4 _ _ _ _ _
theorem IntAt.put {w : World} {neg : Bool} {a : Option Addr} {n cap k : Nat} {z : Int} (h : IntAt w neg a n cap k z) {B : Nat} {y : Sp} (hB : SpC w B y) (u : Sp) : IntAt (put5w w B u) neg a n cap k z := IntAt.put5 h hB.c0 hB.c1 hB.c2 hB.c3 hB.c4 _ _ _ _ _
theorem below_put {B B' : Nat} {a w : World} (h : Below B a w) (hB : B ≤ B') (u : Sp) : Below B a (put5w w B' u) := set5 h hB _ _ _ _ _
theorem size_put (w : World) (B : Nat) (u : Sp) : (put5w w B u).heap.size = w.heap.size := by simp [put5w, World.setCell]

/-- Where wide.sum is behind some rounds. -/
structure SumSt (W wr : World) (B5 B6 b K : Nat) (s X Y : Sp) (f : Nat → Int × Int) (i : Nat) : Prop where
  x : VrC wr B5 X
  y : VrC wr B6 Y
  xp : SpAt wr X K (sumI f i).1 (sumI f i).2
  yp : SpAt wr Y K (f i).1 (f i).2
  xb : X.bits = (b : Int)
  yb : Y.bits = (b : Int)
  fs : SpC wr W.heap.size s
  no : NoC wr (W.heap.size + 1)
  be : Below W.heap.size W wr
  l5 : W.heap.size + 1 < B5
  l6 : W.heap.size + 1 < B6
  ne : B5 ≠ B6
theorem SumSt.below {W wr wr' : World} {B5 B6 b K : Nat} {s X Y : Sp} {f : Nat → Int × Int} {i : Nat} (h : SumSt W wr B5 B6 b K s X Y f i) (hb : Below wr.heap.size wr wr') : SumSt W wr' B5 B6 b K s X Y f i :=
  ⟨h.x.below hb, h.y.below hb, h.xp.below hb, h.yp.below hb, h.xb, h.yb, h.fs.below hb, h.no.below hb, bthen h.be hb, h.l5, h.l6, h.ne⟩

end Go.Proofs.Ytgmnknmjainabaa

namespace Go.Proofs.Ytgmnknmjainabaa
set_option linter.unusedVariables false
set_option linter.unusedSimpArgs false
set_option linter.unnecessarySimpa false
open Go.RowKit

theorem div_le_div_pos {a p q : Int} (hp : 0 < p) (hpq : p ≤ q) (ha : 0 ≤ a) : a / q ≤ a / p := by
  have hq : 0 < q := by omega
  have h0 : 0 ≤ a / q := Int.ediv_nonneg ha (by omega)
  rw [Int.le_ediv_iff_mul_le hp]
  have h1 := Int.ediv_mul_le a (show q ≠ 0 by omega)
  have h2 := Int.mul_le_mul_of_nonneg_left hpq h0
  omega
theorem div_le_div_neg {a p q : Int} (hp : 0 < p) (hpq : p ≤ q) (ha : a ≤ 0) : a / p ≤ a / q := by
  have hq : 0 < q := by omega
  have h0 : a / p ≤ 0 := by
    have := Int.ediv_le_ediv hp ha
    simpa using this
  rw [Int.le_ediv_iff_mul_le hq]
  have h1 := Int.ediv_mul_le a (show p ≠ 0 by omega)
  have h2 := Int.mul_le_mul_of_nonneg_left hpq (show 0 ≤ -(a / p) by omega)
  rw [Int.neg_mul, Int.neg_mul] at h2
  omega
theorem over_least {l h p q : Int} (hlh : l ≤ h) (hp : 0 < p) (hpq : p ≤ q) :
    leastZ (pr4 (l / p) (l / q) (h / p) (h / q)) 3 = if l < 0 then l / p else l / q := by
  have m1 : l / p ≤ h / p := Int.ediv_le_ediv hp hlh
  have m2 : l / q ≤ h / q := Int.ediv_le_ediv (by omega) hlh
  have d1 : 0 ≤ l → l / q ≤ l / p := div_le_div_pos hp hpq
  have d2 : l ≤ 0 → l / p ≤ l / q := div_le_div_neg hp hpq
  have d3 : 0 ≤ h → h / q ≤ h / p := div_le_div_pos hp hpq
  have d4 : h ≤ 0 → h / p ≤ h / q := div_le_div_neg hp hpq
  simp only [leastZ, pr4]
  simp
  generalize l / p = A at *
  generalize l / q = B at *
  generalize h / p = C at *
  generalize h / q = D at *
  split <;> split <;> split <;> split <;> omega
theorem over_most {l h p q : Int} (hlh : l ≤ h) (hp : 0 < p) (hpq : p ≤ q) :
    mostZ (pr4 (-(-l / p)) (-(-l / q)) (-(-h / p)) (-(-h / q))) 3 = if h < 0 then -(-h / q) else -(-h / p) := by
  have m1 : -h / p ≤ -l / p := Int.ediv_le_ediv hp (by omega)
  have m2 : -h / q ≤ -l / q := Int.ediv_le_ediv (by omega) (by omega)
  have d1 : 0 ≤ -l → -l / q ≤ -l / p := div_le_div_pos hp hpq
  have d2 : -l ≤ 0 → -l / p ≤ -l / q := div_le_div_neg hp hpq
  have d3 : 0 ≤ -h → -h / q ≤ -h / p := div_le_div_pos hp hpq
  have d4 : -h ≤ 0 → -h / p ≤ -h / q := div_le_div_neg hp hpq
  simp only [mostZ, pr4]
  simp
  generalize -l / p = A at *
  generalize -l / q = B at *
  generalize -h / p = C at *
  generalize -h / q = D at *
  split <;> split <;> split <;> split <;> omega
theorem over_le {l h p q : Int} (hlh : l ≤ h) (hp : 0 < p) (hpq : p ≤ q) :
    (if l < 0 then l / p else l / q) ≤ (if h < 0 then -(-h / q) else -(-h / p)) := by
  have hq : 0 < q := by omega
  have c : ∀ r : Int, 0 < r → h / r ≤ -(-h / r) := by
    intro r hr
    have h1 := Int.ediv_mul_le h (show r ≠ 0 by omega)
    have h2 := Int.ediv_mul_le (-h) (show r ≠ 0 by omega)
    have h3 : (h / r + -h / r) * r ≤ 0 := by rw [Int.add_mul]; omega
    have h4 : h / r + -h / r ≤ 0 := by
      rcases Int.lt_or_le 0 (h / r + -h / r) with h5 | h5
      · have := Int.mul_pos h5 hr; omega
      · exact h5
    omega
  have c1 := c p hp
  have c2 := c q hq
  have m1 : l / p ≤ h / p := Int.ediv_le_ediv hp hlh
  have m2 : l / q ≤ h / q := Int.ediv_le_ediv hq hlh
  have d2 : l ≤ 0 → l / p ≤ l / q := div_le_div_neg hp hpq
  have d3 : 0 ≤ h → h / q ≤ h / p := div_le_div_pos hp hpq
  have d4 : -h ≤ 0 → -h / p ≤ -h / q := div_le_div_neg hp hpq
  split <;> split <;> omega

theorem sq_ltt {x y : Int} (hx : 0 ≤ x) (h : x * x < y * y) (hy : 0 ≤ y) : x < y := by
  rcases Int.lt_or_le x y with h5 | h5
  · exact h5
  · have := Int.mul_le_mul h5 h5 hy hx; omega
/-- The root of a whole number, down. -/
def rtN : Nat → Nat
  | 0 => 0
  | n + 1 => if (rtN n + 1) * (rtN n + 1) ≤ n + 1 then rtN n + 1 else rtN n
def rtZ (x : Int) : Int := (rtN x.toNat : Int)
theorem rtN_spec (n : Nat) : rtN n * rtN n ≤ n ∧ n < (rtN n + 1) * (rtN n + 1) := by
  induction n with
  | zero => simp [rtN]
  | succ n ih =>
    unfold rtN
    split
    · rename_i h
      refine ⟨h, ?_⟩
      have e : (rtN n + 1 + 1) * (rtN n + 1 + 1) = (rtN n + 1) * (rtN n + 1) + 2 * (rtN n + 1) + 1 := by
        rw [Nat.add_mul, Nat.mul_add]; omega
      omega
    · rename_i h
      exact ⟨by omega, by omega⟩
theorem rtZ_nonneg (x : Int) : 0 ≤ rtZ x := by unfold rtZ; omega
theorem rtZ_sq {x : Int} (h : 0 ≤ x) : rtZ x * rtZ x ≤ x ∧ x < (rtZ x + 1) * (rtZ x + 1) := by
  obtain ⟨h1, h2⟩ := rtN_spec x.toNat
  unfold rtZ
  have h3 : ((rtN x.toNat * rtN x.toNat : Nat) : Int) ≤ (x.toNat : Int) := by exact_mod_cast h1
  have h4 : (x.toNat : Int) < (((rtN x.toNat + 1) * (rtN x.toNat + 1) : Nat) : Int) := by exact_mod_cast h2
  rw [Int.toNat_of_nonneg h] at h3 h4
  push_cast at h3 h4
  exact ⟨h3, h4⟩
theorem RootOf.eq {x z : Int} (h : RootOf x z) : z = rtZ x := by
  obtain ⟨h1, h2, h3⟩ := h
  rcases Int.lt_or_le 0 x with hx | hx
  · obtain ⟨h4, h5⟩ := rtZ_sq (x := x) (by omega)
    exact root_uniq h1 (rtZ_nonneg x) (h3 hx).1 (h3 hx).2 h4 h5
  · rw [h2 hx]; unfold rtZ; rw [show x.toNat = 0 by omega]; rfl
/-- The root, up. -/
def rtU (x : Int) : Int := if rtZ x * rtZ x < x then rtZ x + 1 else rtZ x
theorem rtZ_le_rtU {x y : Int} (h : x ≤ y) (h0 : 0 ≤ x) : rtZ x ≤ rtU y := by
  obtain ⟨h1, h2⟩ := rtZ_sq h0
  obtain ⟨h3, h4⟩ := rtZ_sq (x := y) (by omega)
  have h5 : rtZ x < rtZ y + 1 := sq_ltt (rtZ_nonneg x) (by omega) (by have := rtZ_nonneg y; omega)
  unfold rtU
  split <;> omega
end Go.Proofs.Ytgmnknmjainabaa

namespace Go.Proofs.Ytgmnknmjainabaa
set_option linter.unusedVariables false
set_option linter.unusedSimpArgs false
set_option linter.unnecessarySimpa false
open Go.RowKit
attribute [local go_sem ↓] Go.wp_at_zero Go.wp_at_succ

theorem cell_put2 {w : World} {B B' o : Nat} {v : Option Value} (h : w.cell? ⟨B, o, none⟩ = v) (hne : B ≠ B') (u0 u1 : Value) : ((w.setCell ⟨B', 0, none⟩ u0).setCell ⟨B', 1, none⟩ u1).cell? ⟨B, o, none⟩ = v := by
  have ne : ∀ i : Nat, (⟨B', i, none⟩ : Addr) ≠ ⟨B, o, none⟩ := fun i e => hne (by injection e with e1; exact e1.symm)
  rw [World.cell?_setCell_other _ _ _ _ (ne 1), World.cell?_setCell_other _ _ _ _ (ne 0)]
  exact h
theorem cell_put5' {w : World} {B B' o : Nat} {v : Option Value} (h : w.cell? ⟨B, o, none⟩ = v) (hne : B ≠ B') (u0 u1 u2 u3 u4 : Value) :
    (((((w.setCell ⟨B', 0, none⟩ u0).setCell ⟨B', 1, none⟩ u1).setCell ⟨B', 2, none⟩ u2).setCell ⟨B', 3, none⟩ u3).setCell ⟨B', 4, none⟩ u4).cell? ⟨B, o, none⟩ = v := by
  have ne : ∀ i : Nat, (⟨B', i, none⟩ : Addr) ≠ ⟨B, o, none⟩ := fun i e => hne (by injection e with e1; exact e1.symm)
  rw [World.cell?_setCell_other _ _ _ _ (ne 4), World.cell?_setCell_other _ _ _ _ (ne 3), World.cell?_setCell_other _ _ _ _ (ne 2), World.cell?_setCell_other _ _ _ _ (ne 1), World.cell?_setCell_other _ _ _ _ (ne 0)]
  exact h
theorem SpC.put2 {w : World} {B B' : Nat} {s : Sp} (h : SpC w B s) (hne : B ≠ B') (u0 u1 : Value) : SpC ((w.setCell ⟨B', 0, none⟩ u0).setCell ⟨B', 1, none⟩ u1) B s :=
  ⟨cell_put2 h.c0 hne _ _, cell_put2 h.c1 hne _ _, cell_put2 h.c2 hne _ _, cell_put2 h.c3 hne _ _, cell_put2 h.c4 hne _ _⟩
theorem NmC.put2 {w : World} {B B' : Nat} {x : Nm} (h : NmC w B x) (hne : B ≠ B') (u0 u1 : Value) : NmC ((w.setCell ⟨B', 0, none⟩ u0).setCell ⟨B', 1, none⟩ u1) B x :=
  ⟨cell_put2 h.c0 hne _ _, cell_put2 h.c1 hne _ _⟩
theorem NoC.put2 {w : World} {B B' : Nat} (h : NoC w B) (hne : B ≠ B') (u0 u1 : Value) : NoC ((w.setCell ⟨B', 0, none⟩ u0).setCell ⟨B', 1, none⟩ u1) B := by
  obtain ⟨q0, q1, q2, q3, q4, q5⟩ := h
  exact ⟨cell_put2 q0 hne _ _, cell_put2 q1 hne _ _, cell_put2 q2 hne _ _, cell_put2 q3 hne _ _, cell_put2 q4 hne _ _, fun o => by rw [frozen_set', frozen_set']; exact q5 o⟩
theorem SpAt.put2 {w : World} {s : Sp} {k : Nat} {lo hi : Int} (h : SpAt w s k lo hi) {B : Nat} {x0 : Bool} {y0 : Option Addr} {y1 y2 : Nat} (h0 : w.cell? ⟨B, 0, none⟩ = some (.bool x0)) (h1 : w.cell? ⟨B, 1, none⟩ = some (.slice y0 y1 y2)) (u0 u1 : Value) :
    SpAt ((w.setCell ⟨B, 0, none⟩ u0).setCell ⟨B, 1, none⟩ u1) s k lo hi := ⟨h.lo.put2 h0 h1 _ _, h.hi.put2 h0 h1 _ _⟩
theorem cmp_lt_dec (x y : Int) : decide (cmpInt x y < 0) = decide (x < y) := by unfold cmpInt; split <;> (try split) <;> simp <;> omega

end Go.Proofs.Ytgmnknmjainabaa

namespace Go.Proofs.Ytgmnknmjainabaa
set_option linter.unusedVariables false
set_option linter.unusedSimpArgs false
set_option linter.unnecessarySimpa false
open Go.RowKit

theorem hs1 (w : World) (o1 : Obj) : (w.alloc o1).heap.size = w.heap.size + 1 := by simp
variable {W w2 : World} {k1 k2 : Nat} {z1 z2 : Int} {x y : Nm} {T : TypeId}
end Go.Proofs.Ytgmnknmjainabaa

namespace Go.Proofs.Ytgmnknmjainabaa
set_option linter.unusedVariables false
set_option linter.unusedSimpArgs false
set_option linter.unnecessarySimpa false
open Go.RowKit
attribute [local go_sem ↓] Go.wp_at_zero Go.wp_at_succ

theorem NoC.vr {w : World} {B : Nat} (h : NoC w B) (u : Sp) : VrC (put5w w B u) B u := by
  refine ⟨?_, fz_put5 h.fz u⟩
  obtain ⟨q0, q1, q2, q3, q4, q5⟩ := h
  constructor <;> simp [go_sem, q0, q1, q2, q3, q4]
/-- Two variables that were made behind world W. -/
def TwoP (W wx : World) (b k1 k2 : Nat) (a c : Int × Int) (p q : Value) : Prop :=
  ∃ (B B' : Nat) (x y : Sp), p = .pointer (some ⟨B, 0, none⟩) ∧ q = .pointer (some ⟨B', 0, none⟩) ∧ W.heap.size ≤ B ∧ W.heap.size ≤ B' ∧ B ≠ B' ∧ VrC wx B x ∧ VrC wx B' y ∧ SpAt wx x k1 a.1 a.2 ∧ SpAt wx y k2 c.1 c.2 ∧ x.bits = (b : Int) ∧ y.bits = (b : Int) ∧ Below W.heap.size W wx
theorem vr_new (w : World) (x : Sp) (T : TypeId) : VrC (w.alloc (.cells #[.bool x.ln, .slice x.la x.lN x.lc, .bool x.hn, .slice x.ha x.hN x.hc, .int .i64 x.bits] T)) w.heap.size x := ⟨spc_new w x T, fun o => by simp [go_sem]⟩
theorem vr_new' (w : World) (B : Nat) (hB : w.heap.size = B) (x : Sp) (T : TypeId) : VrC (w.alloc (.cells #[.bool x.ln, .slice x.la x.lN x.lc, .bool x.hn, .slice x.ha x.hN x.hc, .int .i64 x.bits] T)) B x := by subst hB; exact vr_new w x T
variable {W w2 : World} {b k1 k2 : Nat} {a c : Int × Int} {x y : Sp} {T : TypeId}
theorem TwoP.swap {wx : World} {p q : Value} (h : TwoP W wx b k1 k2 a c p q) : TwoP W wx b k2 k1 c a q p := by
  obtain ⟨B, B', x, y, h1, h2, h3, h4, h5, h6, h7, h8, h9, h10, h11, h12⟩ := h
  exact ⟨B', B, y, x, h2, h1, h4, h3, fun e => h5 e.symm, h7, h6, h9, h8, h11, h10, h12⟩
end Go.Proofs.Ytgmnknmjainabaa

namespace Go.Proofs.Ytgmnknmjainabaa
set_option linter.unusedVariables false
set_option linter.unusedSimpArgs false
set_option linter.unnecessarySimpa false
open Go.RowKit
attribute [local go_sem ↓] Go.wp_at_zero Go.wp_at_succ

/-- The same signs, the same lengths, the same bits. -/
structure Lk (u s : Sp) : Prop where
  ln : u.ln = s.ln
  lN : u.lN = s.lN
  hn : u.hn = s.hn
  hN : u.hN = s.hN
  bits : u.bits = s.bits
theorem lcopied2 (s : Sp) (d e : Nat → Int) (w : World) (hs : SpDig w s d e) :
    Calls Try.prog 67 #[.agg #[.bool s.ln, .slice s.la s.lN s.lc, .bool s.hn, .slice s.ha s.hN s.hc, .int .i64 s.bits]] w fun r w' => ∃ u : Sp, r = .returned (.agg #[.bool u.ln, .slice u.la u.lN u.lc, .bool u.hn, .slice u.ha u.hN u.hc, .int .i64 u.bits]) ∧ Lk u s ∧ SpDig w' u d e ∧ Below w.heap.size w w' :=
  (lcopiedSpan_any s d e w hs).mono fun _ _ ⟨u, h1, h2, h3, h4, h5, h6, h7, h8, _⟩ => ⟨u, h1, ⟨h2, h3, h4, h5, h6⟩, h7, h8⟩
theorem NoC.spdig {w : World} {B : Nat} (h : NoC w B) {s : Sp} {d e : Nat → Int} (hs : SpDig w s d e) (u : Sp) : SpDig (put5w w B u) s d e := SpDig.put5 hs h.c0 h.c1 h.c2 h.c3 h.c4 _ _ _ _ _
/-- Two variables that were made behind world W. -/
def TwoD (W wx : World) (s t : Sp) (d e d' e' : Nat → Int) (p q : Value) : Prop :=
  ∃ (B B' : Nat) (x y : Sp), p = .pointer (some ⟨B, 0, none⟩) ∧ q = .pointer (some ⟨B', 0, none⟩) ∧ W.heap.size ≤ B ∧ W.heap.size ≤ B' ∧ B ≠ B' ∧ VrC wx B x ∧ VrC wx B' y ∧ SpDig wx x d e ∧ SpDig wx y d' e' ∧ Lk x s ∧ Lk y t ∧ Below W.heap.size W wx
variable {W w2 : World} {s t : Sp} {d e d' e' : Nat → Int} {x y : Sp} {T : TypeId}
theorem twoD_aa (hb : Below W.heap.size W w2) (ix : SpDig w2 x d e) (iy : SpDig w2 y d' e') (bx : Lk x s) (by_ : Lk y t) :
    TwoD W ((w2.alloc (.cells #[.bool x.ln, .slice x.la x.lN x.lc, .bool x.hn, .slice x.ha x.hN x.hc, .int .i64 x.bits] T)).alloc (.cells #[.bool y.ln, .slice y.la y.lN y.lc, .bool y.hn, .slice y.ha y.hN y.hc, .int .i64 y.bits] T)) s t d e d' e' (.pointer (some ⟨w2.heap.size, 0, none⟩)) (.pointer (some ⟨w2.heap.size + 1, 0, none⟩)) :=
  ⟨_, _, x, y, rfl, rfl, hb.size, Nat.le_succ_of_le hb.size, Nat.ne_of_lt (Nat.lt_succ_self _), (vr_new w2 x T).below (bl1 _ _), vr_new' _ _ (by simp) y T, ix.below (bl2 _ _ _), iy.below (bl2 _ _ _), bx, by_, bthen hb (bl2 _ _ _)⟩
theorem TwoD.swap {wx : World} {p q : Value} (h : TwoD W wx s t d e d' e' p q) : TwoD W wx t s d' e' d e q p := by
  obtain ⟨B, B', x, y, h1, h2, h3, h4, h5, h6, h7, h8, h9, h10, h11, h12⟩ := h
  exact ⟨B', B, y, x, h2, h1, h4, h3, fun e => h5 e.symm, h7, h6, h9, h8, h11, h10, h12⟩
theorem twoD_aa' (hb : Below W.heap.size W w2) (ix : SpDig w2 x d e) (iy : SpDig w2 y d' e') (bx : Lk x s) (by_ : Lk y t) :
    TwoD W ((w2.alloc (.cells #[.bool y.ln, .slice y.la y.lN y.lc, .bool y.hn, .slice y.ha y.hN y.hc, .int .i64 y.bits] T)).alloc (.cells #[.bool x.ln, .slice x.la x.lN x.lc, .bool x.hn, .slice x.ha x.hN x.hc, .int .i64 x.bits] T)) s t d e d' e' (.pointer (some ⟨w2.heap.size + 1, 0, none⟩)) (.pointer (some ⟨w2.heap.size, 0, none⟩)) := (twoD_aa hb iy ix by_ bx).swap
theorem twoD_sa {B : Nat} (hb : Below W.heap.size W w2) (ix : SpDig w2 x d e) (iy : SpDig w2 y d' e') (bx : Lk x s) (by_ : Lk y t) (g : NoC w2 B) (h1 : W.heap.size ≤ B) :
    TwoD W ((put5w w2 B x).alloc (.cells #[.bool y.ln, .slice y.la y.lN y.lc, .bool y.hn, .slice y.ha y.hN y.hc, .int .i64 y.bits] T)) s t d e d' e' (.pointer (some ⟨B, 0, none⟩)) (.pointer (some ⟨w2.heap.size, 0, none⟩)) := by
  have hx := g.vr x
  have ix' := g.spdig ix x
  have iy' := g.spdig iy x
  have hl := g.lt
  have hs := size_put w2 B x
  have hb' := below_put hb h1 x
  generalize put5w w2 B x = V at *
  rw [← hs]
  exact ⟨_, _, x, y, rfl, rfl, h1, hb'.size, by omega, hx.below (bl1 _ _), vr_new V y T, ix'.below (bl1 _ _), iy'.below (bl1 _ _), bx, by_, bthen hb' (bl1 _ _)⟩
theorem twoD_as {B : Nat} (hb : Below W.heap.size W w2) (ix : SpDig w2 x d e) (iy : SpDig w2 y d' e') (bx : Lk x s) (by_ : Lk y t) (g : NoC w2 B) (h1 : W.heap.size ≤ B) :
    TwoD W ((put5w w2 B y).alloc (.cells #[.bool x.ln, .slice x.la x.lN x.lc, .bool x.hn, .slice x.ha x.hN x.hc, .int .i64 x.bits] T)) s t d e d' e' (.pointer (some ⟨w2.heap.size, 0, none⟩)) (.pointer (some ⟨B, 0, none⟩)) := (twoD_sa hb iy ix by_ bx g h1).swap
theorem twoD_ss {B B' : Nat} (hb : Below W.heap.size W w2) (ix : SpDig w2 x d e) (iy : SpDig w2 y d' e') (bx : Lk x s) (by_ : Lk y t) (g : NoC w2 B) (g' : NoC w2 B') (h1 : W.heap.size ≤ B) (h2 : W.heap.size ≤ B') (hne : B ≠ B') :
    TwoD W (put5w (put5w w2 B x) B' y) s t d e d' e' (.pointer (some ⟨B, 0, none⟩)) (.pointer (some ⟨B', 0, none⟩)) := by
  have hx := g.vr x
  have ix' := g.spdig ix x
  have iy' := g.spdig iy x
  have g2 := g'.off (Ne.symm hne) x
  have hb' := below_put hb h1 x
  generalize put5w w2 B x = V at *
  exact ⟨_, _, x, y, rfl, rfl, h1, h2, hne, hx.off hne y, g2.vr y, g2.spdig ix' y, g2.spdig iy' y, bx, by_, below_put hb' h2 y⟩
end Go.Proofs.Ytgmnknmjainabaa
