/-
  Choosing; quotients of numbers that are told by sequences; a power over a factorial, over a power of e. Plain arithmetic: no statement of the seat is proved here.
  How great a power of e is made at least; how wide a quotient by it; what is not below 0 and not more than 1. Plain arithmetic: no statement of the seat is proved here.
  Sums of what is nowhere below 0, and soon at most three quarters of the one ahead of it: where they end, what they have, how wide they are. Plain arithmetic: no statement of the seat is proved here.
  The error function, up to what is the same of all: where the number is more it is not less. Plain arithmetic: no statement of the seat is proved here.
  Steps that are as small as one likes: what grows by less than any part of each of them does not grow. Plain arithmetic: no statement of the seat is proved here.
  The angle whose tangent is one over a whole number, four times the right angle's half, and roots of what is told by a sequence. Plain arithmetic: no statement of the seat is proved here.
  The angle whose tangent is a number up to one half: how it grows, the angle of a difference, and the angle whose tangent is 1, in two ways. Plain arithmetic: no statement of the seat is proved here.
-/
import Derived.Test.YtgmnknmjainababGreatK10
namespace Go.Proofs.YtgmnknmjainababGreat
set_option linter.unusedVariables false
open Ex

namespace Ex
theorem lin_le {L y c d a t : Rat} (h1 : L * c ≤ a) (h2 : L * d ≤ a) (g1 : c - t ≤ y) (g2 : y ≤ d + t) (k : Rat) (k1 : L ≤ k) (k2 : -L ≤ k) (ht : 0 ≤ t) : L * y ≤ a + k * t := by
  by_cases hL : 0 ≤ L
  · have := Rat.mul_nonneg hL (show 0 ≤ d + t - y by grind)
    have := Rat.mul_nonneg (show 0 ≤ k - L by grind) ht
    grind
  · have := Rat.mul_nonneg (show 0 ≤ -L by grind) (show 0 ≤ y - (c - t) by grind)
    have := Rat.mul_nonneg (show 0 ≤ k + L by grind) ht
    grind
theorem Has.div {a b c d L U : Rat} {x y : Nat → Rat} (h : Has a b x) (k : Has c d y) (hc : 0 < c) (h1 : L * c ≤ a) (h2 : L * d ≤ a) (h3 : b ≤ U * c) (h4 : b ≤ U * d) : Has L U (fun M => x M / y M) := fun e he => by
  obtain ⟨m, m0, m1, m2, m3, m4⟩ : ∃ m : Rat, 0 < m ∧ L ≤ m ∧ -L ≤ m ∧ U ≤ m ∧ -U ≤ m := by
    refine ⟨1 + (if 0 ≤ L then L else -L) + (if 0 ≤ U then U else -U), ?_, ?_, ?_, ?_, ?_⟩ <;> split <;> split <;> grind
  have m5 : (0 : Rat) < 2 * (1 + m) := by grind
  have hec : 0 < e * c := Rat.mul_pos he hc
  obtain ⟨t, t0, t1, t2⟩ : ∃ t : Rat, 0 < t ∧ 2 * t ≤ c ∧ t * (2 * (1 + m)) ≤ e * c := by
    have f := rdm (a := e * c) m5
    have f0 := rdiv_pos hec m5
    by_cases hh : e * c / (2 * (1 + m)) ≤ c / 2
    · exact ⟨e * c / (2 * (1 + m)), f0, by grind, by grind⟩
    · refine ⟨c / 2, by grind, by grind, ?_⟩
      have := Rat.mul_nonneg (show 0 ≤ e * c / (2 * (1 + m)) - c / 2 by grind) (show 0 ≤ 2 * (1 + m) by grind)
      grind
  obtain ⟨N1, g1⟩ := h t t0
  obtain ⟨N2, g2⟩ := k t t0
  refine ⟨N1 + N2, fun M hM => ?_⟩
  obtain ⟨p1, p2⟩ := g1 M (by omega)
  obtain ⟨q1, q2⟩ := g2 M (by omega)
  have y0 : 0 < y M := by grind
  have ey : e * c ≤ 2 * (e * y M) := by
    have := Rat.mul_nonneg (Rat.le_of_lt he) (show 0 ≤ 2 * y M - c by grind)
    grind
  constructor
  · refine rle_div y0 ?_
    have := lin_le h1 h2 q1 q2 m m1 m2 (Rat.le_of_lt t0)
    grind
  · refine rdiv_le y0 ?_
    have := lin_le (L := -U) (a := -b) (by grind) (by grind) q1 q2 m (by grind) (by grind) (Rat.le_of_lt t0)
    grind
end Ex
theorem Iv.div {B : Nat} {s t : Int × Int} {x y : Nat → Rat} (h : Iv B s x) (k : Iv B t y) (h0 : 0 < t.1) {lo hi : Int} (h1 : lo * t.1 ≤ s.1 * Q B) (h2 : lo * t.2 ≤ s.1 * Q B) (h3 : s.2 * Q B ≤ hi * t.1) (h4 : s.2 * Q B ≤ hi * t.2) : Iv B (lo, hi) (fun M => x M / y M) := by
  have q := Qr_pos B
  have t0 : (0 : Rat) < (t.1 : Rat) := by exact_mod_cast h0
  have key : ∀ {u v z : Int}, u * v ≤ z * Q B → (u : Rat) / (Q B : Rat) * ((v : Rat) / (Q B : Rat)) ≤ (z : Rat) / (Q B : Rat) := fun {u v z} hh => mul_hi (by have := Q_pos B; omega) hh
  have key2 : ∀ {u v z : Int}, z * Q B ≤ u * v → (z : Rat) / (Q B : Rat) ≤ (u : Rat) / (Q B : Rat) * ((v : Rat) / (Q B : Rat)) := fun {u v z} hh => mul_lo (by have := Q_pos B; omega) hh
  exact Has.div h k (rdiv_pos t0 q) (key h1) (key h2) (key2 h3) (key2 h4)
/-- A quotient of what is not below 0 and what is more than 0. -/
theorem dv_pos {lo hi lo' hi' : Int} {b : Nat} (h0 : 0 ≤ lo) (h1 : lo ≤ hi) (h2 : 0 < lo') (h3 : lo' ≤ hi') : dvLo lo hi lo' hi' b = lo * Q b / hi' ∧ dvHi lo hi lo' hi' b = -(-(hi * Q b) / lo') := by
  have q := Q_pos b
  have p1 := Int.mul_nonneg h0 (show 0 ≤ Q b by omega)
  have p2 := Int.mul_nonneg (show 0 ≤ hi by omega) (show 0 ≤ Q b by omega)
  unfold dvLo dvHi ovLo ovHi
  rw [if_neg (by omega), if_neg (by omega), if_neg (by omega), if_neg (by omega)]
  exact ⟨rfl, rfl⟩
theorem dv_ceil (a : Int) {d : Int} (hd : 0 < d) : a ≤ -(-a / d) * d := by
  have := Int.ediv_mul_le (-a) (show d ≠ 0 by omega)
  rw [Int.neg_mul]; omega
theorem dv_floor (a : Int) {d : Int} (hd : 0 < d) : a / d * d ≤ a := Int.ediv_mul_le a (by omega)
theorem Iv.dv {B : Nat} {s t : Int × Int} {x y : Nat → Rat} (h : Iv B s x) (k : Iv B t y) (hs : 0 ≤ s.1) (h0 : 0 < t.1) : Iv B (dvLo s.1 s.2 t.1 t.2 B, dvHi s.1 s.2 t.1 t.2 B) (fun M => x M / y M) := by
  have hs2 := h.le
  have ht2 := k.le
  have q := Q_pos B
  obtain ⟨e1, e2⟩ := dv_pos (b := B) hs hs2 h0 ht2
  rw [e1, e2]
  have p1 := Int.mul_nonneg hs (show 0 ≤ Q B by omega)
  have l0 : 0 ≤ s.1 * Q B / t.2 := Int.ediv_nonneg p1 (by omega)
  have f1 := dv_floor (s.1 * Q B) (show 0 < t.2 by omega)
  have f2 := dv_ceil (s.2 * Q B) h0
  have p2 := Int.mul_nonneg (show 0 ≤ s.2 by omega) (show 0 ≤ Q B by omega)
  have u0 : 0 ≤ -(-(s.2 * Q B) / t.1) := by
    have : -(s.2 * Q B) / t.1 ≤ 0 := Int.ediv_nonpos_of_nonpos_of_neg (by omega) h0
    omega
  have g1 := Int.mul_le_mul_of_nonneg_left ht2 l0
  have g2 := Int.mul_le_mul_of_nonneg_left ht2 u0
  exact h.div k h0 (by omega) f1 f2 (by omega)
end Go.Proofs.YtgmnknmjainababGreat

namespace Go.Proofs.YtgmnknmjainababGreat
set_option linter.unusedVariables false
open Ex

theorem mulI_nonneg {B : Nat} {a b : Int × Int} (ha : 0 ≤ a.1) (ha2 : 0 ≤ a.2) (hb : 0 ≤ b.1) (hb2 : 0 ≤ b.2) : 0 ≤ (mulI B a b).1 := by
  have q := Q_pos B
  obtain ⟨_, _, _, _, h⟩ := least4 (a.1 * b.1) (a.1 * b.2) (a.2 * b.1) (a.2 * b.2)
  have p1 := Int.mul_nonneg ha hb
  have p2 := Int.mul_nonneg ha hb2
  have p3 := Int.mul_nonneg ha2 hb
  have p4 := Int.mul_nonneg ha2 hb2
  exact Int.ediv_nonneg (by omega) (by omega)
theorem expT_nonneg {B : Nat} {sm : Int × Int} (h : 0 ≤ sm.1) (h2 : sm.1 ≤ sm.2) (n : Nat) : 0 ≤ (expT B sm n).1 := by
  induction n with
  | zero => have := Q_pos B; show 0 ≤ Q B; omega
  | succ n ih =>
    have hl := expT_le B sm n
    have h3 := mulI_nonneg (B := B) (a := expT B sm n) (b := sm) ih (by omega) h (by omega)
    show 0 ≤ (scaleI (mulI B (expT B sm n) sm) 1 ((n : Int) + 1)).1
    unfold scaleI
    exact Int.ediv_nonneg (by omega) (by omega)
theorem sumI_low {B : Nat} {sm : Int × Int} (h : 0 ≤ sm.1) (h2 : sm.1 ≤ sm.2) (n : Nat) : Q B ≤ (sumI (expT B sm) n).1 := by
  induction n with
  | zero => exact Int.le_refl _
  | succ n ih =>
    have := expT_nonneg (B := B) h h2 (n + 1)
    show Q B ≤ (addI (sumI (expT B sm) n) (expT B sm (n + 1))).1
    unfold addI
    simp only []
    omega
theorem done_low {B N : Nat} {sm : Int × Int} (h : 0 ≤ sm.1) (h2 : sm.1 ≤ sm.2) (hN : IsStop (expT B sm) N) : Q B - 1 ≤ (doneI (expT B sm) N).1 := by
  have h3 := sumI_low (B := B) h h2 N
  have h4 := hN.1
  unfold doneI addI
  simp only []
  omega
theorem sq_low {B : Nat} {d : Int × Int} (hd : d.1 ≤ d.2) (t : Nat) (hq : Q t ≤ Q B) (h : Q B - 1 ≤ d.1) : Q B - Q t ≤ (sqI B d t).1 ∧ (sqI B d t).1 ≤ (sqI B d t).2 := by
  have q := Q_pos B
  induction t with
  | zero => exact ⟨h, hd⟩
  | succ t ih =>
    have e : Q (t + 1) = 2 * Q t := rfl
    have qt := Q_pos t
    obtain ⟨i1, i2⟩ := ih (by omega)
    refine ⟨?_, mulI_le B⟩
    show Q B - Q (t + 1) ≤ (mulI B (sqI B d t) (sqI B d t)).1
    generalize sqI B d t = a at *
    obtain ⟨_, _, _, _, hh⟩ := least4 (a.1 * a.1) (a.1 * a.2) (a.2 * a.1) (a.2 * a.2)
    have c0 : 0 ≤ a.1 := by omega
    have m1 := Int.mul_le_mul_of_nonneg_left i2 c0
    have m2 := Int.mul_le_mul_of_nonneg_right i2 c0
    have m3 := Int.mul_le_mul i2 i2 c0 (by omega)
    have m4 := Int.mul_le_mul i1 i1 (by omega) c0
    have e2 : (Q B - Q t) * (Q B - Q t) = (Q B - 2 * Q t) * Q B + Q t * Q t := by grind
    have m5 := Int.mul_nonneg (show 0 ≤ Q t by omega) (show 0 ≤ Q t by omega)
    have m6 : (Q B - Q (t + 1)) * Q B ≤ leastZ (pr4 (a.1 * a.1) (a.1 * a.2) (a.2 * a.1) (a.2 * a.2)) 3 := by rw [e]; omega
    exact Int.le_ediv_of_mul_le (by omega) m6
/-- What wide.Exp makes of what is not below 0 is more than a half. -/
theorem exp_low {B N t : Nat} {a : Int × Int} (ha : 0 ≤ a.1) (hl : a.1 ≤ a.2) (ht : t ≤ 17) (hB : 40 ≤ B) (hN : IsStop (expT B (downI a t)) N) : Q B + 1 ≤ 2 * (sqI B (doneI (expT B (downI a t)) N) t).1 := by
  have q := Q_pos t
  have hs : 0 ≤ (downI a t).1 := Int.ediv_nonneg ha (by omega)
  have hsl : (downI a t).1 ≤ (downI a t).2 := by
    have := scaleI_le (a := a) (n := 1) (d := Q t) hl (by omega) (by omega)
    simpa [scaleI, downI] using this
  have h1 := done_low hs hsl hN
  have h2 := sq_low (B := B) (done_le (expT_le B (downI a t)) N) t (Q_mono (by omega)) h1
  have h3 := Q_mono (show t ≤ 17 by omega)
  have h4 := Q_mono (show 40 ≤ B by omega)
  have e1 : Q 17 = 131072 := rfl
  have e2 : Q 40 = 1099511627776 := rfl
  omega
theorem one_iv (B : Nat) : Iv B (Q B, Q B) (fun _ => 1) := by
  have h := (Iv.of B (n := 1) (d := 1) (by decide))
  have e : ofI 1 1 B = (Q B, Q B) := by unfold ofI; simp only [Int.ediv_one, Int.neg_neg, Int.one_mul]
  rw [e] at h
  have e2 : ((1 : Int) : Rat) / ((1 : Int) : Rat) = 1 := by decide +kernel
  rw [e2] at h
  exact h
/-- A span of a number that is not more than 1, without what is. -/
theorem Iv.cap {B : Nat} {a : Int × Int} {x : Nat → Rat} (h : Iv B a x) (N0 : Nat) (hx : ∀ M, N0 ≤ M → x M ≤ 1) : Iv B (a.1, if a.2 ≤ Q B then a.2 else Q B) x := by
  split
  · exact h
  · intro e he
    obtain ⟨N, hN⟩ := h e he
    refine ⟨N + N0, fun M hM => ?_⟩
    have g := (hN M (by omega)).1
    have g2 := hx M (by omega)
    have q := Qr_pos B
    have e1 : (Q B : Rat) / (Q B : Rat) = 1 := by rw [Rat.div_def, Rat.mul_inv_cancel _ (by grind)]
    simp only []
    rw [e1]
    constructor <;> grind
namespace Ex
end Ex
theorem rat_nonneg {p q : Int} (hp : 0 ≤ p) (hq : 0 < q) : (0 : Rat) ≤ (p : Rat) / (q : Rat) := by
  have q0 : (0 : Rat) < (q : Rat) := by exact_mod_cast hq
  have p0 : (0 : Rat) ≤ (p : Rat) := by exact_mod_cast hp
  refine rle_div q0 ?_
  grind
end Go.Proofs.YtgmnknmjainababGreat

namespace Go.Proofs.YtgmnknmjainababGreat
set_option linter.unusedVariables false
open Ex

/-- The numbers of wide.rising's sum. -/
def riT (a : Int × Int) (u d : Nat → Int) : Nat → Int × Int
  | 0 => a
  | n + 1 => scaleI (riT a u d n) (u (n + 1)) (d (n + 1))
/-- Where it ends. -/
def IsRise (f : Nat → Int × Int) (turn N : Nat) : Prop := turn ≤ N ∧ (f N).2 ≤ 3 ∧ ∀ j, j < N → j < turn ∨ 3 < (f j).2
/-- And what comes of it. -/
def riseI (f : Nat → Int × Int) (N : Nat) : Int × Int := addI (sumI f N) (0, 9)
/-- Numbers from 0 on, over numbers more than 0. -/
structure RiOk (u d : Nat → Int) : Prop where
  u0 : ∀ n, 0 ≤ u n
  d0 : ∀ n, 0 < d n
theorem riT_le {a : Int × Int} {u d : Nat → Int} (h : RiOk u d) (ha : a.1 ≤ a.2) (n : Nat) : (riT a u d n).1 ≤ (riT a u d n).2 := by
  induction n with
  | zero => exact ha
  | succ n ih => exact scaleI_le ih (h.d0 _) (h.u0 _)
theorem riT_nonneg {a : Int × Int} {u d : Nat → Int} (h : RiOk u d) (ha : 0 ≤ a.1) (n : Nat) : 0 ≤ (riT a u d n).1 := by
  induction n with
  | zero => exact ha
  | succ n ih => exact Int.ediv_nonneg (Int.mul_nonneg ih (h.u0 _)) (by have := h.d0 (n + 1); omega)
theorem dv_floor2 (a : Int) {d : Int} (hd : 0 < d) : a < (a / d + 1) * d := Int.lt_ediv_add_one_mul_self _ hd
/-- Three quarters, rounded up. -/
theorem fall34 {x u d : Int} (hd : 0 < d) (hx : 0 ≤ x) (h : 4 * u ≤ 3 * d) : 4 * -(-(x * u) / d) ≤ 3 * x + 3 := by
  have h1 := Int.mul_le_mul_of_nonneg_left h hx
  have h2 := dv_floor2 (-(x * u)) hd
  refine Int.not_lt.1 fun hn => ?_
  obtain ⟨c, hc⟩ : ∃ c, c = -(-(x * u) / d) := ⟨_, rfl⟩
  have h3 : (c - 1) * d < x * u := by
    have e : (-(x * u) / d + 1) * d = -((c - 1) * d) := by rw [hc]; grind
    omega
  rw [← hc] at hn
  have h4 := Int.mul_le_mul_of_nonneg_right (show 3 * x + 4 ≤ 4 * c by omega) (show 0 ≤ d by omega)
  have e1 : (3 * x + 4) * d = 3 * x * d + 4 * d := by grind
  have e2 : 4 * c * d = 4 * ((c - 1) * d) + 4 * d := by grind
  have e3 : x * (4 * u) = 4 * (x * u) := by grind
  have e4 : x * (3 * d) = 3 * x * d := by grind
  omega
theorem rise_steps {g : Nat → Int} (h : ∀ j, 4 * g (j + 1) ≤ 3 * g j + 3) : ∀ (H j : Nat), g j - 3 < Q H → ∃ i, i ≤ j + 3 * H ∧ j ≤ i ∧ g i ≤ 3 := by
  intro H
  induction H with
  | zero =>
    intro j hj
    have e : Q 0 = 1 := rfl
    exact ⟨j, by omega, Nat.le_refl _, by omega⟩
  | succ H ih =>
    intro j hj
    have e : Q (H + 1) = 2 * Q H := rfl
    have q := Q_pos H
    have h1 := h j
    have h2 := h (j + 1)
    have h3 := h (j + 2)
    obtain ⟨i, i1, i2, i3⟩ := ih (j + 3) (by rw [show j + 3 = j + 2 + 1 by omega]; rw [show j + 2 = j + 1 + 1 by omega] at *; omega)
    exact ⟨i, by omega, by omega, i3⟩
theorem rise_ex {a : Int × Int} {u d : Nat → Int} {turn H : Nat} (h : RiOk u d) (ha : 0 ≤ a.1) (hl : a.1 ≤ a.2) (h34 : ∀ n, turn ≤ n → 4 * u (n + 1) ≤ 3 * d (n + 1)) (hH : (riT a u d turn).2 - 3 < Q H) : ∃ N, N ≤ turn + 3 * H ∧ IsRise (riT a u d) turn N := by
  have hg : ∀ j, 4 * (riT a u d (turn + (j + 1))).2 ≤ 3 * (riT a u d (turn + j)).2 + 3 := fun j => by
    have h0 := riT_nonneg h ha (turn + j)
    have h1 := riT_le h hl (turn + j)
    exact fall34 (x := (riT a u d (turn + j)).2) (h.d0 (turn + j + 1)) (by omega) (h34 (turn + j) (by omega))
  obtain ⟨i, i1, i2, i3⟩ := rise_steps hg H 0 hH
  obtain ⟨N, n1, n2, n3⟩ := exists_least (p := fun N => turn ≤ N ∧ (riT a u d N).2 ≤ 3) (K := turn + i) ⟨by omega, i3⟩
  refine ⟨N, by omega, n2.1, n2.2, fun j hj => ?_⟩
  have := n3 j hj
  by_cases ht : j < turn
  · exact Or.inl ht
  · exact Or.inr (Int.not_le.1 fun hh => this ⟨by omega, hh⟩)
/-- The numbers themselves. -/
def riV (x : Nat → Rat) (u d : Nat → Int) : Nat → Nat → Rat
  | 0, M => x M
  | n + 1, M => (u (n + 1) : Rat) / (d (n + 1) : Rat) * riV x u d n M
theorem riT_has {B : Nat} {a : Int × Int} {x : Nat → Rat} {u d : Nat → Int} (h : RiOk u d) (hx : Iv B a x) (n : Nat) : Iv B (riT a u d n) (fun M => riV x u d n M) := by
  induction n with
  | zero => exact hx
  | succ n ih => exact ih.scale (h.u0 _) (h.d0 _)
theorem riV_nonneg {x : Nat → Rat} {u d : Nat → Int} (h : RiOk u d) {M : Nat} (hx : 0 ≤ x M) (n : Nat) : 0 ≤ riV x u d n M := by
  induction n with
  | zero => exact hx
  | succ n ih =>
    have h1 := rat_nonneg (h.u0 (n + 1)) (h.d0 (n + 1))
    exact Rat.mul_nonneg h1 ih
theorem riV_fall {x : Nat → Rat} {u d : Nat → Int} (h : RiOk u d) {M : Nat} (hx : 0 ≤ x M) {n : Nat} (h34 : 4 * u (n + 1) ≤ 3 * d (n + 1)) : 4 * riV x u d (n + 1) M ≤ 3 * riV x u d n M := by
  have h0 := riV_nonneg h hx n
  have d0 : (0 : Rat) < (d (n + 1) : Rat) := by exact_mod_cast h.d0 (n + 1)
  have h1 : (u (n + 1) : Rat) / (d (n + 1) : Rat) ≤ 3 / 4 := by
    refine rdiv_le d0 ?_
    have := cast_le h34
    rw [Rat.intCast_mul, Rat.intCast_mul, show ((4 : Int) : Rat) = 4 from rfl, show ((3 : Int) : Rat) = 3 from rfl] at this
    grind
  have h2 := Rat.mul_nonneg (show 0 ≤ 3 / 4 - (u (n + 1) : Rat) / (d (n + 1) : Rat) by grind) h0
  show 4 * ((u (n + 1) : Rat) / (d (n + 1) : Rat) * riV x u d n M) ≤ _
  grind
/-- What wide.rising makes has the whole sum. -/
theorem rise_has {B N : Nat} {f : Nat → Int × Int} {g : Nat → Nat → Rat} (h : ∀ n, Iv B (f n) (fun M => g n M)) (hN : (f N).2 ≤ 3) (M0 : Nat) (h0 : ∀ M, M0 ≤ M → ∀ n, 0 ≤ g n M) (hh : ∀ M, M0 ≤ M → ∀ n, N ≤ n → 4 * g (n + 1) M ≤ 3 * g n M) : Iv B (riseI f N) (fun M => S (fun k => g k M) M) := by
  have hs : ∀ n, Iv B (sumI f n) (fun M => S (fun k => g k M) (n + 1)) := fun n => by
    induction n with
    | zero =>
      refine (h 0).congr (null_zero.of_eq fun M => ?_)
      show S (fun k => g k M) 1 - g 0 M = 0
      have e : S (fun k => g k M) 1 = 0 + g 0 M := rfl
      rw [e]; grind
    | succ n ih => exact ih.add (h (n + 1))
  have ht : ∀ M, M0 ≤ M → ∀ i, 0 ≤ S (fun k => g k M) (N + 1 + i) - S (fun k => g k M) (N + 1) ∧ S (fun k => g k M) (N + 1 + i) - S (fun k => g k M) (N + 1) + 3 * g (N + i) M ≤ 3 * g N M := fun M hM i => by
    induction i with
    | zero => constructor <;> (show _ ≤ _; simp only [Nat.add_zero]; grind)
    | succ i ih =>
      have e : S (fun k => g k M) (N + 1 + (i + 1)) = S (fun k => g k M) (N + 1 + i) + g (N + 1 + i) M := rfl
      have h1 := h0 M hM (N + 1 + i)
      have h2 := hh M hM (N + i) (by omega)
      rw [show N + i + 1 = N + 1 + i by omega] at h2
      rw [e, show N + (i + 1) = N + 1 + i by omega]
      constructor <;> grind
  have q := Qr_pos B
  intro e he
  obtain ⟨N1, g1⟩ := hs N (e / 4) (by grind)
  obtain ⟨N2, g2⟩ := h N (e / 4) (by grind)
  refine ⟨M0 + N1 + N2 + N + 1, fun M hM => ?_⟩
  obtain ⟨a1, a2⟩ := g1 M (by omega)
  obtain ⟨b1, b2⟩ := g2 M (by omega)
  obtain ⟨t1, t2⟩ := ht M (by omega) (M - (N + 1))
  have t3 := h0 M (by omega) (N + (M - (N + 1)))
  rw [show N + 1 + (M - (N + 1)) = M by omega] at t1 t2
  have c2 : ((f N).2 : Rat) / (Q B : Rat) ≤ ((3 : Int) : Rat) / (Q B : Rat) := rdiv_le q (by rw [rdm q]; exact cast_le hN)
  have e1 : (((riseI f N).1 : Int) : Rat) / (Q B : Rat) = ((sumI f N).1 : Rat) / (Q B : Rat) := by
    unfold riseI addI; simp only []; rw [Int.add_zero]
  have e2 : (((riseI f N).2 : Int) : Rat) / (Q B : Rat) = ((sumI f N).2 : Rat) / (Q B : Rat) + 3 * (((3 : Int) : Rat) / (Q B : Rat)) := by
    unfold riseI addI; simp only []
    rw [Rat.intCast_add, rdiv_add]
    congr 1
    have e9 : ((9 : Int) : Rat) = 3 * ((3 : Int) : Rat) := by decide +kernel
    rw [e9, Rat.div_def, Rat.div_def, Rat.mul_assoc]
  simp only [] at a1 a2 b1 b2
  rw [e1, e2]
  constructor <;> grind
/-- The whole sum. -/
def riS (x : Nat → Rat) (u d : Nat → Int) (M : Nat) : Rat := S (fun k => riV x u d k M) M
theorem rising_has {B N turn : Nat} {a : Int × Int} {x : Nat → Rat} {u d : Nat → Int} (h : RiOk u d) (hx : Iv B a x) (M0 : Nat) (hx0 : ∀ M, M0 ≤ M → 0 ≤ x M) (h34 : ∀ n, turn ≤ n → 4 * u (n + 1) ≤ 3 * d (n + 1)) (hN : IsRise (riT a u d) turn N) : Iv B (riseI (riT a u d) N) (riS x u d) :=
  rise_has (fun n => riT_has h hx n) hN.2.1 M0 (fun M hM n => riV_nonneg h (hx0 M hM) n) (fun M hM n hn => riV_fall h (hx0 M hM) (h34 n (Nat.le_trans hN.1 hn)))
end Go.Proofs.YtgmnknmjainababGreat

namespace Go.Proofs.YtgmnknmjainababGreat.Ex
set_option linter.unusedVariables false

/-- The numbers of the series: x, that times 2 x^2 over 3, and so on. -/
def eT (x : Rat) : Nat → Rat
  | 0 => x
  | n + 1 => 2 * (x * x) / (2 * ((n : Rat) + 1) + 1) * eT x n
/-- How fast each grows. -/
def eD (x : Rat) : Nat → Rat
  | 0 => 1
  | n + 1 => 2 * x * eT x n
theorem odd_pos (n : Nat) : (0 : Rat) < 2 * ((n : Rat) + 1) + 1 := by have := pos1 n; grind
theorem eT_succ (x : Rat) (n : Nat) : (2 * ((n : Rat) + 1) + 1) * eT x (n + 1) = 2 * (x * x) * eT x n := by
  have h := odd_pos n
  show (2 * ((n : Rat) + 1) + 1) * (2 * (x * x) / (2 * ((n : Rat) + 1) + 1) * eT x n) = _
  have e := rdm (a := 2 * (x * x)) h
  have : (2 * ((n : Rat) + 1) + 1) * (2 * (x * x) / (2 * ((n : Rat) + 1) + 1) * eT x n) = (2 * (x * x) / (2 * ((n : Rat) + 1) + 1) * (2 * ((n : Rat) + 1) + 1)) * eT x n := by grind
  rw [this, e]
theorem eT_nonneg {x : Rat} (h : 0 ≤ x) (n : Nat) : 0 ≤ eT x n := by
  induction n with
  | zero => exact h
  | succ n ih =>
    have h1 := odd_pos n
    have h2 := eT_succ x n
    have h3 := Rat.mul_nonneg (Rat.mul_nonneg h h) ih
    refine Rat.le_of_mul_le_mul_left (c := 2 * ((n : Rat) + 1) + 1) ?_ h1
    grind
theorem eD_mul (x : Rat) (n : Nat) : eD x n * x = (2 * (n : Rat) + 1) * eT x n := by
  cases n with
  | zero => show 1 * x = (2 * ((0 : Nat) : Rat) + 1) * x; grind
  | succ n =>
    have h := eT_succ x n
    show 2 * x * eT x n * x = (2 * ((n + 1 : Nat) : Rat) + 1) * eT x (n + 1)
    have e : ((n + 1 : Nat) : Rat) = (n : Rat) + 1 := by push_cast; rfl
    rw [e]; grind
theorem eD_nonneg {x : Rat} (h : 0 ≤ x) (n : Nat) : 0 ≤ eD x n := by
  cases n with
  | zero => show (0 : Rat) ≤ 1; grind
  | succ n => exact Rat.mul_nonneg (Rat.mul_nonneg (by grind) h) (eT_nonneg h n)
theorem eT_grow {x h : Rat} (hx : 0 ≤ x) (hh : 0 ≤ h) (n : Nat) : eT x n + h * eD x n ≤ eT (x + h) n := by
  induction n with
  | zero => show x + h * 1 ≤ x + h; grind
  | succ n ih =>
    have p := odd_pos n
    have t0 := eT_nonneg hx n
    have d0 := eD_nonneg hx n
    have e1 := eT_succ x n
    have e2 := eT_succ (x + h) n
    have e3 := eD_mul x n
    have s1 : x * x + 2 * (x * h) ≤ (x + h) * (x + h) := by have := Rat.mul_nonneg hh hh; grind
    have q0 := Rat.mul_nonneg hx hx
    have q1 := Rat.mul_nonneg hx hh
    have y0 : 0 ≤ (x + h) * (x + h) := by have := Rat.mul_nonneg hh hh; grind
    have m1 := Rat.mul_le_mul_of_nonneg_left ih y0
    have u0 : 0 ≤ eT x n + h * eD x n := by have := Rat.mul_nonneg hh d0; grind
    have m2 := Rat.mul_le_mul_of_nonneg_right s1 u0
    refine Rat.le_of_mul_le_mul_left (c := 2 * ((n : Rat) + 1) + 1) ?_ p
    show (2 * ((n : Rat) + 1) + 1) * (eT x (n + 1) + h * (2 * x * eT x n)) ≤ _
    rw [e2]
    -- what is left: 2 (x x + 2 x h) (T + h D) is at least it
    have k1 := Rat.mul_nonneg q1 (Rat.mul_nonneg hh d0)
    have k2 : x * x * (h * eD x n) = h * x * ((2 * (n : Rat) + 1) * eT x n) := by rw [← e3]; grind
    have k3 : (x * x + 2 * (x * h)) * (eT x n + h * eD x n) = x * x * eT x n + x * x * (h * eD x n) + 2 * (x * h) * eT x n + 2 * (x * h * (h * eD x n)) := by grind
    rw [k3, k2] at m2
    have k4 : (2 * ((n : Rat) + 1) + 1) * (eT x (n + 1) + h * (2 * x * eT x n)) = 2 * (x * x) * eT x n + (2 * ((n : Rat) + 1) + 1) * (h * (2 * x * eT x n)) := by rw [← e1]; grind
    rw [k4]
    grind
/-- The series. -/
def eS (x : Rat) (M : Nat) : Rat := S (eT x) M
theorem eS_nonneg {x : Rat} (h : 0 ≤ x) (M : Nat) : 0 ≤ eS x M := by
  induction M with
  | zero => show (0 : Rat) ≤ 0; grind
  | succ n ih => have := eT_nonneg h n; show 0 ≤ eS x n + eT x n; grind
theorem eS_grow {x h : Rat} (hx : 0 ≤ x) (hh : 0 ≤ h) (M : Nat) : eS x (M + 1) + h * (1 + 2 * x * eS x M) ≤ eS (x + h) (M + 1) := by
  induction M with
  | zero => show (0 + x) + h * (1 + 2 * x * 0) ≤ 0 + (x + h); grind
  | succ n ih =>
    have g := eT_grow hx hh (n + 1)
    show eS x (n + 1) + eT x (n + 1) + h * (1 + 2 * x * (eS x n + eT x n)) ≤ eS (x + h) (n + 1) + eT (x + h) (n + 1)
    have e : eD x (n + 1) = 2 * x * eT x n := rfl
    rw [e] at g
    grind
theorem eT_mono {x y : Rat} (hx : 0 ≤ x) (hxy : x ≤ y) (n : Nat) : eT x n ≤ eT y n := by
  have h := eT_grow hx (show 0 ≤ y - x by grind) n
  have d := Rat.mul_nonneg (show 0 ≤ y - x by grind) (eD_nonneg hx n)
  rw [show x + (y - x) = y by grind] at h
  grind
theorem eS_mono {x y : Rat} (hx : 0 ≤ x) (hxy : x ≤ y) (M : Nat) : eS x M ≤ eS y M := by
  induction M with
  | zero => show (0 : Rat) ≤ 0; grind
  | succ n ih => have := eT_mono hx hxy n; show eS x n + eT x n ≤ eS y n + eT y n; grind
theorem eT_tm {x : Rat} (hx : 0 ≤ x) (n : Nat) : eT x n ≤ x * tm (x * x) n := by
  induction n with
  | zero => show x ≤ x * 1; grind
  | succ n ih =>
    have p := odd_pos n
    have p1 := pos1 n
    have e1 := eT_succ x n
    have e2 := tm_succ (x * x) n
    have q := Rat.mul_nonneg hx hx
    have m := Rat.mul_le_mul_of_nonneg_left ih q
    have t := tm_nonneg q (n + 1)
    have xt := Rat.mul_nonneg hx t
    refine Rat.le_of_mul_le_mul_left (c := 2 * ((n : Rat) + 1) + 1) ?_ p
    rw [e1]
    have k : x * ((n : Rat) + 1) * tm (x * x) (n + 1) = x * (x * x * tm (x * x) n) := by rw [← e2]; grind
    grind
theorem eT_null {x : Rat} (hx : 0 ≤ x) : Null (fun M => eT x M) := by
  obtain ⟨K, k0, hK⟩ := tm_bd (x * x)
  refine Null.of_le (f := fun M => x * K * ((M : Rat) * q4 M)) (null_q4 (x * K) (Rat.mul_nonneg hx k0)) 1 fun M hM => ?_
  have h0 := eT_nonneg hx M
  have h1 := eT_tm hx M
  have h2 := (hK M).2
  have h3 := Rat.mul_le_mul_of_nonneg_left h2 hx
  have hm : (1 : Rat) ≤ (M : Rat) := by exact_mod_cast hM
  have h4 := Rat.mul_nonneg (Rat.mul_nonneg (Rat.mul_nonneg hx k0) (Rat.le_of_lt (q4_pos M))) (show 0 ≤ (M : Rat) - 1 by grind)
  constructor <;> grind
theorem eS_bdd {x : Rat} (hx : 0 ≤ x) : ∃ K, 0 ≤ K ∧ ∀ M, eS x M ≤ K := by
  obtain ⟨K, k0, hK⟩ := E_bound (x * x)
  have q := Rat.mul_nonneg hx hx
  refine ⟨x * K, Rat.mul_nonneg hx k0, fun M => ?_⟩
  have h1 : eS x M ≤ x * E (x * x) M := by
    induction M with
    | zero => show (0 : Rat) ≤ x * 0; grind
    | succ n ih =>
      have := eT_tm hx n
      show eS x n + eT x n ≤ x * (E (x * x) n + tm (x * x) n)
      grind
  have h2 := (hK M (x * x) ⟨by grind, by grind⟩).2
  have h3 := Rat.mul_le_mul_of_nonneg_left h2 hx
  grind
/-- The series over e to the power of x^2. -/
def eF (x : Rat) (M : Nat) : Rat := eS x M * Ev (fun _ => -(x * x)) M
theorem eF_key {x h Y K s t q : Rat} (hx : 0 ≤ x) (hh : 0 < h) (hY : x + h ≤ Y) (sx : 0 ≤ s) (sK : s ≤ K) (h1 : h ≤ 1) (ht : t = h * (2 * x + h)) (t0 : 0 ≤ t) (t4 : t ≤ 1 / 4) (h3 : 2 * (h * (K * (1 + 8 * ((2 * Y + 1) * (2 * Y + 1))))) ≤ 1) (q0 : 1 - t - 2 * (t * t) ≤ q) : s ≤ (s + h * (1 + 2 * x * s)) * q := by
  have A0 : 0 ≤ 2 * Y + 1 := by grind
  have tt2 : t * t ≤ 1 / 16 := by have := Rat.mul_le_mul_of_nonneg_left t4 t0; grind
  have p0 : 0 ≤ s + h * (1 + 2 * x * s) := by
    have := Rat.mul_nonneg (Rat.le_of_lt hh) (show 0 ≤ 1 + 2 * x * s by have := Rat.mul_nonneg hx sx; grind)
    grind
  have p1 := Rat.mul_le_mul_of_nonneg_left q0 p0
  refine Rat.le_trans ?_ p1
  obtain ⟨a, ha⟩ : ∃ a, a = 2 * x + h := ⟨_, rfl⟩
  have a0 : 0 ≤ a := by grind
  have aA : a ≤ 2 * Y + 1 := by grind
  rw [← ha] at ht
  have r1 : (s + h * (1 + 2 * x * s)) * (1 - t - 2 * (t * t)) - s = h * ((1 - t - 2 * (t * t)) - h * (s * (1 + 2 * (a * a) + 2 * x * (a + 2 * (t * a))))) := by
    rw [ht, ha]; grind
  have xa : 2 * x ≤ a := by grind
  have b1 : a * a ≤ (2 * Y + 1) * (2 * Y + 1) := Rat.le_trans (Rat.mul_le_mul_of_nonneg_left aA a0) (Rat.mul_le_mul_of_nonneg_right aA A0)
  have b2 : 2 * x * a ≤ a * a := Rat.mul_le_mul_of_nonneg_right xa a0
  have b3 : 2 * x * a * t ≤ a * a * (1 / 4) := Rat.le_trans (Rat.mul_le_mul_of_nonneg_right b2 t0) (Rat.mul_le_mul_of_nonneg_left t4 (Rat.mul_nonneg a0 a0))
  have aa := Rat.mul_nonneg a0 a0
  have B : 1 + 2 * (a * a) + 2 * x * (a + 2 * (t * a)) ≤ 1 + 8 * ((2 * Y + 1) * (2 * Y + 1)) := by
    have e : 2 * x * (a + 2 * (t * a)) = 2 * x * a + 2 * (2 * x * a * t) := by grind
    rw [e]
    generalize (2 * Y + 1) * (2 * Y + 1) = YY at *
    generalize a * a = AA at *
    generalize 2 * x * a * t = u1 at *
    generalize 2 * x * a = u2 at *
    clear r1 p1 p0 h3 ht
    grind
  have b4 := Rat.mul_le_mul_of_nonneg_left B sx
  have b5 : s * (1 + 8 * ((2 * Y + 1) * (2 * Y + 1))) ≤ K * (1 + 8 * ((2 * Y + 1) * (2 * Y + 1))) := Rat.mul_le_mul_of_nonneg_right sK (by have := Rat.mul_nonneg A0 A0; grind)
  have b6 := Rat.mul_le_mul_of_nonneg_left (Rat.le_trans b4 b5) (Rat.le_of_lt hh)
  have b7 : 0 ≤ (1 - t - 2 * (t * t)) - h * (s * (1 + 2 * (a * a) + 2 * x * (a + 2 * (t * a)))) := by
    generalize h * (s * (1 + 2 * (a * a) + 2 * x * (a + 2 * (t * a)))) = u1 at *
    generalize h * (K * (1 + 8 * ((2 * Y + 1) * (2 * Y + 1)))) = u2 at *
    generalize t * t = u3 at *
    clear r1 p1 p0 ht b1 b2 b3 b4 b5 B
    grind
  have b8 := Rat.mul_nonneg (Rat.le_of_lt hh) b7
  rw [← r1] at b8
  grind
/-- A little more is not less. -/
theorem eF_step {x h Y K : Rat} (hx : 0 ≤ x) (hh : 0 < h) (hY : x + h ≤ Y) (hK : 0 ≤ K) (hS : ∀ M, eS x M ≤ K) (h1 : h ≤ 1) (h2 : 4 * (h * (2 * Y + 1)) ≤ 1) (h3 : 2 * (h * (K * (1 + 8 * ((2 * Y + 1) * (2 * Y + 1))))) ≤ 1) : ∃ z, Null z ∧ ∃ N, ∀ M, N ≤ M → eF x M ≤ eF (x + h) M + z M := by
  obtain ⟨t, ht⟩ : ∃ t, t = h * (2 * x + h) := ⟨_, rfl⟩
  have a0 : 0 ≤ 2 * x + h := by grind
  have t0 : 0 ≤ t := by rw [ht]; exact Rat.mul_nonneg (Rat.le_of_lt hh) a0
  have ta : t ≤ h * (2 * Y + 1) := by rw [ht]; exact Rat.mul_le_mul_of_nonneg_left (by grind) (Rat.le_of_lt hh)
  have t4 : t ≤ 1 / 4 := by grind
  have sqe : -((x + h) * (x + h)) = -(x * x) + -t := by rw [ht]; grind
  have hadd := Ev_add (x := fun _ => -(x * x)) (y := fun _ => -t) (Bdd.const _) (Bdd.const _)
  have eb : Bdd (eS (x + h)) := by
    obtain ⟨K2, k2, hk2⟩ := eS_bdd (x := x + h) (by grind)
    exact Bdd.of_le K2 0 fun M _ => ⟨by have := eS_nonneg (x := x + h) (by grind) M; grind, hk2 M⟩
  have hz1 := hadd.bmul eb
  obtain ⟨c, c0, N0, hc⟩ := Ev_low (x := fun _ => -(x * x)) (Bdd.const _)
  have evb := Ev_bdd (x := fun _ => -(x * x)) (Bdd.const _)
  -- what is left out of the series' growth
  have hT := (eT_null hx)
  have hz2 : Null (fun M => eT x (M - 1)) := fun e he => by
    obtain ⟨N, hN⟩ := hT e he
    exact ⟨N + 1, fun M hM => hN (M - 1) (by omega)⟩
  have hz3 := (hz2.bmul (Bdd.const (2 * x * h))).bmul evb
  refine ⟨_, hz3.add hz1, N0 + 2, fun M hM => ?_⟩
  have hc' := hc M (by omega)
  have e1 : eF (x + h) M = eS (x + h) M * Ev (fun _ => -(x * x) + -t) M := by unfold eF; rw [sqe]
  obtain ⟨m, rfl⟩ : ∃ m, M = m + 1 := ⟨M - 1, by omega⟩
  have g := eS_grow hx (Rat.le_of_lt hh) m
  have e2 : eS x (m + 1) = eS x m + eT x m := rfl
  have sx := eS_nonneg hx (m + 1)
  have sK := hS (m + 1)
  have lit := (E_little2 (h := -t) (b := t) ⟨by grind, by grind⟩ t4 (M := m + 1) (by omega)).1
  have lit2 := (E_little2 (h := -t) (b := t) ⟨by grind, by grind⟩ t4 (M := m + 1) (by omega)).2
  have e3 : Ev (fun _ => -t) (m + 1) = E (-t) (m + 1) := rfl
  have T0 := eT_nonneg hx m
  simp only [Nat.add_sub_cancel] at *
  rw [e1]
  unfold eF
  generalize Ev (fun _ => -(x * x)) (m + 1) = v at *
  generalize Ev (fun _ => -(x * x) + -t) (m + 1) = vt at *
  rw [e3]
  generalize E (-t) (m + 1) = q at *
  generalize eS (x + h) (m + 1) = s' at *
  obtain ⟨s, hs⟩ : ∃ s, s = eS x (m + 1) := ⟨_, rfl⟩
  have e4 : eS x m = s - eT x m := by rw [hs]; grind
  rw [e4, ← hs] at g
  rw [← hs] at sx sK ⊢
  generalize eT x m = T at *
  -- s ≤ (s + h (1 + 2 x s)) q
  have q0 : 1 - t - 2 * (t * t) ≤ q := by grind
  have tt : t * t ≤ t * (h * (2 * Y + 1)) := Rat.mul_le_mul_of_nonneg_left ta t0
  have A0 : 0 ≤ 2 * Y + 1 := by grind
  have tt2 : t * t ≤ 1 / 16 := by
    have := Rat.mul_le_mul_of_nonneg_left t4 t0; grind
  have q1 : 0 ≤ q := by grind
  have key : s ≤ (s + h * (1 + 2 * x * s)) * q := eF_key hx hh hY sx sK h1 ht t0 t4 h3 q0
  have v0 : 0 ≤ v := by grind
  have k1 := Rat.mul_le_mul_of_nonneg_right key v0
  -- with the growth of the series
  have g2 : s + h * (1 + 2 * x * s) ≤ s' + T * (2 * x * h) := by grind
  have vq := Rat.mul_nonneg v0 q1
  have k2 := Rat.mul_le_mul_of_nonneg_right g2 vq
  have qle : q ≤ 1 := by
    have u := lit2
    have tt3 : t * t ≤ t * (1 / 4) := Rat.mul_le_mul_of_nonneg_left t4 t0
    grind
  have w0 := Rat.mul_nonneg (Rat.mul_nonneg (Rat.mul_nonneg hx (Rat.le_of_lt hh)) T0) v0
  have w1 := Rat.mul_le_mul_of_nonneg_left qle w0
  have r1 : (s + h * (1 + 2 * x * s)) * q * v = (s + h * (1 + 2 * x * s)) * (v * q) := by grind
  have r2 : (s' + T * (2 * x * h)) * (v * q) = s' * (v * q) + 2 * (x * h * T * v * q) := by grind
  rw [r1] at k1
  rw [r2] at k2
  have r3 : T * (2 * x * h) * v = 2 * (x * h * T * v * 1) := by grind
  have r4 : (v * q - vt) * s' = s' * (v * q) - s' * vt := by grind
  show s * v ≤ s' * vt + (T * (2 * x * h) * v + (v * q - vt) * s')
  rw [r3, r4]
  generalize s' * (v * q) = g1 at *
  generalize x * h * T * v * q = g2 at *
  generalize x * h * T * v * 1 = g3 at *
  generalize (s + h * (1 + 2 * x * s)) * (v * q) = g4 at *
  generalize s * v = g5 at *
  generalize s' * vt = g6 at *
  clear key r1 r2 r3 r4 g hz1 hz2 hz3 hadd
  grind
/-- The error function is not less where the number is more. -/
theorem eF_mono {x y : Rat} (hx : 0 ≤ x) (hxy : x ≤ y) : ∃ z, Null z ∧ ∃ N, ∀ M, N ≤ M → eF x M ≤ eF y M + z M := by
  by_cases heq : x = y
  · subst heq
    exact ⟨_, null_zero, 0, fun M _ => by grind⟩
  have hlt : 0 < y - x := by grind
  have hy : 0 ≤ y := by grind
  obtain ⟨K, k0, hK⟩ := eS_bdd hy
  obtain ⟨C, hC⟩ : ∃ C, C = (y - x) * (1 + 4 * (2 * y + 1) + 2 * (K * (1 + 8 * ((2 * y + 1) * (2 * y + 1))))) := ⟨_, rfl⟩
  obtain ⟨n, hn⟩ := rat_nat C
  have n0 : (0 : Rat) < (n : Rat) + 1 := pos1 n
  obtain ⟨h, hh⟩ : ∃ h, h = (y - x) / ((n : Rat) + 1) := ⟨_, rfl⟩
  have hm : h * ((n : Rat) + 1) = y - x := by rw [hh]; exact rdm n0
  have h0 : 0 < h := by rw [hh]; exact rdiv_pos hlt n0
  have A0 : 0 ≤ 2 * y + 1 := by grind
  have AA := Rat.mul_nonneg A0 A0
  have P0 : 0 ≤ K * (1 + 8 * ((2 * y + 1) * (2 * y + 1))) := Rat.mul_nonneg k0 (by grind)
  have hc : h * (1 + 4 * (2 * y + 1) + 2 * (K * (1 + 8 * ((2 * y + 1) * (2 * y + 1))))) ≤ 1 := by
    have h2 := hn.2
    refine Rat.le_of_mul_le_mul_left (c := (n : Rat) + 1) ?_ n0
    have e : ((n : Rat) + 1) * (h * (1 + 4 * (2 * y + 1) + 2 * (K * (1 + 8 * ((2 * y + 1) * (2 * y + 1)))))) = C := by rw [hC, ← hm]; grind
    rw [e]; grind
  have c1 := Rat.mul_nonneg (Rat.le_of_lt h0) A0
  have c2 := Rat.mul_nonneg (Rat.le_of_lt h0) P0
  have hs : h * (1 + 4 * (2 * y + 1) + 2 * (K * (1 + 8 * ((2 * y + 1) * (2 * y + 1))))) = h + 4 * (h * (2 * y + 1)) + 2 * (h * (K * (1 + 8 * ((2 * y + 1) * (2 * y + 1))))) := by grind
  rw [hs] at hc
  have step : ∀ i : Nat, i ≤ n + 1 → ∃ z, Null z ∧ ∃ N, ∀ M, N ≤ M → eF x M ≤ eF (x + (i : Rat) * h) M + z M := by
    intro i
    induction i with
    | zero =>
      intro _
      refine ⟨_, null_zero, 0, fun M _ => ?_⟩
      have e : x + ((0 : Nat) : Rat) * h = x := by grind
      rw [e]; grind
    | succ i ih =>
      intro hi
      obtain ⟨z1, hz1, N1, h1⟩ := ih (by omega)
      have i0 : (0 : Rat) ≤ (i : Rat) := by exact_mod_cast Nat.zero_le i
      have i1 : (i : Rat) + 1 ≤ (n : Rat) + 1 := by exact_mod_cast hi
      have p0 := Rat.mul_nonneg i0 (Rat.le_of_lt h0)
      have p1 := Rat.mul_le_mul_of_nonneg_right i1 (Rat.le_of_lt h0)
      have e1 : x + (i : Rat) * h + h = x + ((i + 1 : Nat) : Rat) * h := by
        have : ((i + 1 : Nat) : Rat) = (i : Rat) + 1 := by push_cast; rfl
        rw [this]; grind
      have hy2 : x + (i : Rat) * h + h ≤ y := by grind
      obtain ⟨z2, hz2, N2, h2⟩ := eF_step (x := x + (i : Rat) * h) (h := h) (Y := y) (K := K) (by grind) h0 hy2 k0 (fun M => Rat.le_trans (eS_mono (by grind) (by grind) M) (hK M)) (by grind) (by grind) (by grind)
      rw [e1] at h2
      refine ⟨_, hz1.add hz2, N1 + N2, fun M hM => ?_⟩
      have a := h1 M (by omega)
      have b := h2 M (by omega)
      grind
  obtain ⟨z, hz, N, h9⟩ := step (n + 1) (Nat.le_refl _)
  have e : x + ((n + 1 : Nat) : Rat) * h = y := by
    have : ((n + 1 : Nat) : Rat) = (n : Rat) + 1 := by push_cast; rfl
    rw [this]; grind
  rw [e] at h9
  exact ⟨z, hz, N, h9⟩
end Go.Proofs.YtgmnknmjainababGreat.Ex

namespace Go.Proofs.YtgmnknmjainababGreat.Ex
set_option linter.unusedVariables false

/-- At most, but for what is smaller than anything. -/
def LeN (f g : Nat → Rat) : Prop := ∀ e : Rat, 0 < e → ∃ N : Nat, ∀ M, N ≤ M → f M ≤ g M + e
theorem LeN.refl (f : Nat → Rat) : LeN f f := fun e he => ⟨0, fun M _ => by grind⟩
theorem LeN.trans {f g h : Nat → Rat} (a : LeN f g) (b : LeN g h) : LeN f h := fun e he => by
  obtain ⟨N1, h1⟩ := a (e / 2) (by grind)
  obtain ⟨N2, h2⟩ := b (e / 2) (by grind)
  exact ⟨N1 + N2, fun M hM => by have := h1 M (by omega); have := h2 M (by omega); grind⟩
theorem LeN.of_le {f g : Nat → Rat} (N : Nat) (h : ∀ M, N ≤ M → f M ≤ g M) : LeN f g := fun e he => ⟨N, fun M hM => by have := h M hM; grind⟩
theorem LeN.of_null {f g z : Nat → Rat} (hz : Null z) (N : Nat) (h : ∀ M, N ≤ M → f M ≤ g M + z M) : LeN f g := fun e he => by
  obtain ⟨N1, h1⟩ := hz e he
  exact ⟨N + N1, fun M hM => by have := h M (by omega); have := (h1 M (by omega)).2; grind⟩
theorem LeN.null {f g : Nat → Rat} (h : LeN f g) : ∃ z, Null z ∧ ∀ M, f M ≤ g M + z M := by
  refine ⟨fun M => if f M ≤ g M then 0 else f M - g M, fun e he => ?_, fun M => ?_⟩
  · obtain ⟨N, hN⟩ := h e he
    refine ⟨N, fun M hM => ?_⟩
    have := hN M hM
    simp only []
    split <;> constructor <;> grind
  · simp only []; split <;> grind
theorem LeN.add {f g f' g' : Nat → Rat} (a : LeN f g) (b : LeN f' g') : LeN (fun M => f M + f' M) (fun M => g M + g' M) := fun e he => by
  obtain ⟨N1, h1⟩ := a (e / 2) (by grind)
  obtain ⟨N2, h2⟩ := b (e / 2) (by grind)
  exact ⟨N1 + N2, fun M hM => by have := h1 M (by omega); have := h2 M (by omega); grind⟩
theorem LeN.eq {f g : Nat → Rat} (h : LeN f g) (k : LeN g f) : Null (fun M => f M - g M) := fun e he => by
  obtain ⟨N1, h1⟩ := h e he
  obtain ⟨N2, h2⟩ := k e he
  exact ⟨N1 + N2, fun M hM => by have := h1 M (by omega); have := h2 M (by omega); constructor <;> grind⟩
theorem Null.leN {f g : Nat → Rat} (h : Null (fun M => f M - g M)) : LeN f g := fun e he => by
  obtain ⟨N, hN⟩ := h e he
  exact ⟨N, fun M hM => by have := (hN M hM).2; grind⟩
theorem Null.symm {f g : Nat → Rat} (h : Null (fun M => f M - g M)) : Null (fun M => g M - f M) := h.neg.of_eq fun M => by grind
theorem LeN.lim {f g : Nat → Rat} {C : Rat} (hC : 0 ≤ C) (h : ∀ n : Nat, LeN f (fun M => g M + C * (1 / ((n : Rat) + 1)))) : LeN f g := fun e he => by
  obtain ⟨n, hn⟩ := rat_nat (2 * C / e)
  have k := h n
  obtain ⟨N, hN⟩ := k (e / 2) (by grind)
  refine ⟨N, fun M hM => ?_⟩
  have h1 := hN M hM
  have n0 : (0 : Rat) < (n : Rat) + 1 := pos1 n
  have h2 : C * (1 / ((n : Rat) + 1)) ≤ e / 2 := by
    have um : 1 / ((n : Rat) + 1) * ((n : Rat) + 1) = 1 := rdm n0
    have u0 : (0 : Rat) < 1 / ((n : Rat) + 1) := rdiv_pos (by grind) n0
    have ce : 2 * C / e * e = 2 * C := rdm he
    have h3 := Rat.mul_le_mul_of_nonneg_right hn.2 (Rat.le_of_lt he)
    rw [ce] at h3
    have h4 := Rat.mul_le_mul_of_nonneg_right (show 2 * C ≤ ((n : Rat) + 1) * e by grind) (Rat.le_of_lt u0)
    have e5 : ((n : Rat) + 1) * e * (1 / ((n : Rat) + 1)) = (1 / ((n : Rat) + 1) * ((n : Rat) + 1)) * e := by grind
    rw [e5, um] at h4
    grind
  simp only [] at h1
  grind
/-- What grows by less than any part of each small step does not grow. -/
theorem descend {f : Rat → Nat → Rat} {a b C D : Rat} (hab : a ≤ b) (hC : 0 ≤ C) (hD : 0 < D)
    (step : ∀ x h, a ≤ x → 0 < h → h ≤ D → x + h ≤ b → ∃ z, Null z ∧ ∃ N : Nat, ∀ M, N ≤ M → f (x + h) M ≤ f x M + C * (h * h) + z M) : LeN (f b) (f a) := by
  by_cases heq : a = b
  · subst heq; exact LeN.refl _
  have hlt : 0 < b - a := by grind
  refine LeN.lim (C := C * ((b - a) * (b - a))) (Rat.mul_nonneg hC (Rat.mul_nonneg (Rat.le_of_lt hlt) (Rat.le_of_lt hlt))) fun n0 => ?_
  obtain ⟨m, hm⟩ := rat_nat ((b - a) / D)
  -- n steps
  obtain ⟨n, hn⟩ : ∃ n, n = n0 + m := ⟨_, rfl⟩
  have n0p : (0 : Rat) < (n : Rat) + 1 := pos1 n
  obtain ⟨h, hh⟩ : ∃ h, h = (b - a) / ((n : Rat) + 1) := ⟨_, rfl⟩
  have hmul : h * ((n : Rat) + 1) = b - a := by rw [hh]; exact rdm n0p
  have h0 : 0 < h := by rw [hh]; exact rdiv_pos hlt n0p
  have mn : (m : Rat) ≤ (n : Rat) := by exact_mod_cast (show m ≤ n by omega)
  have nn : (n0 : Rat) ≤ (n : Rat) := by exact_mod_cast (show n0 ≤ n by omega)
  have hD2 : h ≤ D := by
    have e1 : (b - a) / D * D = b - a := rdm hD
    have h1 := Rat.mul_le_mul_of_nonneg_right hm.2 (Rat.le_of_lt hD)
    rw [e1] at h1
    refine Rat.le_of_mul_le_mul_right (c := (n : Rat) + 1) ?_ n0p
    rw [hmul]
    have := Rat.mul_le_mul_of_nonneg_right mn (Rat.le_of_lt hD)
    grind
  have go : ∀ i : Nat, i ≤ n + 1 → ∃ z, Null z ∧ ∃ N : Nat, ∀ M, N ≤ M → f (a + (i : Rat) * h) M ≤ f a M + (i : Rat) * (C * (h * h)) + z M := by
    intro i
    induction i with
    | zero =>
      intro _
      refine ⟨_, null_zero, 0, fun M _ => ?_⟩
      have e : a + ((0 : Nat) : Rat) * h = a := by grind
      rw [e]; grind
    | succ i ih =>
      intro hi
      obtain ⟨z1, hz1, N1, k1⟩ := ih (by omega)
      have i0 : (0 : Rat) ≤ (i : Rat) := by exact_mod_cast Nat.zero_le i
      have i1 : (i : Rat) + 1 ≤ (n : Rat) + 1 := by exact_mod_cast hi
      have p0 := Rat.mul_nonneg i0 (Rat.le_of_lt h0)
      have p1 := Rat.mul_le_mul_of_nonneg_right i1 (Rat.le_of_lt h0)
      have ec : ((i + 1 : Nat) : Rat) = (i : Rat) + 1 := by push_cast; rfl
      have e1 : a + (i : Rat) * h + h = a + ((i + 1 : Nat) : Rat) * h := by rw [ec]; grind
      obtain ⟨z2, hz2, N2, k2⟩ := step (a + (i : Rat) * h) h (by grind) h0 hD2 (by grind)
      rw [e1] at k2
      refine ⟨_, hz1.add hz2, N1 + N2, fun M hM => ?_⟩
      have a1 := k1 M (by omega)
      have a2 := k2 M (by omega)
      rw [ec] at a2 ⊢
      grind
  obtain ⟨z, hz, N, k⟩ := go (n + 1) (Nat.le_refl _)
  have ec : ((n + 1 : Nat) : Rat) = (n : Rat) + 1 := by push_cast; rfl
  have e : a + ((n + 1 : Nat) : Rat) * h = b := by rw [ec]; grind
  rw [e, ec] at k
  refine LeN.of_null hz N fun M hM => ?_
  have k1 := k M hM
  have n1p : (0 : Rat) < (n0 : Rat) + 1 := pos1 n0
  have um : 1 / ((n0 : Rat) + 1) * ((n0 : Rat) + 1) = 1 := rdm n1p
  have u0 : (0 : Rat) < 1 / ((n0 : Rat) + 1) := rdiv_pos (by grind) n1p
  have hb : ((n : Rat) + 1) * (C * (h * h)) ≤ C * ((b - a) * (b - a)) * (1 / ((n0 : Rat) + 1)) := by
    have e2 : ((n : Rat) + 1) * (C * (h * h)) = C * (b - a) * h := by rw [← hmul]; grind
    rw [e2]
    have hu : h ≤ (b - a) * (1 / ((n0 : Rat) + 1)) := by
      refine Rat.le_of_mul_le_mul_right (c := (n0 : Rat) + 1) ?_ n1p
      have e3 : (b - a) * (1 / ((n0 : Rat) + 1)) * ((n0 : Rat) + 1) = (b - a) * (1 / ((n0 : Rat) + 1) * ((n0 : Rat) + 1)) := by grind
      rw [e3, um]
      have := Rat.mul_le_mul_of_nonneg_left nn (Rat.le_of_lt h0)
      grind
    have := Rat.mul_le_mul_of_nonneg_left hu (Rat.mul_nonneg hC (Rat.le_of_lt hlt))
    grind
  grind
end Go.Proofs.YtgmnknmjainababGreat.Ex

namespace Go.Proofs.YtgmnknmjainababGreat
set_option linter.unusedVariables false
open Ex

theorem Iv.opp {B : Nat} {a : Int × Int} {x : Nat → Rat} (h : Iv B a x) : Iv B (-a.2, -a.1) (fun M => -x M) := by
  have q := Qr_pos B
  intro e he
  obtain ⟨N, hN⟩ := h e he
  refine ⟨N, fun M hM => ?_⟩
  obtain ⟨g1, g2⟩ := hN M hM
  have e1 : ((-a.2 : Int) : Rat) / (Q B : Rat) = -((a.2 : Rat) / (Q B : Rat)) := by rw [Rat.intCast_neg, Rat.div_def, Rat.div_def, Rat.neg_mul]
  have e2 : ((-a.1 : Int) : Rat) / (Q B : Rat) = -((a.1 : Rat) / (Q B : Rat)) := by rw [Rat.intCast_neg, Rat.div_def, Rat.div_def, Rat.neg_mul]
  simp only []
  rw [e1, e2]
  constructor <;> grind
def negI (a : Int × Int) : Int × Int := (-a.2, -a.1)
theorem negI_abs {a : Int × Int} {m : Int} (h : Abs a m) : Abs (negI a) m := by obtain ⟨h1, h2, h3, h4⟩ := h; exact ⟨by simp only [negI]; omega, by simp only [negI]; omega, by simp only [negI]; omega, by simp only [negI]; omega⟩
/-- The numbers of wide.angle's sum. -/
def agT (m : Int) (B : Nat) : Nat → Int × Int
  | 0 => ofI 1 m B
  | n + 1 => negI (scaleI (agT m B n) (2 * (n : Int) + 1) ((2 * (n : Int) + 3) * m * m))
theorem ag_den {m : Int} (hm : 2 ≤ m) (n : Nat) : 0 < (2 * (n : Int) + 3) * m * m ∧ 4 * (2 * (n : Int) + 1) ≤ (2 * (n : Int) + 3) * m * m := by
  have h1 := Int.mul_le_mul hm hm (by omega) (show 0 ≤ m by omega)
  have h2 := Int.mul_le_mul_of_nonneg_left h1 (show 0 ≤ 2 * (n : Int) + 3 by omega)
  have e : (2 * (n : Int) + 3) * m * m = (2 * (n : Int) + 3) * (m * m) := by grind
  rw [e]
  omega
theorem agT_le {m : Int} (hm : 2 ≤ m) (B n : Nat) : (agT m B n).1 ≤ (agT m B n).2 := by
  induction n with
  | zero => exact ofI_le (by omega) B
  | succ n ih =>
    have := scaleI_le ih (ag_den hm n).1 (show 0 ≤ 2 * (n : Int) + 1 by omega)
    simp only [agT, negI]; omega
theorem agT_abs {m : Int} (hm : 2 ≤ m) {B : Nat} (hB : 2 ≤ B) (n : Nat) : Abs (agT m B n) (Q (B - 2 * n)) := by
  induction n with
  | zero =>
    have q := Q_pos B
    have h2 := Int.mul_le_mul_of_nonneg_left hm (show 0 ≤ Q B by omega)
    exact ofI_abs (by omega) B (by have := Q_pos B; simp only [Nat.mul_zero, Nat.sub_zero]; omega) (by simp only [Nat.mul_zero, Nat.sub_zero]; omega)
  | succ n ih =>
    obtain ⟨d0, d1⟩ := ag_den hm n
    have st := Q_step hB n
    have q2 := Q_pos (B - 2)
    have eB : Q B = 4 * Q (B - 2) := by
      have := Q_add 2 (B - 2)
      rw [show 2 + (B - 2) = B by omega] at this
      rw [this]; rfl
    have hq : Q (B - 2 * n) ≤ 4 * Q (B - 2 * (n + 1)) := by
      refine Int.le_of_mul_le_mul_right (a := Q (B - 2)) ?_ (by omega)
      rw [eB] at st
      have e : 4 * Q (B - 2 * (n + 1)) * Q (B - 2) = Q (B - 2 * (n + 1)) * (4 * Q (B - 2)) := by grind
      omega
    have q3 := Q_pos (B - 2 * (n + 1))
    obtain ⟨a1, a2, a3, a4⟩ := ih
    have key : ∀ x : Int, -Q (B - 2 * n) ≤ x → x ≤ Q (B - 2 * n) → -(Q (B - 2 * (n + 1)) * ((2 * (n : Int) + 3) * m * m)) ≤ x * (2 * (n : Int) + 1) ∧ x * (2 * (n : Int) + 1) ≤ Q (B - 2 * (n + 1)) * ((2 * (n : Int) + 3) * m * m) := fun x h1 h2 => by
      have k1 := Int.mul_le_mul_of_nonneg_left d1 (show 0 ≤ Q (B - 2 * (n + 1)) by omega)
      have k2 := Int.mul_le_mul_of_nonneg_right (show x ≤ 4 * Q (B - 2 * (n + 1)) by omega) (show 0 ≤ 2 * (n : Int) + 1 by omega)
      have k3 := Int.mul_le_mul_of_nonneg_right (show -(4 * Q (B - 2 * (n + 1))) ≤ x by omega) (show 0 ≤ 2 * (n : Int) + 1 by omega)
      have e : Q (B - 2 * (n + 1)) * (4 * (2 * (n : Int) + 1)) = 4 * Q (B - 2 * (n + 1)) * (2 * (n : Int) + 1) := by grind
      have e2 : -(4 * Q (B - 2 * (n + 1))) * (2 * (n : Int) + 1) = -(4 * Q (B - 2 * (n + 1)) * (2 * (n : Int) + 1)) := by grind
      constructor <;> omega
    have r1 := round_abs d0 (key _ a1 a2).1 (key _ a1 a2).2
    have r2 := round_abs d0 (key _ a3 a4).1 (key _ a3 a4).2
    exact negI_abs ⟨r1.1, r1.2.1, r2.2.2.1, r2.2.2.2⟩
theorem agT_wide {m : Int} (hm : 2 ≤ m) (B n : Nat) : (agT m B n).2 - (agT m B n).1 ≤ 2 := by
  induction n with
  | zero => have := ofI_wide (n := 1) (show 0 < m by omega) B; simp only [agT]; omega
  | succ n ih =>
    obtain ⟨d0, d1⟩ := ag_den hm n
    have := scaleI_wide (a := agT m B n) (n := 2 * (n : Int) + 1) (d := (2 * (n : Int) + 3) * m * m) (c := 1) d0 (by
      have := Int.mul_le_mul_of_nonneg_right ih (show 0 ≤ 2 * (n : Int) + 1 by omega)
      omega)
    simp only [agT, negI]; omega
/-- The numbers themselves. -/
def agV (m : Int) : Nat → Rat
  | 0 => ((1 : Int) : Rat) / (m : Rat)
  | n + 1 => -(((2 * (n : Int) + 1 : Int) : Rat) / (((2 * (n : Int) + 3) * m * m : Int) : Rat) * agV m n)
theorem agT_has {m : Int} (hm : 2 ≤ m) (B n : Nat) : Iv B (agT m B n) (fun _ => agV m n) := by
  induction n with
  | zero => exact Iv.of B (by omega)
  | succ n ih => exact (ih.scale (show 0 ≤ 2 * (n : Int) + 1 by omega) (ag_den hm n).1).opp
theorem rat_quarter {n d : Int} (hn : 0 ≤ n) (hd : 0 < d) (h : 4 * n ≤ d) : 0 ≤ (n : Rat) / (d : Rat) ∧ (n : Rat) / (d : Rat) ≤ 1 / 4 := by
  have d0 : (0 : Rat) < (d : Rat) := by exact_mod_cast hd
  have n0 : (0 : Rat) ≤ (n : Rat) := by exact_mod_cast hn
  refine ⟨rle_div d0 (by grind), rdiv_le d0 ?_⟩
  have := cast_le h
  rw [Rat.intCast_mul, show ((4 : Int) : Rat) = 4 from rfl] at this
  grind
theorem agV_half {m : Int} (hm : 2 ≤ m) (n : Nat) {b : Rat} (h : AB (agV m n) b) : AB (agV m (n + 1)) (b / 2) := by
  obtain ⟨d0, d1⟩ := ag_den hm n
  obtain ⟨q0, q1⟩ := rat_quarter (show 0 ≤ 2 * (n : Int) + 1 by omega) d0 d1
  have b0 := h.nonneg
  have := (AB.mul (s := ((2 * (n : Int) + 1 : Int) : Rat) / (((2 * (n : Int) + 3) * m * m : Int) : Rat)) (a := 1 / 4) ⟨by grind, q1⟩ h).neg
  exact this.mono (by grind)
def agS (m : Int) (M : Nat) : Rat := S (agV m) M
theorem ag_has {m : Int} (hm : 2 ≤ m) (B N : Nat) : Iv B (doneI (agT m B) N) (agS m) :=
  done_has (g := fun n _ => agV m n) (agT_le hm B) (fun k _ => agT_has hm B k) 0 (fun M _ n b _ hb => agV_half hm n hb)
theorem ag_bound {m : Int} (hm : 2 ≤ m) {B N : Nat} (hB : 2 ≤ B) (hN : IsStop (agT m B) N) :
    (doneI (agT m B) N).1 ≤ (doneI (agT m B) N).2 ∧ Abs (doneI (agT m B) N) (2 * Q B) ∧ N ≤ B / 2 + 1 ∧ (doneI (agT m B) N).2 - (doneI (agT m B) N).1 ≤ (B : Int) + 6 := by
  have hn : N ≤ B / 2 + 1 := by
    obtain ⟨N', n1, n2⟩ := stop_ex (s := 2) (by omega) (agT_abs hm hB)
    refine Nat.le_trans (Nat.not_lt.1 fun hlt => ?_) n1
    have := hN.2 N' hlt
    have := n2.1
    omega
  refine ⟨done_le (agT_le hm B) N, done_abs2 (s := 2) (by omega) (agT_le hm B) (agT_abs hm hB) hN, hn, ?_⟩
  have := done_wide (agT_wide hm B) hN
  omega
theorem ag_stop {m : Int} (hm : 2 ≤ m) {B : Nat} (hB : 2 ≤ B) : ∃ N, IsStop (agT m B) N := by
  obtain ⟨N, _, h⟩ := stop_ex (s := 2) (by omega) (agT_abs hm hB)
  exact ⟨N, h⟩
/-- What wide.pi makes, and of what. -/
def piI (B N N2 : Nat) : Int × Int := subI (timesI (doneI (agT 5 B) N) 16) (timesI (doneI (agT 239 B) N2) 4)
def piS (M : Nat) : Rat := 16 * agS 5 M - 4 * agS 239 M
theorem pi_has (B N N2 : Nat) : Iv B (piI B N N2) piS :=
  Has.of_eq (((ag_has (m := 5) (by omega) B N).times 16).sub ((ag_has (m := 239) (by omega) B N2).times 4)) fun M => by
    show 16 * agS 5 M - 4 * agS 239 M = ((16 : Nat) : Rat) * agS 5 M - ((4 : Nat) : Rat) * agS 239 M
    rfl
theorem pi_ge {M : Nat} (hM : 2 ≤ M) : 3 ≤ piS M := by
  obtain ⟨i, rfl⟩ : ∃ i, M = 2 + i := ⟨M - 2, by omega⟩
  have h5 := (S_rest (g := agV 5) (N := 1) (b := 1 / 375) (by rw [show agV 5 1 = -(1 / 375) by decide +kernel]; constructor <;> grind) (fun n c _ hc => agV_half (by omega) n hc) i).2
  have h9 := (S_rest (g := agV 239) (N := 1) (b := 1 / 1000) (by have e : AB (agV 239 1) (1 / 1000) := by constructor <;> decide +kernel
                                                                 exact e) (fun n c _ hc => agV_half (by omega) n hc) i).2
  have e5 : S (agV 5) (1 + 1) = 1 / 5 - 1 / 375 := by decide +kernel
  have e9 : S (agV 239) (1 + 1) ≤ 1 / 100 := by decide +kernel
  have p := q2_pos i
  rw [e5] at h5
  obtain ⟨a1, a2⟩ := h5
  obtain ⟨b1, b2⟩ := h9
  show 3 ≤ 16 * S (agV 5) (1 + 1 + i) - 4 * S (agV 239) (1 + 1 + i)
  grind
theorem pi_bound {B N N2 : Nat} (hB : 32 ≤ B) (hN : IsStop (agT 5 B) N) (hN2 : IsStop (agT 239 B) N2) : (piI B N N2).1 ≤ (piI B N N2).2 ∧ Q B ≤ (piI B N N2).1 ∧ (piI B N N2).2 ≤ 64 * Q B ∧ (piI B N N2).2 - (piI B N N2).1 ≤ 20 * (B : Int) + 120 := by
  obtain ⟨a1, a2, a3, a4⟩ := ag_bound (m := 5) (by omega) (by omega) hN
  obtain ⟨b1, b2, b3, b4⟩ := ag_bound (m := 239) (by omega) (by omega) hN2
  have hw : (piI B N N2).2 - (piI B N N2).1 ≤ 20 * (B : Int) + 120 := by
    simp only [piI, subI, timesI]; omega
  have hl : (piI B N N2).1 ≤ (piI B N N2).2 := by simp only [piI, subI, timesI]; omega
  have hh : (piI B N N2).2 ≤ 64 * Q B := by
    obtain ⟨_, _, _, c4⟩ := a2
    obtain ⟨d1, _⟩ := b2
    simp only [piI, subI, timesI]; omega
  refine ⟨hl, ?_, hh, hw⟩
  -- the upper end is at least 3
  have q := Qr_pos B
  have h2 : 2 * Q B ≤ (piI B N N2).2 := by
    refine Int.not_lt.1 fun hlt => ?_
    obtain ⟨N0, hh⟩ := pi_has B N N2 (1 / 2) (by grind)
    have h3 := (hh (N0 + 2) (by omega)).2
    have h4 := pi_ge (M := N0 + 2) (by omega)
    have h5 : ((piI B N N2).2 : Rat) / (Q B : Rat) ≤ 2 := rdiv_le q (by
      have := cast_le (show (piI B N N2).2 ≤ 2 * Q B by omega)
      rw [Rat.intCast_mul] at this
      exact this)
    grind
  have hQ : 20 * (B : Int) + 120 ≤ Q B := by
    have hlin : ∀ k : Nat, 20 * ((32 + k : Nat) : Int) + 120 ≤ Q (32 + k) := fun k => by
      induction k with
      | zero => decide
      | succ k ih =>
        have e : Q (32 + (k + 1)) = 2 * Q (32 + k) := rfl
        omega
    have := hlin (B - 32)
    rw [show 32 + (B - 32) = B by omega] at this
    exact this
  omega
end Go.Proofs.YtgmnknmjainababGreat

namespace Go.Proofs.YtgmnknmjainababGreat.Ex
set_option linter.unusedVariables false

/-- Odd powers over how often they are taken, and even ones. -/
def uT (u : Rat) : Nat → Rat
  | 0 => u
  | n + 1 => (2 * (n : Rat) + 1) / (2 * (n : Rat) + 3) * (u * u) * uT u n
def uD (u : Rat) : Nat → Rat
  | 0 => 1
  | n + 1 => u * u * uD u n
def sg : Nat → Rat
  | 0 => 1
  | n + 1 => -sg n
theorem sg_one (n : Nat) : sg n = 1 ∨ sg n = -1 := by
  induction n with
  | zero => exact Or.inl rfl
  | succ n ih => rcases ih with h | h <;> (show -sg n = 1 ∨ -sg n = -1; rw [h]; grind)
theorem n3_pos (n : Nat) : (0 : Rat) < 2 * (n : Rat) + 3 := by
  have : (0 : Rat) ≤ (n : Rat) := by exact_mod_cast Nat.zero_le n
  grind
theorem uT_succ (u : Rat) (n : Nat) : (2 * (n : Rat) + 3) * uT u (n + 1) = (2 * (n : Rat) + 1) * (u * u) * uT u n := by
  have e := rdm (a := 2 * (n : Rat) + 1) (n3_pos n)
  show (2 * (n : Rat) + 3) * ((2 * (n : Rat) + 1) / (2 * (n : Rat) + 3) * (u * u) * uT u n) = _
  have : (2 * (n : Rat) + 3) * ((2 * (n : Rat) + 1) / (2 * (n : Rat) + 3) * (u * u) * uT u n) = ((2 * (n : Rat) + 1) / (2 * (n : Rat) + 3) * (2 * (n : Rat) + 3)) * (u * u) * uT u n := by grind
  rw [this, e]
theorem uT_mul (u : Rat) (n : Nat) : (2 * (n : Rat) + 1) * uT u n = u * uD u n := by
  induction n with
  | zero => show (2 * ((0 : Nat) : Rat) + 1) * u = u * 1; grind
  | succ n ih =>
    have e : ((n + 1 : Nat) : Rat) = (n : Rat) + 1 := by push_cast; rfl
    have h := uT_succ u n
    show (2 * ((n + 1 : Nat) : Rat) + 1) * uT u (n + 1) = u * (u * u * uD u n)
    rw [e, show 2 * ((n : Rat) + 1) + 1 = 2 * (n : Rat) + 3 by grind, h]
    grind
theorem uD_nonneg (u : Rat) (n : Nat) : 0 ≤ uD u n := by
  induction n with
  | zero => show (0 : Rat) ≤ 1; grind
  | succ n ih => exact Rat.mul_nonneg (sq_nonneg u) ih
theorem uT_nonneg {u : Rat} (h : 0 ≤ u) (n : Nat) : 0 ≤ uT u n := by
  have h1 := uT_mul u n
  have h2 := Rat.mul_nonneg h (uD_nonneg u n)
  have h3 : (0 : Rat) ≤ (n : Rat) := by exact_mod_cast Nat.zero_le n
  refine Rat.le_of_mul_le_mul_left (c := 2 * (n : Rat) + 1) ?_ (by grind)
  grind
theorem uT_grow {u h : Rat} (hu : 0 ≤ u) (hh : 0 ≤ h) (n : Nat) : uT u n + h * uD u n ≤ uT (u + h) n := by
  induction n with
  | zero => show u + h * 1 ≤ u + h; grind
  | succ n ih =>
    have p := n3_pos n
    have n0 : (0 : Rat) ≤ (n : Rat) := by exact_mod_cast Nat.zero_le n
    have e1 := uT_succ u n
    have e2 := uT_succ (u + h) n
    have e3 := uT_mul u n
    have t0 := uT_nonneg hu n
    have d0 := uD_nonneg u n
    have s1 : u * u + 2 * (u * h) ≤ (u + h) * (u + h) := by have := Rat.mul_nonneg hh hh; grind
    have y0 : 0 ≤ (u + h) * (u + h) := sq_nonneg _
    have m1 := Rat.mul_le_mul_of_nonneg_left ih y0
    have u0 : 0 ≤ uT u n + h * uD u n := by have := Rat.mul_nonneg hh d0; grind
    have m2 := Rat.mul_le_mul_of_nonneg_right s1 u0
    have k1 := Rat.mul_nonneg (Rat.mul_nonneg hu hh) (Rat.mul_nonneg hh d0)
    have m3 := Rat.le_trans m2 m1
    have c0 : 0 ≤ 2 * (n : Rat) + 1 := by grind
    have m4 := Rat.mul_le_mul_of_nonneg_left m3 c0
    refine Rat.le_of_mul_le_mul_left (c := 2 * (n : Rat) + 3) ?_ p
    show (2 * (n : Rat) + 3) * (uT u (n + 1) + h * (u * u * uD u n)) ≤ _
    rw [e2]
    have k4 : (2 * (n : Rat) + 3) * (uT u (n + 1) + h * (u * u * uD u n)) = (2 * (n : Rat) + 1) * (u * u) * uT u n + (2 * (n : Rat) + 3) * (h * (u * u * uD u n)) := by rw [← e1]; grind
    rw [k4]
    have k5 : (2 * (n : Rat) + 1) * ((u * u + 2 * (u * h)) * (uT u n + h * uD u n)) = (2 * (n : Rat) + 1) * (u * u) * uT u n + (2 * (n : Rat) + 1) * (h * (u * u * uD u n)) + 2 * (u * h) * ((2 * (n : Rat) + 1) * uT u n) + 2 * ((2 * (n : Rat) + 1) * (u * h * (h * uD u n))) := by grind
    have k6 := Rat.mul_nonneg c0 k1
    rw [k5, e3] at m4
    grind
theorem uT_back {x y : Rat} (hx : 0 ≤ x) (hxy : x ≤ y) (n : Nat) : uT y n ≤ uT x n + (y - x) * uD y n := by
  induction n with
  | zero => show y ≤ x + (y - x) * 1; grind
  | succ n ih =>
    have p := n3_pos n
    have hy : 0 ≤ y := by grind
    have n0 : (0 : Rat) ≤ (n : Rat) := by exact_mod_cast Nat.zero_le n
    have c0 : 0 ≤ 2 * (n : Rat) + 1 := by grind
    have e1 := uT_succ x n
    have e2 := uT_succ y n
    have e3 := uT_mul y n
    have t0 := uT_nonneg hx n
    have d0 := uD_nonneg y n
    obtain ⟨h, hh⟩ : ∃ h, h = y - x := ⟨_, rfl⟩
    have h0 : 0 ≤ h := by grind
    have mono : uT x n ≤ uT y n := by
      have := uT_grow hx h0 n
      have := Rat.mul_nonneg h0 (uD_nonneg x n)
      rw [show x + h = y by grind] at *
      grind
    rw [← hh] at ih ⊢
    have m1 := Rat.mul_le_mul_of_nonneg_left ih (sq_nonneg y)
    have m2 := Rat.mul_le_mul_of_nonneg_left m1 c0
    refine Rat.le_of_mul_le_mul_left (c := 2 * (n : Rat) + 3) ?_ p
    show _ ≤ (2 * (n : Rat) + 3) * (uT x (n + 1) + h * (y * y * uD y n))
    have k4 : (2 * (n : Rat) + 3) * (uT x (n + 1) + h * (y * y * uD y n)) = (2 * (n : Rat) + 1) * (x * x) * uT x n + (2 * (n : Rat) + 3) * (h * (y * y * uD y n)) := by rw [← e1]; grind
    rw [k4, e2]
    -- (y y - x x) T(x) is at most 2 h y T(y)
    have k5 : y * y - x * x ≤ 2 * (h * y) := by
      have := Rat.mul_nonneg h0 h0
      have : y * y - x * x = 2 * (h * y) - h * h := by rw [hh]; grind
      grind
    have k6 := Rat.mul_le_mul_of_nonneg_right k5 t0
    have k7 := Rat.mul_le_mul_of_nonneg_left mono (Rat.mul_nonneg (show (0 : Rat) ≤ 2 by grind) (Rat.mul_nonneg h0 hy))
    have k8 := Rat.mul_le_mul_of_nonneg_left (Rat.le_trans k6 k7) c0
    have k9 : (2 * (n : Rat) + 1) * (2 * (h * y) * uT y n) = 2 * (h * y) * (y * uD y n) := by rw [← e3]; grind
    rw [k9] at k8
    grind
theorem q4_le_q2 (n : Nat) : q4 n ≤ q2 n := by
  induction n with
  | zero => show (1 : Rat) ≤ 1; grind
  | succ n ih =>
    have h1 : q4 (n + 1) = q4 n / 4 := rfl
    have h2 : q2 (n + 1) = q2 n / 2 := rfl
    have := q2_pos n
    have := q4_pos n
    rw [h1, h2]; grind
theorem uD_q4 {u : Rat} (h0 : 0 ≤ u) (h : u ≤ 1 / 2) (n : Nat) : uD u n ≤ q4 n := by
  induction n with
  | zero => show (1 : Rat) ≤ 1; grind
  | succ n ih =>
    have h1 : q4 (n + 1) = q4 n / 4 := rfl
    have q := q4_pos n
    have a1 : u * u ≤ 1 / 4 := by
      have := Rat.mul_le_mul_of_nonneg_left h h0
      grind
    have m1 := Rat.mul_le_mul_of_nonneg_left ih (sq_nonneg u)
    have m2 := Rat.mul_le_mul_of_nonneg_right a1 (Rat.le_of_lt q)
    show u * u * uD u n ≤ _
    rw [h1]; grind
theorem uD_near {u h : Rat} (hu : 0 ≤ u) (hh : 0 ≤ h) (hy : u + h ≤ 1 / 2) (n : Nat) : uD (u + h) n - uD u n ≤ 4 * h * q2 n := by
  induction n with
  | zero => show (1 : Rat) - 1 ≤ 4 * h * 1; grind
  | succ n ih =>
    have h2 : q2 (n + 1) = q2 n / 2 := rfl
    have q := q2_pos n
    have c1 : (u + h) * (u + h) ≤ 1 / 4 := by
      have := Rat.mul_le_mul_of_nonneg_left hy (show 0 ≤ u + h by grind)
      grind
    have c2 : (u + h) * (u + h) - u * u ≤ h := by
      have e : (u + h) * (u + h) - u * u = h * (2 * u + h) := by grind
      have := Rat.mul_le_mul_of_nonneg_left (show 2 * u + h ≤ 1 by grind) hh
      rw [e]; grind
    have d1 := uD_q4 hu (by grind) n
    have d2 := q4_le_q2 n
    have d0 := uD_nonneg u n
    have m1 := Rat.mul_le_mul_of_nonneg_left ih (sq_nonneg (u + h))
    have hq := Rat.mul_nonneg hh (Rat.le_of_lt q)
    have m2 := Rat.mul_le_mul_of_nonneg_right c1 (show 0 ≤ 4 * h * q2 n by grind)
    have m3 := Rat.mul_le_mul_of_nonneg_right c2 d0
    have m4 := Rat.mul_le_mul_of_nonneg_left (Rat.le_trans d1 d2) hh
    show (u + h) * (u + h) * uD (u + h) n - u * u * uD u n ≤ _
    rw [h2]
    have e : (u + h) * (u + h) * uD (u + h) n - u * u * uD u n = (u + h) * (u + h) * (uD (u + h) n - uD u n) + ((u + h) * (u + h) - u * u) * uD u n := by grind
    rw [e]
    grind
/-- The angle whose tangent it is. -/
def aA (u : Rat) (M : Nat) : Rat := S (fun n => sg n * uT u n) M
def aD (u : Rat) (M : Nat) : Rat := S (fun n => sg n * uD u n) M
theorem aD_eq (u : Rat) (M : Nat) : (1 + u * u) * aD u M = 1 - sg M * uD u M := by
  induction M with
  | zero => show (1 + u * u) * 0 = 1 - 1 * 1; grind
  | succ n ih =>
    show (1 + u * u) * (aD u n + sg n * uD u n) = 1 - (-sg n) * (u * u * uD u n)
    grind
theorem aA_lin {u h : Rat} (hu : 0 ≤ u) (hh : 0 ≤ h) (hy : u + h ≤ 1 / 2) (M : Nat) : AB (aA (u + h) M - aA u M - h * aD u M) (8 * (h * h) * (1 - q2 M)) := by
  induction M with
  | zero => show AB (0 - 0 - h * 0) (8 * (h * h) * (1 - 1)); constructor <;> grind
  | succ n ih =>
    have h2 : q2 (n + 1) = q2 n / 2 := rfl
    have g1 := uT_grow hu hh n
    have g2 := uT_back hu (show u ≤ u + h by grind) n
    rw [show u + h - u = h by grind] at g2
    have g3 := Rat.mul_le_mul_of_nonneg_left (uD_near hu hh hy n) hh
    have k : AB (uT (u + h) n - uT u n - h * uD u n) (4 * (h * h) * q2 n) := by
      have q := q2_pos n
      have := Rat.mul_nonneg (Rat.mul_nonneg hh hh) (Rat.le_of_lt q)
      constructor <;> grind
    have k2 : AB (sg n * (uT (u + h) n - uT u n - h * uD u n)) (4 * (h * h) * q2 n) := by
      rcases sg_one n with e | e
      · rw [e]; exact ⟨by have := k.1; grind, by have := k.2; grind⟩
      · rw [e]; exact ⟨by have := k.2; grind, by have := k.1; grind⟩
    have k3 := ih.add k2
    show AB (aA (u + h) n + sg n * uT (u + h) n - (aA u n + sg n * uT u n) - h * (aD u n + sg n * uD u n)) _
    rw [h2]
    have e : aA (u + h) n + sg n * uT (u + h) n - (aA u n + sg n * uT u n) - h * (aD u n + sg n * uD u n) = aA (u + h) n - aA u n - h * aD u n + sg n * (uT (u + h) n - uT u n - h * uD u n) := by grind
    rw [e]
    exact k3.mono (by grind)
/-- How the angle grows: i is 1 over 1 and u^2. -/
theorem aA_step {u h i : Rat} (hu : 0 ≤ u) (hh : 0 ≤ h) (hy : u + h ≤ 1 / 2) (hi : i * (1 + u * u) = 1) (M : Nat) : AB (aA (u + h) M - aA u M - h * i) (8 * (h * h) + h * q4 M) := by
  have k := aA_lin hu hh hy M
  have q := q2_pos M
  have k1 := k.mono (b := 8 * (h * h)) (by
    have := Rat.mul_nonneg (Rat.mul_nonneg hh hh) (Rat.le_of_lt q)
    grind)
  have e := aD_eq u M
  have d := uD_q4 hu (show u ≤ 1 / 2 by grind) M
  have d0 := uD_nonneg u M
  have s0 := sq_nonneg u
  have i0 : 0 ≤ i := by
    refine Rat.not_lt.1 fun hlt => ?_
    have := Rat.mul_nonneg (show 0 ≤ -i by grind) (show 0 ≤ 1 + u * u by grind)
    grind
  have i1 : i ≤ 1 := by have := Rat.mul_nonneg i0 s0; grind
  have e2 : aD u M = i - i * (sg M * uD u M) := by
    have : i * ((1 + u * u) * aD u M) = i * (1 - sg M * uD u M) := by rw [e]
    have : i * (1 + u * u) * aD u M = i * (1 - sg M * uD u M) := by grind
    rw [hi] at this
    grind
  have k2 : AB (h * (i * (sg M * uD u M))) (h * q4 M) := by
    have m1 := Rat.mul_le_mul_of_nonneg_right i1 d0
    have m2 := Rat.mul_nonneg i0 d0
    have m3 := Rat.mul_le_mul_of_nonneg_left (show i * uD u M ≤ q4 M by grind) hh
    have m4 := Rat.mul_nonneg hh m2
    rcases sg_one M with s | s
    · rw [s]; constructor <;> grind
    · rw [s]; constructor <;> grind
  have k3 := k1.add k2.neg
  have e3 : aA (u + h) M - aA u M - h * i = aA (u + h) M - aA u M - h * aD u M + -(h * (i * (sg M * uD u M))) := by rw [e2]; grind
  rw [e3]
  exact k3
theorem inv_ex (a : Rat) (h : 0 < a) : ∃ i, 0 < i ∧ i * a = 1 := ⟨1 / a, rdiv_pos (by grind) h, rdm h⟩
/-- The tangent of a difference of angles. -/
def tD (v x : Rat) : Rat := (x - v) / (1 + x * v)
theorem tD_mul {v x : Rat} (hv : 0 ≤ v) (hx : 0 ≤ x) : tD v x * (1 + x * v) = x - v := rdm (by have := Rat.mul_nonneg hx hv; grind)
theorem tD_step {v x h : Rat} (hv : 0 ≤ v) (hvx : v ≤ x) (hh : 0 ≤ h) : tD v x ≤ tD v (x + h) ∧ tD v (x + h) - tD v x ≤ (1 + v * v) * h ∧
    ∀ i j, i * (1 + x * x) = 1 → j * (1 + tD v x * tD v x) = 1 → AB ((tD v (x + h) - tD v x) * j - h * i) (v * (h * h)) := by
  have hx : 0 ≤ x := by grind
  have e1 := tD_mul hv hx
  have e2 := tD_mul hv (show 0 ≤ x + h by grind)
  generalize tD v x = X at *
  generalize tD v (x + h) = Y at *
  obtain ⟨al, ha⟩ : ∃ al, al = 1 + x * v := ⟨_, rfl⟩
  obtain ⟨be, hb⟩ : ∃ be, be = 1 + (x + h) * v := ⟨_, rfl⟩
  rw [← ha] at e1
  rw [← hb] at e2
  have xv := Rat.mul_nonneg hx hv
  have hvv := Rat.mul_nonneg hh hv
  have a1 : 1 ≤ al := by rw [ha]; grind
  have b1 : 1 ≤ be := by rw [hb]; grind
  have vv := sq_nonneg v
  have k1 : (Y - X) * (al * be) = h * (1 + v * v) := by
    have : (Y - X) * (al * be) = (Y * be) * al - (X * al) * be := by grind
    rw [this, e1, e2, ha, hb]; grind
  have ab0 : 0 < al * be := Rat.mul_pos (by grind) (by grind)
  have ab1 : 1 ≤ al * be := by have := Rat.mul_le_mul_of_nonneg_left b1 (show 0 ≤ al by grind); grind
  have hv1 : 0 ≤ h * (1 + v * v) := Rat.mul_nonneg hh (by grind)
  have k0 : 0 ≤ Y - X := by
    refine Rat.not_lt.1 fun hlt => ?_
    have := Rat.mul_pos (show 0 < -(Y - X) by grind) ab0
    grind
  refine ⟨by grind, ?_, fun i j hi hj => ?_⟩
  · have := Rat.mul_le_mul_of_nonneg_left ab1 k0
    grind
  · have xx := sq_nonneg x
    have XX := sq_nonneg X
    have i0 : 0 ≤ i := by
      refine Rat.not_lt.1 fun hlt => ?_
      have := Rat.mul_nonneg (show 0 ≤ -i by grind) (show 0 ≤ 1 + x * x by grind)
      grind
    have i1 : i ≤ 1 := by have := Rat.mul_nonneg i0 xx; grind
    obtain ⟨E, hE⟩ : ∃ E, E = (Y - X) * j * (1 + x * x) := ⟨_, rfl⟩
    have id1 : (1 + X * X) * (al * al) = (1 + x * x) * (1 + v * v) := by
      have : (1 + X * X) * (al * al) = al * al + (X * al) * (X * al) := by grind
      rw [this, e1, ha]; grind
    have k2 : E * be = h * al := by
      have m : E * be * (al * (1 + v * v)) = h * al * (al * (1 + v * v)) := by
        have f1 : E * be * (al * (1 + v * v)) = ((Y - X) * (al * be)) * j * ((1 + x * x) * (1 + v * v)) := by rw [hE]; grind
        rw [f1, k1, ← id1]
        have f2 : h * (1 + v * v) * j * ((1 + X * X) * (al * al)) = h * (1 + v * v) * (j * (1 + X * X)) * (al * al) := by grind
        rw [f2, hj]; grind
      have c : 0 < al * (1 + v * v) := Rat.mul_pos (by grind) (by grind)
      refine Rat.le_antisymm (Rat.le_of_mul_le_mul_right (by rw [m]; exact Rat.le_refl) c) (Rat.le_of_mul_le_mul_right (by rw [m]; exact Rat.le_refl) c)
    have k3 : (Y - X) * j = E * i := by
      have : E * i = (Y - X) * j * (i * (1 + x * x)) := by rw [hE]; grind
      rw [this, hi]; grind
    have bal : be = al + h * v := by rw [ha, hb]; grind
    -- h - E from 0 to v h h
    have d1 : (h - E) * be = v * (h * h) := by
      have : (h - E) * be = h * be - E * be := by grind
      rw [this, k2, bal]; grind
    have vh := Rat.mul_nonneg hv (Rat.mul_nonneg hh hh)
    have d2 : 0 ≤ h - E := by
      refine Rat.not_lt.1 fun hlt => ?_
      have := Rat.mul_pos (show 0 < -(h - E) by grind) (show 0 < be by grind)
      grind
    have d3 : h - E ≤ v * (h * h) := by
      have := Rat.mul_le_mul_of_nonneg_left b1 d2
      grind
    rw [k3]
    have m1 := Rat.mul_nonneg d2 i0
    have m2 := Rat.mul_le_mul_of_nonneg_left i1 d2
    constructor <;> grind
/-- How the angle whose tangent is that of a difference grows. -/
theorem aA_diff {v x h i : Rat} (hv : 0 ≤ v) (hv2 : v ≤ 1 / 2) (hvx : v ≤ x) (hh : 0 ≤ h) (hy : tD v (x + h) ≤ 1 / 2) (hi : i * (1 + x * x) = 1) (M : Nat) : AB (aA (tD v (x + h)) M - aA (tD v x) M - h * i) (16 * (h * h) + 2 * (h * q4 M)) := by
  obtain ⟨s1, s2, s3⟩ := tD_step hv hvx hh
  have X0 : 0 ≤ tD v x := by
    have e := tD_mul hv (show 0 ≤ x by grind)
    refine Rat.not_lt.1 fun hlt => ?_
    have := Rat.mul_pos (show 0 < -tD v x by grind) (show 0 < 1 + x * v by have := Rat.mul_nonneg (show 0 ≤ x by grind) hv; grind)
    grind
  obtain ⟨j, j0, hj⟩ := inv_ex (1 + tD v x * tD v x) (by have := sq_nonneg (tD v x); grind)
  have s4 := s3 i j hi hj
  obtain ⟨k, hk⟩ : ∃ k, k = tD v (x + h) - tD v x := ⟨_, rfl⟩
  have k0 : 0 ≤ k := by grind
  have ey : tD v (x + h) = tD v x + k := by grind
  rw [← hk] at s2 s4
  have s5 := aA_step (u := tD v x) (h := k) (i := j) X0 k0 (by grind) hj M
  rw [ey]
  have s6 := s5.add s4
  have e : aA (tD v x + k) M - aA (tD v x) M - k * j + (k * j - h * i) = aA (tD v x + k) M - aA (tD v x) M - h * i := by grind
  rw [e] at s6
  refine s6.mono ?_
  have q := q4_pos M
  have vv : v * v ≤ 1 / 4 := by have := Rat.mul_le_mul_of_nonneg_left hv2 hv; grind
  have kh : k ≤ 5 / 4 * h := by
    have := Rat.mul_le_mul_of_nonneg_right vv hh
    grind
  have kk : k * k ≤ 25 / 16 * (h * h) := by
    have a := Rat.mul_le_mul_of_nonneg_left kh k0
    have b := Rat.mul_le_mul_of_nonneg_right kh (show 0 ≤ 5 / 4 * h by grind)
    grind
  have kq := Rat.mul_le_mul_of_nonneg_right kh (Rat.le_of_lt q)
  have hhh := Rat.mul_nonneg hh hh
  have vh := Rat.mul_le_mul_of_nonneg_right hv2 hhh
  have hq := Rat.mul_nonneg hh (Rat.le_of_lt q)
  grind
end Go.Proofs.YtgmnknmjainababGreat.Ex
