/-
  The angle of a difference; the angle whose tangent is 1, as 4 times the one of 1 over 5 less the one of 1 over 239; and a sum that is nearly it. Plain arithmetic: no statement of the seat is proved here.
  e to the power of a ratio, told by a sequence. Plain arithmetic: no statement of the seat is proved here.
  The error function is never more than 1: four times the square of its series is at most what the angles make. Plain arithmetic: no statement of the seat is proved here.
  The error function is never more than 1, the end of it. Plain arithmetic: no statement of the seat is proved here.
  Roots of numbers that are told by sequences. Plain arithmetic: no statement of the seat is proved here.
  The error function itself, as a quotient of what is made: it grows, and is never more than 1. Plain arithmetic: no statement of the seat is proved here.
-/
import Derived.Test.YtgmnknmjainababGreatK11
namespace Go.Proofs.YtgmnknmjainababGreat.Ex
set_option linter.unusedVariables false

theorem null_q4c (K : Rat) (hK : 0 ≤ K) : Null (fun M => K * q4 M) :=
  Null.of_le (null_q4 K hK) 1 fun M hM => by
    have hm : (1 : Rat) ≤ (M : Rat) := by exact_mod_cast hM
    have q := q4_pos M
    have h1 := Rat.mul_le_mul_of_nonneg_right hm (Rat.le_of_lt q)
    have h2 := Rat.mul_le_mul_of_nonneg_left h1 hK
    have h3 := Rat.mul_nonneg hK (Rat.le_of_lt q)
    constructor <;> grind
theorem aA_zero (M : Nat) : aA 0 M = 0 := by
  have h : ∀ n, uT 0 n = 0 := fun n => by
    induction n with
    | zero => rfl
    | succ n ih => show _ * (0 * 0) * uT 0 n = 0; rw [ih]; grind
  unfold aA
  induction M with
  | zero => rfl
  | succ n ih => show S (fun n => sg n * uT 0 n) n + sg n * uT 0 n = 0; rw [ih, h]; grind
theorem tD_same (v : Rat) : tD v v = 0 := by unfold tD; rw [show v - v = 0 by grind, Rat.div_def]; grind
theorem tD_le {v x : Rat} (hv : 0 ≤ v) (hvx : v ≤ x) : 0 ≤ tD v x ∧ tD v x ≤ x := by
  have e := tD_mul hv (show 0 ≤ x by grind)
  have xv := Rat.mul_nonneg (show 0 ≤ x by grind) hv
  have h0 : 0 ≤ tD v x := by
    refine Rat.not_lt.1 fun hlt => ?_
    have := Rat.mul_pos (show 0 < -tD v x by grind) (show 0 < 1 + x * v by grind)
    grind
  have := Rat.mul_nonneg h0 xv
  exact ⟨h0, by grind⟩
theorem aA_sub {v u : Rat} (hv : 0 ≤ v) (hvu : v ≤ u) (hu : u ≤ 1 / 2) : Null (fun M => aA u M - aA (tD v u) M - aA v M) := by
  have key : ∀ x h, v ≤ x → 0 < h → x + h ≤ u → ∀ M, AB ((aA (x + h) M - aA (tD v (x + h)) M) - (aA x M - aA (tD v x) M)) (24 * (h * h) + 3 * h * q4 M) := fun x h h1 h2 h3 M => by
    obtain ⟨i, i0, hi⟩ := inv_ex (1 + x * x) (by have := sq_nonneg x; grind)
    have a := aA_step (u := x) (h := h) (i := i) (by grind) (Rat.le_of_lt h2) (by grind) hi M
    have b := aA_diff (x := x) (h := h) (i := i) hv (by grind) h1 (Rat.le_of_lt h2) (by have := (tD_le hv (show v ≤ x + h by grind)).2; grind) hi M
    have c := a.add b.neg
    have e : aA (x + h) M - aA x M - h * i + -(aA (tD v (x + h)) M - aA (tD v x) M - h * i) = (aA (x + h) M - aA (tD v (x + h)) M) - (aA x M - aA (tD v x) M) := by grind
    rw [e] at c
    exact c.mono (by grind)
  have d1 := descend (f := fun x M => aA x M - aA (tD v x) M) (C := 24) (D := 1) hvu (by grind) (by grind) (fun x h h1 h2 _ h4 => ⟨_, null_q4c (3 * h) (by grind), 0, fun M _ => by have := (key x h h1 h2 h4 M).2; grind⟩)
  have d2 := descend (f := fun x M => -(aA x M - aA (tD v x) M)) (C := 24) (D := 1) hvu (by grind) (by grind) (fun x h h1 h2 _ h4 => ⟨_, null_q4c (3 * h) (by grind), 0, fun M _ => by have := (key x h h1 h2 h4 M).1; grind⟩)
  intro e he
  obtain ⟨N1, k1⟩ := d1 e he
  obtain ⟨N2, k2⟩ := d2 e he
  refine ⟨N1 + N2, fun M hM => ?_⟩
  have a1 := k1 M (by omega)
  have a2 := k2 M (by omega)
  simp only [tD_same, aA_zero] at a1 a2
  constructor <;> grind
/-- The angle whose tangent is 1, in two ways. -/
theorem machin : Null (fun M => (aA (1 / 2) M + aA (1 / 3) M) - (4 * aA (1 / 5) M - aA (1 / 239) M)) := by
  have d1 := aA_sub (v := 1 / 5) (u := 1 / 2) (by grind) (by grind) (by grind)
  have d2 := aA_sub (v := 1 / 5) (u := 1 / 3) (by grind) (by grind) (by grind)
  have d3 := aA_sub (v := 1 / 5) (u := 3 / 11) (by grind) (by grind) (by grind)
  have d4 := aA_sub (v := 1 / 8) (u := 1 / 5) (by grind) (by grind) (by grind)
  have d5 := aA_sub (v := 2 / 29) (u := 3 / 41) (by grind) (by grind) (by grind)
  rw [show tD (1 / 5) (1 / 2) = 3 / 11 by decide +kernel] at d1
  rw [show tD (1 / 5) (1 / 3) = 1 / 8 by decide +kernel] at d2
  rw [show tD (1 / 5) (3 / 11) = 2 / 29 by decide +kernel] at d3
  rw [show tD (1 / 8) (1 / 5) = 3 / 41 by decide +kernel] at d4
  rw [show tD (2 / 29) (3 / 41) = 1 / 239 by decide +kernel] at d5
  exact ((((d1.add d2).add d3).sub d4).sub d5).of_eq fun M => by grind
theorem aA_ag {m : Int} (hm : 2 ≤ m) (M : Nat) : aA (1 / (m : Rat)) M = agS m M := by
  have m0 : (0 : Rat) < (m : Rat) := by exact_mod_cast (show 0 < m by omega)
  have e : (1 / (m : Rat)) * (m : Rat) = 1 := rdm m0
  have h : ∀ n, sg n * uT (1 / (m : Rat)) n = agV m n := fun n => by
    induction n with
    | zero => show 1 * (1 / (m : Rat)) = ((1 : Int) : Rat) / (m : Rat); rw [Rat.one_mul]; rfl
    | succ n ih =>
      have p := n3_pos n
      show -sg n * ((2 * (n : Rat) + 1) / (2 * (n : Rat) + 3) * ((1 / (m : Rat)) * (1 / (m : Rat))) * uT (1 / (m : Rat)) n) = -(((2 * (n : Int) + 1 : Int) : Rat) / (((2 * (n : Int) + 3) * m * m : Int) : Rat) * agV m n)
      rw [← ih]
      have e1 : ((2 * (n : Int) + 1 : Int) : Rat) = 2 * (n : Rat) + 1 := by rw [Rat.intCast_add, Rat.intCast_mul]; rfl
      have e2 : (((2 * (n : Int) + 3) * m * m : Int) : Rat) = (2 * (n : Rat) + 3) * (m : Rat) * (m : Rat) := by rw [Rat.intCast_mul, Rat.intCast_mul, Rat.intCast_add, Rat.intCast_mul]; rfl
      have key : (2 * (n : Rat) + 1) / (2 * (n : Rat) + 3) * ((1 / (m : Rat)) * (1 / (m : Rat))) = ((2 * (n : Int) + 1 : Int) : Rat) / (((2 * (n : Int) + 3) * m * m : Int) : Rat) := by
        rw [e1, e2]
        have q : (0 : Rat) < (2 * (n : Rat) + 3) * (m : Rat) * (m : Rat) := Rat.mul_pos (Rat.mul_pos p m0) m0
        have r1 := rdm (a := 2 * (n : Rat) + 1) q
        have r2 := rdm (a := 2 * (n : Rat) + 1) p
        have lhs : (2 * (n : Rat) + 1) / (2 * (n : Rat) + 3) * ((1 / (m : Rat)) * (1 / (m : Rat))) * ((2 * (n : Rat) + 3) * (m : Rat) * (m : Rat)) = 2 * (n : Rat) + 1 := by
          have : (2 * (n : Rat) + 1) / (2 * (n : Rat) + 3) * ((1 / (m : Rat)) * (1 / (m : Rat))) * ((2 * (n : Rat) + 3) * (m : Rat) * (m : Rat)) = ((2 * (n : Rat) + 1) / (2 * (n : Rat) + 3) * (2 * (n : Rat) + 3)) * ((1 / (m : Rat) * (m : Rat)) * (1 / (m : Rat) * (m : Rat))) := by grind
          rw [this, r2, e]; grind
        refine Rat.le_antisymm (Rat.le_of_mul_le_mul_right (by rw [lhs, r1]; exact Rat.le_refl) q) (Rat.le_of_mul_le_mul_right (by rw [lhs, r1]; exact Rat.le_refl) q)
      rw [key]
      generalize ((2 * (n : Int) + 1 : Int) : Rat) / (((2 * (n : Int) + 3) * m * m : Int) : Rat) = c
      grind
  exact S_congr M fun i _ => h i
theorem pi_four : Null (fun M => 4 * (aA (1 / 2) M + aA (1 / 3) M) - piS M) := by
  refine (machin.bmul (Bdd.const 4)).of_eq fun M => ?_
  have a := aA_ag (m := 5) (by omega) M
  have b := aA_ag (m := 239) (by omega) M
  rw [show 1 / ((5 : Int) : Rat) = 1 / 5 by decide +kernel] at a
  rw [show 1 / ((239 : Int) : Rat) = 1 / 239 by decide +kernel] at b
  unfold piS
  rw [← a, ← b]
  grind
/-- One over 1 and a square. -/
def rI (x : Rat) : Rat := 1 / (1 + x * x)
theorem rI_mul (x : Rat) : rI x * (1 + x * x) = 1 := rdm (by have := sq_nonneg x; grind)
theorem rI_pos (x : Rat) : 0 < rI x := rdiv_pos (by grind) (by have := sq_nonneg x; grind)
theorem rI_le (x : Rat) : rI x ≤ 1 := by have := rI_mul x; have := Rat.mul_nonneg (Rat.le_of_lt (rI_pos x)) (sq_nonneg x); grind
theorem tD_mono {v x y : Rat} (hv : 0 ≤ v) (hvx : v ≤ x) (hxy : x ≤ y) : tD v x ≤ tD v y := by
  have := (tD_step hv hvx (show 0 ≤ y - x by grind)).1
  rwa [show x + (y - x) = y by grind] at this
theorem sum_le_aA {v x h : Rat} (hv : 0 ≤ v) (hv2 : v ≤ 1 / 2) (hvx : v ≤ x) (hh : 0 ≤ h) (M : Nat) (j : Nat) (hj : tD v (x + (j : Rat) * h) ≤ 1 / 2) :
    S (fun i => h * rI (x + (i : Rat) * h)) j ≤ aA (tD v (x + (j : Rat) * h)) M - aA (tD v x) M + (j : Rat) * (16 * (h * h) + 2 * (h * q4 M)) := by
  induction j with
  | zero =>
    have e : x + ((0 : Nat) : Rat) * h = x := by grind
    rw [e]
    show (0 : Rat) ≤ _
    grind
  | succ j ih =>
    have ec : ((j + 1 : Nat) : Rat) = (j : Rat) + 1 := by push_cast; rfl
    have j0 : (0 : Rat) ≤ (j : Rat) := by exact_mod_cast Nat.zero_le j
    have jh := Rat.mul_nonneg j0 hh
    have e1 : x + ((j + 1 : Nat) : Rat) * h = x + (j : Rat) * h + h := by rw [ec]; grind
    rw [e1] at hj ⊢
    have ih' := ih (Rat.le_trans (tD_mono hv (by grind) (by grind)) hj)
    have st := (aA_diff (x := x + (j : Rat) * h) (i := rI (x + (j : Rat) * h)) hv hv2 (by grind) hh hj (rI_mul _) M).1
    show S (fun i => h * rI (x + (i : Rat) * h)) j + h * rI (x + (j : Rat) * h) ≤ _
    rw [ec]
    grind
theorem S_split (f : Nat → Rat) (a b : Nat) : S f (a + b) = S f a + S (fun i => f (a + i)) b := by
  induction b with
  | zero => show S f a = S f a + 0; grind
  | succ b ih => show S f (a + b) + f (a + b) = S f a + (S (fun i => f (a + i)) b + f (a + b)); rw [ih]; grind
/-- The sum that is nearly the angle whose tangent is 1: not much more than it. -/
theorem sum_angle (n : Nat) {h : Rat} (hh : h * (2 * ((n : Rat) + 1)) = 1) : LeN (fun _ => 4 * S (fun i => h * rI ((i : Rat) * h)) (2 * (n + 1))) (fun M => piS M + 64 * (1 / ((n : Rat) + 1))) := by
  have n0 : (0 : Rat) < (n : Rat) + 1 := pos1 n
  have h0 : 0 < h := by
    refine Rat.not_le.1 fun hle => ?_
    have := Rat.mul_nonneg (show 0 ≤ -h by grind) (show 0 ≤ 2 * ((n : Rat) + 1) by grind)
    grind
  have ec : ((n + 1 : Nat) : Rat) = (n : Rat) + 1 := by push_cast; rfl
  have hm : ((n + 1 : Nat) : Rat) * h = 1 / 2 := by rw [ec]; grind
  have a : ∀ M, S (fun i => h * rI (0 + (i : Rat) * h)) (n + 1) ≤ aA (1 / 2) M + ((n : Rat) + 1) * (16 * (h * h) + 2 * (h * q4 M)) := fun M => by
    have := sum_le_aA (v := 0) (x := 0) (by grind) (by grind) (by grind) (Rat.le_of_lt h0) M (n + 1) (by rw [hm]; decide +kernel)
    rw [hm, show tD 0 (0 + 1 / 2) = 1 / 2 by decide +kernel, show tD 0 0 = 0 by decide +kernel, aA_zero, ec] at this
    grind
  have b : ∀ M, S (fun i => h * rI (1 / 2 + (i : Rat) * h)) (n + 1) ≤ aA (1 / 3) M + ((n : Rat) + 1) * (16 * (h * h) + 2 * (h * q4 M)) := fun M => by
    have := sum_le_aA (v := 1 / 2) (x := 1 / 2) (by grind) (by grind) (by grind) (Rat.le_of_lt h0) M (n + 1) (by rw [hm]; decide +kernel)
    rw [hm, show tD (1 / 2) (1 / 2 + 1 / 2) = 1 / 3 by decide +kernel, show tD (1 / 2) (1 / 2) = 0 by decide +kernel, aA_zero, ec] at this
    grind
  have sp : S (fun i => h * rI ((i : Rat) * h)) (2 * (n + 1)) = S (fun i => h * rI (0 + (i : Rat) * h)) (n + 1) + S (fun i => h * rI (1 / 2 + (i : Rat) * h)) (n + 1) := by
    rw [show 2 * (n + 1) = (n + 1) + (n + 1) by omega, S_split]
    congr 1
    · exact S_congr _ fun i _ => by rw [show 0 + (i : Rat) * h = (i : Rat) * h by grind]
    · refine S_congr _ fun i _ => ?_
      have e : ((n + 1 + i : Nat) : Rat) = ((n + 1 : Nat) : Rat) + (i : Rat) := by push_cast; rfl
      rw [e, show (((n + 1 : Nat) : Rat) + (i : Rat)) * h = ((n + 1 : Nat) : Rat) * h + (i : Rat) * h by grind, hm]
  rw [sp]
  -- (n + 1) h is one half
  have nh : ((n : Rat) + 1) * h = 1 / 2 := by grind
  have hu : h = 1 / 2 * (1 / ((n : Rat) + 1)) := by
    have um : 1 / ((n : Rat) + 1) * ((n : Rat) + 1) = 1 := rdm n0
    have : h * (((n : Rat) + 1) * (1 / ((n : Rat) + 1))) = 1 / 2 * (1 / ((n : Rat) + 1)) := by rw [← nh]; grind
    rw [show ((n : Rat) + 1) * (1 / ((n : Rat) + 1)) = 1 by grind] at this
    grind
  refine LeN.of_null ((pi_four).add (null_q4c 8 (by grind))) 0 fun M _ => ?_
  have a1 := a M
  have b1 := b M
  have e1 : ((n : Rat) + 1) * (16 * (h * h) + 2 * (h * q4 M)) = 16 * (((n : Rat) + 1) * h) * h + 2 * (((n : Rat) + 1) * h) * q4 M := by grind
  rw [e1, nh] at a1 b1
  have u0 : (0 : Rat) < 1 / ((n : Rat) + 1) := rdiv_pos (by grind) n0
  generalize 1 / ((n : Rat) + 1) = u at *
  rw [hu] at a1 b1 ⊢
  generalize S (fun i => 1 / 2 * u * rI (0 + (i : Rat) * (1 / 2 * u))) (n + 1) = s1 at *
  generalize S (fun i => 1 / 2 * u * rI (1 / 2 + (i : Rat) * (1 / 2 * u))) (n + 1) = s2 at *
  grind
end Go.Proofs.YtgmnknmjainababGreat.Ex

namespace Go.Proofs.YtgmnknmjainababGreat.Ex
set_option linter.unusedVariables false

/-- e to the power of a ratio. -/
def ex (c : Rat) (M : Nat) : Rat := Ev (fun _ => c) M
theorem ex_add (a b : Rat) : Null (fun M => ex a M * ex b M - ex (a + b) M) := Ev_add (Bdd.const a) (Bdd.const b)
theorem ex_bdd (a : Rat) : Bdd (ex a) := Ev_bdd (Bdd.const a)
theorem ex_pos (a : Rat) : ∃ N : Nat, ∀ M, N ≤ M → 0 ≤ ex a M := by
  obtain ⟨c, c0, N, h⟩ := Ev_low (x := fun _ => a) (Bdd.const a)
  exact ⟨N, fun M hM => Rat.le_trans (Rat.le_of_lt c0) (h M hM)⟩
theorem ex_mono {a b : Rat} (h : a ≤ b) : LeN (ex a) (ex b) := by
  obtain ⟨v, hv, N, k⟩ := Ev_mono (x := fun _ => a) (y := fun _ => b) (Bdd.const a) (Bdd.const b) null_zero 0 (fun M _ => by grind)
  exact LeN.of_null hv N k
theorem ex_little {t : Rat} (h0 : 0 ≤ t) (h4 : t ≤ 1 / 4) {M : Nat} (hM : 2 ≤ M) : 0 ≤ ex (-t) M ∧ ex (-t) M ≤ 1 - t + 2 * (t * t) := by
  have := E_little2 (h := -t) (b := t) ⟨by grind, by grind⟩ h4 hM
  have tt : t * t ≤ t * (1 / 4) := Rat.mul_le_mul_of_nonneg_left h4 h0
  show 0 ≤ E (-t) M ∧ E (-t) M ≤ _
  obtain ⟨h1, h2⟩ := this
  constructor <;> grind
theorem ex_step {a t : Rat} (h0 : 0 ≤ t) (h4 : t ≤ 1 / 4) : ∃ z, Null z ∧ ∃ N : Nat, ∀ M, N ≤ M → ex (a + -t) M ≤ ex a M * (1 - t + 2 * (t * t)) + z M := by
  obtain ⟨N, hN⟩ := ex_pos a
  refine ⟨_, (ex_add a (-t)).neg, N + 2, fun M hM => ?_⟩
  have h1 := hN M (by omega)
  have h2 := (ex_little h0 h4 (M := M) (by omega)).2
  have h3 := Rat.mul_le_mul_of_nonneg_left h2 h1
  grind
end Go.Proofs.YtgmnknmjainababGreat.Ex

namespace Go.Proofs.YtgmnknmjainababGreat.Ex
set_option linter.unusedVariables false

/-- Backwards: each of the series' numbers lies over its tangent. -/
theorem eT_back {x y : Rat} (hx : 0 ≤ x) (hxy : x ≤ y) (n : Nat) : eT y n ≤ eT x n + (y - x) * eD y n := by
  induction n with
  | zero => show y ≤ x + (y - x) * 1; grind
  | succ n ih =>
    have p := odd_pos n
    have hy : 0 ≤ y := by grind
    have e1 := eT_succ x n
    have e2 := eT_succ y n
    have e3 := eD_mul y n
    have t0 := eT_nonneg hx n
    have mono := eT_mono hx hxy n
    obtain ⟨h, hh⟩ : ∃ h, h = y - x := ⟨_, rfl⟩
    have h0 : 0 ≤ h := by grind
    rw [← hh] at ih ⊢
    have m1 := Rat.mul_le_mul_of_nonneg_left ih (sq_nonneg y)
    refine Rat.le_of_mul_le_mul_left (c := 2 * ((n : Rat) + 1) + 1) ?_ p
    show _ ≤ (2 * ((n : Rat) + 1) + 1) * (eT x (n + 1) + h * (2 * y * eT y n))
    have k4 : (2 * ((n : Rat) + 1) + 1) * (eT x (n + 1) + h * (2 * y * eT y n)) = 2 * (x * x) * eT x n + (2 * ((n : Rat) + 1) + 1) * (h * (2 * y * eT y n)) := by rw [← e1]; grind
    rw [k4, e2]
    have k5 : y * y - x * x ≤ 2 * (h * y) := by
      have := Rat.mul_nonneg h0 h0
      have : y * y - x * x = 2 * (h * y) - h * h := by rw [hh]; grind
      grind
    have k6 := Rat.mul_le_mul_of_nonneg_right k5 t0
    have k7 := Rat.mul_le_mul_of_nonneg_left mono (Rat.mul_nonneg (show (0 : Rat) ≤ 2 by grind) (Rat.mul_nonneg h0 hy))
    have k8 := Rat.le_trans k6 k7
    have k9 : y * y * (h * eD y n) = h * y * ((2 * (n : Rat) + 1) * eT y n) := by rw [← e3]; grind
    have k10 : y * y * (eT x n + h * eD y n) = y * y * eT x n + y * y * (h * eD y n) := by grind
    rw [k10, k9] at m1
    grind
theorem eS_up (x : Rat) (hx : 0 ≤ x) (M : Nat) : eS x M ≤ eS x (M + 1) := by have := eT_nonneg hx M; show eS x M ≤ eS x M + eT x M; grind
theorem eS_back {x y : Rat} (hx : 0 ≤ x) (hxy : x ≤ y) (M : Nat) : eS y M ≤ eS x M + (y - x) * (1 + 2 * y * eS y M) := by
  have hy : 0 ≤ y := by grind
  have key : ∀ m, eS y (m + 1) ≤ eS x (m + 1) + (y - x) * (1 + 2 * y * eS y m) := fun m => by
    induction m with
    | zero => show 0 + y ≤ 0 + x + (y - x) * (1 + 2 * y * 0); grind
    | succ n ih =>
      have g := eT_back hx hxy (n + 1)
      have e : eD y (n + 1) = 2 * y * eT y n := rfl
      rw [e] at g
      show eS y (n + 1) + eT y (n + 1) ≤ eS x (n + 1) + eT x (n + 1) + (y - x) * (1 + 2 * y * (eS y n + eT y n))
      grind
  cases M with
  | zero => show (0 : Rat) ≤ 0 + (y - x) * (1 + 2 * y * 0); grind
  | succ m =>
    have h1 := key m
    have h2 := eS_up y hy m
    have h3 := Rat.mul_le_mul_of_nonneg_left h2 (Rat.mul_nonneg (show 0 ≤ y - x by grind) (show 0 ≤ 2 * y by grind))
    grind
/-- The bounds for what lies up to Y. -/
structure Bnd (Y K V : Rat) : Prop where
  y0 : 0 ≤ Y
  k0 : 0 ≤ K
  v1 : 1 ≤ V
  s : ∀ x, 0 ≤ x → x ≤ Y → ∀ M, eS x M ≤ K
  v : ∀ c, 0 ≤ c → c ≤ 2 * (Y * Y) → ∀ M, ex (-c) M ≤ V
theorem bnd_ex {Y : Rat} (hY : 0 ≤ Y) : ∃ K V, Bnd Y K V := by
  obtain ⟨K, k0, hK⟩ := eS_bdd hY
  obtain ⟨V, v0, hV⟩ := E_bound (2 * (Y * Y))
  have yy := Rat.mul_nonneg hY hY
  exact ⟨K, V + 1, hY, k0, by grind, fun x h0 h1 M => Rat.le_trans (eS_mono h0 h1 M) (hK M), fun c h0 h1 M => by
    have := (hV M (-c) ⟨by grind, by grind⟩).2
    show E (-c) M ≤ _
    grind⟩
theorem eF_ex (x : Rat) (M : Nat) : eF x M = eS x M * ex (-(x * x)) M := rfl
theorem up_key {s s' h x Y K L C1 : Rat} (hx : 0 ≤ x) (hh : 0 < h) (hY : x + h ≤ Y) (s0 : 0 ≤ s) (sK : s ≤ K) (sK' : s' ≤ K) (s'0 : 0 ≤ s') (hL : L = 1 + 2 * (Y * K)) (hC : C1 = 2 * K + 2 * (Y * L)) (hb : s' ≤ s + h * (1 + 2 * (x + h) * s')) : s' ≤ s + h + 2 * (x * h) * s + C1 * (h * h) := by
  have K0 : 0 ≤ K := by grind
  have Y0 : 0 ≤ Y := by grind
  have a1 : (x + h) * s' ≤ Y * K := Rat.le_trans (Rat.mul_le_mul_of_nonneg_right hY s'0) (Rat.mul_le_mul_of_nonneg_left sK' Y0)
  have a2 : s' ≤ s + h * L := by
    have := Rat.mul_le_mul_of_nonneg_left (show 1 + 2 * (x + h) * s' ≤ L by grind) (Rat.le_of_lt hh)
    grind
  have L0 : 0 ≤ L := by have := Rat.mul_nonneg Y0 K0; grind
  have a3 := Rat.mul_le_mul_of_nonneg_left a2 (show 0 ≤ 2 * (x + h) by grind)
  have a4 := Rat.mul_le_mul_of_nonneg_left (show 1 + 2 * (x + h) * s' ≤ 1 + 2 * (x + h) * (s + h * L) by grind) (Rat.le_of_lt hh)
  have a5 := Rat.mul_le_mul_of_nonneg_right hY (Rat.mul_nonneg (Rat.le_of_lt hh) L0)
  have a6 := Rat.mul_le_mul_of_nonneg_left a5 (show 0 ≤ 2 * h by grind)
  have a7 := Rat.mul_le_mul_of_nonneg_left sK (Rat.mul_nonneg (Rat.le_of_lt hh) (Rat.le_of_lt hh))
  rw [hC]
  grind
theorem up_key2 {s s' h x Y K C1 C2 A t q : Rat} (hx : 0 ≤ x) (hh : 0 < h) (h1 : h ≤ 1) (hY : x + h ≤ Y) (s0 : 0 ≤ s) (sK : s ≤ K) (c1 : 0 ≤ C1) (hA : A = 2 * Y + 1) (hC2 : C2 = 2 * (A * A)) (ht : t = h * (2 * x + h)) (q0 : 0 ≤ q) (hq : q ≤ 1 - t + 2 * (t * t)) (hs : s' ≤ s + h + 2 * (x * h) * s + C1 * (h * h)) : s' * q ≤ s + h + (C1 + C2 * (K + 1 + 2 * (Y * K) + C1)) * (h * h) := by
  have K0 : 0 ≤ K := by grind
  have Y0 : 0 ≤ Y := by grind
  have h0 := Rat.le_of_lt hh
  have hhh := Rat.mul_nonneg h0 h0
  have a0 : 0 ≤ 2 * x + h := by grind
  have aA : 2 * x + h ≤ A := by grind
  have A0 : 0 ≤ A := by grind
  have aa : (2 * x + h) * (2 * x + h) ≤ A * A := Rat.le_trans (Rat.mul_le_mul_of_nonneg_left aA a0) (Rat.mul_le_mul_of_nonneg_right aA A0)
  have tt : t * t ≤ A * A * (h * h) := by
    have := Rat.mul_le_mul_of_nonneg_right aa hhh
    rw [ht]; grind
  have hq2 : q ≤ 1 - 2 * (x * h) + C2 * (h * h) := by
    have : t = 2 * (x * h) + h * h := by rw [ht]; grind
    rw [hC2]; grind
  have C20 : 0 ≤ C2 := by rw [hC2]; have := Rat.mul_nonneg A0 A0; grind
  obtain ⟨p, hp⟩ : ∃ p, p = s + h + 2 * (x * h) * s + C1 * (h * h) := ⟨_, rfl⟩
  have xh := Rat.mul_nonneg hx h0
  have xhs := Rat.mul_nonneg xh s0
  have p0 : 0 ≤ p := by rw [hp]; have := Rat.mul_nonneg c1 hhh; grind
  have m1 := Rat.mul_le_mul_of_nonneg_right (show s' ≤ p by grind) q0
  have m2 := Rat.mul_le_mul_of_nonneg_left hq2 p0
  refine Rat.le_trans m1 (Rat.le_trans m2 ?_)
  -- p (1 - 2 x h) is at most s + h + C1 h h
  have b1 : p * (1 - 2 * (x * h)) ≤ s + h + C1 * (h * h) := by
    have n1 := Rat.mul_nonneg xh h0
    have n2 := Rat.mul_nonneg xh xhs
    have n3 := Rat.mul_nonneg xh (Rat.mul_nonneg c1 hhh)
    rw [hp]; grind
  have b2 : p ≤ K + 1 + 2 * (Y * K) + C1 := by
    have n1 : x * h ≤ Y := by have := Rat.mul_le_mul_of_nonneg_left h1 hx; grind
    have n2 := Rat.mul_le_mul_of_nonneg_right n1 s0
    have n3 := Rat.mul_le_mul_of_nonneg_left sK Y0
    have n4 : h * h ≤ 1 := by have := Rat.mul_le_mul_of_nonneg_left h1 h0; grind
    have n5 := Rat.mul_le_mul_of_nonneg_left n4 c1
    rw [hp]; grind
  have b3 := Rat.mul_le_mul_of_nonneg_right b2 (Rat.mul_nonneg C20 hhh)
  grind
/-- How the error function grows: at most by e to the power of -x^2, for each small step. -/
theorem eF_up {Y K V : Rat} (B : Bnd Y K V) : ∃ C D, 0 ≤ C ∧ 0 < D ∧ D ≤ 1 ∧ ∀ x h, 0 ≤ x → 0 < h → h ≤ D → x + h ≤ Y → ∃ z, Null z ∧ ∃ N : Nat, ∀ M, N ≤ M → eF (x + h) M ≤ eF x M + h * ex (-(x * x)) M + C * (h * h) + z M := by
  obtain ⟨L, hL⟩ : ∃ L, L = 1 + 2 * (Y * K) := ⟨_, rfl⟩
  obtain ⟨C1, hC1⟩ : ∃ C1, C1 = 2 * K + 2 * (Y * L) := ⟨_, rfl⟩
  obtain ⟨A, hA⟩ : ∃ A, A = 2 * Y + 1 := ⟨_, rfl⟩
  obtain ⟨C2, hC2⟩ : ∃ C2, C2 = 2 * (A * A) := ⟨_, rfl⟩
  obtain ⟨C3, hC3⟩ : ∃ C3, C3 = C1 + C2 * (K + 1 + 2 * (Y * K) + C1) := ⟨_, rfl⟩
  have y0 := B.y0
  have k0 := B.k0
  have v1 := B.v1
  have yk := Rat.mul_nonneg y0 k0
  have L0 : 0 ≤ L := by grind
  have yl := Rat.mul_nonneg y0 L0
  have C10 : 0 ≤ C1 := by grind
  have A0 : 0 ≤ A := by grind
  have A1 : 1 ≤ A := by grind
  have C20 : 0 ≤ C2 := by rw [hC2]; have := Rat.mul_nonneg A0 A0; grind
  have C30 : 0 ≤ C3 := by rw [hC3]; have := Rat.mul_nonneg C20 (show 0 ≤ K + 1 + 2 * (Y * K) + C1 by grind); grind
  have A4 : 0 < 4 * A := by grind
  have dm : 1 / (4 * A) * (4 * A) = 1 := rdm A4
  have d0 : 0 < 1 / (4 * A) := rdiv_pos (by grind) A4
  refine ⟨C3 * V, 1 / (4 * A), Rat.mul_nonneg C30 (by grind), d0, rdiv_le A4 (by grind), fun x h hx hh hD hY => ?_⟩
  have h1 : h ≤ 1 := Rat.le_trans hD (rdiv_le A4 (by grind))
  have hA4 : h * A ≤ 1 / 4 := by have := Rat.mul_le_mul_of_nonneg_right hD A0; grind
  obtain ⟨t, ht⟩ : ∃ t, t = h * (2 * x + h) := ⟨_, rfl⟩
  have h0 := Rat.le_of_lt hh
  have t0 : 0 ≤ t := by rw [ht]; exact Rat.mul_nonneg h0 (by grind)
  have t4 : t ≤ 1 / 4 := by
    have := Rat.mul_le_mul_of_nonneg_left (show 2 * x + h ≤ A by grind) h0
    rw [ht]; grind
  have sqe : -((x + h) * (x + h)) = -(x * x) + -t := by rw [ht]; grind
  have eb : Bdd (eS (x + h)) := Bdd.of_le K 0 fun M _ => ⟨by have := eS_nonneg (x := x + h) (by grind) M; grind, B.s _ (by grind) hY M⟩
  have hz := ((ex_add (-(x * x)) (-t)).neg).bmul eb
  obtain ⟨N, hN⟩ := ex_pos (-(x * x))
  refine ⟨_, hz, N + 2, fun M hM => ?_⟩
  have v0 := hN M (by omega)
  have vV : ex (-(x * x)) M ≤ V := B.v _ (sq_nonneg x) (by
    have xx : x * x ≤ Y * Y := Rat.le_trans (Rat.mul_le_mul_of_nonneg_left (show x ≤ Y by grind) hx) (Rat.mul_le_mul_of_nonneg_right (show x ≤ Y by grind) y0)
    have := Rat.mul_nonneg y0 y0
    grind) M
  have q := ex_little t0 t4 (M := M) (by omega)
  have sb := eS_back hx (show x ≤ x + h by grind) M
  rw [show x + h - x = h by grind] at sb
  have s1 := up_key (Y := Y) (K := K) (L := L) (C1 := C1) hx hh hY (eS_nonneg hx M) (B.s x hx (by grind) M) (B.s _ (by grind) hY M) (eS_nonneg (by grind) M) hL hC1 sb
  have s2 := up_key2 (q := ex (-t) M) (A := A) (C2 := C2) hx hh h1 hY (eS_nonneg hx M) (B.s x hx (by grind) M) C10 hA hC2 ht q.1 q.2 s1
  rw [← hC3] at s2
  have s3 := Rat.mul_le_mul_of_nonneg_right s2 v0
  have hhh := Rat.mul_nonneg h0 h0
  have s4 := Rat.mul_le_mul_of_nonneg_left vV (Rat.mul_nonneg C30 hhh)
  rw [eF_ex, eF_ex, sqe]
  generalize ex (-(x * x)) M = v at *
  generalize ex (-t) M = q at *
  generalize ex (-(x * x) + -t) M = vt at *
  generalize eS (x + h) M = s' at *
  generalize eS x M = s at *
  clear hz eb sb s1
  grind
end Go.Proofs.YtgmnknmjainababGreat.Ex

namespace Go.Proofs.YtgmnknmjainababGreat.Ex
set_option linter.unusedVariables false

theorem LeN.scale {f g : Nat → Rat} (h : LeN f g) {c : Rat} (hc : 0 ≤ c) : LeN (fun M => c * f M) (fun M => c * g M) := by
  obtain ⟨z, hz, k⟩ := h.null
  exact LeN.of_null (hz.bmul (Bdd.const c)) 0 fun M _ => by have := Rat.mul_le_mul_of_nonneg_left (k M) hc; grind
/-- From a to b the error function grows at most as fast as at a. -/
theorem eF_chord {Y K V a b : Rat} (B : Bnd Y K V) (ha : 0 ≤ a) (hab : a ≤ b) (hb : b ≤ Y) : LeN (eF b) (fun M => eF a M + (b - a) * ex (-(a * a)) M) := by
  obtain ⟨C, D, c0, d0, _, up⟩ := eF_up B
  have d := descend (f := fun x M => eF x M - (x - a) * ex (-(a * a)) M) (a := a) (b := b) (C := C) (D := D) hab c0 d0 (fun x h h1 h2 h3 h4 => by
    obtain ⟨z, hz, N, k⟩ := up x h (by grind) h2 h3 (by grind)
    have xx : -(x * x) ≤ -(a * a) := by
      have := Rat.mul_le_mul_of_nonneg_left h1 ha
      have := Rat.mul_le_mul_of_nonneg_right h1 (show 0 ≤ x by grind)
      grind
    obtain ⟨z2, hz2, k2⟩ := ((ex_mono xx).scale (Rat.le_of_lt h2)).null
    exact ⟨_, hz.add hz2, N, fun M hM => by have := k M hM; have := k2 M; grind⟩)
  intro e he
  obtain ⟨N, k⟩ := d e he
  exact ⟨N, fun M hM => by have := k M hM; grind⟩
theorem eF_zero (M : Nat) : eF 0 M = 0 := by
  have h : ∀ n, eT 0 n = 0 := fun n => by
    induction n with
    | zero => rfl
    | succ n ih => show _ * eT 0 n = 0; rw [ih]; grind
  have : eS 0 M = 0 := by
    unfold eS
    induction M with
    | zero => rfl
    | succ n ih => show S (eT 0) n + eT 0 n = 0; rw [ih, h]; grind
  rw [eF_ex, this]; grind
/-- The error function lies below the sum of what stands at the left. -/
theorem eF_left {Y K V x h : Rat} (B : Bnd Y K V) (hx : 0 ≤ x) (hh : 0 ≤ h) (j : Nat) (hj : (j : Rat) * h * x ≤ Y) : LeN (eF ((j : Rat) * h * x)) (fun M => S (fun i => x * h * ex (-(((i : Rat) * h * x) * ((i : Rat) * h * x))) M) j) := by
  induction j with
  | zero =>
    refine LeN.of_le 0 fun M _ => ?_
    rw [show ((0 : Nat) : Rat) * h * x = 0 by grind, eF_zero]
    show (0 : Rat) ≤ 0
    grind
  | succ j ih =>
    have ec : ((j + 1 : Nat) : Rat) = (j : Rat) + 1 := by push_cast; rfl
    have j0 : (0 : Rat) ≤ (j : Rat) := by exact_mod_cast Nat.zero_le j
    have hx0 := Rat.mul_nonneg hh hx
    have jh := Rat.mul_nonneg (Rat.mul_nonneg j0 hh) hx
    rw [ec] at hj ⊢
    have e : ((j : Rat) + 1) * h * x = (j : Rat) * h * x + h * x := by grind
    have ih' := ih (by grind)
    have c := eF_chord B jh (show (j : Rat) * h * x ≤ ((j : Rat) + 1) * h * x by grind) hj
    refine c.trans ?_
    have := ih'.add (LeN.refl (fun M => (((j : Rat) + 1) * h * x - (j : Rat) * h * x) * ex (-(((j : Rat) * h * x) * ((j : Rat) * h * x))) M))
    refine this.trans (LeN.of_le 0 fun M _ => ?_)
    show _ ≤ S (fun i => x * h * ex (-(((i : Rat) * h * x) * ((i : Rat) * h * x))) M) j + x * h * ex (-(((j : Rat) * h * x) * ((j : Rat) * h * x))) M
    grind
/-- What is left of the angle. -/
def gG (h x : Rat) (n M : Nat) : Rat := S (fun i => h * rI ((i : Rat) * h) * ex (-(x * x * (1 + ((i : Rat) * h) * ((i : Rat) * h)))) M) n
def gE (h x : Rat) (n M : Nat) : Rat := S (fun i => h * ex (-(((i : Rat) * h * x) * ((i : Rat) * h * x))) M) n
theorem gG_pos {h : Rat} (hh : 0 ≤ h) (x : Rat) (n : Nat) : ∃ N : Nat, ∀ M, N ≤ M → 0 ≤ gG h x n M := by
  induction n with
  | zero => exact ⟨0, fun M _ => by show (0 : Rat) ≤ 0; grind⟩
  | succ n ih =>
    obtain ⟨N1, k1⟩ := ih
    obtain ⟨N2, k2⟩ := ex_pos (-(x * x * (1 + ((n : Rat) * h) * ((n : Rat) * h))))
    refine ⟨N1 + N2, fun M hM => ?_⟩
    have a1 := k1 M (by omega)
    have a2 := Rat.mul_nonneg (Rat.mul_nonneg hh (Rat.le_of_lt (rI_pos ((n : Rat) * h)))) (k2 M (by omega))
    show 0 ≤ gG h x n M + h * rI ((n : Rat) * h) * ex (-(x * x * (1 + ((n : Rat) * h) * ((n : Rat) * h)))) M
    grind
/-- One of its parts, a little farther. -/
theorem part_step {Y K V x k s : Rat} (B : Bnd Y K V) (hx : 0 ≤ x) (hk : 0 < k) (k1 : k ≤ 1) (hY : x + k ≤ Y) (hs : 0 ≤ s) (hs1 : s ≤ 1) (hD : 8 * (k * (2 * Y + 1)) ≤ 1) :
    ∃ z, Null z ∧ ∃ N : Nat, ∀ M, N ≤ M → rI s * ex (-((x + k) * (x + k) * (1 + s * s))) M ≤ rI s * ex (-(x * x * (1 + s * s))) M - 2 * (x * k) * (ex (-(x * x)) M * ex (-((s * x) * (s * x))) M) + 8 * ((2 * Y + 1) * (2 * Y + 1)) * V * (k * k) + z M := by
  obtain ⟨c, hc⟩ : ∃ c, c = 1 + s * s := ⟨_, rfl⟩
  have k0 := Rat.le_of_lt hk
  have y0 := B.y0
  have ss : s * s ≤ 1 := by have := Rat.mul_le_mul_of_nonneg_left hs1 hs; grind
  have ss0 := sq_nonneg s
  have rc : rI s * c = 1 := by rw [hc]; exact rI_mul s
  have r0 := Rat.le_of_lt (rI_pos s)
  have r1 := rI_le s
  obtain ⟨t, ht⟩ : ∃ t, t = k * (2 * x + k) * c := ⟨_, rfl⟩
  obtain ⟨A, hA⟩ : ∃ A, A = 2 * Y + 1 := ⟨_, rfl⟩
  have A0 : 0 ≤ A := by grind
  have aA : 2 * x + k ≤ A := by grind
  have ka : k * (2 * x + k) ≤ k * A := Rat.mul_le_mul_of_nonneg_left aA k0
  have ka0 : 0 ≤ k * (2 * x + k) := Rat.mul_nonneg k0 (by grind)
  have t0 : 0 ≤ t := by rw [ht]; exact Rat.mul_nonneg ka0 (by grind)
  have t2 : t ≤ 2 * (k * A) := by
    have a := Rat.mul_le_mul_of_nonneg_left (show c ≤ 2 by grind) ka0
    rw [ht]; grind
  have t4 : t ≤ 1 / 4 := by rw [← hA] at hD; grind
  obtain ⟨z, hz, N1, h1⟩ := ex_step (a := -(x * x * c)) t0 t4
  have hadd := (ex_add (-(x * x)) (-((s * x) * (s * x))))
  obtain ⟨N2, h2⟩ := ex_pos (-(x * x * c))
  refine ⟨_, hz.add (hadd.bmul (Bdd.const (2 * (x * k)))) |>.add hz.neg |>.add (hz.bmul (Bdd.const (rI s))), N1 + N2, fun M hM => ?_⟩
  have a1 := h1 M (by omega)
  have v0 := h2 M (by omega)
  have vV : ex (-(x * x * c)) M ≤ V := B.v _ (Rat.mul_nonneg (sq_nonneg x) (by grind)) (by
    have xx : x * x ≤ Y * Y := Rat.le_trans (Rat.mul_le_mul_of_nonneg_left (show x ≤ Y by grind) hx) (Rat.mul_le_mul_of_nonneg_right (show x ≤ Y by grind) y0)
    have p1 := Rat.mul_le_mul_of_nonneg_left (show c ≤ 2 by grind) (sq_nonneg x)
    grind) M
  have e1 : -((x + k) * (x + k) * c) = -(x * x * c) + -t := by rw [ht]; grind
  have e2 : -(x * x) + -((s * x) * (s * x)) = -(x * x * c) := by rw [hc]; grind
  rw [← hc, e1]
  rw [e2]
  have m1 := Rat.mul_le_mul_of_nonneg_left a1 r0
  have tt : t * t ≤ 4 * (A * A) * (k * k) := by
    have p1 := Rat.mul_le_mul_of_nonneg_left t2 t0
    have p2 := Rat.mul_le_mul_of_nonneg_right t2 (show 0 ≤ 2 * (k * A) by have := Rat.mul_nonneg k0 A0; grind)
    grind
  -- rI (- t) is at most -2 x k
  have rt : 2 * (x * k) ≤ rI s * t := by
    have : rI s * t = k * (2 * x + k) * (rI s * c) := by rw [ht]; grind
    rw [this, rc]
    have := Rat.mul_nonneg k0 k0
    grind
  have m2 := Rat.mul_le_mul_of_nonneg_right rt v0
  have tt0 := sq_nonneg t
  have m3 := Rat.mul_le_mul_of_nonneg_right r1 tt0
  have m4 := Rat.mul_le_mul_of_nonneg_right (show 2 * (rI s * (t * t)) ≤ 8 * (A * A) * (k * k) by grind) v0
  have AA := Rat.mul_nonneg (Rat.mul_nonneg A0 A0) (Rat.mul_nonneg k0 k0)
  have m5 := Rat.mul_le_mul_of_nonneg_left vV (show 0 ≤ 8 * (A * A * (k * k)) by grind)
  rw [← hA]
  generalize ex (-(x * x * c)) M = v at *
  generalize ex (-(x * x * c) + -t) M = vt at *
  generalize ex (-(x * x)) M * ex (-((s * x) * (s * x))) M = w at *
  clear hadd hz h1 h2
  grind
theorem gG_step {Y K V x k h : Rat} (B : Bnd Y K V) (hx : 0 ≤ x) (hk : 0 < k) (k1 : k ≤ 1) (hY : x + k ≤ Y) (hh : 0 ≤ h) (hD : 8 * (k * (2 * Y + 1)) ≤ 1) (n : Nat) (hn : (n : Rat) * h ≤ 1) :
    ∃ z, Null z ∧ ∃ N : Nat, ∀ M, N ≤ M → gG h (x + k) n M ≤ gG h x n M - 2 * (x * k) * (ex (-(x * x)) M * gE h x n M) + (n : Rat) * h * (8 * ((2 * Y + 1) * (2 * Y + 1)) * V * (k * k)) + z M := by
  induction n with
  | zero =>
    refine ⟨_, null_zero, 0, fun M _ => ?_⟩
    show (0 : Rat) ≤ 0 - 2 * (x * k) * (ex (-(x * x)) M * 0) + ((0 : Nat) : Rat) * h * _ + 0
    grind
  | succ n ih =>
    have ec : ((n + 1 : Nat) : Rat) = (n : Rat) + 1 := by push_cast; rfl
    have n0 : (0 : Rat) ≤ (n : Rat) := by exact_mod_cast Nat.zero_le n
    rw [ec] at hn
    obtain ⟨z1, hz1, N1, h1⟩ := ih (by grind)
    obtain ⟨z2, hz2, N2, h2⟩ := part_step B hx hk k1 hY (s := (n : Rat) * h) (Rat.mul_nonneg n0 hh) (by grind) hD
    refine ⟨_, hz1.add (hz2.bmul (Bdd.const h)), N1 + N2, fun M hM => ?_⟩
    have a1 := h1 M (by omega)
    have a2 := Rat.mul_le_mul_of_nonneg_left (h2 M (by omega)) hh
    show gG h (x + k) n M + h * rI ((n : Rat) * h) * ex (-((x + k) * (x + k) * (1 + ((n : Rat) * h) * ((n : Rat) * h)))) M ≤ gG h x n M + h * rI ((n : Rat) * h) * ex (-(x * x * (1 + ((n : Rat) * h) * ((n : Rat) * h)))) M - 2 * (x * k) * (ex (-(x * x)) M * (gE h x n M + h * ex (-(((n : Rat) * h * x) * ((n : Rat) * h * x))) M)) + ((n + 1 : Nat) : Rat) * h * (8 * ((2 * Y + 1) * (2 * Y + 1)) * V * (k * k)) + _
    rw [ec]
    grind
theorem gE_mul (h x : Rat) (n M : Nat) : S (fun i => x * h * ex (-(((i : Rat) * h * x) * ((i : Rat) * h * x))) M) n = x * gE h x n M := by
  unfold gE
  rw [← S_mul]
  exact S_congr n fun i _ => by grind
/-- The square of the error function is at most the sum that is nearly the angle whose tangent is 1. -/
theorem eF_sum {x h : Rat} (hx : 0 ≤ x) (hh : 0 < h) (n : Nat) (hn : (n : Rat) * h = 1) : LeN (fun M => eF x M * eF x M) (fun _ => S (fun i => h * rI ((i : Rat) * h)) n) := by
  obtain ⟨K, V, B⟩ := bnd_ex hx
  obtain ⟨C, D, c0, d0, d1, up⟩ := eF_up B
  have h0 := Rat.le_of_lt hh
  have k0 := B.k0
  have v1 := B.v1
  have A1 : 0 < 8 * (2 * x + 1) := by grind
  have dm : 1 / (8 * (2 * x + 1)) * (8 * (2 * x + 1)) = 1 := rdm A1
  have dp : 0 < 1 / (8 * (2 * x + 1)) := rdiv_pos (by grind) A1
  obtain ⟨D2, hD2, D2a, D2b⟩ : ∃ D2 : Rat, 0 < D2 ∧ D2 ≤ D ∧ D2 ≤ 1 / (8 * (2 * x + 1)) := by
    by_cases hc : D ≤ 1 / (8 * (2 * x + 1))
    · exact ⟨D, d0, by grind, hc⟩
    · exact ⟨_, dp, by grind, by grind⟩
  -- the error function is at most F
  obtain ⟨F, hF⟩ : ∃ F, F = K * V := ⟨_, rfl⟩
  have F0 : 0 ≤ F := by rw [hF]; exact Rat.mul_nonneg k0 (by grind)
  obtain ⟨C4, hC4⟩ : ∃ C4, C4 = V * V + 2 * (C * (F + V)) + C * C := ⟨_, rfl⟩
  have C40 : 0 ≤ C4 := by
    have a := Rat.mul_nonneg (show 0 ≤ V by grind) (show 0 ≤ V by grind)
    have b := Rat.mul_nonneg c0 (show 0 ≤ F + V by grind)
    have c := Rat.mul_nonneg c0 c0
    grind
  obtain ⟨C5, hC5⟩ : ∃ C5, C5 = 8 * ((2 * x + 1) * (2 * x + 1)) * V := ⟨_, rfl⟩
  have C50 : 0 ≤ C5 := by rw [hC5]; exact Rat.mul_nonneg (by have := Rat.mul_nonneg (show 0 ≤ 2 * x + 1 by grind) (show 0 ≤ 2 * x + 1 by grind); grind) (by grind)
  have d := descend (f := fun y M => eF y M * eF y M + gG h y n M) (a := 0) (b := x) (C := C4 + C5) (D := D2) hx (by grind) hD2 (fun y k hy hk hkD hyx => by
    obtain ⟨z1, hz1, N1, p1⟩ := up y k hy hk (by grind) hyx
    have k1 : k ≤ 1 := by grind
    have kq := Rat.le_of_lt hk
    obtain ⟨z2, hz2, N2, p2⟩ := gG_step B hy hk k1 hyx h0 (by have := Rat.mul_le_mul_of_nonneg_right (Rat.le_trans hkD D2b) (Rat.le_of_lt A1); grind) n (by grind)
    have left := eF_left (x := y) B hy h0 n (by rw [hn]; grind)
    rw [hn, show 1 * y = y by grind] at left
    obtain ⟨z3, hz3, p3⟩ := left.null
    obtain ⟨N3, ev⟩ := ex_pos (-(y * y))
    obtain ⟨N4, ev2⟩ := ex_pos (-((y + k) * (y + k)))
    have bF : Bdd (eF y) := by
      have : Bdd (eS y) := Bdd.of_le K 0 fun M _ => ⟨by have := eS_nonneg hy M; grind, B.s _ hy (by grind) M⟩
      exact this.mul (ex_bdd _)
    have bV := ex_bdd (-(y * y))
    -- (p + z)^2
    have bp : Bdd (fun M => eF y M + k * ex (-(y * y)) M + C * (k * k)) := (bF.add ((Bdd.const k).mul bV)).add (Bdd.const _)
    have q1 := hz1.bmul (bp.add bp)
    have q2 := hz1.bmul hz1.bdd
    have q3 := (hz3.bmul bV).bmul (Bdd.const (2 * k))
    refine ⟨_, ((q1.add q2).add q3).add hz2, N1 + N2 + N3 + N4, fun M hM => ?_⟩
    have a1 := p1 M (by omega)
    have a2 := p2 M (by omega)
    have a3 := p3 M
    rw [gE_mul] at a3
    have v0 := ev M (by omega)
    have e0 : 0 ≤ eF (y + k) M := Rat.mul_nonneg (eS_nonneg (by grind) M) (ev2 M (by omega))
    have f0 : 0 ≤ eF y M := Rat.mul_nonneg (eS_nonneg hy M) v0
    have vV : ex (-(y * y)) M ≤ V := B.v _ (sq_nonneg y) (by
      have xx : y * y ≤ x * x := Rat.le_trans (Rat.mul_le_mul_of_nonneg_left (show y ≤ x by grind) hy) (Rat.mul_le_mul_of_nonneg_right (show y ≤ x by grind) hx)
      have := Rat.mul_nonneg hx hx
      grind) M
    have fF : eF y M ≤ F := by
      rw [hF]
      exact Rat.le_trans (Rat.mul_le_mul_of_nonneg_right (B.s y hy (by grind) M) v0) (Rat.mul_le_mul_of_nonneg_left vV k0)
    rw [hn, ← hC5] at a2
    generalize eF (y + k) M = f' at *
    generalize eF y M = f at *
    generalize ex (-(y * y)) M = v at *
    generalize gG h (y + k) n M = g' at *
    generalize gG h y n M = g at *
    generalize gE h y n M = u at *
    generalize z1 M = z1 at *
    generalize z2 M = z2 at *
    generalize z3 M = z3 at *
    clear hz1 hz2 hz3 q1 q2 q3 bp bF bV left p1 p2 p3 up ev ev2
    obtain ⟨p, hp⟩ : ∃ p, p = f + k * v + C * (k * k) := ⟨_, rfl⟩
    have kk := Rat.mul_nonneg kq kq
    have kv := Rat.mul_nonneg kq v0
    have ckk := Rat.mul_nonneg c0 kk
    have p0 : 0 ≤ p := by grind
    have b1 : f' ≤ p + z1 := by grind
    have b2 : f' * f' ≤ (p + z1) * (p + z1) := Rat.le_trans (Rat.mul_le_mul_of_nonneg_left b1 e0) (Rat.mul_le_mul_of_nonneg_right b1 (show 0 ≤ p + z1 by grind))
    -- p p is at most f f + 2 k v f + C4 k k
    have b3 : p * p ≤ f * f + 2 * (k * v * f) + C4 * (k * k) := by
      have kk1 : k * k ≤ 1 := by have := Rat.mul_le_mul_of_nonneg_left k1 kq; grind
      have c1 : v * v ≤ V * V := Rat.le_trans (Rat.mul_le_mul_of_nonneg_left vV v0) (Rat.mul_le_mul_of_nonneg_right vV (show 0 ≤ V by grind))
      have c2 := Rat.mul_le_mul_of_nonneg_right c1 kk
      have kvV : k * v ≤ V := by have := Rat.mul_le_mul_of_nonneg_right k1 v0; grind
      have c3 := Rat.mul_le_mul_of_nonneg_left (show f + k * v ≤ F + V by grind) ckk
      have c4 := Rat.mul_le_mul_of_nonneg_left kk1 (Rat.mul_nonneg (Rat.mul_nonneg c0 c0) kk)
      rw [hp, hC4]
      grind
    have b4 := Rat.mul_le_mul_of_nonneg_left a3 kv
    rw [← hp]
    have r1 : (p + z1) * (p + z1) = p * p + 2 * (z1 * p) + z1 * z1 := by grind
    have r2 : k * v * (y * u + z3) = k * v * (y * u) + k * v * z3 := by grind
    have r3 : 2 * (y * k) * (v * u) = 2 * (k * v * (y * u)) := by grind
    have r4 : z1 * (p + p) + z1 * z1 + z3 * v * (2 * k) + z2 = 2 * (z1 * p) + z1 * z1 + 2 * (k * v * z3) + z2 := by grind
    have r5 : (C4 + C5) * (k * k) = C4 * (k * k) + C5 * (k * k) := by grind
    rw [r1] at b2
    rw [r2] at b4
    rw [r3, Rat.one_mul] at a2
    rw [r4, r5]
    generalize k * v * (y * u) = w1 at *
    generalize k * v * z3 = w2 at *
    generalize z1 * p = w3 at *
    generalize z1 * z1 = w4 at *
    generalize C4 * (k * k) = w5 at *
    generalize C5 * (k * k) = w6 at *
    generalize k * v * f = w7 at *
    generalize p * p = w8 at *
    generalize f' * f' = w9 at *
    generalize f * f = w10 at *
    clear vV fF hC4 hF hC5 dm r1 r2 r3 r4 r5 D2b A1 dp hn
    grind)
  obtain ⟨N2, pos⟩ := gG_pos h0 x n
  intro e he
  obtain ⟨N, k⟩ := d e he
  refine ⟨N + N2 + 1, fun M hM => ?_⟩
  have a1 : eF x M * eF x M + gG h x n M ≤ eF 0 M * eF 0 M + gG h 0 n M + e := k M (by omega)
  have a2 := pos M (by omega)
  show eF x M * eF x M ≤ S (fun i => h * rI ((i : Rat) * h)) n + e
  have a3 : gG h 0 n M = S (fun i => h * rI ((i : Rat) * h)) n := S_congr n fun i _ => by
    have e1 : -(0 * 0 * (1 + ((i : Rat) * h) * ((i : Rat) * h))) = (0 : Rat) := by grind
    have e2 : ex 0 M = 1 := by
      obtain ⟨m, rfl⟩ : ∃ m, M = m + 1 := ⟨M - 1, by omega⟩
      exact E_zero m
    rw [e1, e2]; grind
  rw [a3, eF_zero] at a1
  grind
/-- Four times the square of the error function is at most what the angles make. -/
theorem eF_pi {x : Rat} (hx : 0 ≤ x) : LeN (fun M => 4 * (eF x M * eF x M)) piS := by
  refine LeN.lim (C := 64) (by grind) fun n => ?_
  have n0 : (0 : Rat) < 2 * ((n : Rat) + 1) := by have := pos1 n; grind
  obtain ⟨h, h0, hh⟩ := inv_ex (2 * ((n : Rat) + 1)) n0
  have e : ((2 * (n + 1) : Nat) : Rat) = 2 * ((n : Rat) + 1) := by push_cast; rfl
  have a := (eF_sum hx h0 (2 * (n + 1)) (by rw [e]; grind)).scale (show (0 : Rat) ≤ 4 by grind)
  exact a.trans (sum_angle n hh)
end Go.Proofs.YtgmnknmjainababGreat.Ex

namespace Go.Proofs.YtgmnknmjainababGreat
set_option linter.unusedVariables false
open Ex

theorem root_near (p : Rat) (hp : 1 ≤ p) (k : Nat) : ∃ r : Rat, 1 ≤ r ∧ r * r ≤ p ∧ p ≤ (r + 1 / ((k : Rat) + 1)) * (r + 1 / ((k : Rat) + 1)) := by
  obtain ⟨n, hn⟩ := rat_nat p
  have k0 : (0 : Rat) < (k : Rat) + 1 := pos1 k
  have u0 : (0 : Rat) < 1 / ((k : Rat) + 1) := rdiv_pos (by grind) k0
  have um : 1 / ((k : Rat) + 1) * ((k : Rat) + 1) = 1 := rdm k0
  obtain ⟨u, hu⟩ : ∃ u, u = 1 / ((k : Rat) + 1) := ⟨_, rfl⟩
  rw [← hu] at u0 um ⊢
  have top : p ≤ (1 + ((n * (k + 1) : Nat) : Rat) * u) * (1 + ((n * (k + 1) : Nat) : Rat) * u) := by
    have e : ((n * (k + 1) : Nat) : Rat) * u = (n : Rat) := by
      have : ((n * (k + 1) : Nat) : Rat) = (n : Rat) * ((k : Rat) + 1) := by push_cast; rfl
      rw [this]; grind
    rw [e]
    have n0 : (0 : Rat) ≤ (n : Rat) := by exact_mod_cast Nat.zero_le n
    have := Rat.mul_nonneg n0 n0
    have := hn.2
    grind
  obtain ⟨j, _, j1, j2⟩ := exists_least (p := fun j => p ≤ (1 + (j : Rat) * u) * (1 + (j : Rat) * u)) (K := n * (k + 1)) top
  cases j with
  | zero =>
    have e : (1 + ((0 : Nat) : Rat) * u) = 1 := by grind
    rw [e] at j1
    exact ⟨1, by grind, by grind, by have := Rat.mul_nonneg (Rat.le_of_lt u0) (Rat.le_of_lt u0); grind⟩
  | succ i =>
    have h := j2 i (Nat.lt_succ_self i)
    have i0 : (0 : Rat) ≤ (i : Rat) := by exact_mod_cast Nat.zero_le i
    have iu := Rat.mul_nonneg i0 (Rat.le_of_lt u0)
    refine ⟨1 + (i : Rat) * u, by grind, by grind, ?_⟩
    have e : ((i + 1 : Nat) : Rat) = (i : Rat) + 1 := by push_cast; rfl
    rw [e] at j1
    have e2 : 1 + ((i : Rat) + 1) * u = 1 + (i : Rat) * u + u := by grind
    rw [e2] at j1
    exact j1
theorem null_over (K : Rat) (hK : 0 ≤ K) : Null (fun M => K * (1 / ((M : Rat) + 1))) := fun e he => by
  obtain ⟨n, hn⟩ := rat_nat (K / e)
  refine ⟨n, fun M hM => ?_⟩
  have m0 : (0 : Rat) < (M : Rat) + 1 := pos1 M
  have u0 : (0 : Rat) < 1 / ((M : Rat) + 1) := rdiv_pos (by grind) m0
  have um : 1 / ((M : Rat) + 1) * ((M : Rat) + 1) = 1 := rdm m0
  have hm : (n : Rat) ≤ (M : Rat) := by exact_mod_cast hM
  have ke : K / e * e = K := rdm he
  have h1 := hn.2
  have h2 := Rat.mul_le_mul_of_nonneg_right h1 (Rat.le_of_lt he)
  rw [ke] at h2
  have h3 := Rat.mul_nonneg hK (Rat.le_of_lt u0)
  refine ⟨by simp only []; grind, ?_⟩
  have h4 := Rat.mul_le_mul_of_nonneg_right (show K ≤ ((M : Rat) + 1) * e by
    have := Rat.mul_le_mul_of_nonneg_right hm (Rat.le_of_lt he)
    grind) (Rat.le_of_lt u0)
  have e5 : ((M : Rat) + 1) * e * (1 / ((M : Rat) + 1)) = (1 / ((M : Rat) + 1) * ((M : Rat) + 1)) * e := by grind
  rw [e5, um] at h4
  grind
/-- A root of what is at least 1. -/
structure RootS (P R : Nat → Rat) : Prop where
  one : ∀ M, 1 ≤ R M
  sq : Null (fun M => R M * R M - P M)
  bdd : Bdd R
theorem root_seq {P : Nat → Rat} {M0 : Nat} (hP : ∀ M, M0 ≤ M → 1 ≤ P M) (hb : Bdd P) : ∃ R, RootS P R := by
  have h : ∀ M, ∃ r : Rat, 1 ≤ r ∧ (M0 ≤ M → r * r ≤ P M ∧ P M ≤ (r + 1 / ((M : Rat) + 1)) * (r + 1 / ((M : Rat) + 1))) := fun M => by
    by_cases hM : M0 ≤ M
    · obtain ⟨r, r1, r2, r3⟩ := root_near (P M) (hP M hM) M
      exact ⟨r, r1, fun _ => ⟨r2, r3⟩⟩
    · exact ⟨1, by grind, fun h => absurd h hM⟩
  have hR := fun M => Classical.choose_spec (h M)
  obtain ⟨R, eR⟩ : ∃ R : Nat → Rat, R = fun M => Classical.choose (h M) := ⟨_, rfl⟩
  have hR' : ∀ M, 1 ≤ R M ∧ (M0 ≤ M → R M * R M ≤ P M ∧ P M ≤ (R M + 1 / ((M : Rat) + 1)) * (R M + 1 / ((M : Rat) + 1))) := fun M => by rw [eR]; exact hR M
  clear hR eR h
  obtain ⟨K, N, K0, hK⟩ := hb
  have hRK : ∀ M, M0 + N ≤ M → R M ≤ K := fun M hM => by
    have h1 := (hR' M).1
    have h2 := ((hR' M).2 (by omega)).1
    have h3 := (hK M (by omega)).2
    have h4 := Rat.mul_le_mul_of_nonneg_left h1 (show 0 ≤ R M by grind)
    grind
  refine ⟨R, fun M => (hR' M).1, ?_, Bdd.of_le K (M0 + N) fun M hM => ⟨by have := (hR' M).1; grind, hRK M hM⟩⟩
  refine Null.of_le (null_over (2 * K + 1) (by grind)) (M0 + N) fun M hM => ?_
  obtain ⟨h1, h2⟩ := hR' M
  obtain ⟨h2, h3⟩ := h2 (by omega)
  have h4 := hRK M hM
  have m0 : (0 : Rat) < (M : Rat) + 1 := pos1 M
  have u0 : (0 : Rat) < 1 / ((M : Rat) + 1) := rdiv_pos (by grind) m0
  have u1 : 1 / ((M : Rat) + 1) ≤ 1 := rdiv_le m0 (by have : (0 : Rat) ≤ (M : Rat) := by exact_mod_cast Nat.zero_le M
                                                      grind)
  generalize 1 / ((M : Rat) + 1) = u at *
  have uu := Rat.mul_le_mul_of_nonneg_left u1 (Rat.le_of_lt u0)
  have ru := Rat.mul_le_mul_of_nonneg_right h4 (Rat.le_of_lt u0)
  have e : (R M + u) * (R M + u) = R M * R M + 2 * (R M * u) + u * u := by grind
  rw [e] at h3
  constructor <;> grind
theorem root_iv {B : Nat} {a : Int × Int} {P R : Nat → Rat} (h : Iv B a P) (hR : RootS P R) {r t : Int} (hr : r * r ≤ a.1 * Q B) (ht0 : 0 ≤ t) (ht : a.2 * Q B ≤ t * t) : Iv B (r, t) R := by
  have q := Qr_pos B
  have key : ∀ x : Int, ((x : Rat) / (Q B : Rat)) * ((x : Rat) / (Q B : Rat)) * ((Q B : Rat) * (Q B : Rat)) = (x : Rat) * (x : Rat) := fun x => by
    have := rdm (a := (x : Rat)) q
    have e : ((x : Rat) / (Q B : Rat)) * ((x : Rat) / (Q B : Rat)) * ((Q B : Rat) * (Q B : Rat)) = ((x : Rat) / (Q B : Rat) * (Q B : Rat)) * ((x : Rat) / (Q B : Rat) * (Q B : Rat)) := by grind
    rw [e, this]
  have qq : (0 : Rat) < (Q B : Rat) * (Q B : Rat) := Rat.mul_pos q q
  have g1 : ((r : Rat) / (Q B : Rat)) * ((r : Rat) / (Q B : Rat)) ≤ (a.1 : Rat) / (Q B : Rat) := by
    refine Rat.le_of_mul_le_mul_right (c := (Q B : Rat) * (Q B : Rat)) ?_ qq
    rw [key]
    have e := rdm (a := (a.1 : Rat)) q
    have e2 : (a.1 : Rat) / (Q B : Rat) * ((Q B : Rat) * (Q B : Rat)) = (a.1 : Rat) * (Q B : Rat) := by
      rw [← Rat.mul_assoc, e]
    rw [e2]
    have := cast_le hr
    rw [Rat.intCast_mul, Rat.intCast_mul] at this
    exact this
  have g2 : (a.2 : Rat) / (Q B : Rat) ≤ ((t : Rat) / (Q B : Rat)) * ((t : Rat) / (Q B : Rat)) := by
    refine Rat.le_of_mul_le_mul_right (c := (Q B : Rat) * (Q B : Rat)) ?_ qq
    rw [key]
    have e := rdm (a := (a.2 : Rat)) q
    have e2 : (a.2 : Rat) / (Q B : Rat) * ((Q B : Rat) * (Q B : Rat)) = (a.2 : Rat) * (Q B : Rat) := by
      rw [← Rat.mul_assoc, e]
    rw [e2]
    have := cast_le ht
    rw [Rat.intCast_mul, Rat.intCast_mul] at this
    exact this
  have t0 : (0 : Rat) ≤ (t : Rat) / (Q B : Rat) := rle_div q (by
    have : (0 : Rat) ≤ (t : Rat) := by exact_mod_cast ht0
    grind)
  intro e0 he0
  -- a little that is at most one quarter
  obtain ⟨e, he, hee, he4⟩ : ∃ e : Rat, 0 < e ∧ 2 * e ≤ e0 ∧ e ≤ 1 / 4 := by
    by_cases hc : e0 ≤ 1 / 2
    · exact ⟨e0 / 2, by grind, by grind, by grind⟩
    · exact ⟨1 / 4, by grind, by grind, by grind⟩
  obtain ⟨N1, k1⟩ := h e he
  obtain ⟨N2, k2⟩ := hR.sq e he
  refine ⟨N1 + N2, fun M hM => ?_⟩
  obtain ⟨a1, a2⟩ := k1 M (by omega)
  obtain ⟨b1, b2⟩ := k2 M (by omega)
  have R1 := hR.one M
  simp only [] at b1 b2 ⊢
  generalize (r : Rat) / (Q B : Rat) = x at *
  generalize (t : Rat) / (Q B : Rat) = y at *
  generalize R M = z at *
  clear k1 k2 key h
  constructor
  · refine Rat.not_lt.1 fun hlt => ?_
    have hx : z + e ≤ x := by grind
    have m1 := Rat.mul_le_mul_of_nonneg_left hx (show 0 ≤ z + e by grind)
    have m2 := Rat.mul_le_mul_of_nonneg_right hx (show 0 ≤ x by grind)
    have m3 := Rat.mul_le_mul_of_nonneg_left R1 (Rat.le_of_lt he)
    have m4 := Rat.mul_pos he he
    grind
  · refine Rat.not_lt.1 fun hlt => ?_
    have hy : y ≤ z - 2 * e := by grind
    have m1 := Rat.mul_le_mul_of_nonneg_left hy t0
    have m2 := Rat.mul_le_mul_of_nonneg_right hy (show 0 ≤ z - 2 * e by grind)
    have m3 := Rat.mul_le_mul_of_nonneg_left R1 (Rat.le_of_lt he)
    have m4 := Rat.mul_le_mul_of_nonneg_left he4 (Rat.le_of_lt he)
    grind
end Go.Proofs.YtgmnknmjainababGreat

namespace Go.Proofs.YtgmnknmjainababGreat.Ex
set_option linter.unusedVariables false

/-- The error function of x, with R the root of what the angles make. -/
def erfS (R : Nat → Rat) (x : Rat) (M : Nat) : Rat := 2 * eS x M / (R M * ex (x * x) M)
theorem piS_bdd : Bdd piS := by
  obtain ⟨K, k0, h⟩ := tm_bd 0
  have h1 := (ag_has (m := 5) (by omega) 0 0).bdd
  have h2 := (ag_has (m := 239) (by omega) 0 0).bdd
  exact ((Bdd.const 16).mul h1).sub ((Bdd.const 4).mul h2)
theorem piR_ex : ∃ R, RootS piS R := root_seq (M0 := 2) (fun M hM => by have := pi_ge hM; grind) piS_bdd
theorem ex_one (x : Rat) {M : Nat} (hM : 1 ≤ M) : 1 ≤ ex (x * x) M := E_one (sq_nonneg x) hM
theorem div_one {a b : Rat} (ha : 0 ≤ a) (hb : 1 ≤ b) : 0 ≤ a / b ∧ a / b ≤ a := by
  have b0 : 0 < b := by grind
  refine ⟨rle_div b0 (by grind), rdiv_le b0 ?_⟩
  have := Rat.mul_le_mul_of_nonneg_left hb ha
  grind
theorem erf_near (x : Rat) (hx : 0 ≤ x) : Null (fun M => eS x M / ex (x * x) M - eF x M) := by
  obtain ⟨K, k0, hK⟩ := eS_bdd hx
  have hn := ((ex_add (x * x) (-(x * x))))
  have e0 : x * x + -(x * x) = 0 := by grind
  rw [e0] at hn
  have hb : Bdd (fun M => eS x M / ex (x * x) M) := Bdd.of_le K 1 fun M hM => by
    have := div_one (eS_nonneg hx M) (ex_one x hM)
    have := hK M
    constructor <;> grind
  refine (hn.bmul hb).neg.of_eq_from 1 fun M hM => ?_
  have h1 := ex_one x hM
  have p : 0 < ex (x * x) M := by grind
  have e1 : eS x M / ex (x * x) M * ex (x * x) M = eS x M := rdm p
  have e2 : ex 0 M = 1 := by
    obtain ⟨m, rfl⟩ : ∃ m, M = m + 1 := ⟨M - 1, by omega⟩
    exact E_zero m
  rw [eF_ex, e2]
  generalize eS x M / ex (x * x) M = q at *
  rw [← e1]
  grind
theorem inv_bdd {R : Nat → Rat} (h : ∀ M, 1 ≤ R M) : Bdd (fun M => 1 / R M) := Bdd.of_le 1 0 fun M _ => by
  have := div_one (a := 1) (by grind) (h M)
  constructor <;> grind
theorem erf_eq {P R : Nat → Rat} (h : RootS P R) (x : Rat) {M : Nat} (hM : 1 ≤ M) : erfS R x M = eS x M / ex (x * x) M * (2 * (1 / R M)) := by
  have r1 := h.one M
  have h1 := ex_one x hM
  have p1 : 0 < R M := by grind
  have p2 : 0 < ex (x * x) M := by grind
  have p3 : 0 < R M * ex (x * x) M := Rat.mul_pos p1 p2
  have a := rdm (a := 2 * eS x M) p3
  have b := rdm (a := eS x M) p2
  have c := rdm (a := 1) p1
  unfold erfS
  have lhs : eS x M / ex (x * x) M * (2 * (1 / R M)) * (R M * ex (x * x) M) = 2 * eS x M := by
    have : eS x M / ex (x * x) M * (2 * (1 / R M)) * (R M * ex (x * x) M) = 2 * ((eS x M / ex (x * x) M * ex (x * x) M) * (1 / R M * R M)) := by grind
    rw [this, b, c]; grind
  exact Rat.le_antisymm (Rat.le_of_mul_le_mul_right (by rw [lhs, a]; exact Rat.le_refl) p3) (Rat.le_of_mul_le_mul_right (by rw [lhs, a]; exact Rat.le_refl) p3)
theorem erf_near2 {P R : Nat → Rat} (h : RootS P R) (x : Rat) (hx : 0 ≤ x) : Null (fun M => erfS R x M - eF x M * (2 * (1 / R M))) := by
  have hb := (Bdd.const 2).mul (inv_bdd h.one)
  refine ((erf_near x hx).bmul hb).of_eq_from 1 fun M hM => ?_
  rw [erf_eq h x hM]
  grind
theorem erf_mono {P R : Nat → Rat} (h : RootS P R) {x y : Rat} (hx : 0 ≤ x) (hxy : x ≤ y) : LeN (erfS R x) (erfS R y) := by
  obtain ⟨z, hz, N, k⟩ := eF_mono hx hxy
  have hb := (Bdd.const 2).mul (inv_bdd h.one)
  have n1 := erf_near2 h x hx
  have n2 := erf_near2 h y (by grind)
  refine n1.leN.trans (LeN.trans ?_ n2.symm.leN)
  refine LeN.of_null (hz.bmul hb) N fun M hM => ?_
  have := k M hM
  have i0 := (div_one (a := 1) (by grind) (h.one M)).1
  have := Rat.mul_le_mul_of_nonneg_right this (show 0 ≤ 2 * (1 / R M) by grind)
  grind
theorem eF_root {R : Nat → Rat} (h : RootS piS R) {x : Rat} (hx : 0 ≤ x) : LeN (fun M => 2 * eF x M) R := by
  intro e he
  obtain ⟨N1, k1⟩ := eF_pi hx e he
  obtain ⟨N2, k2⟩ := h.sq e he
  refine ⟨N1 + N2, fun M hM => ?_⟩
  have a1 := k1 M (by omega)
  have a2 := (k2 M (by omega)).1
  have r1 := h.one M
  simp only [] at *
  refine Rat.not_lt.1 fun hlt => ?_
  generalize eF x M = f at *
  generalize R M = r at *
  generalize piS M = p at *
  have m1 := Rat.mul_lt_mul_of_pos_left hlt (show 0 < r + e by grind)
  have m2 := Rat.mul_lt_mul_of_pos_right hlt (show 0 < 2 * f by grind)
  have m3 := Rat.mul_le_mul_of_nonneg_left r1 (Rat.le_of_lt he)
  have m4 := Rat.mul_pos he he
  grind
theorem erf_one {R : Nat → Rat} (h : RootS piS R) {x : Rat} (hx : 0 ≤ x) : LeN (erfS R x) (fun _ => 1) := by
  refine (erf_near2 h x hx).leN.trans ?_
  obtain ⟨z, hz, k⟩ := (eF_root h hx).null
  refine LeN.of_null (hz.bmul (inv_bdd h.one)) 0 fun M _ => ?_
  have r1 := h.one M
  have p1 : 0 < R M := by grind
  have c := rdm (a := 1) p1
  have i0 := (div_one (a := 1) (by grind) r1).1
  have := Rat.mul_le_mul_of_nonneg_right (k M) i0
  grind
theorem erf_nonneg {P R : Nat → Rat} (h : RootS P R) {x : Rat} (hx : 0 ≤ x) {M : Nat} (hM : 1 ≤ M) : 0 ≤ erfS R x M := by
  rw [erf_eq h x hM]
  have a := (div_one (eS_nonneg hx M) (ex_one x hM)).1
  have b := (div_one (a := 1) (by grind) (h.one M)).1
  exact Rat.mul_nonneg a (by grind)
end Go.Proofs.YtgmnknmjainababGreat.Ex
