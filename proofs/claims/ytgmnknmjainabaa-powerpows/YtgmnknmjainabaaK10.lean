/-
  Roots of a power of e; the logarithm of what is near 1, by its alternating sum. Plain arithmetic: no statement of the seat is proved here.
  The logarithm by eight roots; that of a quotient by one near 1 and that of 2, as the reference has it. Plain arithmetic: no statement of the seat is proved here.
  What wide.Scale, wide.Over, wide.Times and wide.One answer, and that they leave old memory alone.
  What wide.Times answers, and that it leaves old memory alone.
  Spans by their ends, as the calls of package wide answer them; the function literal of wide.Exp.
  What wide.sum answers of what the function literal of wide.Exp makes.
-/
import Derived.Test.YtgmnknmjainabaaK09
namespace Go.Proofs.Ytgmnknmjainabaa
set_option linter.unusedVariables false
open Ex

namespace Ex
theorem sqrt_has {a b r t : Rat} {x y : Nat → Rat} (h : Has a b x) (hxy : Null (fun M => y M * y M - x M)) (N0 : Nat) (hy : ∀ M, N0 ≤ M → 0 ≤ y M) (h1 : r * r ≤ a) (h2 : b ≤ t * t) (ht : 0 ≤ t) : Has r t y := fun e he => by
  have he2 := Rat.mul_pos he he
  obtain ⟨N1, k1⟩ := h (e * e / 4) (by grind)
  obtain ⟨N2, k2⟩ := hxy (e * e / 4) (by grind)
  refine ⟨N0 + N1 + N2, fun M hM => ?_⟩
  obtain ⟨g1, g2⟩ := k1 M (by omega)
  obtain ⟨g3, g4⟩ := k2 M (by omega)
  have g5 := hy M (by omega)
  simp only [] at g3 g4
  generalize x M = X at *
  generalize y M = Y at *
  constructor
  · refine Rat.not_lt.1 fun hn => ?_
    have p1 := Rat.mul_nonneg (show 0 ≤ r - Y - e by grind) (show 0 ≤ r + Y by grind)
    have p2 := Rat.mul_nonneg (show 0 ≤ r - e by grind) (Rat.le_of_lt he)
    have p3 := Rat.mul_nonneg g5 (Rat.le_of_lt he)
    grind
  · refine Rat.not_lt.1 fun hn => ?_
    have p1 := Rat.mul_nonneg (show 0 ≤ Y - t - e by grind) (show 0 ≤ Y + t by grind)
    have p2 := Rat.mul_nonneg (show 0 ≤ Y - e by grind) (Rat.le_of_lt he)
    have p3 := Rat.mul_nonneg ht (Rat.le_of_lt he)
    grind
theorem Bdd.half {l : Nat → Rat} (h : Bdd l) : Bdd (fun M => l M / 2) := by
  obtain ⟨K, N, k0, hk⟩ := h
  exact ⟨K, N, k0, fun M hM => by obtain ⟨h1, h2⟩ := hk M hM; constructor <;> grind⟩
theorem isLog_Ev {l : Nat → Rat} (h : Bdd l) : IsLog l (Ev l) := ⟨h, null_zero.of_eq fun M => by grind⟩
/-- What is left out of the sum, against a power. -/
theorem Lg_left {y b : Rat} (hy : AB y (1 / 2)) {a : Nat} (hb : AB (pw y a) b) (i : Nat) : AB (Lg y (a + i) - Lg y a) (b * (1 - q2 i)) ∧ AB (pw y (a + i)) (b * q2 i) := by
  have b0 := hb.nonneg
  induction i with
  | zero =>
    have e : q2 0 = 1 := rfl
    rw [e]; simp only [Nat.add_zero]
    refine ⟨?_, hb.mono (by grind)⟩
    constructor <;> grind
  | succ i ih =>
    obtain ⟨h1, h2⟩ := ih
    have e : Lg y (a + (i + 1)) = Lg y (a + i) + pw y (a + i + 1) / (((a + i : Nat) : Rat) + 1) := rfl
    have e2 : q2 (i + 1) = q2 i / 2 := rfl
    have h3 : AB (pw y (a + i + 1)) (b * q2 i / 2) := by
      have h4 := hy.mul h2
      have e3 : pw y (a + i + 1) = y * pw y (a + i) := by simp only [pw]
      rw [e3]
      exact h4.mono (by grind)
    have q := q2_pos i
    have hbq := Rat.mul_nonneg b0 (Rat.le_of_lt q)
    have h5 : AB (pw y (a + i + 1) / (((a + i : Nat) : Rat) + 1)) (b * q2 i / 2) := by
      refine rdiv_AB (pos1 _) (h3.mono ?_)
      have kk : (0 : Rat) ≤ ((a + i : Nat) : Rat) := by exact_mod_cast Nat.zero_le (a + i)
      have := Rat.mul_nonneg kk (show 0 ≤ b * q2 i / 2 by grind)
      grind
    refine ⟨?_, by rw [e2]; exact h3.mono (by grind)⟩
    have h6 := h1.add h5
    rw [e, e2]
    generalize pw y (a + i + 1) / (((a + i : Nat) : Rat) + 1) = t at *
    have h7 : Lg y (a + i) + t - Lg y a = Lg y (a + i) - Lg y a + t := by grind
    rw [h7]
    exact h6.mono (by grind)
theorem pw_opp (z : Rat) (k : Nat) : pw (-z) (2 * k + 1) = -pw z (2 * k + 1) := by
  have e1 : pw (-z) (2 * k + 1) = -z * pw (-z) (2 * k) := by simp only [pw]
  have e2 : pw z (2 * k + 1) = z * pw z (2 * k) := by simp only [pw]
  rw [e1, e2, pw_neg]; grind
end Ex
/-- A root, of what is a power of e. -/
theorem root_has {B : Nat} {a : Int × Int} {l : Nat → Rat} (hl : Bdd l) (h : Iv B a (Ev l)) {r t : Int} (hr : r * r ≤ a.1 * Q B) (ht0 : 0 ≤ t) (ht : a.2 * Q B ≤ t * t) : Iv B (r, t) (Ev (fun M => l M / 2)) := by
  have q := Qr_pos B
  have hq : 0 < Q B := by have := Q_pos B; omega
  obtain ⟨c, hc, N, hN⟩ := Ev_low hl.half
  have e1 : (fun M => l M / 2 + l M / 2) = l := funext fun M => by grind
  have ha := Ev_add hl.half hl.half
  rw [e1] at ha
  refine sqrt_has h ha N (fun M hM => by have := hN M hM; grind) ?_ ?_ ?_
  · have hc1 : ((r * r : Int) : Rat) ≤ ((a.1 * Q B : Int) : Rat) := cast_le hr
    rw [Rat.intCast_mul, Rat.intCast_mul] at hc1
    refine rle_div q ?_
    have e2 := rdm (a := (r : Rat)) q
    generalize (r : Rat) / (Q B : Rat) = R at *
    rw [← e2] at hc1
    have h3 : R * R * (Q B : Rat) * (Q B : Rat) ≤ (a.1 : Rat) * (Q B : Rat) := by grind
    exact Rat.le_of_mul_le_mul_right h3 q
  · have hc1 : ((a.2 * Q B : Int) : Rat) ≤ ((t * t : Int) : Rat) := cast_le ht
    rw [Rat.intCast_mul, Rat.intCast_mul] at hc1
    refine rdiv_le q ?_
    have e2 := rdm (a := (t : Rat)) q
    generalize (t : Rat) / (Q B : Rat) = R at *
    rw [← e2] at hc1
    have h3 : (a.2 : Rat) * (Q B : Rat) ≤ R * R * (Q B : Rat) * (Q B : Rat) := by grind
    exact Rat.le_of_mul_le_mul_right h3 q
  · refine rle_div q ?_
    have : ((0 : Int) : Rat) ≤ (t : Rat) := cast_le ht0
    have e0 : ((0 : Int) : Rat) = 0 := rfl
    rw [e0] at this
    grind

/-- The powers of z, and the sums so far, of tailsureref.nearLog. -/
def npT (B : Nat) (z : Int × Int) : Nat → Int × Int
  | 0 => z
  | n + 1 => mulI B (npT B z n) z
def nsT (B : Nat) (z : Int × Int) : Nat → Int × Int
  | 0 => z
  | n + 1 => if (n + 2) % 2 = 0 then subI (nsT B z n) (scaleI (npT B z (n + 1)) 1 ((n : Int) + 2)) else addI (nsT B z n) (scaleI (npT B z (n + 1)) 1 ((n : Int) + 2))
theorem npT_has {B : Nat} {z : Int × Int} {x : Nat → Rat} (h : Iv B z x) (n : Nat) : Iv B (npT B z n) (fun M => pw (x M) (n + 1)) := by
  induction n with
  | zero => exact h.congr (null_zero.of_eq fun M => by simp only [pw]; grind)
  | succ n ih => exact (ih.mul h).congr (null_zero.of_eq fun M => by simp only [pw]; grind)
theorem one_over (n : Nat) (X : Rat) : ((1 : Int) : Rat) / (((n : Int) + 2 : Int) : Rat) * X = X / (((n + 1 : Nat) : Rat) + 1) := by
  have e : (((n : Int) + 2 : Int) : Rat) = ((n + 1 : Nat) : Rat) + 1 := by
    rw [Rat.intCast_add, Rat.natCast_add]
    have e1 : ((2 : Int) : Rat) = 2 := rfl
    have e2 : ((n : Int) : Rat) = (n : Rat) := rfl
    have e3 : ((1 : Nat) : Rat) = 1 := rfl
    rw [e1, e2, e3]; grind
  have e0 : ((1 : Int) : Rat) = 1 := rfl
  rw [e, e0, Rat.div_def, Rat.div_def, Rat.one_mul, Rat.mul_comm]
theorem nsT_has {B : Nat} {z : Int × Int} {x : Nat → Rat} (h : Iv B z x) (n : Nat) : Iv B (nsT B z n) (fun M => -Lg (-x M) (n + 1)) := by
  induction n with
  | zero =>
    refine h.congr (null_zero.of_eq fun M => ?_)
    have e : Lg (-x M) 1 = 0 + pw (-x M) 1 / (((0 : Nat) : Rat) + 1) := rfl
    have e1 : pw (-x M) 1 = -x M * 1 := rfl
    have e2 : ((0 : Nat) : Rat) = 0 := rfl
    rw [show (0 : Nat) + 1 = 1 from rfl, e, e1, e2, Rat.div_def]
    have e3 : ((0 : Rat) + 1)⁻¹ = 1 := by decide +kernel
    rw [e3]; grind
  | succ n ih =>
    have hs := (npT_has h (n + 1)).scale (n := 1) (d := (n : Int) + 2) (by omega) (by omega)
    have e : ∀ M, Lg (-x M) (n + 1 + 1) = Lg (-x M) (n + 1) + pw (-x M) (n + 1 + 1) / (((n + 1 : Nat) : Rat) + 1) := fun M => rfl
    unfold nsT
    split
    · rename_i hp
      obtain ⟨k, hk⟩ : ∃ k, n + 1 + 1 = 2 * k := ⟨(n + 2) / 2, by omega⟩
      refine (ih.sub hs).congr (null_zero.of_eq fun M => ?_)
      rw [e, one_over, hk, pw_neg]
      generalize pw (x M) (2 * k) / (((n + 1 : Nat) : Rat) + 1) = T
      grind
    · rename_i hp
      obtain ⟨k, hk⟩ : ∃ k, n + 1 + 1 = 2 * k + 1 := ⟨(n + 1) / 2, by omega⟩
      refine (ih.add hs).congr (null_zero.of_eq fun M => ?_)
      rw [e, one_over, hk, pw_opp]
      have e5 : -pw (x M) (2 * k + 1) / (((n + 1 : Nat) : Rat) + 1) = -(pw (x M) (2 * k + 1) / (((n + 1 : Nat) : Rat) + 1)) := by rw [Rat.div_def, Rat.div_def, Rat.neg_mul]
      rw [e5]
      generalize pw (x M) (2 * k + 1) / (((n + 1 : Nat) : Rat) + 1) = T
      grind
theorem q2_Q (k : Nat) : q2 k * (Q k : Rat) = 1 := by
  induction k with
  | zero =>
    have e1 : q2 0 = 1 := rfl
    have e2 : ((Q 0 : Int) : Rat) = 1 := rfl
    rw [e1, e2]; exact Rat.one_mul 1
  | succ k ih =>
    have e : q2 (k + 1) = q2 k / 2 := rfl
    have e2 : Q (k + 1) = 2 * Q k := rfl
    rw [e, e2, Rat.intCast_mul]
    have e3 : ((2 : Int) : Rat) = 2 := rfl
    rw [e3]; grind
theorem q2_mono {a b : Nat} (h : a ≤ b) : q2 b ≤ q2 a := by
  induction b with
  | zero => have : a = 0 := by omega
            subst this; exact Rat.le_refl
  | succ b ih =>
    by_cases hb : a = b + 1
    · subst hb; exact Rat.le_refl
    · have := ih (by omega)
      have := q2_pos b
      have e : q2 (b + 1) = q2 b / 2 := rfl
      rw [e]; grind
theorem pw_AB_neg {x b : Rat} {k : Nat} (h : AB (pw x k) b) : AB (pw (-x) k) b := by
  by_cases hk : k % 2 = 0
  · obtain ⟨c, hc⟩ : ∃ c, k = 2 * c := ⟨k / 2, by omega⟩
    subst hc; rw [pw_neg]; exact h
  · obtain ⟨c, hc⟩ : ∃ c, k = 2 * c + 1 := ⟨k / 2, by omega⟩
    subst hc; rw [pw_opp]; exact h.neg
theorem near_has {B N : Nat} {z : Int × Int} {x : Nat → Rat} (h : Iv B z x) (N0 : Nat) (hx : ∀ M, N0 ≤ M → AB (x M) (1 / 2)) (hN : reachI (npT B z N) ≤ 1 ∨ B ≤ N + 1) : Iv B (addI (nsT B z N) (-2, 2)) (fun M => -Lg (-x M) M) := by
  have q := Qr_pos B
  have hp : ∃ N1, ∀ M, N1 ≤ M → AB (pw (x M) (N + 1)) (2 / (Q B : Rat)) := by
    rcases hN with hN | hN
    · obtain ⟨N1, h1⟩ := npT_has h N (1 / (Q B : Rat)) (rdiv_pos (by decide) q)
      refine ⟨N1, fun M hM => ?_⟩
      obtain ⟨g1, g2⟩ := h1 M hM
      have r1 : -1 ≤ (npT B z N).1 := by unfold reachI maxZ at hN; split at hN <;> omega
      have r2 : (npT B z N).2 ≤ 1 := by unfold reachI maxZ at hN; split at hN <;> omega
      have c1 : ((-1 : Int) : Rat) / (Q B : Rat) ≤ ((npT B z N).1 : Rat) / (Q B : Rat) := rdiv_le q (by rw [rdm q]; exact cast_le r1)
      have c2 : ((npT B z N).2 : Rat) / (Q B : Rat) ≤ ((1 : Int) : Rat) / (Q B : Rat) := rdiv_le q (by rw [rdm q]; exact cast_le r2)
      have e1 : ((-1 : Int) : Rat) / (Q B : Rat) = -(1 / (Q B : Rat)) := by
        rw [show ((-1 : Int) : Rat) = -1 from rfl, Rat.div_def, Rat.div_def, Rat.neg_mul]
      have e2 : ((1 : Int) : Rat) / (Q B : Rat) = 1 / (Q B : Rat) := rfl
      have e3 : (2 : Rat) / (Q B : Rat) = 1 / (Q B : Rat) + 1 / (Q B : Rat) := by
        rw [Rat.div_def, Rat.div_def]; grind
      rw [e1] at c1
      rw [e2] at c2
      rw [e3]
      constructor <;> grind
    · refine ⟨N0, fun M hM => (pw_AB (hx M hM) (N + 1)).mono ?_⟩
      have h1 := q2_mono hN
      refine Rat.le_trans h1 (rle_div q ?_)
      rw [q2_Q]; decide
  obtain ⟨N1, h1⟩ := hp
  intro e he
  obtain ⟨N2, h2⟩ := nsT_has h N e he
  refine ⟨N0 + N1 + N2 + (N + 1), fun M hM => ?_⟩
  obtain ⟨g1, g2⟩ := h2 M (by omega)
  have h3 := (Lg_left (hx M (by omega)).neg (pw_AB_neg (h1 M (by omega))) (M - (N + 1))).1
  rw [show N + 1 + (M - (N + 1)) = M by omega] at h3
  have q1 := q2_pos (M - (N + 1))
  have q3 : (0 : Rat) < 2 / (Q B : Rat) := rdiv_pos (by decide) q
  have h4 := h3.mono (b := 2 / (Q B : Rat)) (by
    have := Rat.mul_nonneg (Rat.le_of_lt q3) (Rat.le_of_lt q1)
    grind)
  obtain ⟨h5, h6⟩ := h4
  have e1 : (((addI (nsT B z N) (-2, 2)).1 : Int) : Rat) / (Q B : Rat) = ((nsT B z N).1 : Rat) / (Q B : Rat) - 2 / (Q B : Rat) := by
    rw [← rdiv_sub]; unfold addI; simp only []
    rw [Rat.intCast_add]; congr 1
    rw [show ((-2 : Int) : Rat) = -2 from rfl]; grind
  have e2 : (((addI (nsT B z N) (-2, 2)).2 : Int) : Rat) / (Q B : Rat) = ((nsT B z N).2 : Rat) / (Q B : Rat) + 2 / (Q B : Rat) := by
    rw [← rdiv_add]; unfold addI; simp only []
    rw [Rat.intCast_add]; congr 1
  rw [e1, e2]
  simp only [] at g1 g2
  constructor <;> grind
theorem near_log {B N : Nat} {z : Int × Int} {l : Nat → Rat} (hl : Bdd l) (h : Iv B z (fun M => Ev l M - 1)) (N0 : Nat) (hx : ∀ M, N0 ≤ M → AB (Ev l M - 1) (1 / 2)) (hN : reachI (npT B z N) ≤ 1 ∨ B ≤ N + 1) : Iv B (addI (nsT B z N) (-2, 2)) l := by
  have h1 := near_has h N0 hx hN
  have h2 := isLog_Lg (y := fun M => -(Ev l M - 1)) N0 (fun M hM => (hx M hM).neg)
  have h3 := (isLog_Ev hl).uniq (h2.congr_r (r' := Ev l) (null_zero.of_eq fun M => by grind))
  exact h1.congr (h3.of_eq fun M => rfl)

theorem npT_le {B : Nat} {z : Int × Int} (hz : z.1 ≤ z.2) (n : Nat) : (npT B z n).1 ≤ (npT B z n).2 := by
  cases n with
  | zero => exact hz
  | succ n => exact mulI_le B
theorem npT_abs {B : Nat} {z : Int × Int} (h : Abs z (Q B)) (n : Nat) : Abs (npT B z n) (Q B) := by
  induction n with
  | zero => exact h
  | succ n ih => exact mulI_abs ih h (Int.le_refl _)
theorem nsT_le {B : Nat} {z : Int × Int} (hz : z.1 ≤ z.2) (n : Nat) : (nsT B z n).1 ≤ (nsT B z n).2 := by
  induction n with
  | zero => exact hz
  | succ n ih =>
    have h := scaleI_le (n := 1) (d := (n : Int) + 2) (npT_le (B := B) hz (n + 1)) (by omega) (by omega)
    unfold nsT
    split
    · unfold subI; simp only []; omega
    · unfold addI; simp only []; omega
theorem nsT_abs {B : Nat} {z : Int × Int} (h : Abs z (Q B)) (n : Nat) : Abs (nsT B z n) (((n : Int) + 1) * Q B) := by
  induction n with
  | zero => exact h.mono (by omega)
  | succ n ih =>
    obtain ⟨g1, g2, g3, g4⟩ := scaleI_abs (n := 1) (d := (n : Int) + 2) (npT_abs h (n + 1)) (by omega) (by omega) (by omega)
    obtain ⟨k1, k2, k3, k4⟩ := ih
    have e : ((n + 1 : Nat) : Int) + 1 = (n : Int) + 1 + 1 := by omega
    rw [e, Int.add_mul, Int.one_mul]
    unfold nsT
    split
    · exact ⟨by unfold subI; simp only []; omega, by unfold subI; simp only []; omega, by unfold subI; simp only []; omega, by unfold subI; simp only []; omega⟩
    · exact ⟨by unfold addI; simp only []; omega, by unfold addI; simp only []; omega, by unfold addI; simp only []; omega, by unfold addI; simp only []; omega⟩
/-- Where the roots of tailsureref.rootLog are behind i rounds. -/
structure RInv (B : Nat) (l : Nat → Rat) (i : Nat) (a : Int × Int) : Prop where
  has : Iv B a (Ev (fun M => l M / (Q i : Rat)))
  lo : Q B ≤ a.1
  le : a.1 ≤ a.2
  hi : (a.2 - Q B - 2) * Q i ≤ Q B
theorem Bdd.over {l : Nat → Rat} (h : Bdd l) (i : Nat) : Bdd (fun M => l M / (Q i : Rat)) := by
  obtain ⟨K, N, k0, hk⟩ := h
  have q := Qr_pos i
  refine ⟨K, N, k0, fun M hM => rdiv_AB q ((hk M hM).mono ?_)⟩
  have h1 : ((1 : Int) : Rat) ≤ (Q i : Rat) := cast_le (by have := Q_pos i; omega)
  have e1 : ((1 : Int) : Rat) = 1 := rfl
  rw [e1] at h1
  have := Rat.mul_nonneg (show 0 ≤ (Q i : Rat) - 1 by grind) k0
  grind
theorem rinv_start {B : Nat} {l : Nat → Rat} {a : Int × Int} (h : Iv B a (Ev l)) (h1 : Q B ≤ a.1) (h2 : a.1 ≤ a.2) (h3 : a.2 ≤ 2 * Q B) : RInv B l 0 a := by
  refine ⟨?_, h1, h2, ?_⟩
  · have e : (fun M => l M / (Q 0 : Rat)) = l := funext fun M => by
      have e0 : ((Q 0 : Int) : Rat) = 1 := rfl
      have := rdm (a := l M) (show (0 : Rat) < 1 by decide)
      rw [e0]; grind
    rw [e]; exact h
  · have e0 : Q 0 = 1 := rfl
    rw [e0]; omega
theorem root_half {q X t : Int} (hq : 0 < q) (hX : 0 ≤ X) (h0 : 0 ≤ t) (h : t * t ≤ (q + X) * q) : 2 * (t - q) ≤ X := by
  refine Int.not_lt.1 fun hn => ?_
  have h1 : 2 * q + X + 1 ≤ 2 * t := by omega
  have h2 := Int.mul_le_mul h1 h1 (by omega) (by omega)
  have e1 : 2 * t * (2 * t) = 4 * (t * t) := by grind
  have e2 : (2 * q + X + 1) * (2 * q + X + 1) = 4 * ((q + X) * q) + (X * X + 4 * q + 2 * X + 1) := by grind
  have h3 := Int.mul_nonneg hX hX
  omega
theorem rinv_step {B i : Nat} {l : Nat → Rat} {a : Int × Int} (hl : Bdd l) (h : RInv B l i a) {r t : Int} (hr0 : 0 ≤ r) (hr : r * r ≤ a.1 * Q B) (hr2 : a.1 * Q B < (r + 1) * (r + 1)) (ht0 : 0 ≤ t) (ht : t * t ≤ a.2 * Q B) (ht2 : a.2 * Q B < (t + 1) * (t + 1)) : RInv B l (i + 1) (r, t + 1) := by
  have q := Q_pos B
  obtain ⟨h1, h2, h3, h4⟩ := h
  refine ⟨?_, ?_, ?_, ?_⟩
  · have h5 := root_has (Bdd.over hl i) h1 (r := r) (t := t + 1) hr (by omega) (by omega)
    have e : (fun M => l M / (Q (i + 1) : Rat)) = fun M => l M / (Q i : Rat) / 2 := funext fun M => by
      have e2 : Q (i + 1) = 2 * Q i := rfl
      have e3 : ((2 : Int) : Rat) = 2 := rfl
      have qi := Qr_pos i
      have g1 := rdm (a := l M) qi
      rw [e2, Rat.intCast_mul, e3]
      have g2 := rdm (a := l M) (show (0 : Rat) < 2 * (Q i : Rat) by grind)
      generalize l M / (Q i : Rat) = U at *
      generalize l M / (2 * (Q i : Rat)) = V at *
      have g3 : (V - U / 2) * (Q i : Rat) = 0 := by grind
      rcases Rat.mul_eq_zero.1 g3 with g | g <;> grind
    rw [e]; exact h5
  · refine Int.not_lt.1 fun hn => ?_
    have h5 : r + 1 ≤ Q B := by simp only [] at hn; omega
    have h6 := Int.mul_le_mul h5 h5 (by omega) (by omega)
    have h7 := Int.mul_le_mul_of_nonneg_right h2 (show 0 ≤ Q B by omega)
    omega
  · simp only []
    refine Int.not_lt.1 fun hn => ?_
    have h5 : t + 2 ≤ r := by omega
    have h6 := Int.mul_le_mul (show t + 1 ≤ r by omega) (show t + 1 ≤ r by omega) (by omega) (by omega)
    have h7 := Int.mul_le_mul_of_nonneg_right h3 (show 0 ≤ Q B by omega)
    omega
  · have h5 := root_half (q := Q B) (X := a.2 - Q B) (t := t) (by omega) (by omega) ht0 (by
      have e : Q B + (a.2 - Q B) = a.2 := by omega
      rw [e]; exact ht)
    have e2 : Q (i + 1) = 2 * Q i := rfl
    have qi := Q_pos i
    have h6 := Int.mul_le_mul_of_nonneg_right (show 2 * (t + 1 - Q B - 2) ≤ a.2 - Q B - 2 by omega) (show 0 ≤ Q i by omega)
    have e3 : (t + 1 - Q B - 2) * (2 * Q i) = 2 * (t + 1 - Q B - 2) * Q i := by grind
    show (t + 1 - Q B - 2) * Q (i + 1) ≤ Q B
    rw [e2, e3]; omega
/-- Behind eight roots, less 1. -/
theorem rinv_end {B i : Nat} {l : Nat → Rat} {a : Int × Int} (hB : 10 ≤ B) (h : RInv B l i a) (q8 : Q i = 256) : Abs (a.1 - Q B, a.2 - Q B) (Q (B - 6)) ∧ a.1 - Q B ≤ a.2 - Q B ∧ Iv B (a.1 - Q B, a.2 - Q B) (fun M => Ev (fun M => l M / (Q i : Rat)) M - 1) ∧ ∃ N0, ∀ M, N0 ≤ M → AB (Ev (fun M => l M / (Q i : Rat)) M - 1) (1 / 2) := by
  obtain ⟨h1, h2, h3, h4⟩ := h
  have qB : Q B = 64 * Q (B - 6) := by
    have := Q_add (B - 6) 6
    rw [show B - 6 + 6 = B by omega] at this
    have e : Q 6 = 64 := rfl
    rw [this, e, Int.mul_comm]
  have q6 : 16 ≤ Q (B - 6) := by have := Q_mono (show 4 ≤ B - 6 by omega); have e : Q 4 = 16 := rfl; omega
  have hq := Qr_pos B
  have hab : Abs (a.1 - Q B, a.2 - Q B) (Q (B - 6)) := by
    rw [q8] at h4
    exact ⟨by simp only []; omega, by simp only []; omega, by simp only []; omega, by simp only []; omega⟩
  have hiv : Iv B (a.1 - Q B, a.2 - Q B) (fun M => Ev (fun M => l M / (Q i : Rat)) M - 1) := by
    have e1 : (Q B : Rat) / (Q B : Rat) = 1 := by rw [Rat.div_def, Rat.mul_inv_cancel _ (by grind)]
    have h5 : Iv B (Q B, Q B) (fun _ => (1 : Rat)) := by
      unfold Iv
      simp only []
      rw [e1]
      exact Has.const Rat.le_refl Rat.le_refl
    have h6 := h1.sub h5
    unfold subI at h6
    exact h6
  refine ⟨hab, by omega, hiv, ?_⟩
  obtain ⟨N, hN⟩ := hiv (1 / 4) (by grind)
  refine ⟨N, fun M hM => ?_⟩
  obtain ⟨g1, g2⟩ := hN M hM
  obtain ⟨a1, a2, a3, a4⟩ := hab
  simp only [] at a1 a2 a3 a4 g1 g2
  have c1 : (-(1 / 4) : Rat) ≤ ((a.1 - Q B : Int) : Rat) / (Q B : Rat) := by
    refine rle_div hq ?_
    have := cast_le (show -Q B ≤ 4 * (a.1 - Q B) by omega)
    rw [Rat.intCast_neg, Rat.intCast_mul, show ((4 : Int) : Rat) = 4 from rfl] at this
    grind
  have c2 : ((a.2 - Q B : Int) : Rat) / (Q B : Rat) ≤ 1 / 4 := by
    refine rdiv_le hq ?_
    have := cast_le (show 4 * (a.2 - Q B) ≤ Q B by omega)
    rw [Rat.intCast_mul, show ((4 : Int) : Rat) = 4 from rfl] at this
    grind
  constructor <;> grind
end Go.Proofs.Ytgmnknmjainabaa

namespace Go.Proofs.Ytgmnknmjainabaa
set_option linter.unusedVariables false
open Ex

theorem bal_isLog {n d n' d' k : Int} {l1 l2 : Nat → Rat} (hd : 0 < d) (h : Bal n d n' d' k) (i1 : IsLog l1 (fun _ => (n' : Rat) / (d' : Rat))) (i2 : IsLog l2 (fun _ => (2 : Rat))) :
    IsLog (fun M => l1 M + (k : Rat) * l2 M) (fun _ => (n : Rat) / (d : Rat)) := by
  obtain ⟨h1, h2, h3⟩ := h
  have d0 : (0 : Rat) < (d : Rat) := by exact_mod_cast hd
  have d0' : (0 : Rat) < (d' : Rat) := by exact_mod_cast h1.hd
  by_cases hk : k < 0
  · obtain ⟨j, rfl⟩ : ∃ j : Nat, k = -(j : Int) := ⟨(-k).toNat, by omega⟩
    have hq := h3 hk
    have ej : (-(-(j : Int))).toNat = j := by omega
    rw [ej] at hq
    have qj := Qr_pos j
    have l3 := (i2.times j).neg (s := fun _ => 1 / (Q j : Rat)) (Bdd.const _) 0 (fun M _ => by rw [pw_Q]; exact rdm qj)
    refine ((i1.add l3).congr_r (null_zero.of_eq fun M => ?_)).congr (null_zero.of_eq fun M => ?_)
    · show (n' : Rat) / (d' : Rat) * (1 / (Q j : Rat)) - (n : Rat) / (d : Rat) = 0
      have hq2 : ((n * d' * Q j : Int) : Rat) = ((n' * d : Int) : Rat) := by rw [hq]
      rw [Rat.intCast_mul, Rat.intCast_mul, Rat.intCast_mul] at hq2
      have f1 := rdm (a := (n' : Rat)) d0'
      have f2 := rdm (a := (n : Rat)) d0
      have f3 := rdm (a := (1 : Rat)) qj
      generalize (n' : Rat) / (d' : Rat) = r' at *
      generalize (n : Rat) / (d : Rat) = r at *
      generalize 1 / (Q j : Rat) = i at *
      rw [← f1, ← f2] at hq2
      have f4 : (d : Rat) * ((d' : Rat) * (r * (Q j : Rat) - r')) = 0 := by grind
      have f5 : r * (Q j : Rat) = r' := by
        rcases Rat.mul_eq_zero.1 f4 with h | h
        · grind
        · rcases Rat.mul_eq_zero.1 h with h | h
          · grind
          · grind
      rw [← f5]
      have : r * (Q j : Rat) * i - r = r * (i * (Q j : Rat)) - r := by grind
      rw [this, f3]; grind
    · have e : ((-(j : Int) : Int) : Rat) = -(j : Rat) := by rw [Rat.intCast_neg]; rfl
      rw [e]; grind
  · obtain ⟨j, rfl⟩ : ∃ j : Nat, k = (j : Int) := ⟨k.toNat, by omega⟩
    have hq := h2 (by omega)
    have ej : ((j : Int)).toNat = j := by omega
    rw [ej] at hq
    have l3 := i2.times j
    refine (i1.add l3).congr_r (null_zero.of_eq fun M => ?_)
    show (n' : Rat) / (d' : Rat) * pw 2 j - (n : Rat) / (d : Rat) = 0
    rw [pw_Q]
    have hq2 : ((n * d' : Int) : Rat) = ((n' * d * Q j : Int) : Rat) := by rw [hq]
    rw [Rat.intCast_mul, Rat.intCast_mul, Rat.intCast_mul] at hq2
    have f1 := rdm (a := (n' : Rat)) d0'
    have f2 := rdm (a := (n : Rat)) d0
    generalize (n' : Rat) / (d' : Rat) = r' at *
    generalize (n : Rat) / (d : Rat) = r at *
    rw [← f1, ← f2] at hq2
    have f4 : (d : Rat) * ((d' : Rat) * (r' * (Q j : Rat) - r)) = 0 := by grind
    rcases Rat.mul_eq_zero.1 f4 with h | h
    · grind
    · rcases Rat.mul_eq_zero.1 h with h | h
      · grind
      · exact h
theorem rootLog_has {B N i : Nat} {l : Nat → Rat} {a z : Int × Int} (hl : Bdd l) (hB : 10 ≤ B) (h : RInv B l i a) (q8 : Q i = 256) (hz : z = (a.1 - Q B, a.2 - Q B)) (hN : reachI (npT B z N) ≤ 1 ∨ B ≤ N + 1) : Iv B (scaleI (addI (nsT B z N) (-2, 2)) 256 1) l := by
  subst hz
  obtain ⟨h1, h2, h3, N0, h4⟩ := rinv_end hB h q8
  have h5 := near_log (Bdd.over hl i) h3 N0 h4 hN
  refine (h5.scale (n := 256) (d := 1) (by omega) (by omega)).congr (null_zero.of_eq fun M => ?_)
  rw [q8]
  have e1 : ((1 : Int) : Rat) = 1 := rfl
  have e2 : ((256 : Int) : Rat) = 256 := rfl
  rw [e1, e2]
  have f1 := rdm (a := l M) (show (0 : Rat) < 256 by decide)
  have f2 := rdm (a := (256 : Rat)) (show (0 : Rat) < 1 by decide)
  generalize l M / 256 = U at *
  generalize (256 : Rat) / 1 = V at *
  have : V = 256 := by grind
  rw [this]; grind
end Go.Proofs.Ytgmnknmjainabaa

namespace Go.Proofs.Ytgmnknmjainabaa
set_option linter.unusedVariables false
set_option linter.unusedSimpArgs false
set_option linter.unnecessarySimpa false
open Go.RowKit
attribute [local go_sem ↓] Go.wp_at_zero Go.wp_at_succ

set_option maxRecDepth 100000 in
set_option maxHeartbeats 4000000 in
theorem scale_int (w : World) (s : Sp) (neg neg2 : Bool) (a c : Option Addr) (n m cap cap2 k k1 k2 : Nat) (lo hi x y : Int) (hs : SpAt w s k lo hi) (h1 : IntAt w neg a n cap k1 x) (h2 : IntAt w neg2 c m cap2 k2 y) (hk : k ≤ 300000000) (hk1 : k1 ≤ 300000000) (hy : 0 < y) :
    Calls Try.prog 149 #[.agg #[.bool s.ln, .slice s.la s.lN s.lc, .bool s.hn, .slice s.ha s.hN s.hc, .int .i64 s.bits], .agg #[.bool neg, .slice a n cap], .agg #[.bool neg2, .slice c m cap2]] w (SpanAns w s.bits (k + k1 + 10) (lo * x / y) (-(-(hi * x) / y))) := by
  obtain ⟨W, hW⟩ : ∃ W, W = (((w.alloc (.cells #[.bool s.ln, .slice s.la s.lN s.lc, .bool s.hn, .slice s.ha s.hN s.hc, .int .i64 s.bits] 26)).alloc (.cells #[.bool neg, .slice a n cap] 24)).alloc (.cells #[.bool neg2, .slice c m cap2] 24)).alloc (.cells #[.bool false, .slice none 0 0, .bool false, .slice none 0 0, .int .i64 0] 26) := ⟨_, rfl⟩
  have hBW : Below w.heap.size w W := by rw [hW]; exact bl4 _ _ _ _ _
  have A : SpC W w.heap.size s := by rw [hW]; exact ⟨by simp [go_sem], by simp [go_sem], by simp [go_sem], by simp [go_sem], by simp [go_sem]⟩
  have X : NmC W (w.heap.size + 1) ⟨neg, a, n, cap⟩ := by rw [hW]; exact ⟨by simp [go_sem], by simp [go_sem]⟩
  have Y : NmC W (w.heap.size + 1 + 1) ⟨neg2, c, m, cap2⟩ := by rw [hW]; exact ⟨by simp [go_sem], by simp [go_sem]⟩
  have R : NoC W (w.heap.size + 1 + 1 + 1) := by rw [hW]; exact ⟨by simp [go_sem], by simp [go_sem], by simp [go_sem], by simp [go_sem], by simp [go_sem], fun o => by simp [go_sem]⟩
  have HS := hide (hs.below hBW)
  have HX := hide (h1.below hBW)
  have HY := hide (h2.below hBW)
  have lR := R.lt
  have HK := hide (show ∀ w', Below W.heap.size W w' → (w'.cell? ⟨w.heap.size, 0, none⟩ = some (.bool s.ln) ∧ w'.cell? ⟨w.heap.size, 1, none⟩ = some (.slice s.la s.lN s.lc) ∧ w'.cell? ⟨w.heap.size, 2, none⟩ = some (.bool s.hn) ∧ w'.cell? ⟨w.heap.size, 3, none⟩ = some (.slice s.ha s.hN s.hc) ∧ w'.cell? ⟨w.heap.size, 4, none⟩ = some (.int .i64 s.bits) ∧ w'.cell? ⟨w.heap.size + 1, 0, none⟩ = some (.bool neg) ∧ w'.cell? ⟨w.heap.size + 1, 1, none⟩ = some (.slice a n cap) ∧ w'.cell? ⟨w.heap.size + 1 + 1, 0, none⟩ = some (.bool neg2) ∧ w'.cell? ⟨w.heap.size + 1 + 1, 1, none⟩ = some (.slice c m cap2)) from fun w' hB => ⟨(A.below hB).c0, (A.below hB).c1, (A.below hB).c2, (A.below hB).c3, (A.below hB).c4, (X.below hB).c0, (X.below hB).c1, (Y.below hB).c0, (Y.below hB).c1⟩)
  clear A X Y hs h1 h2
  go_enter Try.func149, Try.ntmps149
  go_wp2
  rw [← hW]
  clear hW
  have n02 : w.heap.size ≠ w.heap.size + 1 + 1 := by omega
  have n20 : w.heap.size + 1 + 1 ≠ w.heap.size := by omega
  have n03 : w.heap.size ≠ w.heap.size + 1 + 1 + 1 := by omega
  have n30 : w.heap.size + 1 + 1 + 1 ≠ w.heap.size := by omega
  have n13 : w.heap.size + 1 ≠ w.heap.size + 1 + 1 + 1 := by omega
  have n31 : w.heap.size + 1 + 1 + 1 ≠ w.heap.size + 1 := by omega
  have n23 : w.heap.size + 1 + 1 ≠ w.heap.size + 1 + 1 + 1 := by omega
  have n32 : w.heap.size + 1 + 1 + 1 ≠ w.heap.size + 1 + 1 := by omega
  obtain ⟨x0, x1, x2, x3, x4, x5, x6, x7, x8⟩ := unhide HK _ (Below.refl _ _)
  have hD0 : Below W.heap.size W W.drew := (Below.refl _ _).drew
  go_region_held3 (fun w' => w'.cell? ⟨w.heap.size, 0, none⟩ = some (.bool s.ln) ∧ w'.cell? ⟨w.heap.size, 1, none⟩ = some (.slice s.la s.lN s.lc) ∧ w'.cell? ⟨w.heap.size, 2, none⟩ = some (.bool s.hn) ∧ w'.cell? ⟨w.heap.size, 3, none⟩ = some (.slice s.ha s.hN s.hc) ∧ w'.cell? ⟨w.heap.size, 4, none⟩ = some (.int .i64 s.bits) ∧ w'.cell? ⟨w.heap.size + 1, 0, none⟩ = some (.bool neg) ∧ w'.cell? ⟨w.heap.size + 1, 1, none⟩ = some (.slice a n cap) ∧ w'.cell? ⟨w.heap.size + 1 + 1, 0, none⟩ = some (.bool neg2) ∧ w'.cell? ⟨w.heap.size + 1 + 1, 1, none⟩ = some (.slice c m cap2)) (first | exact unhide HK _ (by first | with_reducible exact hD0 | with_reducible exact hD4 | with_reducible exact hD3 | with_reducible exact hD2 | with_reducible exact hD1) | go_keep)
    (first
      | (go_at_call 123; have hq := hD3; refine (ceil_any _ _ _ _ _ _ _ _ (k + k1) k2 (hi * x) y _ hint3 ((unhide HY).below hD3) (by omega) hy).mono ?_; rintro r' w4 ⟨neg4, a4, n4, c4, rfl, hint4, hb4⟩; have hD4 := bthen hD3 hb4; replace hint2 := (hint2.below hb3).below hb4; obtain ⟨q0, q1, q2, q3, q4, q5⟩ := R.below hD4; obtain ⟨y0, y1, y2, y3, y4, y5, y6, y7, y8⟩ := unhide HK _ hD4)
      | (go_at_call 52; have hq := hD2; refine (mul_int _ _ _ _ _ _ _ _ k k1 hi x _ ((unhide HS).hi.below hD2) ((unhide HX).below hD2) (by omega) (by omega)).mono ?_; rintro r' w3 ⟨neg3, a3, n3, c3, rfl, hint3, hb3⟩; have hD3 := bthen hD2 hb3)
      | (go_at_call 103; have hq := hD1; refine (floor_any _ _ _ _ _ _ _ _ (k + k1) k2 (lo * x) y _ hint1 ((unhide HY).below hD1) (by omega) hy).mono ?_; rintro r' w2 ⟨neg2', a2, n2, c2, rfl, hint2, hb2⟩; have hD2 := bthen hD1 hb2)
      | (go_at_call 52; refine (mul_int _ _ _ _ _ _ _ _ k k1 lo x _ ((unhide HS).lo.below hD0) ((unhide HX).below hD0) (by omega) (by omega)).mono ?_; rintro r' w1 ⟨neg1, a1, n1, c1, rfl, hint1, hb1⟩; have hD1 := bthen hD0 hb1))
  all_goals
    go_wp2_with fail
    refine bodyPost_ret (v := .agg #[.bool neg2', .slice a2 n2 c2, .bool neg4, .slice a4 n4 c4, .int .i64 s.bits]) (by simp [results, Try.results149, go_sem, q0, q1, q2, q3, q4]) rfl ⟨⟨neg2', a2, n2, c2, neg4, a4, n4, c4, s.bits⟩, rfl, rfl, ?_, ?_⟩
    · exact SpAt.put5 ⟨hint2.mono (by omega), hint4.mono (by omega)⟩ q0 q1 q2 q3 q4 _ _ _ _ _
    · exact set5 (bthen hBW hD4) (by omega) _ _ _ _ _

set_option maxRecDepth 100000 in
set_option maxHeartbeats 4000000 in
theorem over1_int (w : World) (s : Sp) (k : Nat) (d lo hi : Int) (hs : SpAt w s k lo hi) (hk : k ≤ 300000000) (hd : 0 < d) (hd2 : d ≤ 9223372036854775807) :
    Calls Try.prog 138 #[.agg #[.bool s.ln, .slice s.la s.lN s.lc, .bool s.hn, .slice s.ha s.hN s.hc, .int .i64 s.bits], .int .i64 d] w (SpanAns w s.bits (k + 14) (lo * 1 / d) (-(-(hi * 1) / d))) := by
  obtain ⟨W, hW⟩ : ∃ W, W = (w.alloc (.cells #[.bool s.ln, .slice s.la s.lN s.lc, .bool s.hn, .slice s.ha s.hN s.hc, .int .i64 s.bits] 26)).alloc (.cells #[.bool false, .slice none 0 0, .bool false, .slice none 0 0, .int .i64 0] 26) := ⟨_, rfl⟩
  have hBW : Below w.heap.size w W := by rw [hW]; exact bl2 _ _ _
  have A : SpC W w.heap.size s := by rw [hW]; exact ⟨by simp [go_sem], by simp [go_sem], by simp [go_sem], by simp [go_sem], by simp [go_sem]⟩
  have R : NoC W (w.heap.size + 1) := by rw [hW]; exact ⟨by simp [go_sem], by simp [go_sem], by simp [go_sem], by simp [go_sem], by simp [go_sem], fun o => by simp [go_sem]⟩
  have HS := hide (hs.below hBW)
  have lR := R.lt
  have HK := hide (show ∀ w', Below W.heap.size W w' → (w'.cell? ⟨w.heap.size, 0, none⟩ = some (.bool s.ln) ∧ w'.cell? ⟨w.heap.size, 1, none⟩ = some (.slice s.la s.lN s.lc) ∧ w'.cell? ⟨w.heap.size, 2, none⟩ = some (.bool s.hn) ∧ w'.cell? ⟨w.heap.size, 3, none⟩ = some (.slice s.ha s.hN s.hc) ∧ w'.cell? ⟨w.heap.size, 4, none⟩ = some (.int .i64 s.bits)) from fun w' hB => ⟨(A.below hB).c0, (A.below hB).c1, (A.below hB).c2, (A.below hB).c3, (A.below hB).c4⟩)
  clear A hs
  go_enter Try.func138, Try.ntmps138
  go_wp2
  rw [← hW]
  clear hW
  have n01 : w.heap.size ≠ w.heap.size + 1 := by omega
  have n10 : w.heap.size + 1 ≠ w.heap.size := by omega
  obtain ⟨x0, x1, x2, x3, x4⟩ := unhide HK _ (Below.refl _ _)
  have hD0 : Below W.heap.size W W.drew := (Below.refl _ _).drew
  go_region_held3 (fun w' => w'.cell? ⟨w.heap.size, 0, none⟩ = some (.bool s.ln) ∧ w'.cell? ⟨w.heap.size, 1, none⟩ = some (.slice s.la s.lN s.lc) ∧ w'.cell? ⟨w.heap.size, 2, none⟩ = some (.bool s.hn) ∧ w'.cell? ⟨w.heap.size, 3, none⟩ = some (.slice s.ha s.hN s.hc) ∧ w'.cell? ⟨w.heap.size, 4, none⟩ = some (.int .i64 s.bits)) (first | exact unhide HK _ (by first | with_reducible exact hD0 | with_reducible exact hD3 | with_reducible exact hD2 | with_reducible exact hD1) | go_keep)
    (first
      | (go_at_call 149; have hq := hD2; refine (scale_int _ s _ _ _ _ _ _ _ _ k 4 4 lo hi 1 d ((unhide HS).below hD2) (hint1.below hb2) hint2 (by omega) (by omega) hd).mono ?_; rintro r' w3 ⟨u, rfl, hub, hup, hb3⟩; have HU := hide hub; clear hub; have hD3 := bthen hD2 hb3; obtain ⟨q0, q1, q2, q3, q4, q5⟩ := R.below hD3; obtain ⟨y0, y1, y2, y3, y4⟩ := unhide HK _ hD3)
      | (go_at_call 62; have hq := hD1; refine (numOf_int d _ (by omega) hd2).mono ?_; rintro r' w2 ⟨neg2, a2, n2, c2, rfl, hint2, hb2⟩; have hD2 := bthen hD1 hb2)
      | (go_at_call 62; refine (numOf_int 1 _ (by decide) (by decide)).mono ?_; rintro r' w1 ⟨neg1, a1, n1, c1, rfl, hint1, hb1⟩; have hD1 := bthen hD0 hb1))
  all_goals
    go_wp2_with fail
    refine bodyPost_ret (v := .agg #[.bool u.ln, .slice u.la u.lN u.lc, .bool u.hn, .slice u.ha u.hN u.hc, .int .i64 u.bits]) (by simp [results, Try.results138, go_sem, q0, q1, q2, q3, q4]) rfl ⟨u, rfl, unhide HU, ?_, ?_⟩
    · exact SpAt.put5 (hup.mono (by omega)) q0 q1 q2 q3 q4 _ _ _ _ _
    · exact set5 (bthen hBW hD3) (Nat.le_succ _) _ _ _ _ _

set_option maxRecDepth 100000 in
set_option maxHeartbeats 2000000 in
theorem one_int (w : World) (b : Nat) (hb : b ≤ 1000000) : Calls Try.prog 136 #[.int .i64 b] w (SpanAns w b (b / 16 + 24) (1 * Q b / 1) (-(-(1 * Q b) / 1))) := by
  go_enter Try.func136, Try.ntmps136
  go_wp2_with fail
  refine (numOf_int 1 _ (by decide) (by decide)).mono ?_
  rintro r' w1 ⟨neg1, a1, n1, c1, rfl, hint1, hb1⟩
  have R := (noc_new w 26).below hb1
  have hB : Below w.heap.size w w1 := bthen (bl1 _ _) hb1
  clear hb1
  go_wp2_with fail
  refine (numOf_int 1 _ (by decide) (by decide)).mono ?_
  rintro r' w2 ⟨neg2, a2, n2, c2, rfl, hint2, hb2⟩
  replace R := R.below hb2
  replace hB := bthen hB hb2
  replace hint1 := hint1.below hb2
  clear hb2
  go_wp2_with fail
  refine (wideOf_any _ _ _ _ _ _ _ _ 4 4 b 1 1 _ hint1 hint2 (by omega) hb (by omega)).mono ?_
  rintro r' w3 ⟨u, rfl, hub, hup, hb3⟩
  obtain ⟨q0, q1, q2, q3, q4, q5⟩ := R.below hb3
  replace hB := bthen hB hb3
  have HU := hide hub
  clear hub hb3
  go_wp2_with fail
  refine bodyPost_ret (v := .agg #[.bool u.ln, .slice u.la u.lN u.lc, .bool u.hn, .slice u.ha u.hN u.hc, .int .i64 u.bits]) (by simp [results, Try.results136, go_sem, q0, q1, q2, q3, q4]) rfl ⟨u, rfl, unhide HU, ?_, ?_⟩
  · exact SpAt.put5 (hup.mono (by omega)) q0 q1 q2 q3 q4 _ _ _ _ _
  · exact set5 hB (Nat.le_refl _) _ _ _ _ _
end Go.Proofs.Ytgmnknmjainabaa

namespace Go.Proofs.Ytgmnknmjainabaa
set_option linter.unusedVariables false
set_option linter.unusedSimpArgs false
set_option linter.unnecessarySimpa false
open Go.RowKit
attribute [local go_sem ↓] Go.wp_at_zero Go.wp_at_succ

set_option maxRecDepth 100000 in
set_option maxHeartbeats 4000000 in
theorem times_int (w : World) (s : Sp) (k : Nat) (d lo hi : Int) (hs : SpAt w s k lo hi) (hk : k ≤ 300000000) (hd : -9223372036854775808 ≤ d) (hd2 : d ≤ 9223372036854775807) :
    Calls Try.prog 154 #[.agg #[.bool s.ln, .slice s.la s.lN s.lc, .bool s.hn, .slice s.ha s.hN s.hc, .int .i64 s.bits], .int .i64 d] w (SpanAns w s.bits (k + 4) (lo * d) (hi * d)) := by
  obtain ⟨W, hW⟩ : ∃ W, W = (w.alloc (.cells #[.bool s.ln, .slice s.la s.lN s.lc, .bool s.hn, .slice s.ha s.hN s.hc, .int .i64 s.bits] 26)).alloc (.cells #[.bool false, .slice none 0 0, .bool false, .slice none 0 0, .int .i64 0] 26) := ⟨_, rfl⟩
  have hBW : Below w.heap.size w W := by rw [hW]; exact bl2 _ _ _
  have A : SpC W w.heap.size s := by rw [hW]; exact ⟨by simp [go_sem], by simp [go_sem], by simp [go_sem], by simp [go_sem], by simp [go_sem]⟩
  have R : NoC W (w.heap.size + 1) := by rw [hW]; exact ⟨by simp [go_sem], by simp [go_sem], by simp [go_sem], by simp [go_sem], by simp [go_sem], fun o => by simp [go_sem]⟩
  have HS := hide (hs.below hBW)
  have lR := R.lt
  have HK := hide (show ∀ w', Below W.heap.size W w' → (w'.cell? ⟨w.heap.size, 0, none⟩ = some (.bool s.ln) ∧ w'.cell? ⟨w.heap.size, 1, none⟩ = some (.slice s.la s.lN s.lc) ∧ w'.cell? ⟨w.heap.size, 2, none⟩ = some (.bool s.hn) ∧ w'.cell? ⟨w.heap.size, 3, none⟩ = some (.slice s.ha s.hN s.hc) ∧ w'.cell? ⟨w.heap.size, 4, none⟩ = some (.int .i64 s.bits)) from fun w' hB => ⟨(A.below hB).c0, (A.below hB).c1, (A.below hB).c2, (A.below hB).c3, (A.below hB).c4⟩)
  clear A hs
  go_enter Try.func154, Try.ntmps154
  go_wp2
  rw [← hW]
  clear hW
  have n01 : w.heap.size ≠ w.heap.size + 1 := by omega
  have n10 : w.heap.size + 1 ≠ w.heap.size := by omega
  obtain ⟨x0, x1, x2, x3, x4⟩ := unhide HK _ (Below.refl _ _)
  have hD0 : Below W.heap.size W W.drew := (Below.refl _ _).drew
  go_region_held3 (fun w' => w'.cell? ⟨w.heap.size, 0, none⟩ = some (.bool s.ln) ∧ w'.cell? ⟨w.heap.size, 1, none⟩ = some (.slice s.la s.lN s.lc) ∧ w'.cell? ⟨w.heap.size, 2, none⟩ = some (.bool s.hn) ∧ w'.cell? ⟨w.heap.size, 3, none⟩ = some (.slice s.ha s.hN s.hc) ∧ w'.cell? ⟨w.heap.size, 4, none⟩ = some (.int .i64 s.bits)) (first | exact unhide HK _ (by first | with_reducible exact hD0 | with_reducible exact hD4 | with_reducible exact hD3 | with_reducible exact hD2 | with_reducible exact hD1) | go_keep)
    (first
      | (go_at_call 52; have hq := hD3; refine (mul_int _ _ _ _ _ _ _ _ k 4 hi d _ ((unhide HS).hi.below hD3) hint3 (by omega) (by omega)).mono ?_; rintro r' w4 ⟨neg4, a4, n4, c4, rfl, hint4, hb4⟩; have hD4 := bthen hD3 hb4; replace hint2 := (hint2.below hb3).below hb4; obtain ⟨q0, q1, q2, q3, q4, q5⟩ := R.below hD4; obtain ⟨y0, y1, y2, y3, y4⟩ := unhide HK _ hD4)
      | (go_at_call 62; have hq := hD2; refine (numOf_int d _ hd hd2).mono ?_; rintro r' w3 ⟨neg3, a3, n3, c3, rfl, hint3, hb3⟩; have hD3 := bthen hD2 hb3)
      | (go_at_call 52; have hq := hD1; refine (mul_int _ _ _ _ _ _ _ _ k 4 lo d _ ((unhide HS).lo.below hD1) hint1 (by omega) (by omega)).mono ?_; rintro r' w2 ⟨neg2, a2, n2, c2, rfl, hint2, hb2⟩; have hD2 := bthen hD1 hb2)
      | (go_at_call 62; refine (numOf_int d _ hd hd2).mono ?_; rintro r' w1 ⟨neg1, a1, n1, c1, rfl, hint1, hb1⟩; have hD1 := bthen hD0 hb1))
  all_goals
    go_wp2_with fail
    refine bodyPost_ret (v := .agg #[.bool neg2, .slice a2 n2 c2, .bool neg4, .slice a4 n4 c4, .int .i64 s.bits]) (by simp [results, Try.results154, go_sem, q0, q1, q2, q3, q4]) rfl ⟨⟨neg2, a2, n2, c2, neg4, a4, n4, c4, s.bits⟩, rfl, rfl, ?_, ?_⟩
    · exact SpAt.put5 ⟨hint2, hint4⟩ q0 q1 q2 q3 q4 _ _ _ _ _
    · exact set5 (bthen hBW hD4) (Nat.le_succ _) _ _ _ _ _
end Go.Proofs.Ytgmnknmjainabaa

namespace Go.Proofs.Ytgmnknmjainabaa
set_option linter.unusedVariables false
set_option linter.unusedSimpArgs false
set_option linter.unnecessarySimpa false
open Go.RowKit
attribute [local go_sem ↓] Go.wp_at_zero Go.wp_at_succ

theorem downZ_nat (x : Int) (b : Nat) : downZ x (b : Int) = x / Q b := by unfold downZ; rw [if_pos (by omega)]; simp
theorem mul_iv (w : World) (s t : Sp) (k b : Nat) (a c : Int × Int) (hs : SpAt w s k a.1 a.2) (ht : SpAt w t k c.1 c.2) (hk : k ≤ 300000000) (hb : s.bits = (b : Int)) (hbm : b ≤ 1000000) :
    Calls Try.prog 86 #[.agg #[.bool s.ln, .slice s.la s.lN s.lc, .bool s.hn, .slice s.ha s.hN s.hc, .int .i64 s.bits], .agg #[.bool t.ln, .slice t.la t.lN t.lc, .bool t.hn, .slice t.ha t.hN t.hc, .int .i64 t.bits]] w (SpanAns w b (k + k + 8) (mulI b a c).1 (mulI b a c).2) :=
  (wideMul_int w s t k a.1 a.2 c.1 c.2 hs ht hk (by omega) (by omega)).mono fun r w' h => by
    rw [hb, downZ_nat, downZ_nat] at h; exact h
theorem add_iv (w : World) (s t : Sp) (k b : Nat) (a c : Int × Int) (hs : SpAt w s k a.1 a.2) (ht : SpAt w t k c.1 c.2) (hk : k ≤ 700000000) (hb : s.bits = (b : Int)) :
    Calls Try.prog 82 #[.agg #[.bool s.ln, .slice s.la s.lN s.lc, .bool s.hn, .slice s.ha s.hN s.hc, .int .i64 s.bits], .agg #[.bool t.ln, .slice t.la t.lN t.lc, .bool t.hn, .slice t.ha t.hN t.hc, .int .i64 t.bits]] w (SpanAns w b (k + 1) (addI a c).1 (addI a c).2) :=
  (wideAdd_int w s t k a.1 a.2 c.1 c.2 hs ht hk).mono fun r w' h => by rw [hb] at h; exact h
theorem sub_iv (w : World) (s t : Sp) (k b : Nat) (a c : Int × Int) (hs : SpAt w s k a.1 a.2) (ht : SpAt w t k c.1 c.2) (hk : k ≤ 600000000) (hb : s.bits = (b : Int)) :
    Calls Try.prog 84 #[.agg #[.bool s.ln, .slice s.la s.lN s.lc, .bool s.hn, .slice s.ha s.hN s.hc, .int .i64 s.bits], .agg #[.bool t.ln, .slice t.la t.lN t.lc, .bool t.hn, .slice t.ha t.hN t.hc, .int .i64 t.bits]] w (SpanAns w b (k + 1) (subI a c).1 (subI a c).2) :=
  (wideSub_int w s t k a.1 a.2 c.1 c.2 hs ht hk).mono fun r w' h => by rw [hb] at h; exact h
theorem over_iv (w : World) (s : Sp) (k b : Nat) (d : Int) (a : Int × Int) (hs : SpAt w s k a.1 a.2) (hk : k ≤ 300000000) (hb : s.bits = (b : Int)) (hd : 0 < d) (hd2 : d ≤ 9223372036854775807) :
    Calls Try.prog 138 #[.agg #[.bool s.ln, .slice s.la s.lN s.lc, .bool s.hn, .slice s.ha s.hN s.hc, .int .i64 s.bits], .int .i64 d] w (SpanAns w b (k + 14) (scaleI a 1 d).1 (scaleI a 1 d).2) :=
  (over1_int w s k d a.1 a.2 hs hk hd hd2).mono fun r w' h => by rw [hb] at h; exact h
theorem times_iv (w : World) (s : Sp) (k b : Nat) (d : Int) (a : Int × Int) (hs : SpAt w s k a.1 a.2) (hk : k ≤ 300000000) (hb : s.bits = (b : Int)) (hd : -9223372036854775808 ≤ d) (hd2 : d ≤ 9223372036854775807) :
    Calls Try.prog 154 #[.agg #[.bool s.ln, .slice s.la s.lN s.lc, .bool s.hn, .slice s.ha s.hN s.hc, .int .i64 s.bits], .int .i64 d] w (SpanAns w b (k + 4) (timesI a d).1 (timesI a d).2) :=
  (times_int w s k d a.1 a.2 hs hk hd hd2).mono fun r w' h => by rw [hb] at h; exact h

set_option maxRecDepth 100000 in
set_option maxHeartbeats 2000000 in
theorem exp1_iv (w : World) (B0 : Nat) (s u : Sp) (k b : Nat) (n : Int) (a c : Int × Int) (hs : SpAt w s k a.1 a.2) (hu : SpAt w u k c.1 c.2) (hU : SpC w B0 u) (hk : k ≤ 100000000) (hb : s.bits = (b : Int)) (hbm : b ≤ 1000000) (hn : 0 < n) (hn2 : n ≤ 9223372036854775807) :
    Calls Try.prog 137 #[.agg #[.bool s.ln, .slice s.la s.lN s.lc, .bool s.hn, .slice s.ha s.hN s.hc, .int .i64 s.bits], .int .i64 n, .pointer (some ⟨B0, 0, none⟩)] w (SpanAns w b (k + k + 22) (scaleI (mulI b a c) 1 n).1 (scaleI (mulI b a c) 1 n).2) := by
  obtain ⟨W, hW⟩ : ∃ W, W = (w.alloc (.cells #[.bool s.ln, .slice s.la s.lN s.lc, .bool s.hn, .slice s.ha s.hN s.hc, .int .i64 s.bits] 26)).alloc (.cells #[.bool false, .slice none 0 0, .bool false, .slice none 0 0, .int .i64 0] 26) := ⟨_, rfl⟩
  have hBW : Below w.heap.size w W := by rw [hW]; exact bl2 _ _ _
  have A : SpC W w.heap.size s := by rw [hW]; exact ⟨by simp [go_sem], by simp [go_sem], by simp [go_sem], by simp [go_sem], by simp [go_sem]⟩
  have R : NoC W (w.heap.size + 1) := by rw [hW]; exact ⟨by simp [go_sem], by simp [go_sem], by simp [go_sem], by simp [go_sem], by simp [go_sem], fun o => by simp [go_sem]⟩
  have HS := hide (hs.below hBW)
  have HU := hide (hu.below hBW)
  have l0 := hU.lt
  obtain ⟨y0, y1, y2, y3, y4⟩ := hU
  have HB := hide hb
  clear hs hu hb A
  go_enter Try.func137, Try.ntmps137
  go_wp2_with fail
  rw [← hW]
  clear hW
  refine (mul_iv _ s u k b a c (unhide HS) (unhide HU) (by omega) (unhide HB) hbm).mono ?_
  rintro r' w1 ⟨v, rfl, hvb, hvp, hb1⟩
  have HV := hide hvb
  clear hvb y0 y1 y2 y3 y4
  replace R := R.below hb1
  replace hBW := bthen hBW hb1
  go_wp2_with fail
  refine (over_iv _ v _ b n _ hvp (by omega) (unhide HV) hn hn2).mono ?_
  rintro r' w2 ⟨t, rfl, htb, htp, hb2⟩
  obtain ⟨q0, q1, q2, q3, q4, q5⟩ := R.below hb2
  replace hBW := bthen hBW hb2
  have HT := hide htb
  clear htb
  go_wp2_with fail
  refine bodyPost_ret (v := .agg #[.bool t.ln, .slice t.la t.lN t.lc, .bool t.hn, .slice t.ha t.hN t.hc, .int .i64 t.bits]) (by simp [results, Try.results137, go_sem, q0, q1, q2, q3, q4]) rfl ⟨t, rfl, unhide HT, ?_, ?_⟩
  · exact SpAt.put5 (htp.mono (by omega)) q0 q1 q2 q3 q4 _ _ _ _ _
  · exact set5 hBW (Nat.le_succ _) _ _ _ _ _
end Go.Proofs.Ytgmnknmjainabaa

namespace Go.Proofs.Ytgmnknmjainabaa
set_option linter.unusedVariables false
set_option linter.unusedSimpArgs false
set_option linter.unnecessarySimpa false
open Go.RowKit
attribute [local go_sem ↓] Go.wp_at_zero Go.wp_at_succ

/-- A span in a block that may be written. -/
structure VrC (w : World) (B : Nat) (s : Sp) : Prop where
  c : SpC w B s
  fz : ∀ o, w.frozen? ⟨B, o, none⟩ = false
theorem VrC.lt {w : World} {B : Nat} {s : Sp} (h : VrC w B s) : B < w.heap.size := h.c.lt
theorem VrC.below {w w' : World} {B : Nat} {s : Sp} (h : VrC w B s) (hb : Below w.heap.size w w') : VrC w' B s :=
  ⟨h.c.below hb, fun o => (hb.frozen (p := ⟨B, o, none⟩) h.lt).trans (h.fz o)⟩
abbrev put5w (w : World) (B : Nat) (u : Sp) : World := ((((w.setCell ⟨B, 0, none⟩ (.bool u.ln)).setCell ⟨B, 1, none⟩ (.slice u.la u.lN u.lc)).setCell ⟨B, 2, none⟩ (.bool u.hn)).setCell ⟨B, 3, none⟩ (.slice u.ha u.hN u.hc)).setCell ⟨B, 4, none⟩ (.int .i64 u.bits)
theorem fz_put5 {w : World} {B B' : Nat} (h : ∀ o, w.frozen? ⟨B, o, none⟩ = false) (u : Sp) : ∀ o, (put5w w B' u).frozen? ⟨B, o, none⟩ = false := fun o => by
  show (put5w w B' u).frozen? ⟨B, o, none⟩ = false
  unfold put5w
  rw [frozen_set', frozen_set', frozen_set', frozen_set', frozen_set']; exact h o
/-- Written, it holds what was written. -/
theorem VrC.put {w : World} {B : Nat} {s : Sp} (h : VrC w B s) (u : Sp) : VrC (put5w w B u) B u := by
  refine ⟨?_, fz_put5 h.fz u⟩
  obtain ⟨⟨q0, q1, q2, q3, q4⟩, q5⟩ := h
  constructor <;> simp [go_sem, q0, q1, q2, q3, q4]
theorem SpC.off {w : World} {B B' : Nat} {s : Sp} (h : SpC w B s) (hne : B ≠ B') (u : Sp) : SpC (put5w w B' u) B s := h.put hne _ _ _ _ _
theorem VrC.off {w : World} {B B' : Nat} {s : Sp} (h : VrC w B s) (hne : B ≠ B') (u : Sp) : VrC (put5w w B' u) B s := ⟨h.c.off hne u, fz_put5 h.fz u⟩
theorem NoC.off {w : World} {B B' : Nat} (h : NoC w B) (hne : B ≠ B') (u : Sp) : NoC (put5w w B' u) B := by
  obtain ⟨q0, q1, q2, q3, q4, q5⟩ := h
  exact ⟨cell_put5 q0 hne _ _ _ _ _, cell_put5 q1 hne _ _ _ _ _, cell_put5 q2 hne _ _ _ _ _, cell_put5 q3 hne _ _ _ _ _, cell_put5 q4 hne _ _ _ _ _, fz_put5 q5 u⟩
theorem SpAt.put {w : World} {s : Sp} {k : Nat} {lo hi : Int} (h : SpAt w s k lo hi) {B : Nat} {z : Sp} (hB : SpC w B z) (u : Sp) : SpAt (put5w w B u) s k lo hi := SpAt.put5 h hB.c0 hB.c1 hB.c2 hB.c3 hB.c4 _ _ _ _ _
theorem IntAt.put {w : World} {neg : Bool} {a : Option Addr} {n cap k : Nat} {z : Int} (h : IntAt w neg a n cap k z) {B : Nat} {y : Sp} (hB : SpC w B y) (u : Sp) : IntAt (put5w w B u) neg a n cap k z := IntAt.put5 h hB.c0 hB.c1 hB.c2 hB.c3 hB.c4 _ _ _ _ _
theorem below_put {B B' : Nat} {a w : World} (h : Below B a w) (hB : B ≤ B') (u : Sp) : Below B a (put5w w B' u) := set5 h hB _ _ _ _ _
theorem size_put (w : World) (B : Nat) (u : Sp) : (put5w w B u).heap.size = w.heap.size := by simp [put5w, World.setCell]

/-- Two variables of spans, made behind world W. -/
def TwoS (W wx : World) (s t : Sp) (p q : Value) : Prop :=
  ∃ B B', p = .pointer (some ⟨B, 0, none⟩) ∧ q = .pointer (some ⟨B', 0, none⟩) ∧ W.heap.size ≤ B ∧ W.heap.size ≤ B' ∧ B ≠ B' ∧ VrC wx B s ∧ VrC wx B' t ∧ Below W.heap.size W wx
theorem twoS_a (V : World) (s t : Sp) (T : TypeId) : TwoS V ((V.alloc (.cells #[.bool s.ln, .slice s.la s.lN s.lc, .bool s.hn, .slice s.ha s.hN s.hc, .int .i64 s.bits] T)).alloc (.cells #[.bool t.ln, .slice t.la t.lN t.lc, .bool t.hn, .slice t.ha t.hN t.hc, .int .i64 t.bits] T)).drew s t (.pointer (some ⟨V.heap.size, 0, none⟩)) (.pointer (some ⟨V.heap.size + 1, 0, none⟩)) := by
  refine ⟨_, _, rfl, rfl, Nat.le_refl _, Nat.le_succ _, Nat.ne_of_lt (Nat.lt_succ_self _), VrC.below (w := (V.alloc (.cells #[.bool s.ln, .slice s.la s.lN s.lc, .bool s.hn, .slice s.ha s.hN s.hc, .int .i64 s.bits] T)).alloc (.cells #[.bool t.ln, .slice t.la t.lN t.lc, .bool t.hn, .slice t.ha t.hN t.hc, .int .i64 t.bits] T)) ⟨⟨by simp [go_sem], by simp [go_sem], by simp [go_sem], by simp [go_sem], by simp [go_sem]⟩, fun o => by simp [go_sem]⟩ (Below.refl _ _).drew, VrC.below (w := (V.alloc (.cells #[.bool s.ln, .slice s.la s.lN s.lc, .bool s.hn, .slice s.ha s.hN s.hc, .int .i64 s.bits] T)).alloc (.cells #[.bool t.ln, .slice t.la t.lN t.lc, .bool t.hn, .slice t.ha t.hN t.hc, .int .i64 t.bits] T)) ⟨⟨by simp [go_sem], by simp [go_sem], by simp [go_sem], by simp [go_sem], by simp [go_sem]⟩, fun o => by simp [go_sem]⟩ (Below.refl _ _).drew, (bl2 _ _ _).drew⟩
theorem twoS_b (V : World) (s t : Sp) (T : TypeId) : TwoS V ((V.alloc (.cells #[.bool t.ln, .slice t.la t.lN t.lc, .bool t.hn, .slice t.ha t.hN t.hc, .int .i64 t.bits] T)).alloc (.cells #[.bool s.ln, .slice s.la s.lN s.lc, .bool s.hn, .slice s.ha s.hN s.hc, .int .i64 s.bits] T)).drew s t (.pointer (some ⟨V.heap.size + 1, 0, none⟩)) (.pointer (some ⟨V.heap.size, 0, none⟩)) := by
  obtain ⟨B, B', h1, h2, h3, h4, h5, h6, h7, h8⟩ := twoS_a V t s T
  exact ⟨B', B, h2, h1, h4, h3, fun e => h5 e.symm, h7, h6, h8⟩
/-- Where wide.sum is behind some rounds. -/
structure SumSt (W wr : World) (B5 B6 b K : Nat) (s X Y : Sp) (f : Nat → Int × Int) (i : Nat) : Prop where
  x : VrC wr B5 X
  y : VrC wr B6 Y
  xp : SpAt wr X K (sumI f i).1 (sumI f i).2
  yp : SpAt wr Y K (f i).1 (f i).2
  xb : X.bits = (b : Int)
  yb : Y.bits = (b : Int)
  fs : SpC wr W.heap.size s
  no : NoC wr (W.heap.size + 1)
  be : Below W.heap.size W wr
  l5 : W.heap.size + 1 < B5
  l6 : W.heap.size + 1 < B6
  ne : B5 ≠ B6
theorem SumSt.below {W wr wr' : World} {B5 B6 b K : Nat} {s X Y : Sp} {f : Nat → Int × Int} {i : Nat} (h : SumSt W wr B5 B6 b K s X Y f i) (hb : Below wr.heap.size wr wr') : SumSt W wr' B5 B6 b K s X Y f i :=
  ⟨h.x.below hb, h.y.below hb, h.xp.below hb, h.yp.below hb, h.xb, h.yb, h.fs.below hb, h.no.below hb, bthen h.be hb, h.l5, h.l6, h.ne⟩

set_option maxRecDepth 100000 in
set_option maxHeartbeats 4000000 in
theorem sum_exp (p1 : Value) (f : Nat → Int × Int) (N b K KF : Nat) (s : Sp) (W : World) (hs : SpAt W s K (f 0).1 (f 0).2) (hbits : s.bits = (b : Int)) (hb : b ≤ 1000000) (hK : K ≤ 100000000) (hKF : KF ≤ 900000000) (hN : IsStop f N) (hNb : N ≤ 1000000000)
    (hle : ∀ n, (f n).1 ≤ (f n).2) (hfit : ∀ n, n ≤ N → -P K < (f n).1 ∧ (f n).2 < P K) (hfitS : ∀ n, n ≤ N → -P K < (sumI f n).1 ∧ (sumI f n).2 < P K)
    (hF : ∀ (n : Nat) (u : Sp) w', n < N → u.bits = (b : Int) → SpAt w' u K (f n).1 (f n).2 → Below W.heap.size W w' → Calls Try.prog 137 #[.agg #[.bool u.ln, .slice u.la u.lN u.lc, .bool u.hn, .slice u.ha u.hN u.hc, .int .i64 u.bits], .int .i64 ((n : Int) + 1), p1] w' (SpanAns w' b KF (f (n + 1)).1 (f (n + 1)).2)) :
    Calls Try.prog 135 #[.agg #[.bool s.ln, .slice s.la s.lN s.lc, .bool s.hn, .slice s.ha s.hN s.hc, .int .i64 s.bits], .func (.func 137) #[] #[p1]] W (SpanAns W b (K + 3) (doneI f N).1 (doneI f N).2) := by
  have HF := hide hF
  have HN := hide hN
  have HBT := hide hbits
  clear hF hN hbits
  obtain ⟨V, hV⟩ : ∃ V, V = (W.alloc (.cells #[.bool s.ln, .slice s.la s.lN s.lc, .bool s.hn, .slice s.ha s.hN s.hc, .int .i64 s.bits] 26)).alloc (.cells #[.bool false, .slice none 0 0, .bool false, .slice none 0 0, .int .i64 0] 26) := ⟨_, rfl⟩
  have hBV : Below W.heap.size W V := by rw [hV]; exact bl2 _ _ _
  have A : SpC V W.heap.size s := by rw [hV]; exact ⟨by simp [go_sem], by simp [go_sem], by simp [go_sem], by simp [go_sem], by simp [go_sem]⟩
  have R : NoC V (W.heap.size + 1) := by rw [hV]; exact ⟨by simp [go_sem], by simp [go_sem], by simp [go_sem], by simp [go_sem], by simp [go_sem], fun o => by simp [go_sem]⟩
  have HS := hide (hs.below hBV)
  have lA := A.lt
  have lR := R.lt
  clear hs
  go_enter Try.func135, Try.ntmps135
  go_wp2
  rw [← hV]
  clear hV
  go_cut [5, 6] (fun p q wx => TwoS V wx s s p q)
  case first =>
    obtain ⟨x0, x1, x2, x3, x4⟩ := A
    go_region
    all_goals
      go_wp2_with fail
      go_meet
      first
        | with_reducible exact twoS_a _ _ _ _
        | with_reducible exact twoS_b _ _ _ _
  case rest =>
  obtain ⟨B5, B6, rfl, rfl, l5, l6, hne, X, Y, hB⟩ := hcut
  have n5 : W.heap.size + 1 < B5 := by omega
  have n6 : W.heap.size + 1 < B6 := by omega
  have st0 : SumSt W wc B5 B6 b K s s s f 0 := ⟨X, Y, (unhide HS).below hB, (unhide HS).below hB, unhide HBT, unhide HBT, A.below hB, R.below hB, bthen hBV hB, n5, n6, hne⟩
  clear X Y hB A R HS l5 l6 n5 n6 hne hBV lA lR
  go_wp2_with fail
  go_loopw [7] (fun nn wr => ∃ (i : Nat) (X Y : Sp), nn = .int .i64 ((i : Int) + 1) ∧ i ≤ N ∧ SumSt W wr B5 B6 b K s X Y f i) (fun nn _ => N + 1 - (intOf nn).toNat)
  case atStart => exact ⟨0, s, s, rfl, Nat.zero_le _, st0⟩
  case round =>
    obtain ⟨i, X, Y, rfl, hi, st⟩ := hrel
    have hr0 := reach_pair (hle i)
    obtain ⟨⟨y0, y1, y2, y3, y4⟩, y5⟩ := st.y
    go_wp2_with fail
    refine (reach_int _ Y K _ _ st.yp (by omega)).mono ?_
    rintro r w1 ⟨neg1, a1, n1, c1, rfl, hint1, hb1⟩
    replace st := st.below hb1
    clear hb1 y0 y1 y2 y3 y4 y5
    go_wp2_with fail
    refine (len_int _ _ _ _ _ (reachI (f i)) _ hint1 hr0).mono ?_
    rintro r w2 ⟨l, hlen, rfl, hb2⟩
    replace st := st.below hb2
    clear hb2 hint1
    by_cases hin : i < N
    · have hl : 1 < l := by
        refine Int.not_le.1 fun hl => ?_
        have := len_one hlen hl hr0
        have := (unhide HN).2 i hin
        omega
      clear hlen
      obtain ⟨⟨y0, y1, y2, y3, y4⟩, y5⟩ := st.y
      go_wp2_with fail
      refine (unhide HF i Y _ hin st.yb st.yp st.be).mono ?_
      rintro r w3 ⟨u, rfl, hub, hup, hb3⟩
      replace st := st.below hb3
      replace hup := hup.fits (K := K) (hle _) (hfit _ (by omega)).1 (hfit _ (by omega)).2
      have HU := hide hub
      clear hb3 y0 y1 y2 y3 y4 y5 hub
      obtain ⟨V3, hV3⟩ : ∃ V3, V3 = put5w w3 B6 u := ⟨_, rfl⟩
      have X3 : VrC V3 B5 X := by rw [hV3]; exact st.x.off st.ne u
      have Y3 : VrC V3 B6 u := by rw [hV3]; exact st.y.put u
      have P3 : SpAt V3 X K (sumI f i).1 (sumI f i).2 := by rw [hV3]; exact st.xp.put st.y.c u
      have U3 : SpAt V3 u K (f (i + 1)).1 (f (i + 1)).2 := by rw [hV3]; exact hup.put st.y.c u
      have F3 : SpC V3 W.heap.size s := by rw [hV3]; exact st.fs.off (by have := st.l6; omega) u
      have R3 : NoC V3 (W.heap.size + 1) := by rw [hV3]; exact st.no.off (by have := st.l6; omega) u
      have B3 : Below W.heap.size W V3 := by rw [hV3]; exact below_put st.be (by have := st.l6; omega) u
      have xb := hide st.xb
      have l5 := st.l5
      have l6 := st.l6
      have hne := st.ne
      have lY := st.y.lt
      have lX := st.x.lt
      obtain ⟨⟨y0, y1, y2, y3, y4⟩, y5⟩ := st.y
      obtain ⟨⟨x0, x1, x2, x3, x4⟩, x5⟩ := st.x
      clear st hup
      go_wp2_with fail
      have hV3' : V3 = put5w w3 B6 u := hV3
      unfold put5w at hV3'
      rw [← hV3']
      clear hV3' y0 y1 y2 y3 y4 y5 x0 x1 x2 x3 x4 x5
      have lX3 : B5 < V3.heap.size := X3.lt
      refine (add_iv _ X u K b (sumI f i) (f (i + 1)) P3 U3 (by omega) (unhide xb)).mono ?_
      rintro r w4 ⟨v, rfl, hvb, hvp, hb4⟩
      have X4 := X3.below hb4
      have Y4 := Y3.below hb4
      have U4 := U3.below hb4
      have F4 := F3.below hb4
      have R4 := R3.below hb4
      have B4 := bthen B3 hb4
      have e : addI (sumI f i) (f (i + 1)) = sumI f (i + 1) := rfl
      rw [e] at hvp
      replace hvp := hvp.fits (K := K) (sum_le hle _) (hfitS _ (by omega)).1 (hfitS _ (by omega)).2
      have HV := hide hvb
      clear hb4 hvb X3 Y3 P3 U3 F3 R3 B3 hV3
      have stn : SumSt W (put5w w4 B5 v) B5 B6 b K s v u f (i + 1) := ⟨X4.put v, Y4.off (Ne.symm hne) v, hvp.put X4.c v, U4.put X4.c v, unhide HV, unhide HU, F4.off (by omega) v, R4.off (by omega) v, below_put B4 (by omega) v, l5, l6, hne⟩
      unfold put5w at stn
      obtain ⟨⟨x0, x1, x2, x3, x4⟩, x5⟩ := X4
      go_wp2_with fail
      go_roundw
      case rel => exact ⟨i + 1, v, u, by go_num, by omega, stn⟩
      case measure => simp [intOf]; omega
    · have hie : i = N := by omega
      subst hie
      have hl : ¬ 1 < l := by
        have h1 := (unhide HN).1
        intro hl
        obtain ⟨g1, g2, g3⟩ := hlen
        by_cases hp : 0 < reachI (f i)
        · obtain ⟨L, e1, e2, e3⟩ := g3 hp
          have : 1 ≤ L := by omega
          have := Q_mono this
          have : Q 1 = 2 := rfl
          omega
        · have := g2 (by omega); omega
      clear hlen
      obtain ⟨⟨y0, y1, y2, y3, y4⟩, y5⟩ := st.y
      go_wp2_with fail
      refine (reach_int _ Y K _ _ st.yp (by omega)).mono ?_
      rintro r w3 ⟨neg3, a3, n3, c3, rfl, hint3, hb3⟩
      replace st := st.below hb3
      clear hb3 y0 y1 y2 y3 y4 y5
      obtain ⟨V3, hV3⟩ : ∃ V3, V3 = w3.alloc (.cells #[.bool neg3, .slice a3 n3 c3] 24) := ⟨_, rfl⟩
      have bV : Below w3.heap.size w3 V3 := by rw [hV3]; exact bl1 _ _
      have L3 : NmC V3 w3.heap.size ⟨neg3, a3, n3, c3⟩ := by rw [hV3]; exact nmc_new w3 ⟨neg3, a3, n3, c3⟩ _
      have st3 := st.below bV
      have HI := hide (hint3.below bV)
      have l5 := st.l5
      have lX := st.x.lt
      have HKr := hide (show ∀ w', Below V3.heap.size V3 w' → (w'.cell? ⟨B5, 0, none⟩ = some (.bool X.ln) ∧ w'.cell? ⟨B5, 1, none⟩ = some (.slice X.la X.lN X.lc) ∧ w'.cell? ⟨B5, 2, none⟩ = some (.bool X.hn) ∧ w'.cell? ⟨B5, 3, none⟩ = some (.slice X.ha X.hN X.hc) ∧ w'.cell? ⟨B5, 4, none⟩ = some (.int .i64 X.bits) ∧ w'.cell? ⟨w3.heap.size, 0, none⟩ = some (.bool neg3) ∧ w'.cell? ⟨w3.heap.size, 1, none⟩ = some (.slice a3 n3 c3) ∧ w'.cell? ⟨W.heap.size, 4, none⟩ = some (.int .i64 s.bits)) from fun w' hB => ⟨(st3.x.c.below hB).c0, (st3.x.c.below hB).c1, (st3.x.c.below hB).c2, (st3.x.c.below hB).c3, (st3.x.c.below hB).c4, (L3.below hB).c0, (L3.below hB).c1, (st3.fs.below hB).c4⟩)
      have lL := L3.lt
      have R3 := st3.no
      have lR3 := R3.lt
      clear st L3 hint3
      go_wp2_with fail
      rw [← hV3]
      clear hV3
      obtain ⟨x0, x1, x2, x3, x4, x5, x6, x7⟩ := unhide HKr _ (Below.refl _ _)
      have hD0 : Below V3.heap.size V3 V3.drew := (Below.refl _ _).drew
      have nR1 : W.heap.size + 1 ≠ B5 := by omega
      have nR2 : W.heap.size + 1 ≠ w3.heap.size := by omega
      have nR3 : W.heap.size + 1 ≠ W.heap.size := by omega
      go_region_held3 (fun w' => w'.cell? ⟨B5, 0, none⟩ = some (.bool X.ln) ∧ w'.cell? ⟨B5, 1, none⟩ = some (.slice X.la X.lN X.lc) ∧ w'.cell? ⟨B5, 2, none⟩ = some (.bool X.hn) ∧ w'.cell? ⟨B5, 3, none⟩ = some (.slice X.ha X.hN X.hc) ∧ w'.cell? ⟨B5, 4, none⟩ = some (.int .i64 X.bits) ∧ w'.cell? ⟨w3.heap.size, 0, none⟩ = some (.bool neg3) ∧ w'.cell? ⟨w3.heap.size, 1, none⟩ = some (.slice a3 n3 c3) ∧ w'.cell? ⟨W.heap.size, 4, none⟩ = some (.int .i64 s.bits)) (first | exact unhide HKr _ (by first | with_reducible exact hD0 | with_reducible exact hD2 | with_reducible exact hD1) | go_keep)
        (first
          | (go_at_call 82; have hq := hD1; refine (add_iv _ X ⟨neg4, a4, n4, c4, neg3, a3, n3, c3, s.bits⟩ (K + 1) b (sumI f i) (-reachI (f i), reachI (f i)) ((st3.xp.below hD1).mono (by omega)) ⟨hint4, (unhide HI).below hD1⟩ (by omega) st3.xb).mono ?_; rintro r' w5 ⟨v, rfl, hvb, hvp, hb5⟩; have hD2 := bthen hD1 hb5; have HV := hide hvb; clear hvb; obtain ⟨q0, q1, q2, q3, q4, q5⟩ := R3.below hD2; obtain ⟨y0, y1, y2, y3, y4, y5, y6, y7⟩ := unhide HKr _ hD2)
          | (go_at_call 80; refine (neg_int _ _ _ _ (K + 1) (reachI (f i)) _ ((unhide HI).below hD0) (by omega)).mono ?_; rintro r' w4 ⟨neg4, a4, n4, c4, rfl, hint4, hb4⟩; have hD1 := bthen hD0 hb4))
      all_goals
        go_wp2_with fail
        refine bodyPost_ret (v := .agg #[.bool v.ln, .slice v.la v.lN v.lc, .bool v.hn, .slice v.ha v.hN v.hc, .int .i64 v.bits]) (by simp [results, Try.results135, go_sem, q0, q1, q2, q3, q4]) rfl ⟨v, rfl, unhide HV, ?_, ?_⟩
        · exact SpAt.put5 (hvp.mono (by omega)) q0 q1 q2 q3 q4 _ _ _ _ _
        · exact set5 (bthen st3.be hD2) (Nat.le_succ _) _ _ _ _ _
end Go.Proofs.Ytgmnknmjainabaa
