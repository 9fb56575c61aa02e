/-
  Steps that are as small as one likes: what grows by less than any part of each of them does not grow. Plain arithmetic: no statement of the seat is proved here.
  The angle whose tangent is one over a whole number, four times the right angle's half, and roots of what is told by a sequence. Plain arithmetic: no statement of the seat is proved here.
  The angle whose tangent is a number up to one half: how it grows, the angle of a difference, and the angle whose tangent is 1, in two ways. Plain arithmetic: no statement of the seat is proved here.
  The angle of a difference; the angle whose tangent is 1, as 4 times the one of 1 over 5 less the one of 1 over 239; and a sum that is nearly it. Plain arithmetic: no statement of the seat is proved here.
  The error function is never more than 1: four times the square of its series is at most what the angles make. Plain arithmetic: no statement of the seat is proved here.
-/
import Derived.Test.YtgmnknmjainababK10
namespace Go.Proofs.Ytgmnknmjainabab.Ex
set_option linter.unusedVariables false

/-- At most, but for what is smaller than anything. -/
def LeN (f g : Nat → Rat) : Prop := ∀ e : Rat, 0 < e → ∃ N : Nat, ∀ M, N ≤ M → f M ≤ g M + e
theorem LeN.refl (f : Nat → Rat) : LeN f f := fun e he => ⟨0, fun M _ => by grind⟩
theorem LeN.trans {f g h : Nat → Rat} (a : LeN f g) (b : LeN g h) : LeN f h := fun e he => by
  obtain ⟨N1, h1⟩ := a (e / 2) (by grind)
  obtain ⟨N2, h2⟩ := b (e / 2) (by grind)
  exact ⟨N1 + N2, fun M hM => by have := h1 M (by omega); have := h2 M (by omega); grind⟩
theorem LeN.of_le {f g : Nat → Rat} (N : Nat) (h : ∀ M, N ≤ M → f M ≤ g M) : LeN f g := fun e he => ⟨N, fun M hM => by have := h M hM; grind⟩
theorem LeN.of_null {f g z : Nat → Rat} (hz : Null z) (N : Nat) (h : ∀ M, N ≤ M → f M ≤ g M + z M) : LeN f g := fun e he => by
  obtain ⟨N1, h1⟩ := hz e he
  exact ⟨N + N1, fun M hM => by have := h M (by omega); have := (h1 M (by omega)).2; grind⟩
theorem LeN.null {f g : Nat → Rat} (h : LeN f g) : ∃ z, Null z ∧ ∀ M, f M ≤ g M + z M := by
  refine ⟨fun M => if f M ≤ g M then 0 else f M - g M, fun e he => ?_, fun M => ?_⟩
  · obtain ⟨N, hN⟩ := h e he
    refine ⟨N, fun M hM => ?_⟩
    have := hN M hM
    simp only []
    split <;> constructor <;> grind
  · simp only []; split <;> grind
theorem LeN.add {f g f' g' : Nat → Rat} (a : LeN f g) (b : LeN f' g') : LeN (fun M => f M + f' M) (fun M => g M + g' M) := fun e he => by
  obtain ⟨N1, h1⟩ := a (e / 2) (by grind)
  obtain ⟨N2, h2⟩ := b (e / 2) (by grind)
  exact ⟨N1 + N2, fun M hM => by have := h1 M (by omega); have := h2 M (by omega); grind⟩
theorem LeN.eq {f g : Nat → Rat} (h : LeN f g) (k : LeN g f) : Null (fun M => f M - g M) := fun e he => by
  obtain ⟨N1, h1⟩ := h e he
  obtain ⟨N2, h2⟩ := k e he
  exact ⟨N1 + N2, fun M hM => by have := h1 M (by omega); have := h2 M (by omega); constructor <;> grind⟩
theorem Null.leN {f g : Nat → Rat} (h : Null (fun M => f M - g M)) : LeN f g := fun e he => by
  obtain ⟨N, hN⟩ := h e he
  exact ⟨N, fun M hM => by have := (hN M hM).2; grind⟩
theorem Null.symm {f g : Nat → Rat} (h : Null (fun M => f M - g M)) : Null (fun M => g M - f M) := h.neg.of_eq fun M => by grind
theorem LeN.lim {f g : Nat → Rat} {C : Rat} (hC : 0 ≤ C) (h : ∀ n : Nat, LeN f (fun M => g M + C * (1 / ((n : Rat) + 1)))) : LeN f g := fun e he => by
  obtain ⟨n, hn⟩ := rat_nat (2 * C / e)
  have k := h n
  obtain ⟨N, hN⟩ := k (e / 2) (by grind)
  refine ⟨N, fun M hM => ?_⟩
  have h1 := hN M hM
  have n0 : (0 : Rat) < (n : Rat) + 1 := pos1 n
  have h2 : C * (1 / ((n : Rat) + 1)) ≤ e / 2 := by
    have um : 1 / ((n : Rat) + 1) * ((n : Rat) + 1) = 1 := rdm n0
    have u0 : (0 : Rat) < 1 / ((n : Rat) + 1) := rdiv_pos (by grind) n0
    have ce : 2 * C / e * e = 2 * C := rdm he
    have h3 := Rat.mul_le_mul_of_nonneg_right hn.2 (Rat.le_of_lt he)
    rw [ce] at h3
    have h4 := Rat.mul_le_mul_of_nonneg_right (show 2 * C ≤ ((n : Rat) + 1) * e by grind) (Rat.le_of_lt u0)
    have e5 : ((n : Rat) + 1) * e * (1 / ((n : Rat) + 1)) = (1 / ((n : Rat) + 1) * ((n : Rat) + 1)) * e := by grind
    rw [e5, um] at h4
    grind
  simp only [] at h1
  grind
/-- What grows by less than any part of each small step does not grow. -/
theorem descend {f : Rat → Nat → Rat} {a b C D : Rat} (hab : a ≤ b) (hC : 0 ≤ C) (hD : 0 < D)
    (step : ∀ x h, a ≤ x → 0 < h → h ≤ D → x + h ≤ b → ∃ z, Null z ∧ ∃ N : Nat, ∀ M, N ≤ M → f (x + h) M ≤ f x M + C * (h * h) + z M) : LeN (f b) (f a) := by
  by_cases heq : a = b
  · subst heq; exact LeN.refl _
  have hlt : 0 < b - a := by grind
  refine LeN.lim (C := C * ((b - a) * (b - a))) (Rat.mul_nonneg hC (Rat.mul_nonneg (Rat.le_of_lt hlt) (Rat.le_of_lt hlt))) fun n0 => ?_
  obtain ⟨m, hm⟩ := rat_nat ((b - a) / D)
  -- n steps
  obtain ⟨n, hn⟩ : ∃ n, n = n0 + m := ⟨_, rfl⟩
  have n0p : (0 : Rat) < (n : Rat) + 1 := pos1 n
  obtain ⟨h, hh⟩ : ∃ h, h = (b - a) / ((n : Rat) + 1) := ⟨_, rfl⟩
  have hmul : h * ((n : Rat) + 1) = b - a := by rw [hh]; exact rdm n0p
  have h0 : 0 < h := by rw [hh]; exact rdiv_pos hlt n0p
  have mn : (m : Rat) ≤ (n : Rat) := by exact_mod_cast (show m ≤ n by omega)
  have nn : (n0 : Rat) ≤ (n : Rat) := by exact_mod_cast (show n0 ≤ n by omega)
  have hD2 : h ≤ D := by
    have e1 : (b - a) / D * D = b - a := rdm hD
    have h1 := Rat.mul_le_mul_of_nonneg_right hm.2 (Rat.le_of_lt hD)
    rw [e1] at h1
    refine Rat.le_of_mul_le_mul_right (c := (n : Rat) + 1) ?_ n0p
    rw [hmul]
    have := Rat.mul_le_mul_of_nonneg_right mn (Rat.le_of_lt hD)
    grind
  have go : ∀ i : Nat, i ≤ n + 1 → ∃ z, Null z ∧ ∃ N : Nat, ∀ M, N ≤ M → f (a + (i : Rat) * h) M ≤ f a M + (i : Rat) * (C * (h * h)) + z M := by
    intro i
    induction i with
    | zero =>
      intro _
      refine ⟨_, null_zero, 0, fun M _ => ?_⟩
      have e : a + ((0 : Nat) : Rat) * h = a := by grind
      rw [e]; grind
    | succ i ih =>
      intro hi
      obtain ⟨z1, hz1, N1, k1⟩ := ih (by omega)
      have i0 : (0 : Rat) ≤ (i : Rat) := by exact_mod_cast Nat.zero_le i
      have i1 : (i : Rat) + 1 ≤ (n : Rat) + 1 := by exact_mod_cast hi
      have p0 := Rat.mul_nonneg i0 (Rat.le_of_lt h0)
      have p1 := Rat.mul_le_mul_of_nonneg_right i1 (Rat.le_of_lt h0)
      have ec : ((i + 1 : Nat) : Rat) = (i : Rat) + 1 := by push_cast; rfl
      have e1 : a + (i : Rat) * h + h = a + ((i + 1 : Nat) : Rat) * h := by rw [ec]; grind
      obtain ⟨z2, hz2, N2, k2⟩ := step (a + (i : Rat) * h) h (by grind) h0 hD2 (by grind)
      rw [e1] at k2
      refine ⟨_, hz1.add hz2, N1 + N2, fun M hM => ?_⟩
      have a1 := k1 M (by omega)
      have a2 := k2 M (by omega)
      rw [ec] at a2 ⊢
      grind
  obtain ⟨z, hz, N, k⟩ := go (n + 1) (Nat.le_refl _)
  have ec : ((n + 1 : Nat) : Rat) = (n : Rat) + 1 := by push_cast; rfl
  have e : a + ((n + 1 : Nat) : Rat) * h = b := by rw [ec]; grind
  rw [e, ec] at k
  refine LeN.of_null hz N fun M hM => ?_
  have k1 := k M hM
  have n1p : (0 : Rat) < (n0 : Rat) + 1 := pos1 n0
  have um : 1 / ((n0 : Rat) + 1) * ((n0 : Rat) + 1) = 1 := rdm n1p
  have u0 : (0 : Rat) < 1 / ((n0 : Rat) + 1) := rdiv_pos (by grind) n1p
  have hb : ((n : Rat) + 1) * (C * (h * h)) ≤ C * ((b - a) * (b - a)) * (1 / ((n0 : Rat) + 1)) := by
    have e2 : ((n : Rat) + 1) * (C * (h * h)) = C * (b - a) * h := by rw [← hmul]; grind
    rw [e2]
    have hu : h ≤ (b - a) * (1 / ((n0 : Rat) + 1)) := by
      refine Rat.le_of_mul_le_mul_right (c := (n0 : Rat) + 1) ?_ n1p
      have e3 : (b - a) * (1 / ((n0 : Rat) + 1)) * ((n0 : Rat) + 1) = (b - a) * (1 / ((n0 : Rat) + 1) * ((n0 : Rat) + 1)) := by grind
      rw [e3, um]
      have := Rat.mul_le_mul_of_nonneg_left nn (Rat.le_of_lt h0)
      grind
    have := Rat.mul_le_mul_of_nonneg_left hu (Rat.mul_nonneg hC (Rat.le_of_lt hlt))
    grind
  grind
end Go.Proofs.Ytgmnknmjainabab.Ex

namespace Go.Proofs.Ytgmnknmjainabab
set_option linter.unusedVariables false
open Ex

theorem Iv.opp {B : Nat} {a : Int × Int} {x : Nat → Rat} (h : Iv B a x) : Iv B (-a.2, -a.1) (fun M => -x M) := by
  have q := Qr_pos B
  intro e he
  obtain ⟨N, hN⟩ := h e he
  refine ⟨N, fun M hM => ?_⟩
  obtain ⟨g1, g2⟩ := hN M hM
  have e1 : ((-a.2 : Int) : Rat) / (Q B : Rat) = -((a.2 : Rat) / (Q B : Rat)) := by rw [Rat.intCast_neg, Rat.div_def, Rat.div_def, Rat.neg_mul]
  have e2 : ((-a.1 : Int) : Rat) / (Q B : Rat) = -((a.1 : Rat) / (Q B : Rat)) := by rw [Rat.intCast_neg, Rat.div_def, Rat.div_def, Rat.neg_mul]
  simp only []
  rw [e1, e2]
  constructor <;> grind
def negI (a : Int × Int) : Int × Int := (-a.2, -a.1)
theorem negI_abs {a : Int × Int} {m : Int} (h : Abs a m) : Abs (negI a) m := by obtain ⟨h1, h2, h3, h4⟩ := h; exact ⟨by simp only [negI]; omega, by simp only [negI]; omega, by simp only [negI]; omega, by simp only [negI]; omega⟩
/-- The numbers of wide.angle's sum. -/
def agT (m : Int) (B : Nat) : Nat → Int × Int
  | 0 => ofI 1 m B
  | n + 1 => negI (scaleI (agT m B n) (2 * (n : Int) + 1) ((2 * (n : Int) + 3) * m * m))
theorem ag_den {m : Int} (hm : 2 ≤ m) (n : Nat) : 0 < (2 * (n : Int) + 3) * m * m ∧ 4 * (2 * (n : Int) + 1) ≤ (2 * (n : Int) + 3) * m * m := by
  have h1 := Int.mul_le_mul hm hm (by omega) (show 0 ≤ m by omega)
  have h2 := Int.mul_le_mul_of_nonneg_left h1 (show 0 ≤ 2 * (n : Int) + 3 by omega)
  have e : (2 * (n : Int) + 3) * m * m = (2 * (n : Int) + 3) * (m * m) := by grind
  rw [e]
  omega
theorem agT_le {m : Int} (hm : 2 ≤ m) (B n : Nat) : (agT m B n).1 ≤ (agT m B n).2 := by
  induction n with
  | zero => exact ofI_le (by omega) B
  | succ n ih =>
    have := scaleI_le ih (ag_den hm n).1 (show 0 ≤ 2 * (n : Int) + 1 by omega)
    simp only [agT, negI]; omega
theorem agT_abs {m : Int} (hm : 2 ≤ m) {B : Nat} (hB : 2 ≤ B) (n : Nat) : Abs (agT m B n) (Q (B - 2 * n)) := by
  induction n with
  | zero =>
    have q := Q_pos B
    have h2 := Int.mul_le_mul_of_nonneg_left hm (show 0 ≤ Q B by omega)
    exact ofI_abs (by omega) B (by have := Q_pos B; simp only [Nat.mul_zero, Nat.sub_zero]; omega) (by simp only [Nat.mul_zero, Nat.sub_zero]; omega)
  | succ n ih =>
    obtain ⟨d0, d1⟩ := ag_den hm n
    have st := Q_step hB n
    have q2 := Q_pos (B - 2)
    have eB : Q B = 4 * Q (B - 2) := by
      have := Q_add 2 (B - 2)
      rw [show 2 + (B - 2) = B by omega] at this
      rw [this]; rfl
    have hq : Q (B - 2 * n) ≤ 4 * Q (B - 2 * (n + 1)) := by
      refine Int.le_of_mul_le_mul_right (a := Q (B - 2)) ?_ (by omega)
      rw [eB] at st
      have e : 4 * Q (B - 2 * (n + 1)) * Q (B - 2) = Q (B - 2 * (n + 1)) * (4 * Q (B - 2)) := by grind
      omega
    have q3 := Q_pos (B - 2 * (n + 1))
    obtain ⟨a1, a2, a3, a4⟩ := ih
    have key : ∀ x : Int, -Q (B - 2 * n) ≤ x → x ≤ Q (B - 2 * n) → -(Q (B - 2 * (n + 1)) * ((2 * (n : Int) + 3) * m * m)) ≤ x * (2 * (n : Int) + 1) ∧ x * (2 * (n : Int) + 1) ≤ Q (B - 2 * (n + 1)) * ((2 * (n : Int) + 3) * m * m) := fun x h1 h2 => by
      have k1 := Int.mul_le_mul_of_nonneg_left d1 (show 0 ≤ Q (B - 2 * (n + 1)) by omega)
      have k2 := Int.mul_le_mul_of_nonneg_right (show x ≤ 4 * Q (B - 2 * (n + 1)) by omega) (show 0 ≤ 2 * (n : Int) + 1 by omega)
      have k3 := Int.mul_le_mul_of_nonneg_right (show -(4 * Q (B - 2 * (n + 1))) ≤ x by omega) (show 0 ≤ 2 * (n : Int) + 1 by omega)
      have e : Q (B - 2 * (n + 1)) * (4 * (2 * (n : Int) + 1)) = 4 * Q (B - 2 * (n + 1)) * (2 * (n : Int) + 1) := by grind
      have e2 : -(4 * Q (B - 2 * (n + 1))) * (2 * (n : Int) + 1) = -(4 * Q (B - 2 * (n + 1)) * (2 * (n : Int) + 1)) := by grind
      constructor <;> omega
    have r1 := round_abs d0 (key _ a1 a2).1 (key _ a1 a2).2
    have r2 := round_abs d0 (key _ a3 a4).1 (key _ a3 a4).2
    exact negI_abs ⟨r1.1, r1.2.1, r2.2.2.1, r2.2.2.2⟩
theorem agT_wide {m : Int} (hm : 2 ≤ m) (B n : Nat) : (agT m B n).2 - (agT m B n).1 ≤ 2 := by
  induction n with
  | zero => have := ofI_wide (n := 1) (show 0 < m by omega) B; simp only [agT]; omega
  | succ n ih =>
    obtain ⟨d0, d1⟩ := ag_den hm n
    have := scaleI_wide (a := agT m B n) (n := 2 * (n : Int) + 1) (d := (2 * (n : Int) + 3) * m * m) (c := 1) d0 (by
      have := Int.mul_le_mul_of_nonneg_right ih (show 0 ≤ 2 * (n : Int) + 1 by omega)
      omega)
    simp only [agT, negI]; omega
/-- The numbers themselves. -/
def agV (m : Int) : Nat → Rat
  | 0 => ((1 : Int) : Rat) / (m : Rat)
  | n + 1 => -(((2 * (n : Int) + 1 : Int) : Rat) / (((2 * (n : Int) + 3) * m * m : Int) : Rat) * agV m n)
theorem agT_has {m : Int} (hm : 2 ≤ m) (B n : Nat) : Iv B (agT m B n) (fun _ => agV m n) := by
  induction n with
  | zero => exact Iv.of B (by omega)
  | succ n ih => exact (ih.scale (show 0 ≤ 2 * (n : Int) + 1 by omega) (ag_den hm n).1).opp
theorem rat_quarter {n d : Int} (hn : 0 ≤ n) (hd : 0 < d) (h : 4 * n ≤ d) : 0 ≤ (n : Rat) / (d : Rat) ∧ (n : Rat) / (d : Rat) ≤ 1 / 4 := by
  have d0 : (0 : Rat) < (d : Rat) := by exact_mod_cast hd
  have n0 : (0 : Rat) ≤ (n : Rat) := by exact_mod_cast hn
  refine ⟨rle_div d0 (by grind), rdiv_le d0 ?_⟩
  have := cast_le h
  rw [Rat.intCast_mul, show ((4 : Int) : Rat) = 4 from rfl] at this
  grind
theorem agV_half {m : Int} (hm : 2 ≤ m) (n : Nat) {b : Rat} (h : AB (agV m n) b) : AB (agV m (n + 1)) (b / 2) := by
  obtain ⟨d0, d1⟩ := ag_den hm n
  obtain ⟨q0, q1⟩ := rat_quarter (show 0 ≤ 2 * (n : Int) + 1 by omega) d0 d1
  have b0 := h.nonneg
  have := (AB.mul (s := ((2 * (n : Int) + 1 : Int) : Rat) / (((2 * (n : Int) + 3) * m * m : Int) : Rat)) (a := 1 / 4) ⟨by grind, q1⟩ h).neg
  exact this.mono (by grind)
def agS (m : Int) (M : Nat) : Rat := S (agV m) M
theorem ag_has {m : Int} (hm : 2 ≤ m) (B N : Nat) : Iv B (doneI (agT m B) N) (agS m) :=
  done_has (g := fun n _ => agV m n) (agT_le hm B) (fun k _ => agT_has hm B k) 0 (fun M _ n b _ hb => agV_half hm n hb)
theorem ag_bound {m : Int} (hm : 2 ≤ m) {B N : Nat} (hB : 2 ≤ B) (hN : IsStop (agT m B) N) :
    (doneI (agT m B) N).1 ≤ (doneI (agT m B) N).2 ∧ Abs (doneI (agT m B) N) (2 * Q B) ∧ N ≤ B / 2 + 1 ∧ (doneI (agT m B) N).2 - (doneI (agT m B) N).1 ≤ (B : Int) + 6 := by
  have hn : N ≤ B / 2 + 1 := by
    obtain ⟨N', n1, n2⟩ := stop_ex (s := 2) (by omega) (agT_abs hm hB)
    refine Nat.le_trans (Nat.not_lt.1 fun hlt => ?_) n1
    have := hN.2 N' hlt
    have := n2.1
    omega
  refine ⟨done_le (agT_le hm B) N, done_abs2 (s := 2) (by omega) (agT_le hm B) (agT_abs hm hB) hN, hn, ?_⟩
  have := done_wide (agT_wide hm B) hN
  omega
theorem ag_stop {m : Int} (hm : 2 ≤ m) {B : Nat} (hB : 2 ≤ B) : ∃ N, IsStop (agT m B) N := by
  obtain ⟨N, _, h⟩ := stop_ex (s := 2) (by omega) (agT_abs hm hB)
  exact ⟨N, h⟩
/-- What wide.pi makes, and of what. -/
def piI (B N N2 : Nat) : Int × Int := subI (timesI (doneI (agT 5 B) N) 16) (timesI (doneI (agT 239 B) N2) 4)
def piS (M : Nat) : Rat := 16 * agS 5 M - 4 * agS 239 M
theorem pi_has (B N N2 : Nat) : Iv B (piI B N N2) piS :=
  Has.of_eq (((ag_has (m := 5) (by omega) B N).times 16).sub ((ag_has (m := 239) (by omega) B N2).times 4)) fun M => by
    show 16 * agS 5 M - 4 * agS 239 M = ((16 : Nat) : Rat) * agS 5 M - ((4 : Nat) : Rat) * agS 239 M
    rfl
theorem pi_ge {M : Nat} (hM : 2 ≤ M) : 3 ≤ piS M := by
  obtain ⟨i, rfl⟩ : ∃ i, M = 2 + i := ⟨M - 2, by omega⟩
  have h5 := (S_rest (g := agV 5) (N := 1) (b := 1 / 375) (by rw [show agV 5 1 = -(1 / 375) by decide +kernel]; constructor <;> grind) (fun n c _ hc => agV_half (by omega) n hc) i).2
  have h9 := (S_rest (g := agV 239) (N := 1) (b := 1 / 1000) (by have e : AB (agV 239 1) (1 / 1000) := by constructor <;> decide +kernel
                                                                 exact e) (fun n c _ hc => agV_half (by omega) n hc) i).2
  have e5 : S (agV 5) (1 + 1) = 1 / 5 - 1 / 375 := by decide +kernel
  have e9 : S (agV 239) (1 + 1) ≤ 1 / 100 := by decide +kernel
  have p := q2_pos i
  rw [e5] at h5
  obtain ⟨a1, a2⟩ := h5
  obtain ⟨b1, b2⟩ := h9
  show 3 ≤ 16 * S (agV 5) (1 + 1 + i) - 4 * S (agV 239) (1 + 1 + i)
  grind
theorem pi_bound {B N N2 : Nat} (hB : 32 ≤ B) (hN : IsStop (agT 5 B) N) (hN2 : IsStop (agT 239 B) N2) : (piI B N N2).1 ≤ (piI B N N2).2 ∧ Q B ≤ (piI B N N2).1 ∧ (piI B N N2).2 ≤ 64 * Q B ∧ (piI B N N2).2 - (piI B N N2).1 ≤ 20 * (B : Int) + 120 := by
  obtain ⟨a1, a2, a3, a4⟩ := ag_bound (m := 5) (by omega) (by omega) hN
  obtain ⟨b1, b2, b3, b4⟩ := ag_bound (m := 239) (by omega) (by omega) hN2
  have hw : (piI B N N2).2 - (piI B N N2).1 ≤ 20 * (B : Int) + 120 := by
    simp only [piI, subI, timesI]; omega
  have hl : (piI B N N2).1 ≤ (piI B N N2).2 := by simp only [piI, subI, timesI]; omega
  have hh : (piI B N N2).2 ≤ 64 * Q B := by
    obtain ⟨_, _, _, c4⟩ := a2
    obtain ⟨d1, _⟩ := b2
    simp only [piI, subI, timesI]; omega
  refine ⟨hl, ?_, hh, hw⟩
  -- the upper end is at least 3
  have q := Qr_pos B
  have h2 : 2 * Q B ≤ (piI B N N2).2 := by
    refine Int.not_lt.1 fun hlt => ?_
    obtain ⟨N0, hh⟩ := pi_has B N N2 (1 / 2) (by grind)
    have h3 := (hh (N0 + 2) (by omega)).2
    have h4 := pi_ge (M := N0 + 2) (by omega)
    have h5 : ((piI B N N2).2 : Rat) / (Q B : Rat) ≤ 2 := rdiv_le q (by
      have := cast_le (show (piI B N N2).2 ≤ 2 * Q B by omega)
      rw [Rat.intCast_mul] at this
      exact this)
    grind
  have hQ : 20 * (B : Int) + 120 ≤ Q B := by
    have hlin : ∀ k : Nat, 20 * ((32 + k : Nat) : Int) + 120 ≤ Q (32 + k) := fun k => by
      induction k with
      | zero => decide
      | succ k ih =>
        have e : Q (32 + (k + 1)) = 2 * Q (32 + k) := rfl
        omega
    have := hlin (B - 32)
    rw [show 32 + (B - 32) = B by omega] at this
    exact this
  omega
end Go.Proofs.Ytgmnknmjainabab

namespace Go.Proofs.Ytgmnknmjainabab.Ex
set_option linter.unusedVariables false

/-- Odd powers over how often they are taken, and even ones. -/
def uT (u : Rat) : Nat → Rat
  | 0 => u
  | n + 1 => (2 * (n : Rat) + 1) / (2 * (n : Rat) + 3) * (u * u) * uT u n
def uD (u : Rat) : Nat → Rat
  | 0 => 1
  | n + 1 => u * u * uD u n
def sg : Nat → Rat
  | 0 => 1
  | n + 1 => -sg n
theorem sg_one (n : Nat) : sg n = 1 ∨ sg n = -1 := by
  induction n with
  | zero => exact Or.inl rfl
  | succ n ih => rcases ih with h | h <;> (show -sg n = 1 ∨ -sg n = -1; rw [h]; grind)
theorem n3_pos (n : Nat) : (0 : Rat) < 2 * (n : Rat) + 3 := by
  have : (0 : Rat) ≤ (n : Rat) := by exact_mod_cast Nat.zero_le n
  grind
theorem uT_succ (u : Rat) (n : Nat) : (2 * (n : Rat) + 3) * uT u (n + 1) = (2 * (n : Rat) + 1) * (u * u) * uT u n := by
  have e := rdm (a := 2 * (n : Rat) + 1) (n3_pos n)
  show (2 * (n : Rat) + 3) * ((2 * (n : Rat) + 1) / (2 * (n : Rat) + 3) * (u * u) * uT u n) = _
  have : (2 * (n : Rat) + 3) * ((2 * (n : Rat) + 1) / (2 * (n : Rat) + 3) * (u * u) * uT u n) = ((2 * (n : Rat) + 1) / (2 * (n : Rat) + 3) * (2 * (n : Rat) + 3)) * (u * u) * uT u n := by grind
  rw [this, e]
theorem uT_mul (u : Rat) (n : Nat) : (2 * (n : Rat) + 1) * uT u n = u * uD u n := by
  induction n with
  | zero => show (2 * ((0 : Nat) : Rat) + 1) * u = u * 1; grind
  | succ n ih =>
    have e : ((n + 1 : Nat) : Rat) = (n : Rat) + 1 := by push_cast; rfl
    have h := uT_succ u n
    show (2 * ((n + 1 : Nat) : Rat) + 1) * uT u (n + 1) = u * (u * u * uD u n)
    rw [e, show 2 * ((n : Rat) + 1) + 1 = 2 * (n : Rat) + 3 by grind, h]
    grind
theorem uD_nonneg (u : Rat) (n : Nat) : 0 ≤ uD u n := by
  induction n with
  | zero => show (0 : Rat) ≤ 1; grind
  | succ n ih => exact Rat.mul_nonneg (sq_nonneg u) ih
theorem uT_nonneg {u : Rat} (h : 0 ≤ u) (n : Nat) : 0 ≤ uT u n := by
  have h1 := uT_mul u n
  have h2 := Rat.mul_nonneg h (uD_nonneg u n)
  have h3 : (0 : Rat) ≤ (n : Rat) := by exact_mod_cast Nat.zero_le n
  refine Rat.le_of_mul_le_mul_left (c := 2 * (n : Rat) + 1) ?_ (by grind)
  grind
theorem uT_grow {u h : Rat} (hu : 0 ≤ u) (hh : 0 ≤ h) (n : Nat) : uT u n + h * uD u n ≤ uT (u + h) n := by
  induction n with
  | zero => show u + h * 1 ≤ u + h; grind
  | succ n ih =>
    have p := n3_pos n
    have n0 : (0 : Rat) ≤ (n : Rat) := by exact_mod_cast Nat.zero_le n
    have e1 := uT_succ u n
    have e2 := uT_succ (u + h) n
    have e3 := uT_mul u n
    have t0 := uT_nonneg hu n
    have d0 := uD_nonneg u n
    have s1 : u * u + 2 * (u * h) ≤ (u + h) * (u + h) := by have := Rat.mul_nonneg hh hh; grind
    have y0 : 0 ≤ (u + h) * (u + h) := sq_nonneg _
    have m1 := Rat.mul_le_mul_of_nonneg_left ih y0
    have u0 : 0 ≤ uT u n + h * uD u n := by have := Rat.mul_nonneg hh d0; grind
    have m2 := Rat.mul_le_mul_of_nonneg_right s1 u0
    have k1 := Rat.mul_nonneg (Rat.mul_nonneg hu hh) (Rat.mul_nonneg hh d0)
    have m3 := Rat.le_trans m2 m1
    have c0 : 0 ≤ 2 * (n : Rat) + 1 := by grind
    have m4 := Rat.mul_le_mul_of_nonneg_left m3 c0
    refine Rat.le_of_mul_le_mul_left (c := 2 * (n : Rat) + 3) ?_ p
    show (2 * (n : Rat) + 3) * (uT u (n + 1) + h * (u * u * uD u n)) ≤ _
    rw [e2]
    have k4 : (2 * (n : Rat) + 3) * (uT u (n + 1) + h * (u * u * uD u n)) = (2 * (n : Rat) + 1) * (u * u) * uT u n + (2 * (n : Rat) + 3) * (h * (u * u * uD u n)) := by rw [← e1]; grind
    rw [k4]
    have k5 : (2 * (n : Rat) + 1) * ((u * u + 2 * (u * h)) * (uT u n + h * uD u n)) = (2 * (n : Rat) + 1) * (u * u) * uT u n + (2 * (n : Rat) + 1) * (h * (u * u * uD u n)) + 2 * (u * h) * ((2 * (n : Rat) + 1) * uT u n) + 2 * ((2 * (n : Rat) + 1) * (u * h * (h * uD u n))) := by grind
    have k6 := Rat.mul_nonneg c0 k1
    rw [k5, e3] at m4
    grind
theorem uT_back {x y : Rat} (hx : 0 ≤ x) (hxy : x ≤ y) (n : Nat) : uT y n ≤ uT x n + (y - x) * uD y n := by
  induction n with
  | zero => show y ≤ x + (y - x) * 1; grind
  | succ n ih =>
    have p := n3_pos n
    have hy : 0 ≤ y := by grind
    have n0 : (0 : Rat) ≤ (n : Rat) := by exact_mod_cast Nat.zero_le n
    have c0 : 0 ≤ 2 * (n : Rat) + 1 := by grind
    have e1 := uT_succ x n
    have e2 := uT_succ y n
    have e3 := uT_mul y n
    have t0 := uT_nonneg hx n
    have d0 := uD_nonneg y n
    obtain ⟨h, hh⟩ : ∃ h, h = y - x := ⟨_, rfl⟩
    have h0 : 0 ≤ h := by grind
    have mono : uT x n ≤ uT y n := by
      have := uT_grow hx h0 n
      have := Rat.mul_nonneg h0 (uD_nonneg x n)
      rw [show x + h = y by grind] at *
      grind
    rw [← hh] at ih ⊢
    have m1 := Rat.mul_le_mul_of_nonneg_left ih (sq_nonneg y)
    have m2 := Rat.mul_le_mul_of_nonneg_left m1 c0
    refine Rat.le_of_mul_le_mul_left (c := 2 * (n : Rat) + 3) ?_ p
    show _ ≤ (2 * (n : Rat) + 3) * (uT x (n + 1) + h * (y * y * uD y n))
    have k4 : (2 * (n : Rat) + 3) * (uT x (n + 1) + h * (y * y * uD y n)) = (2 * (n : Rat) + 1) * (x * x) * uT x n + (2 * (n : Rat) + 3) * (h * (y * y * uD y n)) := by rw [← e1]; grind
    rw [k4, e2]
    -- (y y - x x) T(x) is at most 2 h y T(y)
    have k5 : y * y - x * x ≤ 2 * (h * y) := by
      have := Rat.mul_nonneg h0 h0
      have : y * y - x * x = 2 * (h * y) - h * h := by rw [hh]; grind
      grind
    have k6 := Rat.mul_le_mul_of_nonneg_right k5 t0
    have k7 := Rat.mul_le_mul_of_nonneg_left mono (Rat.mul_nonneg (show (0 : Rat) ≤ 2 by grind) (Rat.mul_nonneg h0 hy))
    have k8 := Rat.mul_le_mul_of_nonneg_left (Rat.le_trans k6 k7) c0
    have k9 : (2 * (n : Rat) + 1) * (2 * (h * y) * uT y n) = 2 * (h * y) * (y * uD y n) := by rw [← e3]; grind
    rw [k9] at k8
    grind
theorem q4_le_q2 (n : Nat) : q4 n ≤ q2 n := by
  induction n with
  | zero => show (1 : Rat) ≤ 1; grind
  | succ n ih =>
    have h1 : q4 (n + 1) = q4 n / 4 := rfl
    have h2 : q2 (n + 1) = q2 n / 2 := rfl
    have := q2_pos n
    have := q4_pos n
    rw [h1, h2]; grind
theorem uD_q4 {u : Rat} (h0 : 0 ≤ u) (h : u ≤ 1 / 2) (n : Nat) : uD u n ≤ q4 n := by
  induction n with
  | zero => show (1 : Rat) ≤ 1; grind
  | succ n ih =>
    have h1 : q4 (n + 1) = q4 n / 4 := rfl
    have q := q4_pos n
    have a1 : u * u ≤ 1 / 4 := by
      have := Rat.mul_le_mul_of_nonneg_left h h0
      grind
    have m1 := Rat.mul_le_mul_of_nonneg_left ih (sq_nonneg u)
    have m2 := Rat.mul_le_mul_of_nonneg_right a1 (Rat.le_of_lt q)
    show u * u * uD u n ≤ _
    rw [h1]; grind
theorem uD_near {u h : Rat} (hu : 0 ≤ u) (hh : 0 ≤ h) (hy : u + h ≤ 1 / 2) (n : Nat) : uD (u + h) n - uD u n ≤ 4 * h * q2 n := by
  induction n with
  | zero => show (1 : Rat) - 1 ≤ 4 * h * 1; grind
  | succ n ih =>
    have h2 : q2 (n + 1) = q2 n / 2 := rfl
    have q := q2_pos n
    have c1 : (u + h) * (u + h) ≤ 1 / 4 := by
      have := Rat.mul_le_mul_of_nonneg_left hy (show 0 ≤ u + h by grind)
      grind
    have c2 : (u + h) * (u + h) - u * u ≤ h := by
      have e : (u + h) * (u + h) - u * u = h * (2 * u + h) := by grind
      have := Rat.mul_le_mul_of_nonneg_left (show 2 * u + h ≤ 1 by grind) hh
      rw [e]; grind
    have d1 := uD_q4 hu (by grind) n
    have d2 := q4_le_q2 n
    have d0 := uD_nonneg u n
    have m1 := Rat.mul_le_mul_of_nonneg_left ih (sq_nonneg (u + h))
    have hq := Rat.mul_nonneg hh (Rat.le_of_lt q)
    have m2 := Rat.mul_le_mul_of_nonneg_right c1 (show 0 ≤ 4 * h * q2 n by grind)
    have m3 := Rat.mul_le_mul_of_nonneg_right c2 d0
    have m4 := Rat.mul_le_mul_of_nonneg_left (Rat.le_trans d1 d2) hh
    show (u + h) * (u + h) * uD (u + h) n - u * u * uD u n ≤ _
    rw [h2]
    have e : (u + h) * (u + h) * uD (u + h) n - u * u * uD u n = (u + h) * (u + h) * (uD (u + h) n - uD u n) + ((u + h) * (u + h) - u * u) * uD u n := by grind
    rw [e]
    grind
/-- The angle whose tangent it is. -/
def aA (u : Rat) (M : Nat) : Rat := S (fun n => sg n * uT u n) M
def aD (u : Rat) (M : Nat) : Rat := S (fun n => sg n * uD u n) M
theorem aD_eq (u : Rat) (M : Nat) : (1 + u * u) * aD u M = 1 - sg M * uD u M := by
  induction M with
  | zero => show (1 + u * u) * 0 = 1 - 1 * 1; grind
  | succ n ih =>
    show (1 + u * u) * (aD u n + sg n * uD u n) = 1 - (-sg n) * (u * u * uD u n)
    grind
theorem aA_lin {u h : Rat} (hu : 0 ≤ u) (hh : 0 ≤ h) (hy : u + h ≤ 1 / 2) (M : Nat) : AB (aA (u + h) M - aA u M - h * aD u M) (8 * (h * h) * (1 - q2 M)) := by
  induction M with
  | zero => show AB (0 - 0 - h * 0) (8 * (h * h) * (1 - 1)); constructor <;> grind
  | succ n ih =>
    have h2 : q2 (n + 1) = q2 n / 2 := rfl
    have g1 := uT_grow hu hh n
    have g2 := uT_back hu (show u ≤ u + h by grind) n
    rw [show u + h - u = h by grind] at g2
    have g3 := Rat.mul_le_mul_of_nonneg_left (uD_near hu hh hy n) hh
    have k : AB (uT (u + h) n - uT u n - h * uD u n) (4 * (h * h) * q2 n) := by
      have q := q2_pos n
      have := Rat.mul_nonneg (Rat.mul_nonneg hh hh) (Rat.le_of_lt q)
      constructor <;> grind
    have k2 : AB (sg n * (uT (u + h) n - uT u n - h * uD u n)) (4 * (h * h) * q2 n) := by
      rcases sg_one n with e | e
      · rw [e]; exact ⟨by have := k.1; grind, by have := k.2; grind⟩
      · rw [e]; exact ⟨by have := k.2; grind, by have := k.1; grind⟩
    have k3 := ih.add k2
    show AB (aA (u + h) n + sg n * uT (u + h) n - (aA u n + sg n * uT u n) - h * (aD u n + sg n * uD u n)) _
    rw [h2]
    have e : aA (u + h) n + sg n * uT (u + h) n - (aA u n + sg n * uT u n) - h * (aD u n + sg n * uD u n) = aA (u + h) n - aA u n - h * aD u n + sg n * (uT (u + h) n - uT u n - h * uD u n) := by grind
    rw [e]
    exact k3.mono (by grind)
/-- How the angle grows: i is 1 over 1 and u^2. -/
theorem aA_step {u h i : Rat} (hu : 0 ≤ u) (hh : 0 ≤ h) (hy : u + h ≤ 1 / 2) (hi : i * (1 + u * u) = 1) (M : Nat) : AB (aA (u + h) M - aA u M - h * i) (8 * (h * h) + h * q4 M) := by
  have k := aA_lin hu hh hy M
  have q := q2_pos M
  have k1 := k.mono (b := 8 * (h * h)) (by
    have := Rat.mul_nonneg (Rat.mul_nonneg hh hh) (Rat.le_of_lt q)
    grind)
  have e := aD_eq u M
  have d := uD_q4 hu (show u ≤ 1 / 2 by grind) M
  have d0 := uD_nonneg u M
  have s0 := sq_nonneg u
  have i0 : 0 ≤ i := by
    refine Rat.not_lt.1 fun hlt => ?_
    have := Rat.mul_nonneg (show 0 ≤ -i by grind) (show 0 ≤ 1 + u * u by grind)
    grind
  have i1 : i ≤ 1 := by have := Rat.mul_nonneg i0 s0; grind
  have e2 : aD u M = i - i * (sg M * uD u M) := by
    have : i * ((1 + u * u) * aD u M) = i * (1 - sg M * uD u M) := by rw [e]
    have : i * (1 + u * u) * aD u M = i * (1 - sg M * uD u M) := by grind
    rw [hi] at this
    grind
  have k2 : AB (h * (i * (sg M * uD u M))) (h * q4 M) := by
    have m1 := Rat.mul_le_mul_of_nonneg_right i1 d0
    have m2 := Rat.mul_nonneg i0 d0
    have m3 := Rat.mul_le_mul_of_nonneg_left (show i * uD u M ≤ q4 M by grind) hh
    have m4 := Rat.mul_nonneg hh m2
    rcases sg_one M with s | s
    · rw [s]; constructor <;> grind
    · rw [s]; constructor <;> grind
  have k3 := k1.add k2.neg
  have e3 : aA (u + h) M - aA u M - h * i = aA (u + h) M - aA u M - h * aD u M + -(h * (i * (sg M * uD u M))) := by rw [e2]; grind
  rw [e3]
  exact k3
theorem inv_ex (a : Rat) (h : 0 < a) : ∃ i, 0 < i ∧ i * a = 1 := ⟨1 / a, rdiv_pos (by grind) h, rdm h⟩
/-- The tangent of a difference of angles. -/
def tD (v x : Rat) : Rat := (x - v) / (1 + x * v)
theorem tD_mul {v x : Rat} (hv : 0 ≤ v) (hx : 0 ≤ x) : tD v x * (1 + x * v) = x - v := rdm (by have := Rat.mul_nonneg hx hv; grind)
theorem tD_step {v x h : Rat} (hv : 0 ≤ v) (hvx : v ≤ x) (hh : 0 ≤ h) : tD v x ≤ tD v (x + h) ∧ tD v (x + h) - tD v x ≤ (1 + v * v) * h ∧
    ∀ i j, i * (1 + x * x) = 1 → j * (1 + tD v x * tD v x) = 1 → AB ((tD v (x + h) - tD v x) * j - h * i) (v * (h * h)) := by
  have hx : 0 ≤ x := by grind
  have e1 := tD_mul hv hx
  have e2 := tD_mul hv (show 0 ≤ x + h by grind)
  generalize tD v x = X at *
  generalize tD v (x + h) = Y at *
  obtain ⟨al, ha⟩ : ∃ al, al = 1 + x * v := ⟨_, rfl⟩
  obtain ⟨be, hb⟩ : ∃ be, be = 1 + (x + h) * v := ⟨_, rfl⟩
  rw [← ha] at e1
  rw [← hb] at e2
  have xv := Rat.mul_nonneg hx hv
  have hvv := Rat.mul_nonneg hh hv
  have a1 : 1 ≤ al := by rw [ha]; grind
  have b1 : 1 ≤ be := by rw [hb]; grind
  have vv := sq_nonneg v
  have k1 : (Y - X) * (al * be) = h * (1 + v * v) := by
    have : (Y - X) * (al * be) = (Y * be) * al - (X * al) * be := by grind
    rw [this, e1, e2, ha, hb]; grind
  have ab0 : 0 < al * be := Rat.mul_pos (by grind) (by grind)
  have ab1 : 1 ≤ al * be := by have := Rat.mul_le_mul_of_nonneg_left b1 (show 0 ≤ al by grind); grind
  have hv1 : 0 ≤ h * (1 + v * v) := Rat.mul_nonneg hh (by grind)
  have k0 : 0 ≤ Y - X := by
    refine Rat.not_lt.1 fun hlt => ?_
    have := Rat.mul_pos (show 0 < -(Y - X) by grind) ab0
    grind
  refine ⟨by grind, ?_, fun i j hi hj => ?_⟩
  · have := Rat.mul_le_mul_of_nonneg_left ab1 k0
    grind
  · have xx := sq_nonneg x
    have XX := sq_nonneg X
    have i0 : 0 ≤ i := by
      refine Rat.not_lt.1 fun hlt => ?_
      have := Rat.mul_nonneg (show 0 ≤ -i by grind) (show 0 ≤ 1 + x * x by grind)
      grind
    have i1 : i ≤ 1 := by have := Rat.mul_nonneg i0 xx; grind
    obtain ⟨E, hE⟩ : ∃ E, E = (Y - X) * j * (1 + x * x) := ⟨_, rfl⟩
    have id1 : (1 + X * X) * (al * al) = (1 + x * x) * (1 + v * v) := by
      have : (1 + X * X) * (al * al) = al * al + (X * al) * (X * al) := by grind
      rw [this, e1, ha]; grind
    have k2 : E * be = h * al := by
      have m : E * be * (al * (1 + v * v)) = h * al * (al * (1 + v * v)) := by
        have f1 : E * be * (al * (1 + v * v)) = ((Y - X) * (al * be)) * j * ((1 + x * x) * (1 + v * v)) := by rw [hE]; grind
        rw [f1, k1, ← id1]
        have f2 : h * (1 + v * v) * j * ((1 + X * X) * (al * al)) = h * (1 + v * v) * (j * (1 + X * X)) * (al * al) := by grind
        rw [f2, hj]; grind
      have c : 0 < al * (1 + v * v) := Rat.mul_pos (by grind) (by grind)
      refine Rat.le_antisymm (Rat.le_of_mul_le_mul_right (by rw [m]; exact Rat.le_refl) c) (Rat.le_of_mul_le_mul_right (by rw [m]; exact Rat.le_refl) c)
    have k3 : (Y - X) * j = E * i := by
      have : E * i = (Y - X) * j * (i * (1 + x * x)) := by rw [hE]; grind
      rw [this, hi]; grind
    have bal : be = al + h * v := by rw [ha, hb]; grind
    -- h - E from 0 to v h h
    have d1 : (h - E) * be = v * (h * h) := by
      have : (h - E) * be = h * be - E * be := by grind
      rw [this, k2, bal]; grind
    have vh := Rat.mul_nonneg hv (Rat.mul_nonneg hh hh)
    have d2 : 0 ≤ h - E := by
      refine Rat.not_lt.1 fun hlt => ?_
      have := Rat.mul_pos (show 0 < -(h - E) by grind) (show 0 < be by grind)
      grind
    have d3 : h - E ≤ v * (h * h) := by
      have := Rat.mul_le_mul_of_nonneg_left b1 d2
      grind
    rw [k3]
    have m1 := Rat.mul_nonneg d2 i0
    have m2 := Rat.mul_le_mul_of_nonneg_left i1 d2
    constructor <;> grind
/-- How the angle whose tangent is that of a difference grows. -/
theorem aA_diff {v x h i : Rat} (hv : 0 ≤ v) (hv2 : v ≤ 1 / 2) (hvx : v ≤ x) (hh : 0 ≤ h) (hy : tD v (x + h) ≤ 1 / 2) (hi : i * (1 + x * x) = 1) (M : Nat) : AB (aA (tD v (x + h)) M - aA (tD v x) M - h * i) (16 * (h * h) + 2 * (h * q4 M)) := by
  obtain ⟨s1, s2, s3⟩ := tD_step hv hvx hh
  have X0 : 0 ≤ tD v x := by
    have e := tD_mul hv (show 0 ≤ x by grind)
    refine Rat.not_lt.1 fun hlt => ?_
    have := Rat.mul_pos (show 0 < -tD v x by grind) (show 0 < 1 + x * v by have := Rat.mul_nonneg (show 0 ≤ x by grind) hv; grind)
    grind
  obtain ⟨j, j0, hj⟩ := inv_ex (1 + tD v x * tD v x) (by have := sq_nonneg (tD v x); grind)
  have s4 := s3 i j hi hj
  obtain ⟨k, hk⟩ : ∃ k, k = tD v (x + h) - tD v x := ⟨_, rfl⟩
  have k0 : 0 ≤ k := by grind
  have ey : tD v (x + h) = tD v x + k := by grind
  rw [← hk] at s2 s4
  have s5 := aA_step (u := tD v x) (h := k) (i := j) X0 k0 (by grind) hj M
  rw [ey]
  have s6 := s5.add s4
  have e : aA (tD v x + k) M - aA (tD v x) M - k * j + (k * j - h * i) = aA (tD v x + k) M - aA (tD v x) M - h * i := by grind
  rw [e] at s6
  refine s6.mono ?_
  have q := q4_pos M
  have vv : v * v ≤ 1 / 4 := by have := Rat.mul_le_mul_of_nonneg_left hv2 hv; grind
  have kh : k ≤ 5 / 4 * h := by
    have := Rat.mul_le_mul_of_nonneg_right vv hh
    grind
  have kk : k * k ≤ 25 / 16 * (h * h) := by
    have a := Rat.mul_le_mul_of_nonneg_left kh k0
    have b := Rat.mul_le_mul_of_nonneg_right kh (show 0 ≤ 5 / 4 * h by grind)
    grind
  have kq := Rat.mul_le_mul_of_nonneg_right kh (Rat.le_of_lt q)
  have hhh := Rat.mul_nonneg hh hh
  have vh := Rat.mul_le_mul_of_nonneg_right hv2 hhh
  have hq := Rat.mul_nonneg hh (Rat.le_of_lt q)
  grind
end Go.Proofs.Ytgmnknmjainabab.Ex

namespace Go.Proofs.Ytgmnknmjainabab.Ex
set_option linter.unusedVariables false

theorem null_q4c (K : Rat) (hK : 0 ≤ K) : Null (fun M => K * q4 M) :=
  Null.of_le (null_q4 K hK) 1 fun M hM => by
    have hm : (1 : Rat) ≤ (M : Rat) := by exact_mod_cast hM
    have q := q4_pos M
    have h1 := Rat.mul_le_mul_of_nonneg_right hm (Rat.le_of_lt q)
    have h2 := Rat.mul_le_mul_of_nonneg_left h1 hK
    have h3 := Rat.mul_nonneg hK (Rat.le_of_lt q)
    constructor <;> grind
theorem aA_zero (M : Nat) : aA 0 M = 0 := by
  have h : ∀ n, uT 0 n = 0 := fun n => by
    induction n with
    | zero => rfl
    | succ n ih => show _ * (0 * 0) * uT 0 n = 0; rw [ih]; grind
  unfold aA
  induction M with
  | zero => rfl
  | succ n ih => show S (fun n => sg n * uT 0 n) n + sg n * uT 0 n = 0; rw [ih, h]; grind
theorem tD_same (v : Rat) : tD v v = 0 := by unfold tD; rw [show v - v = 0 by grind, Rat.div_def]; grind
theorem tD_le {v x : Rat} (hv : 0 ≤ v) (hvx : v ≤ x) : 0 ≤ tD v x ∧ tD v x ≤ x := by
  have e := tD_mul hv (show 0 ≤ x by grind)
  have xv := Rat.mul_nonneg (show 0 ≤ x by grind) hv
  have h0 : 0 ≤ tD v x := by
    refine Rat.not_lt.1 fun hlt => ?_
    have := Rat.mul_pos (show 0 < -tD v x by grind) (show 0 < 1 + x * v by grind)
    grind
  have := Rat.mul_nonneg h0 xv
  exact ⟨h0, by grind⟩
theorem aA_sub {v u : Rat} (hv : 0 ≤ v) (hvu : v ≤ u) (hu : u ≤ 1 / 2) : Null (fun M => aA u M - aA (tD v u) M - aA v M) := by
  have key : ∀ x h, v ≤ x → 0 < h → x + h ≤ u → ∀ M, AB ((aA (x + h) M - aA (tD v (x + h)) M) - (aA x M - aA (tD v x) M)) (24 * (h * h) + 3 * h * q4 M) := fun x h h1 h2 h3 M => by
    obtain ⟨i, i0, hi⟩ := inv_ex (1 + x * x) (by have := sq_nonneg x; grind)
    have a := aA_step (u := x) (h := h) (i := i) (by grind) (Rat.le_of_lt h2) (by grind) hi M
    have b := aA_diff (x := x) (h := h) (i := i) hv (by grind) h1 (Rat.le_of_lt h2) (by have := (tD_le hv (show v ≤ x + h by grind)).2; grind) hi M
    have c := a.add b.neg
    have e : aA (x + h) M - aA x M - h * i + -(aA (tD v (x + h)) M - aA (tD v x) M - h * i) = (aA (x + h) M - aA (tD v (x + h)) M) - (aA x M - aA (tD v x) M) := by grind
    rw [e] at c
    exact c.mono (by grind)
  have d1 := descend (f := fun x M => aA x M - aA (tD v x) M) (C := 24) (D := 1) hvu (by grind) (by grind) (fun x h h1 h2 _ h4 => ⟨_, null_q4c (3 * h) (by grind), 0, fun M _ => by have := (key x h h1 h2 h4 M).2; grind⟩)
  have d2 := descend (f := fun x M => -(aA x M - aA (tD v x) M)) (C := 24) (D := 1) hvu (by grind) (by grind) (fun x h h1 h2 _ h4 => ⟨_, null_q4c (3 * h) (by grind), 0, fun M _ => by have := (key x h h1 h2 h4 M).1; grind⟩)
  intro e he
  obtain ⟨N1, k1⟩ := d1 e he
  obtain ⟨N2, k2⟩ := d2 e he
  refine ⟨N1 + N2, fun M hM => ?_⟩
  have a1 := k1 M (by omega)
  have a2 := k2 M (by omega)
  simp only [tD_same, aA_zero] at a1 a2
  constructor <;> grind
/-- The angle whose tangent is 1, in two ways. -/
theorem machin : Null (fun M => (aA (1 / 2) M + aA (1 / 3) M) - (4 * aA (1 / 5) M - aA (1 / 239) M)) := by
  have d1 := aA_sub (v := 1 / 5) (u := 1 / 2) (by grind) (by grind) (by grind)
  have d2 := aA_sub (v := 1 / 5) (u := 1 / 3) (by grind) (by grind) (by grind)
  have d3 := aA_sub (v := 1 / 5) (u := 3 / 11) (by grind) (by grind) (by grind)
  have d4 := aA_sub (v := 1 / 8) (u := 1 / 5) (by grind) (by grind) (by grind)
  have d5 := aA_sub (v := 2 / 29) (u := 3 / 41) (by grind) (by grind) (by grind)
  rw [show tD (1 / 5) (1 / 2) = 3 / 11 by decide +kernel] at d1
  rw [show tD (1 / 5) (1 / 3) = 1 / 8 by decide +kernel] at d2
  rw [show tD (1 / 5) (3 / 11) = 2 / 29 by decide +kernel] at d3
  rw [show tD (1 / 8) (1 / 5) = 3 / 41 by decide +kernel] at d4
  rw [show tD (2 / 29) (3 / 41) = 1 / 239 by decide +kernel] at d5
  exact ((((d1.add d2).add d3).sub d4).sub d5).of_eq fun M => by grind
theorem aA_ag {m : Int} (hm : 2 ≤ m) (M : Nat) : aA (1 / (m : Rat)) M = agS m M := by
  have m0 : (0 : Rat) < (m : Rat) := by exact_mod_cast (show 0 < m by omega)
  have e : (1 / (m : Rat)) * (m : Rat) = 1 := rdm m0
  have h : ∀ n, sg n * uT (1 / (m : Rat)) n = agV m n := fun n => by
    induction n with
    | zero => show 1 * (1 / (m : Rat)) = ((1 : Int) : Rat) / (m : Rat); rw [Rat.one_mul]; rfl
    | succ n ih =>
      have p := n3_pos n
      show -sg n * ((2 * (n : Rat) + 1) / (2 * (n : Rat) + 3) * ((1 / (m : Rat)) * (1 / (m : Rat))) * uT (1 / (m : Rat)) n) = -(((2 * (n : Int) + 1 : Int) : Rat) / (((2 * (n : Int) + 3) * m * m : Int) : Rat) * agV m n)
      rw [← ih]
      have e1 : ((2 * (n : Int) + 1 : Int) : Rat) = 2 * (n : Rat) + 1 := by rw [Rat.intCast_add, Rat.intCast_mul]; rfl
      have e2 : (((2 * (n : Int) + 3) * m * m : Int) : Rat) = (2 * (n : Rat) + 3) * (m : Rat) * (m : Rat) := by rw [Rat.intCast_mul, Rat.intCast_mul, Rat.intCast_add, Rat.intCast_mul]; rfl
      have key : (2 * (n : Rat) + 1) / (2 * (n : Rat) + 3) * ((1 / (m : Rat)) * (1 / (m : Rat))) = ((2 * (n : Int) + 1 : Int) : Rat) / (((2 * (n : Int) + 3) * m * m : Int) : Rat) := by
        rw [e1, e2]
        have q : (0 : Rat) < (2 * (n : Rat) + 3) * (m : Rat) * (m : Rat) := Rat.mul_pos (Rat.mul_pos p m0) m0
        have r1 := rdm (a := 2 * (n : Rat) + 1) q
        have r2 := rdm (a := 2 * (n : Rat) + 1) p
        have lhs : (2 * (n : Rat) + 1) / (2 * (n : Rat) + 3) * ((1 / (m : Rat)) * (1 / (m : Rat))) * ((2 * (n : Rat) + 3) * (m : Rat) * (m : Rat)) = 2 * (n : Rat) + 1 := by
          have : (2 * (n : Rat) + 1) / (2 * (n : Rat) + 3) * ((1 / (m : Rat)) * (1 / (m : Rat))) * ((2 * (n : Rat) + 3) * (m : Rat) * (m : Rat)) = ((2 * (n : Rat) + 1) / (2 * (n : Rat) + 3) * (2 * (n : Rat) + 3)) * ((1 / (m : Rat) * (m : Rat)) * (1 / (m : Rat) * (m : Rat))) := by grind
          rw [this, r2, e]; grind
        refine Rat.le_antisymm (Rat.le_of_mul_le_mul_right (by rw [lhs, r1]; exact Rat.le_refl) q) (Rat.le_of_mul_le_mul_right (by rw [lhs, r1]; exact Rat.le_refl) q)
      rw [key]
      generalize ((2 * (n : Int) + 1 : Int) : Rat) / (((2 * (n : Int) + 3) * m * m : Int) : Rat) = c
      grind
  exact S_congr M fun i _ => h i
theorem pi_four : Null (fun M => 4 * (aA (1 / 2) M + aA (1 / 3) M) - piS M) := by
  refine (machin.bmul (Bdd.const 4)).of_eq fun M => ?_
  have a := aA_ag (m := 5) (by omega) M
  have b := aA_ag (m := 239) (by omega) M
  rw [show 1 / ((5 : Int) : Rat) = 1 / 5 by decide +kernel] at a
  rw [show 1 / ((239 : Int) : Rat) = 1 / 239 by decide +kernel] at b
  unfold piS
  rw [← a, ← b]
  grind
/-- One over 1 and a square. -/
def rI (x : Rat) : Rat := 1 / (1 + x * x)
theorem rI_mul (x : Rat) : rI x * (1 + x * x) = 1 := rdm (by have := sq_nonneg x; grind)
theorem rI_pos (x : Rat) : 0 < rI x := rdiv_pos (by grind) (by have := sq_nonneg x; grind)
theorem rI_le (x : Rat) : rI x ≤ 1 := by have := rI_mul x; have := Rat.mul_nonneg (Rat.le_of_lt (rI_pos x)) (sq_nonneg x); grind
theorem tD_mono {v x y : Rat} (hv : 0 ≤ v) (hvx : v ≤ x) (hxy : x ≤ y) : tD v x ≤ tD v y := by
  have := (tD_step hv hvx (show 0 ≤ y - x by grind)).1
  rwa [show x + (y - x) = y by grind] at this
theorem sum_le_aA {v x h : Rat} (hv : 0 ≤ v) (hv2 : v ≤ 1 / 2) (hvx : v ≤ x) (hh : 0 ≤ h) (M : Nat) (j : Nat) (hj : tD v (x + (j : Rat) * h) ≤ 1 / 2) :
    S (fun i => h * rI (x + (i : Rat) * h)) j ≤ aA (tD v (x + (j : Rat) * h)) M - aA (tD v x) M + (j : Rat) * (16 * (h * h) + 2 * (h * q4 M)) := by
  induction j with
  | zero =>
    have e : x + ((0 : Nat) : Rat) * h = x := by grind
    rw [e]
    show (0 : Rat) ≤ _
    grind
  | succ j ih =>
    have ec : ((j + 1 : Nat) : Rat) = (j : Rat) + 1 := by push_cast; rfl
    have j0 : (0 : Rat) ≤ (j : Rat) := by exact_mod_cast Nat.zero_le j
    have jh := Rat.mul_nonneg j0 hh
    have e1 : x + ((j + 1 : Nat) : Rat) * h = x + (j : Rat) * h + h := by rw [ec]; grind
    rw [e1] at hj ⊢
    have ih' := ih (Rat.le_trans (tD_mono hv (by grind) (by grind)) hj)
    have st := (aA_diff (x := x + (j : Rat) * h) (i := rI (x + (j : Rat) * h)) hv hv2 (by grind) hh hj (rI_mul _) M).1
    show S (fun i => h * rI (x + (i : Rat) * h)) j + h * rI (x + (j : Rat) * h) ≤ _
    rw [ec]
    grind
theorem S_split (f : Nat → Rat) (a b : Nat) : S f (a + b) = S f a + S (fun i => f (a + i)) b := by
  induction b with
  | zero => show S f a = S f a + 0; grind
  | succ b ih => show S f (a + b) + f (a + b) = S f a + (S (fun i => f (a + i)) b + f (a + b)); rw [ih]; grind
/-- The sum that is nearly the angle whose tangent is 1: not much more than it. -/
theorem sum_angle (n : Nat) {h : Rat} (hh : h * (2 * ((n : Rat) + 1)) = 1) : LeN (fun _ => 4 * S (fun i => h * rI ((i : Rat) * h)) (2 * (n + 1))) (fun M => piS M + 64 * (1 / ((n : Rat) + 1))) := by
  have n0 : (0 : Rat) < (n : Rat) + 1 := pos1 n
  have h0 : 0 < h := by
    refine Rat.not_le.1 fun hle => ?_
    have := Rat.mul_nonneg (show 0 ≤ -h by grind) (show 0 ≤ 2 * ((n : Rat) + 1) by grind)
    grind
  have ec : ((n + 1 : Nat) : Rat) = (n : Rat) + 1 := by push_cast; rfl
  have hm : ((n + 1 : Nat) : Rat) * h = 1 / 2 := by rw [ec]; grind
  have a : ∀ M, S (fun i => h * rI (0 + (i : Rat) * h)) (n + 1) ≤ aA (1 / 2) M + ((n : Rat) + 1) * (16 * (h * h) + 2 * (h * q4 M)) := fun M => by
    have := sum_le_aA (v := 0) (x := 0) (by grind) (by grind) (by grind) (Rat.le_of_lt h0) M (n + 1) (by rw [hm]; decide +kernel)
    rw [hm, show tD 0 (0 + 1 / 2) = 1 / 2 by decide +kernel, show tD 0 0 = 0 by decide +kernel, aA_zero, ec] at this
    grind
  have b : ∀ M, S (fun i => h * rI (1 / 2 + (i : Rat) * h)) (n + 1) ≤ aA (1 / 3) M + ((n : Rat) + 1) * (16 * (h * h) + 2 * (h * q4 M)) := fun M => by
    have := sum_le_aA (v := 1 / 2) (x := 1 / 2) (by grind) (by grind) (by grind) (Rat.le_of_lt h0) M (n + 1) (by rw [hm]; decide +kernel)
    rw [hm, show tD (1 / 2) (1 / 2 + 1 / 2) = 1 / 3 by decide +kernel, show tD (1 / 2) (1 / 2) = 0 by decide +kernel, aA_zero, ec] at this
    grind
  have sp : S (fun i => h * rI ((i : Rat) * h)) (2 * (n + 1)) = S (fun i => h * rI (0 + (i : Rat) * h)) (n + 1) + S (fun i => h * rI (1 / 2 + (i : Rat) * h)) (n + 1) := by
    rw [show 2 * (n + 1) = (n + 1) + (n + 1) by omega, S_split]
    congr 1
    · exact S_congr _ fun i _ => by rw [show 0 + (i : Rat) * h = (i : Rat) * h by grind]
    · refine S_congr _ fun i _ => ?_
      have e : ((n + 1 + i : Nat) : Rat) = ((n + 1 : Nat) : Rat) + (i : Rat) := by push_cast; rfl
      rw [e, show (((n + 1 : Nat) : Rat) + (i : Rat)) * h = ((n + 1 : Nat) : Rat) * h + (i : Rat) * h by grind, hm]
  rw [sp]
  -- (n + 1) h is one half
  have nh : ((n : Rat) + 1) * h = 1 / 2 := by grind
  have hu : h = 1 / 2 * (1 / ((n : Rat) + 1)) := by
    have um : 1 / ((n : Rat) + 1) * ((n : Rat) + 1) = 1 := rdm n0
    have : h * (((n : Rat) + 1) * (1 / ((n : Rat) + 1))) = 1 / 2 * (1 / ((n : Rat) + 1)) := by rw [← nh]; grind
    rw [show ((n : Rat) + 1) * (1 / ((n : Rat) + 1)) = 1 by grind] at this
    grind
  refine LeN.of_null ((pi_four).add (null_q4c 8 (by grind))) 0 fun M _ => ?_
  have a1 := a M
  have b1 := b M
  have e1 : ((n : Rat) + 1) * (16 * (h * h) + 2 * (h * q4 M)) = 16 * (((n : Rat) + 1) * h) * h + 2 * (((n : Rat) + 1) * h) * q4 M := by grind
  rw [e1, nh] at a1 b1
  have u0 : (0 : Rat) < 1 / ((n : Rat) + 1) := rdiv_pos (by grind) n0
  generalize 1 / ((n : Rat) + 1) = u at *
  rw [hu] at a1 b1 ⊢
  generalize S (fun i => 1 / 2 * u * rI (0 + (i : Rat) * (1 / 2 * u))) (n + 1) = s1 at *
  generalize S (fun i => 1 / 2 * u * rI (1 / 2 + (i : Rat) * (1 / 2 * u))) (n + 1) = s2 at *
  grind
end Go.Proofs.Ytgmnknmjainabab.Ex

namespace Go.Proofs.Ytgmnknmjainabab.Ex
set_option linter.unusedVariables false

/-- e to the power of a ratio. -/
def ex (c : Rat) (M : Nat) : Rat := Ev (fun _ => c) M
theorem ex_add (a b : Rat) : Null (fun M => ex a M * ex b M - ex (a + b) M) := Ev_add (Bdd.const a) (Bdd.const b)
theorem ex_bdd (a : Rat) : Bdd (ex a) := Ev_bdd (Bdd.const a)
theorem ex_pos (a : Rat) : ∃ N : Nat, ∀ M, N ≤ M → 0 ≤ ex a M := by
  obtain ⟨c, c0, N, h⟩ := Ev_low (x := fun _ => a) (Bdd.const a)
  exact ⟨N, fun M hM => Rat.le_trans (Rat.le_of_lt c0) (h M hM)⟩
theorem ex_mono {a b : Rat} (h : a ≤ b) : LeN (ex a) (ex b) := by
  obtain ⟨v, hv, N, k⟩ := Ev_mono (x := fun _ => a) (y := fun _ => b) (Bdd.const a) (Bdd.const b) null_zero 0 (fun M _ => by grind)
  exact LeN.of_null hv N k
theorem ex_little {t : Rat} (h0 : 0 ≤ t) (h4 : t ≤ 1 / 4) {M : Nat} (hM : 2 ≤ M) : 0 ≤ ex (-t) M ∧ ex (-t) M ≤ 1 - t + 2 * (t * t) := by
  have := E_little2 (h := -t) (b := t) ⟨by grind, by grind⟩ h4 hM
  have tt : t * t ≤ t * (1 / 4) := Rat.mul_le_mul_of_nonneg_left h4 h0
  show 0 ≤ E (-t) M ∧ E (-t) M ≤ _
  obtain ⟨h1, h2⟩ := this
  constructor <;> grind
theorem ex_step {a t : Rat} (h0 : 0 ≤ t) (h4 : t ≤ 1 / 4) : ∃ z, Null z ∧ ∃ N : Nat, ∀ M, N ≤ M → ex (a + -t) M ≤ ex a M * (1 - t + 2 * (t * t)) + z M := by
  obtain ⟨N, hN⟩ := ex_pos a
  refine ⟨_, (ex_add a (-t)).neg, N + 2, fun M hM => ?_⟩
  have h1 := hN M (by omega)
  have h2 := (ex_little h0 h4 (M := M) (by omega)).2
  have h3 := Rat.mul_le_mul_of_nonneg_left h2 h1
  grind
/-- Backwards: each of the series' numbers lies over its tangent. -/
theorem eT_back {x y : Rat} (hx : 0 ≤ x) (hxy : x ≤ y) (n : Nat) : eT y n ≤ eT x n + (y - x) * eD y n := by
  induction n with
  | zero => show y ≤ x + (y - x) * 1; grind
  | succ n ih =>
    have p := odd_pos n
    have hy : 0 ≤ y := by grind
    have e1 := eT_succ x n
    have e2 := eT_succ y n
    have e3 := eD_mul y n
    have t0 := eT_nonneg hx n
    have mono := eT_mono hx hxy n
    obtain ⟨h, hh⟩ : ∃ h, h = y - x := ⟨_, rfl⟩
    have h0 : 0 ≤ h := by grind
    rw [← hh] at ih ⊢
    have m1 := Rat.mul_le_mul_of_nonneg_left ih (sq_nonneg y)
    refine Rat.le_of_mul_le_mul_left (c := 2 * ((n : Rat) + 1) + 1) ?_ p
    show _ ≤ (2 * ((n : Rat) + 1) + 1) * (eT x (n + 1) + h * (2 * y * eT y n))
    have k4 : (2 * ((n : Rat) + 1) + 1) * (eT x (n + 1) + h * (2 * y * eT y n)) = 2 * (x * x) * eT x n + (2 * ((n : Rat) + 1) + 1) * (h * (2 * y * eT y n)) := by rw [← e1]; grind
    rw [k4, e2]
    have k5 : y * y - x * x ≤ 2 * (h * y) := by
      have := Rat.mul_nonneg h0 h0
      have : y * y - x * x = 2 * (h * y) - h * h := by rw [hh]; grind
      grind
    have k6 := Rat.mul_le_mul_of_nonneg_right k5 t0
    have k7 := Rat.mul_le_mul_of_nonneg_left mono (Rat.mul_nonneg (show (0 : Rat) ≤ 2 by grind) (Rat.mul_nonneg h0 hy))
    have k8 := Rat.le_trans k6 k7
    have k9 : y * y * (h * eD y n) = h * y * ((2 * (n : Rat) + 1) * eT y n) := by rw [← e3]; grind
    have k10 : y * y * (eT x n + h * eD y n) = y * y * eT x n + y * y * (h * eD y n) := by grind
    rw [k10, k9] at m1
    grind
theorem eS_up (x : Rat) (hx : 0 ≤ x) (M : Nat) : eS x M ≤ eS x (M + 1) := by have := eT_nonneg hx M; show eS x M ≤ eS x M + eT x M; grind
theorem eS_back {x y : Rat} (hx : 0 ≤ x) (hxy : x ≤ y) (M : Nat) : eS y M ≤ eS x M + (y - x) * (1 + 2 * y * eS y M) := by
  have hy : 0 ≤ y := by grind
  have key : ∀ m, eS y (m + 1) ≤ eS x (m + 1) + (y - x) * (1 + 2 * y * eS y m) := fun m => by
    induction m with
    | zero => show 0 + y ≤ 0 + x + (y - x) * (1 + 2 * y * 0); grind
    | succ n ih =>
      have g := eT_back hx hxy (n + 1)
      have e : eD y (n + 1) = 2 * y * eT y n := rfl
      rw [e] at g
      show eS y (n + 1) + eT y (n + 1) ≤ eS x (n + 1) + eT x (n + 1) + (y - x) * (1 + 2 * y * (eS y n + eT y n))
      grind
  cases M with
  | zero => show (0 : Rat) ≤ 0 + (y - x) * (1 + 2 * y * 0); grind
  | succ m =>
    have h1 := key m
    have h2 := eS_up y hy m
    have h3 := Rat.mul_le_mul_of_nonneg_left h2 (Rat.mul_nonneg (show 0 ≤ y - x by grind) (show 0 ≤ 2 * y by grind))
    grind
/-- The bounds for what lies up to Y. -/
structure Bnd (Y K V : Rat) : Prop where
  y0 : 0 ≤ Y
  k0 : 0 ≤ K
  v1 : 1 ≤ V
  s : ∀ x, 0 ≤ x → x ≤ Y → ∀ M, eS x M ≤ K
  v : ∀ c, 0 ≤ c → c ≤ 2 * (Y * Y) → ∀ M, ex (-c) M ≤ V
theorem bnd_ex {Y : Rat} (hY : 0 ≤ Y) : ∃ K V, Bnd Y K V := by
  obtain ⟨K, k0, hK⟩ := eS_bdd hY
  obtain ⟨V, v0, hV⟩ := E_bound (2 * (Y * Y))
  have yy := Rat.mul_nonneg hY hY
  exact ⟨K, V + 1, hY, k0, by grind, fun x h0 h1 M => Rat.le_trans (eS_mono h0 h1 M) (hK M), fun c h0 h1 M => by
    have := (hV M (-c) ⟨by grind, by grind⟩).2
    show E (-c) M ≤ _
    grind⟩
theorem eF_ex (x : Rat) (M : Nat) : eF x M = eS x M * ex (-(x * x)) M := rfl
theorem up_key {s s' h x Y K L C1 : Rat} (hx : 0 ≤ x) (hh : 0 < h) (hY : x + h ≤ Y) (s0 : 0 ≤ s) (sK : s ≤ K) (sK' : s' ≤ K) (s'0 : 0 ≤ s') (hL : L = 1 + 2 * (Y * K)) (hC : C1 = 2 * K + 2 * (Y * L)) (hb : s' ≤ s + h * (1 + 2 * (x + h) * s')) : s' ≤ s + h + 2 * (x * h) * s + C1 * (h * h) := by
  have K0 : 0 ≤ K := by grind
  have Y0 : 0 ≤ Y := by grind
  have a1 : (x + h) * s' ≤ Y * K := Rat.le_trans (Rat.mul_le_mul_of_nonneg_right hY s'0) (Rat.mul_le_mul_of_nonneg_left sK' Y0)
  have a2 : s' ≤ s + h * L := by
    have := Rat.mul_le_mul_of_nonneg_left (show 1 + 2 * (x + h) * s' ≤ L by grind) (Rat.le_of_lt hh)
    grind
  have L0 : 0 ≤ L := by have := Rat.mul_nonneg Y0 K0; grind
  have a3 := Rat.mul_le_mul_of_nonneg_left a2 (show 0 ≤ 2 * (x + h) by grind)
  have a4 := Rat.mul_le_mul_of_nonneg_left (show 1 + 2 * (x + h) * s' ≤ 1 + 2 * (x + h) * (s + h * L) by grind) (Rat.le_of_lt hh)
  have a5 := Rat.mul_le_mul_of_nonneg_right hY (Rat.mul_nonneg (Rat.le_of_lt hh) L0)
  have a6 := Rat.mul_le_mul_of_nonneg_left a5 (show 0 ≤ 2 * h by grind)
  have a7 := Rat.mul_le_mul_of_nonneg_left sK (Rat.mul_nonneg (Rat.le_of_lt hh) (Rat.le_of_lt hh))
  rw [hC]
  grind
theorem up_key2 {s s' h x Y K C1 C2 A t q : Rat} (hx : 0 ≤ x) (hh : 0 < h) (h1 : h ≤ 1) (hY : x + h ≤ Y) (s0 : 0 ≤ s) (sK : s ≤ K) (c1 : 0 ≤ C1) (hA : A = 2 * Y + 1) (hC2 : C2 = 2 * (A * A)) (ht : t = h * (2 * x + h)) (q0 : 0 ≤ q) (hq : q ≤ 1 - t + 2 * (t * t)) (hs : s' ≤ s + h + 2 * (x * h) * s + C1 * (h * h)) : s' * q ≤ s + h + (C1 + C2 * (K + 1 + 2 * (Y * K) + C1)) * (h * h) := by
  have K0 : 0 ≤ K := by grind
  have Y0 : 0 ≤ Y := by grind
  have h0 := Rat.le_of_lt hh
  have hhh := Rat.mul_nonneg h0 h0
  have a0 : 0 ≤ 2 * x + h := by grind
  have aA : 2 * x + h ≤ A := by grind
  have A0 : 0 ≤ A := by grind
  have aa : (2 * x + h) * (2 * x + h) ≤ A * A := Rat.le_trans (Rat.mul_le_mul_of_nonneg_left aA a0) (Rat.mul_le_mul_of_nonneg_right aA A0)
  have tt : t * t ≤ A * A * (h * h) := by
    have := Rat.mul_le_mul_of_nonneg_right aa hhh
    rw [ht]; grind
  have hq2 : q ≤ 1 - 2 * (x * h) + C2 * (h * h) := by
    have : t = 2 * (x * h) + h * h := by rw [ht]; grind
    rw [hC2]; grind
  have C20 : 0 ≤ C2 := by rw [hC2]; have := Rat.mul_nonneg A0 A0; grind
  obtain ⟨p, hp⟩ : ∃ p, p = s + h + 2 * (x * h) * s + C1 * (h * h) := ⟨_, rfl⟩
  have xh := Rat.mul_nonneg hx h0
  have xhs := Rat.mul_nonneg xh s0
  have p0 : 0 ≤ p := by rw [hp]; have := Rat.mul_nonneg c1 hhh; grind
  have m1 := Rat.mul_le_mul_of_nonneg_right (show s' ≤ p by grind) q0
  have m2 := Rat.mul_le_mul_of_nonneg_left hq2 p0
  refine Rat.le_trans m1 (Rat.le_trans m2 ?_)
  -- p (1 - 2 x h) is at most s + h + C1 h h
  have b1 : p * (1 - 2 * (x * h)) ≤ s + h + C1 * (h * h) := by
    have n1 := Rat.mul_nonneg xh h0
    have n2 := Rat.mul_nonneg xh xhs
    have n3 := Rat.mul_nonneg xh (Rat.mul_nonneg c1 hhh)
    rw [hp]; grind
  have b2 : p ≤ K + 1 + 2 * (Y * K) + C1 := by
    have n1 : x * h ≤ Y := by have := Rat.mul_le_mul_of_nonneg_left h1 hx; grind
    have n2 := Rat.mul_le_mul_of_nonneg_right n1 s0
    have n3 := Rat.mul_le_mul_of_nonneg_left sK Y0
    have n4 : h * h ≤ 1 := by have := Rat.mul_le_mul_of_nonneg_left h1 h0; grind
    have n5 := Rat.mul_le_mul_of_nonneg_left n4 c1
    rw [hp]; grind
  have b3 := Rat.mul_le_mul_of_nonneg_right b2 (Rat.mul_nonneg C20 hhh)
  grind
/-- How the error function grows: at most by e to the power of -x^2, for each small step. -/
theorem eF_up {Y K V : Rat} (B : Bnd Y K V) : ∃ C D, 0 ≤ C ∧ 0 < D ∧ D ≤ 1 ∧ ∀ x h, 0 ≤ x → 0 < h → h ≤ D → x + h ≤ Y → ∃ z, Null z ∧ ∃ N : Nat, ∀ M, N ≤ M → eF (x + h) M ≤ eF x M + h * ex (-(x * x)) M + C * (h * h) + z M := by
  obtain ⟨L, hL⟩ : ∃ L, L = 1 + 2 * (Y * K) := ⟨_, rfl⟩
  obtain ⟨C1, hC1⟩ : ∃ C1, C1 = 2 * K + 2 * (Y * L) := ⟨_, rfl⟩
  obtain ⟨A, hA⟩ : ∃ A, A = 2 * Y + 1 := ⟨_, rfl⟩
  obtain ⟨C2, hC2⟩ : ∃ C2, C2 = 2 * (A * A) := ⟨_, rfl⟩
  obtain ⟨C3, hC3⟩ : ∃ C3, C3 = C1 + C2 * (K + 1 + 2 * (Y * K) + C1) := ⟨_, rfl⟩
  have y0 := B.y0
  have k0 := B.k0
  have v1 := B.v1
  have yk := Rat.mul_nonneg y0 k0
  have L0 : 0 ≤ L := by grind
  have yl := Rat.mul_nonneg y0 L0
  have C10 : 0 ≤ C1 := by grind
  have A0 : 0 ≤ A := by grind
  have A1 : 1 ≤ A := by grind
  have C20 : 0 ≤ C2 := by rw [hC2]; have := Rat.mul_nonneg A0 A0; grind
  have C30 : 0 ≤ C3 := by rw [hC3]; have := Rat.mul_nonneg C20 (show 0 ≤ K + 1 + 2 * (Y * K) + C1 by grind); grind
  have A4 : 0 < 4 * A := by grind
  have dm : 1 / (4 * A) * (4 * A) = 1 := rdm A4
  have d0 : 0 < 1 / (4 * A) := rdiv_pos (by grind) A4
  refine ⟨C3 * V, 1 / (4 * A), Rat.mul_nonneg C30 (by grind), d0, rdiv_le A4 (by grind), fun x h hx hh hD hY => ?_⟩
  have h1 : h ≤ 1 := Rat.le_trans hD (rdiv_le A4 (by grind))
  have hA4 : h * A ≤ 1 / 4 := by have := Rat.mul_le_mul_of_nonneg_right hD A0; grind
  obtain ⟨t, ht⟩ : ∃ t, t = h * (2 * x + h) := ⟨_, rfl⟩
  have h0 := Rat.le_of_lt hh
  have t0 : 0 ≤ t := by rw [ht]; exact Rat.mul_nonneg h0 (by grind)
  have t4 : t ≤ 1 / 4 := by
    have := Rat.mul_le_mul_of_nonneg_left (show 2 * x + h ≤ A by grind) h0
    rw [ht]; grind
  have sqe : -((x + h) * (x + h)) = -(x * x) + -t := by rw [ht]; grind
  have eb : Bdd (eS (x + h)) := Bdd.of_le K 0 fun M _ => ⟨by have := eS_nonneg (x := x + h) (by grind) M; grind, B.s _ (by grind) hY M⟩
  have hz := ((ex_add (-(x * x)) (-t)).neg).bmul eb
  obtain ⟨N, hN⟩ := ex_pos (-(x * x))
  refine ⟨_, hz, N + 2, fun M hM => ?_⟩
  have v0 := hN M (by omega)
  have vV : ex (-(x * x)) M ≤ V := B.v _ (sq_nonneg x) (by
    have xx : x * x ≤ Y * Y := Rat.le_trans (Rat.mul_le_mul_of_nonneg_left (show x ≤ Y by grind) hx) (Rat.mul_le_mul_of_nonneg_right (show x ≤ Y by grind) y0)
    have := Rat.mul_nonneg y0 y0
    grind) M
  have q := ex_little t0 t4 (M := M) (by omega)
  have sb := eS_back hx (show x ≤ x + h by grind) M
  rw [show x + h - x = h by grind] at sb
  have s1 := up_key (Y := Y) (K := K) (L := L) (C1 := C1) hx hh hY (eS_nonneg hx M) (B.s x hx (by grind) M) (B.s _ (by grind) hY M) (eS_nonneg (by grind) M) hL hC1 sb
  have s2 := up_key2 (q := ex (-t) M) (A := A) (C2 := C2) hx hh h1 hY (eS_nonneg hx M) (B.s x hx (by grind) M) C10 hA hC2 ht q.1 q.2 s1
  rw [← hC3] at s2
  have s3 := Rat.mul_le_mul_of_nonneg_right s2 v0
  have hhh := Rat.mul_nonneg h0 h0
  have s4 := Rat.mul_le_mul_of_nonneg_left vV (Rat.mul_nonneg C30 hhh)
  rw [eF_ex, eF_ex, sqe]
  generalize ex (-(x * x)) M = v at *
  generalize ex (-t) M = q at *
  generalize ex (-(x * x) + -t) M = vt at *
  generalize eS (x + h) M = s' at *
  generalize eS x M = s at *
  clear hz eb sb s1
  grind
end Go.Proofs.Ytgmnknmjainabab.Ex
