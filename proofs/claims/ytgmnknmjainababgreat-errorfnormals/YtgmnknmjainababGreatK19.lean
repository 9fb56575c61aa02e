/-
  What the error function lacks of 1 is at most e to the power of the opposite of the square. Plain arithmetic: no statement of the seat is proved here.
  What the error function lacks of 1, the end of it. Plain arithmetic: no statement of the seat is proved here.
  The reference's way to the error function: the numbers of tailsureref.lowErf, where they end, what they have. Plain arithmetic: no statement of the seat is proved here.
  Where tailsureref.lowErf's numbers end, and how great they are. Plain arithmetic: no statement of the seat is proved here.
  What tailsureref.RootDown answers of a right number that is not below 0, and that it leaves old memory alone.
-/
import Derived.Test.YtgmnknmjainababGreatK18
namespace Go.Proofs.YtgmnknmjainababGreat.Ex
set_option linter.unusedVariables false

/-- From a to b the error function grows at least as fast as at b. -/
theorem eF_chord2 {Y K V a b : Rat} (B : Bnd Y K V) (ha : 0 ≤ a) (hab : a ≤ b) (hb : b ≤ Y) : LeN (fun M => eF a M + (b - a) * ex (-(b * b)) M) (eF b) := by
  obtain ⟨C, D, c0, d0, _, dn⟩ := eF_dn B
  have d := descend (f := fun x M => (x - a) * ex (-(b * b)) M - eF x M) (a := a) (b := b) (C := C) (D := D) hab c0 d0 (fun x h h1 h2 h3 h4 => by
    obtain ⟨z, hz, N, k⟩ := dn x h (by grind) h2 h3 (by grind)
    have xx : -(b * b) ≤ -(x * x) := by
      have := Rat.mul_le_mul_of_nonneg_left (show x ≤ b by grind) (show 0 ≤ x by grind)
      have := Rat.mul_le_mul_of_nonneg_right (show x ≤ b by grind) (show 0 ≤ b by grind)
      grind
    obtain ⟨z2, hz2, k2⟩ := ((ex_mono xx).scale (Rat.le_of_lt h2)).null
    exact ⟨_, hz.add hz2, N, fun M hM => by have := k M hM; have := k2 M; grind⟩)
  intro e he
  obtain ⟨N, k⟩ := d e he
  exact ⟨N, fun M hM => by have : (b - a) * ex (-(b * b)) M - eF b M ≤ (a - a) * ex (-(b * b)) M - eF a M + e := k M hM; grind⟩
theorem eF_right {Y K V x h : Rat} (B : Bnd Y K V) (hx : 0 ≤ x) (hh : 0 ≤ h) (j : Nat) (hj : (j : Rat) * h * x ≤ Y) : LeN (fun M => S (fun i => x * h * ex (-((((i + 1 : Nat) : Rat) * h * x) * (((i + 1 : Nat) : Rat) * h * x))) M) j) (eF ((j : Rat) * h * x)) := by
  induction j with
  | zero =>
    refine LeN.of_le 0 fun M _ => ?_
    rw [show ((0 : Nat) : Rat) * h * x = 0 by grind, eF_zero]
    show (0 : Rat) ≤ 0
    grind
  | succ j ih =>
    have ec : ((j + 1 : Nat) : Rat) = (j : Rat) + 1 := by push_cast; rfl
    have j0 : (0 : Rat) ≤ (j : Rat) := by exact_mod_cast Nat.zero_le j
    have hx0 := Rat.mul_nonneg hh hx
    have jh := Rat.mul_nonneg (Rat.mul_nonneg j0 hh) hx
    have hj' : ((j : Rat) + 1) * h * x ≤ Y := by rw [ec] at hj; exact hj
    have e : ((j : Rat) + 1) * h * x = (j : Rat) * h * x + h * x := by grind
    have ih' := ih (by grind)
    have c := eF_chord2 B jh (show (j : Rat) * h * x ≤ ((j + 1 : Nat) : Rat) * h * x by rw [ec]; grind) hj
    refine LeN.trans ?_ c
    have := ih'.add (LeN.refl (fun M => (((j + 1 : Nat) : Rat) * h * x - (j : Rat) * h * x) * ex (-((((j + 1 : Nat) : Rat) * h * x) * (((j + 1 : Nat) : Rat) * h * x))) M))
    refine LeN.trans (LeN.of_le 0 fun M _ => ?_) this
    show S (fun i => x * h * ex (-((((i + 1 : Nat) : Rat) * h * x) * (((i + 1 : Nat) : Rat) * h * x))) M) j + x * h * ex (-((((j + 1 : Nat) : Rat) * h * x) * (((j + 1 : Nat) : Rat) * h * x))) M ≤ S (fun i => x * h * ex (-((((i + 1 : Nat) : Rat) * h * x) * (((i + 1 : Nat) : Rat) * h * x))) M) j + (((j + 1 : Nat) : Rat) * h * x - (j : Rat) * h * x) * ex (-((((j + 1 : Nat) : Rat) * h * x) * (((j + 1 : Nat) : Rat) * h * x))) M
    have e9 : ((j + 1 : Nat) : Rat) * h * x - (j : Rat) * h * x = x * h := by rw [ec]; grind
    rw [e9]
    exact Rat.le_refl
theorem S_shift (f : Nat → Rat) (n : Nat) : S f n + f n = f 0 + S (fun i => f (i + 1)) n := by
  have := S_first f n
  exact this
theorem gE_le {Y K V x h : Rat} (B : Bnd Y K V) (hx : 0 ≤ x) (hxY : x ≤ Y) (hh : 0 ≤ h) (n : Nat) (hn : (n : Rat) * h = 1) : LeN (fun M => x * gE h x n M) (fun M => eF x M + x * h) := by
  have r := eF_right (x := x) B hx hh n (by rw [hn]; grind)
  rw [hn, show 1 * x = x by grind] at r
  obtain ⟨z, hz, k⟩ := r.null
  obtain ⟨N, pos⟩ := ex_pos (-(((n : Rat) * h * x) * ((n : Rat) * h * x)))
  refine LeN.of_null hz (N + 1) fun M hM => ?_
  have a := k M
  have p := pos M (by omega)
  have e0 : ex (-((((0 : Nat) : Rat) * h * x) * (((0 : Nat) : Rat) * h * x))) M = 1 := by
    have : -((((0 : Nat) : Rat) * h * x) * (((0 : Nat) : Rat) * h * x)) = 0 := by grind
    rw [this]
    obtain ⟨m, rfl⟩ : ∃ m, M = m + 1 := ⟨M - 1, by omega⟩
    exact E_zero m
  have s := S_shift (fun i => x * h * ex (-(((i : Rat) * h * x) * ((i : Rat) * h * x))) M) n
  rw [gE_mul] at s
  rw [e0] at s
  have xh := Rat.mul_nonneg (Rat.mul_nonneg hx hh) p
  grind
theorem part_dn {Y K V x k s : Rat} (B : Bnd Y K V) (hx : 0 ≤ x) (hk : 0 < k) (k1 : k ≤ 1) (hY : x + k ≤ Y) (hs : 0 ≤ s) (hs1 : s ≤ 1) (hD : 8 * (k * (2 * Y + 1)) ≤ 1) :
    ∃ z, Null z ∧ ∃ N : Nat, ∀ M, N ≤ M → rI s * ex (-(x * x * (1 + s * s))) M - 2 * (x * k) * (ex (-(x * x)) M * ex (-((s * x) * (s * x))) M) ≤ rI s * ex (-((x + k) * (x + k) * (1 + s * s))) M + (1 + 8 * ((2 * Y + 1) * (2 * Y + 1))) * V * (k * k) + z M := by
  obtain ⟨c, hc⟩ : ∃ c, c = 1 + s * s := ⟨_, rfl⟩
  have k0 := Rat.le_of_lt hk
  have y0 := B.y0
  have ss : s * s ≤ 1 := by have := Rat.mul_le_mul_of_nonneg_left hs1 hs; grind
  have ss0 := sq_nonneg s
  have rc : rI s * c = 1 := by rw [hc]; exact rI_mul s
  have r0 := Rat.le_of_lt (rI_pos s)
  have r1 := rI_le s
  obtain ⟨t, ht⟩ : ∃ t, t = k * (2 * x + k) * c := ⟨_, rfl⟩
  obtain ⟨A, hA⟩ : ∃ A, A = 2 * Y + 1 := ⟨_, rfl⟩
  have A0 : 0 ≤ A := by grind
  have aA : 2 * x + k ≤ A := by grind
  have ka : k * (2 * x + k) ≤ k * A := Rat.mul_le_mul_of_nonneg_left aA k0
  have ka0 : 0 ≤ k * (2 * x + k) := Rat.mul_nonneg k0 (by grind)
  have t0 : 0 ≤ t := by rw [ht]; exact Rat.mul_nonneg ka0 (by grind)
  have t2 : t ≤ 2 * (k * A) := by
    have a := Rat.mul_le_mul_of_nonneg_left (show c ≤ 2 by grind) ka0
    rw [ht]; grind
  have t4 : t ≤ 1 / 4 := by rw [← hA] at hD; grind
  have hadd := ex_add (-(x * x)) (-((s * x) * (s * x)))
  have hadd2 := ex_add (-(x * x * c)) (-t)
  obtain ⟨N2, h2⟩ := ex_pos (-(x * x * c))
  refine ⟨_, (hadd.bmul (Bdd.const (-(2 * (x * k))))).add (hadd2.bmul (Bdd.const (rI s))), N2 + 2, fun M hM => ?_⟩
  have v0 := h2 M (by omega)
  have vV : ex (-(x * x * c)) M ≤ V := B.v _ (Rat.mul_nonneg (sq_nonneg x) (by grind)) (by
    have xx : x * x ≤ Y * Y := Rat.le_trans (Rat.mul_le_mul_of_nonneg_left (show x ≤ Y by grind) hx) (Rat.mul_le_mul_of_nonneg_right (show x ≤ Y by grind) y0)
    have p1 := Rat.mul_le_mul_of_nonneg_left (show c ≤ 2 by grind) (sq_nonneg x)
    grind) M
  have qlo : 1 - t - 2 * (t * t) ≤ ex (-t) M := by
    have := (E_little2 (h := -t) (b := t) ⟨by grind, by grind⟩ t4 (M := M) (by omega)).1
    show _ ≤ E (-t) M
    grind
  have e1 : -((x + k) * (x + k) * c) = -(x * x * c) + -t := by rw [ht]; grind
  have e2 : -(x * x) + -((s * x) * (s * x)) = -(x * x * c) := by rw [hc]; grind
  rw [← hc, e1]
  rw [e2]
  have tt : t * t ≤ 4 * (A * A) * (k * k) := by
    have p1 := Rat.mul_le_mul_of_nonneg_left t2 t0
    have p2 := Rat.mul_le_mul_of_nonneg_right t2 (show 0 ≤ 2 * (k * A) by have := Rat.mul_nonneg k0 A0; grind)
    grind
  have rt : rI s * t = 2 * (x * k) + k * k := by
    have : rI s * t = k * (2 * x + k) * (rI s * c) := by rw [ht]; grind
    rw [this, rc]; grind
  have m1 := Rat.mul_le_mul_of_nonneg_left qlo (Rat.mul_nonneg r0 v0)
  have tt0 := sq_nonneg t
  have m3 := Rat.mul_le_mul_of_nonneg_right r1 tt0
  have m4 := Rat.mul_le_mul_of_nonneg_right (show 2 * (rI s * (t * t)) ≤ 8 * (A * A) * (k * k) by grind) v0
  have AA := Rat.mul_nonneg (Rat.mul_nonneg A0 A0) (Rat.mul_nonneg k0 k0)
  have kk := Rat.mul_nonneg k0 k0
  have m5 := Rat.mul_le_mul_of_nonneg_left vV (show 0 ≤ k * k + 8 * (A * A * (k * k)) by grind)
  rw [← hA]
  generalize ex (-(x * x * c)) M = v at *
  generalize ex (-(x * x * c) + -t) M = vt at *
  generalize ex (-t) M = q at *
  generalize ex (-(x * x)) M * ex (-((s * x) * (s * x))) M = w at *
  clear hadd hadd2 h2
  have f1 : rI s * v * (1 - t - 2 * (t * t)) = rI s * v - (rI s * t) * v - 2 * (rI s * (t * t)) * v := by grind
  rw [f1, rt] at m1
  grind
theorem gG_dn {Y K V x k h : Rat} (B : Bnd Y K V) (hx : 0 ≤ x) (hk : 0 < k) (k1 : k ≤ 1) (hY : x + k ≤ Y) (hh : 0 ≤ h) (hD : 8 * (k * (2 * Y + 1)) ≤ 1) (n : Nat) (hn : (n : Rat) * h ≤ 1) :
    ∃ z, Null z ∧ ∃ N : Nat, ∀ M, N ≤ M → gG h x n M - 2 * (x * k) * (ex (-(x * x)) M * gE h x n M) ≤ gG h (x + k) n M + (n : Rat) * h * ((1 + 8 * ((2 * Y + 1) * (2 * Y + 1))) * V * (k * k)) + z M := by
  induction n with
  | zero =>
    refine ⟨_, null_zero, 0, fun M _ => ?_⟩
    show 0 - 2 * (x * k) * (ex (-(x * x)) M * 0) ≤ 0 + ((0 : Nat) : Rat) * h * _ + 0
    grind
  | succ n ih =>
    have ec : ((n + 1 : Nat) : Rat) = (n : Rat) + 1 := by push_cast; rfl
    have n0 : (0 : Rat) ≤ (n : Rat) := by exact_mod_cast Nat.zero_le n
    rw [ec] at hn
    obtain ⟨z1, hz1, N1, h1⟩ := ih (by grind)
    obtain ⟨z2, hz2, N2, h2⟩ := part_dn B hx hk k1 hY (s := (n : Rat) * h) (Rat.mul_nonneg n0 hh) (by grind) hD
    refine ⟨_, hz1.add (hz2.bmul (Bdd.const h)), N1 + N2, fun M hM => ?_⟩
    have a1 := h1 M (by omega)
    have a2 := Rat.mul_le_mul_of_nonneg_left (h2 M (by omega)) hh
    show gG h x n M + h * rI ((n : Rat) * h) * ex (-(x * x * (1 + ((n : Rat) * h) * ((n : Rat) * h)))) M - 2 * (x * k) * (ex (-(x * x)) M * (gE h x n M + h * ex (-(((n : Rat) * h * x) * ((n : Rat) * h * x))) M)) ≤ gG h (x + k) n M + h * rI ((n : Rat) * h) * ex (-((x + k) * (x + k) * (1 + ((n : Rat) * h) * ((n : Rat) * h)))) M + ((n + 1 : Nat) : Rat) * h * ((1 + 8 * ((2 * Y + 1) * (2 * Y + 1))) * V * (k * k)) + _
    rw [ec]
    grind
theorem gG_le {h x : Rat} (hh : 0 ≤ h) (n : Nat) : LeN (gG h x n) (fun M => ex (-(x * x)) M * S (fun i => h * rI ((i : Rat) * h)) n) := by
  induction n with
  | zero => exact LeN.of_le 0 fun M _ => by show (0 : Rat) ≤ _ * 0; grind
  | succ n ih =>
    have r0 := Rat.le_of_lt (rI_pos ((n : Rat) * h))
    have m := (ex_mono (a := -(x * x * (1 + ((n : Rat) * h) * ((n : Rat) * h)))) (b := -(x * x)) (by have := Rat.mul_nonneg (sq_nonneg x) (sq_nonneg ((n : Rat) * h)); grind)).scale (Rat.mul_nonneg hh r0)
    refine (ih.add m).trans (LeN.of_le 0 fun M _ => ?_)
    show _ ≤ ex (-(x * x)) M * (S (fun i => h * rI ((i : Rat) * h)) n + h * rI ((n : Rat) * h))
    grind
end Go.Proofs.YtgmnknmjainababGreat.Ex

namespace Go.Proofs.YtgmnknmjainababGreat.Ex
set_option linter.unusedVariables false

theorem sum_ge_aA {v x h : Rat} (hv : 0 ≤ v) (hv2 : v ≤ 1 / 2) (hvx : v ≤ x) (hh : 0 ≤ h) (M : Nat) (j : Nat) (hj : tD v (x + (j : Rat) * h) ≤ 1 / 2) :
    aA (tD v (x + (j : Rat) * h)) M - aA (tD v x) M ≤ S (fun i => h * rI (x + (i : Rat) * h)) j + (j : Rat) * (16 * (h * h) + 2 * (h * q4 M)) := by
  induction j with
  | zero =>
    have e : x + ((0 : Nat) : Rat) * h = x := by grind
    rw [e]
    show _ ≤ 0 + _
    grind
  | succ j ih =>
    have ec : ((j + 1 : Nat) : Rat) = (j : Rat) + 1 := by push_cast; rfl
    have j0 : (0 : Rat) ≤ (j : Rat) := by exact_mod_cast Nat.zero_le j
    have jh := Rat.mul_nonneg j0 hh
    have e1 : x + ((j + 1 : Nat) : Rat) * h = x + (j : Rat) * h + h := by rw [ec]; grind
    rw [e1] at hj ⊢
    have ih' := ih (Rat.le_trans (tD_mono hv (by grind) (by grind)) hj)
    have st := (aA_diff (x := x + (j : Rat) * h) (i := rI (x + (j : Rat) * h)) hv hv2 (by grind) hh hj (rI_mul _) M).2
    show _ ≤ S (fun i => h * rI (x + (i : Rat) * h)) j + h * rI (x + (j : Rat) * h) + _
    rw [ec]
    grind
theorem sum_split (n : Nat) {h : Rat} (hm : ((n + 1 : Nat) : Rat) * h = 1 / 2) : S (fun i => h * rI ((i : Rat) * h)) (2 * (n + 1)) = S (fun i => h * rI (0 + (i : Rat) * h)) (n + 1) + S (fun i => h * rI (1 / 2 + (i : Rat) * h)) (n + 1) := by
  rw [show 2 * (n + 1) = (n + 1) + (n + 1) by omega, S_split]
  congr 1
  · exact S_congr _ fun i _ => by rw [show 0 + (i : Rat) * h = (i : Rat) * h by grind]
  · refine S_congr _ fun i _ => ?_
    have e : ((n + 1 + i : Nat) : Rat) = ((n + 1 : Nat) : Rat) + (i : Rat) := by push_cast; rfl
    rw [e, show (((n + 1 : Nat) : Rat) + (i : Rat)) * h = ((n + 1 : Nat) : Rat) * h + (i : Rat) * h by grind, hm]
/-- The sum that is nearly the angle whose tangent is 1: not much less than it. -/
theorem sum_angle2 (n : Nat) {h : Rat} (hh : h * (2 * ((n : Rat) + 1)) = 1) : LeN piS (fun M => 4 * S (fun i => h * rI ((i : Rat) * h)) (2 * (n + 1)) + 64 * (1 / ((n : Rat) + 1))) := by
  have n0 : (0 : Rat) < (n : Rat) + 1 := pos1 n
  have h0 : 0 < h := by
    refine Rat.not_le.1 fun hle => ?_
    have := Rat.mul_nonneg (show 0 ≤ -h by grind) (show 0 ≤ 2 * ((n : Rat) + 1) by grind)
    grind
  have ec : ((n + 1 : Nat) : Rat) = (n : Rat) + 1 := by push_cast; rfl
  have hm : ((n + 1 : Nat) : Rat) * h = 1 / 2 := by rw [ec]; grind
  have a : ∀ M, aA (1 / 2) M ≤ S (fun i => h * rI (0 + (i : Rat) * h)) (n + 1) + ((n : Rat) + 1) * (16 * (h * h) + 2 * (h * q4 M)) := fun M => by
    have := sum_ge_aA (v := 0) (x := 0) (by grind) (by grind) (by grind) (Rat.le_of_lt h0) M (n + 1) (by rw [hm]; decide +kernel)
    rw [hm, show tD 0 (0 + 1 / 2) = 1 / 2 by decide +kernel, show tD 0 0 = 0 by decide +kernel, aA_zero, ec] at this
    grind
  have b : ∀ M, aA (1 / 3) M ≤ S (fun i => h * rI (1 / 2 + (i : Rat) * h)) (n + 1) + ((n : Rat) + 1) * (16 * (h * h) + 2 * (h * q4 M)) := fun M => by
    have := sum_ge_aA (v := 1 / 2) (x := 1 / 2) (by grind) (by grind) (by grind) (Rat.le_of_lt h0) M (n + 1) (by rw [hm]; decide +kernel)
    rw [hm, show tD (1 / 2) (1 / 2 + 1 / 2) = 1 / 3 by decide +kernel, show tD (1 / 2) (1 / 2) = 0 by decide +kernel, aA_zero, ec] at this
    grind
  rw [sum_split n hm]
  have nh : ((n : Rat) + 1) * h = 1 / 2 := by grind
  have hu : h = 1 / 2 * (1 / ((n : Rat) + 1)) := by
    have um : 1 / ((n : Rat) + 1) * ((n : Rat) + 1) = 1 := rdm n0
    have : h * (((n : Rat) + 1) * (1 / ((n : Rat) + 1))) = 1 / 2 * (1 / ((n : Rat) + 1)) := by rw [← nh]; grind
    rw [show ((n : Rat) + 1) * (1 / ((n : Rat) + 1)) = 1 by grind] at this
    grind
  refine LeN.of_null ((pi_four.neg).add (null_q4c 8 (by grind))) 0 fun M _ => ?_
  have a1 := a M
  have b1 := b M
  have e1 : ((n : Rat) + 1) * (16 * (h * h) + 2 * (h * q4 M)) = 16 * (((n : Rat) + 1) * h) * h + 2 * (((n : Rat) + 1) * h) * q4 M := by grind
  rw [e1, nh] at a1 b1
  have u0 : (0 : Rat) < 1 / ((n : Rat) + 1) := rdiv_pos (by grind) n0
  generalize 1 / ((n : Rat) + 1) = u at *
  rw [hu] at a1 b1 ⊢
  generalize S (fun i => 1 / 2 * u * rI (0 + (i : Rat) * (1 / 2 * u))) (n + 1) = s1 at *
  generalize S (fun i => 1 / 2 * u * rI (1 / 2 + (i : Rat) * (1 / 2 * u))) (n + 1) = s2 at *
  grind
theorem eF_sum2 {x h : Rat} (hx : 0 ≤ x) {K V : Rat} (B : Bnd x K V) (hh : 0 < h) (n : Nat) (hn : (n : Rat) * h = 1) : LeN (fun _ => S (fun i => h * rI ((i : Rat) * h)) n) (fun M => eF x M * eF x M + gG h x n M + 2 * (V * x * h) * x) := by
  obtain ⟨C, D, c0, d0, d1, dn⟩ := eF_dn B
  have h0 := Rat.le_of_lt hh
  have k0 := B.k0
  have v1 := B.v1
  have A1 : 0 < 8 * (2 * x + 1) := by grind
  have dm : 1 / (8 * (2 * x + 1)) * (8 * (2 * x + 1)) = 1 := rdm A1
  have dp : 0 < 1 / (8 * (2 * x + 1)) := rdiv_pos (by grind) A1
  obtain ⟨D2, hD2, D2a, D2b⟩ : ∃ D2 : Rat, 0 < D2 ∧ D2 ≤ D ∧ D2 ≤ 1 / (8 * (2 * x + 1)) := by
    by_cases hc : D ≤ 1 / (8 * (2 * x + 1))
    · exact ⟨D, d0, by grind, hc⟩
    · exact ⟨_, dp, by grind, by grind⟩
  obtain ⟨F, hF⟩ : ∃ F, F = K * V := ⟨_, rfl⟩
  have F0 : 0 ≤ F := by rw [hF]; exact Rat.mul_nonneg k0 (by grind)
  obtain ⟨C4, hC4⟩ : ∃ C4, C4 = 2 * (C * F) + V * C := ⟨_, rfl⟩
  have C40 : 0 ≤ C4 := by
    have a := Rat.mul_nonneg c0 F0
    have b := Rat.mul_nonneg (show 0 ≤ V by grind) c0
    grind
  obtain ⟨C5, hC5⟩ : ∃ C5, C5 = (1 + 8 * ((2 * x + 1) * (2 * x + 1))) * V := ⟨_, rfl⟩
  have C50 : 0 ≤ C5 := by rw [hC5]; exact Rat.mul_nonneg (by have := Rat.mul_nonneg (show 0 ≤ 2 * x + 1 by grind) (show 0 ≤ 2 * x + 1 by grind); grind) (by grind)
  have d := descend (f := fun y M => -(eF y M * eF y M + gG h y n M + 2 * (V * x * h) * y)) (a := 0) (b := x) (C := C4 + C5) (D := D2) hx (by grind) hD2 (fun y k hy hk hkD hyx => by
    obtain ⟨z1, hz1, N1, p1⟩ := dn y k hy hk (by grind) hyx
    have k1 : k ≤ 1 := by grind
    have kq := Rat.le_of_lt hk
    obtain ⟨z2, hz2, N2, p2⟩ := gG_dn B hy hk k1 hyx h0 (by have := Rat.mul_le_mul_of_nonneg_right (Rat.le_trans hkD D2b) (Rat.le_of_lt A1); grind) n (by grind)
    have right := gE_le (x := y) B hy (by grind) h0 n hn
    obtain ⟨z3, hz3, p3⟩ := right.null
    obtain ⟨N3, ev⟩ := ex_pos (-(y * y))
    obtain ⟨N4, ev2⟩ := ex_pos (-((y + k) * (y + k)))
    have bF : Bdd (eF y) := by
      have : Bdd (eS y) := Bdd.of_le K 0 fun M _ => ⟨by have := eS_nonneg hy M; grind, B.s _ hy (by grind) M⟩
      exact this.mul (ex_bdd _)
    have bF' : Bdd (eF (y + k)) := by
      have : Bdd (eS (y + k)) := Bdd.of_le K 0 fun M _ => ⟨by have := eS_nonneg (x := y + k) (by grind) M; grind, B.s _ (by grind) hyx M⟩
      exact this.mul (ex_bdd _)
    have bV := ex_bdd (-(y * y))
    have q1 := hz1.bmul (bF.add bF')
    have q2 := (hz1.bmul bV).bmul (Bdd.const k)
    have q3 := (hz3.bmul bV).bmul (Bdd.const (2 * k))
    refine ⟨_, ((q1.add q2).add q3).add hz2, N1 + N2 + N3 + N4, fun M hM => ?_⟩
    have a1 := p1 M (by omega)
    have a2 := p2 M (by omega)
    have a3 := p3 M
    have v0 := ev M (by omega)
    have e0 : 0 ≤ eF (y + k) M := Rat.mul_nonneg (eS_nonneg (by grind) M) (ev2 M (by omega))
    have f0 : 0 ≤ eF y M := Rat.mul_nonneg (eS_nonneg hy M) v0
    have sqb : ∀ u, 0 ≤ u → u ≤ x → u * u ≤ 2 * (x * x) := fun u h1 h2 => by
      have xx : u * u ≤ x * x := Rat.le_trans (Rat.mul_le_mul_of_nonneg_left h2 h1) (Rat.mul_le_mul_of_nonneg_right h2 hx)
      have := Rat.mul_nonneg hx hx
      grind
    have vV : ex (-(y * y)) M ≤ V := B.v _ (sq_nonneg y) (sqb y hy (by grind)) M
    have vV' : ex (-((y + k) * (y + k))) M ≤ V := B.v _ (sq_nonneg _) (sqb (y + k) (by grind) hyx) M
    have fF : eF y M ≤ F := by
      rw [hF]
      exact Rat.le_trans (Rat.mul_le_mul_of_nonneg_right (B.s y hy (by grind) M) v0) (Rat.mul_le_mul_of_nonneg_left vV k0)
    have fF' : eF (y + k) M ≤ F := by
      rw [hF]
      exact Rat.le_trans (Rat.mul_le_mul_of_nonneg_right (B.s (y + k) (by grind) hyx M) (ev2 M (by omega))) (Rat.mul_le_mul_of_nonneg_left vV' k0)
    rw [hn, ← hC5] at a2
    generalize eF (y + k) M = f' at *
    generalize eF y M = f at *
    generalize ex (-(y * y)) M = v at *
    generalize gG h (y + k) n M = g' at *
    generalize gG h y n M = g at *
    generalize gE h y n M = u at *
    generalize z1 M = z1 at *
    generalize z2 M = z2 at *
    generalize z3 M = z3 at *
    clear hz1 hz2 hz3 q1 q2 q3 bF bF' bV right p1 p2 p3 dn ev ev2 sqb
    have kk := Rat.mul_nonneg kq kq
    have kv := Rat.mul_nonneg kq v0
    -- (f' - f) (f' + f), from below
    have S0 : 0 ≤ f' + f := by grind
    have b1 := Rat.mul_le_mul_of_nonneg_right (show k * v ≤ (f' - f) + C * (k * k) + z1 by grind) S0
    have b2 := Rat.mul_le_mul_of_nonneg_left (show f' + f ≤ 2 * F by grind) (Rat.mul_nonneg c0 kk)
    -- k v (f' + f) is at least 2 k v f + k v (k v - C k k - z1)
    have b3 := Rat.mul_le_mul_of_nonneg_left (show 2 * f + k * v - C * (k * k) - z1 ≤ f' + f by grind) kv
    have kvkv := Rat.mul_nonneg kv kv
    have b4 : k * v * (C * (k * k)) ≤ V * C * (k * k) := by
      have c1 : k * v ≤ V := by have := Rat.mul_le_mul_of_nonneg_right k1 v0; grind
      have c2 := Rat.mul_le_mul_of_nonneg_right c1 (Rat.mul_nonneg c0 kk)
      grind
    have b5 := Rat.mul_le_mul_of_nonneg_left a3 kv
    have b6 : k * v * (y * h) ≤ k * (V * x * h) := by
      have c1 := Rat.mul_le_mul_of_nonneg_right vV (Rat.mul_nonneg hy h0)
      have c2 := Rat.mul_le_mul_of_nonneg_left (Rat.mul_le_mul_of_nonneg_right (show y ≤ x by grind) h0) (show 0 ≤ V by grind)
      have c3 := Rat.mul_le_mul_of_nonneg_left (Rat.le_trans c1 c2) kq
      grind
    show -(f' * f' + g' + 2 * (V * x * h) * (y + k)) ≤ -(f * f + g + 2 * (V * x * h) * y) + (C4 + C5) * (k * k) + (z1 * (f + f') + z1 * v * k + z3 * v * (2 * k) + z2)
    have r1 : ((f' - f) + C * (k * k) + z1) * (f' + f) = f' * f' - f * f + C * (k * k) * (f' + f) + z1 * (f + f') := by grind
    have r2 : k * v * (2 * f + k * v - C * (k * k) - z1) = 2 * (k * v * f) + k * v * (k * v) - k * v * (C * (k * k)) - k * v * z1 := by grind
    have r3 : k * v * (f + y * h + z3) = k * v * f + k * v * (y * h) + k * v * z3 := by grind
    have r4 : 2 * (y * k) * (v * u) = 2 * (k * v * (y * u)) := by grind
    have r5 : (C4 + C5) * (k * k) = C * (k * k) * (2 * F) + V * C * (k * k) + C5 * (k * k) := by rw [hC4]; grind
    have r6 : z1 * v * k = k * v * z1 := by grind
    have r7 : z3 * v * (2 * k) = 2 * (k * v * z3) := by grind
    have r8 : 2 * (V * x * h) * (y + k) = 2 * (V * x * h) * y + 2 * (k * (V * x * h)) := by grind
    rw [r1] at b1
    rw [r2] at b3
    rw [r3] at b5
    rw [r4, Rat.one_mul] at a2
    rw [r5, r6, r7, r8]
    generalize f' * f' = w1 at *
    generalize f * f = w2 at *
    generalize C * (k * k) * (f' + f) = w3 at *
    generalize z1 * (f + f') = w4 at *
    generalize k * v * (f' + f) = w5 at *
    generalize k * v * f = w6 at *
    generalize k * v * (k * v) = w7 at *
    generalize k * v * (C * (k * k)) = w8 at *
    generalize k * v * z1 = w9 at *
    generalize k * v * (y * u) = w10 at *
    generalize k * v * (y * h) = w11 at *
    generalize k * v * z3 = w12 at *
    generalize C * (k * k) * (2 * F) = w13 at *
    generalize V * C * (k * k) = w14 at *
    generalize C5 * (k * k) = w15 at *
    generalize k * (V * x * h) = w16 at *
    generalize 2 * (V * x * h) * y = w17 at *
    clear vV vV' fF fF' hC4 hF hC5 dm r1 r2 r3 r4 r5 r6 r7 r8 D2b A1 dp hn
    grind)
  intro e he
  obtain ⟨N, k⟩ := d e he
  refine ⟨N + 1, fun M hM => ?_⟩
  have a1 : -(eF x M * eF x M + gG h x n M + 2 * (V * x * h) * x) ≤ -(eF 0 M * eF 0 M + gG h 0 n M + 2 * (V * x * h) * 0) + e := k M (by omega)
  have a3 : gG h 0 n M = S (fun i => h * rI ((i : Rat) * h)) n := S_congr n fun i _ => by
    have e1 : -(0 * 0 * (1 + ((i : Rat) * h) * ((i : Rat) * h))) = (0 : Rat) := by grind
    have e2 : ex 0 M = 1 := by
      obtain ⟨m, rfl⟩ : ∃ m, M = m + 1 := ⟨M - 1, by omega⟩
      exact E_zero m
    rw [e1, e2]; grind
  rw [a3, eF_zero] at a1
  show S (fun i => h * rI ((i : Rat) * h)) n ≤ eF x M * eF x M + gG h x n M + 2 * (V * x * h) * x + e
  grind
theorem eF_pi2 {x : Rat} (hx : 0 ≤ x) : LeN (fun M => piS M * (1 - ex (-(x * x)) M)) (fun M => 4 * (eF x M * eF x M)) := by
  obtain ⟨K, V, B⟩ := bnd_ex hx
  have v1 := B.v1
  have vx := Rat.mul_nonneg (Rat.mul_nonneg (show 0 ≤ V by grind) hx) hx
  refine LeN.lim (C := 64 + 4 * (V * x * x)) (by grind) fun n => ?_
  have n0 : (0 : Rat) < 2 * ((n : Rat) + 1) := by have := pos1 n; grind
  obtain ⟨h, h0, hh⟩ := inv_ex (2 * ((n : Rat) + 1)) n0
  have hu : h = 1 / 2 * (1 / ((n : Rat) + 1)) := by
    have n1 := pos1 n
    have um : 1 / ((n : Rat) + 1) * ((n : Rat) + 1) = 1 := rdm n1
    have : h * (((n : Rat) + 1) * (1 / ((n : Rat) + 1))) = 1 / 2 * (1 / ((n : Rat) + 1)) := by
      have e9 : h * ((n : Rat) + 1) = 1 / 2 := by grind
      have : h * (((n : Rat) + 1) * (1 / ((n : Rat) + 1))) = h * ((n : Rat) + 1) * (1 / ((n : Rat) + 1)) := by grind
      rw [this, e9]
    rw [show ((n : Rat) + 1) * (1 / ((n : Rat) + 1)) = 1 by grind] at this
    grind
  have e : ((2 * (n + 1) : Nat) : Rat) = 2 * ((n : Rat) + 1) := by push_cast; rfl
  obtain ⟨z1, hz1, k1⟩ := (eF_sum2 hx B h0 (2 * (n + 1)) (by rw [e]; grind)).null
  obtain ⟨z2, hz2, k2⟩ := (sum_angle2 n hh).null
  obtain ⟨z3, hz3, k3⟩ := (gG_le (x := x) (Rat.le_of_lt h0) (2 * (n + 1))).null
  obtain ⟨N, pos⟩ := ex_pos (-(x * x))
  obtain ⟨z4, hz4, k4⟩ := (ex_mono (a := -(x * x)) (b := 0) (by have := sq_nonneg x; grind)).null
  have bw := ex_bdd (-(x * x))
  have b1 : Bdd (fun M => 1 - ex (-(x * x)) M) := (Bdd.const 1).sub bw
  have bP : Bdd piS := piS_bdd
  obtain ⟨g, hg⟩ : ∃ g, g = S (fun i => h * rI ((i : Rat) * h)) (2 * (n + 1)) := ⟨_, rfl⟩
  rw [← hg] at k1 k2 k3
  -- pi (1 - w) <= (4 g + 64 u + z2) (1 - w) and g (1 - w) <= eF^2 + ...
  have q1 := (hz1.bmul (Bdd.const 4)).add ((hz2.bmul b1).add (hz3.bmul (Bdd.const 4)))
  have bz : Bdd (fun M => 4 * g + 64 * (1 / ((n : Rat) + 1)) + z2 M - piS M) := (((Bdd.const (4 * g)).add (Bdd.const (64 * (1 / ((n : Rat) + 1))))).add hz2.bdd).sub bP
  have q3 := hz4.bmul bz
  refine LeN.of_null (q1.add q3) (N + 1) fun M hM => ?_
  have a1 := k1 M
  have a2 := k2 M
  have a3 := k3 M
  have a4 := k4 M
  have w0 := pos M (by omega)
  have e0 : ex 0 M = 1 := by
    obtain ⟨m, rfl⟩ : ∃ m, M = m + 1 := ⟨M - 1, by omega⟩
    exact E_zero m
  rw [e0] at a4
  have u0 : (0 : Rat) < 1 / ((n : Rat) + 1) := rdiv_pos (by grind) (pos1 n)
  generalize 1 / ((n : Rat) + 1) = u at *
  generalize ex (-(x * x)) M = w at *
  generalize eF x M * eF x M = f at *
  generalize gG h x (2 * (n + 1)) M = G at *
  generalize piS M = p at *
  generalize z1 M = y1 at *
  generalize z2 M = y2 at *
  generalize z3 M = y3 at *
  generalize z4 M = y4 at *
  clear q1 q3 bz b1 bw bP hz1 hz2 hz3 hz4 k1 k2 k3 k4 pos hg
  -- 1 - w + y4 is not below 0
  have m1 := Rat.mul_le_mul_of_nonneg_right a2 (show 0 ≤ 1 - w + y4 by grind)
  have hx2 : 2 * (V * x * h) * x = V * x * x * u := by rw [hu]; grind
  rw [hx2] at a1
  have m2 := Rat.mul_nonneg (Rat.mul_nonneg (show (0 : Rat) ≤ 64 by grind) (Rat.le_of_lt u0)) w0
  have r1 : p * (1 - w + y4) = p * (1 - w) + y4 * p := by grind
  have r2 : (4 * g + 64 * u + y2) * (1 - w + y4) = 4 * g - 4 * (w * g) + 64 * u - 64 * u * w + y2 * (1 - w) + y4 * (4 * g + 64 * u + y2) := by grind
  have r3 : y4 * (4 * g + 64 * u + y2 - p) = y4 * (4 * g + 64 * u + y2) - y4 * p := by grind
  have r4 : (64 + 4 * (V * x * x)) * u = 64 * u + 4 * (V * x * x * u) := by grind
  rw [r1, r2] at m1
  show p * (1 - w) ≤ 4 * f + (64 + 4 * (V * x * x)) * u + (y1 * 4 + (y2 * (1 - w) + y3 * 4) + y4 * (4 * g + 64 * u + y2 - p))
  rw [r3, r4]
  generalize p * (1 - w) = t1 at *
  generalize y4 * p = t2 at *
  generalize w * g = t3 at *
  generalize y2 * (1 - w) = t4 at *
  generalize y4 * (4 * g + 64 * u + y2) = t5 at *
  generalize V * x * x * u = t6 at *
  generalize 64 * u * w = t7 at *
  clear r1 r2 r3 r4 hx2 vx hu hh
  grind
theorem erf_low {R : Nat → Rat} (h : RootS piS R) {x : Rat} (hx : 0 ≤ x) : LeN (fun M => 1 - ex (-(x * x)) M) (erfS R x) := by
  refine LeN.trans ?_ (erf_near2 h x hx).symm.leN
  obtain ⟨z, hz, k⟩ := (eF_pi2 hx).null
  obtain ⟨N, pos⟩ := ex_pos (-(x * x))
  have bw := ex_bdd (-(x * x))
  have b1 : Bdd (fun M => 1 - ex (-(x * x)) M) := (Bdd.const 1).sub bw
  have q := (h.sq.bmul b1).add hz
  intro e he
  obtain ⟨N2, k2⟩ := q e he
  obtain ⟨N3, epos⟩ := ex_pos (-(x * x))
  refine ⟨N + N2 + N3, fun M hM => ?_⟩
  have a1 := k M
  have a2 := (k2 M (by omega)).2
  have w0 := pos M (by omega)
  have r1 := h.one M
  have f0 : 0 ≤ eF x M := Rat.mul_nonneg (eS_nonneg hx M) (epos M (by omega))
  have p1 : 0 < R M := by grind
  have c := rdm (a := 1) p1
  have i0 := (div_one (a := 1) (by grind) r1).1
  refine Rat.not_lt.1 fun hlt => ?_
  simp only [] at *
  -- q = 2 F / R < 1 - w - e
  obtain ⟨q, hq⟩ : ∃ q, q = eF x M * (2 * (1 / R M)) := ⟨_, rfl⟩
  have q0 : 0 ≤ q := by rw [hq]; exact Rat.mul_nonneg f0 (by grind)
  have qR : q * R M = 2 * eF x M := by
    have : q * R M = 2 * eF x M * (1 / R M * R M) := by rw [hq]; grind
    rw [this, c]; grind
  rw [← hq] at hlt
  have f2 : 4 * (eF x M * eF x M) = q * q * (R M * R M) := by
    have : q * q * (R M * R M) = (q * R M) * (q * R M) := by grind
    rw [this, qR]; grind
  rw [f2] at a1
  generalize ex (-(x * x)) M = w at *
  generalize R M = r at *
  generalize piS M = p at *
  generalize z M = y at *
  -- r r (1 - w - q q) <= e, and q q <= q (1 - w - e) <= (1 - w - e)
  have w1 : q ≤ 1 - w - e := by grind
  have qq : q * q ≤ q := by
    have := Rat.mul_le_mul_of_nonneg_left (show q ≤ 1 by grind) q0
    grind
  have rr : 1 ≤ r * r := by have := Rat.mul_le_mul_of_nonneg_left r1 (show 0 ≤ r by grind); grind
  have m1 := Rat.mul_le_mul_of_nonneg_left (show q * q ≤ q by grind) (show 0 ≤ r * r by grind)
  have m2 := Rat.mul_lt_mul_of_pos_left hlt (show 0 < r * r by grind)
  have m3 := Rat.mul_le_mul_of_nonneg_right rr (Rat.le_of_lt he)
  have t1 : (r * r - p) * (1 - w) = r * r * (1 - w) - p * (1 - w) := by grind
  have t2 : q * q * (r * r) = r * r * (q * q) := by grind
  have t3 : r * r * (q + e) = r * r * q + r * r * e := by grind
  rw [t1] at a2
  rw [t2] at a1
  rw [t3] at m2
  generalize r * r * (1 - w) = g1 at *
  generalize p * (1 - w) = g2 at *
  generalize r * r * (q * q) = g3 at *
  generalize r * r * q = g4 at *
  generalize r * r * e = g5 at *
  clear hq qR f2 hz k bw b1 qq rr t1 t2 t3 c i0
  grind
end Go.Proofs.YtgmnknmjainababGreat.Ex

namespace Go.Proofs.YtgmnknmjainababGreat
set_option linter.unusedVariables false
open Ex

/-- The powers of tailsureref.lowErf, the numbers that it takes by turns, and their sum. -/
def lpT (x : Int) (B m : Nat) : Nat → Int × Int
  | 0 => (x * Q (m - B), x * Q (m - B))
  | n + 1 => scaleI (scaleI (lpT x B m n) (x * x) (Q (2 * B))) 1 ((n : Int) + 1)
def ltT (x : Int) (B m n : Nat) : Int × Int := scaleI (lpT x B m n) 1 (2 * (n : Int) + 1)
def lsT (x : Int) (B m : Nat) : Nat → Int × Int
  | 0 => lpT x B m 0
  | n + 1 => if (n + 1) % 2 = 1 then subI (lsT x B m n) (ltT x B m (n + 1)) else addI (lsT x B m n) (ltT x B m (n + 1))
/-- A point from 0 on whose square is not too great. -/
structure LoIn (x : Int) (B m : Nat) : Prop where
  x0 : 0 ≤ x
  up : x * x ≤ ((B : Int) + 8) * Q (2 * B)
  bm : B ≤ m
  b0 : 24 ≤ B
  b1 : B ≤ 200
theorem lpT_le {x : Int} {B m : Nat} (h : LoIn x B m) (n : Nat) : 0 ≤ (lpT x B m n).1 ∧ (lpT x B m n).1 ≤ (lpT x B m n).2 := by
  have q := Q_pos (m - B)
  have q2 := Q_pos (2 * B)
  have xx : 0 ≤ x * x := Int.mul_nonneg h.x0 h.x0
  induction n with
  | zero => exact ⟨Int.mul_nonneg h.x0 (by omega), Int.le_refl _⟩
  | succ n ih =>
    have a := scaleI_le (n := x * x) (d := Q (2 * B)) ih.2 (by omega) xx
    have a0 : 0 ≤ (scaleI (lpT x B m n) (x * x) (Q (2 * B))).1 := Int.ediv_nonneg (Int.mul_nonneg ih.1 xx) (by omega)
    exact ⟨Int.ediv_nonneg (Int.mul_nonneg a0 (by omega)) (by omega), scaleI_le a (by omega) (by omega)⟩
theorem ltT_le {x : Int} {B m : Nat} (h : LoIn x B m) (n : Nat) : (ltT x B m n).1 ≤ (ltT x B m n).2 := scaleI_le (lpT_le h n).2 (by omega) (by omega)
theorem lsT_le {x : Int} {B m : Nat} (h : LoIn x B m) (n : Nat) : (lsT x B m n).1 ≤ (lsT x B m n).2 := by
  induction n with
  | zero => exact (lpT_le h 0).2
  | succ n ih =>
    have := ltT_le h (n + 1)
    show (if (n + 1) % 2 = 1 then _ else _ : Int × Int).1 ≤ (if (n + 1) % 2 = 1 then _ else _ : Int × Int).2
    split
    · show (lsT x B m n).1 - (ltT x B m (n + 1)).2 ≤ (lsT x B m n).2 - (ltT x B m (n + 1)).1; omega
    · show (lsT x B m n).1 + (ltT x B m (n + 1)).1 ≤ (lsT x B m n).2 + (ltT x B m (n + 1)).2; omega
/-- The point itself. -/
def loX (x : Int) (B : Nat) : Rat := (x : Rat) / (Q B : Rat)
theorem loX_nonneg {x : Int} {B : Nat} (h : 0 ≤ x) : 0 ≤ loX x B := rle_div (Qr_pos B) (by
  have : (0 : Rat) ≤ (x : Rat) := by exact_mod_cast h
  grind)
theorem loX_sq (x : Int) (B : Nat) : ((x * x : Int) : Rat) / ((Q (2 * B) : Int) : Rat) = loX x B * loX x B := by
  have q := Qr_pos B
  have q2 := Qr_pos (2 * B)
  have e : ((Q (2 * B) : Int) : Rat) = (Q B : Rat) * (Q B : Rat) := by
    rw [show 2 * B = B + B by omega, Q_add, Rat.intCast_mul]
  have a := rdm (a := (x : Rat)) q
  have q3 : (0 : Rat) < (Q B : Rat) * (Q B : Rat) := Rat.mul_pos q q
  have b := rdm (a := ((x * x : Int) : Rat)) q3
  have k : loX x B * loX x B * ((Q B : Rat) * (Q B : Rat)) = ((x * x : Int) : Rat) := by
    unfold loX
    have : (x : Rat) / (Q B : Rat) * ((x : Rat) / (Q B : Rat)) * ((Q B : Rat) * (Q B : Rat)) = ((x : Rat) / (Q B : Rat) * (Q B : Rat)) * ((x : Rat) / (Q B : Rat) * (Q B : Rat)) := by grind
    rw [this, a, Rat.intCast_mul]
  rw [e]
  exact Rat.le_antisymm (Rat.le_of_mul_le_mul_right (by rw [b, k]; exact Rat.le_refl) q3) (Rat.le_of_mul_le_mul_right (by rw [b, k]; exact Rat.le_refl) q3)
theorem lpT_has {x : Int} {B m : Nat} (h : LoIn x B m) (n : Nat) : Iv m (lpT x B m n) (fun _ => loX x B * tm (loX x B * loX x B) n) := by
  have xx : 0 ≤ x * x := Int.mul_nonneg h.x0 h.x0
  have q2 := Q_pos (2 * B)
  induction n with
  | zero =>
    have q := Qr_pos m
    have qb := Qr_pos B
    have e1 : ((x * Q (m - B) : Int) : Rat) / (Q m : Rat) = loX x B := by
      have e2 : ((Q m : Int) : Rat) = (Q B : Rat) * (Q (m - B) : Rat) := by rw [← Rat.intCast_mul, ← Q_add]; congr 2; have := h.bm; omega
      have a := rdm (a := (x : Rat)) qb
      have b := rdm (a := ((x * Q (m - B) : Int) : Rat)) q
      have k : loX x B * (Q m : Rat) = ((x * Q (m - B) : Int) : Rat) := by
        unfold loX
        rw [e2, Rat.intCast_mul, ← Rat.mul_assoc, a]
      exact Rat.le_antisymm (Rat.le_of_mul_le_mul_right (by rw [b, k]; exact Rat.le_refl) q) (Rat.le_of_mul_le_mul_right (by rw [b, k]; exact Rat.le_refl) q)
    have e3 : loX x B * tm (loX x B * loX x B) 0 = loX x B := by show loX x B * 1 = loX x B; grind
    rw [e3]
    refine Has.const ?_ ?_
    · show ((x * Q (m - B) : Int) : Rat) / (Q m : Rat) ≤ _; rw [e1]; exact Rat.le_refl
    · show _ ≤ ((x * Q (m - B) : Int) : Rat) / (Q m : Rat); rw [e1]; exact Rat.le_refl
  | succ n ih =>
    have s1 := (ih.scale (n := x * x) (d := Q (2 * B)) xx (by omega)).scale (n := 1) (d := (n : Int) + 1) (by omega) (by omega)
    refine Has.of_eq s1 fun M => ?_
    rw [loX_sq]
    have t := tm_succ (loX x B * loX x B) n
    have p := pos1 n
    have e1 : (((n : Int) + 1 : Int) : Rat) = (n : Rat) + 1 := by rw [Rat.intCast_add]; rfl
    rw [e1]
    have r := rdm (a := ((1 : Int) : Rat)) p
    have key : ((n : Rat) + 1) * (loX x B * tm (loX x B * loX x B) (n + 1)) = ((n : Rat) + 1) * (((1 : Int) : Rat) / ((n : Rat) + 1) * (loX x B * loX x B * (loX x B * tm (loX x B * loX x B) n))) := by
      have l : ((n : Rat) + 1) * (loX x B * tm (loX x B * loX x B) (n + 1)) = loX x B * (((n : Rat) + 1) * tm (loX x B * loX x B) (n + 1)) := by grind
      rw [l, t]
      have r2 : ((n : Rat) + 1) * (((1 : Int) : Rat) / ((n : Rat) + 1) * (loX x B * loX x B * (loX x B * tm (loX x B * loX x B) n))) = (((1 : Int) : Rat) / ((n : Rat) + 1) * ((n : Rat) + 1)) * (loX x B * loX x B * (loX x B * tm (loX x B * loX x B) n)) := by grind
      rw [r2, r]
      have : ((1 : Int) : Rat) = 1 := rfl
      rw [this]; grind
    exact Rat.le_antisymm (Rat.le_of_mul_le_mul_left (by rw [key]; exact Rat.le_refl) p) (Rat.le_of_mul_le_mul_left (by rw [key]; exact Rat.le_refl) p)
theorem ltT_has {x : Int} {B m : Nat} (h : LoIn x B m) (n : Nat) : Iv m (ltT x B m n) (fun _ => vT (loX x B) n) := by
  have s := (lpT_has h n).scale (n := 1) (d := 2 * (n : Int) + 1) (by omega) (by omega)
  refine Has.of_eq s fun M => ?_
  have e1 : ((2 * (n : Int) + 1 : Int) : Rat) = 2 * (n : Rat) + 1 := by rw [Rat.intCast_add, Rat.intCast_mul]; rfl
  rw [e1]
  unfold vT
  rw [Rat.div_def, Rat.div_def]
  have : ((1 : Int) : Rat) = 1 := rfl
  rw [this]; grind
theorem sg_par (n : Nat) : sg (n + 1) = if (n + 1) % 2 = 1 then -1 else 1 := by
  induction n with
  | zero => rfl
  | succ n ih =>
    show -sg (n + 1) = _
    rw [ih]
    by_cases h : (n + 1) % 2 = 1
    · rw [if_pos h, if_neg (by omega)]; grind
    · rw [if_neg h, if_pos (by omega)]
theorem lsT_has {x : Int} {B m : Nat} (h : LoIn x B m) (n : Nat) : Iv m (lsT x B m n) (fun _ => aF (loX x B) (n + 1)) := by
  induction n with
  | zero =>
    refine Has.of_eq (lpT_has h 0) fun M => ?_
    show 0 + sg 0 * vT (loX x B) 0 = _
    have e := vT_mul (loX x B) 0
    have e2 : sg 0 = 1 := rfl
    rw [e2]
    generalize tm (loX x B * loX x B) 0 = t0 at *
    grind
  | succ n ih =>
    have t := ltT_has h (n + 1)
    have sp := sg_par n
    show Iv m (if (n + 1) % 2 = 1 then subI (lsT x B m n) (ltT x B m (n + 1)) else addI (lsT x B m n) (ltT x B m (n + 1))) _
    split
    · rename_i hh
      rw [if_pos hh] at sp
      refine Has.of_eq (Iv.sub ih t) fun M => ?_
      show aF (loX x B) (n + 1) + sg (n + 1) * vT (loX x B) (n + 1) = _
      rw [sp]; grind
    · rename_i hh
      rw [if_neg hh] at sp
      refine Has.of_eq (Iv.add ih t) fun M => ?_
      show aF (loX x B) (n + 1) + sg (n + 1) * vT (loX x B) (n + 1) = _
      rw [sp]; grind
theorem loX_up {x : Int} {B m : Nat} (h : LoIn x B m) : loX x B * loX x B ≤ (B : Rat) + 8 := by
  rw [← loX_sq]
  refine rdiv_le (Qr_pos (2 * B)) ?_
  have := cast_le h.up
  have e : ((((B : Int) + 8) * Q (2 * B) : Int) : Rat) = ((B : Rat) + 8) * ((Q (2 * B) : Int) : Rat) := by rw [Rat.intCast_mul, Rat.intCast_add]; rfl
  rw [e] at this
  exact this
/-- From number 2 B on each is at most three quarters of the one ahead of it. -/
theorem vT_fall {x : Int} {B m : Nat} (h : LoIn x B m) {n : Nat} (hn : 2 * B ≤ n) : 4 * vT (loX x B) (n + 1) ≤ 3 * vT (loX x B) n := by
  have x0 := loX_nonneg (B := B) h.x0
  have up := loX_up h
  have e := vT_succ (loX x B) n
  have v0 := vT_nonneg x0 n
  have v1 := vT_nonneg x0 (n + 1)
  have nb : 2 * (B : Rat) ≤ (n : Rat) := by exact_mod_cast hn
  have b24 : (24 : Rat) ≤ (B : Rat) := by exact_mod_cast h.b0
  have o := o_pos n
  -- (n + 1) (2 n + 3) v' = (2 n + 1) X X v, and 4 X X <= 4 (B + 8) <= 3 (n + 1)
  have m1 := Rat.mul_le_mul_of_nonneg_right up (Rat.mul_nonneg (Rat.le_of_lt o) v0)
  have m2 := Rat.mul_le_mul_of_nonneg_right (show 4 * ((B : Rat) + 8) ≤ 3 * ((n : Rat) + 1) by grind) (Rat.mul_nonneg (Rat.le_of_lt o) v0)
  have m3 := Rat.mul_le_mul_of_nonneg_right (show 2 * (n : Rat) + 1 ≤ 2 * (n : Rat) + 3 by grind) (Rat.mul_nonneg (show 0 ≤ (n : Rat) + 1 by grind) v0)
  have pp : (0 : Rat) < ((n : Rat) + 1) * (2 * (n : Rat) + 3) := Rat.mul_pos (by grind) (by grind)
  refine Rat.le_of_mul_le_mul_left (c := ((n : Rat) + 1) * (2 * (n : Rat) + 3)) ?_ pp
  have r1 : ((n : Rat) + 1) * (2 * (n : Rat) + 3) * (4 * vT (loX x B) (n + 1)) = 4 * ((2 * (n : Rat) + 1) * (loX x B * loX x B) * vT (loX x B) n) := by rw [← e]; grind
  have r2 : ((n : Rat) + 1) * (2 * (n : Rat) + 3) * (3 * vT (loX x B) n) = 3 * ((2 * (n : Rat) + 3) * (((n : Rat) + 1) * vT (loX x B) n)) := by grind
  rw [r1, r2]
  generalize vT (loX x B) n = v at *
  generalize loX x B * loX x B = X at *
  generalize (n : Rat) = k at *
  generalize (B : Rat) = b at *
  have s1 : X * ((2 * k + 1) * v) = (2 * k + 1) * X * v := by grind
  have s2 : 4 * (b + 8) * ((2 * k + 1) * v) = 4 * ((b + 8) * ((2 * k + 1) * v)) := by grind
  have s3 : 3 * (k + 1) * ((2 * k + 1) * v) = 3 * ((2 * k + 1) * ((k + 1) * v)) := by grind
  rw [s1] at m1
  rw [s2, s3] at m2
  generalize (2 * k + 1) * X * v = t1 at *
  generalize (b + 8) * ((2 * k + 1) * v) = t2 at *
  generalize (2 * k + 1) * ((k + 1) * v) = t3 at *
  generalize (2 * k + 3) * ((k + 1) * v) = t4 at *
  clear e r1 r2 s1 s2 s3
  grind
theorem aF_rest {x : Int} {B m : Nat} (h : LoIn x B m) {N : Nat} (hN : 2 * B ≤ N) (i : Nat) : AB (aF (loX x B) (N + 1 + i) - aF (loX x B) (N + 1)) (3 * vT (loX x B) N - 3 * vT (loX x B) (N + i)) := by
  have x0 := loX_nonneg (B := B) h.x0
  induction i with
  | zero => simp only [Nat.add_zero]; constructor <;> grind
  | succ i ih =>
    have f := vT_fall h (show 2 * B ≤ N + i by omega)
    have v1 := vT_nonneg x0 (N + i + 1)
    have e : aF (loX x B) (N + 1 + (i + 1)) = aF (loX x B) (N + 1 + i) + sg (N + 1 + i) * vT (loX x B) (N + 1 + i) := rfl
    rw [e, show N + (i + 1) = N + i + 1 by omega]
    rw [show N + 1 + i = N + i + 1 by omega] at *
    obtain ⟨a1, a2⟩ := ih
    rcases sg_one (N + i + 1) with s | s
    · rw [s]; constructor <;> grind
    · rw [s]; constructor <;> grind
/-- Where it ends. -/
def LoStop (x : Int) (B m N : Nat) : Prop := 2 * B < N ∧ (lpT x B m N).2 ≤ 1 ∧ ∀ n, 2 * B < n → n < N → 1 < (lpT x B m n).2
/-- What it has: the error function's series. -/
theorem lo_has {x : Int} {B m N : Nat} (h : LoIn x B m) (hN : LoStop x B m N) : Iv m (addI (lsT x B m N) (-2, 2)) (eF (loX x B)) := by
  have x0 := loX_nonneg (B := B) h.x0
  have q := Qr_pos m
  have hs := lsT_has h N
  have hp := Has.of_const (lpT_has h N)
  have nb : (1 : Rat) ≤ (N : Rat) := by exact_mod_cast (show 1 ≤ N by have := hN.1; omega)
  have p1 : ((lpT x B m N).2 : Rat) / (Q m : Rat) ≤ ((1 : Int) : Rat) / (Q m : Rat) := rdiv_le q (by rw [rdm q]; exact cast_le hN.2.1)
  have vm := vT_mul (loX x B) N
  have v0 := vT_nonneg x0 N
  have v3 : 3 * vT (loX x B) N ≤ ((1 : Int) : Rat) / (Q m : Rat) := by
    have := Rat.mul_nonneg (show 0 ≤ 2 * (N : Rat) + 1 - 3 by grind) v0
    have h2 := hp.2
    grind
  have u0 : (0 : Rat) ≤ ((1 : Int) : Rat) / (Q m : Rat) := by grind
  refine Iv.congr (x := aF (loX x B)) ?_ ((aF_eF x0).symm)
  intro e he
  obtain ⟨N1, k1⟩ := hs e he
  refine ⟨N1 + N + 1, fun M hM => ?_⟩
  obtain ⟨a1, a2⟩ := k1 M (by omega)
  obtain ⟨r1, r2⟩ := aF_rest h (show 2 * B ≤ N by have := hN.1; omega) (M - (N + 1))
  rw [show N + 1 + (M - (N + 1)) = M by omega] at r1 r2
  have v4 := vT_nonneg x0 (N + (M - (N + 1)))
  have e1 : (((addI (lsT x B m N) (-2, 2)).1 : Int) : Rat) / (Q m : Rat) = ((lsT x B m N).1 : Rat) / (Q m : Rat) - 2 * (((1 : Int) : Rat) / (Q m : Rat)) := by
    show (((lsT x B m N).1 + -2 : Int) : Rat) / (Q m : Rat) = _
    rw [Rat.intCast_add, rdiv_add]
    have : ((-2 : Int) : Rat) / (Q m : Rat) = -(2 * (((1 : Int) : Rat) / (Q m : Rat))) := by
      rw [Rat.div_def, Rat.div_def]
      have e9 : ((-2 : Int) : Rat) = -2 := rfl
      have e8 : ((1 : Int) : Rat) = 1 := rfl
      rw [e9, e8]; grind
    rw [this]; grind
  have e2 : (((addI (lsT x B m N) (-2, 2)).2 : Int) : Rat) / (Q m : Rat) = ((lsT x B m N).2 : Rat) / (Q m : Rat) + 2 * (((1 : Int) : Rat) / (Q m : Rat)) := by
    show (((lsT x B m N).2 + 2 : Int) : Rat) / (Q m : Rat) = _
    rw [Rat.intCast_add, rdiv_add]
    congr 1
    rw [Rat.div_def, Rat.div_def]
    have e9 : ((2 : Int) : Rat) = 2 := rfl
    have e8 : ((1 : Int) : Rat) = 1 := rfl
    rw [e9, e8]; grind
  rw [e1, e2]
  generalize ((1 : Int) : Rat) / (Q m : Rat) = u at *
  simp only [] at a1 a2
  constructor <;> grind
end Go.Proofs.YtgmnknmjainababGreat

namespace Go.Proofs.YtgmnknmjainababGreat
set_option linter.unusedVariables false
open Ex

theorem ceil_le {w c d : Int} (hd : 0 < d) (h : w ≤ c * d) : -(-w / d) ≤ c := by
  have : -c ≤ -w / d := Int.le_ediv_of_mul_le hd (by
    have e : -c * d = -(c * d) := by grind
    omega)
  omega
theorem lp_next {x : Int} {B m : Nat} (h : LoIn x B m) (n : Nat) : (lpT x B m (n + 1)).2 ≤ ((B : Int) + 8) * (lpT x B m n).2 ∧ (4 * (B + 8) ≤ n + 1 → (lpT x B m (n + 1)).2 ≤ ((lpT x B m n).2 + 3) / 4) := by
  have l := lpT_le h n
  have q2 := Q_pos (2 * B)
  obtain ⟨v, hv⟩ : ∃ v, v = (lpT x B m n).2 := ⟨_, rfl⟩
  have v0 : 0 ≤ v := by omega
  have a : (scaleI (lpT x B m n) (x * x) (Q (2 * B))).2 ≤ ((B : Int) + 8) * v := by
    rw [hv]
    exact ceil_mul (by omega) (by omega) h.up
  have e : (lpT x B m (n + 1)).2 = -(-((scaleI (lpT x B m n) (x * x) (Q (2 * B))).2 * 1) / ((n : Int) + 1)) := rfl
  rw [e, ← hv]
  obtain ⟨w, hw⟩ : ∃ w, w = (scaleI (lpT x B m n) (x * x) (Q (2 * B))).2 := ⟨_, rfl⟩
  rw [← hw] at a ⊢
  have bv : 0 ≤ ((B : Int) + 8) * v := Int.mul_nonneg (by omega) v0
  refine ⟨ceil_le (by omega) ?_, fun hn => ceil_le (by omega) ?_⟩
  · have := Int.mul_le_mul_of_nonneg_left (show (1 : Int) ≤ (n : Int) + 1 by omega) bv
    omega
  · have c4 : v ≤ 4 * ((v + 3) / 4) := by omega
    have m1 := Int.mul_le_mul_of_nonneg_left c4 (show 0 ≤ (B : Int) + 8 by omega)
    have m2 := Int.mul_le_mul_of_nonneg_left (show 4 * ((B : Int) + 8) ≤ (n : Int) + 1 by omega) (show 0 ≤ (v + 3) / 4 by omega)
    have e1 : ((B : Int) + 8) * (4 * ((v + 3) / 4)) = (v + 3) / 4 * (4 * ((B : Int) + 8)) := by grind
    omega
theorem lo_x {x : Int} {B m : Nat} (h : LoIn x B m) : x ≤ Q (B + 4) := by
  have q := Q_pos B
  have e4 : Q (B + 4) = 16 * Q B := by rw [Q_add]; have : Q 4 = 16 := rfl; rw [this]; omega
  refine sqI_le h.x0 (by omega) ?_
  have e2 : Q (2 * B) = Q B * Q B := by rw [show 2 * B = B + B by omega, Q_add]
  have qq : 0 ≤ Q B * Q B := Int.mul_nonneg (by omega) (by omega)
  have u := h.up
  rw [e2] at u
  have m := Int.mul_le_mul_of_nonneg_right (show (B : Int) + 8 ≤ 256 by have := h.b1; omega) qq
  rw [e4]
  have e : 16 * Q B * (16 * Q B) = 256 * (Q B * Q B) := by grind
  omega
/-- The bits of the greatest of them. -/
def loE (B m : Nat) : Nat := m + 4 + 8 * (4 * (B + 8))
theorem lo_low {x : Int} {B m : Nat} (h : LoIn x B m) (n : Nat) : (lpT x B m n).2 ≤ Q (m + 4 + 8 * n) := by
  induction n with
  | zero =>
    have q := Q_pos (m - B)
    have := Int.mul_le_mul_of_nonneg_right (lo_x h) (show 0 ≤ Q (m - B) by omega)
    have e : Q (m + 4 + 8 * 0) = Q (B + 4) * Q (m - B) := by rw [← Q_add]; congr 1; have := h.bm; omega
    rw [e]
    exact this
  | succ n ih =>
    have a := (lp_next h n).1
    have l := lpT_le h n
    have q := Q_pos (m + 4 + 8 * n)
    have e : Q (m + 4 + 8 * (n + 1)) = 256 * Q (m + 4 + 8 * n) := by
      rw [show m + 4 + 8 * (n + 1) = (m + 4 + 8 * n) + 8 by omega, Q_add]
      have : Q 8 = 256 := rfl
      rw [this]; omega
    have b := Int.mul_le_mul (show (B : Int) + 8 ≤ 256 by have := h.b1; omega) ih (by omega) (by omega)
    omega
theorem lo_fall {x : Int} {B m : Nat} (h : LoIn x B m) (k : Nat) : (lpT x B m (4 * (B + 8) + k)).2 ≤ Q (loE B m - 2 * k) := by
  induction k with
  | zero => exact lo_low h _
  | succ k ih =>
    have a := (lp_next h (4 * (B + 8) + k)).2 (by omega)
    have l := lpT_le h (4 * (B + 8) + k)
    rw [show 4 * (B + 8) + (k + 1) = 4 * (B + 8) + k + 1 by omega]
    by_cases he : 2 ≤ loE B m - 2 * k
    · have e : Q (loE B m - 2 * k) = 4 * Q (loE B m - 2 * (k + 1)) := by
        have := Q_add 2 (loE B m - 2 * (k + 1))
        rw [show 2 + (loE B m - 2 * (k + 1)) = loE B m - 2 * k by omega] at this
        rw [this]; rfl
      omega
    · have e1 : Q (loE B m - 2 * k) ≤ 2 := by
        have := Q_mono (show loE B m - 2 * k ≤ 1 by omega)
        have e : Q 1 = 2 := rfl
        omega
      have q := Q_pos (loE B m - 2 * (k + 1))
      omega
theorem lo_up {x : Int} {B m : Nat} (h : LoIn x B m) (n : Nat) : (lpT x B m n).2 ≤ Q (loE B m) := by
  by_cases hn : n ≤ 4 * (B + 8)
  · have a := lo_low h n
    have := Q_mono (show m + 4 + 8 * n ≤ loE B m by unfold loE; omega)
    omega
  · have a := lo_fall h (n - 4 * (B + 8))
    rw [show 4 * (B + 8) + (n - 4 * (B + 8)) = n by omega] at a
    have := Q_mono (show loE B m - 2 * (n - 4 * (B + 8)) ≤ loE B m by omega)
    omega
theorem lo_stop {x : Int} {B m : Nat} (h : LoIn x B m) : ∃ N, N ≤ 4 * (B + 8) + (loE B m / 2 + 1) ∧ LoStop x B m N := by
  have a := lo_fall h (loE B m / 2 + 1)
  have e : Q (loE B m - 2 * (loE B m / 2 + 1)) = 1 := by rw [show loE B m - 2 * (loE B m / 2 + 1) = 0 by omega]; rfl
  rw [e] at a
  obtain ⟨N, n1, n2, n3⟩ := exists_least (p := fun N => 2 * B < N ∧ (lpT x B m N).2 ≤ 1) (K := 4 * (B + 8) + (loE B m / 2 + 1)) ⟨by have := h.b0; omega, a⟩
  refine ⟨N, n1, n2.1, n2.2, fun n h1 h2 => ?_⟩
  exact Int.not_le.1 fun hh => n3 n h2 ⟨h1, hh⟩
theorem lt_abs {x : Int} {B m : Nat} (h : LoIn x B m) (n : Nat) : Abs (ltT x B m n) (Q (loE B m)) := by
  have l := lpT_le h n
  have u := lo_up h n
  have q := Q_pos (loE B m)
  exact scaleI_abs (m := Q (loE B m)) ⟨by omega, by omega, by omega, u⟩ (by omega) (by omega) (by omega)
theorem ls_abs {x : Int} {B m : Nat} (h : LoIn x B m) (n : Nat) : Abs (lsT x B m n) (((n : Int) + 1) * Q (loE B m)) := by
  induction n with
  | zero =>
    have l := lpT_le h 0
    have u := lo_up h 0
    have q := Q_pos (loE B m)
    have e : (((0 : Nat) : Int) + 1) * Q (loE B m) = Q (loE B m) := by omega
    rw [e]
    exact ⟨by show _ ≤ (lpT x B m 0).1; omega, by show (lpT x B m 0).1 ≤ _; omega, by show _ ≤ (lpT x B m 0).2; omega, u⟩
  | succ n ih =>
    obtain ⟨a1, a2, a3, a4⟩ := ih
    obtain ⟨b1, b2, b3, b4⟩ := lt_abs h (n + 1)
    have e : (((n + 1 : Nat) : Int) + 1) * Q (loE B m) = ((n : Int) + 1) * Q (loE B m) + Q (loE B m) := by push_cast; grind
    rw [e]
    show Abs (if (n + 1) % 2 = 1 then subI (lsT x B m n) (ltT x B m (n + 1)) else addI (lsT x B m n) (ltT x B m (n + 1))) _
    split
    · exact ⟨by show _ ≤ (lsT x B m n).1 - (ltT x B m (n + 1)).2; omega, by show (lsT x B m n).1 - (ltT x B m (n + 1)).2 ≤ _; omega, by show _ ≤ (lsT x B m n).2 - (ltT x B m (n + 1)).1; omega, by show (lsT x B m n).2 - (ltT x B m (n + 1)).1 ≤ _; omega⟩
    · exact ⟨by show _ ≤ (lsT x B m n).1 + (ltT x B m (n + 1)).1; omega, by show (lsT x B m n).1 + (ltT x B m (n + 1)).1 ≤ _; omega, by show _ ≤ (lsT x B m n).2 + (ltT x B m (n + 1)).2; omega, by show (lsT x B m n).2 + (ltT x B m (n + 1)).2 ≤ _; omega⟩
end Go.Proofs.YtgmnknmjainababGreat

namespace Go.Proofs.YtgmnknmjainababGreat
set_option linter.unusedVariables false
set_option linter.unusedSimpArgs false
set_option linter.unnecessarySimpa false
open Go.RowKit
attribute [local go_sem ↓] Go.wp_at_zero Go.wp_at_succ

theorem len_Q {w : World} {neg : Bool} {a : Option Addr} {n cap k : Nat} {x : Int} (h : IntAt w neg a n cap k x) (hx : 0 ≤ x) (hk : k ≤ 100000000) : ∃ (d : Nat → Int) (L : Nat), Dig w a n cap d ∧ lenZ n d = (L : Int) ∧ x < Q L ∧ L ≤ 16 * k := by
  obtain ⟨d, g1, g2, g3, g4, g5⟩ := h
  rcases Nat.eq_zero_or_pos n with h0 | h0
  · subst h0
    refine ⟨d, 0, g1, by simp [lenZ], ?_, by omega⟩
    have : x = 0 := by rw [g5]; cases neg <;> simp [sgn, V]
    rw [this]; simp [Q]
  · obtain ⟨L, l1, l2, l3⟩ := lenZ_Q g1.dgs h0 (by omega)
    have hxV : V d n = x := by
      have := V_nonneg g1.dgs n
      cases neg
      · simpa [sgn] using g5.symm
      · simp [sgn] at g5; omega
    refine ⟨d, L + 1, g1, by rw [l1]; omega, by rw [← hxV]; exact l3, ?_⟩
    have := lenZ_le n d; omega
theorem NoI.put2 {w : World} {B B' : Nat} (h : NoI w B) (hne : B ≠ B') (u0 u1 : Value) : NoI ((w.setCell ⟨B', 0, none⟩ u0).setCell ⟨B', 1, none⟩ u1) B := by
  obtain ⟨q0, q1, q2⟩ := h
  exact ⟨cell_put2 q0 hne _ _, cell_put2 q1 hne _ _, fun o => by rw [frozen_set', frozen_set']; exact q2 o⟩
theorem bisect {x l h : Int} (hl : 0 ≤ l) (h1 : l + 1 < h) : l < (l + h) / 2 ∧ (l + h) / 2 < h := by omega

theorem cmp_le_dec (x y : Int) : decide (cmpInt x y ≤ 0) = decide (x ≤ y) := by unfold cmpInt; split <;> (try split) <;> simp <;> omega
/-- What a round of RootDown stands on: the two ends in their variables, the number, and the result's own place. -/
structure RDs (w wr : World) (BL BH : Nat) (X Y : Nm) (neg : Bool) (a : Option Addr) (n cap k : Nat) (x zl zh : Int) : Prop where
  hX : NmC wr BL X
  hY : NmC wr BH Y
  fL : ∀ o, wr.frozen? ⟨BL, o, none⟩ = false
  fH : ∀ o, wr.frozen? ⟨BH, o, none⟩ = false
  hl : IntAt wr X.neg X.a X.n X.cap (k + 2) zl
  hh : IntAt wr Y.neg Y.a Y.n Y.cap (k + 2) zh
  A : NmC wr w.heap.size ⟨neg, a, n, cap⟩
  R : NoI wr (w.heap.size + 1)
  hx : IntAt wr neg a n cap k x
  hB : Below w.heap.size w wr
theorem RDs.below {w wr w' : World} {BL BH : Nat} {X Y : Nm} {neg : Bool} {a : Option Addr} {n cap k : Nat} {x zl zh : Int} (h : RDs w wr BL BH X Y neg a n cap k x zl zh) (hb : Below wr.heap.size wr w') : RDs w w' BL BH X Y neg a n cap k x zl zh :=
  ⟨h.hX.below hb, h.hY.below hb, fun o => (hb.frozen (p := ⟨BL, o, none⟩) h.hX.lt).trans (h.fL o), fun o => (hb.frozen (p := ⟨BH, o, none⟩) h.hY.lt).trans (h.fH o), h.hl.below hb, h.hh.below hb, h.A.below hb, h.R.below hb, h.hx.below hb, bthen h.hB hb⟩

set_option maxRecDepth 100000 in
set_option maxHeartbeats 4000000 in
theorem rootDown_int (neg : Bool) (a : Option Addr) (n cap k : Nat) (x : Int) (w : World) (h1 : IntAt w neg a n cap k x) (hk : k ≤ 100000000) (hx : 0 ≤ x) :
    Calls Tryz.prog 107 #[.agg #[.bool neg, .slice a n cap]] w (IntAns w (k + 10) (rtZ x)) := by
  obtain ⟨d, L, g1, l1, l2, l3⟩ := len_Q h1 hx hk
  obtain ⟨K0, hK0⟩ : ∃ K0 : Nat, (L : Int) / 2 + 1 = (K0 : Int) := ⟨L / 2 + 1, by omega⟩
  have hK0' : L + 1 ≤ 2 * K0 ∧ K0 ≤ L + 1 := by omega
  have hl0 : 0 ≤ (L : Int) := by omega
  have hlb : (L : Int) ≤ 1600000000 := by omega
  have hq0 := Q_pos K0
  have hsq : x < Q K0 * Q K0 := by
    rw [← Q_add]
    have := Q_mono (show L ≤ K0 + K0 by omega); omega
  have hPk : Q K0 < P (k + 2) := by
    rw [← Q_P]
    have h5 := Q_mono (show K0 + 1 ≤ 16 * (k + 2) by omega)
    simp only [Q] at h5; omega
  have HSQ := hide hsq
  obtain ⟨W, hW⟩ : ∃ W, W = (w.alloc (.cells #[.bool neg, .slice a n cap] 26)).alloc (.cells #[.bool false, .slice none 0 0] 26) := ⟨_, rfl⟩
  have hBW : Below w.heap.size w W := by rw [hW]; exact bl2 _ _ _
  have A : NmC W w.heap.size ⟨neg, a, n, cap⟩ := by rw [hW]; exact ⟨by simp [go_sem], by simp [go_sem]⟩
  have R : NoI W (w.heap.size + 1) := by rw [hW]; exact ⟨by simp [go_sem], by simp [go_sem], fun o => by simp [go_sem]⟩
  have GD := hide (g1.below hBW)
  have HX := hide (h1.below hBW)
  have HL := hide l1
  have HK0 := hide hK0'
  clear g1 h1 l1 hsq l2 l3 hK0'
  go_enter Tryz.func107, Tryz.ntmps107
  go_wp2_with fail
  rw [← hW]
  clear hW
  refine (len_any _ _ _ _ d _ (unhide GD)).mono ?_
  rintro r w0 ⟨rfl, hb0⟩
  rw [unhide HL]
  replace A := A.below hb0
  replace R := R.below hb0
  replace hBW := bthen hBW hb0
  replace HX := hide ((unhide HX).below hb0)
  clear hb0 GD
  go_wp2_with fail
  refine (power2_int K0 _ (by have := unhide HK0; omega)).mono ?_
  rintro r w1 ⟨neg1, a1, n1, c1, rfl, hint1, hb1⟩
  replace A := A.below hb1
  replace R := R.below hb1
  replace hBW := bthen hBW hb1
  replace HX := hide ((unhide HX).below hb1)
  clear hb1
  have hint0 := hint1.fit (by omega) hPk
  obtain ⟨W1, hW1⟩ : ∃ W', W' = (w1.alloc (.cells #[.bool false, .slice none 0 0] 26)).alloc (.cells #[.bool neg1, .slice a1 n1 c1] 26) := ⟨_, rfl⟩
  have hc1 : Below w1.heap.size w1 W1 := by rw [hW1]; exact bl2 _ _ _
  have X0 : NmC W1 w1.heap.size ⟨false, none, 0, 0⟩ := by rw [hW1]; exact ⟨by simp [go_sem], by simp [go_sem]⟩
  have Y0 : NmC W1 (w1.heap.size + 1) ⟨neg1, a1, n1, c1⟩ := by rw [hW1]; exact ⟨by simp [go_sem], by simp [go_sem]⟩
  have F0 : ∀ o, W1.frozen? ⟨w1.heap.size, o, none⟩ = false := by intro o; rw [hW1]; simp [go_sem]
  have F1 : ∀ o, W1.frozen? ⟨w1.heap.size + 1, o, none⟩ = false := by intro o; rw [hW1]; simp [go_sem]
  have nAL : w.heap.size ≠ w1.heap.size := Nat.ne_of_lt A.lt
  have nAH : w.heap.size ≠ w1.heap.size + 1 := Nat.ne_of_lt (Nat.lt_succ_of_lt A.lt)
  have nRL : w.heap.size + 1 ≠ w1.heap.size := Nat.ne_of_lt R.lt
  have nRH : w.heap.size + 1 ≠ w1.heap.size + 1 := Nat.ne_of_lt (Nat.lt_succ_of_lt R.lt)
  have hwL : w.heap.size ≤ w1.heap.size := hBW.size
  have hwH : w.heap.size ≤ w1.heap.size + 1 := Nat.le_succ_of_le hBW.size
  go_wp2_with fail
  rw [← hW1]
  clear hW1
  replace A := A.below hc1
  replace R := R.below hc1
  replace hBW := bthen hBW hc1
  replace HX := hide ((unhide HX).below hc1)
  replace hint0 := hint0.below hc1
  obtain ⟨BL, hBL⟩ : ∃ BL, BL = w1.heap.size := ⟨_, rfl⟩
  obtain ⟨BH, hBH⟩ : ∃ BH, BH = w1.heap.size + 1 := ⟨_, rfl⟩
  have nLH : BL ≠ BH := by rw [hBL, hBH]; exact Nat.ne_of_lt (Nat.lt_succ_self _)
  have nHL : BH ≠ BL := fun e => nLH e.symm
  rw [← hBH] at Y0 F1 nAH nRH hwH ⊢
  rw [← hBL] at X0 F0 nAL nRL hwL ⊢
  clear hBL hBH
  clear hc1 HL hint1
  go_loopg [5] (Q K0).toNat (fun gg p wr => ∃ (X Y : Nm) (zl zh : Int), RDs w wr BL BH X Y neg a n cap k x zl zh ∧ 0 ≤ zl ∧ zl < zh ∧ zh ≤ Q K0 ∧ zl * zl ≤ x ∧ x < zh * zh ∧ (zh - zl).toNat ≤ gg)
  case atStart =>
    exact ⟨⟨false, none, 0, 0⟩, ⟨neg1, a1, n1, c1⟩, 0, Q K0, ⟨X0, Y0, F0, F1, zeroInt _ _, hint0, A, R, unhide HX, hBW⟩, Int.le_refl _, by omega, Int.le_refl _, by omega, unhide HSQ, by omega⟩
  case round =>
    obtain ⟨X, Y, zl, zh, D, h0, hlt, hq, hsl, hsh, hg⟩ := hrel
    have HSL := hide hsl
    have HSH := hide hsh
    clear hsl hsh
    have lL := D.hX.lt
    have lH := D.hY.lt
    have lA := D.A.lt
    have lR := D.R.lt
    obtain ⟨i0, i1⟩ := D.hX
    obtain ⟨i2, i3⟩ := D.hY
    go_wp2_with fail
    refine (sub_int _ _ _ _ _ _ _ _ (k + 2) (k + 2) zh zl _ D.hh D.hl (by omega) (by omega)).mono ?_
    rintro r w2 ⟨neg2, a2, n2, c2, rfl, hint2, hb2⟩
    replace D := D.below hb2
    go_wp2_with fail
    refine (numOf_int 1 _ (by decide) (by decide)).mono ?_
    rintro r w3 ⟨neg3, a3, n3, c3, rfl, hint3, hb3⟩
    replace D := D.below hb3
    replace hint2 := hint2.below hb3
    go_wp2_with fail
    refine (cmp_int _ _ _ _ _ _ _ _ _ 4 (zh - zl) 1 _ hint2 hint3).mono ?_
    rintro r w4 ⟨rfl, hb4⟩
    replace D := D.below hb4
    clear hint2 hint3 hb2 hb3 hb4 i0 i1 i2 i3 lL lH lA lR
    have lL := D.hX.lt
    have lH := D.hY.lt
    have lA := D.A.lt
    have lR := D.R.lt
    obtain ⟨i0, i1⟩ := D.hX
    obtain ⟨i2, i3⟩ := D.hY
    by_cases hgo : 1 < zh - zl
    · have t1 : 0 < cmpInt (zh - zl) 1 := by unfold cmpInt; rw [if_neg (by omega), if_pos hgo]; omega
      obtain ⟨md, hmd⟩ : ∃ md, md = (zl + zh) / 2 := ⟨_, rfl⟩
      obtain ⟨m1, m2⟩ := bisect (x := x) h0 (show zl + 1 < zh by omega)
      rw [← hmd] at m1 m2
      have HMD := hide (show (zl + zh) / Q 1 = md from hmd.symm)
      clear hmd hgo
      go_wp2_with fail
      refine (add_int _ _ _ _ _ _ _ _ (k + 2) (k + 2) zl zh _ D.hl D.hh (by omega) (by omega)).mono ?_
      rintro r w5 ⟨neg5, a5, n5, c5, rfl, hint5, hb5⟩
      replace D := D.below hb5
      go_wp2_with fail
      refine (down_int _ _ _ _ 1 _ (zl + zh) _ hint5 (by omega) (by omega)).mono ?_
      rintro r w6 ⟨neg6, a6, n6, c6, rfl, hint6, hb6⟩
      replace D := D.below hb6
      rw [unhide HMD] at hint6
      have hint6 := hint6.fit (K := k + 2) (by omega) (by omega)
      clear hint5 hb5 hb6
      obtain ⟨W6, hW6⟩ : ∃ W', W' = w6.alloc (.cells #[.bool neg6, .slice a6 n6 c6] 26) := ⟨_, rfl⟩
      have hc6 : Below w6.heap.size w6 W6 := by rw [hW6]; exact bl1 _ _
      have X6 : NmC W6 w6.heap.size ⟨neg6, a6, n6, c6⟩ := by rw [hW6]; exact nmc_new w6 ⟨neg6, a6, n6, c6⟩ _
      have n6L : w6.heap.size ≠ BL := Nat.ne_of_gt D.hX.lt
      have n6H : w6.heap.size ≠ BH := Nat.ne_of_gt D.hY.lt
      replace D := D.below hc6
      replace hint6 := hide (hint6.below hc6)
      have HD := hide D
      have HK6 := hide (show ∀ w', Below W6.heap.size W6 w' → (w'.cell? ⟨w6.heap.size, 0, none⟩ = some (.bool neg6) ∧ w'.cell? ⟨w6.heap.size, 1, none⟩ = some (.slice a6 n6 c6) ∧ w'.cell? ⟨w.heap.size, 0, none⟩ = some (.bool neg) ∧ w'.cell? ⟨w.heap.size, 1, none⟩ = some (.slice a n cap)) from fun w' hB => ⟨(X6.below hB).c0, (X6.below hB).c1, (D.below hB).A.c0, (D.below hB).A.c1⟩)
      clear i0 i1 i2 i3 lL lH lA lR
      have l6 := X6.lt
      have lA := D.A.lt
      obtain ⟨j0, j1, j2, j3⟩ := unhide HK6 _ (Below.refl _ _)
      go_wp2_with fail
      rw [← hW6]
      clear hW6
      go_cut [27] (fun p wx => p = .bool (decide (md * md ≤ x)) ∧ Below W6.heap.size W6 wx)
      case first =>
        go_region_held3 (fun w' => w'.cell? ⟨w6.heap.size, 0, none⟩ = some (.bool neg6) ∧ w'.cell? ⟨w6.heap.size, 1, none⟩ = some (.slice a6 n6 c6) ∧ w'.cell? ⟨w.heap.size, 0, none⟩ = some (.bool neg) ∧ w'.cell? ⟨w.heap.size, 1, none⟩ = some (.slice a n cap)) (exact unhide HK6 _ (by (repeat' (first | with_reducible exact hB8 | with_reducible exact hB7 | with_reducible exact Below.refl _ _ | with_reducible refine Below.drew ?_ | with_reducible refine balloc ?_ _))))
          (first
            | (go_at_call 46; have hq9 := hB7; refine (cmp_int _ _ _ _ _ _ _ _ _ k (md * md) x _ (hint7.below (by (repeat' (first | with_reducible exact Below.refl _ _ | with_reducible refine Below.drew ?_ | with_reducible refine balloc ?_ _)))) ((unhide HD).hx.below (by (repeat' (first | with_reducible exact hB7 | with_reducible exact Below.refl _ _ | with_reducible refine Below.drew ?_ | with_reducible refine balloc ?_ _))))).mono ?_; rintro r w8 ⟨rfl, hb8⟩; have hB8 := bthen hB7 hb8)
            | (go_at_call 66; refine (mul_int _ _ _ _ _ _ _ _ (k + 2) (k + 2) md md _ ((unhide hint6).below (by (repeat' (first | with_reducible exact Below.refl _ _ | with_reducible refine Below.drew ?_ | with_reducible refine balloc ?_ _)))) ((unhide hint6).below (by (repeat' (first | with_reducible exact Below.refl _ _ | with_reducible refine Below.drew ?_ | with_reducible refine balloc ?_ _)))) (by omega) (by omega)).mono ?_; rintro r w7 ⟨neg7, a7, n7, c7, rfl, hint7, hb7⟩; have hB7 : Below W6.heap.size W6 w7 := bthen (by (repeat' (first | with_reducible exact Below.refl _ _ | with_reducible refine Below.drew ?_ | with_reducible refine balloc ?_ _))) hb7))
        all_goals
          go_wp2_with fail
          go_meet
          refine ⟨?_, (by (repeat' (first | with_reducible exact hB8 | with_reducible exact Below.refl _ _ | with_reducible refine Below.drew ?_ | with_reducible refine balloc ?_ _)))⟩
          congr 1
          exact cmp_le_dec _ _
      case rest =>
      obtain ⟨rfl, hbl⟩ := hcut
      replace D := D.below hbl
      replace X6 := X6.below hbl
      replace hint6 := (unhide hint6).below hbl
      clear HK6 HD hbl l6 lA j0 j1 j2 j3
      have lL := D.hX.lt
      have lH := D.hY.lt
      have l6 := X6.lt
      have fL := D.fL
      have fH := D.fH
      obtain ⟨i0, i1⟩ := D.hX
      obtain ⟨i2, i3⟩ := D.hY
      obtain ⟨j0, j1⟩ := X6
      by_cases hle : md * md ≤ x
      · have hd : decide (md * md ≤ x) = true := decide_eq_true hle
        have HLE := hide hle
        clear hle
        rw [hd]
        go_wp2_with fail
        go_roundg (zh - md).toNat
        case rel =>
          refine ⟨⟨neg6, a6, n6, c6⟩, Y, md, zh, ⟨⟨by simp [go_sem, i0, i1], by simp [go_sem, i0, i1]⟩, D.hY.put2 nHL _ _, fun o => by rw [frozen_set', frozen_set']; exact fL o, fun o => by rw [frozen_set', frozen_set']; exact fH o, hint6.put2 i0 i1 _ _, D.hh.put2 i0 i1 _ _, D.A.put2 nAL _ _, D.R.put2 nRL _ _, D.hx.put2 i0 i1 _ _, set2 D.hB hwL _ _⟩, by omega, by omega, hq, unhide HLE, unhide HSH, Nat.le_refl _⟩
        case measure => omega
      · have hd : decide (md * md ≤ x) = false := decide_eq_false hle
        have HLE := hide (Int.not_le.mp hle)
        clear hle
        rw [hd]
        go_wp2_with fail
        go_roundg (md - zl).toNat
        case rel =>
          refine ⟨X, ⟨neg6, a6, n6, c6⟩, zl, md, ⟨D.hX.put2 nLH _ _, ⟨by simp [go_sem, i2, i3], by simp [go_sem, i2, i3]⟩, fun o => by rw [frozen_set', frozen_set']; exact fL o, fun o => by rw [frozen_set', frozen_set']; exact fH o, D.hl.put2 i2 i3 _ _, hint6.put2 i2 i3 _ _, D.A.put2 nAH _ _, D.R.put2 nRH _ _, D.hx.put2 i2 i3 _ _, set2 D.hB hwH _ _⟩, h0, by omega, by omega, unhide HSL, unhide HLE, Nat.le_refl _⟩
        case measure => omega
    · have t1 : ¬ 0 < cmpInt (zh - zl) 1 := by unfold cmpInt; split <;> (try split) <;> omega
      have HE := hide (show rtZ x = zl by
        have h9 : zh = zl + 1 := by omega
        have := unhide HSL
        have h8 := unhide HSH
        rw [h9] at h8
        obtain ⟨p1, p2⟩ := rtZ_sq hx
        exact root_uniq (rtZ_nonneg x) h0 p1 p2 this h8)
      clear hgo
      have q := D.R
      obtain ⟨q0, q1, q2⟩ := q
      go_wp2_with fail
      refine bodyPost_ret (v := .agg #[.bool X.neg, .slice X.a X.n X.cap]) (by simp [results, Tryz.results107, go_sem, lR, q0, q1]) rfl ⟨X.neg, X.a, X.n, X.cap, rfl, ?_, ?_⟩
      · rw [unhide HE]; exact (D.hl.put2 q0 q1 _ _).mono (by omega)
      · exact set2 D.hB (Nat.le_succ _) _ _
end Go.Proofs.YtgmnknmjainababGreat
