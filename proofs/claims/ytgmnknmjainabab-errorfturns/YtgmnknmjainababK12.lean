/-
  The error function is never more than 1, the end of it. Plain arithmetic: no statement of the seat is proved here.
  Roots of numbers that are told by sequences. Plain arithmetic: no statement of the seat is proved here.
  The error function itself, as a quotient of what is made: it grows, and is never more than 1. Plain arithmetic: no statement of the seat is proved here.
  What the ways that wide.Div hands to wide.corners answer, and wide.corners of them, and that they leave old memory alone.
  What wide.Div answers of right spans, the second one more than 0, and that it leaves old memory alone.
  What wide.Div answers of right spans, the second one less than 0; and both ways together; and that it leaves old memory alone.
-/
import Derived.Test.YtgmnknmjainababK11
namespace Go.Proofs.Ytgmnknmjainabab.Ex
set_option linter.unusedVariables false

theorem LeN.scale {f g : Nat → Rat} (h : LeN f g) {c : Rat} (hc : 0 ≤ c) : LeN (fun M => c * f M) (fun M => c * g M) := by
  obtain ⟨z, hz, k⟩ := h.null
  exact LeN.of_null (hz.bmul (Bdd.const c)) 0 fun M _ => by have := Rat.mul_le_mul_of_nonneg_left (k M) hc; grind
/-- From a to b the error function grows at most as fast as at a. -/
theorem eF_chord {Y K V a b : Rat} (B : Bnd Y K V) (ha : 0 ≤ a) (hab : a ≤ b) (hb : b ≤ Y) : LeN (eF b) (fun M => eF a M + (b - a) * ex (-(a * a)) M) := by
  obtain ⟨C, D, c0, d0, _, up⟩ := eF_up B
  have d := descend (f := fun x M => eF x M - (x - a) * ex (-(a * a)) M) (a := a) (b := b) (C := C) (D := D) hab c0 d0 (fun x h h1 h2 h3 h4 => by
    obtain ⟨z, hz, N, k⟩ := up x h (by grind) h2 h3 (by grind)
    have xx : -(x * x) ≤ -(a * a) := by
      have := Rat.mul_le_mul_of_nonneg_left h1 ha
      have := Rat.mul_le_mul_of_nonneg_right h1 (show 0 ≤ x by grind)
      grind
    obtain ⟨z2, hz2, k2⟩ := ((ex_mono xx).scale (Rat.le_of_lt h2)).null
    exact ⟨_, hz.add hz2, N, fun M hM => by have := k M hM; have := k2 M; grind⟩)
  intro e he
  obtain ⟨N, k⟩ := d e he
  exact ⟨N, fun M hM => by have := k M hM; grind⟩
theorem eF_zero (M : Nat) : eF 0 M = 0 := by
  have h : ∀ n, eT 0 n = 0 := fun n => by
    induction n with
    | zero => rfl
    | succ n ih => show _ * eT 0 n = 0; rw [ih]; grind
  have : eS 0 M = 0 := by
    unfold eS
    induction M with
    | zero => rfl
    | succ n ih => show S (eT 0) n + eT 0 n = 0; rw [ih, h]; grind
  rw [eF_ex, this]; grind
/-- The error function lies below the sum of what stands at the left. -/
theorem eF_left {Y K V x h : Rat} (B : Bnd Y K V) (hx : 0 ≤ x) (hh : 0 ≤ h) (j : Nat) (hj : (j : Rat) * h * x ≤ Y) : LeN (eF ((j : Rat) * h * x)) (fun M => S (fun i => x * h * ex (-(((i : Rat) * h * x) * ((i : Rat) * h * x))) M) j) := by
  induction j with
  | zero =>
    refine LeN.of_le 0 fun M _ => ?_
    rw [show ((0 : Nat) : Rat) * h * x = 0 by grind, eF_zero]
    show (0 : Rat) ≤ 0
    grind
  | succ j ih =>
    have ec : ((j + 1 : Nat) : Rat) = (j : Rat) + 1 := by push_cast; rfl
    have j0 : (0 : Rat) ≤ (j : Rat) := by exact_mod_cast Nat.zero_le j
    have hx0 := Rat.mul_nonneg hh hx
    have jh := Rat.mul_nonneg (Rat.mul_nonneg j0 hh) hx
    rw [ec] at hj ⊢
    have e : ((j : Rat) + 1) * h * x = (j : Rat) * h * x + h * x := by grind
    have ih' := ih (by grind)
    have c := eF_chord B jh (show (j : Rat) * h * x ≤ ((j : Rat) + 1) * h * x by grind) hj
    refine c.trans ?_
    have := ih'.add (LeN.refl (fun M => (((j : Rat) + 1) * h * x - (j : Rat) * h * x) * ex (-(((j : Rat) * h * x) * ((j : Rat) * h * x))) M))
    refine this.trans (LeN.of_le 0 fun M _ => ?_)
    show _ ≤ S (fun i => x * h * ex (-(((i : Rat) * h * x) * ((i : Rat) * h * x))) M) j + x * h * ex (-(((j : Rat) * h * x) * ((j : Rat) * h * x))) M
    grind
/-- What is left of the angle. -/
def gG (h x : Rat) (n M : Nat) : Rat := S (fun i => h * rI ((i : Rat) * h) * ex (-(x * x * (1 + ((i : Rat) * h) * ((i : Rat) * h)))) M) n
def gE (h x : Rat) (n M : Nat) : Rat := S (fun i => h * ex (-(((i : Rat) * h * x) * ((i : Rat) * h * x))) M) n
theorem gG_pos {h : Rat} (hh : 0 ≤ h) (x : Rat) (n : Nat) : ∃ N : Nat, ∀ M, N ≤ M → 0 ≤ gG h x n M := by
  induction n with
  | zero => exact ⟨0, fun M _ => by show (0 : Rat) ≤ 0; grind⟩
  | succ n ih =>
    obtain ⟨N1, k1⟩ := ih
    obtain ⟨N2, k2⟩ := ex_pos (-(x * x * (1 + ((n : Rat) * h) * ((n : Rat) * h))))
    refine ⟨N1 + N2, fun M hM => ?_⟩
    have a1 := k1 M (by omega)
    have a2 := Rat.mul_nonneg (Rat.mul_nonneg hh (Rat.le_of_lt (rI_pos ((n : Rat) * h)))) (k2 M (by omega))
    show 0 ≤ gG h x n M + h * rI ((n : Rat) * h) * ex (-(x * x * (1 + ((n : Rat) * h) * ((n : Rat) * h)))) M
    grind
/-- One of its parts, a little farther. -/
theorem part_step {Y K V x k s : Rat} (B : Bnd Y K V) (hx : 0 ≤ x) (hk : 0 < k) (k1 : k ≤ 1) (hY : x + k ≤ Y) (hs : 0 ≤ s) (hs1 : s ≤ 1) (hD : 8 * (k * (2 * Y + 1)) ≤ 1) :
    ∃ z, Null z ∧ ∃ N : Nat, ∀ M, N ≤ M → rI s * ex (-((x + k) * (x + k) * (1 + s * s))) M ≤ rI s * ex (-(x * x * (1 + s * s))) M - 2 * (x * k) * (ex (-(x * x)) M * ex (-((s * x) * (s * x))) M) + 8 * ((2 * Y + 1) * (2 * Y + 1)) * V * (k * k) + z M := by
  obtain ⟨c, hc⟩ : ∃ c, c = 1 + s * s := ⟨_, rfl⟩
  have k0 := Rat.le_of_lt hk
  have y0 := B.y0
  have ss : s * s ≤ 1 := by have := Rat.mul_le_mul_of_nonneg_left hs1 hs; grind
  have ss0 := sq_nonneg s
  have rc : rI s * c = 1 := by rw [hc]; exact rI_mul s
  have r0 := Rat.le_of_lt (rI_pos s)
  have r1 := rI_le s
  obtain ⟨t, ht⟩ : ∃ t, t = k * (2 * x + k) * c := ⟨_, rfl⟩
  obtain ⟨A, hA⟩ : ∃ A, A = 2 * Y + 1 := ⟨_, rfl⟩
  have A0 : 0 ≤ A := by grind
  have aA : 2 * x + k ≤ A := by grind
  have ka : k * (2 * x + k) ≤ k * A := Rat.mul_le_mul_of_nonneg_left aA k0
  have ka0 : 0 ≤ k * (2 * x + k) := Rat.mul_nonneg k0 (by grind)
  have t0 : 0 ≤ t := by rw [ht]; exact Rat.mul_nonneg ka0 (by grind)
  have t2 : t ≤ 2 * (k * A) := by
    have a := Rat.mul_le_mul_of_nonneg_left (show c ≤ 2 by grind) ka0
    rw [ht]; grind
  have t4 : t ≤ 1 / 4 := by rw [← hA] at hD; grind
  obtain ⟨z, hz, N1, h1⟩ := ex_step (a := -(x * x * c)) t0 t4
  have hadd := (ex_add (-(x * x)) (-((s * x) * (s * x))))
  obtain ⟨N2, h2⟩ := ex_pos (-(x * x * c))
  refine ⟨_, hz.add (hadd.bmul (Bdd.const (2 * (x * k)))) |>.add hz.neg |>.add (hz.bmul (Bdd.const (rI s))), N1 + N2, fun M hM => ?_⟩
  have a1 := h1 M (by omega)
  have v0 := h2 M (by omega)
  have vV : ex (-(x * x * c)) M ≤ V := B.v _ (Rat.mul_nonneg (sq_nonneg x) (by grind)) (by
    have xx : x * x ≤ Y * Y := Rat.le_trans (Rat.mul_le_mul_of_nonneg_left (show x ≤ Y by grind) hx) (Rat.mul_le_mul_of_nonneg_right (show x ≤ Y by grind) y0)
    have p1 := Rat.mul_le_mul_of_nonneg_left (show c ≤ 2 by grind) (sq_nonneg x)
    grind) M
  have e1 : -((x + k) * (x + k) * c) = -(x * x * c) + -t := by rw [ht]; grind
  have e2 : -(x * x) + -((s * x) * (s * x)) = -(x * x * c) := by rw [hc]; grind
  rw [← hc, e1]
  rw [e2]
  have m1 := Rat.mul_le_mul_of_nonneg_left a1 r0
  have tt : t * t ≤ 4 * (A * A) * (k * k) := by
    have p1 := Rat.mul_le_mul_of_nonneg_left t2 t0
    have p2 := Rat.mul_le_mul_of_nonneg_right t2 (show 0 ≤ 2 * (k * A) by have := Rat.mul_nonneg k0 A0; grind)
    grind
  -- rI (- t) is at most -2 x k
  have rt : 2 * (x * k) ≤ rI s * t := by
    have : rI s * t = k * (2 * x + k) * (rI s * c) := by rw [ht]; grind
    rw [this, rc]
    have := Rat.mul_nonneg k0 k0
    grind
  have m2 := Rat.mul_le_mul_of_nonneg_right rt v0
  have tt0 := sq_nonneg t
  have m3 := Rat.mul_le_mul_of_nonneg_right r1 tt0
  have m4 := Rat.mul_le_mul_of_nonneg_right (show 2 * (rI s * (t * t)) ≤ 8 * (A * A) * (k * k) by grind) v0
  have AA := Rat.mul_nonneg (Rat.mul_nonneg A0 A0) (Rat.mul_nonneg k0 k0)
  have m5 := Rat.mul_le_mul_of_nonneg_left vV (show 0 ≤ 8 * (A * A * (k * k)) by grind)
  rw [← hA]
  generalize ex (-(x * x * c)) M = v at *
  generalize ex (-(x * x * c) + -t) M = vt at *
  generalize ex (-(x * x)) M * ex (-((s * x) * (s * x))) M = w at *
  clear hadd hz h1 h2
  grind
theorem gG_step {Y K V x k h : Rat} (B : Bnd Y K V) (hx : 0 ≤ x) (hk : 0 < k) (k1 : k ≤ 1) (hY : x + k ≤ Y) (hh : 0 ≤ h) (hD : 8 * (k * (2 * Y + 1)) ≤ 1) (n : Nat) (hn : (n : Rat) * h ≤ 1) :
    ∃ z, Null z ∧ ∃ N : Nat, ∀ M, N ≤ M → gG h (x + k) n M ≤ gG h x n M - 2 * (x * k) * (ex (-(x * x)) M * gE h x n M) + (n : Rat) * h * (8 * ((2 * Y + 1) * (2 * Y + 1)) * V * (k * k)) + z M := by
  induction n with
  | zero =>
    refine ⟨_, null_zero, 0, fun M _ => ?_⟩
    show (0 : Rat) ≤ 0 - 2 * (x * k) * (ex (-(x * x)) M * 0) + ((0 : Nat) : Rat) * h * _ + 0
    grind
  | succ n ih =>
    have ec : ((n + 1 : Nat) : Rat) = (n : Rat) + 1 := by push_cast; rfl
    have n0 : (0 : Rat) ≤ (n : Rat) := by exact_mod_cast Nat.zero_le n
    rw [ec] at hn
    obtain ⟨z1, hz1, N1, h1⟩ := ih (by grind)
    obtain ⟨z2, hz2, N2, h2⟩ := part_step B hx hk k1 hY (s := (n : Rat) * h) (Rat.mul_nonneg n0 hh) (by grind) hD
    refine ⟨_, hz1.add (hz2.bmul (Bdd.const h)), N1 + N2, fun M hM => ?_⟩
    have a1 := h1 M (by omega)
    have a2 := Rat.mul_le_mul_of_nonneg_left (h2 M (by omega)) hh
    show gG h (x + k) n M + h * rI ((n : Rat) * h) * ex (-((x + k) * (x + k) * (1 + ((n : Rat) * h) * ((n : Rat) * h)))) M ≤ gG h x n M + h * rI ((n : Rat) * h) * ex (-(x * x * (1 + ((n : Rat) * h) * ((n : Rat) * h)))) M - 2 * (x * k) * (ex (-(x * x)) M * (gE h x n M + h * ex (-(((n : Rat) * h * x) * ((n : Rat) * h * x))) M)) + ((n + 1 : Nat) : Rat) * h * (8 * ((2 * Y + 1) * (2 * Y + 1)) * V * (k * k)) + _
    rw [ec]
    grind
theorem gE_mul (h x : Rat) (n M : Nat) : S (fun i => x * h * ex (-(((i : Rat) * h * x) * ((i : Rat) * h * x))) M) n = x * gE h x n M := by
  unfold gE
  rw [← S_mul]
  exact S_congr n fun i _ => by grind
/-- The square of the error function is at most the sum that is nearly the angle whose tangent is 1. -/
theorem eF_sum {x h : Rat} (hx : 0 ≤ x) (hh : 0 < h) (n : Nat) (hn : (n : Rat) * h = 1) : LeN (fun M => eF x M * eF x M) (fun _ => S (fun i => h * rI ((i : Rat) * h)) n) := by
  obtain ⟨K, V, B⟩ := bnd_ex hx
  obtain ⟨C, D, c0, d0, d1, up⟩ := eF_up B
  have h0 := Rat.le_of_lt hh
  have k0 := B.k0
  have v1 := B.v1
  have A1 : 0 < 8 * (2 * x + 1) := by grind
  have dm : 1 / (8 * (2 * x + 1)) * (8 * (2 * x + 1)) = 1 := rdm A1
  have dp : 0 < 1 / (8 * (2 * x + 1)) := rdiv_pos (by grind) A1
  obtain ⟨D2, hD2, D2a, D2b⟩ : ∃ D2 : Rat, 0 < D2 ∧ D2 ≤ D ∧ D2 ≤ 1 / (8 * (2 * x + 1)) := by
    by_cases hc : D ≤ 1 / (8 * (2 * x + 1))
    · exact ⟨D, d0, by grind, hc⟩
    · exact ⟨_, dp, by grind, by grind⟩
  -- the error function is at most F
  obtain ⟨F, hF⟩ : ∃ F, F = K * V := ⟨_, rfl⟩
  have F0 : 0 ≤ F := by rw [hF]; exact Rat.mul_nonneg k0 (by grind)
  obtain ⟨C4, hC4⟩ : ∃ C4, C4 = V * V + 2 * (C * (F + V)) + C * C := ⟨_, rfl⟩
  have C40 : 0 ≤ C4 := by
    have a := Rat.mul_nonneg (show 0 ≤ V by grind) (show 0 ≤ V by grind)
    have b := Rat.mul_nonneg c0 (show 0 ≤ F + V by grind)
    have c := Rat.mul_nonneg c0 c0
    grind
  obtain ⟨C5, hC5⟩ : ∃ C5, C5 = 8 * ((2 * x + 1) * (2 * x + 1)) * V := ⟨_, rfl⟩
  have C50 : 0 ≤ C5 := by rw [hC5]; exact Rat.mul_nonneg (by have := Rat.mul_nonneg (show 0 ≤ 2 * x + 1 by grind) (show 0 ≤ 2 * x + 1 by grind); grind) (by grind)
  have d := descend (f := fun y M => eF y M * eF y M + gG h y n M) (a := 0) (b := x) (C := C4 + C5) (D := D2) hx (by grind) hD2 (fun y k hy hk hkD hyx => by
    obtain ⟨z1, hz1, N1, p1⟩ := up y k hy hk (by grind) hyx
    have k1 : k ≤ 1 := by grind
    have kq := Rat.le_of_lt hk
    obtain ⟨z2, hz2, N2, p2⟩ := gG_step B hy hk k1 hyx h0 (by have := Rat.mul_le_mul_of_nonneg_right (Rat.le_trans hkD D2b) (Rat.le_of_lt A1); grind) n (by grind)
    have left := eF_left (x := y) B hy h0 n (by rw [hn]; grind)
    rw [hn, show 1 * y = y by grind] at left
    obtain ⟨z3, hz3, p3⟩ := left.null
    obtain ⟨N3, ev⟩ := ex_pos (-(y * y))
    obtain ⟨N4, ev2⟩ := ex_pos (-((y + k) * (y + k)))
    have bF : Bdd (eF y) := by
      have : Bdd (eS y) := Bdd.of_le K 0 fun M _ => ⟨by have := eS_nonneg hy M; grind, B.s _ hy (by grind) M⟩
      exact this.mul (ex_bdd _)
    have bV := ex_bdd (-(y * y))
    -- (p + z)^2
    have bp : Bdd (fun M => eF y M + k * ex (-(y * y)) M + C * (k * k)) := (bF.add ((Bdd.const k).mul bV)).add (Bdd.const _)
    have q1 := hz1.bmul (bp.add bp)
    have q2 := hz1.bmul hz1.bdd
    have q3 := (hz3.bmul bV).bmul (Bdd.const (2 * k))
    refine ⟨_, ((q1.add q2).add q3).add hz2, N1 + N2 + N3 + N4, fun M hM => ?_⟩
    have a1 := p1 M (by omega)
    have a2 := p2 M (by omega)
    have a3 := p3 M
    rw [gE_mul] at a3
    have v0 := ev M (by omega)
    have e0 : 0 ≤ eF (y + k) M := Rat.mul_nonneg (eS_nonneg (by grind) M) (ev2 M (by omega))
    have f0 : 0 ≤ eF y M := Rat.mul_nonneg (eS_nonneg hy M) v0
    have vV : ex (-(y * y)) M ≤ V := B.v _ (sq_nonneg y) (by
      have xx : y * y ≤ x * x := Rat.le_trans (Rat.mul_le_mul_of_nonneg_left (show y ≤ x by grind) hy) (Rat.mul_le_mul_of_nonneg_right (show y ≤ x by grind) hx)
      have := Rat.mul_nonneg hx hx
      grind) M
    have fF : eF y M ≤ F := by
      rw [hF]
      exact Rat.le_trans (Rat.mul_le_mul_of_nonneg_right (B.s y hy (by grind) M) v0) (Rat.mul_le_mul_of_nonneg_left vV k0)
    rw [hn, ← hC5] at a2
    generalize eF (y + k) M = f' at *
    generalize eF y M = f at *
    generalize ex (-(y * y)) M = v at *
    generalize gG h (y + k) n M = g' at *
    generalize gG h y n M = g at *
    generalize gE h y n M = u at *
    generalize z1 M = z1 at *
    generalize z2 M = z2 at *
    generalize z3 M = z3 at *
    clear hz1 hz2 hz3 q1 q2 q3 bp bF bV left p1 p2 p3 up ev ev2
    obtain ⟨p, hp⟩ : ∃ p, p = f + k * v + C * (k * k) := ⟨_, rfl⟩
    have kk := Rat.mul_nonneg kq kq
    have kv := Rat.mul_nonneg kq v0
    have ckk := Rat.mul_nonneg c0 kk
    have p0 : 0 ≤ p := by grind
    have b1 : f' ≤ p + z1 := by grind
    have b2 : f' * f' ≤ (p + z1) * (p + z1) := Rat.le_trans (Rat.mul_le_mul_of_nonneg_left b1 e0) (Rat.mul_le_mul_of_nonneg_right b1 (show 0 ≤ p + z1 by grind))
    -- p p is at most f f + 2 k v f + C4 k k
    have b3 : p * p ≤ f * f + 2 * (k * v * f) + C4 * (k * k) := by
      have kk1 : k * k ≤ 1 := by have := Rat.mul_le_mul_of_nonneg_left k1 kq; grind
      have c1 : v * v ≤ V * V := Rat.le_trans (Rat.mul_le_mul_of_nonneg_left vV v0) (Rat.mul_le_mul_of_nonneg_right vV (show 0 ≤ V by grind))
      have c2 := Rat.mul_le_mul_of_nonneg_right c1 kk
      have kvV : k * v ≤ V := by have := Rat.mul_le_mul_of_nonneg_right k1 v0; grind
      have c3 := Rat.mul_le_mul_of_nonneg_left (show f + k * v ≤ F + V by grind) ckk
      have c4 := Rat.mul_le_mul_of_nonneg_left kk1 (Rat.mul_nonneg (Rat.mul_nonneg c0 c0) kk)
      rw [hp, hC4]
      grind
    have b4 := Rat.mul_le_mul_of_nonneg_left a3 kv
    rw [← hp]
    have r1 : (p + z1) * (p + z1) = p * p + 2 * (z1 * p) + z1 * z1 := by grind
    have r2 : k * v * (y * u + z3) = k * v * (y * u) + k * v * z3 := by grind
    have r3 : 2 * (y * k) * (v * u) = 2 * (k * v * (y * u)) := by grind
    have r4 : z1 * (p + p) + z1 * z1 + z3 * v * (2 * k) + z2 = 2 * (z1 * p) + z1 * z1 + 2 * (k * v * z3) + z2 := by grind
    have r5 : (C4 + C5) * (k * k) = C4 * (k * k) + C5 * (k * k) := by grind
    rw [r1] at b2
    rw [r2] at b4
    rw [r3, Rat.one_mul] at a2
    rw [r4, r5]
    generalize k * v * (y * u) = w1 at *
    generalize k * v * z3 = w2 at *
    generalize z1 * p = w3 at *
    generalize z1 * z1 = w4 at *
    generalize C4 * (k * k) = w5 at *
    generalize C5 * (k * k) = w6 at *
    generalize k * v * f = w7 at *
    generalize p * p = w8 at *
    generalize f' * f' = w9 at *
    generalize f * f = w10 at *
    clear vV fF hC4 hF hC5 dm r1 r2 r3 r4 r5 D2b A1 dp hn
    grind)
  obtain ⟨N2, pos⟩ := gG_pos h0 x n
  intro e he
  obtain ⟨N, k⟩ := d e he
  refine ⟨N + N2 + 1, fun M hM => ?_⟩
  have a1 : eF x M * eF x M + gG h x n M ≤ eF 0 M * eF 0 M + gG h 0 n M + e := k M (by omega)
  have a2 := pos M (by omega)
  show eF x M * eF x M ≤ S (fun i => h * rI ((i : Rat) * h)) n + e
  have a3 : gG h 0 n M = S (fun i => h * rI ((i : Rat) * h)) n := S_congr n fun i _ => by
    have e1 : -(0 * 0 * (1 + ((i : Rat) * h) * ((i : Rat) * h))) = (0 : Rat) := by grind
    have e2 : ex 0 M = 1 := by
      obtain ⟨m, rfl⟩ : ∃ m, M = m + 1 := ⟨M - 1, by omega⟩
      exact E_zero m
    rw [e1, e2]; grind
  rw [a3, eF_zero] at a1
  grind
/-- Four times the square of the error function is at most what the angles make. -/
theorem eF_pi {x : Rat} (hx : 0 ≤ x) : LeN (fun M => 4 * (eF x M * eF x M)) piS := by
  refine LeN.lim (C := 64) (by grind) fun n => ?_
  have n0 : (0 : Rat) < 2 * ((n : Rat) + 1) := by have := pos1 n; grind
  obtain ⟨h, h0, hh⟩ := inv_ex (2 * ((n : Rat) + 1)) n0
  have e : ((2 * (n + 1) : Nat) : Rat) = 2 * ((n : Rat) + 1) := by push_cast; rfl
  have a := (eF_sum hx h0 (2 * (n + 1)) (by rw [e]; grind)).scale (show (0 : Rat) ≤ 4 by grind)
  exact a.trans (sum_angle n hh)
end Go.Proofs.Ytgmnknmjainabab.Ex

namespace Go.Proofs.Ytgmnknmjainabab
set_option linter.unusedVariables false
open Ex

theorem root_near (p : Rat) (hp : 1 ≤ p) (k : Nat) : ∃ r : Rat, 1 ≤ r ∧ r * r ≤ p ∧ p ≤ (r + 1 / ((k : Rat) + 1)) * (r + 1 / ((k : Rat) + 1)) := by
  obtain ⟨n, hn⟩ := rat_nat p
  have k0 : (0 : Rat) < (k : Rat) + 1 := pos1 k
  have u0 : (0 : Rat) < 1 / ((k : Rat) + 1) := rdiv_pos (by grind) k0
  have um : 1 / ((k : Rat) + 1) * ((k : Rat) + 1) = 1 := rdm k0
  obtain ⟨u, hu⟩ : ∃ u, u = 1 / ((k : Rat) + 1) := ⟨_, rfl⟩
  rw [← hu] at u0 um ⊢
  have top : p ≤ (1 + ((n * (k + 1) : Nat) : Rat) * u) * (1 + ((n * (k + 1) : Nat) : Rat) * u) := by
    have e : ((n * (k + 1) : Nat) : Rat) * u = (n : Rat) := by
      have : ((n * (k + 1) : Nat) : Rat) = (n : Rat) * ((k : Rat) + 1) := by push_cast; rfl
      rw [this]; grind
    rw [e]
    have n0 : (0 : Rat) ≤ (n : Rat) := by exact_mod_cast Nat.zero_le n
    have := Rat.mul_nonneg n0 n0
    have := hn.2
    grind
  obtain ⟨j, _, j1, j2⟩ := exists_least (p := fun j => p ≤ (1 + (j : Rat) * u) * (1 + (j : Rat) * u)) (K := n * (k + 1)) top
  cases j with
  | zero =>
    have e : (1 + ((0 : Nat) : Rat) * u) = 1 := by grind
    rw [e] at j1
    exact ⟨1, by grind, by grind, by have := Rat.mul_nonneg (Rat.le_of_lt u0) (Rat.le_of_lt u0); grind⟩
  | succ i =>
    have h := j2 i (Nat.lt_succ_self i)
    have i0 : (0 : Rat) ≤ (i : Rat) := by exact_mod_cast Nat.zero_le i
    have iu := Rat.mul_nonneg i0 (Rat.le_of_lt u0)
    refine ⟨1 + (i : Rat) * u, by grind, by grind, ?_⟩
    have e : ((i + 1 : Nat) : Rat) = (i : Rat) + 1 := by push_cast; rfl
    rw [e] at j1
    have e2 : 1 + ((i : Rat) + 1) * u = 1 + (i : Rat) * u + u := by grind
    rw [e2] at j1
    exact j1
theorem null_over (K : Rat) (hK : 0 ≤ K) : Null (fun M => K * (1 / ((M : Rat) + 1))) := fun e he => by
  obtain ⟨n, hn⟩ := rat_nat (K / e)
  refine ⟨n, fun M hM => ?_⟩
  have m0 : (0 : Rat) < (M : Rat) + 1 := pos1 M
  have u0 : (0 : Rat) < 1 / ((M : Rat) + 1) := rdiv_pos (by grind) m0
  have um : 1 / ((M : Rat) + 1) * ((M : Rat) + 1) = 1 := rdm m0
  have hm : (n : Rat) ≤ (M : Rat) := by exact_mod_cast hM
  have ke : K / e * e = K := rdm he
  have h1 := hn.2
  have h2 := Rat.mul_le_mul_of_nonneg_right h1 (Rat.le_of_lt he)
  rw [ke] at h2
  have h3 := Rat.mul_nonneg hK (Rat.le_of_lt u0)
  refine ⟨by simp only []; grind, ?_⟩
  have h4 := Rat.mul_le_mul_of_nonneg_right (show K ≤ ((M : Rat) + 1) * e by
    have := Rat.mul_le_mul_of_nonneg_right hm (Rat.le_of_lt he)
    grind) (Rat.le_of_lt u0)
  have e5 : ((M : Rat) + 1) * e * (1 / ((M : Rat) + 1)) = (1 / ((M : Rat) + 1) * ((M : Rat) + 1)) * e := by grind
  rw [e5, um] at h4
  grind
/-- A root of what is at least 1. -/
structure RootS (P R : Nat → Rat) : Prop where
  one : ∀ M, 1 ≤ R M
  sq : Null (fun M => R M * R M - P M)
  bdd : Bdd R
theorem root_seq {P : Nat → Rat} {M0 : Nat} (hP : ∀ M, M0 ≤ M → 1 ≤ P M) (hb : Bdd P) : ∃ R, RootS P R := by
  have h : ∀ M, ∃ r : Rat, 1 ≤ r ∧ (M0 ≤ M → r * r ≤ P M ∧ P M ≤ (r + 1 / ((M : Rat) + 1)) * (r + 1 / ((M : Rat) + 1))) := fun M => by
    by_cases hM : M0 ≤ M
    · obtain ⟨r, r1, r2, r3⟩ := root_near (P M) (hP M hM) M
      exact ⟨r, r1, fun _ => ⟨r2, r3⟩⟩
    · exact ⟨1, by grind, fun h => absurd h hM⟩
  have hR := fun M => Classical.choose_spec (h M)
  obtain ⟨R, eR⟩ : ∃ R : Nat → Rat, R = fun M => Classical.choose (h M) := ⟨_, rfl⟩
  have hR' : ∀ M, 1 ≤ R M ∧ (M0 ≤ M → R M * R M ≤ P M ∧ P M ≤ (R M + 1 / ((M : Rat) + 1)) * (R M + 1 / ((M : Rat) + 1))) := fun M => by rw [eR]; exact hR M
  clear hR eR h
  obtain ⟨K, N, K0, hK⟩ := hb
  have hRK : ∀ M, M0 + N ≤ M → R M ≤ K := fun M hM => by
    have h1 := (hR' M).1
    have h2 := ((hR' M).2 (by omega)).1
    have h3 := (hK M (by omega)).2
    have h4 := Rat.mul_le_mul_of_nonneg_left h1 (show 0 ≤ R M by grind)
    grind
  refine ⟨R, fun M => (hR' M).1, ?_, Bdd.of_le K (M0 + N) fun M hM => ⟨by have := (hR' M).1; grind, hRK M hM⟩⟩
  refine Null.of_le (null_over (2 * K + 1) (by grind)) (M0 + N) fun M hM => ?_
  obtain ⟨h1, h2⟩ := hR' M
  obtain ⟨h2, h3⟩ := h2 (by omega)
  have h4 := hRK M hM
  have m0 : (0 : Rat) < (M : Rat) + 1 := pos1 M
  have u0 : (0 : Rat) < 1 / ((M : Rat) + 1) := rdiv_pos (by grind) m0
  have u1 : 1 / ((M : Rat) + 1) ≤ 1 := rdiv_le m0 (by have : (0 : Rat) ≤ (M : Rat) := by exact_mod_cast Nat.zero_le M
                                                      grind)
  generalize 1 / ((M : Rat) + 1) = u at *
  have uu := Rat.mul_le_mul_of_nonneg_left u1 (Rat.le_of_lt u0)
  have ru := Rat.mul_le_mul_of_nonneg_right h4 (Rat.le_of_lt u0)
  have e : (R M + u) * (R M + u) = R M * R M + 2 * (R M * u) + u * u := by grind
  rw [e] at h3
  constructor <;> grind
theorem root_iv {B : Nat} {a : Int × Int} {P R : Nat → Rat} (h : Iv B a P) (hR : RootS P R) {r t : Int} (hr : r * r ≤ a.1 * Q B) (ht0 : 0 ≤ t) (ht : a.2 * Q B ≤ t * t) : Iv B (r, t) R := by
  have q := Qr_pos B
  have key : ∀ x : Int, ((x : Rat) / (Q B : Rat)) * ((x : Rat) / (Q B : Rat)) * ((Q B : Rat) * (Q B : Rat)) = (x : Rat) * (x : Rat) := fun x => by
    have := rdm (a := (x : Rat)) q
    have e : ((x : Rat) / (Q B : Rat)) * ((x : Rat) / (Q B : Rat)) * ((Q B : Rat) * (Q B : Rat)) = ((x : Rat) / (Q B : Rat) * (Q B : Rat)) * ((x : Rat) / (Q B : Rat) * (Q B : Rat)) := by grind
    rw [e, this]
  have qq : (0 : Rat) < (Q B : Rat) * (Q B : Rat) := Rat.mul_pos q q
  have g1 : ((r : Rat) / (Q B : Rat)) * ((r : Rat) / (Q B : Rat)) ≤ (a.1 : Rat) / (Q B : Rat) := by
    refine Rat.le_of_mul_le_mul_right (c := (Q B : Rat) * (Q B : Rat)) ?_ qq
    rw [key]
    have e := rdm (a := (a.1 : Rat)) q
    have e2 : (a.1 : Rat) / (Q B : Rat) * ((Q B : Rat) * (Q B : Rat)) = (a.1 : Rat) * (Q B : Rat) := by
      rw [← Rat.mul_assoc, e]
    rw [e2]
    have := cast_le hr
    rw [Rat.intCast_mul, Rat.intCast_mul] at this
    exact this
  have g2 : (a.2 : Rat) / (Q B : Rat) ≤ ((t : Rat) / (Q B : Rat)) * ((t : Rat) / (Q B : Rat)) := by
    refine Rat.le_of_mul_le_mul_right (c := (Q B : Rat) * (Q B : Rat)) ?_ qq
    rw [key]
    have e := rdm (a := (a.2 : Rat)) q
    have e2 : (a.2 : Rat) / (Q B : Rat) * ((Q B : Rat) * (Q B : Rat)) = (a.2 : Rat) * (Q B : Rat) := by
      rw [← Rat.mul_assoc, e]
    rw [e2]
    have := cast_le ht
    rw [Rat.intCast_mul, Rat.intCast_mul] at this
    exact this
  have t0 : (0 : Rat) ≤ (t : Rat) / (Q B : Rat) := rle_div q (by
    have : (0 : Rat) ≤ (t : Rat) := by exact_mod_cast ht0
    grind)
  intro e0 he0
  -- a little that is at most one quarter
  obtain ⟨e, he, hee, he4⟩ : ∃ e : Rat, 0 < e ∧ 2 * e ≤ e0 ∧ e ≤ 1 / 4 := by
    by_cases hc : e0 ≤ 1 / 2
    · exact ⟨e0 / 2, by grind, by grind, by grind⟩
    · exact ⟨1 / 4, by grind, by grind, by grind⟩
  obtain ⟨N1, k1⟩ := h e he
  obtain ⟨N2, k2⟩ := hR.sq e he
  refine ⟨N1 + N2, fun M hM => ?_⟩
  obtain ⟨a1, a2⟩ := k1 M (by omega)
  obtain ⟨b1, b2⟩ := k2 M (by omega)
  have R1 := hR.one M
  simp only [] at b1 b2 ⊢
  generalize (r : Rat) / (Q B : Rat) = x at *
  generalize (t : Rat) / (Q B : Rat) = y at *
  generalize R M = z at *
  clear k1 k2 key h
  constructor
  · refine Rat.not_lt.1 fun hlt => ?_
    have hx : z + e ≤ x := by grind
    have m1 := Rat.mul_le_mul_of_nonneg_left hx (show 0 ≤ z + e by grind)
    have m2 := Rat.mul_le_mul_of_nonneg_right hx (show 0 ≤ x by grind)
    have m3 := Rat.mul_le_mul_of_nonneg_left R1 (Rat.le_of_lt he)
    have m4 := Rat.mul_pos he he
    grind
  · refine Rat.not_lt.1 fun hlt => ?_
    have hy : y ≤ z - 2 * e := by grind
    have m1 := Rat.mul_le_mul_of_nonneg_left hy t0
    have m2 := Rat.mul_le_mul_of_nonneg_right hy (show 0 ≤ z - 2 * e by grind)
    have m3 := Rat.mul_le_mul_of_nonneg_left R1 (Rat.le_of_lt he)
    have m4 := Rat.mul_le_mul_of_nonneg_left he4 (Rat.le_of_lt he)
    grind
end Go.Proofs.Ytgmnknmjainabab

namespace Go.Proofs.Ytgmnknmjainabab.Ex
set_option linter.unusedVariables false

/-- The error function of x, with R the root of what the angles make. -/
def erfS (R : Nat → Rat) (x : Rat) (M : Nat) : Rat := 2 * eS x M / (R M * ex (x * x) M)
theorem piS_bdd : Bdd piS := by
  obtain ⟨K, k0, h⟩ := tm_bd 0
  have h1 := (ag_has (m := 5) (by omega) 0 0).bdd
  have h2 := (ag_has (m := 239) (by omega) 0 0).bdd
  exact ((Bdd.const 16).mul h1).sub ((Bdd.const 4).mul h2)
theorem piR_ex : ∃ R, RootS piS R := root_seq (M0 := 2) (fun M hM => by have := pi_ge hM; grind) piS_bdd
theorem ex_one (x : Rat) {M : Nat} (hM : 1 ≤ M) : 1 ≤ ex (x * x) M := E_one (sq_nonneg x) hM
theorem div_one {a b : Rat} (ha : 0 ≤ a) (hb : 1 ≤ b) : 0 ≤ a / b ∧ a / b ≤ a := by
  have b0 : 0 < b := by grind
  refine ⟨rle_div b0 (by grind), rdiv_le b0 ?_⟩
  have := Rat.mul_le_mul_of_nonneg_left hb ha
  grind
theorem erf_near (x : Rat) (hx : 0 ≤ x) : Null (fun M => eS x M / ex (x * x) M - eF x M) := by
  obtain ⟨K, k0, hK⟩ := eS_bdd hx
  have hn := ((ex_add (x * x) (-(x * x))))
  have e0 : x * x + -(x * x) = 0 := by grind
  rw [e0] at hn
  have hb : Bdd (fun M => eS x M / ex (x * x) M) := Bdd.of_le K 1 fun M hM => by
    have := div_one (eS_nonneg hx M) (ex_one x hM)
    have := hK M
    constructor <;> grind
  refine (hn.bmul hb).neg.of_eq_from 1 fun M hM => ?_
  have h1 := ex_one x hM
  have p : 0 < ex (x * x) M := by grind
  have e1 : eS x M / ex (x * x) M * ex (x * x) M = eS x M := rdm p
  have e2 : ex 0 M = 1 := by
    obtain ⟨m, rfl⟩ : ∃ m, M = m + 1 := ⟨M - 1, by omega⟩
    exact E_zero m
  rw [eF_ex, e2]
  generalize eS x M / ex (x * x) M = q at *
  rw [← e1]
  grind
theorem inv_bdd {R : Nat → Rat} (h : ∀ M, 1 ≤ R M) : Bdd (fun M => 1 / R M) := Bdd.of_le 1 0 fun M _ => by
  have := div_one (a := 1) (by grind) (h M)
  constructor <;> grind
theorem erf_eq {P R : Nat → Rat} (h : RootS P R) (x : Rat) {M : Nat} (hM : 1 ≤ M) : erfS R x M = eS x M / ex (x * x) M * (2 * (1 / R M)) := by
  have r1 := h.one M
  have h1 := ex_one x hM
  have p1 : 0 < R M := by grind
  have p2 : 0 < ex (x * x) M := by grind
  have p3 : 0 < R M * ex (x * x) M := Rat.mul_pos p1 p2
  have a := rdm (a := 2 * eS x M) p3
  have b := rdm (a := eS x M) p2
  have c := rdm (a := 1) p1
  unfold erfS
  have lhs : eS x M / ex (x * x) M * (2 * (1 / R M)) * (R M * ex (x * x) M) = 2 * eS x M := by
    have : eS x M / ex (x * x) M * (2 * (1 / R M)) * (R M * ex (x * x) M) = 2 * ((eS x M / ex (x * x) M * ex (x * x) M) * (1 / R M * R M)) := by grind
    rw [this, b, c]; grind
  exact Rat.le_antisymm (Rat.le_of_mul_le_mul_right (by rw [lhs, a]; exact Rat.le_refl) p3) (Rat.le_of_mul_le_mul_right (by rw [lhs, a]; exact Rat.le_refl) p3)
theorem erf_near2 {P R : Nat → Rat} (h : RootS P R) (x : Rat) (hx : 0 ≤ x) : Null (fun M => erfS R x M - eF x M * (2 * (1 / R M))) := by
  have hb := (Bdd.const 2).mul (inv_bdd h.one)
  refine ((erf_near x hx).bmul hb).of_eq_from 1 fun M hM => ?_
  rw [erf_eq h x hM]
  grind
theorem erf_mono {P R : Nat → Rat} (h : RootS P R) {x y : Rat} (hx : 0 ≤ x) (hxy : x ≤ y) : LeN (erfS R x) (erfS R y) := by
  obtain ⟨z, hz, N, k⟩ := eF_mono hx hxy
  have hb := (Bdd.const 2).mul (inv_bdd h.one)
  have n1 := erf_near2 h x hx
  have n2 := erf_near2 h y (by grind)
  refine n1.leN.trans (LeN.trans ?_ n2.symm.leN)
  refine LeN.of_null (hz.bmul hb) N fun M hM => ?_
  have := k M hM
  have i0 := (div_one (a := 1) (by grind) (h.one M)).1
  have := Rat.mul_le_mul_of_nonneg_right this (show 0 ≤ 2 * (1 / R M) by grind)
  grind
theorem eF_root {R : Nat → Rat} (h : RootS piS R) {x : Rat} (hx : 0 ≤ x) : LeN (fun M => 2 * eF x M) R := by
  intro e he
  obtain ⟨N1, k1⟩ := eF_pi hx e he
  obtain ⟨N2, k2⟩ := h.sq e he
  refine ⟨N1 + N2, fun M hM => ?_⟩
  have a1 := k1 M (by omega)
  have a2 := (k2 M (by omega)).1
  have r1 := h.one M
  simp only [] at *
  refine Rat.not_lt.1 fun hlt => ?_
  generalize eF x M = f at *
  generalize R M = r at *
  generalize piS M = p at *
  have m1 := Rat.mul_lt_mul_of_pos_left hlt (show 0 < r + e by grind)
  have m2 := Rat.mul_lt_mul_of_pos_right hlt (show 0 < 2 * f by grind)
  have m3 := Rat.mul_le_mul_of_nonneg_left r1 (Rat.le_of_lt he)
  have m4 := Rat.mul_pos he he
  grind
theorem erf_one {R : Nat → Rat} (h : RootS piS R) {x : Rat} (hx : 0 ≤ x) : LeN (erfS R x) (fun _ => 1) := by
  refine (erf_near2 h x hx).leN.trans ?_
  obtain ⟨z, hz, k⟩ := (eF_root h hx).null
  refine LeN.of_null (hz.bmul (inv_bdd h.one)) 0 fun M _ => ?_
  have r1 := h.one M
  have p1 : 0 < R M := by grind
  have c := rdm (a := 1) p1
  have i0 := (div_one (a := 1) (by grind) r1).1
  have := Rat.mul_le_mul_of_nonneg_right (k M) i0
  grind
theorem erf_nonneg {P R : Nat → Rat} (h : RootS P R) {x : Rat} (hx : 0 ≤ x) {M : Nat} (hM : 1 ≤ M) : 0 ≤ erfS R x M := by
  rw [erf_eq h x hM]
  have a := (div_one (eS_nonneg hx M) (ex_one x hM)).1
  have b := (div_one (a := 1) (by grind) (h.one M)).1
  exact Rat.mul_nonneg a (by grind)
end Go.Proofs.Ytgmnknmjainabab.Ex

namespace Go.Proofs.Ytgmnknmjainabab
set_option linter.unusedVariables false
set_option linter.unusedSimpArgs false
set_option linter.unnecessarySimpa false
open Go.RowKit
attribute [local go_sem ↓] Go.wp_at_zero Go.wp_at_succ

set_option maxRecDepth 100000 in
set_option maxHeartbeats 2000000 in
theorem div1_int (neg neg2 : Bool) (a c : Option Addr) (n m cap cap2 k k2 b B : Nat) (x y : Int) (w : World) (h1 : IntAt w neg a n cap k x) (h2 : IntAt w neg2 c m cap2 k2 y) (hk : k ≤ 300000000) (hb : b ≤ 1000000) (hy : 0 < y) (hc : w.cell? ⟨B, 4, none⟩ = some (.int .i64 b)) :
    Calls Try.prog 157 #[.agg #[.bool neg, .slice a n cap], .agg #[.bool neg2, .slice c m cap2], .pointer (some ⟨B, 0, none⟩)] w (IntAns w (b / 16 + k + 9) (x * Q b / y)) := by
  have lB : B < w.heap.size := World.block_lt_of_cell? w ⟨B, 4, none⟩ hc
  have ne1 : w.heap.size ≠ w.heap.size + 1 + 1 := by omega
  have ne2 : w.heap.size + 1 + 1 ≠ w.heap.size := by omega
  obtain ⟨W, hW⟩ : ∃ W, W = ((w.alloc (.cells #[.bool neg, .slice a n cap] 26)).alloc (.cells #[.bool neg2, .slice c m cap2] 26)).alloc (.cells #[.bool false, .slice none 0 0] 26) := ⟨_, rfl⟩
  have hBW : Below w.heap.size w W := by rw [hW]; exact bl3 _ _ _ _
  have A : NmC W w.heap.size ⟨neg, a, n, cap⟩ := by rw [hW]; exact ⟨by simp [go_sem], by simp [go_sem]⟩
  have G : NmC W (w.heap.size + 1) ⟨neg2, c, m, cap2⟩ := by rw [hW]; exact ⟨by simp [go_sem], by simp [go_sem]⟩
  have R : NoI W (w.heap.size + 1 + 1) := by rw [hW]; exact ⟨by simp [go_sem], by simp [go_sem], fun o => by simp [go_sem]⟩
  have hcW := (hBW.cell (p := ⟨B, 4, none⟩) lB).trans hc
  have lBW := Nat.lt_of_lt_of_le lB hBW.size
  have HX := hide (h1.below hBW)
  have HY := hide (h2.below hBW)
  have hB0 : Below W.heap.size W W.drew := (Below.refl _ _).drew
  have lR := R.lt
  have nB : B ≠ w.heap.size + 1 + 1 := by omega
  have nB' : w.heap.size + 1 + 1 ≠ B := by omega
  have HK := hide (show ∀ w', Below W.heap.size W w' → (w'.cell? ⟨w.heap.size, 0, none⟩ = some (.bool neg) ∧ w'.cell? ⟨w.heap.size, 1, none⟩ = some (.slice a n cap) ∧ w'.cell? ⟨w.heap.size + 1, 0, none⟩ = some (.bool neg2) ∧ w'.cell? ⟨w.heap.size + 1, 1, none⟩ = some (.slice c m cap2) ∧ w'.cell? ⟨B, 4, none⟩ = some (.int .i64 b)) from fun w' hB => ⟨(A.below hB).c0, (A.below hB).c1, (G.below hB).c0, (G.below hB).c1, (hB.cell (p := ⟨B, 4, none⟩) lBW).trans hcW⟩)
  go_enter Try.func157, Try.ntmps157
  go_wp2
  rw [← hW]
  clear hW
  obtain ⟨i0, i1, i2, i3, i4⟩ := unhide HK _ (Below.refl _ _)
  go_region_held3 (fun w' => w'.cell? ⟨w.heap.size, 0, none⟩ = some (.bool neg) ∧ w'.cell? ⟨w.heap.size, 1, none⟩ = some (.slice a n cap) ∧ w'.cell? ⟨w.heap.size + 1, 0, none⟩ = some (.bool neg2) ∧ w'.cell? ⟨w.heap.size + 1, 1, none⟩ = some (.slice c m cap2) ∧ w'.cell? ⟨B, 4, none⟩ = some (.int .i64 b)) (first | exact unhide HK _ (by first | with_reducible exact hB0 | with_reducible exact hB2 | with_reducible exact hB1) | go_keep)
    (first
      | (go_at_call 113; refine (up_int _ _ _ _ b k x _ ((unhide HX).below hB0) (by omega) (by omega)).mono ?_; rintro r w1 ⟨neg1, a1, n1, c1, rfl, hint1, hb1⟩; have hB1 := bthen hB0 hb1)
      | (go_at_call 105; refine (floor_any _ _ _ _ _ _ _ _ (b / 16 + k + 1) k2 (x * Q b) y _ hint1 ((unhide HY).below hB1) (by omega) hy).mono ?_; rintro r w2 ⟨neg3, a3, n3, c3, rfl, hint3, hb2⟩; have hB2 := bthen hB1 hb2; obtain ⟨q0, q1, q2⟩ := R.below hB2; obtain ⟨d0, d1, d2, d3, d4⟩ := unhide HK _ hB2))
  clear i0 i1 i2 i3 i4
  go_wp2
  refine bodyPost_ret (v := .agg #[.bool neg3, .slice a3 n3 c3]) (by simp [results, Try.results157, go_sem, q0, q1]) rfl ⟨neg3, a3, n3, c3, rfl, (hint3.put2 q0 q1 _ _).mono (by omega), ?_⟩
  exact set2 (bthen hBW hB2) (by omega) _ _

set_option maxRecDepth 100000 in
set_option maxHeartbeats 2000000 in
theorem div2_int (neg neg2 : Bool) (a c : Option Addr) (n m cap cap2 k k2 b B : Nat) (x y : Int) (w : World) (h1 : IntAt w neg a n cap k x) (h2 : IntAt w neg2 c m cap2 k2 y) (hk : k ≤ 300000000) (hb : b ≤ 1000000) (hy : 0 < y) (hc : w.cell? ⟨B, 4, none⟩ = some (.int .i64 b)) :
    Calls Try.prog 158 #[.agg #[.bool neg, .slice a n cap], .agg #[.bool neg2, .slice c m cap2], .pointer (some ⟨B, 0, none⟩)] w (IntAns w (b / 16 + k + 9) (-(-(x * Q b) / y))) := by
  have lB : B < w.heap.size := World.block_lt_of_cell? w ⟨B, 4, none⟩ hc
  have ne1 : w.heap.size ≠ w.heap.size + 1 + 1 := by omega
  have ne2 : w.heap.size + 1 + 1 ≠ w.heap.size := by omega
  obtain ⟨W, hW⟩ : ∃ W, W = ((w.alloc (.cells #[.bool neg, .slice a n cap] 26)).alloc (.cells #[.bool neg2, .slice c m cap2] 26)).alloc (.cells #[.bool false, .slice none 0 0] 26) := ⟨_, rfl⟩
  have hBW : Below w.heap.size w W := by rw [hW]; exact bl3 _ _ _ _
  have A : NmC W w.heap.size ⟨neg, a, n, cap⟩ := by rw [hW]; exact ⟨by simp [go_sem], by simp [go_sem]⟩
  have G : NmC W (w.heap.size + 1) ⟨neg2, c, m, cap2⟩ := by rw [hW]; exact ⟨by simp [go_sem], by simp [go_sem]⟩
  have R : NoI W (w.heap.size + 1 + 1) := by rw [hW]; exact ⟨by simp [go_sem], by simp [go_sem], fun o => by simp [go_sem]⟩
  have hcW := (hBW.cell (p := ⟨B, 4, none⟩) lB).trans hc
  have lBW := Nat.lt_of_lt_of_le lB hBW.size
  have HX := hide (h1.below hBW)
  have HY := hide (h2.below hBW)
  have hB0 : Below W.heap.size W W.drew := (Below.refl _ _).drew
  have lR := R.lt
  have nB : B ≠ w.heap.size + 1 + 1 := by omega
  have nB' : w.heap.size + 1 + 1 ≠ B := by omega
  have HK := hide (show ∀ w', Below W.heap.size W w' → (w'.cell? ⟨w.heap.size, 0, none⟩ = some (.bool neg) ∧ w'.cell? ⟨w.heap.size, 1, none⟩ = some (.slice a n cap) ∧ w'.cell? ⟨w.heap.size + 1, 0, none⟩ = some (.bool neg2) ∧ w'.cell? ⟨w.heap.size + 1, 1, none⟩ = some (.slice c m cap2) ∧ w'.cell? ⟨B, 4, none⟩ = some (.int .i64 b)) from fun w' hB => ⟨(A.below hB).c0, (A.below hB).c1, (G.below hB).c0, (G.below hB).c1, (hB.cell (p := ⟨B, 4, none⟩) lBW).trans hcW⟩)
  go_enter Try.func158, Try.ntmps158
  go_wp2
  rw [← hW]
  clear hW
  obtain ⟨i0, i1, i2, i3, i4⟩ := unhide HK _ (Below.refl _ _)
  go_region_held3 (fun w' => w'.cell? ⟨w.heap.size, 0, none⟩ = some (.bool neg) ∧ w'.cell? ⟨w.heap.size, 1, none⟩ = some (.slice a n cap) ∧ w'.cell? ⟨w.heap.size + 1, 0, none⟩ = some (.bool neg2) ∧ w'.cell? ⟨w.heap.size + 1, 1, none⟩ = some (.slice c m cap2) ∧ w'.cell? ⟨B, 4, none⟩ = some (.int .i64 b)) (first | exact unhide HK _ (by first | with_reducible exact hB0 | with_reducible exact hB2 | with_reducible exact hB1) | go_keep)
    (first
      | (go_at_call 113; refine (up_int _ _ _ _ b k x _ ((unhide HX).below hB0) (by omega) (by omega)).mono ?_; rintro r w1 ⟨neg1, a1, n1, c1, rfl, hint1, hb1⟩; have hB1 := bthen hB0 hb1)
      | (go_at_call 114; refine (ceil_any _ _ _ _ _ _ _ _ (b / 16 + k + 1) k2 (x * Q b) y _ hint1 ((unhide HY).below hB1) (by omega) hy).mono ?_; rintro r w2 ⟨neg3, a3, n3, c3, rfl, hint3, hb2⟩; have hB2 := bthen hB1 hb2; obtain ⟨q0, q1, q2⟩ := R.below hB2; obtain ⟨d0, d1, d2, d3, d4⟩ := unhide HK _ hB2))
  clear i0 i1 i2 i3 i4
  go_wp2
  refine bodyPost_ret (v := .agg #[.bool neg3, .slice a3 n3 c3]) (by simp [results, Try.results158, go_sem, q0, q1]) rfl ⟨neg3, a3, n3, c3, rfl, (hint3.put2 q0 q1 _ _).mono (by omega), ?_⟩
  exact set2 (bthen hBW hB2) (by omega) _ _

set_option maxRecDepth 100000 in
set_option maxHeartbeats 2000000 in
theorem corners_div1 (w : World) (s t : Sp) (k b B : Nat) (lo hi lo' hi' : Int) (hs : SpAt w s k lo hi) (ht : SpAt w t k lo' hi') (hk : k ≤ 300000000) (hb : b ≤ 1000000) (hp : 0 < lo') (hp2 : 0 < hi') (hc : w.cell? ⟨B, 4, none⟩ = some (.int .i64 b)) :
    Calls Try.prog 115 #[.agg #[.bool s.ln, .slice s.la s.lN s.lc, .bool s.hn, .slice s.ha s.hN s.hc, .int .i64 s.bits], .agg #[.bool t.ln, .slice t.la t.lN t.lc, .bool t.hn, .slice t.ha t.hN t.hc, .int .i64 t.bits], .func (.func 157) #[] #[.pointer (some ⟨B, 0, none⟩)]] w fun r w' =>
      ∃ B' f, r = .returned (.slice (some ⟨B', 0, none⟩) 4 4) ∧ Nums w' B' 4 (b / 16 + k + 9) f (pr4 (lo * Q b / lo') (lo * Q b / hi') (hi * Q b / lo') (hi * Q b / hi')) ∧ Below w.heap.size w w' := by
  have lB : B < w.heap.size := World.block_lt_of_cell? w ⟨B, 4, none⟩ hc
  obtain ⟨W, hW⟩ : ∃ W, W = (w.alloc (.cells #[.bool s.ln, .slice s.la s.lN s.lc, .bool s.hn, .slice s.ha s.hN s.hc, .int .i64 s.bits] 28)).alloc (.cells #[.bool t.ln, .slice t.la t.lN t.lc, .bool t.hn, .slice t.ha t.hN t.hc, .int .i64 t.bits] 28) := ⟨_, rfl⟩
  have hBW : Below w.heap.size w W := by rw [hW]; exact bl2 _ _ _
  have a0 : SpC W w.heap.size s := by rw [hW]; exact ⟨by simp [go_sem], by simp [go_sem], by simp [go_sem], by simp [go_sem], by simp [go_sem]⟩
  have g0 : SpC W (w.heap.size + 1) t := by rw [hW]; exact ⟨by simp [go_sem], by simp [go_sem], by simp [go_sem], by simp [go_sem], by simp [go_sem]⟩
  have hcW := (hBW.cell (p := ⟨B, 4, none⟩) lB).trans hc
  have lBW := Nat.lt_of_lt_of_le lB hBW.size
  have HS := hide (hs.below hBW)
  have HT := hide (ht.below hBW)
  have hB0 : Below W.heap.size W W.drew := (Below.refl _ _).drew
  have HKB := hide (show ∀ w', Below W.heap.size W w' → w'.cell? ⟨B, 4, none⟩ = some (.int .i64 b) from fun w' hB => (hB.cell (p := ⟨B, 4, none⟩) lBW).trans hcW)
  have HK := hide (show ∀ w', Below W.heap.size W w' → (w'.cell? ⟨w.heap.size, 0, none⟩ = some (.bool s.ln) ∧ w'.cell? ⟨w.heap.size, 1, none⟩ = some (.slice s.la s.lN s.lc) ∧ w'.cell? ⟨w.heap.size, 2, none⟩ = some (.bool s.hn) ∧ w'.cell? ⟨w.heap.size, 3, none⟩ = some (.slice s.ha s.hN s.hc) ∧ w'.cell? ⟨w.heap.size + 1, 0, none⟩ = some (.bool t.ln) ∧ w'.cell? ⟨w.heap.size + 1, 1, none⟩ = some (.slice t.la t.lN t.lc) ∧ w'.cell? ⟨w.heap.size + 1, 2, none⟩ = some (.bool t.hn) ∧ w'.cell? ⟨w.heap.size + 1, 3, none⟩ = some (.slice t.ha t.hN t.hc)) from fun w' hB => by
    obtain ⟨x0, x1, x2, x3, x4⟩ := a0.below hB
    obtain ⟨y0, y1, y2, y3, y4⟩ := g0.below hB
    exact ⟨x0, x1, x2, x3, y0, y1, y2, y3⟩)
  go_enter Try.func115, Try.ntmps115
  go_wp2
  obtain ⟨x0, x1, x2, x3, x4⟩ := a0
  obtain ⟨y0, y1, y2, y3, y4⟩ := g0
  rw [← hW]
  clear hW
  go_region_held3 (fun w' => w'.cell? ⟨w.heap.size, 0, none⟩ = some (.bool s.ln) ∧ w'.cell? ⟨w.heap.size, 1, none⟩ = some (.slice s.la s.lN s.lc) ∧ w'.cell? ⟨w.heap.size, 2, none⟩ = some (.bool s.hn) ∧ w'.cell? ⟨w.heap.size, 3, none⟩ = some (.slice s.ha s.hN s.hc) ∧ w'.cell? ⟨w.heap.size + 1, 0, none⟩ = some (.bool t.ln) ∧ w'.cell? ⟨w.heap.size + 1, 1, none⟩ = some (.slice t.la t.lN t.lc) ∧ w'.cell? ⟨w.heap.size + 1, 2, none⟩ = some (.bool t.hn) ∧ w'.cell? ⟨w.heap.size + 1, 3, none⟩ = some (.slice t.ha t.hN t.hc)) (exact unhide HK _ (by first | with_reducible exact hB0 | with_reducible exact balloc hB4 _ | with_reducible exact hB4 | with_reducible exact hB3 | with_reducible exact hB2 | with_reducible exact hB1))
    (first
      | (go_at_call 157; have hq := hB3; refine (div1_int _ _ _ _ _ _ _ _ k k b B hi hi' _ ((unhide HS).hi.below hB3) ((unhide HT).hi.below hB3) hk hb hp2 (unhide HKB _ hB3)).mono ?_; rintro r w4 ⟨neg4, a4, n4, c4, rfl, hint4, hb4⟩; replace hint1 := hint1.below hb4; replace hint2 := hint2.below hb4; replace hint3 := hint3.below hb4; have hB4 := bthen hB3 hb4)
      | (go_at_call 157; have hq := hB2; refine (div1_int _ _ _ _ _ _ _ _ k k b B hi lo' _ ((unhide HS).hi.below hB2) ((unhide HT).lo.below hB2) hk hb hp (unhide HKB _ hB2)).mono ?_; rintro r w3 ⟨neg3, a3, n3, c3, rfl, hint3, hb3⟩; replace hint1 := hint1.below hb3; replace hint2 := hint2.below hb3; have hB3 := bthen hB2 hb3)
      | (go_at_call 157; have hq := hB1; refine (div1_int _ _ _ _ _ _ _ _ k k b B lo hi' _ ((unhide HS).lo.below hB1) ((unhide HT).hi.below hB1) hk hb hp2 (unhide HKB _ hB1)).mono ?_; rintro r w2 ⟨neg2, a2, n2, c2, rfl, hint2, hb2⟩; replace hint1 := hint1.below hb2; have hB2 := bthen hB1 hb2)
      | (go_at_call 157; have hq := hB0; refine (div1_int _ _ _ _ _ _ _ _ k k b B lo lo' _ ((unhide HS).lo.below hB0) ((unhide HT).lo.below hB0) hk hb hp (unhide HKB _ hB0)).mono ?_; rintro r w1 ⟨neg1, a1, n1, c1, rfl, hint1, hb1⟩; have hB1 := bthen hB0 hb1))
  go_wp2
  go_ret
  exact ⟨w4.heap.size, pr4 ⟨neg1, a1, n1, c1⟩ ⟨neg2, a2, n2, c2⟩ ⟨neg3, a3, n3, c3⟩ ⟨neg4, a4, n4, c4⟩, rfl, nums4 w4 _ rfl ⟨neg1, a1, n1, c1⟩ ⟨neg2, a2, n2, c2⟩ ⟨neg3, a3, n3, c3⟩ ⟨neg4, a4, n4, c4⟩ _ _ _ _ _ _ hint1 hint2 hint3 hint4, bthen hBW (balloc hB4 _)⟩

set_option maxRecDepth 100000 in
set_option maxHeartbeats 2000000 in
theorem corners_div2 (w : World) (s t : Sp) (k b B : Nat) (lo hi lo' hi' : Int) (hs : SpAt w s k lo hi) (ht : SpAt w t k lo' hi') (hk : k ≤ 300000000) (hb : b ≤ 1000000) (hp : 0 < lo') (hp2 : 0 < hi') (hc : w.cell? ⟨B, 4, none⟩ = some (.int .i64 b)) :
    Calls Try.prog 115 #[.agg #[.bool s.ln, .slice s.la s.lN s.lc, .bool s.hn, .slice s.ha s.hN s.hc, .int .i64 s.bits], .agg #[.bool t.ln, .slice t.la t.lN t.lc, .bool t.hn, .slice t.ha t.hN t.hc, .int .i64 t.bits], .func (.func 158) #[] #[.pointer (some ⟨B, 0, none⟩)]] w fun r w' =>
      ∃ B' f, r = .returned (.slice (some ⟨B', 0, none⟩) 4 4) ∧ Nums w' B' 4 (b / 16 + k + 9) f (pr4 (-(-(lo * Q b) / lo')) (-(-(lo * Q b) / hi')) (-(-(hi * Q b) / lo')) (-(-(hi * Q b) / hi'))) ∧ Below w.heap.size w w' := by
  have lB : B < w.heap.size := World.block_lt_of_cell? w ⟨B, 4, none⟩ hc
  obtain ⟨W, hW⟩ : ∃ W, W = (w.alloc (.cells #[.bool s.ln, .slice s.la s.lN s.lc, .bool s.hn, .slice s.ha s.hN s.hc, .int .i64 s.bits] 28)).alloc (.cells #[.bool t.ln, .slice t.la t.lN t.lc, .bool t.hn, .slice t.ha t.hN t.hc, .int .i64 t.bits] 28) := ⟨_, rfl⟩
  have hBW : Below w.heap.size w W := by rw [hW]; exact bl2 _ _ _
  have a0 : SpC W w.heap.size s := by rw [hW]; exact ⟨by simp [go_sem], by simp [go_sem], by simp [go_sem], by simp [go_sem], by simp [go_sem]⟩
  have g0 : SpC W (w.heap.size + 1) t := by rw [hW]; exact ⟨by simp [go_sem], by simp [go_sem], by simp [go_sem], by simp [go_sem], by simp [go_sem]⟩
  have hcW := (hBW.cell (p := ⟨B, 4, none⟩) lB).trans hc
  have lBW := Nat.lt_of_lt_of_le lB hBW.size
  have HS := hide (hs.below hBW)
  have HT := hide (ht.below hBW)
  have hB0 : Below W.heap.size W W.drew := (Below.refl _ _).drew
  have HKB := hide (show ∀ w', Below W.heap.size W w' → w'.cell? ⟨B, 4, none⟩ = some (.int .i64 b) from fun w' hB => (hB.cell (p := ⟨B, 4, none⟩) lBW).trans hcW)
  have HK := hide (show ∀ w', Below W.heap.size W w' → (w'.cell? ⟨w.heap.size, 0, none⟩ = some (.bool s.ln) ∧ w'.cell? ⟨w.heap.size, 1, none⟩ = some (.slice s.la s.lN s.lc) ∧ w'.cell? ⟨w.heap.size, 2, none⟩ = some (.bool s.hn) ∧ w'.cell? ⟨w.heap.size, 3, none⟩ = some (.slice s.ha s.hN s.hc) ∧ w'.cell? ⟨w.heap.size + 1, 0, none⟩ = some (.bool t.ln) ∧ w'.cell? ⟨w.heap.size + 1, 1, none⟩ = some (.slice t.la t.lN t.lc) ∧ w'.cell? ⟨w.heap.size + 1, 2, none⟩ = some (.bool t.hn) ∧ w'.cell? ⟨w.heap.size + 1, 3, none⟩ = some (.slice t.ha t.hN t.hc)) from fun w' hB => by
    obtain ⟨x0, x1, x2, x3, x4⟩ := a0.below hB
    obtain ⟨y0, y1, y2, y3, y4⟩ := g0.below hB
    exact ⟨x0, x1, x2, x3, y0, y1, y2, y3⟩)
  go_enter Try.func115, Try.ntmps115
  go_wp2
  obtain ⟨x0, x1, x2, x3, x4⟩ := a0
  obtain ⟨y0, y1, y2, y3, y4⟩ := g0
  rw [← hW]
  clear hW
  go_region_held3 (fun w' => w'.cell? ⟨w.heap.size, 0, none⟩ = some (.bool s.ln) ∧ w'.cell? ⟨w.heap.size, 1, none⟩ = some (.slice s.la s.lN s.lc) ∧ w'.cell? ⟨w.heap.size, 2, none⟩ = some (.bool s.hn) ∧ w'.cell? ⟨w.heap.size, 3, none⟩ = some (.slice s.ha s.hN s.hc) ∧ w'.cell? ⟨w.heap.size + 1, 0, none⟩ = some (.bool t.ln) ∧ w'.cell? ⟨w.heap.size + 1, 1, none⟩ = some (.slice t.la t.lN t.lc) ∧ w'.cell? ⟨w.heap.size + 1, 2, none⟩ = some (.bool t.hn) ∧ w'.cell? ⟨w.heap.size + 1, 3, none⟩ = some (.slice t.ha t.hN t.hc)) (exact unhide HK _ (by first | with_reducible exact hB0 | with_reducible exact balloc hB4 _ | with_reducible exact hB4 | with_reducible exact hB3 | with_reducible exact hB2 | with_reducible exact hB1))
    (first
      | (go_at_call 158; have hq := hB3; refine (div2_int _ _ _ _ _ _ _ _ k k b B hi hi' _ ((unhide HS).hi.below hB3) ((unhide HT).hi.below hB3) hk hb hp2 (unhide HKB _ hB3)).mono ?_; rintro r w4 ⟨neg4, a4, n4, c4, rfl, hint4, hb4⟩; replace hint1 := hint1.below hb4; replace hint2 := hint2.below hb4; replace hint3 := hint3.below hb4; have hB4 := bthen hB3 hb4)
      | (go_at_call 158; have hq := hB2; refine (div2_int _ _ _ _ _ _ _ _ k k b B hi lo' _ ((unhide HS).hi.below hB2) ((unhide HT).lo.below hB2) hk hb hp (unhide HKB _ hB2)).mono ?_; rintro r w3 ⟨neg3, a3, n3, c3, rfl, hint3, hb3⟩; replace hint1 := hint1.below hb3; replace hint2 := hint2.below hb3; have hB3 := bthen hB2 hb3)
      | (go_at_call 158; have hq := hB1; refine (div2_int _ _ _ _ _ _ _ _ k k b B lo hi' _ ((unhide HS).lo.below hB1) ((unhide HT).hi.below hB1) hk hb hp2 (unhide HKB _ hB1)).mono ?_; rintro r w2 ⟨neg2, a2, n2, c2, rfl, hint2, hb2⟩; replace hint1 := hint1.below hb2; have hB2 := bthen hB1 hb2)
      | (go_at_call 158; have hq := hB0; refine (div2_int _ _ _ _ _ _ _ _ k k b B lo lo' _ ((unhide HS).lo.below hB0) ((unhide HT).lo.below hB0) hk hb hp (unhide HKB _ hB0)).mono ?_; rintro r w1 ⟨neg1, a1, n1, c1, rfl, hint1, hb1⟩; have hB1 := bthen hB0 hb1))
  go_wp2
  go_ret
  exact ⟨w4.heap.size, pr4 ⟨neg1, a1, n1, c1⟩ ⟨neg2, a2, n2, c2⟩ ⟨neg3, a3, n3, c3⟩ ⟨neg4, a4, n4, c4⟩, rfl, nums4 w4 _ rfl ⟨neg1, a1, n1, c1⟩ ⟨neg2, a2, n2, c2⟩ ⟨neg3, a3, n3, c3⟩ ⟨neg4, a4, n4, c4⟩ _ _ _ _ _ _ hint1 hint2 hint3 hint4, bthen hBW (balloc hB4 _)⟩
end Go.Proofs.Ytgmnknmjainabab

namespace Go.Proofs.Ytgmnknmjainabab
set_option linter.unusedVariables false
set_option linter.unusedSimpArgs false
set_option linter.unnecessarySimpa false
open Go.RowKit
attribute [local go_sem ↓] Go.wp_at_zero Go.wp_at_succ

set_option maxRecDepth 100000 in
set_option maxHeartbeats 2000000 in
theorem wideDiv_pos (w : World) (s t : Sp) (k b : Nat) (lo hi lo' hi' : Int) (hs : SpAt w s k lo hi) (ht : SpAt w t k lo' hi') (hk : k ≤ 300000000) (hb : b ≤ 1000000) (hbits : s.bits = b) (hp : 0 < lo') (hp2 : 0 < hi') :
    Calls Try.prog 130 #[.agg #[.bool s.ln, .slice s.la s.lN s.lc, .bool s.hn, .slice s.ha s.hN s.hc, .int .i64 s.bits], .agg #[.bool t.ln, .slice t.la t.lN t.lc, .bool t.hn, .slice t.ha t.hN t.hc, .int .i64 t.bits]] w (SpanAns w b (b / 16 + k + 10) (leastZ (pr4 (lo * Q b / lo') (lo * Q b / hi') (hi * Q b / lo') (hi * Q b / hi')) 3) (mostZ (pr4 (-(-(lo * Q b) / lo')) (-(-(lo * Q b) / hi')) (-(-(hi * Q b) / lo')) (-(-(hi * Q b) / hi'))) 3)) := by
  have HBT := hide hbits
  have t1 : ¬ cmpInt hi' 0 < 0 := by unfold cmpInt; rw [if_neg (by omega)]; split <;> omega
  clear hbits
  obtain ⟨W, hW⟩ : ∃ W, W = ((w.alloc (.cells #[.bool s.ln, .slice s.la s.lN s.lc, .bool s.hn, .slice s.ha s.hN s.hc, .int .i64 s.bits] 28)).alloc (.cells #[.bool t.ln, .slice t.la t.lN t.lc, .bool t.hn, .slice t.ha t.hN t.hc, .int .i64 t.bits] 28)).alloc (.cells #[.bool false, .slice none 0 0, .bool false, .slice none 0 0, .int .i64 0] 28) := ⟨_, rfl⟩
  have hBW : Below w.heap.size w W := by rw [hW]; exact bl3 _ _ _ _
  have A : SpC W w.heap.size s := by rw [hW]; exact ⟨by simp [go_sem], by simp [go_sem], by simp [go_sem], by simp [go_sem], by simp [go_sem]⟩
  have G : SpC W (w.heap.size + 1) t := by rw [hW]; exact ⟨by simp [go_sem], by simp [go_sem], by simp [go_sem], by simp [go_sem], by simp [go_sem]⟩
  have R : NoC W (w.heap.size + 1 + 1) := by rw [hW]; exact ⟨by simp [go_sem], by simp [go_sem], by simp [go_sem], by simp [go_sem], by simp [go_sem], fun o => by simp [go_sem]⟩
  replace hs := hs.below hBW
  replace ht := ht.below hBW
  go_enter Try.func130, Try.ntmps130
  go_wp2_with fail
  rw [← hW]
  clear hW
  refine (sign_int _ _ _ _ k hi' _ ht.hi).mono ?_
  rintro r w0 ⟨rfl, hb0⟩
  replace hBW := bthen hBW hb0
  replace A := A.below hb0
  replace G := G.below hb0
  replace R := R.below hb0
  replace hs := hs.below hb0
  replace ht := ht.below hb0
  clear hb0
  have lA := A.lt
  have lG := G.lt
  obtain ⟨x0, x1, x2, x3, x4⟩ := A
  obtain ⟨y0, y1, y2, y3, y4⟩ := G
  have A : SpC w0 w.heap.size s := ⟨x0, x1, x2, x3, x4⟩
  have G : SpC w0 (w.heap.size + 1) t := ⟨y0, y1, y2, y3, y4⟩
  go_wp2_with fail
  clear lA lG x0 x1 x2 x3 x4 y0 y1 y2 y3 y4
  refine (corners_div1 _ s t k b w.heap.size lo hi lo' hi' hs ht hk hb hp hp2 (by rw [← unhide HBT]; exact A.c4)).mono ?_
  rintro r w1 ⟨B1, f1, rfl, hN1, hb1⟩
  replace hBW := bthen hBW hb1
  replace A := A.below hb1
  replace G := G.below hb1
  replace R := R.below hb1
  replace hs := hs.below hb1
  replace ht := ht.below hb1
  clear hb1
  go_wp2_with fail
  refine (leastw_int _ 3 _ (b / 16 + k + 9) f1 _ _ hN1 (by omega) (by omega)).mono ?_
  rintro r w2 ⟨neg2, a2, n2, c2, rfl, hint2, hb2⟩
  replace hBW := bthen hBW hb2
  replace A := A.below hb2
  replace G := G.below hb2
  replace R := R.below hb2
  replace hs := hs.below hb2
  replace ht := ht.below hb2
  clear hb2 hN1
  obtain ⟨W2, hW2⟩ : ∃ W', W' = w2.alloc (.cells #[.bool neg2, .slice a2 n2 c2] 26) := ⟨_, rfl⟩
  have hc2 : Below w2.heap.size w2 W2 := by rw [hW2]; exact bl1 _ _
  have X2 : NmC W2 w2.heap.size ⟨neg2, a2, n2, c2⟩ := by rw [hW2]; exact nmc_new w2 ⟨neg2, a2, n2, c2⟩ _
  have lA := A.lt
  have lG := G.lt
  obtain ⟨x0, x1, x2, x3, x4⟩ := A
  obtain ⟨y0, y1, y2, y3, y4⟩ := G
  have A : SpC w2 w.heap.size s := ⟨x0, x1, x2, x3, x4⟩
  have G : SpC w2 (w.heap.size + 1) t := ⟨y0, y1, y2, y3, y4⟩
  go_wp2_with fail
  rw [← hW2]
  clear hW2
  clear lA lG x0 x1 x2 x3 x4 y0 y1 y2 y3 y4
  have nR2 : w2.heap.size ≠ w.heap.size + 1 + 1 := Nat.ne_of_gt R.lt
  replace hBW := bthen hBW hc2
  replace A := A.below hc2
  replace G := G.below hc2
  replace R := R.below hc2
  replace hs := hs.below hc2
  replace ht := ht.below hc2
  replace hint2 := hint2.below hc2
  clear hc2
  refine (corners_div2 _ s t k b w.heap.size lo hi lo' hi' hs ht hk hb hp hp2 (by rw [← unhide HBT]; exact A.c4)).mono ?_
  rintro r w3 ⟨B3, f3, rfl, hN3, hb3⟩
  replace hBW := bthen hBW hb3
  replace A := A.below hb3
  replace R := R.below hb3
  replace hint2 := hint2.below hb3
  replace X2 := X2.below hb3
  clear hb3
  go_wp2_with fail
  refine (most_int _ 3 _ (b / 16 + k + 9) f3 _ _ hN3 (by omega) (by omega)).mono ?_
  rintro r w4 ⟨neg4, a4, n4, c4, rfl, hint4, hb4⟩
  replace hBW := bthen hBW hb4
  replace A := A.below hb4
  replace R := R.below hb4
  replace hint2 := hint2.below hb4
  replace X2 := X2.below hb4
  clear hb4 hN3
  have lA := A.lt
  have lX := X2.lt
  have lR := R.lt
  have nR2' : w.heap.size + 1 + 1 ≠ w2.heap.size := fun e9 => nR2 e9.symm
  have nR4 : w4.heap.size ≠ w.heap.size + 1 + 1 := Nat.ne_of_gt lR
  have nR4' : w.heap.size + 1 + 1 ≠ w4.heap.size := Nat.ne_of_lt lR
  have nX4 : w2.heap.size ≠ w4.heap.size := Nat.ne_of_lt lX
  obtain ⟨x0, x1, x2, x3, x4⟩ := A
  obtain ⟨z0, z1⟩ := X2
  obtain ⟨q0, q1, q2, q3, q4, q5⟩ := R
  go_wp2_with fail
  refine bodyPost_ret (v := .agg #[.bool neg2, .slice a2 n2 c2, .bool neg4, .slice a4 n4 c4, .int .i64 s.bits]) (by simp [results, Try.results130, go_sem, lR, q0, q1, q2, q3, q4]) rfl ⟨⟨neg2, a2, n2, c2, neg4, a4, n4, c4, s.bits⟩, rfl, unhide HBT, ?_, ?_⟩
  · first | with_reducible exact SpAt.put5 ⟨(hint2.below (bl1 _ _)).mono (by omega), (hint4.below (bl1 _ _)).mono (by omega)⟩ (by simp [go_sem, lR, q0]) (by simp [go_sem, lR, q1]) (by simp [go_sem, lR, q2]) (by simp [go_sem, lR, q3]) (by simp [go_sem, lR, q4]) _ _ _ _ _ | with_reducible exact SpAt.below (SpAt.put5 ⟨hint2.mono (by omega), hint4.mono (by omega)⟩ q0 q1 q2 q3 q4 _ _ _ _ _) (bl1 _ _)
  · first | with_reducible exact set5 (balloc hBW _) (by omega) _ _ _ _ _ | with_reducible exact balloc (set5 hBW (by omega) _ _ _ _ _) _
end Go.Proofs.Ytgmnknmjainabab

namespace Go.Proofs.Ytgmnknmjainabab
set_option linter.unusedVariables false
set_option linter.unusedSimpArgs false
set_option linter.unnecessarySimpa false
open Go.RowKit
attribute [local go_sem ↓] Go.wp_at_zero Go.wp_at_succ

theorem SpC.put5n {w : World} {B B' : Nat} {s : Sp} (h : SpC w B s) (hne : B ≠ B') (u0 u1 u2 u3 u4 : Value) :
    SpC (((((w.setCell ⟨B', 0, none⟩ u0).setCell ⟨B', 1, none⟩ u1).setCell ⟨B', 2, none⟩ u2).setCell ⟨B', 3, none⟩ u3).setCell ⟨B', 4, none⟩ u4) B s :=
  ⟨cell_put5' h.c0 hne _ _ _ _ _, cell_put5' h.c1 hne _ _ _ _ _, cell_put5' h.c2 hne _ _ _ _ _, cell_put5' h.c3 hne _ _ _ _ _, cell_put5' h.c4 hne _ _ _ _ _⟩
theorem NoC.put5n {w : World} {B B' : Nat} (h : NoC w B) (hne : B ≠ B') (u0 u1 u2 u3 u4 : Value) :
    NoC (((((w.setCell ⟨B', 0, none⟩ u0).setCell ⟨B', 1, none⟩ u1).setCell ⟨B', 2, none⟩ u2).setCell ⟨B', 3, none⟩ u3).setCell ⟨B', 4, none⟩ u4) B := by
  obtain ⟨q0, q1, q2, q3, q4, q5⟩ := h
  exact ⟨cell_put5' q0 hne _ _ _ _ _, cell_put5' q1 hne _ _ _ _ _, cell_put5' q2 hne _ _ _ _ _, cell_put5' q3 hne _ _ _ _ _, cell_put5' q4 hne _ _ _ _ _, fun o => by rw [frozen_set', frozen_set', frozen_set', frozen_set', frozen_set']; exact q5 o⟩
theorem sp_put {w : World} {B : Nat} {t : Sp} (h : SpC w B t) (s : Sp) : SpC (((((w.setCell ⟨B, 0, none⟩ (.bool s.ln)).setCell ⟨B, 1, none⟩ (.slice s.la s.lN s.lc)).setCell ⟨B, 2, none⟩ (.bool s.hn)).setCell ⟨B, 3, none⟩ (.slice s.ha s.hN s.hc)).setCell ⟨B, 4, none⟩ (.int .i64 s.bits)) B s := by
  obtain ⟨q0, q1, q2, q3, q4⟩ := h
  constructor <;> simp [go_sem, q0, q1, q2, q3, q4]
/-- Two spans that are written anew, one behind the other. -/
theorem two_sp {w : World} {B B' : Nat} {s t : Sp} (hA : SpC w B s) (hG : SpC w B' t) (hne : B ≠ B') (u v : Sp) :
    let w1 := ((((w.setCell ⟨B, 0, none⟩ (.bool u.ln)).setCell ⟨B, 1, none⟩ (.slice u.la u.lN u.lc)).setCell ⟨B, 2, none⟩ (.bool u.hn)).setCell ⟨B, 3, none⟩ (.slice u.ha u.hN u.hc)).setCell ⟨B, 4, none⟩ (.int .i64 u.bits)
    let w2 := ((((w1.setCell ⟨B', 0, none⟩ (.bool v.ln)).setCell ⟨B', 1, none⟩ (.slice v.la v.lN v.lc)).setCell ⟨B', 2, none⟩ (.bool v.hn)).setCell ⟨B', 3, none⟩ (.slice v.ha v.hN v.hc)).setCell ⟨B', 4, none⟩ (.int .i64 v.bits)
    SpC w2 B u ∧ SpC w2 B' v ∧ (∀ {x : Sp} {k : Nat} {lo hi : Int}, SpAt w x k lo hi → SpAt w2 x k lo hi) ∧ (∀ {C : Nat}, NoC w C → C ≠ B → C ≠ B' → NoC w2 C) := by
  intro w1 w2
  have h1 : SpC w1 B u := sp_put hA u
  have h2 : SpC w1 B' t := hG.put5n (fun e => hne e.symm) _ _ _ _ _
  exact ⟨h1.put5n hne _ _ _ _ _, sp_put h2 v, fun h => SpAt.put5 (SpAt.put5 h hA.c0 hA.c1 hA.c2 hA.c3 hA.c4 _ _ _ _ _) h2.c0 h2.c1 h2.c2 h2.c3 h2.c4 _ _ _ _ _, fun h n1 n2 => (h.put5n n1 _ _ _ _ _).put5n n2 _ _ _ _ _⟩

set_option maxRecDepth 100000 in
set_option maxHeartbeats 4000000 in
theorem wideDiv_neg (w : World) (s t : Sp) (k b : Nat) (lo hi lo' hi' : Int) (hs : SpAt w s k lo hi) (ht : SpAt w t k lo' hi') (hk : k ≤ 300000000) (hb : b ≤ 1000000) (hbits : s.bits = b) (hp : lo' < 0) (hp2 : hi' < 0) :
    Calls Try.prog 130 #[.agg #[.bool s.ln, .slice s.la s.lN s.lc, .bool s.hn, .slice s.ha s.hN s.hc, .int .i64 s.bits], .agg #[.bool t.ln, .slice t.la t.lN t.lc, .bool t.hn, .slice t.ha t.hN t.hc, .int .i64 t.bits]] w (SpanAns w b (b / 16 + k + 10) (leastZ (pr4 ((-hi) * Q b / (-hi')) ((-hi) * Q b / (-lo')) ((-lo) * Q b / (-hi')) ((-lo) * Q b / (-lo'))) 3) (mostZ (pr4 (-(-((-hi) * Q b) / (-hi'))) (-(-((-hi) * Q b) / (-lo'))) (-(-((-lo) * Q b) / (-hi'))) (-(-((-lo) * Q b) / (-lo')))) 3)) := by
  have HBT := hide hbits
  have t1 : cmpInt hi' 0 < 0 := by unfold cmpInt; rw [if_pos (by omega)]; omega
  clear hbits
  obtain ⟨W, hW⟩ : ∃ W, W = ((w.alloc (.cells #[.bool s.ln, .slice s.la s.lN s.lc, .bool s.hn, .slice s.ha s.hN s.hc, .int .i64 s.bits] 28)).alloc (.cells #[.bool t.ln, .slice t.la t.lN t.lc, .bool t.hn, .slice t.ha t.hN t.hc, .int .i64 t.bits] 28)).alloc (.cells #[.bool false, .slice none 0 0, .bool false, .slice none 0 0, .int .i64 0] 28) := ⟨_, rfl⟩
  have hBW : Below w.heap.size w W := by rw [hW]; exact bl3 _ _ _ _
  have A : SpC W w.heap.size s := by rw [hW]; exact ⟨by simp [go_sem], by simp [go_sem], by simp [go_sem], by simp [go_sem], by simp [go_sem]⟩
  have G : SpC W (w.heap.size + 1) t := by rw [hW]; exact ⟨by simp [go_sem], by simp [go_sem], by simp [go_sem], by simp [go_sem], by simp [go_sem]⟩
  have R : NoC W (w.heap.size + 1 + 1) := by rw [hW]; exact ⟨by simp [go_sem], by simp [go_sem], by simp [go_sem], by simp [go_sem], by simp [go_sem], fun o => by simp [go_sem]⟩
  have FA : ∀ o, W.frozen? ⟨w.heap.size, o, none⟩ = false := by intro o; rw [hW]; simp [go_sem]
  have FG : ∀ o, W.frozen? ⟨w.heap.size + 1, o, none⟩ = false := by intro o; rw [hW]; simp [go_sem]
  replace hs := hs.below hBW
  replace ht := ht.below hBW
  go_enter Try.func130, Try.ntmps130
  go_wp2_with fail
  rw [← hW]
  clear hW
  refine (sign_int _ _ _ _ k hi' _ ht.hi).mono ?_
  rintro r w0 ⟨rfl, hb0⟩
  replace hBW := bthen hBW hb0
  replace FA : ∀ o, w0.frozen? ⟨w.heap.size, o, none⟩ = false := fun o => (hb0.frozen (p := ⟨w.heap.size, o, none⟩) A.lt).trans (FA o)
  replace FG : ∀ o, w0.frozen? ⟨w.heap.size + 1, o, none⟩ = false := fun o => (hb0.frozen (p := ⟨w.heap.size + 1, o, none⟩) G.lt).trans (FG o)
  replace A := A.below hb0
  replace G := G.below hb0
  replace R := R.below hb0
  replace hs := hs.below hb0
  replace ht := ht.below hb0
  clear hb0
  have nAG : w.heap.size ≠ w.heap.size + 1 := by omega
  have nRA : w.heap.size + 1 + 1 ≠ w.heap.size := by omega
  have nRG : w.heap.size + 1 + 1 ≠ w.heap.size + 1 := by omega
  have HS := hide hs
  have HT := hide ht
  have HR := hide R
  have HA := hide A
  have HG := hide G
  have lA := A.lt
  have lG := G.lt
  have hB0 : Below w0.heap.size w0 w0.drew := (Below.refl _ _).drew
  obtain ⟨x0, x1, x2, x3, x4⟩ := A
  obtain ⟨y0, y1, y2, y3, y4⟩ := G
  go_wp2_with fail
  go_cut [12] (fun p wx => ∃ s2 t2 : Sp, s2.bits = s.bits ∧ SpC wx w.heap.size s2 ∧ SpC wx (w.heap.size + 1) t2 ∧ SpAt wx s2 k (-hi) (-lo) ∧ SpAt wx t2 k (-hi') (-lo') ∧ NoC wx (w.heap.size + 1 + 1) ∧ Below w.heap.size w wx)
  case first =>
    go_region_with
      (first
        | (go_at_call 78; have hq := hB1; refine (opposite_int _ t k lo' hi' ((unhide HT).below hB1) (by omega)).mono ?_; rintro r w2 ⟨u2, rfl, hub2, hup2, hb2⟩; have HU2 := hide hub2; clear hub2; have hB2 := bthen hB1 hb2; replace hup1 := hup1.below hb2; have l2A := Nat.lt_of_lt_of_le lA hB2.size; have l2G := Nat.lt_of_lt_of_le lG hB2.size; obtain ⟨a0, a1, a2, a3, a4⟩ := (unhide HA).below hB2; obtain ⟨g0, g1, g2, g3, g4⟩ := (unhide HG).below hB2; have fA2 : ∀ o, w2.frozen? ⟨w.heap.size, o, none⟩ = false := (fun o => (hB2.frozen (p := ⟨w.heap.size, o, none⟩) lA).trans (FA o)); have fG2 : ∀ o, w2.frozen? ⟨w.heap.size + 1, o, none⟩ = false := (fun o => (hB2.frozen (p := ⟨w.heap.size + 1, o, none⟩) lG).trans (FG o)))
        | (go_at_call 78; refine (opposite_int _ s k lo hi ((unhide HS).below (by repeat' (first | with_reducible exact Below.refl _ _ | with_reducible refine Below.drew ?_))) (by omega)).mono ?_; rintro r w1 ⟨u1, rfl, hub1, hup1, hb1⟩; have HU1 := hide hub1; clear hub1; have hB1 : Below w0.heap.size w0 w1 := bthen (by repeat' (first | with_reducible exact Below.refl _ _ | with_reducible refine Below.drew ?_)) hb1; obtain ⟨b0, b1, b2, b3, b4⟩ := (unhide HA).below hB1; obtain ⟨d0, d1, d2, d3, d4⟩ := (unhide HG).below hB1; have l1A := Nat.lt_of_lt_of_le lA hB1.size; have l1G := Nat.lt_of_lt_of_le lG hB1.size))
    all_goals
      go_wp2_with fail
      go_meet
      have A2 : SpC w2 w.heap.size s := ⟨a0, a1, a2, a3, a4⟩
      have G2 : SpC w2 (w.heap.size + 1) t := ⟨g0, g1, g2, g3, g4⟩
      obtain ⟨p1, p2, p3, p4⟩ := two_sp A2 G2 nAG u1 u2
      exact ⟨u1, u2, unhide HU1, p1, p2, p3 hup1, p3 hup2, p4 ((unhide HR).below hB2) nRA nRG, set5 (set5 (bthen hBW hB2) (Nat.le_refl _) _ _ _ _ _) (Nat.le_succ _) _ _ _ _ _⟩
  case rest =>
  obtain ⟨s2, t2, hsb, A, G, hs, ht, R, hBW⟩ := hcut
  replace HBT := hide (hsb.trans (unhide HBT))
  clear hsb HA HG HS HT HR lA lG x0 x1 x2 x3 x4 y0 y1 y2 y3 y4 FA FG hB0
  have lA := A.lt
  have lG := G.lt
  obtain ⟨x0, x1, x2, x3, x4⟩ := A
  obtain ⟨y0, y1, y2, y3, y4⟩ := G
  have A : SpC wc w.heap.size s2 := ⟨x0, x1, x2, x3, x4⟩
  have G : SpC wc (w.heap.size + 1) t2 := ⟨y0, y1, y2, y3, y4⟩
  go_wp2_with fail
  clear lA lG x0 x1 x2 x3 x4 y0 y1 y2 y3 y4
  refine (corners_div1 _ s2 t2 k b w.heap.size (-hi) (-lo) (-hi') (-lo') hs ht hk hb (by omega) (by omega) (by rw [← unhide HBT]; exact A.c4)).mono ?_
  rintro r w1 ⟨B1, f1, rfl, hN1, hb1⟩
  replace hBW := bthen hBW hb1
  replace A := A.below hb1
  replace G := G.below hb1
  replace R := R.below hb1
  replace hs := hs.below hb1
  replace ht := ht.below hb1
  clear hb1
  go_wp2_with fail
  refine (leastw_int _ 3 _ (b / 16 + k + 9) f1 _ _ hN1 (by omega) (by omega)).mono ?_
  rintro r w2 ⟨neg2, a2, n2, c2, rfl, hint2, hb2⟩
  replace hBW := bthen hBW hb2
  replace A := A.below hb2
  replace G := G.below hb2
  replace R := R.below hb2
  replace hs := hs.below hb2
  replace ht := ht.below hb2
  clear hb2 hN1
  obtain ⟨W2, hW2⟩ : ∃ W', W' = w2.alloc (.cells #[.bool neg2, .slice a2 n2 c2] 26) := ⟨_, rfl⟩
  have hc2 : Below w2.heap.size w2 W2 := by rw [hW2]; exact bl1 _ _
  have X2 : NmC W2 w2.heap.size ⟨neg2, a2, n2, c2⟩ := by rw [hW2]; exact nmc_new w2 ⟨neg2, a2, n2, c2⟩ _
  have lA := A.lt
  have lG := G.lt
  obtain ⟨x0, x1, x2, x3, x4⟩ := A
  obtain ⟨y0, y1, y2, y3, y4⟩ := G
  have A : SpC w2 w.heap.size s2 := ⟨x0, x1, x2, x3, x4⟩
  have G : SpC w2 (w.heap.size + 1) t2 := ⟨y0, y1, y2, y3, y4⟩
  go_wp2_with fail
  rw [← hW2]
  clear hW2
  clear lA lG x0 x1 x2 x3 x4 y0 y1 y2 y3 y4
  have nR2 : w2.heap.size ≠ w.heap.size + 1 + 1 := Nat.ne_of_gt R.lt
  replace hBW := bthen hBW hc2
  replace A := A.below hc2
  replace G := G.below hc2
  replace R := R.below hc2
  replace hs := hs.below hc2
  replace ht := ht.below hc2
  replace hint2 := hint2.below hc2
  clear hc2
  refine (corners_div2 _ s2 t2 k b w.heap.size (-hi) (-lo) (-hi') (-lo') hs ht hk hb (by omega) (by omega) (by rw [← unhide HBT]; exact A.c4)).mono ?_
  rintro r w3 ⟨B3, f3, rfl, hN3, hb3⟩
  replace hBW := bthen hBW hb3
  replace A := A.below hb3
  replace R := R.below hb3
  replace hint2 := hint2.below hb3
  replace X2 := X2.below hb3
  clear hb3
  go_wp2_with fail
  refine (most_int _ 3 _ (b / 16 + k + 9) f3 _ _ hN3 (by omega) (by omega)).mono ?_
  rintro r w4 ⟨neg4, a4, n4, c4, rfl, hint4, hb4⟩
  replace hBW := bthen hBW hb4
  replace A := A.below hb4
  replace R := R.below hb4
  replace hint2 := hint2.below hb4
  replace X2 := X2.below hb4
  clear hb4 hN3
  have lA := A.lt
  have lX := X2.lt
  have lR := R.lt
  have nR2' : w.heap.size + 1 + 1 ≠ w2.heap.size := fun e9 => nR2 e9.symm
  have nR4 : w4.heap.size ≠ w.heap.size + 1 + 1 := Nat.ne_of_gt lR
  have nR4' : w.heap.size + 1 + 1 ≠ w4.heap.size := Nat.ne_of_lt lR
  have nX4 : w2.heap.size ≠ w4.heap.size := Nat.ne_of_lt lX
  obtain ⟨x0, x1, x2, x3, x4⟩ := A
  obtain ⟨z0, z1⟩ := X2
  obtain ⟨q0, q1, q2, q3, q4, q5⟩ := R
  go_wp2_with fail
  refine bodyPost_ret (v := .agg #[.bool neg2, .slice a2 n2 c2, .bool neg4, .slice a4 n4 c4, .int .i64 s2.bits]) (by simp [results, Try.results130, go_sem, lR, q0, q1, q2, q3, q4]) rfl ⟨⟨neg2, a2, n2, c2, neg4, a4, n4, c4, s2.bits⟩, rfl, unhide HBT, ?_, ?_⟩
  · first | with_reducible exact SpAt.put5 ⟨(hint2.below (bl1 _ _)).mono (by omega), (hint4.below (bl1 _ _)).mono (by omega)⟩ (by simp [go_sem, lR, q0]) (by simp [go_sem, lR, q1]) (by simp [go_sem, lR, q2]) (by simp [go_sem, lR, q3]) (by simp [go_sem, lR, q4]) _ _ _ _ _ | with_reducible exact SpAt.below (SpAt.put5 ⟨hint2.mono (by omega), hint4.mono (by omega)⟩ q0 q1 q2 q3 q4 _ _ _ _ _) (bl1 _ _)
  · first | with_reducible exact set5 (balloc hBW _) (by omega) _ _ _ _ _ | with_reducible exact balloc (set5 hBW (by omega) _ _ _ _ _) _

theorem wideDiv_any (w : World) (s t : Sp) (k b : Nat) (lo hi lo' hi' : Int) (hs : SpAt w s k lo hi) (ht : SpAt w t k lo' hi') (hk : k ≤ 300000000) (hb : b ≤ 1000000) (hbits : s.bits = b) (hl : lo ≤ hi) (hp : ¬ (lo' ≤ 0 ∧ 0 ≤ hi')) (hp2 : lo' ≤ hi') :
    Calls Try.prog 130 #[.agg #[.bool s.ln, .slice s.la s.lN s.lc, .bool s.hn, .slice s.ha s.hN s.hc, .int .i64 s.bits], .agg #[.bool t.ln, .slice t.la t.lN t.lc, .bool t.hn, .slice t.ha t.hN t.hc, .int .i64 t.bits]] w (SpanAns w b (b / 16 + k + 10) (dvLo lo hi lo' hi' b) (dvHi lo hi lo' hi' b)) := by
  have hq := Q_pos b
  unfold dvLo dvHi
  by_cases h : hi' < 0
  · rw [if_pos h, if_pos h]
    have := wideDiv_neg w s t k b lo hi lo' hi' hs ht hk hb hbits (by omega) h
    rw [over_least (Int.mul_le_mul_of_nonneg_right (by omega) (by omega)) (by omega) (by omega), over_most (Int.mul_le_mul_of_nonneg_right (by omega) (by omega)) (by omega) (by omega)] at this
    exact this
  · rw [if_neg h, if_neg h]
    have := wideDiv_pos w s t k b lo hi lo' hi' hs ht hk hb hbits (by omega) (by omega)
    rw [over_least (Int.mul_le_mul_of_nonneg_right hl (by omega)) (by omega) (by omega), over_most (Int.mul_le_mul_of_nonneg_right hl (by omega)) (by omega) (by omega)] at this
    exact this
end Go.Proofs.Ytgmnknmjainabab
