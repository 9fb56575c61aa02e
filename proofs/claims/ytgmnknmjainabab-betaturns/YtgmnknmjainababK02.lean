/-
  Texts LogM, IsLog, GamA, GamB, GamC: what they hold is told in the last text.
-/
import Derived.Test.YtgmnknmjainababK01
set_option linter.unusedVariables false
namespace Go.Proofs.Ytgmnknmjainabab.Ex
def pw (x : Rat) : Nat → Rat
  | 0 => 1
  | k + 1 => x * pw x k
def q2 : Nat → Rat
  | 0 => 1
  | n + 1 => q2 n / 2
theorem q2_pos (n : Nat) : 0 < q2 n := by
  induction n with
  | zero => simp only [q2]; grind
  | succ n ih => simp only [q2]; grind
theorem q2_le (n : Nat) : q2 n ≤ 1 := by
  induction n with
  | zero => simp only [q2]; grind
  | succ n ih => simp only [q2]; have := q2_pos n; grind
theorem pw_AB {y : Rat} (h : AB y (1 / 2)) (k : Nat) : AB (pw y k) (q2 k) := by
  induction k with
  | zero => simp only [pw, q2]; constructor <;> grind
  | succ k ih => simp only [pw, q2]; exact (h.mul ih).mono (by grind)
theorem pw_step {y h : Rat} (hy : AB y (1 / 2)) (hyh : AB (y + h) (1 / 2)) (k : Nat) :
    AB (pw (y + h) (k + 1) - pw y (k + 1) - ((k : Rat) + 1) * (h * pw y k)) ((k : Rat) * ((k : Rat) + 1) * q2 k * (h * h)) := by
  induction k with
  | zero => simp only [pw, q2]; simp; constructor <;> grind
  | succ k ih =>
    have e1 : pw (y + h) (k + 1 + 1) = (y + h) * pw (y + h) (k + 1) := rfl
    have e2 : pw y (k + 1 + 1) = y * pw y (k + 1) := rfl
    have e3 : pw y (k + 1) = y * pw y k := rfl
    have e4 : ((k + 1 : Nat) : Rat) = (k : Rat) + 1 := by simp
    have e5 : q2 (k + 1) = q2 k / 2 := rfl
    have h2 := sq_nonneg h
    have q := q2_pos k
    have kk : (0 : Rat) ≤ (k : Rat) := by exact_mod_cast Nat.zero_le k
    have g1 := hyh.mul ih
    have g2 : AB (((k : Rat) + 1) * (h * h) * pw y k) (((k : Rat) + 1) * (h * h) * q2 k) := by
      have : AB (((k : Rat) + 1) * (h * h)) (((k : Rat) + 1) * (h * h)) := by
        have := Rat.mul_nonneg (show 0 ≤ (k : Rat) + 1 by grind) h2
        constructor <;> grind
      exact this.mul (pw_AB hy k)
    have g := g1.add g2
    rw [e1, e2, e4, e5]
    have : (y + h) * (pw (y + h) (k + 1) - pw y (k + 1) - ((k : Rat) + 1) * (h * pw y k)) + ((k : Rat) + 1) * (h * h) * pw y k = (y + h) * pw (y + h) (k + 1) - y * pw y (k + 1) - ((k : Rat) + 1 + 1) * (h * pw y (k + 1)) := by
      rw [e3]; grind
    rw [this] at g
    exact g.mono (by grind)
def Lg (y : Rat) (M : Nat) : Rat := S (fun k => pw y (k + 1) / ((k : Rat) + 1)) M
theorem rdiv_AB {t b m : Rat} (hm : 0 < m) (h : AB t (m * b)) : AB (t / m) b := by
  have e := rdm (a := t) hm
  generalize t / m = q at *
  obtain ⟨h1, h2⟩ := h
  constructor
  · refine Rat.not_lt.1 fun hn => ?_
    have := Rat.mul_pos hm (show 0 < -b - q by grind)
    grind
  · refine Rat.not_lt.1 fun hn => ?_
    have := Rat.mul_pos hm (show 0 < q - b by grind)
    grind
theorem S_sub (f g : Nat → Rat) (n : Nat) : S (fun i => f i - g i) n = S f n - S g n := by
  induction n with
  | zero => simp [S]; try grind
  | succ n ih => simp only [S, ih]; grind
theorem S_k2 (M : Nat) : S (fun k => (k : Rat) * q2 k) M = 2 - 2 * ((M : Rat) + 1) * q2 M := by
  induction M with
  | zero => simp only [S, q2]; simp; grind
  | succ M ih =>
    simp only [S, ih, q2]
    have e4 : ((M + 1 : Nat) : Rat) = (M : Rat) + 1 := by simp
    rw [e4]; grind
theorem Lg_step {y h : Rat} (hy : AB y (1 / 2)) (hyh : AB (y + h) (1 / 2)) (M : Nat) :
    AB (Lg (y + h) M - Lg y M - h * S (pw y) M) (2 * (h * h)) := by
  have e : Lg (y + h) M - Lg y M - h * S (pw y) M = S (fun k => (pw (y + h) (k + 1) - pw y (k + 1) - ((k : Rat) + 1) * (h * pw y k)) / ((k : Rat) + 1)) M := by
    unfold Lg
    rw [← S_mul, ← S_sub, ← S_sub]
    refine S_congr _ fun i hi => ?_
    have hp := pos1 i
    generalize (i : Rat) + 1 = m at *
    grind
  rw [e]
  have h2 := sq_nonneg h
  have g : AB (S (fun k => (pw (y + h) (k + 1) - pw y (k + 1) - ((k : Rat) + 1) * (h * pw y k)) / ((k : Rat) + 1)) M) (S (fun k => (h * h) * ((k : Rat) * q2 k)) M) := by
    refine S_AB _ fun i hi => ?_
    refine rdiv_AB (pos1 i) ((pw_step hy hyh i).mono ?_)
    grind
  refine g.mono ?_
  rw [S_mul, S_k2]
  have q := q2_pos M
  have hM0 : (0 : Rat) ≤ (M : Rat) := by exact_mod_cast Nat.zero_le M
  have := Rat.mul_nonneg (Rat.mul_nonneg h2 (show 0 ≤ (M : Rat) + 1 by grind)) (Rat.le_of_lt q)
  grind
theorem S_pw (y : Rat) (M : Nat) : S (pw y) M * (1 - y) = 1 - pw y M := by
  induction M with
  | zero => simp only [S, pw]; grind
  | succ M ih => simp only [S, pw]; grind
theorem S_q2 (M : Nat) : S q2 M = 2 - 2 * q2 M := by
  induction M with
  | zero => simp only [S, q2]; grind
  | succ M ih => simp only [S, q2, ih]; grind
theorem S_pw_AB {y : Rat} (hy : AB y (1 / 2)) (M : Nat) : AB (S (pw y) M) 2 := by
  refine (S_AB M fun i _ => pw_AB hy i).mono ?_
  rw [S_q2]; have := q2_pos M; grind
theorem Lg_AB {y : Rat} (hy : AB y (1 / 2)) (M : Nat) : AB (Lg y M) 2 := by
  have : AB (Lg y M) (S q2 M) := by
    refine S_AB M fun i _ => rdiv_AB (pos1 i) ((pw_AB hy (i + 1)).mono ?_)
    have q := q2_pos i
    have kk : (0 : Rat) ≤ (i : Rat) := by exact_mod_cast Nat.zero_le i
    have := Rat.mul_nonneg kk (Rat.le_of_lt q)
    simp only [q2]; grind
  refine this.mono ?_
  rw [S_q2]; have := q2_pos M; grind
theorem pw_zero (k : Nat) : pw 0 (k + 1) = 0 := by simp only [pw]; grind
theorem Lg_zero (M : Nat) : Lg 0 M = 0 := by
  unfold Lg
  rw [S_congr M (g := fun _ => 0) (fun i _ => by rw [pw_zero]; grind), S_const]; grind
theorem G_step (K η : Rat) (M : Nat) (hM : 2 ≤ M) (hK : ∀ x, AB x 4 → AB (E x M) K) (hη : ∀ x y, AB x 4 → AB y 4 → AB (E x M * E y M - E (x + y) M) η)
    {y h b : Rat} (hy : AB y (1 / 2)) (hyh : AB (y + h) (1 / 2)) (hb : AB h b) (hb12 : b ≤ 1 / 12) :
    AB (E (Lg (y + h) M) M * (1 - (y + h)) - E (Lg y M) M * (1 - y)) (K * (33 * (b * b) + b * q2 M) + 2 * η) := by
  have b0 := hb.nonneg
  have g1 := Lg_step hy hyh M
  have g2 := S_pw y M
  have g3 := S_pw_AB hy M
  have g4 := pw_AB hy M
  have g5 := Lg_AB hy M
  have g6 := Lg_AB hyh M
  have hbb : h * h ≤ b * b := by have := (hb.mul hb).2; grind
  generalize S (pw y) M = g at *
  generalize pw y M = pM at *
  obtain ⟨δ, hδ⟩ : ∃ δ, δ = Lg (y + h) M - Lg y M := ⟨_, rfl⟩
  obtain ⟨r, hr⟩ : ∃ r, r = Lg (y + h) M - Lg y M - h * g := ⟨_, rfl⟩
  have hrb : AB r (2 * (b * b)) := by rw [hr]; exact g1.mono (by grind)
  have bb := Rat.mul_nonneg b0 b0
  have bb2 := Rat.mul_nonneg b0 (show 0 ≤ 1 / 12 - b by grind)
  have hδb : AB δ (3 * b) := by
    have := (hb.mul g3).add hrb
    have e : h * g + r = δ := by rw [hr, hδ]; grind
    rw [e] at this
    exact this.mono (by grind)
  have hs := E_little2 hδb (by grind) hM
  have hE := hK _ (g5.mono (by grind))
  have hmul := hη (Lg y M) δ (g5.mono (by grind)) (hδb.mono (by grind))
  rw [show Lg y M + δ = Lg (y + h) M by rw [hδ]; grind] at hmul
  generalize E (Lg (y + h) M) M = A at *
  generalize E (Lg y M) M = C at *
  generalize E δ M = D at *
  obtain ⟨s, hs'⟩ : ∃ s, s = D - 1 - δ := ⟨_, rfl⟩
  rw [← hs'] at hs
  obtain ⟨t, ht⟩ : ∃ t, t = C * D - A := ⟨_, rfl⟩
  rw [← ht] at hmul
  have h1y : AB (1 - y) (3 / 2) := by obtain ⟨_, _⟩ := hy; constructor <;> grind
  have h1yh : AB (1 - (y + h)) 2 := by obtain ⟨_, _⟩ := hyh; constructor <;> grind
  have h1yh' : AB (1 - (y + h)) (3 / 2) := by obtain ⟨_, _⟩ := hyh; constructor <;> grind
  have key : A * (1 - (y + h)) - C * (1 - y) = C * (-(h * pM) + r * (1 - y) + (-(δ * h)) + s * (1 - (y + h))) + -(t * (1 - (y + h))) := by
    have e1 : A = C * D - t := by grind
    have e2 : D = s + 1 + δ := by grind
    have e3 : δ = h * g + r := by rw [hr, hδ]; grind
    have e4 : pM = 1 - g * (1 - y) := by grind
    rw [e1, e2, e4, e3]
    grind
  rw [key]
  have m1 := (hb.mul g4).neg
  have m2 := hrb.mul h1y
  have m3 := (hδb.mul hb).neg
  have m4 := hs.mul h1yh'
  have m5 := (hmul.mul h1yh).neg
  have m := (hE.mul (((m1.add m2).add m3).add m4)).add m5
  refine m.mono ?_
  have := hE.nonneg
  have : b * q2 M + 2 * (b * b) * (3 / 2) + 3 * b * b + 2 * (3 * b * (3 * b)) * (3 / 2) = 33 * (b * b) + b * q2 M := by grind
  rw [this]
  grind
theorem G_steps (K η : Rat) (M : Nat) (hM : 2 ≤ M) (hK : ∀ x, AB x 4 → AB (E x M) K) (hη : ∀ x y, AB x 4 → AB y 4 → AB (E x M * E y M - E (x + y) M) η)
    {h b : Rat} (n : Nat) (hn : (n : Rat) * b ≤ 1 / 2) (hb : AB h b) (hb12 : b ≤ 1 / 12) (j : Nat) (hj : j ≤ n) :
    AB (E (Lg ((j : Rat) * h) M) M * (1 - (j : Rat) * h) - 1) ((j : Rat) * (K * (33 * (b * b) + b * q2 M) + 2 * η)) := by
  have b0 := hb.nonneg
  have hin : ∀ i : Nat, i ≤ n → AB ((i : Rat) * h) (1 / 2) := fun i hi => by
    have hi' : (i : Rat) ≤ (n : Rat) := by exact_mod_cast hi
    have hi0 : (0 : Rat) ≤ (i : Rat) := by exact_mod_cast Nat.zero_le i
    have : AB (i : Rat) (i : Rat) := by constructor <;> grind
    refine (this.mul hb).mono ?_
    have := Rat.mul_nonneg (show 0 ≤ (n : Rat) - i by grind) b0
    grind
  induction j with
  | zero =>
    have : ((0 : Nat) : Rat) = 0 := by simp
    rw [this, Rat.zero_mul, Lg_zero]
    obtain ⟨m, rfl⟩ : ∃ m, M = m + 1 := ⟨M - 1, by omega⟩
    rw [E_zero, Rat.zero_mul]
    constructor <;> grind
  | succ j ih =>
    have ih := ih (by omega)
    have e4 : ((j + 1 : Nat) : Rat) = (j : Rat) + 1 := by simp
    have h2 := hin (j + 1) hj
    rw [e4] at h2 ⊢
    have e5 : ((j : Rat) + 1) * h = (j : Rat) * h + h := by grind
    rw [e5] at h2 ⊢
    have g := G_step K η M hM hK hη (hin j (by omega)) h2 hb hb12
    have := ih.add g
    generalize E (Lg ((j : Rat) * h + h) M) M * (1 - ((j : Rat) * h + h)) = X at *
    generalize E (Lg ((j : Rat) * h) M) M * (1 - (j : Rat) * h) = Y at *
    have e6 : Y - 1 + (X - Y) = X - 1 := by grind
    rw [e6] at this
    exact this.mono (by grind)
theorem q4_q2 (M : Nat) : (M : Rat) * q2 M ≤ 1 := by
  induction M with
  | zero => simp only [q2]; simp; grind
  | succ M ih =>
    have e4 : ((M + 1 : Nat) : Rat) = (M : Rat) + 1 := by simp
    rw [e4]; simp only [q2]
    have := q2_le M
    grind
theorem null_q2 : Null q2 := fun e he => by
  obtain ⟨n, hn1, hn2⟩ := rat_nat (1 / e)
  refine ⟨n + 1, fun M hM => ?_⟩
  have hMn : (n : Rat) ≤ (M : Rat) := by exact_mod_cast (show n ≤ M by omega)
  have u := q4_q2 M
  have q := q2_pos M
  have e1 := rdm (a := 1) he
  generalize 1 / e = d at *
  have s1 := Rat.mul_nonneg (show 0 ≤ (M : Rat) - d by grind) (Rat.le_of_lt q)
  have s2 := Rat.mul_nonneg (show 0 ≤ 1 - d * q2 M by grind) (Rat.le_of_lt he)
  have s3 : (1 - d * q2 M) * e = e - d * e * q2 M := by grind
  rw [s3, e1] at s2
  constructor <;> grind
theorem pos_of_mul {b n c : Rat} (hn : 0 < n) (hc : 0 < c) (h : b * n = c) : 0 < b := by
  refine Rat.not_le.1 fun hb => ?_
  have := Rat.mul_nonneg (show 0 ≤ -b by grind) (Rat.le_of_lt hn)
  grind
theorem Lg_exp (e : Rat) (he : 0 < e) : ∃ N, ∀ M, N ≤ M → ∀ y, AB y (1 / 2) → AB (E (Lg y M) M * (1 - y) - 1) e := by
  obtain ⟨K, k0, hK⟩ := E_bound 4
  obtain ⟨L, l0, hL⟩ := E_unif 4
  obtain ⟨n0, hn1, hn2⟩ := rat_nat (33 * K / e)
  obtain ⟨n, hn⟩ : ∃ n : Nat, n = n0 + 6 := ⟨_, rfl⟩
  have hnr : (n0 : Rat) + 6 = (n : Rat) := by rw [hn]; simp
  have hn0 : (0 : Rat) ≤ (n0 : Rat) := by exact_mod_cast Nat.zero_le n0
  have npos : (0 : Rat) < (n : Rat) := by grind
  have hKn : 33 * K ≤ e * (n : Rat) := by
    have e1 := rdm (a := 33 * K) he
    generalize 33 * K / e = d at *
    have := Rat.mul_nonneg (show 0 ≤ (n : Rat) - d by grind) (Rat.le_of_lt he)
    grind
  have hn6 : (6 : Rat) ≤ (n : Rat) := by grind
  clear hn hn1 hn2 hnr hn0
  have d1 := rdiv_pos he (show 0 < 4 * (K + 1) by grind)
  obtain ⟨N1, h1⟩ := null_q2 _ d1
  have d2 := rdiv_pos he (show (0 : Rat) < 8 * (n : Rat) by grind)
  obtain ⟨N2, h2⟩ := null_q4 L l0 _ d2
  refine ⟨N1 + N2 + 2, fun M hM y hy => ?_⟩
  have g1 := (h1 M (by omega)).2
  have g2 : L * ((M : Rat) * q4 M) ≤ e / (8 * (n : Rat)) := (h2 M (by omega)).2
  have e1 := rdm (a := e) (show 0 < 4 * (K + 1) by grind)
  have e2 := rdm (a := e) (show (0 : Rat) < 8 * (n : Rat) by grind)
  generalize e / (4 * (K + 1)) = c1 at *
  generalize e / (8 * (n : Rat)) = c2 at *
  obtain ⟨b, hbn⟩ : ∃ b, b * (n : Rat) = 1 / 2 := ⟨1 / 2 / (n : Rat), rdm npos⟩
  have b0 : 0 < b := pos_of_mul npos (by grind) hbn
  have hyn := rdm (a := y) npos
  have hh : AB (y / (n : Rat)) b := rdiv_AB npos (hy.mono (by rw [Rat.mul_comm, hbn]; exact Rat.le_refl))
  have hb12 : b ≤ 1 / 12 := by
    have h6 := Rat.mul_nonneg (Rat.le_of_lt b0) (show 0 ≤ (n : Rat) - 6 by grind)
    have h7 : b * ((n : Rat) - 6) = b * n - 6 * b := by grind
    rw [h7, hbn] at h6
    grind
  have g := G_steps K (L * ((M : Rat) * q4 M)) M (by omega) (hK M) (hL M) n (by rw [Rat.mul_comm, hbn]; exact Rat.le_refl) hh hb12 n (Nat.le_refl _)
  rw [show (n : Rat) * (y / (n : Rat)) = y from (Rat.mul_comm _ _).trans hyn] at g
  refine g.mono ?_
  generalize L * ((M : Rat) * q4 M) = η at *
  have q := q2_pos M
  generalize q2 M = Q at *
  have t1 : (n : Rat) * (K * (33 * (b * b) + b * Q) + 2 * η) = K * (33 * b * (b * n) + (b * n) * Q) + 2 * (n * η) := by grind
  rw [t1, hbn]
  have t2 := Rat.mul_nonneg (Rat.le_of_lt npos) (show 0 ≤ c2 - η by grind)
  have t3 := Rat.mul_nonneg k0 (show 0 ≤ c1 - Q by grind)
  have t4 := Rat.mul_nonneg (Rat.le_of_lt b0) (show 0 ≤ e * (n : Rat) - 33 * K by grind)
  have t5 : b * (e * (n : Rat) - 33 * K) = e * (b * n) - 33 * K * b := by grind
  rw [t5, hbn] at t4
  have t6 : (n : Rat) * (c2 - η) = (c2 * (8 * n)) / 8 - n * η := by grind
  rw [t6, e2] at t2
  have t7 : K * (c1 - Q) = (c1 * (4 * (K + 1))) / 4 - c1 - K * Q := by grind
  rw [t7, e1] at t3
  have t8 : K * (33 * b * (1 / 2) + 1 / 2 * Q) = 33 * K * b / 2 + K * Q / 2 := by grind
  rw [t8]
  generalize K * Q = A at *
  generalize 33 * K * b = B at *
  generalize (n : Rat) * η = C at *
  grind
end Go.Proofs.Ytgmnknmjainabab.Ex
namespace Go.Proofs.Ytgmnknmjainabab.Ex
def IsLog (l r : Nat → Rat) : Prop := Bdd l ∧ Null (fun M => Ev l M - r M)
theorem Bdd.of_null {f g : Nat → Rat} (h : Bdd f) (k : Null (fun M => f M - g M)) : Bdd g := by
  obtain ⟨K, N, k0, h⟩ := h.sub k.bdd
  exact ⟨K, N, k0, fun M hM => by have : AB (f M - (f M - g M)) K := h M hM; rw [show f M - (f M - g M) = g M by grind] at this; exact this⟩
theorem IsLog.bdd {l r : Nat → Rat} (h : IsLog l r) : Bdd r := (Ev_bdd h.1).of_null h.2
theorem IsLog.le {l r l' r' z : Nat → Rat} (h : IsLog l r) (h' : IsLog l' r') (hz : Null z) (N0 : Nat) (hr : ∀ M, N0 ≤ M → r M ≤ r' M + z M) (e : Rat) (he : 0 < e) : ∃ N, ∀ M, N ≤ M → l M ≤ l' M + e := by
  refine Ev_back h.1 h'.1 ((h.2.sub h'.2).add hz) N0 (fun M hM => ?_) e he
  have := hr M hM
  grind
theorem IsLog.uniq {l l' r : Nat → Rat} (h : IsLog l r) (h' : IsLog l' r) : Null (fun M => l M - l' M) := fun e he => by
  obtain ⟨N, h1⟩ := h.le h' null_zero 0 (fun M _ => by grind) e he
  obtain ⟨N', h2⟩ := h'.le h null_zero 0 (fun M _ => by grind) e he
  refine ⟨N + N', fun M hM => ?_⟩
  have := h1 M (by omega)
  have := h2 M (by omega)
  constructor <;> grind
theorem IsLog.congr {l l' r : Nat → Rat} (h : IsLog l r) (k : Null (fun M => l M - l' M)) : IsLog l' r := by
  have b := h.1.of_null k
  refine ⟨b, ?_⟩
  refine (h.2.sub (Ev_congr h.1 b k)).of_eq fun M => ?_
  grind
theorem IsLog.congr_r {l r r' : Nat → Rat} (h : IsLog l r) (k : Null (fun M => r M - r' M)) : IsLog l r' :=
  ⟨h.1, (h.2.add k).of_eq fun M => by grind⟩
theorem IsLog.add {l l' r r' : Nat → Rat} (h : IsLog l r) (h' : IsLog l' r') : IsLog (fun M => l M + l' M) (fun M => r M * r' M) := by
  refine ⟨h.1.add h'.1, ?_⟩
  have n1 := Ev_add h.1 h'.1
  have n2 := h.2.bmul (Ev_bdd h'.1)
  have n3 := h'.2.bmul h.bdd
  refine ((n2.add n3).sub n1).of_eq fun M => ?_
  grind
theorem IsLog.neg {l r s : Nat → Rat} (h : IsLog l r) (hs : Bdd s) (N : Nat) (hrs : ∀ M, N ≤ M → s M * r M = 1) : IsLog (fun M => -l M) s := by
  refine ⟨h.1.neg, ?_⟩
  have n1 := Ev_inv h.1
  have n2 := h.2.bmul (Ev_bdd h.1.neg)
  have n3 := (n1.sub n2).bmul hs
  refine n3.of_eq_from N fun M hM => ?_
  have e := hrs M hM
  have : (Ev l M * Ev (fun M => -l M) M - 1 - (Ev l M - r M) * Ev (fun M => -l M) M) * s M = (s M * r M) * Ev (fun M => -l M) M - s M := by grind
  rw [this, e]; grind
theorem isLog_one : IsLog (fun _ => 0) (fun _ => 1) := ⟨Bdd.const 0, null_zero.of_eq_from 1 fun M hM => by
  obtain ⟨m, rfl⟩ : ∃ m, M = m + 1 := ⟨M - 1, by omega⟩
  show E 0 (m + 1) - 1 = 0
  rw [E_zero]; grind⟩
theorem isLog_Lg {y : Nat → Rat} (N0 : Nat) (hy : ∀ M, N0 ≤ M → AB (y M) (1 / 2)) : IsLog (fun M => -Lg (y M) M) (fun M => 1 - y M) := by
  have b1 : Bdd (fun M => Lg (y M) M) := Bdd.of_le 2 N0 fun M hM => Lg_AB (hy M hM) M
  have b2 : Bdd (fun M => 1 - y M) := Bdd.of_le 2 N0 fun M hM => by obtain ⟨_, _⟩ := hy M hM; constructor <;> grind
  refine ⟨b1.neg, ?_⟩
  have n1 := (Ev_inv b1).bmul b2
  have n2 : Null (fun M => E (Lg (y M) M) M * (1 - y M) - 1) := fun e he => by
    obtain ⟨N, h⟩ := Lg_exp e he
    exact ⟨N + N0, fun M hM => h M (by omega) _ (hy M (by omega))⟩
  have n3 := n2.bmul (Ev_bdd b1.neg)
  refine (n1.sub n3).of_eq fun M => ?_
  show Ev (fun M => -Lg (y M) M) M - (1 - y M) = (E (Lg (y M) M) M * Ev (fun M => -Lg (y M) M) M - 1) * (1 - y M) - (E (Lg (y M) M) M * (1 - y M) - 1) * Ev (fun M => -Lg (y M) M) M
  grind
theorem IsLog.half {l r : Nat → Rat} (h : IsLog l (fun M => r M * r M)) (c : Rat) (hc : 0 < c) (N : Nat) (hr : ∀ M, N ≤ M → c ≤ r M) : IsLog (fun M => l M / 2) r := by
  have b : Bdd (fun M => l M / 2) := by
    obtain ⟨K, N', k0, hb⟩ := h.1
    exact ⟨K, N', k0, fun M hM => by obtain ⟨_, _⟩ := hb M hM; constructor <;> grind⟩
  refine ⟨b, ?_⟩
  have n1 := Ev_add b b
  have e : (fun M => l M / 2 + l M / 2) = l := funext fun M => by grind
  rw [e] at n1
  have n2 := n1.add h.2
  obtain ⟨d, hd, N1, hl⟩ := Ev_low b
  intro ε hε
  obtain ⟨N2, h2⟩ := n2 (ε * c) (Rat.mul_pos hε hc)
  refine ⟨N + N1 + N2, fun M hM => ?_⟩
  have g1 := hr M (by omega)
  have g2 := hl M (by omega)
  obtain ⟨g3, g4⟩ : AB (Ev (fun M => l M / 2) M * Ev (fun M => l M / 2) M - Ev l M + (Ev l M - r M * r M)) (ε * c) := h2 M (by omega)
  show AB (Ev (fun M => l M / 2) M - r M) ε
  generalize Ev (fun M => l M / 2) M = X at *
  generalize r M = Y at *
  generalize Ev l M = Z at *
  have e1 : X * X - Z + (Z - Y * Y) = (X - Y) * (X + Y) := by grind
  rw [e1] at g3 g4
  constructor
  · refine Rat.not_lt.1 fun hn => ?_
    have p1 := Rat.mul_nonneg (show 0 ≤ -ε - (X - Y) by grind) (show 0 ≤ X + Y by grind)
    have p2 := Rat.mul_pos hε (show 0 < X + Y - c by grind)
    grind
  · refine Rat.not_lt.1 fun hn => ?_
    have p1 := Rat.mul_nonneg (show 0 ≤ X - Y - ε by grind) (show 0 ≤ X + Y by grind)
    have p2 := Rat.mul_pos hε (show 0 < X + Y - c by grind)
    grind
theorem IsLog.times {l r : Nat → Rat} (h : IsLog l r) (k : Nat) : IsLog (fun M => (k : Rat) * l M) (fun M => pw (r M) k) := by
  induction k with
  | zero =>
    have e1 : (fun M => ((0 : Nat) : Rat) * l M) = fun _ => 0 := funext fun M => by simp; try grind
    rw [e1]; exact isLog_one
  | succ k ih =>
    have e1 : (fun M => ((k + 1 : Nat) : Rat) * l M) = fun M => l M + (k : Rat) * l M := funext fun M => by
      have : ((k + 1 : Nat) : Rat) = (k : Rat) + 1 := by simp
      rw [this]; grind
    rw [e1]; exact h.add ih
theorem Lg_tail {y : Rat} (hy : AB y (1 / 2)) (a i : Nat) : AB (Lg y (a + i) - Lg y a) (2 * (q2 a - q2 (a + i))) := by
  induction i with
  | zero => simp only [Nat.add_zero]; constructor <;> grind
  | succ i ih =>
    have e : Lg y (a + (i + 1)) = Lg y (a + i) + pw y (a + i + 1) / (((a + i : Nat) : Rat) + 1) := rfl
    have e2 : q2 (a + (i + 1)) = q2 (a + i) / 2 := rfl
    have h : AB (pw y (a + i + 1) / (((a + i : Nat) : Rat) + 1)) (q2 (a + i)) := by
      refine rdiv_AB (pos1 _) ((pw_AB hy (a + i + 1)).mono ?_)
      have q := q2_pos (a + i)
      have kk : (0 : Rat) ≤ ((a + i : Nat) : Rat) := by exact_mod_cast Nat.zero_le (a + i)
      have := Rat.mul_nonneg kk (Rat.le_of_lt q)
      simp only [q2]; grind
    have := ih.add h
    rw [e, e2]
    generalize pw y (a + i + 1) / (((a + i : Nat) : Rat) + 1) = t at *
    have h3 : Lg y (a + i) + t - Lg y a = Lg y (a + i) - Lg y a + t := by grind
    rw [h3]
    exact this.mono (by grind)
theorem Lg_double {y : Nat → Rat} (N0 : Nat) (hy : ∀ M, N0 ≤ M → AB (y M) (1 / 2)) : Null (fun M => Lg (y M) (M + M) - Lg (y M) M) := by
  refine ((null_q2.add null_q2)).of_le N0 fun M hM => ?_
  refine (Lg_tail (hy M hM) M M).mono ?_
  have := q2_pos (M + M)
  grind
def Az (z : Rat) (M : Nat) : Rat := S (fun k => pw z (2 * k + 1) / (2 * (k : Rat) + 1)) M
theorem pw_neg (z : Rat) (k : Nat) : pw (-z) (2 * k) = pw z (2 * k) := by
  induction k with
  | zero => rfl
  | succ k ih => rw [show 2 * (k + 1) = 2 * k + 1 + 1 by omega]; simp only [pw, ih]; grind
theorem Az_Lg (z : Rat) (M : Nat) : 2 * Az z M = Lg z (M + M) - Lg (-z) (M + M) := by
  induction M with
  | zero => simp [Az, Lg, S]; try grind
  | succ M ih =>
    have e : M + 1 + (M + 1) = M + M + 1 + 1 := by omega
    have e1 : ∀ y, Lg y (M + M + 1 + 1) = Lg y (M + M) + pw y (M + M + 1) / (((M + M : Nat) : Rat) + 1) + pw y (M + M + 1 + 1) / (((M + M + 1 : Nat) : Rat) + 1) := fun y => rfl
    have e2 : Az z (M + 1) = Az z M + pw z (2 * M + 1) / (2 * (M : Rat) + 1) := rfl
    have e3 : ((M + M : Nat) : Rat) = 2 * (M : Rat) := by
      have : ((M + M : Nat) : Rat) = (M : Rat) + (M : Rat) := by simp
      rw [this]; grind
    rw [e, e1, e1, e2, e3]
    have p1 : pw (-z) (M + M + 1) = -pw z (M + M + 1) := by
      have := pw_neg z M
      rw [show M + M = 2 * M by omega]
      simp only [pw, this]; grind
    have p2 : pw (-z) (M + M + 1 + 1) = pw z (M + M + 1 + 1) := by
      have := pw_neg z (M + 1)
      rw [show 2 * (M + 1) = M + M + 1 + 1 by omega] at this
      exact this
    rw [p1, p2, show 2 * M + 1 = M + M + 1 by omega]
    generalize pw z (M + M + 1) = a
    generalize pw z (M + M + 1 + 1) / (((M + M + 1 : Nat) : Rat) + 1) = b
    have : -a / (2 * (M : Rat) + 1) = -(a / (2 * (M : Rat) + 1)) := by rw [Rat.div_def, Rat.div_def, Rat.neg_mul]
    rw [this]
    grind
theorem isLog_Az {z r : Nat → Rat} (N0 : Nat) (hz : ∀ M, N0 ≤ M → AB (z M) (1 / 2)) (hr : ∀ M, N0 ≤ M → r M * (1 - z M) = 1 + z M) : IsLog (fun M => 2 * Az (z M) M) r := by
  have h1 := isLog_Lg N0 (y := fun M => -z M) (fun M hM => (hz M hM).neg)
  have h2 := isLog_Lg N0 hz
  have hinv : ∀ M, N0 ≤ M → 1 / (1 - z M) * (1 - z M) = 1 := fun M hM => rdm (by obtain ⟨_, _⟩ := hz M hM; grind)
  have h3 := h2.neg (s := fun M => 1 / (1 - z M)) (Bdd.of_le 2 N0 fun M hM => by
    have hp : 0 < 1 - z M := by obtain ⟨_, _⟩ := hz M hM; grind
    refine rdiv_AB hp ?_
    obtain ⟨_, _⟩ := hz M hM
    constructor <;> grind) N0 hinv
  have h4 := (h1.add h3).congr_r (r' := r) (null_zero.of_eq_from N0 fun M hM => by
    have e1 := hinv M hM
    have e2 := hr M hM
    have hp : 0 < 1 - z M := by obtain ⟨_, _⟩ := hz M hM; grind
    generalize 1 / (1 - z M) = i at *
    have : r M = (1 + z M) * i := by
      have : r M * (1 - z M) * i = (1 + z M) * i := by rw [e2]
      have e3 : r M * (1 - z M) * i = r M * (i * (1 - z M)) := by grind
      rw [e3, e1] at this
      grind
    grind)
  refine h4.congr ?_
  have d1 := Lg_double N0 hz
  have d2 := Lg_double N0 (y := fun M => -z M) (fun M hM => (hz M hM).neg)
  refine (d2.sub d1).of_eq fun M => ?_
  rw [Az_Lg]; grind
end Go.Proofs.Ytgmnknmjainabab.Ex
namespace Go.Proofs.Ytgmnknmjainabab.Ex
def Nn (f : Nat → Rat) : Prop := ∃ N : Nat, ∀ M, N ≤ M → 0 ≤ f M
theorem Nn.mul {f g : Nat → Rat} (h : Nn f) (k : Nn g) : Nn (fun M => f M * g M) := by
  obtain ⟨N1, h1⟩ := h
  obtain ⟨N2, h2⟩ := k
  exact ⟨N1 + N2, fun M hM => Rat.mul_nonneg (h1 M (by omega)) (h2 M (by omega))⟩
theorem Nn.add {f g : Nat → Rat} (h : Nn f) (k : Nn g) : Nn (fun M => f M + g M) := by
  obtain ⟨N1, h1⟩ := h
  obtain ⟨N2, h2⟩ := k
  exact ⟨N1 + N2, fun M hM => by have := h1 M (by omega); have := h2 M (by omega); grind⟩
theorem Nn.const {c : Rat} (h : 0 ≤ c) : Nn (fun _ => c) := ⟨0, fun _ _ => h⟩
theorem Ev_nn {x : Nat → Rat} (h : Bdd x) : Nn (Ev x) := by
  obtain ⟨c, c0, N, k⟩ := Ev_low h
  exact ⟨N, fun M hM => Rat.le_trans (Rat.le_of_lt c0) (k M hM)⟩
theorem ex_nn (a : Rat) : Nn (ex a) := Ev_nn (Bdd.const a)
theorem LeN.bmul {f g k : Nat → Rat} (h : LeN f g) (hk : Bdd k) (hn : Nn k) : LeN (fun M => f M * k M) (fun M => g M * k M) := by
  obtain ⟨z, hz, kz⟩ := h.null
  obtain ⟨N, hN⟩ := hn
  refine LeN.of_null (hz.bmul hk) N fun M hM => ?_
  have := Rat.mul_le_mul_of_nonneg_right (kz M) (hN M hM)
  grind
theorem LeN.cmul {f g : Nat → Rat} (h : LeN f g) {c : Rat} (hc : 0 ≤ c) : LeN (fun M => c * f M) (fun M => c * g M) := by
  obtain ⟨z, hz, kz⟩ := h.null
  refine LeN.of_null (hz.bmul (Bdd.const c)) 0 fun M _ => ?_
  have := Rat.mul_le_mul_of_nonneg_left (kz M) hc
  grind
theorem LeN.of_eqN {f g : Nat → Rat} (h : Null (fun M => f M - g M)) : LeN f g := h.leN
theorem LeN.mul {f g f' g' : Nat → Rat} (h : LeN f g) (h' : LeN f' g') (b : Bdd f') (n : Nn f') (b2 : Bdd g) (n2 : Nn g) : LeN (fun M => f M * f' M) (fun M => g M * g' M) :=
  (h.bmul b n).trans ((LeN.of_le 0 fun M _ => by show g M * f' M ≤ f' M * g M; grind).trans ((h'.bmul b2 n2).trans (LeN.of_le 0 fun M _ => by show g' M * g M ≤ g M * g' M; grind)))
theorem qle_div {a b c : Rat} (hc : 0 < c) (h : a * c ≤ b) : a ≤ b / c := Rat.le_of_mul_le_mul_right (by rw [rdm hc]; exact h) hc
theorem qdiv_le {a b c : Rat} (hc : 0 < c) (h : a ≤ b * c) : a / c ≤ b := Rat.le_of_mul_le_mul_right (by rw [rdm hc]; exact h) hc
theorem rat_cancel {c a b : Rat} (hc : 0 < c) (h : c * a = c * b) : a = b := Rat.le_antisymm (Rat.le_of_mul_le_mul_left (by rw [h]; exact Rat.le_refl) hc) (Rat.le_of_mul_le_mul_left (by rw [h]; exact Rat.le_refl) hc)
def upT (a x : Rat) : Nat → Rat
  | 0 => 1 / a
  | n + 1 => x / (a + ((n : Rat) + 1)) * upT a x n
theorem un_pos {a : Rat} (ha : 0 < a) (n : Nat) : 0 < a + ((n : Rat) + 1) := by have := pos1 n; grind
theorem upT_zero {a : Rat} (ha : 0 < a) (x : Rat) : a * upT a x 0 = 1 := by
  have := rdm (a := 1) ha
  show a * (1 / a) = 1
  grind
theorem upT_succ {a : Rat} (ha : 0 < a) (x : Rat) (n : Nat) : (a + ((n : Rat) + 1)) * upT a x (n + 1) = x * upT a x n := by
  have e := rdm (a := x) (un_pos ha n)
  show (a + ((n : Rat) + 1)) * (x / (a + ((n : Rat) + 1)) * upT a x n) = _
  have : (a + ((n : Rat) + 1)) * (x / (a + ((n : Rat) + 1)) * upT a x n) = x / (a + ((n : Rat) + 1)) * (a + ((n : Rat) + 1)) * upT a x n := by grind
  rw [this, e]
theorem upT_nonneg {a x : Rat} (ha : 0 < a) (h : 0 ≤ x) (n : Nat) : 0 ≤ upT a x n := by
  induction n with
  | zero => exact qle_div ha (by grind)
  | succ n ih => exact Rat.mul_nonneg (qle_div (un_pos ha n) (by grind)) ih
theorem upT_next {a : Rat} (ha : 0 < a) (x : Rat) (n : Nat) : a * upT a x (n + 1) = x * upT (a + 1) x n := by
  induction n with
  | zero =>
    have e1 := upT_succ ha x 0
    have e2 := upT_zero ha x
    have e3 := upT_zero (show 0 < a + 1 by grind) x
    refine rat_cancel (show 0 < a + 1 by grind) ?_
    have c : ((0 : Nat) : Rat) = 0 := rfl
    rw [c] at e1
    have k1 : (a + 1) * (a * upT a x (0 + 1)) = a * ((a + (0 + 1)) * upT a x (0 + 1)) := by grind
    have k2 : (a + 1) * (x * upT (a + 1) x 0) = x * ((a + 1) * upT (a + 1) x 0) := by grind
    rw [k1, k2, e1, e3]
    have k3 : a * (x * upT a x 0) = x * (a * upT a x 0) := by grind
    rw [k3, e2]
  | succ n ih =>
    have e1 := upT_succ ha x (n + 1)
    have e2 := upT_succ (show 0 < a + 1 by grind) x n
    have c : ((n + 1 : Nat) : Rat) = (n : Rat) + 1 := by push_cast; rfl
    rw [c] at e1
    refine rat_cancel (show 0 < a + ((n : Rat) + 1 + 1) by have := pos1 n; grind) ?_
    have k1 : (a + ((n : Rat) + 1 + 1)) * (a * upT a x (n + 1 + 1)) = a * ((a + ((n : Rat) + 1 + 1)) * upT a x (n + 1 + 1)) := by grind
    have k2 : (a + ((n : Rat) + 1 + 1)) * (x * upT (a + 1) x (n + 1)) = x * ((a + 1 + ((n : Rat) + 1)) * upT (a + 1) x (n + 1)) := by grind
    rw [k1, k2, e1, e2, ← ih]
    grind
def uS (a x : Rat) (M : Nat) : Rat := S (upT a x) M
theorem uS_succ (a x : Rat) (M : Nat) : uS a x (M + 1) = uS a x M + upT a x M := rfl
theorem uS_nonneg {a x : Rat} (ha : 0 < a) (h : 0 ≤ x) (M : Nat) : 0 ≤ uS a x M := by
  induction M with
  | zero => show (0 : Rat) ≤ 0; grind
  | succ n ih => have := upT_nonneg ha h n; rw [uS_succ]; grind
theorem uS_first {a x : Rat} (ha : 0 < a) (h : 0 ≤ x) (M : Nat) : 1 / a ≤ uS a x (M + 1) := by
  induction M with
  | zero => show 1 / a ≤ 0 + 1 / a; grind
  | succ n ih => have := upT_nonneg ha h (n + 1); rw [uS_succ]; grind
theorem uS_next {a : Rat} (ha : 0 < a) (x : Rat) (M : Nat) : a * uS a x (M + 1) = 1 + x * uS (a + 1) x M := by
  induction M with
  | zero =>
    have := upT_zero ha x
    show a * (0 + upT a x 0) = 1 + x * 0
    grind
  | succ n ih =>
    have := upT_next ha x n
    rw [uS_succ a x (n + 1), uS_succ (a + 1) x n]
    grind
theorem upT_tan {a x u : Rat} (ha : 0 < a) (hx : 0 ≤ x) (hu : -1 ≤ u) (n : Nat) : upT a x n + (n : Rat) * u * upT a x n ≤ upT a (x * (1 + u)) n := by
  induction n with
  | zero =>
    have c : ((0 : Nat) : Rat) = 0 := rfl
    show 1 / a + ((0 : Nat) : Rat) * u * (1 / a) ≤ 1 / a
    rw [c]; grind
  | succ n ih =>
    have e1 := upT_succ ha x n
    have e2 := upT_succ ha (x * (1 + u)) n
    have c : ((n + 1 : Nat) : Rat) = (n : Rat) + 1 := by push_cast; rfl
    have y0 := Rat.mul_nonneg hx (show 0 ≤ 1 + u by grind)
    have m := Rat.mul_le_mul_of_nonneg_left ih y0
    have p := un_pos ha n
    refine Rat.le_of_mul_le_mul_left (c := a + ((n : Rat) + 1)) ?_ p
    rw [e2, c]
    have k : (a + ((n : Rat) + 1)) * (upT a x (n + 1) + ((n : Rat) + 1) * u * upT a x (n + 1)) = (1 + ((n : Rat) + 1) * u) * ((a + ((n : Rat) + 1)) * upT a x (n + 1)) := by grind
    rw [k, e1]
    have n0 : (0 : Rat) ≤ (n : Rat) := by exact_mod_cast Nat.zero_le n
    have q := Rat.mul_nonneg (Rat.mul_nonneg n0 (sq_nonneg u)) (Rat.mul_nonneg hx (upT_nonneg ha hx n))
    grind
theorem uS_tan {a x u : Rat} (ha : 0 < a) (hx : 0 ≤ x) (hu : -1 ≤ u) (M : Nat) : uS a x (M + 1) + u * (1 + x * uS a x M - a * uS a x (M + 1)) ≤ uS a (x * (1 + u)) (M + 1) := by
  induction M with
  | zero =>
    have e := upT_zero ha x
    have e2 : upT a (x * (1 + u)) 0 = upT a x 0 := rfl
    show 0 + upT a x 0 + u * (1 + x * 0 - a * (0 + upT a x 0)) ≤ 0 + upT a (x * (1 + u)) 0
    rw [e2]
    have : a * (0 + upT a x 0) = 1 := by rw [← e]; grind
    rw [this]; grind
  | succ n ih =>
    have t := upT_tan ha hx hu (n + 1)
    have e1 := upT_succ ha x n
    have c : ((n + 1 : Nat) : Rat) = (n : Rat) + 1 := by push_cast; rfl
    rw [c] at t
    rw [uS_succ a x (n + 1), uS_succ a (x * (1 + u)) (n + 1)]
    have e3 : uS a x (n + 1) = uS a x n + upT a x n := rfl
    have k : ((n : Rat) + 1) * u * upT a x (n + 1) = u * (x * upT a x n) - u * (a * upT a x (n + 1)) := by rw [← e1]; grind
    rw [k] at t
    rw [e3] at ih ⊢
    grind
theorem uS_mono {a x y : Rat} (ha : 0 < a) (hx : 0 ≤ x) (hxy : x ≤ y) (M : Nat) : uS a x M ≤ uS a y M := by
  have t : ∀ n, upT a x n ≤ upT a y n := by
    intro n
    induction n with
    | zero => exact Rat.le_refl
    | succ n ih =>
      have e1 := upT_succ ha x n
      have e2 := upT_succ ha y n
      refine Rat.le_of_mul_le_mul_left (c := a + ((n : Rat) + 1)) ?_ (un_pos ha n)
      rw [e1, e2]
      exact Rat.le_trans (Rat.mul_le_mul_of_nonneg_left ih hx) (Rat.mul_le_mul_of_nonneg_right hxy (upT_nonneg ha (by grind) n))
  induction M with
  | zero => exact Rat.le_refl
  | succ n ih => have := t n; rw [uS_succ, uS_succ]; grind
theorem upT_tm {a x : Rat} (ha : 0 < a) (hx : 0 ≤ x) (n : Nat) : a * upT a x n ≤ tm x n := by
  induction n with
  | zero => rw [upT_zero ha]; exact Rat.le_refl
  | succ n ih =>
    have e1 := upT_succ ha x n
    have e2 := tm_succ x n
    have p := pos1 n
    have q := Rat.mul_nonneg (Rat.mul_nonneg (Rat.le_of_lt ha) (Rat.le_of_lt ha)) (upT_nonneg ha hx (n + 1))
    refine Rat.le_of_mul_le_mul_left (c := (n : Rat) + 1) ?_ p
    have m := Rat.mul_le_mul_of_nonneg_left ih hx
    have k : ((n : Rat) + 1) * (a * upT a x (n + 1)) = a * ((a + ((n : Rat) + 1)) * upT a x (n + 1)) - a * a * upT a x (n + 1) := by grind
    rw [k, e1, e2]
    grind
theorem upT_null {a x : Rat} (ha : 0 < a) (hx : 0 ≤ x) : Null (upT a x) := by
  obtain ⟨K, k0, hK⟩ := tm_bd x
  have h1 : Null (fun M => K / a * ((M : Rat) * q4 M)) := null_q4 (K / a) (qle_div ha (by grind))
  refine h1.of_le 1 fun M hM => ?_
  have a1 := upT_tm ha hx M
  have a2 := (hK M).2
  have a3 := upT_nonneg ha hx M
  have m1 : (1 : Rat) ≤ (M : Rat) := by exact_mod_cast hM
  have q := q4_pos M
  have d := rdm (a := K) ha
  have m2 := Rat.mul_le_mul_of_nonneg_left m1 (Rat.mul_nonneg k0 (Rat.le_of_lt q))
  have key : upT a x M ≤ K / a * ((M : Rat) * q4 M) := by
    refine Rat.le_of_mul_le_mul_left (c := a) ?_ ha
    have k : a * (K / a * ((M : Rat) * q4 M)) = K / a * a * ((M : Rat) * q4 M) := by grind
    rw [k, d]
    grind
  exact ⟨by grind, key⟩
theorem uS_bdd {a x : Rat} (ha : 0 < a) (hx : 0 ≤ x) : ∃ K, 0 ≤ K ∧ ∀ M, uS a x M ≤ K := by
  obtain ⟨K, k0, hK⟩ := E_bound x
  refine ⟨K / a, qle_div ha (by grind), fun M => ?_⟩
  have h := (hK M x ⟨by grind, Rat.le_refl⟩).2
  have s : a * uS a x M ≤ E x M := by
    induction M with
    | zero => show a * 0 ≤ 0; grind
    | succ n ih =>
      have t := upT_tm ha hx n
      have h' := (hK n x ⟨by grind, Rat.le_refl⟩).2
      have i := ih h'
      have e : E x (n + 1) = E x n + tm x n := rfl
      rw [uS_succ, e]
      grind
  refine Rat.le_of_mul_le_mul_left (c := a) ?_ ha
  have d := rdm (a := K) ha
  grind
theorem uS_Bdd {a x : Rat} (ha : 0 < a) (hx : 0 ≤ x) : Bdd (uS a x) := by
  obtain ⟨K, k0, hK⟩ := uS_bdd ha hx
  exact Bdd.of_le K 0 fun M _ => ⟨by have := uS_nonneg ha hx M; grind, hK M⟩
end Go.Proofs.Ytgmnknmjainabab.Ex
namespace Go.Proofs.Ytgmnknmjainabab.Ex
def Lns (L : Rat → Nat → Rat) : Prop := ∀ x, 0 < x → IsLog (L x) (fun _ => x)
def pr (L : Rat → Nat → Rat) (c x : Rat) (M : Nat) : Rat := Ev (fun M => c * L x M) M
theorem pr_arg {L : Rat → Nat → Rat} (hL : Lns L) {x : Rat} (hx : 0 < x) (c : Rat) : Bdd (fun M => c * L x M) := (Bdd.const c).mul (hL x hx).1
theorem pr_bdd {L : Rat → Nat → Rat} (hL : Lns L) {x : Rat} (hx : 0 < x) (c : Rat) : Bdd (pr L c x) := Ev_bdd (pr_arg hL hx c)
theorem pr_nn {L : Rat → Nat → Rat} (hL : Lns L) {x : Rat} (hx : 0 < x) (c : Rat) : Nn (pr L c x) := Ev_nn (pr_arg hL hx c)
theorem pr_add {L : Rat → Nat → Rat} (hL : Lns L) {x : Rat} (hx : 0 < x) (c d : Rat) : Null (fun M => pr L c x M * pr L d x M - pr L (c + d) x M) := by
  have h := Ev_add (pr_arg hL hx c) (pr_arg hL hx d)
  refine h.of_eq fun M => ?_
  have e : Ev (fun M => c * L x M + d * L x M) M = pr L (c + d) x M := by unfold pr Ev; congr 1; grind
  rw [e]; rfl
theorem pr_one {L : Rat → Nat → Rat} (hL : Lns L) {x : Rat} (hx : 0 < x) : Null (fun M => pr L 1 x M - x) := by
  refine (hL x hx).2.of_eq fun M => ?_
  show E (1 * L x M) M - x = E (L x M) M - x
  rw [Rat.one_mul]
theorem log_quot {L : Rat → Nat → Rat} (hL : Lns L) {x r : Rat} (hx : 0 < x) (hr : 0 < r) : IsLog (fun M => L (x * r) M - L x M) (fun _ => r) := by
  have h1 := hL (x * r) (Rat.mul_pos hx hr)
  have d := rdm (a := 1) hx
  have h2 := (hL x hx).neg (s := fun _ => 1 / x) (Bdd.const _) 0 (fun M _ => d)
  have h3 := h1.add h2
  have e : (fun (_ : Nat) => x * r * (1 / x)) = fun _ => r := by funext _; have : x * r * (1 / x) = 1 / x * x * r := by grind
                                                                 rw [this, d]; grind
  rw [e] at h3
  have e2 : (fun M => L (x * r) M + -L x M) = fun M => L (x * r) M - L x M := by funext M; grind
  rw [e2] at h3
  exact h3
theorem E_two {h : Rat} (hb : AB h (1 / 4)) {M : Nat} (hM : 2 ≤ M) : AB (E h M - 1 - h) (2 * (h * h)) := by
  by_cases c : 0 ≤ h
  · exact E_little2 (b := h) ⟨by grind, Rat.le_refl⟩ hb.2 hM
  · have := E_little2 (h := h) (b := -h) ⟨by grind, by grind⟩ (by have := hb.1; grind) hM
    have e : -h * -h = h * h := by grind
    rw [e] at this
    exact this
theorem isLog_const (c : Rat) : IsLog (fun _ => c) (ex c) := ⟨Bdd.const c, null_zero.of_eq fun M => by unfold ex; grind⟩
theorem dlog_low {d : Nat → Rat} {u : Rat} (h : IsLog d (fun _ => 1 + u)) (hu : AB u (1 / 16)) : LeN (fun _ => u - 4 * (u * u)) d := by
  have uu := sq_nonneg u
  have a1 : u * u ≤ 1 / 256 := by
    by_cases c : 0 ≤ u
    · have := Rat.mul_le_mul_of_nonneg_left hu.2 c; have := hu.2; grind
    · have := Rat.mul_le_mul_of_nonneg_left (show -u ≤ 1 / 16 by have := hu.1; grind) (show 0 ≤ -u by grind); have := hu.1; grind
  intro e he
  have hb : AB (u - 4 * (u * u)) (1 / 4) := ⟨by have := hu.1; grind, by have := hu.2; grind⟩
  refine (isLog_const (u - 4 * (u * u))).le h null_zero 2 (fun M hM => ?_) e he
  have k := (E_two hb (M := M) hM).2
  show E (u - 4 * (u * u)) M ≤ 1 + u + 0
  have q : (u - 4 * (u * u)) * (u - 4 * (u * u)) = u * u * ((1 - 4 * u) * (1 - 4 * u)) := by grind
  have r : (1 - 4 * u) * (1 - 4 * u) ≤ 2 := by have := hu.1; grind
  have m := Rat.mul_le_mul_of_nonneg_left r uu
  grind
theorem pr_tan {L : Rat → Nat → Rat} (hL : Lns L) {a x u : Rat} (ha : 0 ≤ a) (hx : 0 < x) (hu : AB u (1 / 16)) (hau : AB (a * u) (1 / 8)) : LeN (fun M => (1 + a * u - (4 * a + 4 * (a * a)) * (u * u)) * pr L a x M) (pr L a (x * (1 + u))) := by
  have r0 : 0 < 1 + u := by have := hu.1; grind
  have hd := log_quot hL hx r0
  have low := dlog_low hd hu
  obtain ⟨z, hz, kz⟩ := (low.cmul ha).null
  have bd : Bdd (fun M => a * (L (x * (1 + u)) M - L x M)) := (Bdd.const a).mul hd.1
  obtain ⟨v, hv, N, kv⟩ := Ev_mono (x := fun _ => a * (u - 4 * (u * u))) (Bdd.const _) bd hz 0 (fun M _ => kz M)
  have uu := sq_nonneg u
  have hb : AB (a * (u - 4 * (u * u))) (1 / 4) := by
    have e : a * (u - 4 * (u * u)) = a * u * (1 - 4 * u) := by grind
    rw [e]
    exact (hau.mul (show AB (1 - 4 * u) 2 from ⟨by have := hu.2; grind, by have := hu.1; grind⟩)).mono (by grind)
  have l1 : LeN (fun _ => 1 + a * u - (4 * a + 4 * (a * a)) * (u * u)) (Ev (fun M => a * (L (x * (1 + u)) M - L x M))) := by
    refine LeN.of_null hv (N + 2) fun M hM => ?_
    have k := (E_two hb (M := M) (by omega)).1
    have k2 := kv M (by omega)
    have e2 : Ev (fun _ => a * (u - 4 * (u * u))) M = E (a * (u - 4 * (u * u))) M := rfl
    rw [e2] at k2
    have q : a * (u - 4 * (u * u)) * (a * (u - 4 * (u * u))) = a * a * (u * u) * ((1 - 4 * u) * (1 - 4 * u)) := by grind
    have r : (1 - 4 * u) * (1 - 4 * u) ≤ 2 := by
      have a1 : u * u ≤ 1 / 256 := by
        by_cases c : 0 ≤ u
        · have := Rat.mul_le_mul_of_nonneg_left hu.2 c; have := hu.2; grind
        · have := Rat.mul_le_mul_of_nonneg_left (show -u ≤ 1 / 16 by have := hu.1; grind) (show 0 ≤ -u by grind); have := hu.1; grind
      have := hu.1; grind
    have m := Rat.mul_le_mul_of_nonneg_left r (Rat.mul_nonneg (Rat.mul_nonneg ha ha) uu)
    rw [q] at k
    generalize a * a * (u * u) * ((1 - 4 * u) * (1 - 4 * u)) = w at *
    generalize Ev (fun M => a * (L (x * (1 + u)) M - L x M)) M = w2 at *
    generalize E (a * (u - 4 * (u * u))) M = w3 at *
    grind
  refine (l1.bmul (pr_bdd hL hx a) (pr_nn hL hx a)).trans ?_
  have s := Ev_add bd (pr_arg hL hx a)
  refine LeN.of_eqN (s.of_eq fun M => ?_)
  have e : Ev (fun M => a * (L (x * (1 + u)) M - L x M) + a * L x M) M = pr L a (x * (1 + u)) M := by unfold pr Ev; congr 1; grind
  rw [e]; rfl
theorem ex_tan {x u : Rat} (hu : AB (x * u) (1 / 4)) : LeN (fun M => (1 - x * u - 2 * (x * x) * (u * u)) * ex (-x) M) (ex (-(x * (1 + u)))) := by
  have l1 : LeN (fun _ => 1 - x * u - 2 * (x * x) * (u * u)) (ex (-(x * u))) := LeN.of_le 2 fun M hM => by
    have k := (E_two (h := -(x * u)) hu.neg hM).1
    show _ ≤ E (-(x * u)) M
    grind
  refine (l1.bmul (ex_bdd _) (ex_nn _)).trans ?_
  have s := ex_add (-(x * u)) (-x)
  refine LeN.of_eqN (s.of_eq fun M => ?_)
  have e : -(x * u) + -x = -(x * (1 + u)) := by grind
  rw [e]
def uG (L : Rat → Nat → Rat) (a x : Rat) (M : Nat) : Rat := pr L a x M * ex (-x) M * uS a x M
theorem tan_poly {a x u s c q1 q2 q3 : Rat} (h1 : q1 = 1 + a * u - c * (u * u)) (h2 : q2 = 1 - x * u - 2 * (x * x) * (u * u)) (h3 : q3 = s + u * (1 + x * s - a * s)) : q1 * q2 * q3 - (s + u) = u * u * ((a - x) * (1 + x * s - a * s) + (-(a * x) - 2 * (x * x) - c + u * (c * x - 2 * (a * (x * x))) + u * u * (2 * (c * (x * x)))) * q3) := by
  rw [h1, h2, h3]; grind
theorem tan_bound {a x u s c Y K : Rat} (ha : 0 ≤ a) (hc : 0 ≤ c) (hx : AB x Y) (hs : AB s K) (hu : AB u 1) : AB ((a - x) * (1 + x * s - a * s) + (-(a * x) - 2 * (x * x) - c + u * (c * x - 2 * (a * (x * x))) + u * u * (2 * (c * (x * x)))) * (s + u * (1 + x * s - a * s))) ((a + Y) * (1 + Y * K + a * K) + (a * Y + 2 * (Y * Y) + c + 1 * (c * Y + 2 * (a * (Y * Y))) + 1 * 1 * (2 * (c * (Y * Y)))) * (K + 1 * (1 + Y * K + a * K))) := by
  have A : AB a a := ⟨by grind, Rat.le_refl⟩
  have C : AB c c := ⟨by grind, Rat.le_refl⟩
  have one : AB (1 : Rat) 1 := ⟨by grind, Rat.le_refl⟩
  have two : AB (2 : Rat) 2 := ⟨by grind, Rat.le_refl⟩
  have p1 := (one.add (hx.mul hs)).sub (A.mul hs)
  have p2 := (((((A.mul hx).neg.sub (two.mul (hx.mul hx))).sub C).add (hu.mul ((C.mul hx).sub (two.mul (A.mul (hx.mul hx)))))).add ((hu.mul hu).mul (two.mul (C.mul (hx.mul hx)))))
  exact ((A.sub hx).mul p1).add (p2.mul (hs.add (hu.mul p1)))
theorem shift_null {f : Nat → Rat} (h : Null f) : Null (fun M => f (M - 1)) := fun e he => by
  obtain ⟨N, hN⟩ := h e he
  exact ⟨N + 1, fun M hM => hN (M - 1) (by omega)⟩
theorem uS_tanN {a x u : Rat} (ha : 0 < a) (hx : 0 ≤ x) (hu : -1 ≤ u) : LeN (fun M => uS a x M + u * (1 + x * uS a x M - a * uS a x M)) (uS a (x * (1 + u))) := by
  have z := (shift_null (upT_null ha hx)).bmul (Bdd.const (u * x))
  refine LeN.of_null z 1 fun M hM => ?_
  obtain ⟨m, rfl⟩ : ∃ m, M = m + 1 := ⟨M - 1, by omega⟩
  have t := uS_tan ha hx hu m
  have e : uS a x (m + 1) = uS a x m + upT a x m := rfl
  simp only [Nat.add_sub_cancel]
  have e2 : uS a x m = uS a x (m + 1) - upT a x m := by grind
  rw [e2] at t
  grind
theorem uG_tan {L : Rat → Nat → Rat} (hL : Lns L) {a Y : Rat} (ha : 0 < a) (hY : 0 < Y) : ∃ C D, 0 ≤ C ∧ 0 < D ∧ D ≤ 1 / 16 ∧ ∀ x u, 0 < x → x ≤ Y → AB u D → LeN (fun M => uG L a x M + u * (pr L a x M * ex (-x) M)) (fun M => uG L a (x * (1 + u)) M + C * (u * u)) := by
  obtain ⟨K, k0, hK⟩ := uS_bdd ha (Rat.le_of_lt hY)
  obtain ⟨V, N0, v0, hV⟩ := pr_bdd hL hY a
  obtain ⟨c, hc⟩ : ∃ c, c = 4 * a + 4 * (a * a) := ⟨_, rfl⟩
  have a0 := Rat.le_of_lt ha
  have aa := Rat.mul_nonneg a0 a0
  have y0 := Rat.le_of_lt hY
  have c0 : 0 ≤ c := by grind
  obtain ⟨C1, hC1⟩ : ∃ C1, C1 = (a + Y) * (1 + Y * K + a * K) + (a * Y + 2 * (Y * Y) + c + 1 * (c * Y + 2 * (a * (Y * Y))) + 1 * 1 * (2 * (c * (Y * Y)))) * (K + 1 * (1 + Y * K + a * K)) := ⟨_, rfl⟩
  have D0 : 0 < 16 * (1 + a + Y) := by grind
  have dm := rdm (a := 1) D0
  have dp : 0 < 1 / (16 * (1 + a + Y)) := rdiv_pos (by grind) D0
  obtain ⟨D, hD⟩ : ∃ D, D = 1 / (16 * (1 + a + Y)) := ⟨_, rfl⟩
  rw [← hD] at dm dp
  have Da := Rat.mul_nonneg (Rat.le_of_lt dp) a0
  have Dy := Rat.mul_nonneg (Rat.le_of_lt dp) y0
  have C10 : 0 ≤ C1 := by
    have := (tan_bound (x := 0) (u := 0) (s := 0) (Y := Y) (K := K) a0 c0 ⟨by grind, y0⟩ ⟨by grind, k0⟩ ⟨by grind, by grind⟩).nonneg
    rw [hC1]; exact this
  refine ⟨C1 * ((V + 1) * 2), D, Rat.mul_nonneg C10 (by grind), dp, by grind, fun x u hx hxY hu => ?_⟩
  have D16 : D ≤ 1 / 16 := by grind
  have u16 : AB u (1 / 16) := hu.mono D16
  have au : AB (a * u) (1 / 8) := ((show AB a a from ⟨by grind, Rat.le_refl⟩).mul hu).mono (by grind)
  have x0 := Rat.le_of_lt hx
  have xu : AB (x * u) (1 / 4) := ((show AB x Y from ⟨by grind, hxY⟩).mul hu).mono (by grind)
  have r0 : 0 < 1 + u := by have := u16.1; grind
  have hx' : 0 < x * (1 + u) := Rat.mul_pos hx r0
  have l1 := pr_tan hL a0 hx u16 au
  have l2 := ex_tan xu
  have l3 := uS_tanN ha x0 (show -1 ≤ u by have := u16.1; grind)
  obtain ⟨q1, h1⟩ : ∃ q1, q1 = 1 + a * u - c * (u * u) := ⟨_, rfl⟩
  obtain ⟨q2, h2⟩ : ∃ q2, q2 = 1 - x * u - 2 * (x * x) * (u * u) := ⟨_, rfl⟩
  rw [← hc, ← h1] at l1
  rw [← h2] at l2
  have uu16 : u * u ≤ 1 / 16 * (1 / 16) := (u16.mul u16).2
  have q20 : 0 ≤ q2 := by
    have := (xu.mul xu).2
    have := xu.2
    grind
  have l12 := l1.mul l2 ((Bdd.const q2).mul (ex_bdd (-x))) ((Nn.const q20).mul (ex_nn (-x))) (pr_bdd hL hx' a) (pr_nn hL hx' a)
  have sB := uS_Bdd ha x0
  have q3B : Bdd (fun M => uS a x M + u * (1 + x * uS a x M - a * uS a x M)) := sB.add ((Bdd.const u).mul (((Bdd.const 1).add ((Bdd.const x).mul sB)).sub ((Bdd.const a).mul sB)))
  have q3n : Nn (fun M => uS a x M + u * (1 + x * uS a x M - a * uS a x M)) := ⟨1, fun M hM => by
    obtain ⟨m, rfl⟩ : ∃ m, M = m + 1 := ⟨M - 1, by omega⟩
    have f := uS_first ha x0 m
    have d := rdm (a := 1) ha
    have s1 : 1 ≤ a * uS a x (m + 1) := by
      have := Rat.mul_le_mul_of_nonneg_left f a0
      grind
    show 0 ≤ uS a x (m + 1) + u * (1 + x * uS a x (m + 1) - a * uS a x (m + 1))
    generalize uS a x (m + 1) = s at *
    have s0 : 0 ≤ s := by have := qle_div (a := 0) (b := 1) ha (by grind); grind
    have t1 := Rat.mul_le_mul_of_nonneg_right (xu.1) s0
    have t2 := Rat.mul_le_mul_of_nonneg_right (au.2) s0
    have t3 : -(1 / 2) * s ≤ u := by
      have m1 := Rat.mul_le_mul_of_nonneg_right au.1 s0
      by_cases cu : 0 ≤ u
      · grind
      · have := Rat.mul_le_mul_of_nonneg_left s1 (show 0 ≤ -u by grind)
        grind
    grind⟩
  have px : Bdd (fun M => pr L a (x * (1 + u)) M * ex (-(x * (1 + u))) M) := (pr_bdd hL hx' a).mul (ex_bdd _)
  have pn : Nn (fun M => pr L a (x * (1 + u)) M * ex (-(x * (1 + u))) M) := (pr_nn hL hx' a).mul (ex_nn _)
  have l := l12.mul l3 q3B q3n px pn
  have pmono : LeN (pr L a x) (pr L a Y) := by
    have le := fun e he => (hL x hx).le (hL Y hY) null_zero 0 (fun M _ => by grind) e he
    have lz : LeN (fun M => a * L x M) (fun M => a * L Y M) := LeN.cmul le a0
    obtain ⟨z, hz, kz⟩ := lz.null
    obtain ⟨v, hv, N, kv⟩ := Ev_mono (pr_arg hL hx a) (pr_arg hL hY a) hz 0 (fun M _ => kz M)
    exact LeN.of_null hv N kv
  obtain ⟨N1, n1⟩ := pmono 1 (by grind)
  obtain ⟨N2, n2⟩ := (ex_mono (a := -x) (b := 0) (by grind)) (1 / 2) (by grind)
  obtain ⟨N3, n3⟩ := pr_nn hL hx a
  obtain ⟨N4, n4⟩ := ex_nn (-x)
  refine LeN.trans (LeN.of_le (N0 + N1 + N2 + N3 + N4 + 2) fun M hM => ?_) (l.add (LeN.refl fun _ => C1 * ((V + 1) * 2) * (u * u)))
  have a1 := n1 M (by omega)
  have a2 := n2 M (by omega)
  have a3 := n3 M (by omega)
  have a4 := n4 M (by omega)
  have a5 := (hV M (by omega)).2
  have e0 : ex 0 M = 1 := by
    obtain ⟨m, rfl⟩ : ∃ m, M = m + 1 := ⟨M - 1, by omega⟩
    exact E_zero m
  rw [e0] at a2
  have sK : AB (uS a x M) K := ⟨by have := uS_nonneg ha x0 M; grind, Rat.le_trans (uS_mono ha x0 hxY M) (hK M)⟩
  have tb := tan_bound (x := x) (u := u) (s := uS a x M) (Y := Y) (K := K) a0 c0 ⟨by grind, hxY⟩ sK (hu.mono (by grind))
  rw [← hC1] at tb
  have tp := tan_poly (a := a) (x := x) (u := u) (s := uS a x M) (c := c) h1 h2 rfl
  have uu := sq_nonneg u
  have m1 := Rat.mul_le_mul_of_nonneg_left tb.1 uu
  have pX := Rat.mul_nonneg a3 a4
  have pV : pr L a x M * ex (-x) M ≤ (V + 1) * 2 := Rat.le_trans (Rat.mul_le_mul_of_nonneg_right (show pr L a x M ≤ V + 1 by grind) a4) (Rat.mul_le_mul_of_nonneg_left (by grind) (by grind))
  have key : uS a x M + u ≤ q1 * q2 * (uS a x M + u * (1 + x * uS a x M - a * uS a x M)) + C1 * (u * u) := by
    rw [← tp] at m1
    grind
  have m2 := Rat.mul_le_mul_of_nonneg_right key pX
  have m3 := Rat.mul_le_mul_of_nonneg_left pV (Rat.mul_nonneg C10 uu)
  show uG L a x M + u * (pr L a x M * ex (-x) M) ≤ _
  unfold uG
  generalize uS a x M + u * (1 + x * uS a x M - a * uS a x M) = q3 at *
  clear tb tp m1 key l l1 l2 l3 l12 q3B q3n px pn pmono hC1 h1 h2 hc
  generalize uS a x M = s at *
  generalize pr L a x M = p at *
  generalize ex (-x) M = xx at *
  have r1 : q1 * p * (q2 * xx) * q3 = q1 * q2 * q3 * (p * xx) := by grind
  rw [r1]
  have r2 : (s + u) * (p * xx) = p * xx * s + u * (p * xx) := by grind
  have r3 : (q1 * q2 * q3 + C1 * (u * u)) * (p * xx) = q1 * q2 * q3 * (p * xx) + C1 * (u * u) * (p * xx) := by grind
  rw [r2, r3] at m2
  have r4 : C1 * ((V + 1) * 2) * (u * u) = C1 * (u * u) * ((V + 1) * 2) := by grind
  rw [r4]
  exact Rat.le_trans m2 (Rat.add_le_add_left.2 m3)
end Go.Proofs.Ytgmnknmjainabab.Ex
namespace Go.Proofs.Ytgmnknmjainabab.Ex
theorem div_eq_mul {h t : Rat} (ht : 0 < t) : t * (1 + h / t) = t + h := by
  have := rdm (a := h) ht
  have e : t * (1 + h / t) = t + h / t * t := by grind
  rw [e, this]
theorem div_bd {h t x i : Rat} (hh : 0 ≤ h) (ht : x ≤ t) (t0 : 0 < t) (i0 : 0 ≤ i) (ix : i * x = 1) : h / t ≤ h * i := by
  refine qdiv_le t0 ?_
  have m := Rat.mul_le_mul_of_nonneg_left ht (Rat.mul_nonneg hh i0)
  have e : h * i * x = h * (i * x) := by grind
  rw [e, ix] at m
  grind
theorem mul_bd {h x i D : Rat} (i0 : 0 ≤ i) (ix : i * x = 1) (h1 : h ≤ D * x) : h * i ≤ D := by
  have m := Rat.mul_le_mul_of_nonneg_right h1 i0
  have e : D * x * i = D * (i * x) := by grind
  rw [e, ix] at m
  grind
theorem uG_mono {L : Rat → Nat → Rat} (hL : Lns L) {a x y : Rat} (ha : 0 < a) (hx : 0 < x) (hxy : x ≤ y) : LeN (uG L a x) (uG L a y) := by
  obtain ⟨C, D, C0, D0, D16, tan⟩ := uG_tan hL ha (show 0 < y by grind)
  have ix := rdm (a := 1) hx
  have ip : 0 < 1 / x := rdiv_pos (by grind) hx
  obtain ⟨i, hi⟩ : ∃ i, i = 1 / x := ⟨_, rfl⟩
  rw [← hi] at ix ip
  have key := descend (f := fun t M => -uG L a t M) (a := x) (b := y) (C := C * (i * i)) (D := D * x) hxy (Rat.mul_nonneg C0 (sq_nonneg i)) (Rat.mul_pos D0 hx) (fun t h ht hh hD hb => by
    have t0 : 0 < t := by grind
    have um := rdm (a := h) t0
    have u0 : 0 < h / t := rdiv_pos hh t0
    have uh : h / t ≤ h * i := div_bd (Rat.le_of_lt hh) ht t0 (Rat.le_of_lt ip) ix
    have hiD : h * i ≤ D := mul_bd (Rat.le_of_lt ip) ix hD
    have l := tan t (h / t) t0 (by grind) ⟨by grind, by grind⟩
    rw [div_eq_mul t0] at l
    obtain ⟨z, hz, kz⟩ := l.null
    obtain ⟨N, hN⟩ := (pr_nn hL t0 a).mul (ex_nn (-t))
    refine ⟨z, hz, N, fun M hM => ?_⟩
    have k := kz M
    have n := Rat.mul_nonneg (Rat.le_of_lt u0) (hN M hM)
    have m1 := Rat.mul_le_mul_of_nonneg_left uh (Rat.le_of_lt u0)
    have m2 := Rat.mul_le_mul_of_nonneg_right uh (Rat.mul_nonneg (Rat.le_of_lt hh) (Rat.le_of_lt ip))
    have m3 := Rat.mul_le_mul_of_nonneg_left (show h / t * (h / t) ≤ h * i * (h * i) by grind) C0
    simp only [] at k n
    have e : C * (h * i * (h * i)) = C * (i * i) * (h * h) := by grind
    rw [e] at m3
    generalize C * (h / t * (h / t)) = w1 at *
    generalize C * (i * i) * (h * h) = w2 at *
    generalize h / t * (pr L a t M * ex (-t) M) = w3 at *
    grind)
  intro e he
  obtain ⟨N, k⟩ := key e he
  exact ⟨N, fun M hM => by have := k M hM; simp only [] at this; grind⟩
def uE (L : Rat → Nat → Rat) (a x : Rat) (M : Nat) : Rat := pr L (a - 1) x M * ex (-x) M
theorem uE_bdd {L : Rat → Nat → Rat} (hL : Lns L) {x : Rat} (hx : 0 < x) (a : Rat) : Bdd (uE L a x) := (pr_bdd hL hx _).mul (ex_bdd _)
theorem uE_nn {L : Rat → Nat → Rat} (hL : Lns L) {x : Rat} (hx : 0 < x) (a : Rat) : Nn (uE L a x) := (pr_nn hL hx _).mul (ex_nn _)
theorem uG_bdd {L : Rat → Nat → Rat} (hL : Lns L) {a x : Rat} (ha : 0 < a) (hx : 0 < x) : Bdd (uG L a x) := ((pr_bdd hL hx _).mul (ex_bdd _)).mul (uS_Bdd ha (Rat.le_of_lt hx))
theorem uG_nn {L : Rat → Nat → Rat} (hL : Lns L) {a x : Rat} (ha : 0 < a) (hx : 0 < x) : Nn (uG L a x) := ((pr_nn hL hx _).mul (ex_nn _)).mul ⟨0, fun M _ => uS_nonneg ha (Rat.le_of_lt hx) M⟩
theorem uE_mul {L : Rat → Nat → Rat} (hL : Lns L) {x : Rat} (hx : 0 < x) (a : Rat) : Null (fun M => x * uE L a x M - pr L a x M * ex (-x) M) := by
  have h1 := pr_add hL hx (a - 1) 1
  have h2 := (pr_one hL hx).bmul (pr_bdd hL hx (a - 1))
  have e : a - 1 + 1 = a := by grind
  rw [e] at h1
  refine ((h1.sub h2).bmul (ex_bdd (-x))).of_eq fun M => ?_
  unfold uE
  grind
theorem pr_neg_mono {L : Rat → Nat → Rat} (hL : Lns L) {c x y : Rat} (hc : c ≤ 0) (hx : 0 < x) (hxy : x ≤ y) : LeN (pr L c y) (pr L c x) := by
  have hy : 0 < y := by grind
  have le : LeN (L x) (L y) := fun e he => (hL x hx).le (hL y hy) null_zero 0 (fun M _ => by grind) e he
  obtain ⟨z, hz, kz⟩ := (le.cmul (c := -c) (by grind)).null
  obtain ⟨v, hv, N, kv⟩ := Ev_mono (pr_arg hL hy c) (pr_arg hL hx c) hz 0 (fun M _ => by have := kz M; grind)
  exact LeN.of_null hv N kv
theorem uE_step {L : Rat → Nat → Rat} (hL : Lns L) {a t h : Rat} (ha1 : a ≤ 1) (ht : 0 < t) (hh : 0 ≤ h) : LeN (fun M => (1 + h) * uE L a (t + h) M) (uE L a t) := by
  have l1 := pr_neg_mono hL (c := a - 1) (by grind) ht (show t ≤ t + h by grind)
  have l2 : LeN (fun M => (1 + h) * ex (-(t + h)) M) (ex (-t)) := by
    have l : LeN (fun _ => 1 + h) (ex h) := LeN.of_le 2 fun M hM => E_one1 hh hM
    refine (l.bmul (ex_bdd (-(t + h))) (ex_nn _)).trans ?_
    have s := ex_add h (-(t + h))
    refine LeN.of_eqN (s.of_eq fun M => ?_)
    have e : h + -(t + h) = -t := by grind
    rw [e]
  have l := l1.mul l2 ((Bdd.const (1 + h)).mul (ex_bdd _)) ((Nn.const (by grind)).mul (ex_nn _)) (pr_bdd hL ht _) (pr_nn hL ht _)
  refine LeN.trans (LeN.of_le 0 fun M _ => ?_) l
  unfold uE
  generalize pr L (a - 1) (t + h) M = p
  generalize ex (-(t + h)) M = q
  grind
theorem uGE_anti {L : Rat → Nat → Rat} (hL : Lns L) {a x y : Rat} (ha : 0 < a) (ha1 : a ≤ 1) (hx : 0 < x) (hxy : x ≤ y) : LeN (fun M => uG L a y M + uE L a y M) (fun M => uG L a x M + uE L a x M) := by
  obtain ⟨C, D, C0, D0, D16, tan⟩ := uG_tan hL ha (show 0 < y by grind)
  have ix := rdm (a := 1) hx
  have ip : 0 < 1 / x := rdiv_pos (by grind) hx
  obtain ⟨i, hi⟩ : ∃ i, i = 1 / x := ⟨_, rfl⟩
  rw [← hi] at ix ip
  refine descend (f := fun t M => uG L a t M + uE L a t M) (a := x) (b := y) (C := C * (i * i)) (D := D * x) hxy (Rat.mul_nonneg C0 (sq_nonneg i)) (Rat.mul_pos D0 hx) (fun t h ht hh hD hb => ?_)
  have t0 : 0 < t := by grind
  obtain ⟨s, hs⟩ : ∃ s, s = t + h := ⟨_, rfl⟩
  have s0 : 0 < s := by grind
  have vm := rdm (a := h) s0
  have v0 : 0 < h / s := rdiv_pos hh s0
  have vh : h / s ≤ h * i := div_bd (Rat.le_of_lt hh) (show x ≤ s by grind) s0 (Rat.le_of_lt ip) ix
  have hiD : h * i ≤ D := mul_bd (Rat.le_of_lt ip) ix hD
  have l := tan s (-(h / s)) s0 (by grind) ⟨by grind, by grind⟩
  have e1 : s * (1 + -(h / s)) = t := by
    have : s * (1 + -(h / s)) = s - h / s * s := by grind
    rw [this, vm]; grind
  rw [e1] at l
  have l2 := uE_step hL ha1 t0 (Rat.le_of_lt hh)
  rw [← hs] at l2
  obtain ⟨z, hz, kz⟩ := (l.add l2).null
  have n := (uE_mul hL s0 a).bmul (Bdd.const (h / s))
  refine ⟨_, hz.add n.neg, 0, fun M _ => ?_⟩
  have k := kz M
  rw [← hs]
  have m1 := Rat.mul_le_mul_of_nonneg_left vh (Rat.le_of_lt v0)
  have m2 := Rat.mul_le_mul_of_nonneg_right vh (Rat.mul_nonneg (Rat.le_of_lt hh) (Rat.le_of_lt ip))
  have m3 := Rat.mul_le_mul_of_nonneg_left (show h / s * (h / s) ≤ h * i * (h * i) by grind) C0
  have e : C * (h * i * (h * i)) = C * (i * i) * (h * h) := by grind
  rw [e] at m3
  have e2 : -(h / s) * -(h / s) = h / s * (h / s) := by grind
  rw [e2] at k
  have e3 : (s * uE L a s M - pr L a s M * ex (-s) M) * (h / s) = h * uE L a s M - h / s * (pr L a s M * ex (-s) M) := by
    have : s * uE L a s M * (h / s) = h / s * s * uE L a s M := by grind
    have e4 : (s * uE L a s M - pr L a s M * ex (-s) M) * (h / s) = s * uE L a s M * (h / s) - h / s * (pr L a s M * ex (-s) M) := by grind
    rw [e4, this, vm]
  rw [e3]
  generalize C * (h / s * (h / s)) = w1 at *
  generalize C * (i * i) * (h * h) = w2 at *
  have e5 : -(h / s) * (pr L a s M * ex (-s) M) = -(h / s * (pr L a s M * ex (-s) M)) := by grind
  rw [e5] at k
  generalize h / s * (pr L a s M * ex (-s) M) = w3 at *
  generalize uE L a s M = w4 at *
  clear e e1 e2 e3 e5 vm v0 vh hiD m1 m2 l l2 n tan
  grind
theorem top_ex (P : Nat → Prop) (k : Nat) : ∃ v, (P v ∨ v = 0) ∧ ∀ n, n ≤ k → P n → n ≤ v := by
  induction k with
  | zero => exact ⟨0, Or.inr rfl, fun n hn _ => by omega⟩
  | succ k ih =>
    by_cases h : P (k + 1)
    · exact ⟨k + 1, Or.inl h, fun n hn _ => hn⟩
    · obtain ⟨v, h1, h2⟩ := ih
      exact ⟨v, h1, fun n hn hp => h2 n (by rcases Nat.lt_or_eq_of_le hn with h' | h'
                                            · omega
                                            · subst h'; exact absurd hp h) hp⟩
theorem bound_all {R : Nat → Nat → Prop} (h : ∀ i, ∃ N, ∀ M, N ≤ M → R i M) (k : Nat) : ∃ N, ∀ i, i < k → ∀ M, N ≤ M → R i M := by
  induction k with
  | zero => exact ⟨0, fun i hi => by omega⟩
  | succ k ih =>
    obtain ⟨N1, h1⟩ := ih
    obtain ⟨N2, h2⟩ := h k
    refine ⟨N1 + N2, fun i hi M hM => ?_⟩
    by_cases c : i < k
    · exact h1 i c M (by omega)
    · have : i = k := by omega
      subst this; exact h2 M (by omega)
theorem complete {s t : Nat → Nat → Rat} (h1 : ∀ n m, n ≤ m → LeN (s n) (s m)) (h2 : ∀ n m, n ≤ m → LeN (s m) (fun M => s n M + t n M)) : ∃ g, ∀ n, LeN (s n) g ∧ LeN g (fun M => s n M + t n M) := by
  let P : Nat → Nat → Prop := fun M n => ∀ i, i < n + 1 → ∀ j, j < n + 1 → i ≤ j → s i M ≤ s j M + 1 / ((n : Rat) + 1) ∧ s j M ≤ s i M + t i M + 1 / ((n : Rat) + 1)
  have hP : ∀ n, ∃ N, ∀ M, N ≤ M → P M n := fun n => by
    have u0 : (0 : Rat) < 1 / ((n : Rat) + 1) := rdiv_pos (by grind) (pos1 n)
    have step : ∀ i, ∃ N, ∀ M, N ≤ M → ∀ j, j < n + 1 → i ≤ j → s i M ≤ s j M + 1 / ((n : Rat) + 1) ∧ s j M ≤ s i M + t i M + 1 / ((n : Rat) + 1) := fun i => by
      obtain ⟨N, hN⟩ := bound_all (R := fun j M => i ≤ j → s i M ≤ s j M + 1 / ((n : Rat) + 1) ∧ s j M ≤ s i M + t i M + 1 / ((n : Rat) + 1)) (fun j => by
        by_cases c : i ≤ j
        · obtain ⟨N1, k1⟩ := h1 i j c _ u0
          obtain ⟨N2, k2⟩ := h2 i j c _ u0
          exact ⟨N1 + N2, fun M hM _ => ⟨k1 M (by omega), k2 M (by omega)⟩⟩
        · exact ⟨0, fun M _ c' => absurd c' c⟩) (n + 1)
      exact ⟨N, fun M hM j hj => hN j hj M hM⟩
    obtain ⟨N, hN⟩ := bound_all step (n + 1)
    exact ⟨N, fun M hM i hi j hj hij => hN i hi M hM j hj hij⟩
  obtain ⟨v, hv⟩ := Classical.skolem.1 (fun M => top_ex (P M) M)
  have main : ∀ n (e : Rat), 0 < e → ∃ N, ∀ M, N ≤ M → s n M ≤ s (v M) M + e ∧ s (v M) M ≤ s n M + t n M + e := fun n e he => by
    obtain ⟨m, hm⟩ := rat_nat (1 / e)
    obtain ⟨N, hN⟩ := hP (n + m + 1)
    refine ⟨N + n + m + 1, fun M hM => ?_⟩
    obtain ⟨w1, w2⟩ := hv M
    have ge := w2 (n + m + 1) (by omega) (hN M (by omega))
    have pv : P M (v M) := by rcases w1 with h | h
                              · exact h
                              · omega
    obtain ⟨a1, a2⟩ := pv n (by omega) (v M) (by omega) (by omega)
    have small : 1 / ((v M : Rat) + 1) ≤ e := by
      refine qdiv_le (pos1 _) ?_
      have c : (m : Rat) ≤ (v M : Rat) := by exact_mod_cast (show m ≤ v M by omega)
      have d := rdm (a := 1) he
      have := Rat.mul_le_mul_of_nonneg_left (Rat.le_trans hm.2 c) (Rat.le_of_lt he)
      grind
    exact ⟨by grind, by grind⟩
  exact ⟨fun M => s (v M) M, fun n => ⟨fun e he => (main n e he).imp fun N h M hM => (h M hM).1, fun e he => (main n e he).imp fun N h M hM => (h M hM).2⟩⟩
structure Gam1 (L : Rat → Nat → Rat) (a : Rat) (g : Nat → Rat) : Prop where
  lo : ∀ x, 0 < x → LeN (uG L a x) g
  hi : ∀ x, 0 < x → LeN g (fun M => uG L a x M + uE L a x M)
theorem gam1_ex {L : Rat → Nat → Rat} (hL : Lns L) {a : Rat} (ha : 0 < a) (ha1 : a ≤ 1) : ∃ g, Gam1 L a g := by
  have cast : ∀ {n m : Nat}, n ≤ m → (n : Rat) + 1 ≤ (m : Rat) + 1 := fun {n m} h => by have : (n : Rat) ≤ (m : Rat) := by exact_mod_cast h
                                                                                        grind
  obtain ⟨g, hg⟩ := complete (s := fun n => uG L a ((n : Rat) + 1)) (t := fun n => uE L a ((n : Rat) + 1))
    (fun n m h => uG_mono hL ha (pos1 n) (cast h))
    (fun n m h => by
      refine LeN.trans ?_ (uGE_anti hL ha ha1 (pos1 n) (cast h))
      obtain ⟨N, hN⟩ := uE_nn hL (pos1 m) a
      exact LeN.of_le N fun M hM => by have := hN M hM; grind)
  have up : ∀ x : Rat, ∃ n : Nat, x ≤ (n : Rat) + 1 := fun x => by
    obtain ⟨n, hn⟩ := rat_nat x
    exact ⟨n, by have := hn.2; grind⟩
  refine ⟨g, fun x hx => ?_, fun x hx => ?_⟩
  · obtain ⟨n, hn⟩ := up x
    exact (uG_mono hL ha hx hn).trans (hg n).1
  · obtain ⟨n, hn⟩ := up x
    exact (hg n).2.trans (uGE_anti hL ha ha1 hx hn)
end Go.Proofs.Ytgmnknmjainabab.Ex
