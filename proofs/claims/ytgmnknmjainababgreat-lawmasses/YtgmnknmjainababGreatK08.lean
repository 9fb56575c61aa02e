/-
  Powers of e as package tailsureref makes them: of the whole part, and of the rest. Plain arithmetic: no statement of the seat is proved here.
  1 over a power of e; powers of e of a span. Plain arithmetic: no statement of the seat is proved here.
  Roots of a power of e; the logarithm of what is near 1, by its alternating sum. Plain arithmetic: no statement of the seat is proved here.
  What tailsureref.HasNought answers of right spans, and that it leaves old memory alone; ceil and wide.ceil of whatever numbers.
  What wide.Of answers of whatever numbers.
  What wide.Scale, wide.Over, wide.Times and wide.One answer, and that they leave old memory alone.
  Spans by their ends, as the calls of package wide answer them; the function literal of wide.Exp.
  What wide.sum answers of what the function literal of wide.Exp makes.
-/
import Derived.Test.YtgmnknmjainababGreatK07
namespace Go.Proofs.YtgmnknmjainababGreat
set_option linter.unusedVariables false
open Ex

theorem doneT_le {f : Nat → Int × Int} (hle : ∀ n, (f n).1 ≤ (f n).2) (n : Nat) : (doneT f n).1 ≤ (doneT f n).2 := by
  have := sum_le hle n
  simp only [doneT, addI]; omega
theorem low_low {b : Nat} {X : Int} (h0 : 0 ≤ X) (N : Nat) : Q b - 1 ≤ (doneT (expT b (X, X)) N).1 := by
  have := low_sum (b := b) h0 N
  simp only [doneT, addI]; omega
/-- The sum is less than four times 1. -/
theorem low_up {b N : Nat} {X : Int} (h0 : 0 ≤ X) (h1 : X ≤ Q b) (hN : LowStop (expT b (X, X)) N) : (sumI (expT b (X, X)) N).2 + Q (b - (N - 1)) ≤ 3 * Q b + 3 := by
  have key : ∀ n, n + 1 ≤ N → (sumI (expT b (X, X)) (n + 1)).2 + Q (b - n) ≤ 3 * Q b + (if n ≥ 3 then 3 else n) := fun n => by
    induction n with
    | zero =>
      intro _
      have g0 := (low_absB h0 h1 0).2.2.2
      have g1 : (expT b (X, X) 1).2 ≤ Q b := (low_abs h0 h1 0).2.2.2
      simp only [sumI, addI, Nat.sub_zero]
      simp
      omega
    | succ n ih =>
      intro hn
      have ih := ih (by omega)
      have g := (low_abs h0 h1 (n + 1)).2.2.2
      have e : (sumI (expT b (X, X)) (n + 1 + 1)).2 = (sumI (expT b (X, X)) (n + 1)).2 + (expT b (X, X) (n + 1 + 1)).2 := rfl
      rw [e]
      by_cases hb : 1 ≤ b - n
      · have e2 : Q (b - n) = 2 * Q (b - (n + 1)) := by
          have : b - n = b - (n + 1) + 1 := by omega
          rw [this]; rfl
        split at ih <;> split <;> omega
      · -- then what came last was within 1 already
        have e3 : b - n = 0 := by omega
        have e4 : b - (n + 1) = 0 := by omega
        rw [e3] at ih
        rw [e4] at g ⊢
        have h2 : Q 0 = 1 := rfl
        by_cases h3 : 3 ≤ n + 1
        · exfalso
          have := hN.2.2 (n + 1) h3 (by omega)
          have h4 := abs_reach (low_abs h0 h1 n)
          rw [e3] at h4
          omega
        · split at ih <;> split <;> omega
  obtain ⟨n, rfl⟩ : ∃ n, N = n + 1 := ⟨N - 1, by have := hN.1; omega⟩
  have := key n (Nat.le_refl _)
  simp only [Nat.add_sub_cancel]
  split at this <;> omega
theorem low_box {b N : Nat} {X : Int} (hb : 4 ≤ b) (h0 : 0 ≤ X) (h1 : X ≤ Q b) (hN : LowStop (expT b (X, X)) N) : Abs (doneT (expT b (X, X)) N) (Q (b + 2)) := by
  have g1 := low_low (b := b) h0 N
  have g2 := low_up h0 h1 hN
  have g3 := doneT_le (expT_le b (X, X)) N
  have q := Q_pos (b - (N - 1))
  have q2 := Q_mono hb
  have e : Q 4 = 16 := rfl
  have e2 : Q (b + 2) = 2 * (2 * Q b) := rfl
  have g4 : (doneT (expT b (X, X)) N).2 = (sumI (expT b (X, X)) N).2 + 1 := rfl
  exact ⟨by omega, by omega, by omega, by omega⟩
/-- Products of what is nearly 1 or more. -/
theorem mul_low {B : Nat} {a c : Int × Int} {α β : Int} (ha : Q B - α ≤ a.1) (hc : Q B - β ≤ c.1) (la : a.1 ≤ a.2) (lc : c.1 ≤ c.2) (a0 : 0 ≤ Q B - α) (c0 : 0 ≤ Q B - β) (hα : 0 ≤ α) (hβ : 0 ≤ β) : Q B - α - β ≤ (mulI B a c).1 := by
  have q := Q_pos B
  have l := (least4 (a.1 * c.1) (a.1 * c.2) (a.2 * c.1) (a.2 * c.2)).2.2.2.2
  have p1 := Int.mul_le_mul ha hc c0 (by omega)
  have p2 := Int.mul_le_mul ha (show Q B - β ≤ c.2 by omega) c0 (by omega)
  have p3 := Int.mul_le_mul (show Q B - α ≤ a.2 by omega) hc c0 (by omega)
  have p4 := Int.mul_le_mul (show Q B - α ≤ a.2 by omega) (show Q B - β ≤ c.2 by omega) c0 (by omega)
  have e : (Q B - α) * (Q B - β) = (Q B - α - β) * Q B + α * β := by grind
  have ab := Int.mul_nonneg hα hβ
  simp only [mulI]
  rw [Int.le_ediv_iff_mul_le (by omega)]
  omega
/-- Where tailsureref.Raised is: of e itself. -/
def EInv (B n : Nat) (m : Nat) (o c : Int × Int) : Prop :=
  ∃ j e : Nat, j + e * m = n ∧ 1 ≤ e ∧ e ≤ 2 * n + 1 ∧ Iv B o (Ev (fun _ => (j : Rat))) ∧ Iv B c (Ev (fun _ => (e : Rat))) ∧ Abs o (Q (B + 2 * j)) ∧ Abs c (Q (B + 2 * e)) ∧ o.1 ≤ o.2 ∧ c.1 ≤ c.2 ∧ Q B - 2 * (j : Int) ≤ o.1 ∧ Q B - (2 * (e : Int) - 1) ≤ c.1
theorem ev_nat (i j : Nat) : Null (fun M => Ev (fun _ => (i : Rat)) M * Ev (fun _ => (j : Rat)) M - Ev (fun _ => ((i + j : Nat) : Rat)) M) := by
  have n := Ev_add (Bdd.const (i : Rat)) (Bdd.const (j : Rat))
  have e : (fun _ : Nat => (i : Rat) + (j : Rat)) = fun _ => ((i + j : Nat) : Rat) := funext fun _ => by simp
  rw [e] at n; exact n
theorem einv_step {B n m : Nat} {o c : Int × Int} (hB : 20 ≤ B) (hn : n ≤ 2000) (hm : 0 < m) (h : EInv B n m o c) :
    EInv B n (m / 2) (if m % 2 = 1 then mulI B o c else o) (mulI B c c) ∧ Abs (mulI B c c) (Q (B + 4 * (2 * n + 1))) ∧ (m % 2 = 1 → Abs (mulI B o c) (Q (B + 2 * n))) := by
  obtain ⟨j, e, h1, h2, h3, h4, h5, h6, h7, h8, h9, h10, h11⟩ := h
  have hem : e ≤ n := by
    have := Nat.mul_le_mul_left e hm
    omega
  have hQ : 1048576 ≤ Q B := by have := Q_mono hB; have e : Q 20 = 1048576 := rfl; omega
  have habs : ∀ p q r : Nat, ∀ u v : Int × Int, p + q = r → Abs u (Q (B + 2 * p)) → Abs v (Q (B + 2 * q)) → Abs (mulI B u v) (Q (B + 2 * r)) := fun p q r u v hr hu hv => by
    refine mulI_abs hu hv ?_
    rw [← Q_add, ← Q_add]
    exact Q_mono (by omega)
  have hcc := habs e e (2 * e) c c (by omega) h7 h7
  have hsq : Iv B (mulI B c c) (Ev (fun _ => ((2 * e : Nat) : Rat))) := by
    have : Iv B (mulI B c c) (Ev (fun _ => ((e + e : Nat) : Rat))) := (h5.mul h5).congr ((ev_nat e e).neg.of_eq fun M => by grind)
    rw [show e + e = 2 * e by omega] at this
    exact this
  have hlow : Q B - (2 * ((2 * e : Nat) : Int) - 1) ≤ (mulI B c c).1 := by
    have := mul_low (B := B) h11 h11 h9 h9 (by omega) (by omega) (by omega) (by omega)
    omega
  refine ⟨?_, hcc.mono (Q_mono (by omega)), fun hodd => ?_⟩
  · by_cases hodd : m % 2 = 1
    · rw [if_pos hodd]
      have hme : e * m = 2 * e * (m / 2) + e := by
        have : m = 2 * (m / 2) + 1 := by omega
        have e1 : e * m = e * (2 * (m / 2) + 1) := by rw [← this]
        rw [e1, Nat.mul_add, Nat.mul_one, ← Nat.mul_assoc, Nat.mul_comm e 2]
      refine ⟨j + e, 2 * e, by omega, by omega, by omega, ?_, hsq, habs j e (j + e) o c rfl h6 h7, hcc, mulI_le B, mulI_le B, ?_, hlow⟩
      · exact (h4.mul h5).congr ((ev_nat j e).neg.of_eq fun M => by grind)
      · have hj : j ≤ n := by omega
        have := mul_low (B := B) h10 h11 h8 h9 (by omega) (by omega) (by omega) (by omega)
        omega
    · rw [if_neg hodd]
      have hme : e * m = 2 * e * (m / 2) := by
        have : m = 2 * (m / 2) := by omega
        have e1 : e * m = e * (2 * (m / 2)) := by rw [← this]
        rw [e1, ← Nat.mul_assoc, Nat.mul_comm e 2]
      exact ⟨j, 2 * e, by omega, by omega, by omega, h4, hsq, h6, hcc, h8, mulI_le B, h10, hlow⟩
  · have hje : j + e ≤ n := by
      have := Nat.mul_le_mul_left e (show 1 ≤ m by omega)
      omega
    exact (habs j e (j + e) o c rfl h6 h7).mono (Q_mono (by omega))
theorem einv_start {B N n : Nat} (hB : 20 ≤ B) (hN : LowStop (expT B (Q B, Q B)) N) : EInv B n n (Q B, Q B) (doneT (expT B (Q B, Q B)) N) := by
  have q := Q_pos B
  have qr := Qr_pos B
  have e1 : (Q B : Rat) / (Q B : Rat) = 1 := by rw [Rat.div_def, Rat.mul_inv_cancel _ (by grind)]
  refine ⟨0, 1, by omega, by omega, by omega, ?_, ?_, ?_, low_box (by omega) (by omega) (Int.le_refl _) hN, Int.le_refl _, doneT_le (expT_le _ _) N, by simp, ?_⟩
  · have h : Iv B (Q B, Q B) (fun _ => (1 : Rat)) := by
      have := Has.const (a := (Q B : Rat) / (Q B : Rat)) (b := (Q B : Rat) / (Q B : Rat)) (c := 1) (by rw [e1]; exact Rat.le_refl) (by rw [e1]; exact Rat.le_refl)
      exact this
    refine h.congr (null_zero.of_eq_from 1 fun M hM => ?_)
    obtain ⟨m, rfl⟩ : ∃ m, M = m + 1 := ⟨M - 1, by omega⟩
    show E ((0 : Nat) : Rat) (m + 1) - 1 = 0
    have : ((0 : Nat) : Rat) = 0 := by simp
    rw [this, E_zero]; grind
  · have := low_has (b := B) (X := Q B) (by omega) (Int.le_refl _) hN
    rw [e1] at this
    have e2 : ((1 : Nat) : Rat) = 1 := rfl
    rw [e2]; exact this
  · exact ⟨by simp; omega, by simp, by simp; omega, by simp⟩
  · have := low_low (b := B) (X := Q B) (by omega) N
    simp; omega
/-- Its end. -/
theorem einv_end {B n : Nat} {o c : Int × Int} (h : EInv B n 0 o c) : Iv B o (Ev (fun _ => (n : Rat))) ∧ Abs o (Q (B + 2 * n)) ∧ o.1 ≤ o.2 ∧ Q B - 2 * (n : Int) ≤ o.1 := by
  obtain ⟨j, e, h1, h2, h3, h4, h5, h6, h7, h8, h9, h10, h11⟩ := h
  have : j = n := by omega
  subst this
  exact ⟨h4, h6, h8, h10⟩
/-- The whole part, and the rest. -/
theorem expR_has {B n N : Nat} {X : Int} {o : Int × Int} (hB : 20 ≤ B) (hX : X / Q B = (n : Int)) (h0 : 0 ≤ X) (hn : n ≤ 2000) (ho : Iv (B + 40) o (Ev (fun _ => (n : Rat)))) (ha : Abs o (Q (B + 40 + 2 * n))) (hle : o.1 ≤ o.2) (hlo : Q (B + 40) - 2 * (n : Int) ≤ o.1)
    (hN : LowStop (expT (B + 40) ((X - n * Q B) * Q 40, (X - n * Q B) * Q 40)) N) (hY0 : 0 ≤ (X - n * Q B) * Q 40) (hY1 : (X - n * Q B) * Q 40 ≤ Q (B + 40)) :
    let p := mulI (B + 40) o (doneT (expT (B + 40) ((X - n * Q B) * Q 40, (X - n * Q B) * Q 40)) N)
    Iv B (downI p 40) (Ev (fun _ => (X : Rat) / (Q B : Rat))) ∧ Abs p (Q (B + 40 + 2 * (n + 1))) ∧ p.1 ≤ p.2 ∧ Q B - 1 ≤ (downI p 40).1 := by
  intro p
  have qB := Qr_pos B
  have q40 := Qr_pos 40
  have hl := low_has hY0 hY1 hN
  have hm := ho.mul hl
  have n1 := Ev_add (Bdd.const (n : Rat)) (Bdd.const (((X - n * Q B) * Q 40 : Int) / (Q (B + 40) : Rat)))
  have e : (fun _ : Nat => (n : Rat) + (((X - n * Q B) * Q 40 : Int) : Rat) / (Q (B + 40) : Rat)) = fun _ => (X : Rat) / (Q B : Rat) := funext fun _ => by
    have e1 : (Q (B + 40) : Rat) = (Q B : Rat) * (Q 40 : Rat) := by rw [Q_add, Rat.intCast_mul]
    have e2 : (((X - n * Q B) * Q 40 : Int) : Rat) = ((X : Rat) - (n : Rat) * (Q B : Rat)) * (Q 40 : Rat) := by
      rw [Rat.intCast_mul, Rat.intCast_sub, Rat.intCast_mul]; rfl
    have f1 := rdm (a := (X : Rat)) qB
    have f2 := rdm (a := (((X - n * Q B) * Q 40 : Int) : Rat)) (show (0 : Rat) < (Q (B + 40) : Rat) from Qr_pos _)
    rw [e1, e2] at f2 ⊢
    generalize (X : Rat) / (Q B : Rat) = x at *
    generalize ((X : Rat) - (n : Rat) * (Q B : Rat)) * (Q 40 : Rat) / ((Q B : Rat) * (Q 40 : Rat)) = y at *
    -- y QB Q40 = (x QB - n QB) Q40
    have f3 : (Q 40 : Rat) * ((Q B : Rat) * (y - (x - n))) = 0 := by rw [← f1] at f2; grind
    rcases Rat.mul_eq_zero.1 f3 with h | h
    · grind
    · rcases Rat.mul_eq_zero.1 h with h | h
      · grind
      · grind
  rw [e] at n1
  have hp : Iv (B + 40) p (Ev (fun _ => (X : Rat) / (Q B : Rat))) := hm.congr (n1.neg.of_eq fun M => by grind)
  have hd := low_low (b := B + 40) hY0 N
  have hdl := doneT_le (expT_le (B + 40) ((X - n * Q B) * Q 40, (X - n * Q B) * Q 40)) N
  have hq : 1048576 ≤ Q (B + 40) := by have := Q_mono (show 20 ≤ B + 40 by omega); have e : Q 20 = 1048576 := rfl; omega
  have hlow : Q (B + 40) - 2 * (n : Int) - 1 ≤ p.1 := mul_low hlo hd hle hdl (by omega) (by omega) (by omega) (by omega)
  refine ⟨hp.to, ?_, mulI_le _, ?_⟩
  · refine mulI_abs ha (low_box (by omega) hY0 hY1 hN) ?_
    rw [← Q_add, ← Q_add]
    exact Q_mono (by omega)
  · show Q B - 1 ≤ p.1 / Q 40
    have e40 : Q 40 = 1099511627776 := rfl
    have eB : Q (B + 40) = Q B * Q 40 := Q_add B 40
    rw [Int.le_ediv_iff_mul_le (by rw [e40]; omega), Int.sub_mul, ← eB]
    omega
end Go.Proofs.YtgmnknmjainababGreat

namespace Go.Proofs.YtgmnknmjainababGreat
set_option linter.unusedVariables false
open Ex

namespace Ex
theorem has_inv {a b L H : Rat} {y z : Nat → Rat} (hy : Has a b y) (ha : 0 < a) (hz : Null (fun M => z M * y M - 1)) (N0 : Nat) (hz0 : ∀ M, N0 ≤ M → 0 ≤ z M) (h1 : L * b ≤ 1) (h2 : 1 ≤ H * a) : Has L H z := fun e he => by
  have hab := hy.le
  have hb : 0 < b := by grind
  obtain ⟨l, hl⟩ := AB.self L
  obtain ⟨h, hh⟩ := AB.self H
  have l0 := hl.nonneg
  have h0 := hh.nonneg
  obtain ⟨hl1, hl2⟩ := hl
  obtain ⟨hh1, hh2⟩ := hh
  have hK : 0 < 2 * (l + h + e + 1) := by grind
  have hae := Rat.mul_pos he ha
  have hδ := rdiv_pos hae hK
  have hδe := rdm (a := e * a) hK
  obtain ⟨N1, k1⟩ := hy _ hδ
  obtain ⟨N2, k2⟩ := hz _ hδ
  refine ⟨N0 + N1 + N2, fun M hM => ?_⟩
  obtain ⟨y1, y2⟩ := k1 M (by omega)
  obtain ⟨z1, z2⟩ : AB (z M * y M - 1) (e * a / (2 * (l + h + e + 1))) := k2 M (by omega)
  have zp := hz0 M (by omega)
  generalize e * a / (2 * (l + h + e + 1)) = δ at *
  generalize z M = Z at *
  generalize y M = Y at *
  have hd2 : δ * (2 * (l + h + e + 1)) = 2 * (δ * l) + 2 * (δ * h) + 2 * (δ * e) + 2 * δ := by grind
  rw [hd2] at hδe
  have p1 := Rat.mul_nonneg (Rat.le_of_lt hδ) l0
  have p2 := Rat.mul_nonneg (Rat.le_of_lt hδ) h0
  have p3 := Rat.mul_pos hδ he
  have p4 := Rat.mul_nonneg (Rat.le_of_lt he) (show 0 ≤ b - a by grind)
  constructor
  · refine Rat.not_lt.1 fun hn => ?_
    -- Z < L - e; Z Y <= Z (b + δ) <= (L - e) (b + δ)
    have q1 := Rat.mul_nonneg zp (show 0 ≤ b + δ - Y by grind)
    have q2 := Rat.mul_pos (show 0 < L - e - Z by grind) (show 0 < b + δ by grind)
    have q3 : L * δ ≤ δ * l := by
      have := Rat.mul_nonneg (Rat.le_of_lt hδ) (show 0 ≤ l - L by grind)
      grind
    grind
  · refine Rat.not_lt.1 fun hn => ?_
    have q1 := Rat.mul_nonneg zp (show 0 ≤ Y - (a - δ) by grind)
    have q4 : δ < a := by
      refine Rat.not_le.1 fun hc => ?_
      have := Rat.mul_nonneg (show 0 ≤ δ - a by grind) (Rat.le_of_lt he)
      grind
    have q2 := Rat.mul_pos (show 0 < Z - (H + e) by grind) (show 0 < a - δ by grind)
    have q3 : H * δ ≤ δ * h := by
      have := Rat.mul_nonneg (Rat.le_of_lt hδ) (show 0 ≤ h - H by grind)
      grind
    grind
theorem has_between {a b c d : Rat} {u v x m n : Nat → Rat} (hu : Has a b u) (hv : Has c d v) (hm : Null m) (hn : Null n) (N : Nat) (h1 : ∀ M, N ≤ M → u M ≤ x M + m M) (N' : Nat) (h2 : ∀ M, N' ≤ M → x M ≤ v M + n M) : Has a d x := fun e he => by
  obtain ⟨N1, k1⟩ := hu (e / 2) (by grind)
  obtain ⟨N2, k2⟩ := hv (e / 2) (by grind)
  obtain ⟨N3, k3⟩ := hm (e / 2) (by grind)
  obtain ⟨N4, k4⟩ := hn (e / 2) (by grind)
  refine ⟨N + N' + N1 + N2 + N3 + N4, fun M hM => ?_⟩
  have g1 := k1 M (by omega)
  have g2 := k2 M (by omega)
  obtain ⟨g3, g4⟩ := k3 M (by omega)
  obtain ⟨g5, g6⟩ := k4 M (by omega)
  have g7 := h1 M (by omega)
  have g8 := h2 M (by omega)
  constructor <;> grind
end Ex
/-- 1 over a power of e. -/
theorem inv_has {B : Nat} {p : Int × Int} {x : Rat} {lo hi : Int} (hp : 0 < p.1) (h : Iv B p (Ev (fun _ => -x))) (h1 : lo * p.2 ≤ Q B * Q B) (h2 : Q B * Q B ≤ hi * p.1) : Iv B (lo, hi) (Ev (fun _ => x)) := by
  have q := Qr_pos B
  obtain ⟨c, hc, N, hN⟩ := Ev_low (Bdd.const x)
  have hz := Ev_inv (Bdd.const x)
  have q2 := Rat.mul_pos q q
  have hp' : (0 : Rat) < (p.1 : Rat) := by exact_mod_cast hp
  refine has_inv h (rdiv_pos hp' q) hz N (fun M hM => by have := hN M hM; grind) ?_ ?_
  · have e1 := rdm (a := (lo : Rat)) q
    have e2 := rdm (a := (p.2 : Rat)) q
    have g := cast_le h1
    rw [Rat.intCast_mul, Rat.intCast_mul] at g
    simp only []
    generalize (lo : Rat) / (Q B : Rat) = u at *
    generalize (p.2 : Rat) / (Q B : Rat) = v at *
    rw [← e1, ← e2] at g
    refine Rat.not_lt.1 fun hn => ?_
    have := Rat.mul_pos (show 0 < u * v - 1 by grind) q2
    grind
  · have e1 := rdm (a := (hi : Rat)) q
    have e2 := rdm (a := (p.1 : Rat)) q
    have g := cast_le h2
    rw [Rat.intCast_mul, Rat.intCast_mul] at g
    simp only []
    generalize (hi : Rat) / (Q B : Rat) = u at *
    generalize (p.1 : Rat) / (Q B : Rat) = v at *
    rw [← e1, ← e2] at g
    refine Rat.not_lt.1 fun hn => ?_
    have := Rat.mul_pos (show 0 < 1 - u * v by grind) q2
    grind
end Go.Proofs.YtgmnknmjainababGreat

namespace Go.Proofs.YtgmnknmjainababGreat
set_option linter.unusedVariables false
open Ex

namespace Ex
theorem Bdd.half {l : Nat → Rat} (h : Bdd l) : Bdd (fun M => l M / 2) := by
  obtain ⟨K, N, k0, hk⟩ := h
  exact ⟨K, N, k0, fun M hM => by obtain ⟨h1, h2⟩ := hk M hM; constructor <;> grind⟩
end Ex
theorem Bdd.over {l : Nat → Rat} (h : Bdd l) (i : Nat) : Bdd (fun M => l M / (Q i : Rat)) := by
  obtain ⟨K, N, k0, hk⟩ := h
  have q := Qr_pos i
  refine ⟨K, N, k0, fun M hM => rdiv_AB q ((hk M hM).mono ?_)⟩
  have h1 : ((1 : Int) : Rat) ≤ (Q i : Rat) := cast_le (by have := Q_pos i; omega)
  have e1 : ((1 : Int) : Rat) = 1 := rfl
  rw [e1] at h1
  have := Rat.mul_nonneg (show 0 ≤ (Q i : Rat) - 1 by grind) k0
  grind
end Go.Proofs.YtgmnknmjainababGreat

namespace Go.Proofs.YtgmnknmjainababGreat
set_option linter.unusedVariables false
set_option linter.unusedSimpArgs false
set_option linter.unnecessarySimpa false
open Go.RowKit
attribute [local go_sem ↓] Go.wp_at_zero Go.wp_at_succ

theorem ceil_any (neg neg2 : Bool) (a c : Option Addr) (n m cap cap2 k k2 : Nat) (x y : Int) (w : World) (h1 : IntAt w neg a n cap k x) (h2 : IntAt w neg2 c m cap2 k2 y) (hk : k ≤ 800000000) (hy : 0 < y) :
    Calls Tryz.prog 176 #[.agg #[.bool neg, .slice a n cap], .agg #[.bool neg2, .slice c m cap2]] w (FloorAns w k (-(-x / y))) :=
  ceil_core neg neg2 a c n m cap cap2 k k2 x y w h1 h2 hk (fun w' neg' a' n' cap' g1 g2 => floor_any neg' neg2 a' c n' m cap' cap2 k k2 (-x) y w' g1 g2 (by omega) hy)
theorem refDown_any (neg neg2 : Bool) (a c : Option Addr) (n m cap cap2 k k2 : Nat) (x y : Int) (w : World) (h1 : IntAt w neg a n cap k x) (h2 : IntAt w neg2 c m cap2 k2 y) (hk : k ≤ 700000000) (hk2 : k2 ≤ 100000000) (hy : 0 < y) :
    Calls Tryz.prog 108 #[.agg #[.bool neg, .slice a n cap], .agg #[.bool neg2, .slice c m cap2]] w (IntAns w (k + 8) (x / y)) :=
  refDown_core neg neg2 a c n m cap cap2 k k2 x y w h1 h2 hk hk2 (fun w' p q => floor_any neg neg2 a c n m cap cap2 k k2 x y w' p q (by omega) hy)
theorem refUp_any (neg neg2 : Bool) (a c : Option Addr) (n m cap cap2 k k2 : Nat) (x y : Int) (w : World) (h1 : IntAt w neg a n cap k x) (h2 : IntAt w neg2 c m cap2 k2 y) (hk : k ≤ 700000000) (hk2 : k2 ≤ 100000000) (hy : 0 < y) :
    Calls Tryz.prog 109 #[.agg #[.bool neg, .slice a n cap], .agg #[.bool neg2, .slice c m cap2]] w (IntAns w (k + 9) (-(-x / y))) :=
  refUp_core neg neg2 a c n m cap cap2 k k2 x y w h1 h2 hk hk2 hy (fun w' p q => floor_any neg neg2 a c n m cap cap2 k k2 x y w' p q (by omega) hy)
end Go.Proofs.YtgmnknmjainababGreat

namespace Go.Proofs.YtgmnknmjainababGreat
set_option linter.unusedVariables false
set_option linter.unusedSimpArgs false
set_option linter.unnecessarySimpa false
open Go.RowKit
attribute [local go_sem ↓] Go.wp_at_zero Go.wp_at_succ

set_option maxRecDepth 100000 in
set_option maxHeartbeats 2000000 in
theorem wideOf_any (neg neg2 : Bool) (a c : Option Addr) (n m cap cap2 k k2 b : Nat) (x y : Int) (w : World) (h1 : IntAt w neg a n cap k x) (h2 : IntAt w neg2 c m cap2 k2 y) (hk : k ≤ 700000000) (hb : b ≤ 1000000) (hy : 0 < y) :
    Calls Tryz.prog 140 #[.agg #[.bool neg, .slice a n cap], .agg #[.bool neg2, .slice c m cap2], .int .i64 b] w (SpanAns w b (k + b / 16 + 20) (x * Q b / y) (-(-(x * Q b) / y))) := by
  go_enter Tryz.func140, Tryz.ntmps140
  go_wp2_with (go_at_call 95; refine (up_int _ _ _ _ b k x _ (h1.below (bl3 _ _ _ _)) (by omega) (by omega)).mono ?_; rintro r w1 ⟨neg1, a1, n1, c1, rfl, hint1, hb1⟩; obtain ⟨hsz1, hcell1, hfz1⟩ := near (w.heap.size + 1 + 1 + 1) (by simp) hb1; have hz1 := Nat.lt_of_lt_of_le (Nat.lt_succ_self (w.heap.size + 1 + 1)) hsz1; have hz0 := Nat.lt_of_succ_lt hz1)
  have hint1 := hint1.mono (show b / 16 + k + 1 ≤ k + b / 16 + 10 by omega)
  have hBw : Below w.heap.size w w1 := bthen (bl3 _ _ _ _) hb1
  have k0 : w1.cell? ⟨w.heap.size + 1, 0, none⟩ = some (.bool neg2) := by simp [hcell1, go_sem]
  have k1 : w1.cell? ⟨w.heap.size + 1, 1, none⟩ = some (.slice c m cap2) := by simp [hcell1, go_sem]
  have r0 : w1.cell? ⟨w.heap.size + 1 + 1, 0, none⟩ = some (.bool false) := by simp [hcell1, go_sem]
  have r1 : w1.cell? ⟨w.heap.size + 1 + 1, 1, none⟩ = some (.slice none 0 0) := by simp [hcell1, go_sem]
  have r2 : w1.cell? ⟨w.heap.size + 1 + 1, 2, none⟩ = some (.bool false) := by simp [hcell1, go_sem]
  have r3 : w1.cell? ⟨w.heap.size + 1 + 1, 3, none⟩ = some (.slice none 0 0) := by simp [hcell1, go_sem]
  have r4 : w1.cell? ⟨w.heap.size + 1 + 1, 4, none⟩ = some (.int .i64 0) := by simp [hcell1, go_sem]
  have r5 : ∀ o, w1.frozen? ⟨w.heap.size + 1 + 1, o, none⟩ = false := by intro o; simp [hfz1, go_sem]
  have H2 := hide (h2.below hBw)
  clear hcell1 hfz1
  obtain ⟨W, hW⟩ : ∃ W, W = w1.alloc (.cells #[.bool neg1, .slice a1 n1 c1] 26) := ⟨_, rfl⟩
  have hBW : Below w1.heap.size w1 W := by rw [hW]; exact bl1 _ _
  have u0 : W.cell? ⟨w1.heap.size, 0, none⟩ = some (.bool neg1) := by rw [hW]; simp
  have u1 : W.cell? ⟨w1.heap.size, 1, none⟩ = some (.slice a1 n1 c1) := by rw [hW]; simp
  have hlW : w1.heap.size < W.heap.size := by rw [hW]; simp
  have HI := hide (hint1.below hBW)
  have HI2 := hide ((unhide H2).below hBW)
  have hl1 : w.heap.size + 1 < W.heap.size := Nat.lt_trans hz0 hlW
  have hl2 : w.heap.size + 1 + 1 < W.heap.size := Nat.lt_trans hz1 hlW
  have HK := hide (show ∀ w', Below W.heap.size W w' → (w'.cell? ⟨w1.heap.size, 0, none⟩ = some (.bool neg1) ∧ w'.cell? ⟨w1.heap.size, 1, none⟩ = some (.slice a1 n1 c1) ∧ w'.cell? ⟨w.heap.size + 1, 0, none⟩ = some (.bool neg2) ∧ w'.cell? ⟨w.heap.size + 1, 1, none⟩ = some (.slice c m cap2)) from fun w' hB =>
    ⟨(hB.cell (p := ⟨w1.heap.size, 0, none⟩) hlW).trans u0, (hB.cell (p := ⟨w1.heap.size, 1, none⟩) hlW).trans u1, (hB.cell (p := ⟨w.heap.size + 1, 0, none⟩) hl1).trans ((hBW.cell (p := ⟨w.heap.size + 1, 0, none⟩) hz0).trans k0), (hB.cell (p := ⟨w.heap.size + 1, 1, none⟩) hl1).trans ((hBW.cell (p := ⟨w.heap.size + 1, 1, none⟩) hz0).trans k1)⟩)
  have HR := hide (show ∀ w', Below W.heap.size W w' → (w'.cell? ⟨w.heap.size + 1 + 1, 0, none⟩ = some (.bool false) ∧ w'.cell? ⟨w.heap.size + 1 + 1, 1, none⟩ = some (.slice none 0 0) ∧ w'.cell? ⟨w.heap.size + 1 + 1, 2, none⟩ = some (.bool false) ∧ w'.cell? ⟨w.heap.size + 1 + 1, 3, none⟩ = some (.slice none 0 0) ∧ w'.cell? ⟨w.heap.size + 1 + 1, 4, none⟩ = some (.int .i64 0) ∧ ∀ o, w'.frozen? ⟨w.heap.size + 1 + 1, o, none⟩ = false) from fun w' hB =>
    ⟨(hB.cell (p := ⟨w.heap.size + 1 + 1, 0, none⟩) hl2).trans ((hBW.cell (p := ⟨w.heap.size + 1 + 1, 0, none⟩) hz1).trans r0), (hB.cell (p := ⟨w.heap.size + 1 + 1, 1, none⟩) hl2).trans ((hBW.cell (p := ⟨w.heap.size + 1 + 1, 1, none⟩) hz1).trans r1), (hB.cell (p := ⟨w.heap.size + 1 + 1, 2, none⟩) hl2).trans ((hBW.cell (p := ⟨w.heap.size + 1 + 1, 2, none⟩) hz1).trans r2), (hB.cell (p := ⟨w.heap.size + 1 + 1, 3, none⟩) hl2).trans ((hBW.cell (p := ⟨w.heap.size + 1 + 1, 3, none⟩) hz1).trans r3), (hB.cell (p := ⟨w.heap.size + 1 + 1, 4, none⟩) hl2).trans ((hBW.cell (p := ⟨w.heap.size + 1 + 1, 4, none⟩) hz1).trans r4), fun o => (hB.frozen (p := ⟨w.heap.size + 1 + 1, o, none⟩) hl2).trans ((hBW.frozen (p := ⟨w.heap.size + 1 + 1, o, none⟩) hz1).trans (r5 o))⟩)
  have hBW2 : Below w.heap.size w W := bthen hBw hBW
  have ne1 : w.heap.size + 1 + 1 ≠ w1.heap.size := by omega
  have ne2 : w1.heap.size ≠ w.heap.size + 1 + 1 := by omega
  rw [← hW]
  clear hW k0 k1 r0 r1 r2 r3 r4 r5 u0 u1 H2 hint1 hb1 hBw hBW
  go_region_held3 (fun w' => w'.cell? ⟨w1.heap.size, 0, none⟩ = some (.bool neg1) ∧ w'.cell? ⟨w1.heap.size, 1, none⟩ = some (.slice a1 n1 c1) ∧ w'.cell? ⟨w.heap.size + 1, 0, none⟩ = some (.bool neg2) ∧ w'.cell? ⟨w.heap.size + 1, 1, none⟩ = some (.slice c m cap2)) (first | exact unhide HK _ (by first | exact (Below.refl _ _).drew | exact hB2 | exact hB3) | go_keep)
    (first
      | (go_at_call 119; refine (floor_any _ _ _ _ _ _ _ _ (k + b / 16 + 10) k2 (x * Q b) y _ ((unhide HI).below (Below.refl _ _).drew) ((unhide HI2).below (Below.refl _ _).drew) (by omega) hy).mono ?_; rintro r w2 ⟨neg4, a4, n4, c4, rfl, hint4, hb4⟩; have hB2 : Below W.heap.size W w2 := bthen (Below.refl _ _).drew hb4)
      | (go_at_call 176; refine (ceil_any _ _ _ _ _ _ _ _ (k + b / 16 + 10) k2 (x * Q b) y _ ((unhide HI).below hB2) ((unhide HI2).below hB2) (by omega) hy).mono ?_; rintro r w3 ⟨neg5, a5, n5, c5, rfl, hint5, hb5⟩; have hB3 := bthen hB2 hb5; obtain ⟨q0, q1, q2, q3, q4, q5⟩ := unhide HR w3 hB3; obtain ⟨q6, q7, q8, q9⟩ := unhide HK w3 hB3))
  go_wp2
  refine bodyPost_ret (v := .agg #[.bool neg4, .slice a4 n4 c4, .bool neg5, .slice a5 n5 c5, .int .i64 b]) (by simp [results, Tryz.results140, go_sem, q0, q1, q2, q3, q4]) rfl ⟨⟨neg4, a4, n4, c4, neg5, a5, n5, c5, b⟩, rfl, rfl, ?_, ?_⟩
  · exact SpAt.put5 ⟨(hint4.below hb5).mono (by omega), hint5.mono (by omega)⟩ q0 q1 q2 q3 q4 _ _ _ _ _
  · exact set5 (hBW2.trans (hB3.mono hBW2.size)) (by omega) _ _ _ _ _

end Go.Proofs.YtgmnknmjainababGreat

namespace Go.Proofs.YtgmnknmjainababGreat
set_option linter.unusedVariables false
set_option linter.unusedSimpArgs false
set_option linter.unnecessarySimpa false
open Go.RowKit
attribute [local go_sem ↓] Go.wp_at_zero Go.wp_at_succ

set_option maxRecDepth 100000 in
set_option maxHeartbeats 4000000 in
theorem scale_int (w : World) (s : Sp) (neg neg2 : Bool) (a c : Option Addr) (n m cap cap2 k k1 k2 : Nat) (lo hi x y : Int) (hs : SpAt w s k lo hi) (h1 : IntAt w neg a n cap k1 x) (h2 : IntAt w neg2 c m cap2 k2 y) (hk : k ≤ 300000000) (hk1 : k1 ≤ 300000000) (hy : 0 < y) :
    Calls Tryz.prog 143 #[.agg #[.bool s.ln, .slice s.la s.lN s.lc, .bool s.hn, .slice s.ha s.hN s.hc, .int .i64 s.bits], .agg #[.bool neg, .slice a n cap], .agg #[.bool neg2, .slice c m cap2]] w (SpanAns w s.bits (k + k1 + 10) (lo * x / y) (-(-(hi * x) / y))) := by
  obtain ⟨W, hW⟩ : ∃ W, W = (((w.alloc (.cells #[.bool s.ln, .slice s.la s.lN s.lc, .bool s.hn, .slice s.ha s.hN s.hc, .int .i64 s.bits] 28)).alloc (.cells #[.bool neg, .slice a n cap] 26)).alloc (.cells #[.bool neg2, .slice c m cap2] 26)).alloc (.cells #[.bool false, .slice none 0 0, .bool false, .slice none 0 0, .int .i64 0] 28) := ⟨_, rfl⟩
  have hBW : Below w.heap.size w W := by rw [hW]; exact bl4 _ _ _ _ _
  have A : SpC W w.heap.size s := by rw [hW]; exact ⟨by simp [go_sem], by simp [go_sem], by simp [go_sem], by simp [go_sem], by simp [go_sem]⟩
  have X : NmC W (w.heap.size + 1) ⟨neg, a, n, cap⟩ := by rw [hW]; exact ⟨by simp [go_sem], by simp [go_sem]⟩
  have Y : NmC W (w.heap.size + 1 + 1) ⟨neg2, c, m, cap2⟩ := by rw [hW]; exact ⟨by simp [go_sem], by simp [go_sem]⟩
  have R : NoC W (w.heap.size + 1 + 1 + 1) := by rw [hW]; exact ⟨by simp [go_sem], by simp [go_sem], by simp [go_sem], by simp [go_sem], by simp [go_sem], fun o => by simp [go_sem]⟩
  have HS := hide (hs.below hBW)
  have HX := hide (h1.below hBW)
  have HY := hide (h2.below hBW)
  have lR := R.lt
  have HK := hide (show ∀ w', Below W.heap.size W w' → (w'.cell? ⟨w.heap.size, 0, none⟩ = some (.bool s.ln) ∧ w'.cell? ⟨w.heap.size, 1, none⟩ = some (.slice s.la s.lN s.lc) ∧ w'.cell? ⟨w.heap.size, 2, none⟩ = some (.bool s.hn) ∧ w'.cell? ⟨w.heap.size, 3, none⟩ = some (.slice s.ha s.hN s.hc) ∧ w'.cell? ⟨w.heap.size, 4, none⟩ = some (.int .i64 s.bits) ∧ w'.cell? ⟨w.heap.size + 1, 0, none⟩ = some (.bool neg) ∧ w'.cell? ⟨w.heap.size + 1, 1, none⟩ = some (.slice a n cap) ∧ w'.cell? ⟨w.heap.size + 1 + 1, 0, none⟩ = some (.bool neg2) ∧ w'.cell? ⟨w.heap.size + 1 + 1, 1, none⟩ = some (.slice c m cap2)) from fun w' hB => ⟨(A.below hB).c0, (A.below hB).c1, (A.below hB).c2, (A.below hB).c3, (A.below hB).c4, (X.below hB).c0, (X.below hB).c1, (Y.below hB).c0, (Y.below hB).c1⟩)
  clear A X Y hs h1 h2
  go_enter Tryz.func143, Tryz.ntmps143
  go_wp2
  rw [← hW]
  clear hW
  have n02 : w.heap.size ≠ w.heap.size + 1 + 1 := by omega
  have n20 : w.heap.size + 1 + 1 ≠ w.heap.size := by omega
  have n03 : w.heap.size ≠ w.heap.size + 1 + 1 + 1 := by omega
  have n30 : w.heap.size + 1 + 1 + 1 ≠ w.heap.size := by omega
  have n13 : w.heap.size + 1 ≠ w.heap.size + 1 + 1 + 1 := by omega
  have n31 : w.heap.size + 1 + 1 + 1 ≠ w.heap.size + 1 := by omega
  have n23 : w.heap.size + 1 + 1 ≠ w.heap.size + 1 + 1 + 1 := by omega
  have n32 : w.heap.size + 1 + 1 + 1 ≠ w.heap.size + 1 + 1 := by omega
  obtain ⟨x0, x1, x2, x3, x4, x5, x6, x7, x8⟩ := unhide HK _ (Below.refl _ _)
  have hD0 : Below W.heap.size W W.drew := (Below.refl _ _).drew
  go_region_held3 (fun w' => w'.cell? ⟨w.heap.size, 0, none⟩ = some (.bool s.ln) ∧ w'.cell? ⟨w.heap.size, 1, none⟩ = some (.slice s.la s.lN s.lc) ∧ w'.cell? ⟨w.heap.size, 2, none⟩ = some (.bool s.hn) ∧ w'.cell? ⟨w.heap.size, 3, none⟩ = some (.slice s.ha s.hN s.hc) ∧ w'.cell? ⟨w.heap.size, 4, none⟩ = some (.int .i64 s.bits) ∧ w'.cell? ⟨w.heap.size + 1, 0, none⟩ = some (.bool neg) ∧ w'.cell? ⟨w.heap.size + 1, 1, none⟩ = some (.slice a n cap) ∧ w'.cell? ⟨w.heap.size + 1 + 1, 0, none⟩ = some (.bool neg2) ∧ w'.cell? ⟨w.heap.size + 1 + 1, 1, none⟩ = some (.slice c m cap2)) (first | exact unhide HK _ (by first | with_reducible exact hD0 | with_reducible exact hD4 | with_reducible exact hD3 | with_reducible exact hD2 | with_reducible exact hD1) | go_keep)
    (first
      | (go_at_call 176; have hq := hD3; refine (ceil_any _ _ _ _ _ _ _ _ (k + k1) k2 (hi * x) y _ hint3 ((unhide HY).below hD3) (by omega) hy).mono ?_; rintro r' w4 ⟨neg4, a4, n4, c4, rfl, hint4, hb4⟩; have hD4 := bthen hD3 hb4; replace hint2 := (hint2.below hb3).below hb4; obtain ⟨q0, q1, q2, q3, q4, q5⟩ := R.below hD4; obtain ⟨y0, y1, y2, y3, y4, y5, y6, y7, y8⟩ := unhide HK _ hD4)
      | (go_at_call 66; have hq := hD2; refine (mul_int _ _ _ _ _ _ _ _ k k1 hi x _ ((unhide HS).hi.below hD2) ((unhide HX).below hD2) (by omega) (by omega)).mono ?_; rintro r' w3 ⟨neg3, a3, n3, c3, rfl, hint3, hb3⟩; have hD3 := bthen hD2 hb3)
      | (go_at_call 119; have hq := hD1; refine (floor_any _ _ _ _ _ _ _ _ (k + k1) k2 (lo * x) y _ hint1 ((unhide HY).below hD1) (by omega) hy).mono ?_; rintro r' w2 ⟨neg2', a2, n2, c2, rfl, hint2, hb2⟩; have hD2 := bthen hD1 hb2)
      | (go_at_call 66; refine (mul_int _ _ _ _ _ _ _ _ k k1 lo x _ ((unhide HS).lo.below hD0) ((unhide HX).below hD0) (by omega) (by omega)).mono ?_; rintro r' w1 ⟨neg1, a1, n1, c1, rfl, hint1, hb1⟩; have hD1 := bthen hD0 hb1))
  all_goals
    go_wp2_with fail
    refine bodyPost_ret (v := .agg #[.bool neg2', .slice a2 n2 c2, .bool neg4, .slice a4 n4 c4, .int .i64 s.bits]) (by simp [results, Tryz.results143, go_sem, q0, q1, q2, q3, q4]) rfl ⟨⟨neg2', a2, n2, c2, neg4, a4, n4, c4, s.bits⟩, rfl, rfl, ?_, ?_⟩
    · exact SpAt.put5 ⟨hint2.mono (by omega), hint4.mono (by omega)⟩ q0 q1 q2 q3 q4 _ _ _ _ _
    · exact set5 (bthen hBW hD4) (by omega) _ _ _ _ _

set_option maxRecDepth 100000 in
set_option maxHeartbeats 4000000 in
theorem over1_int (w : World) (s : Sp) (k : Nat) (d lo hi : Int) (hs : SpAt w s k lo hi) (hk : k ≤ 300000000) (hd : 0 < d) (hd2 : d ≤ 9223372036854775807) :
    Calls Tryz.prog 98 #[.agg #[.bool s.ln, .slice s.la s.lN s.lc, .bool s.hn, .slice s.ha s.hN s.hc, .int .i64 s.bits], .int .i64 d] w (SpanAns w s.bits (k + 14) (lo * 1 / d) (-(-(hi * 1) / d))) := by
  obtain ⟨W, hW⟩ : ∃ W, W = (w.alloc (.cells #[.bool s.ln, .slice s.la s.lN s.lc, .bool s.hn, .slice s.ha s.hN s.hc, .int .i64 s.bits] 28)).alloc (.cells #[.bool false, .slice none 0 0, .bool false, .slice none 0 0, .int .i64 0] 28) := ⟨_, rfl⟩
  have hBW : Below w.heap.size w W := by rw [hW]; exact bl2 _ _ _
  have A : SpC W w.heap.size s := by rw [hW]; exact ⟨by simp [go_sem], by simp [go_sem], by simp [go_sem], by simp [go_sem], by simp [go_sem]⟩
  have R : NoC W (w.heap.size + 1) := by rw [hW]; exact ⟨by simp [go_sem], by simp [go_sem], by simp [go_sem], by simp [go_sem], by simp [go_sem], fun o => by simp [go_sem]⟩
  have HS := hide (hs.below hBW)
  have lR := R.lt
  have HK := hide (show ∀ w', Below W.heap.size W w' → (w'.cell? ⟨w.heap.size, 0, none⟩ = some (.bool s.ln) ∧ w'.cell? ⟨w.heap.size, 1, none⟩ = some (.slice s.la s.lN s.lc) ∧ w'.cell? ⟨w.heap.size, 2, none⟩ = some (.bool s.hn) ∧ w'.cell? ⟨w.heap.size, 3, none⟩ = some (.slice s.ha s.hN s.hc) ∧ w'.cell? ⟨w.heap.size, 4, none⟩ = some (.int .i64 s.bits)) from fun w' hB => ⟨(A.below hB).c0, (A.below hB).c1, (A.below hB).c2, (A.below hB).c3, (A.below hB).c4⟩)
  clear A hs
  go_enter Tryz.func98, Tryz.ntmps98
  go_wp2
  rw [← hW]
  clear hW
  have n01 : w.heap.size ≠ w.heap.size + 1 := by omega
  have n10 : w.heap.size + 1 ≠ w.heap.size := by omega
  obtain ⟨x0, x1, x2, x3, x4⟩ := unhide HK _ (Below.refl _ _)
  have hD0 : Below W.heap.size W W.drew := (Below.refl _ _).drew
  go_region_held3 (fun w' => w'.cell? ⟨w.heap.size, 0, none⟩ = some (.bool s.ln) ∧ w'.cell? ⟨w.heap.size, 1, none⟩ = some (.slice s.la s.lN s.lc) ∧ w'.cell? ⟨w.heap.size, 2, none⟩ = some (.bool s.hn) ∧ w'.cell? ⟨w.heap.size, 3, none⟩ = some (.slice s.ha s.hN s.hc) ∧ w'.cell? ⟨w.heap.size, 4, none⟩ = some (.int .i64 s.bits)) (first | exact unhide HK _ (by first | with_reducible exact hD0 | with_reducible exact hD3 | with_reducible exact hD2 | with_reducible exact hD1) | go_keep)
    (first
      | (go_at_call 143; have hq := hD2; refine (scale_int _ s _ _ _ _ _ _ _ _ k 4 4 lo hi 1 d ((unhide HS).below hD2) (hint1.below hb2) hint2 (by omega) (by omega) hd).mono ?_; rintro r' w3 ⟨u, rfl, hub, hup, hb3⟩; have HU := hide hub; clear hub; have hD3 := bthen hD2 hb3; obtain ⟨q0, q1, q2, q3, q4, q5⟩ := R.below hD3; obtain ⟨y0, y1, y2, y3, y4⟩ := unhide HK _ hD3)
      | (go_at_call 43; have hq := hD1; refine (numOf_int d _ (by omega) hd2).mono ?_; rintro r' w2 ⟨neg2, a2, n2, c2, rfl, hint2, hb2⟩; have hD2 := bthen hD1 hb2)
      | (go_at_call 43; refine (numOf_int 1 _ (by decide) (by decide)).mono ?_; rintro r' w1 ⟨neg1, a1, n1, c1, rfl, hint1, hb1⟩; have hD1 := bthen hD0 hb1))
  all_goals
    go_wp2_with fail
    refine bodyPost_ret (v := .agg #[.bool u.ln, .slice u.la u.lN u.lc, .bool u.hn, .slice u.ha u.hN u.hc, .int .i64 u.bits]) (by simp [results, Tryz.results98, go_sem, q0, q1, q2, q3, q4]) rfl ⟨u, rfl, unhide HU, ?_, ?_⟩
    · exact SpAt.put5 (hup.mono (by omega)) q0 q1 q2 q3 q4 _ _ _ _ _
    · exact set5 (bthen hBW hD3) (Nat.le_succ _) _ _ _ _ _

set_option maxRecDepth 100000 in
set_option maxHeartbeats 2000000 in
theorem one_int (w : World) (b : Nat) (hb : b ≤ 1000000) : Calls Tryz.prog 133 #[.int .i64 b] w (SpanAns w b (b / 16 + 24) (1 * Q b / 1) (-(-(1 * Q b) / 1))) := by
  go_enter Tryz.func133, Tryz.ntmps133
  go_wp2_with fail
  refine (numOf_int 1 _ (by decide) (by decide)).mono ?_
  rintro r' w1 ⟨neg1, a1, n1, c1, rfl, hint1, hb1⟩
  have R := (noc_new w 28).below hb1
  have hB : Below w.heap.size w w1 := bthen (bl1 _ _) hb1
  clear hb1
  go_wp2_with fail
  refine (numOf_int 1 _ (by decide) (by decide)).mono ?_
  rintro r' w2 ⟨neg2, a2, n2, c2, rfl, hint2, hb2⟩
  replace R := R.below hb2
  replace hB := bthen hB hb2
  replace hint1 := hint1.below hb2
  clear hb2
  go_wp2_with fail
  refine (wideOf_any _ _ _ _ _ _ _ _ 4 4 b 1 1 _ hint1 hint2 (by omega) hb (by omega)).mono ?_
  rintro r' w3 ⟨u, rfl, hub, hup, hb3⟩
  obtain ⟨q0, q1, q2, q3, q4, q5⟩ := R.below hb3
  replace hB := bthen hB hb3
  have HU := hide hub
  clear hub hb3
  go_wp2_with fail
  refine bodyPost_ret (v := .agg #[.bool u.ln, .slice u.la u.lN u.lc, .bool u.hn, .slice u.ha u.hN u.hc, .int .i64 u.bits]) (by simp [results, Tryz.results133, go_sem, q0, q1, q2, q3, q4]) rfl ⟨u, rfl, unhide HU, ?_, ?_⟩
  · exact SpAt.put5 (hup.mono (by omega)) q0 q1 q2 q3 q4 _ _ _ _ _
  · exact set5 hB (Nat.le_refl _) _ _ _ _ _
end Go.Proofs.YtgmnknmjainababGreat

namespace Go.Proofs.YtgmnknmjainababGreat
set_option linter.unusedVariables false
set_option linter.unusedSimpArgs false
set_option linter.unnecessarySimpa false
open Go.RowKit
attribute [local go_sem ↓] Go.wp_at_zero Go.wp_at_succ

theorem downZ_nat (x : Int) (b : Nat) : downZ x (b : Int) = x / Q b := by unfold downZ; rw [if_pos (by omega)]; simp
theorem mul_iv (w : World) (s t : Sp) (k b : Nat) (a c : Int × Int) (hs : SpAt w s k a.1 a.2) (ht : SpAt w t k c.1 c.2) (hk : k ≤ 300000000) (hb : s.bits = (b : Int)) (hbm : b ≤ 1000000) :
    Calls Tryz.prog 162 #[.agg #[.bool s.ln, .slice s.la s.lN s.lc, .bool s.hn, .slice s.ha s.hN s.hc, .int .i64 s.bits], .agg #[.bool t.ln, .slice t.la t.lN t.lc, .bool t.hn, .slice t.ha t.hN t.hc, .int .i64 t.bits]] w (SpanAns w b (k + k + 8) (mulI b a c).1 (mulI b a c).2) :=
  (wideMul_int w s t k a.1 a.2 c.1 c.2 hs ht hk (by omega) (by omega)).mono fun r w' h => by
    rw [hb, downZ_nat, downZ_nat] at h; exact h
theorem add_iv (w : World) (s t : Sp) (k b : Nat) (a c : Int × Int) (hs : SpAt w s k a.1 a.2) (ht : SpAt w t k c.1 c.2) (hk : k ≤ 700000000) (hb : s.bits = (b : Int)) :
    Calls Tryz.prog 113 #[.agg #[.bool s.ln, .slice s.la s.lN s.lc, .bool s.hn, .slice s.ha s.hN s.hc, .int .i64 s.bits], .agg #[.bool t.ln, .slice t.la t.lN t.lc, .bool t.hn, .slice t.ha t.hN t.hc, .int .i64 t.bits]] w (SpanAns w b (k + 1) (addI a c).1 (addI a c).2) :=
  (wideAdd_int w s t k a.1 a.2 c.1 c.2 hs ht hk).mono fun r w' h => by rw [hb] at h; exact h
theorem over_iv (w : World) (s : Sp) (k b : Nat) (d : Int) (a : Int × Int) (hs : SpAt w s k a.1 a.2) (hk : k ≤ 300000000) (hb : s.bits = (b : Int)) (hd : 0 < d) (hd2 : d ≤ 9223372036854775807) :
    Calls Tryz.prog 98 #[.agg #[.bool s.ln, .slice s.la s.lN s.lc, .bool s.hn, .slice s.ha s.hN s.hc, .int .i64 s.bits], .int .i64 d] w (SpanAns w b (k + 14) (scaleI a 1 d).1 (scaleI a 1 d).2) :=
  (over1_int w s k d a.1 a.2 hs hk hd hd2).mono fun r w' h => by rw [hb] at h; exact h
set_option maxRecDepth 100000 in
set_option maxHeartbeats 2000000 in
theorem exp1_iv (w : World) (B0 : Nat) (s u : Sp) (k b : Nat) (n : Int) (a c : Int × Int) (hs : SpAt w s k a.1 a.2) (hu : SpAt w u k c.1 c.2) (hU : SpC w B0 u) (hk : k ≤ 100000000) (hb : s.bits = (b : Int)) (hbm : b ≤ 1000000) (hn : 0 < n) (hn2 : n ≤ 9223372036854775807) :
    Calls Tryz.prog 183 #[.agg #[.bool s.ln, .slice s.la s.lN s.lc, .bool s.hn, .slice s.ha s.hN s.hc, .int .i64 s.bits], .int .i64 n, .pointer (some ⟨B0, 0, none⟩)] w (SpanAns w b (k + k + 22) (scaleI (mulI b a c) 1 n).1 (scaleI (mulI b a c) 1 n).2) := by
  obtain ⟨W, hW⟩ : ∃ W, W = (w.alloc (.cells #[.bool s.ln, .slice s.la s.lN s.lc, .bool s.hn, .slice s.ha s.hN s.hc, .int .i64 s.bits] 28)).alloc (.cells #[.bool false, .slice none 0 0, .bool false, .slice none 0 0, .int .i64 0] 28) := ⟨_, rfl⟩
  have hBW : Below w.heap.size w W := by rw [hW]; exact bl2 _ _ _
  have A : SpC W w.heap.size s := by rw [hW]; exact ⟨by simp [go_sem], by simp [go_sem], by simp [go_sem], by simp [go_sem], by simp [go_sem]⟩
  have R : NoC W (w.heap.size + 1) := by rw [hW]; exact ⟨by simp [go_sem], by simp [go_sem], by simp [go_sem], by simp [go_sem], by simp [go_sem], fun o => by simp [go_sem]⟩
  have HS := hide (hs.below hBW)
  have HU := hide (hu.below hBW)
  have l0 := hU.lt
  obtain ⟨y0, y1, y2, y3, y4⟩ := hU
  have HB := hide hb
  clear hs hu hb A
  go_enter Tryz.func183, Tryz.ntmps183
  go_wp2_with fail
  rw [← hW]
  clear hW
  refine (mul_iv _ s u k b a c (unhide HS) (unhide HU) (by omega) (unhide HB) hbm).mono ?_
  rintro r' w1 ⟨v, rfl, hvb, hvp, hb1⟩
  have HV := hide hvb
  clear hvb y0 y1 y2 y3 y4
  replace R := R.below hb1
  replace hBW := bthen hBW hb1
  go_wp2_with fail
  refine (over_iv _ v _ b n _ hvp (by omega) (unhide HV) hn hn2).mono ?_
  rintro r' w2 ⟨t, rfl, htb, htp, hb2⟩
  obtain ⟨q0, q1, q2, q3, q4, q5⟩ := R.below hb2
  replace hBW := bthen hBW hb2
  have HT := hide htb
  clear htb
  go_wp2_with fail
  refine bodyPost_ret (v := .agg #[.bool t.ln, .slice t.la t.lN t.lc, .bool t.hn, .slice t.ha t.hN t.hc, .int .i64 t.bits]) (by simp [results, Tryz.results183, go_sem, q0, q1, q2, q3, q4]) rfl ⟨t, rfl, unhide HT, ?_, ?_⟩
  · exact SpAt.put5 (htp.mono (by omega)) q0 q1 q2 q3 q4 _ _ _ _ _
  · exact set5 hBW (Nat.le_succ _) _ _ _ _ _
end Go.Proofs.YtgmnknmjainababGreat

namespace Go.Proofs.YtgmnknmjainababGreat
set_option linter.unusedVariables false
set_option linter.unusedSimpArgs false
set_option linter.unnecessarySimpa false
open Go.RowKit
attribute [local go_sem ↓] Go.wp_at_zero Go.wp_at_succ

/-- A span in a block that may be written. -/
structure VrC (w : World) (B : Nat) (s : Sp) : Prop where
  c : SpC w B s
  fz : ∀ o, w.frozen? ⟨B, o, none⟩ = false
theorem VrC.lt {w : World} {B : Nat} {s : Sp} (h : VrC w B s) : B < w.heap.size := h.c.lt
theorem VrC.below {w w' : World} {B : Nat} {s : Sp} (h : VrC w B s) (hb : Below w.heap.size w w') : VrC w' B s :=
  ⟨h.c.below hb, fun o => (hb.frozen (p := ⟨B, o, none⟩) h.lt).trans (h.fz o)⟩
abbrev put5w (w : World) (B : Nat) (u : Sp) : World := ((((w.setCell ⟨B, 0, none⟩ (.bool u.ln)).setCell ⟨B, 1, none⟩ (.slice u.la u.lN u.lc)).setCell ⟨B, 2, none⟩ (.bool u.hn)).setCell ⟨B, 3, none⟩ (.slice u.ha u.hN u.hc)).setCell ⟨B, 4, none⟩ (.int .i64 u.bits)
theorem fz_put5 {w : World} {B B' : Nat} (h : ∀ o, w.frozen? ⟨B, o, none⟩ = false) (u : Sp) : ∀ o, (put5w w B' u).frozen? ⟨B, o, none⟩ = false := fun o => by
  show (put5w w B' u).frozen? ⟨B, o, none⟩ = false
  unfold put5w
  rw [frozen_set', frozen_set', frozen_set', frozen_set', frozen_set']; exact h o
/-- Written, it holds what was written. -/
theorem VrC.put {w : World} {B : Nat} {s : Sp} (h : VrC w B s) (u : Sp) : VrC (put5w w B u) B u := by
  refine ⟨?_, fz_put5 h.fz u⟩
  obtain ⟨⟨q0, q1, q2, q3, q4⟩, q5⟩ := h
  constructor <;> simp [go_sem, q0, q1, q2, q3, q4]
theorem SpC.off {w : World} {B B' : Nat} {s : Sp} (h : SpC w B s) (hne : B ≠ B') (u : Sp) : SpC (put5w w B' u) B s := h.put hne _ _ _ _ _
theorem VrC.off {w : World} {B B' : Nat} {s : Sp} (h : VrC w B s) (hne : B ≠ B') (u : Sp) : VrC (put5w w B' u) B s := ⟨h.c.off hne u, fz_put5 h.fz u⟩
theorem NoC.off {w : World} {B B' : Nat} (h : NoC w B) (hne : B ≠ B') (u : Sp) : NoC (put5w w B' u) B := by
  obtain ⟨q0, q1, q2, q3, q4, q5⟩ := h
  exact ⟨cell_put5 q0 hne _ _ _ _ _, cell_put5 q1 hne _ _ _ _ _, cell_put5 q2 hne _ _ _ _ _, cell_put5 q3 hne _ _ _ _ _, cell_put5 q4 hne _ _ _ _ _, fz_put5 q5 u⟩
theorem SpAt.put {w : World} {s : Sp} {k : Nat} {lo hi : Int} (h : SpAt w s k lo hi) {B : Nat} {z : Sp} (hB : SpC w B z) (u : Sp) : SpAt (put5w w B u) s k lo hi := SpAt.put5 h hB.c0 hB.c1 hB.c2 hB.c3 hB.c4 _ _ _ _ _
theorem IntAt.put {w : World} {neg : Bool} {a : Option Addr} {n cap k : Nat} {z : Int} (h : IntAt w neg a n cap k z) {B : Nat} {y : Sp} (hB : SpC w B y) (u : Sp) : IntAt (put5w w B u) neg a n cap k z := IntAt.put5 h hB.c0 hB.c1 hB.c2 hB.c3 hB.c4 _ _ _ _ _
theorem below_put {B B' : Nat} {a w : World} (h : Below B a w) (hB : B ≤ B') (u : Sp) : Below B a (put5w w B' u) := set5 h hB _ _ _ _ _
theorem size_put (w : World) (B : Nat) (u : Sp) : (put5w w B u).heap.size = w.heap.size := by simp [put5w, World.setCell]

/-- Two variables of spans, made behind world W. -/
def TwoS (W wx : World) (s t : Sp) (p q : Value) : Prop :=
  ∃ B B', p = .pointer (some ⟨B, 0, none⟩) ∧ q = .pointer (some ⟨B', 0, none⟩) ∧ W.heap.size ≤ B ∧ W.heap.size ≤ B' ∧ B ≠ B' ∧ VrC wx B s ∧ VrC wx B' t ∧ Below W.heap.size W wx
theorem twoS_a (V : World) (s t : Sp) (T : TypeId) : TwoS V ((V.alloc (.cells #[.bool s.ln, .slice s.la s.lN s.lc, .bool s.hn, .slice s.ha s.hN s.hc, .int .i64 s.bits] T)).alloc (.cells #[.bool t.ln, .slice t.la t.lN t.lc, .bool t.hn, .slice t.ha t.hN t.hc, .int .i64 t.bits] T)).drew s t (.pointer (some ⟨V.heap.size, 0, none⟩)) (.pointer (some ⟨V.heap.size + 1, 0, none⟩)) := by
  refine ⟨_, _, rfl, rfl, Nat.le_refl _, Nat.le_succ _, Nat.ne_of_lt (Nat.lt_succ_self _), VrC.below (w := (V.alloc (.cells #[.bool s.ln, .slice s.la s.lN s.lc, .bool s.hn, .slice s.ha s.hN s.hc, .int .i64 s.bits] T)).alloc (.cells #[.bool t.ln, .slice t.la t.lN t.lc, .bool t.hn, .slice t.ha t.hN t.hc, .int .i64 t.bits] T)) ⟨⟨by simp [go_sem], by simp [go_sem], by simp [go_sem], by simp [go_sem], by simp [go_sem]⟩, fun o => by simp [go_sem]⟩ (Below.refl _ _).drew, VrC.below (w := (V.alloc (.cells #[.bool s.ln, .slice s.la s.lN s.lc, .bool s.hn, .slice s.ha s.hN s.hc, .int .i64 s.bits] T)).alloc (.cells #[.bool t.ln, .slice t.la t.lN t.lc, .bool t.hn, .slice t.ha t.hN t.hc, .int .i64 t.bits] T)) ⟨⟨by simp [go_sem], by simp [go_sem], by simp [go_sem], by simp [go_sem], by simp [go_sem]⟩, fun o => by simp [go_sem]⟩ (Below.refl _ _).drew, (bl2 _ _ _).drew⟩
theorem twoS_b (V : World) (s t : Sp) (T : TypeId) : TwoS V ((V.alloc (.cells #[.bool t.ln, .slice t.la t.lN t.lc, .bool t.hn, .slice t.ha t.hN t.hc, .int .i64 t.bits] T)).alloc (.cells #[.bool s.ln, .slice s.la s.lN s.lc, .bool s.hn, .slice s.ha s.hN s.hc, .int .i64 s.bits] T)).drew s t (.pointer (some ⟨V.heap.size + 1, 0, none⟩)) (.pointer (some ⟨V.heap.size, 0, none⟩)) := by
  obtain ⟨B, B', h1, h2, h3, h4, h5, h6, h7, h8⟩ := twoS_a V t s T
  exact ⟨B', B, h2, h1, h4, h3, fun e => h5 e.symm, h7, h6, h8⟩
/-- Where wide.sum is behind some rounds. -/
structure SumSt (W wr : World) (B5 B6 b K : Nat) (s X Y : Sp) (f : Nat → Int × Int) (i : Nat) : Prop where
  x : VrC wr B5 X
  y : VrC wr B6 Y
  xp : SpAt wr X K (sumI f i).1 (sumI f i).2
  yp : SpAt wr Y K (f i).1 (f i).2
  xb : X.bits = (b : Int)
  yb : Y.bits = (b : Int)
  fs : SpC wr W.heap.size s
  no : NoC wr (W.heap.size + 1)
  be : Below W.heap.size W wr
  l5 : W.heap.size + 1 < B5
  l6 : W.heap.size + 1 < B6
  ne : B5 ≠ B6
theorem SumSt.below {W wr wr' : World} {B5 B6 b K : Nat} {s X Y : Sp} {f : Nat → Int × Int} {i : Nat} (h : SumSt W wr B5 B6 b K s X Y f i) (hb : Below wr.heap.size wr wr') : SumSt W wr' B5 B6 b K s X Y f i :=
  ⟨h.x.below hb, h.y.below hb, h.xp.below hb, h.yp.below hb, h.xb, h.yb, h.fs.below hb, h.no.below hb, bthen h.be hb, h.l5, h.l6, h.ne⟩

set_option maxRecDepth 100000 in
set_option maxHeartbeats 4000000 in
theorem sum_exp (p1 : Value) (f : Nat → Int × Int) (N b K KF : Nat) (s : Sp) (W : World) (hs : SpAt W s K (f 0).1 (f 0).2) (hbits : s.bits = (b : Int)) (hb : b ≤ 1000000) (hK : K ≤ 100000000) (hKF : KF ≤ 900000000) (hN : IsStop f N) (hNb : N ≤ 1000000000)
    (hle : ∀ n, (f n).1 ≤ (f n).2) (hfit : ∀ n, n ≤ N → -P K < (f n).1 ∧ (f n).2 < P K) (hfitS : ∀ n, n ≤ N → -P K < (sumI f n).1 ∧ (sumI f n).2 < P K)
    (hF : ∀ (n : Nat) (u : Sp) w', n < N → u.bits = (b : Int) → SpAt w' u K (f n).1 (f n).2 → Below W.heap.size W w' → Calls Tryz.prog 183 #[.agg #[.bool u.ln, .slice u.la u.lN u.lc, .bool u.hn, .slice u.ha u.hN u.hc, .int .i64 u.bits], .int .i64 ((n : Int) + 1), p1] w' (SpanAns w' b KF (f (n + 1)).1 (f (n + 1)).2)) :
    Calls Tryz.prog 182 #[.agg #[.bool s.ln, .slice s.la s.lN s.lc, .bool s.hn, .slice s.ha s.hN s.hc, .int .i64 s.bits], .func (.func 183) #[] #[p1]] W (SpanAns W b (K + 3) (doneI f N).1 (doneI f N).2) := by
  have HF := hide hF
  have HN := hide hN
  have HBT := hide hbits
  clear hF hN hbits
  obtain ⟨V, hV⟩ : ∃ V, V = (W.alloc (.cells #[.bool s.ln, .slice s.la s.lN s.lc, .bool s.hn, .slice s.ha s.hN s.hc, .int .i64 s.bits] 28)).alloc (.cells #[.bool false, .slice none 0 0, .bool false, .slice none 0 0, .int .i64 0] 28) := ⟨_, rfl⟩
  have hBV : Below W.heap.size W V := by rw [hV]; exact bl2 _ _ _
  have A : SpC V W.heap.size s := by rw [hV]; exact ⟨by simp [go_sem], by simp [go_sem], by simp [go_sem], by simp [go_sem], by simp [go_sem]⟩
  have R : NoC V (W.heap.size + 1) := by rw [hV]; exact ⟨by simp [go_sem], by simp [go_sem], by simp [go_sem], by simp [go_sem], by simp [go_sem], fun o => by simp [go_sem]⟩
  have HS := hide (hs.below hBV)
  have lA := A.lt
  have lR := R.lt
  clear hs
  go_enter Tryz.func182, Tryz.ntmps182
  go_wp2
  rw [← hV]
  clear hV
  go_cut [5, 6] (fun p q wx => TwoS V wx s s p q)
  case first =>
    obtain ⟨x0, x1, x2, x3, x4⟩ := A
    go_region
    all_goals
      go_wp2_with fail
      go_meet
      first
        | with_reducible exact twoS_a _ _ _ _
        | with_reducible exact twoS_b _ _ _ _
  case rest =>
  obtain ⟨B5, B6, rfl, rfl, l5, l6, hne, X, Y, hB⟩ := hcut
  have n5 : W.heap.size + 1 < B5 := by omega
  have n6 : W.heap.size + 1 < B6 := by omega
  have st0 : SumSt W wc B5 B6 b K s s s f 0 := ⟨X, Y, (unhide HS).below hB, (unhide HS).below hB, unhide HBT, unhide HBT, A.below hB, R.below hB, bthen hBV hB, n5, n6, hne⟩
  clear X Y hB A R HS l5 l6 n5 n6 hne hBV lA lR
  go_wp2_with fail
  go_loopw [7] (fun nn wr => ∃ (i : Nat) (X Y : Sp), nn = .int .i64 ((i : Int) + 1) ∧ i ≤ N ∧ SumSt W wr B5 B6 b K s X Y f i) (fun nn _ => N + 1 - (intOf nn).toNat)
  case atStart => exact ⟨0, s, s, rfl, Nat.zero_le _, st0⟩
  case round =>
    obtain ⟨i, X, Y, rfl, hi, st⟩ := hrel
    have hr0 := reach_pair (hle i)
    obtain ⟨⟨y0, y1, y2, y3, y4⟩, y5⟩ := st.y
    go_wp2_with fail
    refine (reach_int _ Y K _ _ st.yp (by omega)).mono ?_
    rintro r w1 ⟨neg1, a1, n1, c1, rfl, hint1, hb1⟩
    replace st := st.below hb1
    clear hb1 y0 y1 y2 y3 y4 y5
    go_wp2_with fail
    refine (len_int _ _ _ _ _ (reachI (f i)) _ hint1 hr0).mono ?_
    rintro r w2 ⟨l, hlen, rfl, hb2⟩
    replace st := st.below hb2
    clear hb2 hint1
    by_cases hin : i < N
    · have hl : 1 < l := by
        refine Int.not_le.1 fun hl => ?_
        have := len_one hlen hl hr0
        have := (unhide HN).2 i hin
        omega
      clear hlen
      obtain ⟨⟨y0, y1, y2, y3, y4⟩, y5⟩ := st.y
      go_wp2_with fail
      refine (unhide HF i Y _ hin st.yb st.yp st.be).mono ?_
      rintro r w3 ⟨u, rfl, hub, hup, hb3⟩
      replace st := st.below hb3
      replace hup := hup.fits (K := K) (hle _) (hfit _ (by omega)).1 (hfit _ (by omega)).2
      have HU := hide hub
      clear hb3 y0 y1 y2 y3 y4 y5 hub
      obtain ⟨V3, hV3⟩ : ∃ V3, V3 = put5w w3 B6 u := ⟨_, rfl⟩
      have X3 : VrC V3 B5 X := by rw [hV3]; exact st.x.off st.ne u
      have Y3 : VrC V3 B6 u := by rw [hV3]; exact st.y.put u
      have P3 : SpAt V3 X K (sumI f i).1 (sumI f i).2 := by rw [hV3]; exact st.xp.put st.y.c u
      have U3 : SpAt V3 u K (f (i + 1)).1 (f (i + 1)).2 := by rw [hV3]; exact hup.put st.y.c u
      have F3 : SpC V3 W.heap.size s := by rw [hV3]; exact st.fs.off (by have := st.l6; omega) u
      have R3 : NoC V3 (W.heap.size + 1) := by rw [hV3]; exact st.no.off (by have := st.l6; omega) u
      have B3 : Below W.heap.size W V3 := by rw [hV3]; exact below_put st.be (by have := st.l6; omega) u
      have xb := hide st.xb
      have l5 := st.l5
      have l6 := st.l6
      have hne := st.ne
      have lY := st.y.lt
      have lX := st.x.lt
      obtain ⟨⟨y0, y1, y2, y3, y4⟩, y5⟩ := st.y
      obtain ⟨⟨x0, x1, x2, x3, x4⟩, x5⟩ := st.x
      clear st hup
      go_wp2_with fail
      have hV3' : V3 = put5w w3 B6 u := hV3
      unfold put5w at hV3'
      rw [← hV3']
      clear hV3' y0 y1 y2 y3 y4 y5 x0 x1 x2 x3 x4 x5
      have lX3 : B5 < V3.heap.size := X3.lt
      refine (add_iv _ X u K b (sumI f i) (f (i + 1)) P3 U3 (by omega) (unhide xb)).mono ?_
      rintro r w4 ⟨v, rfl, hvb, hvp, hb4⟩
      have X4 := X3.below hb4
      have Y4 := Y3.below hb4
      have U4 := U3.below hb4
      have F4 := F3.below hb4
      have R4 := R3.below hb4
      have B4 := bthen B3 hb4
      have e : addI (sumI f i) (f (i + 1)) = sumI f (i + 1) := rfl
      rw [e] at hvp
      replace hvp := hvp.fits (K := K) (sum_le hle _) (hfitS _ (by omega)).1 (hfitS _ (by omega)).2
      have HV := hide hvb
      clear hb4 hvb X3 Y3 P3 U3 F3 R3 B3 hV3
      have stn : SumSt W (put5w w4 B5 v) B5 B6 b K s v u f (i + 1) := ⟨X4.put v, Y4.off (Ne.symm hne) v, hvp.put X4.c v, U4.put X4.c v, unhide HV, unhide HU, F4.off (by omega) v, R4.off (by omega) v, below_put B4 (by omega) v, l5, l6, hne⟩
      unfold put5w at stn
      obtain ⟨⟨x0, x1, x2, x3, x4⟩, x5⟩ := X4
      go_wp2_with fail
      go_roundw
      case rel => exact ⟨i + 1, v, u, by go_num, by omega, stn⟩
      case measure => simp [intOf]; omega
    · have hie : i = N := by omega
      subst hie
      have hl : ¬ 1 < l := by
        have h1 := (unhide HN).1
        intro hl
        obtain ⟨g1, g2, g3⟩ := hlen
        by_cases hp : 0 < reachI (f i)
        · obtain ⟨L, e1, e2, e3⟩ := g3 hp
          have : 1 ≤ L := by omega
          have := Q_mono this
          have : Q 1 = 2 := rfl
          omega
        · have := g2 (by omega); omega
      clear hlen
      obtain ⟨⟨y0, y1, y2, y3, y4⟩, y5⟩ := st.y
      go_wp2_with fail
      refine (reach_int _ Y K _ _ st.yp (by omega)).mono ?_
      rintro r w3 ⟨neg3, a3, n3, c3, rfl, hint3, hb3⟩
      replace st := st.below hb3
      clear hb3 y0 y1 y2 y3 y4 y5
      obtain ⟨V3, hV3⟩ : ∃ V3, V3 = w3.alloc (.cells #[.bool neg3, .slice a3 n3 c3] 26) := ⟨_, rfl⟩
      have bV : Below w3.heap.size w3 V3 := by rw [hV3]; exact bl1 _ _
      have L3 : NmC V3 w3.heap.size ⟨neg3, a3, n3, c3⟩ := by rw [hV3]; exact nmc_new w3 ⟨neg3, a3, n3, c3⟩ _
      have st3 := st.below bV
      have HI := hide (hint3.below bV)
      have l5 := st.l5
      have lX := st.x.lt
      have HKr := hide (show ∀ w', Below V3.heap.size V3 w' → (w'.cell? ⟨B5, 0, none⟩ = some (.bool X.ln) ∧ w'.cell? ⟨B5, 1, none⟩ = some (.slice X.la X.lN X.lc) ∧ w'.cell? ⟨B5, 2, none⟩ = some (.bool X.hn) ∧ w'.cell? ⟨B5, 3, none⟩ = some (.slice X.ha X.hN X.hc) ∧ w'.cell? ⟨B5, 4, none⟩ = some (.int .i64 X.bits) ∧ w'.cell? ⟨w3.heap.size, 0, none⟩ = some (.bool neg3) ∧ w'.cell? ⟨w3.heap.size, 1, none⟩ = some (.slice a3 n3 c3) ∧ w'.cell? ⟨W.heap.size, 4, none⟩ = some (.int .i64 s.bits)) from fun w' hB => ⟨(st3.x.c.below hB).c0, (st3.x.c.below hB).c1, (st3.x.c.below hB).c2, (st3.x.c.below hB).c3, (st3.x.c.below hB).c4, (L3.below hB).c0, (L3.below hB).c1, (st3.fs.below hB).c4⟩)
      have lL := L3.lt
      have R3 := st3.no
      have lR3 := R3.lt
      clear st L3 hint3
      go_wp2_with fail
      rw [← hV3]
      clear hV3
      obtain ⟨x0, x1, x2, x3, x4, x5, x6, x7⟩ := unhide HKr _ (Below.refl _ _)
      have hD0 : Below V3.heap.size V3 V3.drew := (Below.refl _ _).drew
      have nR1 : W.heap.size + 1 ≠ B5 := by omega
      have nR2 : W.heap.size + 1 ≠ w3.heap.size := by omega
      have nR3 : W.heap.size + 1 ≠ W.heap.size := by omega
      go_region_held3 (fun w' => w'.cell? ⟨B5, 0, none⟩ = some (.bool X.ln) ∧ w'.cell? ⟨B5, 1, none⟩ = some (.slice X.la X.lN X.lc) ∧ w'.cell? ⟨B5, 2, none⟩ = some (.bool X.hn) ∧ w'.cell? ⟨B5, 3, none⟩ = some (.slice X.ha X.hN X.hc) ∧ w'.cell? ⟨B5, 4, none⟩ = some (.int .i64 X.bits) ∧ w'.cell? ⟨w3.heap.size, 0, none⟩ = some (.bool neg3) ∧ w'.cell? ⟨w3.heap.size, 1, none⟩ = some (.slice a3 n3 c3) ∧ w'.cell? ⟨W.heap.size, 4, none⟩ = some (.int .i64 s.bits)) (first | exact unhide HKr _ (by first | with_reducible exact hD0 | with_reducible exact hD2 | with_reducible exact hD1) | go_keep)
        (first
          | (go_at_call 113; have hq := hD1; refine (add_iv _ X ⟨neg4, a4, n4, c4, neg3, a3, n3, c3, s.bits⟩ (K + 1) b (sumI f i) (-reachI (f i), reachI (f i)) ((st3.xp.below hD1).mono (by omega)) ⟨hint4, (unhide HI).below hD1⟩ (by omega) st3.xb).mono ?_; rintro r' w5 ⟨v, rfl, hvb, hvp, hb5⟩; have hD2 := bthen hD1 hb5; have HV := hide hvb; clear hvb; obtain ⟨q0, q1, q2, q3, q4, q5⟩ := R3.below hD2; obtain ⟨y0, y1, y2, y3, y4, y5, y6, y7⟩ := unhide HKr _ hD2)
          | (go_at_call 103; refine (neg_int _ _ _ _ (K + 1) (reachI (f i)) _ ((unhide HI).below hD0) (by omega)).mono ?_; rintro r' w4 ⟨neg4, a4, n4, c4, rfl, hint4, hb4⟩; have hD1 := bthen hD0 hb4))
      all_goals
        go_wp2_with fail
        refine bodyPost_ret (v := .agg #[.bool v.ln, .slice v.la v.lN v.lc, .bool v.hn, .slice v.ha v.hN v.hc, .int .i64 v.bits]) (by simp [results, Tryz.results182, go_sem, q0, q1, q2, q3, q4]) rfl ⟨v, rfl, unhide HV, ?_, ?_⟩
        · exact SpAt.put5 (hvp.mono (by omega)) q0 q1 q2 q3 q4 _ _ _ _ _
        · exact set5 (bthen st3.be hD2) (Nat.le_succ _) _ _ _ _ _
end Go.Proofs.YtgmnknmjainababGreat
