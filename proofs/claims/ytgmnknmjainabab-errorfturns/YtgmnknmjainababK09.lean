/-
  Sums whose numbers become less; the numbers that make up a power of e, and that what is made has it. Plain arithmetic: no statement of the seat is proved here.
  How far from 0, and how wide, what is made of a power of e is. Plain arithmetic: no statement of the seat is proved here.
  Spans by their ends, as the calls of package wide answer them; the function literal of wide.Exp.
  What wide.sum answers of what the function literal of wide.Exp makes.
  What wide.Exp answers, and that it leaves old memory alone.
  The numbers that make up a logarithm, that what is made has it, and how wide it is. Plain arithmetic: no statement of the seat is proved here.
  What power.Exp answers, and that it leaves old memory alone.
  What power.Exp answers, errors too, and that it leaves old memory alone.
  What wide.Raised answers of a whole number and of how often it is taken, and that it leaves old memory alone.
  What wide.logNear answers, and that it leaves old memory alone.
  The numbers that make up a power of e of a number from 0 to 1, as package tailsureref takes them. Plain arithmetic: no statement of the seat is proved here.
  Roots of a power of e; the logarithm of what is near 1, by its alternating sum. Plain arithmetic: no statement of the seat is proved here.
-/
import Derived.Test.YtgmnknmjainababK08
namespace Go.Proofs.Ytgmnknmjainabab
set_option linter.unusedVariables false
open Ex

theorem Q_step {B s : Nat} (hs : s ≤ B) (n : Nat) : Q (B - s * n) * Q (B - s) ≤ Q (B - s * (n + 1)) * Q B := by
  rw [← Q_add, ← Q_add]
  refine Q_mono ?_
  rw [Nat.mul_add, Nat.mul_one]
  generalize s * n = k
  omega
theorem exists_least {p : Nat → Prop} {K : Nat} (h : p K) : ∃ N, N ≤ K ∧ p N ∧ ∀ n, n < N → ¬ p n := by
  induction K using Nat.strongRecOn with
  | ind K ih =>
    by_cases hk : ∃ m, m < K ∧ p m
    · obtain ⟨m, hm, hp⟩ := hk
      obtain ⟨N, h1, h2⟩ := ih m hm hp
      exact ⟨N, by omega, h2⟩
    · exact ⟨K, Nat.le_refl _, h, fun n hn hp => hk ⟨n, hn, hp⟩⟩
/-- A sum whose numbers become less ends. -/
theorem stop_ex {B s : Nat} {f : Nat → Int × Int} (hs : 1 ≤ s) (h : ∀ n, Abs (f n) (Q (B - s * n))) : ∃ N, N ≤ B / s + 1 ∧ IsStop f N := by
  have h1 : reachI (f (B / s + 1)) ≤ 1 := by
    have := abs_reach (h (B / s + 1))
    have e : B - s * (B / s + 1) = 0 := by
      have := Nat.lt_mul_div_succ B (show 0 < s by omega)
      omega
    rw [e] at this; simp [Q] at this; exact this
  obtain ⟨N, n1, n2, n3⟩ := exists_least (p := fun n => reachI (f n) ≤ 1) h1
  exact ⟨N, n1, n2, fun n hn => by have := n3 n hn; simp at this; omega⟩
theorem half_step {B s N n : Nat} {f : Nat → Int × Int} (hs : 1 ≤ s) (h : ∀ n, Abs (f n) (Q (B - s * n))) (hN : IsStop f N) (hn : n < N) : 2 * Q (B - s * (n + 1)) ≤ Q (B - s * n) := by
  have h1 := hN.2 n hn
  have h2 := abs_reach (h n)
  have h3 : 1 ≤ B - s * n := by
    refine Nat.pos_of_ne_zero fun e => ?_
    rw [e] at h2; simp [Q] at h2; omega
  have e : 2 * Q (B - s * (n + 1)) = Q (B - s * (n + 1) + 1) := rfl
  rw [e]
  refine Q_mono ?_
  rw [Nat.mul_add, Nat.mul_one]
  generalize s * n = k at *
  omega
theorem sum_abs2 {B s N : Nat} {f : Nat → Int × Int} (hs : 1 ≤ s) (h : ∀ n, Abs (f n) (Q (B - s * n))) (hN : IsStop f N) (n : Nat) (hn : n ≤ N) : Abs (sumI f n) (2 * Q B - Q (B - s * n)) := by
  induction n with
  | zero => simp only [sumI]; exact (h 0).mono (by simp; omega)
  | succ n ih =>
    have h1 := (ih (by omega)).add (h (n + 1))
    have h2 := half_step hs h hN (show n < N by omega)
    simp only [sumI]
    exact h1.mono (by omega)
theorem sum_abs1 {B s N : Nat} {f : Nat → Int × Int} (hs : 1 ≤ s) (h : ∀ n, Abs (f n) (Q (B - s * n))) (hN : IsStop f N) (n : Nat) (hn : n + 1 ≤ N) : Abs (sumI f (n + 1)) (Q B + 2 * Q (B - s) - Q (B - s * (n + 1))) := by
  induction n with
  | zero =>
    simp only [sumI]
    have := (h 0).add (h 1)
    refine this.mono ?_
    simp; omega
  | succ n ih =>
    have h1 := (ih (by omega)).add (h (n + 1 + 1))
    have h2 := half_step hs h hN (show n + 1 < N by omega)
    have e : sumI f (n + 1 + 1) = addI (sumI f (n + 1)) (f (n + 1 + 1)) := rfl
    rw [e]
    exact h1.mono (by omega)
theorem reach_pair {a : Int × Int} (h : a.1 ≤ a.2) : 0 ≤ reachI a := (reach_abs h).nonneg
theorem done_abs2 {B s N : Nat} {f : Nat → Int × Int} (hs : 1 ≤ s) (hle : ∀ n, (f n).1 ≤ (f n).2) (h : ∀ n, Abs (f n) (Q (B - s * n))) (hN : IsStop f N) : Abs (doneI f N) (2 * Q B) := by
  have h1 := sum_abs2 hs h hN N (Nat.le_refl _)
  have h2 : Abs (-reachI (f N), reachI (f N)) (Q (B - s * N)) := by
    have := abs_reach (h N)
    have := reach_pair (hle N)
    exact ⟨by simp; omega, by simp; omega, by simp; omega, by simp; omega⟩
  exact (h1.add h2).mono (by omega)
theorem done_abs1 {B s N : Nat} {f : Nat → Int × Int} (hs : 1 ≤ s) (hle : ∀ n, (f n).1 ≤ (f n).2) (h : ∀ n, Abs (f n) (Q (B - s * n))) (hN : IsStop f N) (h1N : 1 ≤ N) : Abs (doneI f N) (Q B + 2 * Q (B - s)) := by
  obtain ⟨n, rfl⟩ : ∃ n, N = n + 1 := ⟨N - 1, by omega⟩
  have h1 := sum_abs1 hs h hN n (Nat.le_refl _)
  have h2 : Abs (-reachI (f (n + 1)), reachI (f (n + 1))) (Q (B - s * (n + 1))) := by
    have := abs_reach (h (n + 1))
    have := reach_pair (hle (n + 1))
    exact ⟨by simp; omega, by simp; omega, by simp; omega, by simp; omega⟩
  exact (h1.add h2).mono (by omega)
theorem sum_le {f : Nat → Int × Int} (hle : ∀ n, (f n).1 ≤ (f n).2) (n : Nat) : (sumI f n).1 ≤ (sumI f n).2 := by
  induction n with
  | zero => exact hle 0
  | succ n ih => simp only [sumI, addI]; have := hle (n + 1); omega
theorem done_le {f : Nat → Int × Int} (hle : ∀ n, (f n).1 ≤ (f n).2) (n : Nat) : (doneI f n).1 ≤ (doneI f n).2 := by
  have h1 := sum_le hle n
  have h2 := reach_pair (hle n)
  simp only [doneI, addI]; omega
theorem sum_wide {f : Nat → Int × Int} {W : Int} (hw : ∀ n, (f n).2 - (f n).1 ≤ W) (n : Nat) : (sumI f n).2 - (sumI f n).1 ≤ ((n : Int) + 1) * W := by
  induction n with
  | zero => simp only [sumI]; have := hw 0; simp; omega
  | succ n ih =>
    simp only [sumI, addI]
    have := hw (n + 1)
    have e : (((n + 1 : Nat) : Int) + 1) * W = ((n : Int) + 1) * W + W := by
      have : (((n + 1 : Nat) : Int) + 1) = ((n : Int) + 1) + 1 := by omega
      rw [this, Int.add_mul, Int.one_mul]
    omega
theorem done_wide {f : Nat → Int × Int} {W : Int} {N : Nat} (hw : ∀ n, (f n).2 - (f n).1 ≤ W) (hN : IsStop f N) : (doneI f N).2 - (doneI f N).1 ≤ ((N : Int) + 1) * W + 2 := by
  have h1 := sum_wide hw N
  have h2 := hN.1
  simp only [doneI, addI]; omega

/-- What is left out is no farther from 0 than the last one. -/
theorem S_rest {g : Nat → Rat} {N : Nat} {b : Rat} (hb : AB (g N) b) (hh : ∀ n c, N ≤ n → AB (g n) c → AB (g (n + 1)) (c / 2)) (i : Nat) : AB (g (N + i)) (b * q2 i) ∧ AB (S g (N + 1 + i) - S g (N + 1)) (b * (1 - q2 i)) := by
  induction i with
  | zero => simp only [Nat.add_zero, q2]; exact ⟨hb.mono (by grind), by constructor <;> grind⟩
  | succ i ih =>
    obtain ⟨h1, h2⟩ := ih
    have h3 := hh (N + i) _ (by omega) h1
    have e1 : q2 (i + 1) = q2 i / 2 := rfl
    have e2 : S g (N + 1 + (i + 1)) = S g (N + 1 + i) + g (N + 1 + i) := rfl
    have e3 : N + 1 + i = N + (i + 1) := by omega
    refine ⟨h3.mono (by rw [e1]; grind), ?_⟩
    rw [e2, e1]
    have h4 := h2.add h3
    rw [show N + i + 1 = N + 1 + i by omega] at h4
    have e4 : S g (N + 1 + i) - S g (N + 1) + g (N + 1 + i) = S g (N + 1 + i) + g (N + 1 + i) - S g (N + 1) := by grind
    rw [e4] at h4
    exact h4.mono (by grind)
theorem done_has {B N : Nat} {f : Nat → Int × Int} {g : Nat → Nat → Rat} (hle : ∀ n, (f n).1 ≤ (f n).2) (h : ∀ n, n ≤ N → Iv B (f n) (fun M => g n M)) (M0 : Nat) (hh : ∀ M, M0 ≤ M → ∀ n b, N ≤ n → AB (g n M) b → AB (g (n + 1) M) (b / 2)) : Iv B (doneI f N) (fun M => S (fun k => g k M) M) := by
  have h1 : ∀ n, n ≤ N → Iv B (sumI f n) (fun M => S (fun k => g k M) (n + 1)) := fun n hn => by
    induction n with
    | zero => exact Has.of_eq (h 0 (by omega)) fun M => by simp only [S]; grind
    | succ n ih => exact Has.of_eq ((ih (by omega)).add (h (n + 1) hn)) fun M => by simp only [S]
  have h2 := h1 N (Nat.le_refl _)
  have h3 : Iv B (-reachI (f N), reachI (f N)) (fun M => S (fun k => g k M) M - S (fun k => g k M) (N + 1)) := by
    have hr := reach_abs (hle N)
    have q := Qr_pos B
    have k1 := h N (Nat.le_refl _)
    intro e he
    obtain ⟨N1, k2⟩ := k1 e he
    refine ⟨N1 + M0 + N + 1, fun M hM => ?_⟩
    obtain ⟨a1, a2⟩ := k2 M (by omega)
    have l1 : ((-reachI (f N) : Int) : Rat) / (Q B : Rat) ≤ ((f N).1 : Rat) / (Q B : Rat) := rdiv_le q (by rw [rdm q]; exact cast_le hr.1)
    have l2 : ((f N).2 : Rat) / (Q B : Rat) ≤ ((reachI (f N) : Int) : Rat) / (Q B : Rat) := rdiv_le q (by rw [rdm q]; exact cast_le hr.2.2.2)
    have l3 : ((-reachI (f N) : Int) : Rat) / (Q B : Rat) = -(((reachI (f N) : Int) : Rat) / (Q B : Rat)) := by
      rw [Rat.intCast_neg, Rat.div_def, Rat.div_def, Rat.neg_mul]
    have hb : AB (g N M) (((reachI (f N) : Int) : Rat) / (Q B : Rat) + e) := by constructor <;> grind
    obtain ⟨i, rfl⟩ : ∃ i, M = N + 1 + i := ⟨M - (N + 1), by omega⟩
    have s := (S_rest (g := fun k => g k (N + 1 + i)) hb (fun n c hn hc => hh _ (by omega) n c hn hc) i).2
    have p := q2_pos i
    have nn := hb.nonneg
    have s' := s.mono (b := ((reachI (f N) : Int) : Rat) / (Q B : Rat) + e) (by
      have := Rat.mul_nonneg nn (Rat.le_of_lt p)
      grind)
    obtain ⟨s1, s2⟩ := s'
    simp only []
    rw [l3]
    constructor <;> grind
  exact Has.of_eq (h2.add h3) fun M => by grind

/-- The numbers that make up a power of e. -/
def expT (B : Nat) (sm : Int × Int) : Nat → Int × Int
  | 0 => (Q B, Q B)
  | n + 1 => scaleI (mulI B (expT B sm n) sm) 1 ((n : Int) + 1)
theorem expT_le (B : Nat) (sm : Int × Int) (n : Nat) : (expT B sm n).1 ≤ (expT B sm n).2 := by
  cases n with
  | zero => exact Int.le_refl _
  | succ n => exact scaleI_le (mulI_le B) (by omega) (by omega)
theorem expT_abs {B : Nat} {sm : Int × Int} (hB : 8 ≤ B) (hs : Abs sm (Q (B - 8))) (n : Nat) : Abs (expT B sm n) (Q (B - 8 * n)) := by
  induction n with
  | zero => have := Q_pos B; exact ⟨by simp [expT]; omega, by simp [expT], by simp [expT]; omega, by simp [expT]⟩
  | succ n ih => exact scaleI_abs (mulI_abs ih hs (Q_step hB n)) (by omega) (by omega) (by omega)
theorem Q_eight {B : Nat} (hB : 8 ≤ B) : Q B = 256 * Q (B - 8) := by
  have := Q_add 8 (B - 8)
  rw [show 8 + (B - 8) = B by omega] at this
  rw [this]; rfl
theorem expT_wide {B : Nat} {sm : Int × Int} {ws : Int} (hB : 8 ≤ B) (hs : Abs sm (Q (B - 8))) (hsl : sm.1 ≤ sm.2) (hw : sm.2 - sm.1 ≤ ws) (n : Nat) : (expT B sm n).2 - (expT B sm n).1 ≤ 2 * ws + 4 := by
  induction n with
  | zero => simp only [expT]; omega
  | succ n ih =>
    have q := Q_pos (B - 8)
    have e := Q_eight hB
    have m1 : Q (B - 8 * n) ≤ Q B := Q_mono (by omega)
    have p1 := Int.mul_le_mul m1 hw (by omega) (by omega)
    have p2 := Int.mul_le_mul_of_nonneg_left ih (show 0 ≤ Q (B - 8) by omega)
    have hc : Q (B - 8 * n) * (sm.2 - sm.1) + Q (B - 8) * ((expT B sm n).2 - (expT B sm n).1) ≤ (ws + (2 * ws + 4 + 255) / 256) * Q B := by
      have e2 : (ws + (2 * ws + 4 + 255) / 256) * Q B = Q B * ws + Q (B - 8) * (256 * ((2 * ws + 4 + 255) / 256)) := by
        rw [Int.add_mul, Int.mul_comm ws]; congr 1; rw [e]; grind
      rw [e2]
      have := Int.mul_le_mul_of_nonneg_left (show 2 * ws + 4 ≤ 256 * ((2 * ws + 4 + 255) / 256) by omega) (show 0 ≤ Q (B - 8) by omega)
      omega
    have h1 := mulI_wide (expT_abs hB hs n) hs (expT_le B sm n) hsl hc
    have hn : (0 : Int) < (n : Int) + 1 := by omega
    have hp := Int.mul_nonneg (show 0 ≤ ws + (2 * ws + 4 + 255) / 256 + 1 by omega) (show 0 ≤ (n : Int) by omega)
    have h2 := scaleI_wide (a := mulI B (expT B sm n) sm) (n := 1) (d := (n : Int) + 1) (c := ws + (2 * ws + 4 + 255) / 256 + 1) hn (by
      rw [Int.mul_one, Int.mul_add, Int.mul_one]; omega)
    simp only [expT]
    omega
theorem expT_has {B : Nat} {sm : Int × Int} {x : Nat → Rat} (h : Iv B sm x) (n : Nat) : Iv B (expT B sm n) (fun M => tm (x M) n) := by
  induction n with
  | zero =>
    have q := Qr_pos B
    have e : (Q B : Rat) / (Q B : Rat) = 1 := by rw [Rat.div_def, Rat.mul_inv_cancel _ (by grind)]
    show Has ((Q B : Rat) / (Q B : Rat)) ((Q B : Rat) / (Q B : Rat)) _
    rw [e]
    exact Has.const (c := 1) Rat.le_refl Rat.le_refl
  | succ n ih =>
    have := (ih.mul h).scale (n := 1) (d := (n : Int) + 1) (by omega) (by omega)
    refine Has.of_eq this fun M => ?_
    have e : (((n : Int) + 1 : Int) : Rat) = (n : Rat) + 1 := by rw [Rat.intCast_add]; rfl
    rw [e]
    simp only [tm]
    have hp := pos1 n
    rw [Rat.div_def, Rat.div_def]
    simp
    grind
theorem tm_half {x b : Rat} (hx : AB x (1 / 2)) (n : Nat) (h : AB (tm x n) b) : AB (tm x (n + 1)) (b / 2) := by
  have e := tm_succ x n
  have hp := pos1 n
  have g := hx.mul h
  rw [← e] at g
  have e3 : tm x (n + 1) = ((n : Rat) + 1) * tm x (n + 1) / ((n : Rat) + 1) := by grind
  rw [e3]
  refine rdiv_AB hp (g.mono ?_)
  have hn : (0 : Rat) ≤ (n : Rat) := by exact_mod_cast Nat.zero_le n
  have := Rat.mul_nonneg hn h.nonneg
  grind
theorem Iv.little {B : Nat} {a : Int × Int} {x : Nat → Rat} (h : Iv B a x) {m : Int} (ha : Abs a m) (hm : 4 * m ≤ Q B) : ∃ N, ∀ M, N ≤ M → AB (x M) (1 / 2) := by
  have q := Qr_pos B
  obtain ⟨N, h1⟩ := h (1 / 4) (by grind)
  refine ⟨N, fun M hM => ?_⟩
  have := h1 M hM
  have l1 : -(1 / 4 : Rat) ≤ (a.1 : Rat) / (Q B : Rat) := rle_div q (by
    have : ((-(Q B) : Int) : Rat) ≤ ((4 * a.1 : Int) : Rat) := cast_le (by have := ha.1; omega)
    rw [Rat.intCast_neg, Rat.intCast_mul] at this
    have e4 : ((4 : Int) : Rat) = 4 := rfl
    rw [e4] at this
    grind)
  have l2 : (a.2 : Rat) / (Q B : Rat) ≤ (1 / 4 : Rat) := rdiv_le q (by
    have : ((4 * a.2 : Int) : Rat) ≤ ((Q B : Int) : Rat) := cast_le (by have := ha.2.2.2; omega)
    rw [Rat.intCast_mul] at this
    have e4 : ((4 : Int) : Rat) = 4 := rfl
    rw [e4] at this
    grind)
  constructor <;> grind
/-- The sum is a power of e. -/
theorem expSum_has {B N : Nat} {sm : Int × Int} {x : Nat → Rat} (hB : 8 ≤ B) (h : Iv B sm x) (hs : Abs sm (Q (B - 8))) : Iv B (doneI (expT B sm) N) (Ev x) := by
  obtain ⟨M0, h0⟩ := h.little hs (by have := Q_eight hB; have := Q_pos (B - 8); omega)
  exact done_has (expT_le B sm) (fun n _ => expT_has h n) M0 (fun M hM n b _ hb => tm_half (h0 M hM) n hb)
/-- Squares. -/
def sqv (y : Nat → Rat) : Nat → Nat → Rat
  | 0 => y
  | t + 1 => fun M => sqv y t M * sqv y t M
theorem sqI_has {B : Nat} {a : Int × Int} {y : Nat → Rat} (h : Iv B a y) (t : Nat) : Iv B (sqI B a t) (sqv y t) := by
  induction t with
  | zero => exact h
  | succ t ih => exact ih.mul ih
theorem sqv_null {x : Nat → Rat} (h : Bdd x) (t : Nat) : Null (fun M => sqv (Ev x) t M - Ev (fun M => (Q t : Rat) * x M) M) := by
  have hb : ∀ t, Bdd (fun M => (Q t : Rat) * x M) := fun t => (Bdd.const _).mul h
  induction t with
  | zero =>
    have e : (fun M => (Q 0 : Rat) * x M) = x := funext fun M => by simp [Q]
    rw [e]
    exact null_zero.of_eq fun M => by simp only [sqv]; grind
  | succ t ih =>
    have b1 := Ev_bdd (hb t)
    have b2 : Bdd (sqv (Ev x) t) := b1.of_null (ih.neg.of_eq fun M => by grind)
    have n1 := ih.bmul (b1.add b2)
    have n2 := Ev_add (hb t) (hb t)
    have e : (fun M => (Q t : Rat) * x M + (Q t : Rat) * x M) = fun M => (Q (t + 1) : Rat) * x M := funext fun M => by
      have : (Q (t + 1) : Rat) = 2 * (Q t : Rat) := by
        have : Q (t + 1) = 2 * Q t := rfl
        rw [this, Rat.intCast_mul]; rfl
      rw [this]; grind
    rw [e] at n2
    refine (n1.add n2).of_eq fun M => ?_
    simp only [sqv]
    grind
/-- What wide.Exp makes has the power of e. -/
theorem exp_has {B N t : Nat} {a : Int × Int} {x : Nat → Rat} (hB : 8 ≤ B) (h : Iv B a x) (hs : Abs (downI a t) (Q (B - 8))) : Iv B (sqI B (doneI (expT B (downI a t)) N) t) (Ev x) := by
  have hx := Has.bdd h
  have h1 := sqI_has (expSum_has (N := N) hB (h.down t) hs) t
  have hb : Bdd (fun M => x M / (Q t : Rat)) := Has.bdd (h.down t)
  have n1 := sqv_null hb t
  have q := Qr_pos t
  have e : (fun M => (Q t : Rat) * (x M / (Q t : Rat))) = x := funext fun M => by
    rw [Rat.mul_comm]; exact rdm q
  rw [e] at n1
  exact h1.congr (n1.neg.of_eq fun M => by grind)
end Go.Proofs.Ytgmnknmjainabab

namespace Go.Proofs.Ytgmnknmjainabab
set_option linter.unusedVariables false
open Ex

/-- How many bits more some squares take, at most. -/
def eb (i : Nat) : Nat := if i ≤ 10 then 12 else 12 * 2 ^ (i - 10)
def cI : Nat → Int
  | 0 => 66048
  | i + 1 => cI i * cI i / 65536 + 1
theorem Q_16 {B : Nat} (hB : 16 ≤ B) : Q B = 65536 * Q (B - 16) ∧ Q (B - 8) = 256 * Q (B - 16) := by
  have h1 := Q_add 16 (B - 16)
  have h2 := Q_add 8 (B - 16)
  rw [show 16 + (B - 16) = B by omega] at h1
  rw [show 8 + (B - 16) = B - 8 by omega] at h2
  exact ⟨by rw [h1]; rfl, by rw [h2]; rfl⟩
theorem sq_abs0 {B : Nat} {d : Int × Int} (hB : 16 ≤ B) (h : Abs d (Q B + 2 * Q (B - 8))) (i : Nat) : Abs (sqI B d i) (cI i * Q (B - 16)) := by
  obtain ⟨e1, e2⟩ := Q_16 hB
  induction i with
  | zero => exact h.mono (by simp only [cI]; omega)
  | succ i ih =>
    refine mulI_abs ih ih ?_
    rw [e1]
    have q := Q_pos (B - 16)
    have h1 : cI i * cI i ≤ cI (i + 1) * 65536 := by simp only [cI]; omega
    have h2 := Int.mul_nonneg (show 0 ≤ Q (B - 16) by omega) (show 0 ≤ Q (B - 16) by omega)
    have h3 := Int.mul_le_mul_of_nonneg_right h1 h2
    generalize Q (B - 16) = r at *
    have e3 : cI i * r * (cI i * r) = cI i * cI i * (r * r) := by grind
    have e4 : cI (i + 1) * r * (65536 * r) = cI (i + 1) * 65536 * (r * r) := by grind
    rw [e3, e4]; exact h3
theorem cI_le : ∀ i, i < 11 → cI i ≤ 268435456 := by decide
theorem sq_abs {B : Nat} {d : Int × Int} (hB : 16 ≤ B) (h : Abs d (Q B + 2 * Q (B - 8))) (i : Nat) : Abs (sqI B d i) (Q (B + eb i)) := by
  by_cases hi : i ≤ 10
  · refine (sq_abs0 hB h i).mono ?_
    have e : eb i = 12 := by simp [eb, hi]
    have e2 : Q (B + 12) = 268435456 * Q (B - 16) := by
      have := Q_add 28 (B - 16)
      rw [show 28 + (B - 16) = B + 12 by omega] at this
      rw [this]; rfl
    rw [e, e2]
    exact Int.mul_le_mul_of_nonneg_right (cI_le i (by omega)) (by have := Q_pos (B - 16); omega)
  · obtain ⟨j, rfl⟩ : ∃ j, i = 10 + j := ⟨i - 10, by omega⟩
    clear hi
    have key : Abs (sqI B d (10 + j)) (Q (B + 12 * 2 ^ j)) := by
      induction j with
      | zero =>
        refine (sq_abs0 hB h 10).mono ?_
        have e2 : Q (B + 12 * 2 ^ 0) = 268435456 * Q (B - 16) := by
          have := Q_add 28 (B - 16)
          rw [show 28 + (B - 16) = B + 12 * 2 ^ 0 by omega] at this
          rw [this]; rfl
        rw [e2]
        exact Int.mul_le_mul_of_nonneg_right (cI_le 10 (by omega)) (by have := Q_pos (B - 16); omega)
      | succ j ih =>
        refine mulI_abs ih ih ?_
        rw [← Q_add, ← Q_add]
        refine Q_mono ?_
        rw [Nat.pow_succ]; omega
    by_cases hj : j = 0
    · subst hj; exact key
    · have : eb (10 + j) = 12 * 2 ^ j := by
        unfold eb; rw [if_neg (by omega)]; congr 2; omega
      rw [this]; exact key
/-- How many bits wider. -/
def wb : Nat → Nat
  | 0 => 0
  | i + 1 => wb i + eb i + 2
theorem sq_wide {B : Nat} {d : Int × Int} (hB : 16 ≤ B) (h : Abs d (Q B + 2 * Q (B - 8))) (hd : d.1 ≤ d.2) (i : Nat) : (sqI B d i).1 ≤ (sqI B d i).2 ∧ (sqI B d i).2 - (sqI B d i).1 + 1 ≤ (d.2 - d.1 + 1) * Q (wb i) := by
  induction i with
  | zero => simp only [sqI, wb, Q]; omega
  | succ i ih =>
    obtain ⟨h1, h2⟩ := ih
    refine ⟨mulI_le B, ?_⟩
    have ha := sq_abs hB h i
    obtain ⟨W, hW⟩ : ∃ W, W = (sqI B d i).2 - (sqI B d i).1 := ⟨_, rfl⟩
    rw [← hW] at h2
    have h3 := mulI_wide (B := B) (c := 2 * Q (eb i) * W) ha ha h1 h1 (by
      rw [← hW, Q_add]
      generalize Q B = q
      generalize Q (eb i) = r
      have : q * r * W + q * r * W = 2 * r * W * q := by grind
      omega)
    have e : Q (wb (i + 1)) = Q (wb i) * (4 * Q (eb i)) := by
      have : wb (i + 1) = wb i + (eb i + 2) := by simp only [wb]; omega
      rw [this, Q_add]
      congr 1
      have := Q_add (eb i) 2
      rw [this, Int.mul_comm]; rfl
    rw [e]
    have q1 := Q_pos (eb i)
    have p := Int.mul_le_mul_of_nonneg_right h2 (show 0 ≤ 4 * Q (eb i) by omega)
    rw [← Int.mul_assoc]
    refine Int.le_trans ?_ p
    have w0 : 0 ≤ W := by omega
    have p2 := Int.mul_nonneg w0 (show 0 ≤ Q (eb i) by omega)
    show (mulI B (sqI B d i) (sqI B d i)).2 - (mulI B (sqI B d i) (sqI B d i)).1 + 1 ≤ _
    have e5 : (W + 1) * (4 * Q (eb i)) = 4 * (W * Q (eb i)) + 4 * Q (eb i) := by grind
    have e6 : 2 * Q (eb i) * W = 2 * (W * Q (eb i)) := by grind
    rw [e5]; rw [e6] at h3
    omega
theorem eb_mono {i j : Nat} (h : i ≤ j) : eb i ≤ eb j := by
  unfold eb
  split
  · split
    · omega
    · have := Nat.pow_le_pow_right (show 0 < 2 by omega) (show 0 ≤ j - 10 by omega); simp at this; omega
  · split
    · omega
    · have := Nat.pow_le_pow_right (show 0 < 2 by omega) (show i - 10 ≤ j - 10 by omega); omega
theorem wb_mono {i j : Nat} (h : i ≤ j) : wb i ≤ wb j := by
  obtain ⟨d, rfl⟩ : ∃ d, j = i + d := ⟨j - i, by omega⟩
  clear h
  induction d with
  | zero => exact Nat.le_refl _
  | succ d ih => show wb i ≤ wb (i + d) + eb (i + d) + 2; omega
/-- What wide.Exp makes: how far from 0, how wide. -/
theorem exp_bound {B N t : Nat} {a : Int × Int} {ws : Int} (hB : 16 ≤ B) (hs : Abs (downI a t) (Q (B - 8))) (ha : a.1 ≤ a.2) (hw : a.2 - a.1 ≤ ws * Q t) (hN : IsStop (expT B (downI a t)) N) :
    (sqI B (doneI (expT B (downI a t)) N) t).1 ≤ (sqI B (doneI (expT B (downI a t)) N) t).2 ∧ Abs (sqI B (doneI (expT B (downI a t)) N) t) (Q (B + eb t)) ∧ N ≤ B / 8 + 1 ∧
    (sqI B (doneI (expT B (downI a t)) N) t).2 - (sqI B (doneI (expT B (downI a t)) N) t).1 ≤ (((N : Int) + 1) * (2 * ws + 6) + 3) * Q (wb t) := by
  have q := Q_pos t
  have hsl : (downI a t).1 ≤ (downI a t).2 := by
    have := scaleI_le (a := a) (n := 1) (d := Q t) ha (by omega) (by omega)
    simpa [scaleI, downI] using this
  have hsw : (downI a t).2 - (downI a t).1 ≤ ws + 1 := div_wide (by omega) hw
  have hT := expT_abs (by omega) hs
  have h1N : 1 ≤ N := by
    refine Nat.pos_of_ne_zero fun e => ?_
    have := hN.1
    rw [e] at this
    have h2 : reachI (expT B (downI a t) 0) = Q B := by
      show maxZ (Q B) (-Q B) = Q B
      have := Q_pos B
      unfold maxZ; rw [if_neg (by omega)]
    rw [h2] at this
    have := Q_mono hB
    have : Q 16 = 65536 := rfl
    omega
  have hd := done_abs1 (s := 8) (by omega) (expT_le B (downI a t)) hT hN h1N
  have hdl := done_le (expT_le B (downI a t)) N
  have hdw := done_wide (expT_wide (by omega) hs hsl hsw) hN
  obtain ⟨g1, g2⟩ := sq_wide hB hd hdl t
  have hle : N ≤ B / 8 + 1 := by
    obtain ⟨N', n1, n2⟩ := stop_ex (s := 8) (by omega) hT
    refine Nat.le_trans (Nat.not_lt.1 fun hlt => ?_) n1
    have := hN.2 N' hlt
    have := n2.1
    omega
  refine ⟨g1, sq_abs hB hd t, hle, ?_⟩
  have q2 := Q_pos (wb t)
  have e : 2 * (ws + 1) + 4 = 2 * ws + 6 := by omega
  rw [e] at hdw
  have := Int.mul_le_mul_of_nonneg_right (show (doneI (expT B (downI a t)) N).2 - (doneI (expT B (downI a t)) N).1 + 1 ≤ ((N : Int) + 1) * (2 * ws + 6) + 3 by omega) (show 0 ≤ Q (wb t) by omega)
  omega
end Go.Proofs.Ytgmnknmjainabab

namespace Go.Proofs.Ytgmnknmjainabab
set_option linter.unusedVariables false
set_option linter.unusedSimpArgs false
set_option linter.unnecessarySimpa false
open Go.RowKit
attribute [local go_sem ↓] Go.wp_at_zero Go.wp_at_succ

theorem downZ_nat (x : Int) (b : Nat) : downZ x (b : Int) = x / Q b := by unfold downZ; rw [if_pos (by omega)]; simp
theorem mul_iv (w : World) (s t : Sp) (k b : Nat) (a c : Int × Int) (hs : SpAt w s k a.1 a.2) (ht : SpAt w t k c.1 c.2) (hk : k ≤ 300000000) (hb : s.bits = (b : Int)) (hbm : b ≤ 1000000) :
    Calls Try.prog 68 #[.agg #[.bool s.ln, .slice s.la s.lN s.lc, .bool s.hn, .slice s.ha s.hN s.hc, .int .i64 s.bits], .agg #[.bool t.ln, .slice t.la t.lN t.lc, .bool t.hn, .slice t.ha t.hN t.hc, .int .i64 t.bits]] w (SpanAns w b (k + k + 8) (mulI b a c).1 (mulI b a c).2) :=
  (wideMul_int w s t k a.1 a.2 c.1 c.2 hs ht hk (by omega) (by omega)).mono fun r w' h => by
    rw [hb, downZ_nat, downZ_nat] at h; exact h
theorem add_iv (w : World) (s t : Sp) (k b : Nat) (a c : Int × Int) (hs : SpAt w s k a.1 a.2) (ht : SpAt w t k c.1 c.2) (hk : k ≤ 700000000) (hb : s.bits = (b : Int)) :
    Calls Try.prog 56 #[.agg #[.bool s.ln, .slice s.la s.lN s.lc, .bool s.hn, .slice s.ha s.hN s.hc, .int .i64 s.bits], .agg #[.bool t.ln, .slice t.la t.lN t.lc, .bool t.hn, .slice t.ha t.hN t.hc, .int .i64 t.bits]] w (SpanAns w b (k + 1) (addI a c).1 (addI a c).2) :=
  (wideAdd_int w s t k a.1 a.2 c.1 c.2 hs ht hk).mono fun r w' h => by rw [hb] at h; exact h
theorem sub_iv (w : World) (s t : Sp) (k b : Nat) (a c : Int × Int) (hs : SpAt w s k a.1 a.2) (ht : SpAt w t k c.1 c.2) (hk : k ≤ 600000000) (hb : s.bits = (b : Int)) :
    Calls Try.prog 79 #[.agg #[.bool s.ln, .slice s.la s.lN s.lc, .bool s.hn, .slice s.ha s.hN s.hc, .int .i64 s.bits], .agg #[.bool t.ln, .slice t.la t.lN t.lc, .bool t.hn, .slice t.ha t.hN t.hc, .int .i64 t.bits]] w (SpanAns w b (k + 1) (subI a c).1 (subI a c).2) :=
  (wideSub_int w s t k a.1 a.2 c.1 c.2 hs ht hk).mono fun r w' h => by rw [hb] at h; exact h
theorem over_iv (w : World) (s : Sp) (k b : Nat) (d : Int) (a : Int × Int) (hs : SpAt w s k a.1 a.2) (hk : k ≤ 300000000) (hb : s.bits = (b : Int)) (hd : 0 < d) (hd2 : d ≤ 9223372036854775807) :
    Calls Try.prog 161 #[.agg #[.bool s.ln, .slice s.la s.lN s.lc, .bool s.hn, .slice s.ha s.hN s.hc, .int .i64 s.bits], .int .i64 d] w (SpanAns w b (k + 14) (scaleI a 1 d).1 (scaleI a 1 d).2) :=
  (over1_int w s k d a.1 a.2 hs hk hd hd2).mono fun r w' h => by rw [hb] at h; exact h
theorem times_iv (w : World) (s : Sp) (k b : Nat) (d : Int) (a : Int × Int) (hs : SpAt w s k a.1 a.2) (hk : k ≤ 300000000) (hb : s.bits = (b : Int)) (hd : -9223372036854775808 ≤ d) (hd2 : d ≤ 9223372036854775807) :
    Calls Try.prog 136 #[.agg #[.bool s.ln, .slice s.la s.lN s.lc, .bool s.hn, .slice s.ha s.hN s.hc, .int .i64 s.bits], .int .i64 d] w (SpanAns w b (k + 4) (timesI a d).1 (timesI a d).2) :=
  (times_int w s k d a.1 a.2 hs hk hd hd2).mono fun r w' h => by rw [hb] at h; exact h

set_option maxRecDepth 100000 in
set_option maxHeartbeats 2000000 in
theorem exp1_iv (w : World) (B0 : Nat) (s u : Sp) (k b : Nat) (n : Int) (a c : Int × Int) (hs : SpAt w s k a.1 a.2) (hu : SpAt w u k c.1 c.2) (hU : SpC w B0 u) (hk : k ≤ 100000000) (hb : s.bits = (b : Int)) (hbm : b ≤ 1000000) (hn : 0 < n) (hn2 : n ≤ 9223372036854775807) :
    Calls Try.prog 160 #[.agg #[.bool s.ln, .slice s.la s.lN s.lc, .bool s.hn, .slice s.ha s.hN s.hc, .int .i64 s.bits], .int .i64 n, .pointer (some ⟨B0, 0, none⟩)] w (SpanAns w b (k + k + 22) (scaleI (mulI b a c) 1 n).1 (scaleI (mulI b a c) 1 n).2) := by
  obtain ⟨W, hW⟩ : ∃ W, W = (w.alloc (.cells #[.bool s.ln, .slice s.la s.lN s.lc, .bool s.hn, .slice s.ha s.hN s.hc, .int .i64 s.bits] 28)).alloc (.cells #[.bool false, .slice none 0 0, .bool false, .slice none 0 0, .int .i64 0] 28) := ⟨_, rfl⟩
  have hBW : Below w.heap.size w W := by rw [hW]; exact bl2 _ _ _
  have A : SpC W w.heap.size s := by rw [hW]; exact ⟨by simp [go_sem], by simp [go_sem], by simp [go_sem], by simp [go_sem], by simp [go_sem]⟩
  have R : NoC W (w.heap.size + 1) := by rw [hW]; exact ⟨by simp [go_sem], by simp [go_sem], by simp [go_sem], by simp [go_sem], by simp [go_sem], fun o => by simp [go_sem]⟩
  have HS := hide (hs.below hBW)
  have HU := hide (hu.below hBW)
  have l0 := hU.lt
  obtain ⟨y0, y1, y2, y3, y4⟩ := hU
  have HB := hide hb
  clear hs hu hb A
  go_enter Try.func160, Try.ntmps160
  go_wp2_with fail
  rw [← hW]
  clear hW
  refine (mul_iv _ s u k b a c (unhide HS) (unhide HU) (by omega) (unhide HB) hbm).mono ?_
  rintro r' w1 ⟨v, rfl, hvb, hvp, hb1⟩
  have HV := hide hvb
  clear hvb y0 y1 y2 y3 y4
  replace R := R.below hb1
  replace hBW := bthen hBW hb1
  go_wp2_with fail
  refine (over_iv _ v _ b n _ hvp (by omega) (unhide HV) hn hn2).mono ?_
  rintro r' w2 ⟨t, rfl, htb, htp, hb2⟩
  obtain ⟨q0, q1, q2, q3, q4, q5⟩ := R.below hb2
  replace hBW := bthen hBW hb2
  have HT := hide htb
  clear htb
  go_wp2_with fail
  refine bodyPost_ret (v := .agg #[.bool t.ln, .slice t.la t.lN t.lc, .bool t.hn, .slice t.ha t.hN t.hc, .int .i64 t.bits]) (by simp [results, Try.results160, go_sem, q0, q1, q2, q3, q4]) rfl ⟨t, rfl, unhide HT, ?_, ?_⟩
  · exact SpAt.put5 (htp.mono (by omega)) q0 q1 q2 q3 q4 _ _ _ _ _
  · exact set5 hBW (Nat.le_succ _) _ _ _ _ _
end Go.Proofs.Ytgmnknmjainabab

namespace Go.Proofs.Ytgmnknmjainabab
set_option linter.unusedVariables false
set_option linter.unusedSimpArgs false
set_option linter.unnecessarySimpa false
open Go.RowKit
attribute [local go_sem ↓] Go.wp_at_zero Go.wp_at_succ

/-- A span in a block that may be written. -/
structure VrC (w : World) (B : Nat) (s : Sp) : Prop where
  c : SpC w B s
  fz : ∀ o, w.frozen? ⟨B, o, none⟩ = false
theorem VrC.lt {w : World} {B : Nat} {s : Sp} (h : VrC w B s) : B < w.heap.size := h.c.lt
theorem VrC.below {w w' : World} {B : Nat} {s : Sp} (h : VrC w B s) (hb : Below w.heap.size w w') : VrC w' B s :=
  ⟨h.c.below hb, fun o => (hb.frozen (p := ⟨B, o, none⟩) h.lt).trans (h.fz o)⟩
abbrev put5w (w : World) (B : Nat) (u : Sp) : World := ((((w.setCell ⟨B, 0, none⟩ (.bool u.ln)).setCell ⟨B, 1, none⟩ (.slice u.la u.lN u.lc)).setCell ⟨B, 2, none⟩ (.bool u.hn)).setCell ⟨B, 3, none⟩ (.slice u.ha u.hN u.hc)).setCell ⟨B, 4, none⟩ (.int .i64 u.bits)
theorem fz_put5 {w : World} {B B' : Nat} (h : ∀ o, w.frozen? ⟨B, o, none⟩ = false) (u : Sp) : ∀ o, (put5w w B' u).frozen? ⟨B, o, none⟩ = false := fun o => by
  show (put5w w B' u).frozen? ⟨B, o, none⟩ = false
  unfold put5w
  rw [frozen_set', frozen_set', frozen_set', frozen_set', frozen_set']; exact h o
/-- Written, it holds what was written. -/
theorem VrC.put {w : World} {B : Nat} {s : Sp} (h : VrC w B s) (u : Sp) : VrC (put5w w B u) B u := by
  refine ⟨?_, fz_put5 h.fz u⟩
  obtain ⟨⟨q0, q1, q2, q3, q4⟩, q5⟩ := h
  constructor <;> simp [go_sem, q0, q1, q2, q3, q4]
theorem SpC.off {w : World} {B B' : Nat} {s : Sp} (h : SpC w B s) (hne : B ≠ B') (u : Sp) : SpC (put5w w B' u) B s := h.put hne _ _ _ _ _
theorem VrC.off {w : World} {B B' : Nat} {s : Sp} (h : VrC w B s) (hne : B ≠ B') (u : Sp) : VrC (put5w w B' u) B s := ⟨h.c.off hne u, fz_put5 h.fz u⟩
theorem NoC.off {w : World} {B B' : Nat} (h : NoC w B) (hne : B ≠ B') (u : Sp) : NoC (put5w w B' u) B := by
  obtain ⟨q0, q1, q2, q3, q4, q5⟩ := h
  exact ⟨cell_put5 q0 hne _ _ _ _ _, cell_put5 q1 hne _ _ _ _ _, cell_put5 q2 hne _ _ _ _ _, cell_put5 q3 hne _ _ _ _ _, cell_put5 q4 hne _ _ _ _ _, fz_put5 q5 u⟩
theorem SpAt.put {w : World} {s : Sp} {k : Nat} {lo hi : Int} (h : SpAt w s k lo hi) {B : Nat} {z : Sp} (hB : SpC w B z) (u : Sp) : SpAt (put5w w B u) s k lo hi := SpAt.put5 h hB.c0 hB.c1 hB.c2 hB.c3 hB.c4 _ _ _ _ _
theorem IntAt.put {w : World} {neg : Bool} {a : Option Addr} {n cap k : Nat} {z : Int} (h : IntAt w neg a n cap k z) {B : Nat} {y : Sp} (hB : SpC w B y) (u : Sp) : IntAt (put5w w B u) neg a n cap k z := IntAt.put5 h hB.c0 hB.c1 hB.c2 hB.c3 hB.c4 _ _ _ _ _
theorem below_put {B B' : Nat} {a w : World} (h : Below B a w) (hB : B ≤ B') (u : Sp) : Below B a (put5w w B' u) := set5 h hB _ _ _ _ _
/-- Two variables of spans, made behind world W. -/
def TwoS (W wx : World) (s t : Sp) (p q : Value) : Prop :=
  ∃ B B', p = .pointer (some ⟨B, 0, none⟩) ∧ q = .pointer (some ⟨B', 0, none⟩) ∧ W.heap.size ≤ B ∧ W.heap.size ≤ B' ∧ B ≠ B' ∧ VrC wx B s ∧ VrC wx B' t ∧ Below W.heap.size W wx
theorem twoS_a (V : World) (s t : Sp) (T : TypeId) : TwoS V ((V.alloc (.cells #[.bool s.ln, .slice s.la s.lN s.lc, .bool s.hn, .slice s.ha s.hN s.hc, .int .i64 s.bits] T)).alloc (.cells #[.bool t.ln, .slice t.la t.lN t.lc, .bool t.hn, .slice t.ha t.hN t.hc, .int .i64 t.bits] T)).drew s t (.pointer (some ⟨V.heap.size, 0, none⟩)) (.pointer (some ⟨V.heap.size + 1, 0, none⟩)) := by
  refine ⟨_, _, rfl, rfl, Nat.le_refl _, Nat.le_succ _, Nat.ne_of_lt (Nat.lt_succ_self _), VrC.below (w := (V.alloc (.cells #[.bool s.ln, .slice s.la s.lN s.lc, .bool s.hn, .slice s.ha s.hN s.hc, .int .i64 s.bits] T)).alloc (.cells #[.bool t.ln, .slice t.la t.lN t.lc, .bool t.hn, .slice t.ha t.hN t.hc, .int .i64 t.bits] T)) ⟨⟨by simp [go_sem], by simp [go_sem], by simp [go_sem], by simp [go_sem], by simp [go_sem]⟩, fun o => by simp [go_sem]⟩ (Below.refl _ _).drew, VrC.below (w := (V.alloc (.cells #[.bool s.ln, .slice s.la s.lN s.lc, .bool s.hn, .slice s.ha s.hN s.hc, .int .i64 s.bits] T)).alloc (.cells #[.bool t.ln, .slice t.la t.lN t.lc, .bool t.hn, .slice t.ha t.hN t.hc, .int .i64 t.bits] T)) ⟨⟨by simp [go_sem], by simp [go_sem], by simp [go_sem], by simp [go_sem], by simp [go_sem]⟩, fun o => by simp [go_sem]⟩ (Below.refl _ _).drew, (bl2 _ _ _).drew⟩
theorem twoS_b (V : World) (s t : Sp) (T : TypeId) : TwoS V ((V.alloc (.cells #[.bool t.ln, .slice t.la t.lN t.lc, .bool t.hn, .slice t.ha t.hN t.hc, .int .i64 t.bits] T)).alloc (.cells #[.bool s.ln, .slice s.la s.lN s.lc, .bool s.hn, .slice s.ha s.hN s.hc, .int .i64 s.bits] T)).drew s t (.pointer (some ⟨V.heap.size + 1, 0, none⟩)) (.pointer (some ⟨V.heap.size, 0, none⟩)) := by
  obtain ⟨B, B', h1, h2, h3, h4, h5, h6, h7, h8⟩ := twoS_a V t s T
  exact ⟨B', B, h2, h1, h4, h3, fun e => h5 e.symm, h7, h6, h8⟩
/-- Where wide.sum is behind some rounds. -/
structure SumSt (W wr : World) (B5 B6 b K : Nat) (s X Y : Sp) (f : Nat → Int × Int) (i : Nat) : Prop where
  x : VrC wr B5 X
  y : VrC wr B6 Y
  xp : SpAt wr X K (sumI f i).1 (sumI f i).2
  yp : SpAt wr Y K (f i).1 (f i).2
  xb : X.bits = (b : Int)
  yb : Y.bits = (b : Int)
  fs : SpC wr W.heap.size s
  no : NoC wr (W.heap.size + 1)
  be : Below W.heap.size W wr
  l5 : W.heap.size + 1 < B5
  l6 : W.heap.size + 1 < B6
  ne : B5 ≠ B6
theorem SumSt.below {W wr wr' : World} {B5 B6 b K : Nat} {s X Y : Sp} {f : Nat → Int × Int} {i : Nat} (h : SumSt W wr B5 B6 b K s X Y f i) (hb : Below wr.heap.size wr wr') : SumSt W wr' B5 B6 b K s X Y f i :=
  ⟨h.x.below hb, h.y.below hb, h.xp.below hb, h.yp.below hb, h.xb, h.yb, h.fs.below hb, h.no.below hb, bthen h.be hb, h.l5, h.l6, h.ne⟩

set_option maxRecDepth 100000 in
set_option maxHeartbeats 4000000 in
theorem sum_exp (p1 : Value) (f : Nat → Int × Int) (N b K KF : Nat) (s : Sp) (W : World) (hs : SpAt W s K (f 0).1 (f 0).2) (hbits : s.bits = (b : Int)) (hb : b ≤ 1000000) (hK : K ≤ 100000000) (hKF : KF ≤ 900000000) (hN : IsStop f N) (hNb : N ≤ 1000000000)
    (hle : ∀ n, (f n).1 ≤ (f n).2) (hfit : ∀ n, n ≤ N → -P K < (f n).1 ∧ (f n).2 < P K) (hfitS : ∀ n, n ≤ N → -P K < (sumI f n).1 ∧ (sumI f n).2 < P K)
    (hF : ∀ (n : Nat) (u : Sp) w', n < N → u.bits = (b : Int) → SpAt w' u K (f n).1 (f n).2 → Below W.heap.size W w' → Calls Try.prog 160 #[.agg #[.bool u.ln, .slice u.la u.lN u.lc, .bool u.hn, .slice u.ha u.hN u.hc, .int .i64 u.bits], .int .i64 ((n : Int) + 1), p1] w' (SpanAns w' b KF (f (n + 1)).1 (f (n + 1)).2)) :
    Calls Try.prog 159 #[.agg #[.bool s.ln, .slice s.la s.lN s.lc, .bool s.hn, .slice s.ha s.hN s.hc, .int .i64 s.bits], .func (.func 160) #[] #[p1]] W (SpanAns W b (K + 3) (doneI f N).1 (doneI f N).2) := by
  have HF := hide hF
  have HN := hide hN
  have HBT := hide hbits
  clear hF hN hbits
  obtain ⟨V, hV⟩ : ∃ V, V = (W.alloc (.cells #[.bool s.ln, .slice s.la s.lN s.lc, .bool s.hn, .slice s.ha s.hN s.hc, .int .i64 s.bits] 28)).alloc (.cells #[.bool false, .slice none 0 0, .bool false, .slice none 0 0, .int .i64 0] 28) := ⟨_, rfl⟩
  have hBV : Below W.heap.size W V := by rw [hV]; exact bl2 _ _ _
  have A : SpC V W.heap.size s := by rw [hV]; exact ⟨by simp [go_sem], by simp [go_sem], by simp [go_sem], by simp [go_sem], by simp [go_sem]⟩
  have R : NoC V (W.heap.size + 1) := by rw [hV]; exact ⟨by simp [go_sem], by simp [go_sem], by simp [go_sem], by simp [go_sem], by simp [go_sem], fun o => by simp [go_sem]⟩
  have HS := hide (hs.below hBV)
  have lA := A.lt
  have lR := R.lt
  clear hs
  go_enter Try.func159, Try.ntmps159
  go_wp2
  rw [← hV]
  clear hV
  go_cut [5, 6] (fun p q wx => TwoS V wx s s p q)
  case first =>
    obtain ⟨x0, x1, x2, x3, x4⟩ := A
    go_region
    all_goals
      go_wp2_with fail
      go_meet
      first
        | with_reducible exact twoS_a _ _ _ _
        | with_reducible exact twoS_b _ _ _ _
  case rest =>
  obtain ⟨B5, B6, rfl, rfl, l5, l6, hne, X, Y, hB⟩ := hcut
  have n5 : W.heap.size + 1 < B5 := by omega
  have n6 : W.heap.size + 1 < B6 := by omega
  have st0 : SumSt W wc B5 B6 b K s s s f 0 := ⟨X, Y, (unhide HS).below hB, (unhide HS).below hB, unhide HBT, unhide HBT, A.below hB, R.below hB, bthen hBV hB, n5, n6, hne⟩
  clear X Y hB A R HS l5 l6 n5 n6 hne hBV lA lR
  go_wp2_with fail
  go_loopw [7] (fun nn wr => ∃ (i : Nat) (X Y : Sp), nn = .int .i64 ((i : Int) + 1) ∧ i ≤ N ∧ SumSt W wr B5 B6 b K s X Y f i) (fun nn _ => N + 1 - (intOf nn).toNat)
  case atStart => exact ⟨0, s, s, rfl, Nat.zero_le _, st0⟩
  case round =>
    obtain ⟨i, X, Y, rfl, hi, st⟩ := hrel
    have hr0 := reach_pair (hle i)
    obtain ⟨⟨y0, y1, y2, y3, y4⟩, y5⟩ := st.y
    go_wp2_with fail
    refine (reach_int _ Y K _ _ st.yp (by omega)).mono ?_
    rintro r w1 ⟨neg1, a1, n1, c1, rfl, hint1, hb1⟩
    replace st := st.below hb1
    clear hb1 y0 y1 y2 y3 y4 y5
    go_wp2_with fail
    refine (len_int _ _ _ _ _ (reachI (f i)) _ hint1 hr0).mono ?_
    rintro r w2 ⟨l, hlen, rfl, hb2⟩
    replace st := st.below hb2
    clear hb2 hint1
    by_cases hin : i < N
    · have hl : 1 < l := by
        refine Int.not_le.1 fun hl => ?_
        have := len_one hlen hl hr0
        have := (unhide HN).2 i hin
        omega
      clear hlen
      obtain ⟨⟨y0, y1, y2, y3, y4⟩, y5⟩ := st.y
      go_wp2_with fail
      refine (unhide HF i Y _ hin st.yb st.yp st.be).mono ?_
      rintro r w3 ⟨u, rfl, hub, hup, hb3⟩
      replace st := st.below hb3
      replace hup := hup.fits (K := K) (hle _) (hfit _ (by omega)).1 (hfit _ (by omega)).2
      have HU := hide hub
      clear hb3 y0 y1 y2 y3 y4 y5 hub
      obtain ⟨V3, hV3⟩ : ∃ V3, V3 = put5w w3 B6 u := ⟨_, rfl⟩
      have X3 : VrC V3 B5 X := by rw [hV3]; exact st.x.off st.ne u
      have Y3 : VrC V3 B6 u := by rw [hV3]; exact st.y.put u
      have P3 : SpAt V3 X K (sumI f i).1 (sumI f i).2 := by rw [hV3]; exact st.xp.put st.y.c u
      have U3 : SpAt V3 u K (f (i + 1)).1 (f (i + 1)).2 := by rw [hV3]; exact hup.put st.y.c u
      have F3 : SpC V3 W.heap.size s := by rw [hV3]; exact st.fs.off (by have := st.l6; omega) u
      have R3 : NoC V3 (W.heap.size + 1) := by rw [hV3]; exact st.no.off (by have := st.l6; omega) u
      have B3 : Below W.heap.size W V3 := by rw [hV3]; exact below_put st.be (by have := st.l6; omega) u
      have xb := hide st.xb
      have l5 := st.l5
      have l6 := st.l6
      have hne := st.ne
      have lY := st.y.lt
      have lX := st.x.lt
      obtain ⟨⟨y0, y1, y2, y3, y4⟩, y5⟩ := st.y
      obtain ⟨⟨x0, x1, x2, x3, x4⟩, x5⟩ := st.x
      clear st hup
      go_wp2_with fail
      have hV3' : V3 = put5w w3 B6 u := hV3
      unfold put5w at hV3'
      rw [← hV3']
      clear hV3' y0 y1 y2 y3 y4 y5 x0 x1 x2 x3 x4 x5
      have lX3 : B5 < V3.heap.size := X3.lt
      refine (add_iv _ X u K b (sumI f i) (f (i + 1)) P3 U3 (by omega) (unhide xb)).mono ?_
      rintro r w4 ⟨v, rfl, hvb, hvp, hb4⟩
      have X4 := X3.below hb4
      have Y4 := Y3.below hb4
      have U4 := U3.below hb4
      have F4 := F3.below hb4
      have R4 := R3.below hb4
      have B4 := bthen B3 hb4
      have e : addI (sumI f i) (f (i + 1)) = sumI f (i + 1) := rfl
      rw [e] at hvp
      replace hvp := hvp.fits (K := K) (sum_le hle _) (hfitS _ (by omega)).1 (hfitS _ (by omega)).2
      have HV := hide hvb
      clear hb4 hvb X3 Y3 P3 U3 F3 R3 B3 hV3
      have stn : SumSt W (put5w w4 B5 v) B5 B6 b K s v u f (i + 1) := ⟨X4.put v, Y4.off (Ne.symm hne) v, hvp.put X4.c v, U4.put X4.c v, unhide HV, unhide HU, F4.off (by omega) v, R4.off (by omega) v, below_put B4 (by omega) v, l5, l6, hne⟩
      unfold put5w at stn
      obtain ⟨⟨x0, x1, x2, x3, x4⟩, x5⟩ := X4
      go_wp2_with fail
      go_roundw
      case rel => exact ⟨i + 1, v, u, by go_num, by omega, stn⟩
      case measure => simp [intOf]; omega
    · have hie : i = N := by omega
      subst hie
      have hl : ¬ 1 < l := by
        have h1 := (unhide HN).1
        intro hl
        obtain ⟨g1, g2, g3⟩ := hlen
        by_cases hp : 0 < reachI (f i)
        · obtain ⟨L, e1, e2, e3⟩ := g3 hp
          have : 1 ≤ L := by omega
          have := Q_mono this
          have : Q 1 = 2 := rfl
          omega
        · have := g2 (by omega); omega
      clear hlen
      obtain ⟨⟨y0, y1, y2, y3, y4⟩, y5⟩ := st.y
      go_wp2_with fail
      refine (reach_int _ Y K _ _ st.yp (by omega)).mono ?_
      rintro r w3 ⟨neg3, a3, n3, c3, rfl, hint3, hb3⟩
      replace st := st.below hb3
      clear hb3 y0 y1 y2 y3 y4 y5
      obtain ⟨V3, hV3⟩ : ∃ V3, V3 = w3.alloc (.cells #[.bool neg3, .slice a3 n3 c3] 26) := ⟨_, rfl⟩
      have bV : Below w3.heap.size w3 V3 := by rw [hV3]; exact bl1 _ _
      have L3 : NmC V3 w3.heap.size ⟨neg3, a3, n3, c3⟩ := by rw [hV3]; exact nmc_new w3 ⟨neg3, a3, n3, c3⟩ _
      have st3 := st.below bV
      have HI := hide (hint3.below bV)
      have l5 := st.l5
      have lX := st.x.lt
      have HKr := hide (show ∀ w', Below V3.heap.size V3 w' → (w'.cell? ⟨B5, 0, none⟩ = some (.bool X.ln) ∧ w'.cell? ⟨B5, 1, none⟩ = some (.slice X.la X.lN X.lc) ∧ w'.cell? ⟨B5, 2, none⟩ = some (.bool X.hn) ∧ w'.cell? ⟨B5, 3, none⟩ = some (.slice X.ha X.hN X.hc) ∧ w'.cell? ⟨B5, 4, none⟩ = some (.int .i64 X.bits) ∧ w'.cell? ⟨w3.heap.size, 0, none⟩ = some (.bool neg3) ∧ w'.cell? ⟨w3.heap.size, 1, none⟩ = some (.slice a3 n3 c3) ∧ w'.cell? ⟨W.heap.size, 4, none⟩ = some (.int .i64 s.bits)) from fun w' hB => ⟨(st3.x.c.below hB).c0, (st3.x.c.below hB).c1, (st3.x.c.below hB).c2, (st3.x.c.below hB).c3, (st3.x.c.below hB).c4, (L3.below hB).c0, (L3.below hB).c1, (st3.fs.below hB).c4⟩)
      have lL := L3.lt
      have R3 := st3.no
      have lR3 := R3.lt
      clear st L3 hint3
      go_wp2_with fail
      rw [← hV3]
      clear hV3
      obtain ⟨x0, x1, x2, x3, x4, x5, x6, x7⟩ := unhide HKr _ (Below.refl _ _)
      have hD0 : Below V3.heap.size V3 V3.drew := (Below.refl _ _).drew
      have nR1 : W.heap.size + 1 ≠ B5 := by omega
      have nR2 : W.heap.size + 1 ≠ w3.heap.size := by omega
      have nR3 : W.heap.size + 1 ≠ W.heap.size := by omega
      go_region_held3 (fun w' => w'.cell? ⟨B5, 0, none⟩ = some (.bool X.ln) ∧ w'.cell? ⟨B5, 1, none⟩ = some (.slice X.la X.lN X.lc) ∧ w'.cell? ⟨B5, 2, none⟩ = some (.bool X.hn) ∧ w'.cell? ⟨B5, 3, none⟩ = some (.slice X.ha X.hN X.hc) ∧ w'.cell? ⟨B5, 4, none⟩ = some (.int .i64 X.bits) ∧ w'.cell? ⟨w3.heap.size, 0, none⟩ = some (.bool neg3) ∧ w'.cell? ⟨w3.heap.size, 1, none⟩ = some (.slice a3 n3 c3) ∧ w'.cell? ⟨W.heap.size, 4, none⟩ = some (.int .i64 s.bits)) (first | exact unhide HKr _ (by first | with_reducible exact hD0 | with_reducible exact hD2 | with_reducible exact hD1) | go_keep)
        (first
          | (go_at_call 56; have hq := hD1; refine (add_iv _ X ⟨neg4, a4, n4, c4, neg3, a3, n3, c3, s.bits⟩ (K + 1) b (sumI f i) (-reachI (f i), reachI (f i)) ((st3.xp.below hD1).mono (by omega)) ⟨hint4, (unhide HI).below hD1⟩ (by omega) st3.xb).mono ?_; rintro r' w5 ⟨v, rfl, hvb, hvp, hb5⟩; have hD2 := bthen hD1 hb5; have HV := hide hvb; clear hvb; obtain ⟨q0, q1, q2, q3, q4, q5⟩ := R3.below hD2; obtain ⟨y0, y1, y2, y3, y4, y5, y6, y7⟩ := unhide HKr _ hD2)
          | (go_at_call 83; refine (neg_int _ _ _ _ (K + 1) (reachI (f i)) _ ((unhide HI).below hD0) (by omega)).mono ?_; rintro r' w4 ⟨neg4, a4, n4, c4, rfl, hint4, hb4⟩; have hD1 := bthen hD0 hb4))
      all_goals
        go_wp2_with fail
        refine bodyPost_ret (v := .agg #[.bool v.ln, .slice v.la v.lN v.lc, .bool v.hn, .slice v.ha v.hN v.hc, .int .i64 v.bits]) (by simp [results, Try.results159, go_sem, q0, q1, q2, q3, q4]) rfl ⟨v, rfl, unhide HV, ?_, ?_⟩
        · exact SpAt.put5 (hvp.mono (by omega)) q0 q1 q2 q3 q4 _ _ _ _ _
        · exact set5 (bthen st3.be hD2) (Nat.le_succ _) _ _ _ _ _
end Go.Proofs.Ytgmnknmjainabab

namespace Go.Proofs.Ytgmnknmjainabab
set_option linter.unusedVariables false
set_option linter.unusedSimpArgs false
set_option linter.unnecessarySimpa false
open Go.RowKit
attribute [local go_sem ↓] Go.wp_at_zero Go.wp_at_succ

theorem len_uniq {z l l' : Int} (h : LenIs z l) (h' : LenIs z l') (hz : 0 ≤ z) : l = l' := by
  obtain ⟨a1, a2, a3⟩ := h
  obtain ⟨b1, b2, b3⟩ := h'
  by_cases hp : 0 < z
  · obtain ⟨L, e1, e2, e3⟩ := a3 hp
    obtain ⟨L', f1, f2, f3⟩ := b3 hp
    have : L = L' := by
      rcases Nat.lt_trichotomy L L' with h | h | h
      · have := Q_mono (show L + 1 ≤ L' by omega); omega
      · exact h
      · have := Q_mono (show L' + 1 ≤ L by omega); omega
    omega
  · have := a2 (by omega); have := b2 (by omega); omega
theorem exp_one {b N : Nat} {sm : Int × Int} (hb : 16 ≤ b) (hN : IsStop (expT b sm) N) : 1 ≤ N := by
  refine Nat.pos_of_ne_zero fun e => ?_
  have := hN.1
  rw [e] at this
  have h2 : reachI (expT b sm 0) = Q b := by
    show maxZ (Q b) (-Q b) = Q b
    have := Q_pos b
    unfold maxZ; rw [if_neg (by omega)]
  rw [h2] at this
  have := Q_mono hb
  have : Q 16 = 65536 := rfl
  omega
theorem exp_times {z l l' bt : Int} {b t : Nat} (h' : LenIs z l') (h : LenIs z l) (ht : (t : Int) = max 0 (l - b + 8)) (hb : bt = (b : Int)) (hbm : b ≤ 1000000) (ht2 : t ≤ 1000000) (hz : 0 ≤ z) :
    (if 0 < IntKind.i64.wrap (IntKind.i64.wrap (l' - bt) + 8) then IntKind.i64.wrap (IntKind.i64.wrap (l' - bt) + 8) else 0) = (t : Int) := by
  have e := len_uniq h' h hz
  have l0 := h.1
  have l1 : l ≤ 3000000 := by omega
  subst e
  rw [hb, i64_id (l' - b) (by omega) (by omega), i64_id (l' - b + 8) (by omega) (by omega)]
  split <;> omega

set_option maxRecDepth 100000 in
set_option maxHeartbeats 4000000 in
theorem wideExp_iv (w : World) (s : Sp) (K b t N : Nat) (a : Int × Int) (l : Int) (hs : SpAt w s K a.1 a.2) (hbits : s.bits = (b : Int)) (hle : a.1 ≤ a.2) (hb16 : 16 ≤ b) (hb : b ≤ 1000000) (hl : LenIs (reachI a) l) (ht : (t : Int) = max 0 (l - b + 8)) (ht2 : t ≤ 1000000)
    (hsm : Abs (downI a t) (Q (b - 8))) (hN : IsStop (expT b (downI a t)) N) (hK : Q (b + eb t) < P K) (hK2 : K ≤ 10000000) :
    Calls Try.prog 131 #[.agg #[.bool s.ln, .slice s.la s.lN s.lc, .bool s.hn, .slice s.ha s.hN s.hc, .int .i64 s.bits]] w (SpanAns w b K (sqI b (doneI (expT b (downI a t)) N) t).1 (sqI b (doneI (expT b (downI a t)) N) t).2) := by
  obtain ⟨W, hW⟩ : ∃ W, W = (w.alloc (.cells #[.bool s.ln, .slice s.la s.lN s.lc, .bool s.hn, .slice s.ha s.hN s.hc, .int .i64 s.bits] 28)).alloc (.cells #[.bool false, .slice none 0 0, .bool false, .slice none 0 0, .int .i64 0] 28) := ⟨_, rfl⟩
  have hBW : Below w.heap.size w W := by rw [hW]; exact bl2 _ _ _
  have A : SpC W w.heap.size s := by rw [hW]; exact ⟨by simp [go_sem], by simp [go_sem], by simp [go_sem], by simp [go_sem], by simp [go_sem]⟩
  have R : NoC W (w.heap.size + 1) := by rw [hW]; exact ⟨by simp [go_sem], by simp [go_sem], by simp [go_sem], by simp [go_sem], by simp [go_sem], fun o => by simp [go_sem]⟩
  have HS := hide (hs.below hBW)
  have lA := A.lt
  have lR := R.lt
  have HB := hide hbits
  have HT := hide ht
  have hr0 := reach_pair hle
  have HK := hide (show ∀ w', Below W.heap.size W w' → (w'.cell? ⟨w.heap.size, 0, none⟩ = some (.bool s.ln) ∧ w'.cell? ⟨w.heap.size, 1, none⟩ = some (.slice s.la s.lN s.lc) ∧ w'.cell? ⟨w.heap.size, 2, none⟩ = some (.bool s.hn) ∧ w'.cell? ⟨w.heap.size, 3, none⟩ = some (.slice s.ha s.hN s.hc) ∧ w'.cell? ⟨w.heap.size, 4, none⟩ = some (.int .i64 s.bits)) from fun w' hB => ⟨(A.below hB).c0, (A.below hB).c1, (A.below hB).c2, (A.below hB).c3, (A.below hB).c4⟩)
  clear hs hbits ht
  go_enter Try.func131, Try.ntmps131
  go_wp2
  rw [← hW]
  clear hW
  obtain ⟨x0, x1, x2, x3, x4⟩ := unhide HK _ (Below.refl _ _)
  have hD0 : Below W.heap.size W W.drew := (Below.refl _ _).drew
  go_cut [3] (fun p wx => p = .int .i64 (t : Int) ∧ Below W.heap.size W wx)
  case first =>
    go_region_held3 (fun w' => w'.cell? ⟨w.heap.size, 0, none⟩ = some (.bool s.ln) ∧ w'.cell? ⟨w.heap.size, 1, none⟩ = some (.slice s.la s.lN s.lc) ∧ w'.cell? ⟨w.heap.size, 2, none⟩ = some (.bool s.hn) ∧ w'.cell? ⟨w.heap.size, 3, none⟩ = some (.slice s.ha s.hN s.hc) ∧ w'.cell? ⟨w.heap.size, 4, none⟩ = some (.int .i64 s.bits)) (first | exact unhide HK _ (by first | with_reducible exact hD0 | with_reducible exact hD2 | with_reducible exact hD1) | go_keep)
      (first
        | (go_at_call 97; have hq := hD1; refine (len_int _ _ _ _ _ (reachI a) _ hint1 hr0).mono ?_; rintro r' w2 ⟨l', hlen, rfl, hb2⟩; have hD2 := bthen hD1 hb2)
        | (go_at_call 154; refine (reach_int _ s K _ _ ((unhide HS).below hD0) (by omega)).mono ?_; rintro r' w1 ⟨neg1, a1, n1, c1, rfl, hint1, hb1⟩; have hD1 := bthen hD0 hb1))
    all_goals go_wp2_with fail
    all_goals
      go_meet
      refine ⟨congrArg _ ?_, hD2⟩
      have e := exp_times hlen hl (unhide HT) (unhide HB) hb ht2 hr0
      split at e <;> omega
  case rest =>
  obtain ⟨rfl, hb0⟩ := hcut
  replace A := A.below hb0
  replace R := R.below hb0
  replace hBW := bthen hBW hb0
  replace HS := hide ((unhide HS).below hb0)
  have lA := A.lt
  have lR := R.lt
  have HK := hide (show ∀ w', Below wc.heap.size wc w' → (w'.cell? ⟨w.heap.size, 0, none⟩ = some (.bool s.ln) ∧ w'.cell? ⟨w.heap.size, 1, none⟩ = some (.slice s.la s.lN s.lc) ∧ w'.cell? ⟨w.heap.size, 2, none⟩ = some (.bool s.hn) ∧ w'.cell? ⟨w.heap.size, 3, none⟩ = some (.slice s.ha s.hN s.hc) ∧ w'.cell? ⟨w.heap.size, 4, none⟩ = some (.int .i64 s.bits)) from fun w' hB => ⟨(A.below hB).c0, (A.below hB).c1, (A.below hB).c2, (A.below hB).c3, (A.below hB).c4⟩)
  clear x0 x1 x2 x3 x4 hD0 hb0
  obtain ⟨x0, x1, x2, x3, x4⟩ := unhide HK _ (Below.refl _ _)
  go_wp2_with fail
  go_cut [4] (fun p wx => ∃ (B : Nat) (u : Sp), p = .pointer (some ⟨B, 0, none⟩) ∧ wc.heap.size ≤ B ∧ VrC wx B u ∧ SpAt wx u (K + 5) (downI a t).1 (downI a t).2 ∧ u.bits = (b : Int) ∧ Below wc.heap.size wc wx)
  case first =>
    go_region_held3 (fun w' => w'.cell? ⟨w.heap.size, 0, none⟩ = some (.bool s.ln) ∧ w'.cell? ⟨w.heap.size, 1, none⟩ = some (.slice s.la s.lN s.lc) ∧ w'.cell? ⟨w.heap.size, 2, none⟩ = some (.bool s.hn) ∧ w'.cell? ⟨w.heap.size, 3, none⟩ = some (.slice s.ha s.hN s.hc) ∧ w'.cell? ⟨w.heap.size, 4, none⟩ = some (.int .i64 s.bits)) (exact unhide HK _ (by repeat' (first | with_reducible exact hBU2 | with_reducible exact hBU1 | with_reducible exact Below.refl _ _ | with_reducible refine Below.drew ?_ | with_reducible refine balloc ?_ _ | with_reducible refine Below.setCell ?_ (by first | exact Nat.le_refl _ | exact hlU1 | exact hlU2) _)))
      (first
        | (go_at_call 117; have hq := hBU1; refine (ceilDown_z _ _ _ _ K (t : Int) a.2 _ ((unhide HS).hi.below (by first | with_reducible exact hBU1 | with_reducible exact balloc hBU1 _)) (by omega) (by omega) (by omega)).mono ?_; rintro r wU2 ⟨negU2, aU2, nU2, cU2, rfl, hintU2, hbU2⟩; have hCU2 : Below wU1.heap.size wU1 wU2 := (by first | with_reducible exact hbU2 | with_reducible exact bthen (bl1 _ _) hbU2); have hBU2 := bthen hBU1 hCU2; (try with_reducible have gU2 := (noc_new wU1 28).below hbU2); replace hintU1 := hintU1.below hCU2; (try replace gU1 := gU1.below hCU2); have hlU2 := hBU2.size; (try have mU1 := gU1.lt); (try have eU1 := Nat.ne_of_lt mU1); (try have eU1' := Nat.ne_of_gt mU1); (try obtain ⟨zU10, zU11, zU12, zU13, zU14, zU15⟩ := gU1); (try have mU2 := gU2.lt); (try have eU2 := Nat.ne_of_lt mU2); (try have eU2' := Nat.ne_of_gt mU2); (try obtain ⟨zU20, zU21, zU22, zU23, zU24, zU25⟩ := gU2))
        | (go_at_call 94; refine (down_z _ _ _ _ K (t : Int) a.1 _ ((unhide HS).lo.below (by first | with_reducible exact (Below.refl _ _).drew | with_reducible exact (bl1 _ _).drew)) (by omega) (by omega) (by omega)).mono ?_; rintro r wU1 ⟨negU1, aU1, nU1, cU1, rfl, hintU1, hbU1⟩; have hBU1 : Below wc.heap.size wc wU1 := (by first | with_reducible exact bthen (Below.refl _ _).drew hbU1 | with_reducible exact bthen (bl1 _ _).drew hbU1); (try with_reducible have gU1 := ((noc_new wc 28).below (Below.refl _ _).drew).below hbU1); have hlU1 := hBU1.size))
    all_goals
      have hfinU : SpAt wU2 ⟨negU1, aU1, nU1, cU1, negU2, aU2, nU2, cU2, s.bits⟩ (K + 5) (downI a t).1 (downI a t).2 := ⟨by rw [downZ_nat] at hintU1; exact hintU1.mono (by omega), by rw [downZ_nat] at hintU2; exact hintU2.mono (by omega)⟩
      go_wp2_with fail
      go_meet
      refine ⟨_, ⟨negU1, aU1, nU1, cU1, negU2, aU2, nU2, cU2, s.bits⟩, rfl, ?_, ⟨⟨?_, ?_, ?_, ?_, ?_⟩, ?_⟩, ?_, unhide HB, ?_⟩
      · first | exact Nat.le_refl _ | exact hlU1 | exact hlU2
      · simp [go_sem, *]
      · simp [go_sem, *]
      · simp [go_sem, *]
      · simp [go_sem, *]
      · simp [go_sem, *]
      · intro o; simp [go_sem, *]
      · first | with_reducible exact hfinU.below (bl1 _ _) | with_reducible exact SpAt.put5 hfinU (by assumption) (by assumption) (by assumption) (by assumption) (by assumption) _ _ _ _ _
      · repeat' (first | with_reducible exact hBU2 | with_reducible exact hBU1 | with_reducible exact Below.refl _ _ | with_reducible refine Below.drew ?_ | with_reducible refine balloc ?_ _ | with_reducible refine Below.setCell ?_ (by first | exact Nat.le_refl _ | exact hlU1 | exact hlU2) _)
  case rest =>
  obtain ⟨BU, xU, rfl, hHU, XU, hpU, hxbU, hblU⟩ := hcut
  replace A := A.below hblU
  replace R := R.below hblU
  replace hBW := bthen hBW hblU
  have lU := XU.lt
  have nRU : w.heap.size + 1 < BU := by omega
  have lA2 := A.lt
  have lR2 := R.lt
  have HXB := hide hxbU
  have HHU := hide hpU
  clear hxbU hpU HS HK x0 x1 x2 x3 x4 hblU
  have x4 := A.c4
  rw [unhide HB] at x4
  go_wp2_with fail
  refine (one_int _ b hb).mono ?_
  rintro r w1 ⟨v1, rfl, hvb1, hvp1, hb1⟩
  have hQb := Q_pos b
  have hv0 : (expT b (downI a t) 0).1 = 1 * Q b / 1 ∧ (expT b (downI a t) 0).2 = -(-(1 * Q b) / 1) := by
    constructor
    · show Q b = _; omega
    · show Q b = _; omega
  rw [← hv0.1, ← hv0.2] at hvp1
  have hQK : Q b * 2 < P K ∧ 2 * Q b + Q b < P K := by
    have h12 : 12 ≤ eb t := by have := eb_mono (show 0 ≤ t by omega); simpa [eb] using this
    have := Q_mono (show b + 2 ≤ b + eb t by omega)
    have e : Q (b + 2) = 2 * (2 * Q b) := rfl
    omega
  have hT := expT_abs (by omega) hsm
  have hlT := expT_le b (downI a t)
  have hfit : ∀ n, n ≤ N → -P K < (expT b (downI a t) n).1 ∧ (expT b (downI a t) n).2 < P K := fun n _ => by
    obtain ⟨g1, g2, g3, g4⟩ := hT n
    have := Q_mono (show b - 8 * n ≤ b by omega)
    omega
  have hfitS : ∀ n, n ≤ N → -P K < (sumI (expT b (downI a t)) n).1 ∧ (sumI (expT b (downI a t)) n).2 < P K := fun n hn => by
    obtain ⟨g1, g2, g3, g4⟩ := sum_abs2 (s := 8) (by omega) hT hN n hn
    have := Q_pos (b - 8 * n)
    omega
  have hNb : N ≤ 1000000000 := by
    obtain ⟨N', n1, n2⟩ := stop_ex (s := 8) (by omega) hT
    have : N ≤ N' := Nat.not_lt.1 fun hlt => by have := hN.2 N' hlt; have := n2.1; omega
    omega
  replace hvp1 := hvp1.fits (K := K) (hlT 0) (hfit 0 (by omega)).1 (hfit 0 (by omega)).2
  have HT0 := hide hT
  have HLT := hide hlT
  have HFIT := hide hfit
  have HFITS := hide hfitS
  have HVP1 := hide hvp1
  have HVB1 := hide hvb1
  have HQK := hide hQK
  clear hT hlT hfit hfitS hv0 hvp1 hvb1 hQK
  replace XU := XU.below hb1
  replace HHU := hide ((unhide HHU).below hb1)
  replace R := R.below hb1
  replace hBW := bthen hBW hb1
  have lU3 := XU.lt
  have lR3 := R.lt
  clear hb1 x4 A lA2
  go_wp2_with fail
  refine (sum_exp _ (expT b (downI a t)) N b K (K + 5 + (K + 5) + 22) v1 _ (unhide HVP1) (unhide HVB1) hb (by omega) (by omega) hN hNb (unhide HLT) (unhide HFIT) (unhide HFITS) (fun n u w' hn hub hup hbw => ?_)).mono ?_
  · exact exp1_iv w' BU u xU (K + 5) b ((n : Int) + 1) (expT b (downI a t) n) (downI a t) (hup.mono (by omega)) ((unhide HHU).below hbw) (XU.c.below hbw) (by omega) hub hb (by omega) (by omega)
  rintro r w2 ⟨v2, rfl, hvb2, hvp2, hb2⟩
  replace XU := XU.below hb2
  replace R := R.below hb2
  replace hBW := bthen hBW hb2
  have hdl := done_le (unhide HLT) N
  have hda := done_abs2 (s := 8) (by omega) (unhide HLT) (unhide HT0) hN
  replace hvp2 := hvp2.fits (K := K) hdl (by have := hda.1; have := unhide HQK; omega) (by have := hda.2.2.2; have := unhide HQK; omega)
  have HV2 := hide hvb2
  clear hvb2 hb2 HVP1 HVB1 hdl hda
  have lR4 := R.lt
  go_wp2_with fail
  go_loopw [31] (fun ii wr => ∃ (i : Nat) (X : Sp), ii = .int .i64 (i : Int) ∧ i ≤ t ∧ VrC wr w2.heap.size X ∧ SpAt wr X K (sqI b (doneI (expT b (downI a t)) N) i).1 (sqI b (doneI (expT b (downI a t)) N) i).2 ∧ X.bits = (b : Int) ∧ NoC wr (w.heap.size + 1) ∧ Below w.heap.size w wr) (fun ii _ => t - (intOf ii).toNat)
  case atStart =>
    refine ⟨0, v2, rfl, Nat.zero_le _, ⟨⟨by simp [go_sem], by simp [go_sem], by simp [go_sem], by simp [go_sem], by simp [go_sem]⟩, fun o => by simp [go_sem]⟩, hvp2.below (bl1 _ _), unhide HV2, R.below (bl1 _ _), balloc hBW _⟩
  case round =>
    obtain ⟨i, X, rfl, hi, hX, hp, hxb, hR, hB⟩ := hrel
    have HXB := hide hxb
    clear hxb
    have lX := hX.lt
    by_cases hin : i < t
    · have hin' : (i : Int) < (t : Int) := by omega
      obtain ⟨⟨x0, x1, x2, x3, x4⟩, x5⟩ := hX
      go_wp2_with fail
      refine (mul_iv _ X X K b _ _ hp hp (by omega) (unhide HXB) hb).mono ?_
      rintro r w3 ⟨v, rfl, hvb, hvp, hb3⟩
      have X3 := VrC.below ⟨⟨x0, x1, x2, x3, x4⟩, x5⟩ hb3
      have R3 := hR.below hb3
      have B3 := bthen hB hb3
      have e : mulI b (sqI b (doneI (expT b (downI a t)) N) i) (sqI b (doneI (expT b (downI a t)) N) i) = sqI b (doneI (expT b (downI a t)) N) (i + 1) := rfl
      rw [e] at hvp
      have h1N : 1 ≤ N := exp_one hb16 hN
      have ha := sq_abs hb16 (done_abs1 (s := 8) (by omega) (unhide HLT) (unhide HT0) hN h1N) (i + 1)
      have hm := Q_mono (show b + eb (i + 1) ≤ b + eb t by have := eb_mono (show i + 1 ≤ t by omega); omega)
      replace hvp := hvp.fits (K := K) (mulI_le b) (by have := ha.1; omega) (by have := ha.2.2.2; omega)
      have HV := hide hvb
      have nB : w.heap.size + 1 ≠ w2.heap.size := by omega
      have stn : VrC (put5w w3 w2.heap.size v) w2.heap.size v ∧ SpAt (put5w w3 w2.heap.size v) v K (sqI b (doneI (expT b (downI a t)) N) (i + 1)).1 (sqI b (doneI (expT b (downI a t)) N) (i + 1)).2 ∧ NoC (put5w w3 w2.heap.size v) (w.heap.size + 1) ∧ Below w.heap.size w (put5w w3 w2.heap.size v) := ⟨X3.put v, hvp.put X3.c v, R3.off nB v, below_put B3 (by omega) v⟩
      unfold put5w at stn
      clear hvb hb3 x0 x1 x2 x3 x4 x5 hvp ha hm
      obtain ⟨⟨x0, x1, x2, x3, x4⟩, x5⟩ := X3
      go_wp2_with fail
      go_roundw
      case rel => exact ⟨i + 1, v, by go_num, by omega, stn.1, stn.2.1, unhide HV, stn.2.2.1, stn.2.2.2⟩
      case measure => simp [intOf]; omega
    · have hie : i = t := by omega
      subst hie
      have hin' : ¬ (i : Int) < (i : Int) := by omega
      obtain ⟨⟨x0, x1, x2, x3, x4⟩, x5⟩ := hX
      obtain ⟨q0, q1, q2, q3, q4, q5⟩ := hR
      go_wp2_with fail
      refine bodyPost_ret (v := .agg #[.bool X.ln, .slice X.la X.lN X.lc, .bool X.hn, .slice X.ha X.hN X.hc, .int .i64 X.bits]) (by simp [results, Try.results131, go_sem, q0, q1, q2, q3, q4]) rfl ⟨X, rfl, unhide HXB, ?_, ?_⟩
      · exact SpAt.put5 hp q0 q1 q2 q3 q4 _ _ _ _ _
      · exact set5 hB (Nat.le_succ _) _ _ _ _ _
end Go.Proofs.Ytgmnknmjainabab

namespace Go.Proofs.Ytgmnknmjainabab
set_option linter.unusedVariables false
open Ex

theorem ofI_le {n d : Int} (hd : 0 < d) (B : Nat) : (ofI n d B).1 ≤ (ofI n d B).2 := by
  have := scaleI_le (a := (n * Q B, n * Q B)) (n := 1) (Int.le_refl _) hd (by omega)
  simpa [scaleI, ofI] using this
theorem ofI_wide {n d : Int} (hd : 0 < d) (B : Nat) : (ofI n d B).2 - (ofI n d B).1 ≤ 1 := by
  have := div_wide (x := n * Q B) (y := n * Q B) (c := 0) hd (by omega)
  simpa [ofI] using this
theorem ofI_abs {n d m : Int} (hd : 0 < d) (B : Nat) (h1 : -(m * d) ≤ n * Q B) (h2 : n * Q B ≤ m * d) : Abs (ofI n d B) m := by
  have := round_abs hd h1 h2
  exact ⟨this.1, this.2.1, this.2.2.1, this.2.2.2⟩
end Go.Proofs.Ytgmnknmjainabab

namespace Go.Proofs.Ytgmnknmjainabab
set_option linter.unusedVariables false
set_option linter.unusedSimpArgs false
set_option linter.unnecessarySimpa false
open Go.RowKit
attribute [local go_sem ↓] Go.wp_at_zero Go.wp_at_succ

/-- Each number from 0 on has a length. -/
theorem len_ex {z : Int} (hz : 0 ≤ z) {e : Nat} (he : z < Q e) : ∃ l, LenIs z l ∧ l ≤ e ∧ z < Q l.toNat := by
  by_cases hp : 0 < z
  · have key : ∀ e : Nat, z < Q e → ∃ L : Nat, L + 1 ≤ e ∧ Q L ≤ z ∧ z < Q (L + 1) := fun e => by
      induction e with
      | zero => intro h; simp [Q] at h; omega
      | succ e ih =>
        intro h
        by_cases hq : Q e ≤ z
        · exact ⟨e, Nat.le_refl _, hq, h⟩
        · obtain ⟨L, h1, h2⟩ := ih (by omega)
          exact ⟨L, by omega, h2⟩
    obtain ⟨L, h1, h2, h3⟩ := key e he
    exact ⟨(L : Int) + 1, ⟨by omega, fun h => by omega, fun _ => ⟨L, rfl, h2, h3⟩⟩, by omega, by rw [show ((L : Int) + 1).toNat = L + 1 by omega]; exact h3⟩
  · have : z = 0 := by omega
    subst this
    exact ⟨0, ⟨by omega, fun _ => rfl, fun h => by omega⟩, by omega, by simp [Q]⟩
/-- How wide.Exp goes about it. -/
theorem exp_set {B e : Nat} {a : Int × Int} (hB : 16 ≤ B) (ha : a.1 ≤ a.2) (h : reachI a < Q (B + e)) :
    ∃ (l : Int) (t N : Nat), LenIs (reachI a) l ∧ (t : Int) = max 0 (l - B + 8) ∧ t ≤ e + 8 ∧ Abs (downI a t) (Q (B - 8)) ∧ IsStop (expT B (downI a t)) N := by
  obtain ⟨l, h1, h2, h3⟩ := len_ex (reach_pair ha) h
  obtain ⟨t, ht⟩ : ∃ t : Nat, (t : Int) = max 0 (l - B + 8) := ⟨(max 0 (l - (B : Int) + 8)).toNat, by omega⟩
  have hA : Abs (downI a t) (Q (B - 8)) := by
    obtain ⟨g1, g2, g3, g4⟩ := reach_abs ha
    have q := Q_pos t
    have hm := Q_mono (show l.toNat ≤ B - 8 + t by omega)
    rw [Q_add] at hm
    have r1 := round_abs (x := a.1) (m := Q (B - 8)) (q := Q t) (by omega) (by omega) (by omega)
    have r2 := round_abs (x := a.2) (m := Q (B - 8)) (q := Q t) (by omega) (by omega) (by omega)
    exact ⟨r1.1, r1.2.1, r2.2.2.1, r2.2.2.2⟩
  obtain ⟨N, n1, n2⟩ := stop_ex (s := 8) (by omega) (expT_abs (by omega) hA)
  exact ⟨l, t, N, h1, ht, by omega, hA, n2⟩
theorem wb_17 : wb 17 = 1678 := by decide
theorem eb_17 : eb 17 = 1536 := by decide
/-- A ratio in a block. -/
structure RaC (w : World) (B : Nat) (p q : Int) : Prop where
  c0 : w.cell? ⟨B, 0, none⟩ = some (.int .i64 p)
  c1 : w.cell? ⟨B, 1, none⟩ = some (.int .i64 q)
theorem RaC.lt {w : World} {B : Nat} {p q : Int} (h : RaC w B p q) : B < w.heap.size := World.block_lt_of_cell? w ⟨B, 0, none⟩ h.c0
theorem RaC.below {w w' : World} {B : Nat} {p q : Int} (h : RaC w B p q) (hb : Below w.heap.size w w') : RaC w' B p q :=
  ⟨(hb.cell (p := ⟨B, 0, none⟩) h.lt).trans h.c0, (hb.cell (p := ⟨B, 1, none⟩) h.lt).trans h.c1⟩
end Go.Proofs.Ytgmnknmjainabab

namespace Go.Proofs.Ytgmnknmjainabab
set_option linter.unusedVariables false
set_option linter.unusedSimpArgs false
set_option linter.unnecessarySimpa false
open Go.RowKit
attribute [local go_sem ↓] Go.wp_at_zero Go.wp_at_succ

theorem of_reach {p q : Int} {n b e : Nat} (hq : 0 < q) (h1 : -((n : Int) * q) ≤ p) (h2 : p ≤ (n : Int) * q) (he : (n : Int) < Q e) : reachI (ofI p q b) < Q (b + e) := by
  have qb := Q_pos b
  have g1 := Int.mul_le_mul_of_nonneg_right h1 (show 0 ≤ Q b by omega)
  have g2 := Int.mul_le_mul_of_nonneg_right h2 (show 0 ≤ Q b by omega)
  have e1 : (n : Int) * q * Q b = (n : Int) * Q b * q := by grind
  have e2 : -((n : Int) * q) * Q b = -((n : Int) * Q b * q) := by grind
  have := abs_reach (ofI_abs (n := p) (m := (n : Int) * Q b) hq b (by omega) (by omega))
  have h3 := Int.mul_lt_mul_of_pos_right he (show 0 < Q b by omega)
  rw [Q_add, Int.mul_comm (Q b)]
  omega

end Go.Proofs.Ytgmnknmjainabab

namespace Go.Proofs.Ytgmnknmjainabab
set_option linter.unusedVariables false
set_option linter.unusedSimpArgs false
set_option linter.unnecessarySimpa false
open Go.RowKit
attribute [local go_sem ↓] Go.wp_at_zero Go.wp_at_succ

theorem put_fz2 {w : World} {B B' : Nat} (h : ∀ o, w.frozen? ⟨B, o, none⟩ = false) (u0 u1 : Value) : ∀ o, ((w.setCell ⟨B', 0, none⟩ u0).setCell ⟨B', 1, none⟩ u1).frozen? ⟨B, o, none⟩ = false := fun o => by rw [frozen_set', frozen_set']; exact h o
theorem NmC.off {w : World} {B B' : Nat} {x : Nm} (h : NmC w B x) (hne : B ≠ B') (u0 u1 : Value) : NmC ((w.setCell ⟨B', 0, none⟩ u0).setCell ⟨B', 1, none⟩ u1) B x := by
  obtain ⟨q0, q1⟩ := h
  constructor <;> simp [go_sem, q0, q1, hne, Ne.symm hne]
theorem NoI.off {w : World} {B B' : Nat} (h : NoI w B) (hne : B ≠ B') (u0 u1 : Value) : NoI ((w.setCell ⟨B', 0, none⟩ u0).setCell ⟨B', 1, none⟩ u1) B := by
  obtain ⟨q0, q1, q2⟩ := h
  exact ⟨by simp [go_sem, q0, hne, Ne.symm hne], by simp [go_sem, q1, hne, Ne.symm hne], put_fz2 q2 _ _⟩

/-- Where wide.Raised is behind some rounds. -/
structure RaiSt (w wr : World) (B : Nat) (a : Int) (k j e : Nat) (X Y : Nm) : Prop where
  je : j * e ≤ k
  e1 : 1 ≤ e
  e2 : e ≤ 2 * k + 1
  x : NmC wr B X
  y : NmC wr (B + 1) Y
  fx : ∀ o, wr.frozen? ⟨B, o, none⟩ = false
  fy : ∀ o, wr.frozen? ⟨B + 1, o, none⟩ = false
  ix : IntAt wr X.neg X.a X.n X.cap (4 * (k - j * e) + 4) (a ^ (k - j * e))
  iy : IntAt wr Y.neg Y.a Y.n Y.cap (4 * e) (a ^ e)
  no : NoI wr w.heap.size
  be : Below w.heap.size w wr
  lo : w.heap.size < B

theorem RaiSt.below {w wr wr' : World} {B : Nat} {a : Int} {k j e : Nat} {X Y : Nm} (h : RaiSt w wr B a k j e X Y) (hb : Below wr.heap.size wr wr') : RaiSt w wr' B a k j e X Y :=
  ⟨h.je, h.e1, h.e2, h.x.below hb, h.y.below hb, fun o => (hb.frozen (p := ⟨B, o, none⟩) h.x.lt).trans (h.fx o), fun o => (hb.frozen (p := ⟨B + 1, o, none⟩) h.y.lt).trans (h.fy o), h.ix.below hb, h.iy.below hb, h.no.below hb, bthen h.be hb, h.lo⟩

end Go.Proofs.Ytgmnknmjainabab

namespace Go.Proofs.Ytgmnknmjainabab
set_option linter.unusedVariables false
set_option linter.unusedSimpArgs false
set_option linter.unnecessarySimpa false
open Go.RowKit
attribute [local go_sem ↓] Go.wp_at_zero Go.wp_at_succ

theorem scale_iv (w : World) (s : Sp) (x y : Nm) (k k1 k2 b : Nat) (a : Int × Int) (n d : Int) (hs : SpAt w s k a.1 a.2) (h1 : IntAt w x.neg x.a x.n x.cap k1 n) (h2 : IntAt w y.neg y.a y.n y.cap k2 d) (hk : k ≤ 300000000) (hk1 : k1 ≤ 300000000) (hd : 0 < d) (hb : s.bits = (b : Int)) :
    Calls Try.prog 99 #[.agg #[.bool s.ln, .slice s.la s.lN s.lc, .bool s.hn, .slice s.ha s.hN s.hc, .int .i64 s.bits], .agg #[.bool x.neg, .slice x.a x.n x.cap], .agg #[.bool y.neg, .slice y.a y.n y.cap]] w (SpanAns w b (k + k1 + 10) (scaleI a n d).1 (scaleI a n d).2) :=
  (scale_int w s _ _ _ _ _ _ _ _ k k1 k2 a.1 a.2 n d hs h1 h2 hk hk1 hd).mono fun r w' h => by rw [hb] at h; exact h

end Go.Proofs.Ytgmnknmjainabab

namespace Go.Proofs.Ytgmnknmjainabab
set_option linter.unusedVariables false
open Ex

theorem Iv.mono {B : Nat} {a b : Int × Int} {x : Nat → Rat} (h : Iv B a x) (h1 : b.1 ≤ a.1) (h2 : a.2 ≤ b.2) : Iv B b x := by
  have q := Qr_pos B
  exact Has.mono h (rdiv_le q (by rw [rdm q]; exact cast_le h1)) (rdiv_le q (by rw [rdm q]; exact cast_le h2))
end Go.Proofs.Ytgmnknmjainabab

namespace Go.Proofs.Ytgmnknmjainabab
set_option linter.unusedVariables false
open Ex

namespace Ex
theorem Bdd.half {l : Nat → Rat} (h : Bdd l) : Bdd (fun M => l M / 2) := by
  obtain ⟨K, N, k0, hk⟩ := h
  exact ⟨K, N, k0, fun M hM => by obtain ⟨h1, h2⟩ := hk M hM; constructor <;> grind⟩
end Ex
theorem Bdd.over {l : Nat → Rat} (h : Bdd l) (i : Nat) : Bdd (fun M => l M / (Q i : Rat)) := by
  obtain ⟨K, N, k0, hk⟩ := h
  have q := Qr_pos i
  refine ⟨K, N, k0, fun M hM => rdiv_AB q ((hk M hM).mono ?_)⟩
  have h1 : ((1 : Int) : Rat) ≤ (Q i : Rat) := cast_le (by have := Q_pos i; omega)
  have e1 : ((1 : Int) : Rat) = 1 := rfl
  rw [e1] at h1
  have := Rat.mul_nonneg (show 0 ≤ (Q i : Rat) - 1 by grind) k0
  grind
end Go.Proofs.Ytgmnknmjainabab
