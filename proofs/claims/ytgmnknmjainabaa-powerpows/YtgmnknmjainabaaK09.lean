/-
  Sums whose numbers become less; the numbers that make up a power of e, and that what is made has it. Plain arithmetic: no statement of the seat is proved here.
  How far from 0, and how wide, what is made of a power of e is. Plain arithmetic: no statement of the seat is proved here.
  The numbers that make up a logarithm, that what is made has it, and how wide it is. Plain arithmetic: no statement of the seat is proved here.
  The numbers that make up a power of e of a number from 0 to 1, as package tailsureref takes them. Plain arithmetic: no statement of the seat is proved here.
  Powers of e as package tailsureref makes them: of the whole part, and of the rest. Plain arithmetic: no statement of the seat is proved here.
  1 over a power of e; powers of e of a span. Plain arithmetic: no statement of the seat is proved here.
-/
import Derived.Test.YtgmnknmjainabaaK08
namespace Go.Proofs.Ytgmnknmjainabaa
set_option linter.unusedVariables false
open Ex

theorem Q_step {B s : Nat} (hs : s ≤ B) (n : Nat) : Q (B - s * n) * Q (B - s) ≤ Q (B - s * (n + 1)) * Q B := by
  rw [← Q_add, ← Q_add]
  refine Q_mono ?_
  rw [Nat.mul_add, Nat.mul_one]
  generalize s * n = k
  omega
theorem exists_least {p : Nat → Prop} {K : Nat} (h : p K) : ∃ N, N ≤ K ∧ p N ∧ ∀ n, n < N → ¬ p n := by
  induction K using Nat.strongRecOn with
  | ind K ih =>
    by_cases hk : ∃ m, m < K ∧ p m
    · obtain ⟨m, hm, hp⟩ := hk
      obtain ⟨N, h1, h2⟩ := ih m hm hp
      exact ⟨N, by omega, h2⟩
    · exact ⟨K, Nat.le_refl _, h, fun n hn hp => hk ⟨n, hn, hp⟩⟩
/-- A sum whose numbers become less ends. -/
theorem stop_ex {B s : Nat} {f : Nat → Int × Int} (hs : 1 ≤ s) (h : ∀ n, Abs (f n) (Q (B - s * n))) : ∃ N, N ≤ B / s + 1 ∧ IsStop f N := by
  have h1 : reachI (f (B / s + 1)) ≤ 1 := by
    have := abs_reach (h (B / s + 1))
    have e : B - s * (B / s + 1) = 0 := by
      have := Nat.lt_mul_div_succ B (show 0 < s by omega)
      omega
    rw [e] at this; simp [Q] at this; exact this
  obtain ⟨N, n1, n2, n3⟩ := exists_least (p := fun n => reachI (f n) ≤ 1) h1
  exact ⟨N, n1, n2, fun n hn => by have := n3 n hn; simp at this; omega⟩
theorem half_step {B s N n : Nat} {f : Nat → Int × Int} (hs : 1 ≤ s) (h : ∀ n, Abs (f n) (Q (B - s * n))) (hN : IsStop f N) (hn : n < N) : 2 * Q (B - s * (n + 1)) ≤ Q (B - s * n) := by
  have h1 := hN.2 n hn
  have h2 := abs_reach (h n)
  have h3 : 1 ≤ B - s * n := by
    refine Nat.pos_of_ne_zero fun e => ?_
    rw [e] at h2; simp [Q] at h2; omega
  have e : 2 * Q (B - s * (n + 1)) = Q (B - s * (n + 1) + 1) := rfl
  rw [e]
  refine Q_mono ?_
  rw [Nat.mul_add, Nat.mul_one]
  generalize s * n = k at *
  omega
theorem sum_abs2 {B s N : Nat} {f : Nat → Int × Int} (hs : 1 ≤ s) (h : ∀ n, Abs (f n) (Q (B - s * n))) (hN : IsStop f N) (n : Nat) (hn : n ≤ N) : Abs (sumI f n) (2 * Q B - Q (B - s * n)) := by
  induction n with
  | zero => simp only [sumI]; exact (h 0).mono (by simp; omega)
  | succ n ih =>
    have h1 := (ih (by omega)).add (h (n + 1))
    have h2 := half_step hs h hN (show n < N by omega)
    simp only [sumI]
    exact h1.mono (by omega)
theorem sum_abs1 {B s N : Nat} {f : Nat → Int × Int} (hs : 1 ≤ s) (h : ∀ n, Abs (f n) (Q (B - s * n))) (hN : IsStop f N) (n : Nat) (hn : n + 1 ≤ N) : Abs (sumI f (n + 1)) (Q B + 2 * Q (B - s) - Q (B - s * (n + 1))) := by
  induction n with
  | zero =>
    simp only [sumI]
    have := (h 0).add (h 1)
    refine this.mono ?_
    simp; omega
  | succ n ih =>
    have h1 := (ih (by omega)).add (h (n + 1 + 1))
    have h2 := half_step hs h hN (show n + 1 < N by omega)
    have e : sumI f (n + 1 + 1) = addI (sumI f (n + 1)) (f (n + 1 + 1)) := rfl
    rw [e]
    exact h1.mono (by omega)
theorem reach_pair {a : Int × Int} (h : a.1 ≤ a.2) : 0 ≤ reachI a := (reach_abs h).nonneg
theorem done_abs2 {B s N : Nat} {f : Nat → Int × Int} (hs : 1 ≤ s) (hle : ∀ n, (f n).1 ≤ (f n).2) (h : ∀ n, Abs (f n) (Q (B - s * n))) (hN : IsStop f N) : Abs (doneI f N) (2 * Q B) := by
  have h1 := sum_abs2 hs h hN N (Nat.le_refl _)
  have h2 : Abs (-reachI (f N), reachI (f N)) (Q (B - s * N)) := by
    have := abs_reach (h N)
    have := reach_pair (hle N)
    exact ⟨by simp; omega, by simp; omega, by simp; omega, by simp; omega⟩
  exact (h1.add h2).mono (by omega)
theorem done_abs1 {B s N : Nat} {f : Nat → Int × Int} (hs : 1 ≤ s) (hle : ∀ n, (f n).1 ≤ (f n).2) (h : ∀ n, Abs (f n) (Q (B - s * n))) (hN : IsStop f N) (h1N : 1 ≤ N) : Abs (doneI f N) (Q B + 2 * Q (B - s)) := by
  obtain ⟨n, rfl⟩ : ∃ n, N = n + 1 := ⟨N - 1, by omega⟩
  have h1 := sum_abs1 hs h hN n (Nat.le_refl _)
  have h2 : Abs (-reachI (f (n + 1)), reachI (f (n + 1))) (Q (B - s * (n + 1))) := by
    have := abs_reach (h (n + 1))
    have := reach_pair (hle (n + 1))
    exact ⟨by simp; omega, by simp; omega, by simp; omega, by simp; omega⟩
  exact (h1.add h2).mono (by omega)
theorem sum_le {f : Nat → Int × Int} (hle : ∀ n, (f n).1 ≤ (f n).2) (n : Nat) : (sumI f n).1 ≤ (sumI f n).2 := by
  induction n with
  | zero => exact hle 0
  | succ n ih => simp only [sumI, addI]; have := hle (n + 1); omega
theorem done_le {f : Nat → Int × Int} (hle : ∀ n, (f n).1 ≤ (f n).2) (n : Nat) : (doneI f n).1 ≤ (doneI f n).2 := by
  have h1 := sum_le hle n
  have h2 := reach_pair (hle n)
  simp only [doneI, addI]; omega
theorem sum_wide {f : Nat → Int × Int} {W : Int} (hw : ∀ n, (f n).2 - (f n).1 ≤ W) (n : Nat) : (sumI f n).2 - (sumI f n).1 ≤ ((n : Int) + 1) * W := by
  induction n with
  | zero => simp only [sumI]; have := hw 0; simp; omega
  | succ n ih =>
    simp only [sumI, addI]
    have := hw (n + 1)
    have e : (((n + 1 : Nat) : Int) + 1) * W = ((n : Int) + 1) * W + W := by
      have : (((n + 1 : Nat) : Int) + 1) = ((n : Int) + 1) + 1 := by omega
      rw [this, Int.add_mul, Int.one_mul]
    omega
theorem done_wide {f : Nat → Int × Int} {W : Int} {N : Nat} (hw : ∀ n, (f n).2 - (f n).1 ≤ W) (hN : IsStop f N) : (doneI f N).2 - (doneI f N).1 ≤ ((N : Int) + 1) * W + 2 := by
  have h1 := sum_wide hw N
  have h2 := hN.1
  simp only [doneI, addI]; omega

/-- What is left out is no farther from 0 than the last one. -/
theorem S_rest {g : Nat → Rat} {N : Nat} {b : Rat} (hb : AB (g N) b) (hh : ∀ n c, N ≤ n → AB (g n) c → AB (g (n + 1)) (c / 2)) (i : Nat) : AB (g (N + i)) (b * q2 i) ∧ AB (S g (N + 1 + i) - S g (N + 1)) (b * (1 - q2 i)) := by
  induction i with
  | zero => simp only [Nat.add_zero, q2]; exact ⟨hb.mono (by grind), by constructor <;> grind⟩
  | succ i ih =>
    obtain ⟨h1, h2⟩ := ih
    have h3 := hh (N + i) _ (by omega) h1
    have e1 : q2 (i + 1) = q2 i / 2 := rfl
    have e2 : S g (N + 1 + (i + 1)) = S g (N + 1 + i) + g (N + 1 + i) := rfl
    have e3 : N + 1 + i = N + (i + 1) := by omega
    refine ⟨h3.mono (by rw [e1]; grind), ?_⟩
    rw [e2, e1]
    have h4 := h2.add h3
    rw [show N + i + 1 = N + 1 + i by omega] at h4
    have e4 : S g (N + 1 + i) - S g (N + 1) + g (N + 1 + i) = S g (N + 1 + i) + g (N + 1 + i) - S g (N + 1) := by grind
    rw [e4] at h4
    exact h4.mono (by grind)
theorem done_has {B N : Nat} {f : Nat → Int × Int} {g : Nat → Nat → Rat} (hle : ∀ n, (f n).1 ≤ (f n).2) (h : ∀ n, n ≤ N → Iv B (f n) (fun M => g n M)) (M0 : Nat) (hh : ∀ M, M0 ≤ M → ∀ n b, N ≤ n → AB (g n M) b → AB (g (n + 1) M) (b / 2)) : Iv B (doneI f N) (fun M => S (fun k => g k M) M) := by
  have h1 : ∀ n, n ≤ N → Iv B (sumI f n) (fun M => S (fun k => g k M) (n + 1)) := fun n hn => by
    induction n with
    | zero => exact Has.of_eq (h 0 (by omega)) fun M => by simp only [S]; grind
    | succ n ih => exact Has.of_eq ((ih (by omega)).add (h (n + 1) hn)) fun M => by simp only [S]
  have h2 := h1 N (Nat.le_refl _)
  have h3 : Iv B (-reachI (f N), reachI (f N)) (fun M => S (fun k => g k M) M - S (fun k => g k M) (N + 1)) := by
    have hr := reach_abs (hle N)
    have q := Qr_pos B
    have k1 := h N (Nat.le_refl _)
    intro e he
    obtain ⟨N1, k2⟩ := k1 e he
    refine ⟨N1 + M0 + N + 1, fun M hM => ?_⟩
    obtain ⟨a1, a2⟩ := k2 M (by omega)
    have l1 : ((-reachI (f N) : Int) : Rat) / (Q B : Rat) ≤ ((f N).1 : Rat) / (Q B : Rat) := rdiv_le q (by rw [rdm q]; exact cast_le hr.1)
    have l2 : ((f N).2 : Rat) / (Q B : Rat) ≤ ((reachI (f N) : Int) : Rat) / (Q B : Rat) := rdiv_le q (by rw [rdm q]; exact cast_le hr.2.2.2)
    have l3 : ((-reachI (f N) : Int) : Rat) / (Q B : Rat) = -(((reachI (f N) : Int) : Rat) / (Q B : Rat)) := by
      rw [Rat.intCast_neg, Rat.div_def, Rat.div_def, Rat.neg_mul]
    have hb : AB (g N M) (((reachI (f N) : Int) : Rat) / (Q B : Rat) + e) := by constructor <;> grind
    obtain ⟨i, rfl⟩ : ∃ i, M = N + 1 + i := ⟨M - (N + 1), by omega⟩
    have s := (S_rest (g := fun k => g k (N + 1 + i)) hb (fun n c hn hc => hh _ (by omega) n c hn hc) i).2
    have p := q2_pos i
    have nn := hb.nonneg
    have s' := s.mono (b := ((reachI (f N) : Int) : Rat) / (Q B : Rat) + e) (by
      have := Rat.mul_nonneg nn (Rat.le_of_lt p)
      grind)
    obtain ⟨s1, s2⟩ := s'
    simp only []
    rw [l3]
    constructor <;> grind
  exact Has.of_eq (h2.add h3) fun M => by grind

/-- The numbers that make up a power of e. -/
def expT (B : Nat) (sm : Int × Int) : Nat → Int × Int
  | 0 => (Q B, Q B)
  | n + 1 => scaleI (mulI B (expT B sm n) sm) 1 ((n : Int) + 1)
theorem expT_le (B : Nat) (sm : Int × Int) (n : Nat) : (expT B sm n).1 ≤ (expT B sm n).2 := by
  cases n with
  | zero => exact Int.le_refl _
  | succ n => exact scaleI_le (mulI_le B) (by omega) (by omega)
theorem expT_abs {B : Nat} {sm : Int × Int} (hB : 8 ≤ B) (hs : Abs sm (Q (B - 8))) (n : Nat) : Abs (expT B sm n) (Q (B - 8 * n)) := by
  induction n with
  | zero => have := Q_pos B; exact ⟨by simp [expT]; omega, by simp [expT], by simp [expT]; omega, by simp [expT]⟩
  | succ n ih => exact scaleI_abs (mulI_abs ih hs (Q_step hB n)) (by omega) (by omega) (by omega)
theorem Q_eight {B : Nat} (hB : 8 ≤ B) : Q B = 256 * Q (B - 8) := by
  have := Q_add 8 (B - 8)
  rw [show 8 + (B - 8) = B by omega] at this
  rw [this]; rfl
theorem expT_wide {B : Nat} {sm : Int × Int} {ws : Int} (hB : 8 ≤ B) (hs : Abs sm (Q (B - 8))) (hsl : sm.1 ≤ sm.2) (hw : sm.2 - sm.1 ≤ ws) (n : Nat) : (expT B sm n).2 - (expT B sm n).1 ≤ 2 * ws + 4 := by
  induction n with
  | zero => simp only [expT]; omega
  | succ n ih =>
    have q := Q_pos (B - 8)
    have e := Q_eight hB
    have m1 : Q (B - 8 * n) ≤ Q B := Q_mono (by omega)
    have p1 := Int.mul_le_mul m1 hw (by omega) (by omega)
    have p2 := Int.mul_le_mul_of_nonneg_left ih (show 0 ≤ Q (B - 8) by omega)
    have hc : Q (B - 8 * n) * (sm.2 - sm.1) + Q (B - 8) * ((expT B sm n).2 - (expT B sm n).1) ≤ (ws + (2 * ws + 4 + 255) / 256) * Q B := by
      have e2 : (ws + (2 * ws + 4 + 255) / 256) * Q B = Q B * ws + Q (B - 8) * (256 * ((2 * ws + 4 + 255) / 256)) := by
        rw [Int.add_mul, Int.mul_comm ws]; congr 1; rw [e]; grind
      rw [e2]
      have := Int.mul_le_mul_of_nonneg_left (show 2 * ws + 4 ≤ 256 * ((2 * ws + 4 + 255) / 256) by omega) (show 0 ≤ Q (B - 8) by omega)
      omega
    have h1 := mulI_wide (expT_abs hB hs n) hs (expT_le B sm n) hsl hc
    have hn : (0 : Int) < (n : Int) + 1 := by omega
    have hp := Int.mul_nonneg (show 0 ≤ ws + (2 * ws + 4 + 255) / 256 + 1 by omega) (show 0 ≤ (n : Int) by omega)
    have h2 := scaleI_wide (a := mulI B (expT B sm n) sm) (n := 1) (d := (n : Int) + 1) (c := ws + (2 * ws + 4 + 255) / 256 + 1) hn (by
      rw [Int.mul_one, Int.mul_add, Int.mul_one]; omega)
    simp only [expT]
    omega
theorem expT_has {B : Nat} {sm : Int × Int} {x : Nat → Rat} (h : Iv B sm x) (n : Nat) : Iv B (expT B sm n) (fun M => tm (x M) n) := by
  induction n with
  | zero =>
    have q := Qr_pos B
    have e : (Q B : Rat) / (Q B : Rat) = 1 := by rw [Rat.div_def, Rat.mul_inv_cancel _ (by grind)]
    show Has ((Q B : Rat) / (Q B : Rat)) ((Q B : Rat) / (Q B : Rat)) _
    rw [e]
    exact Has.const (c := 1) Rat.le_refl Rat.le_refl
  | succ n ih =>
    have := (ih.mul h).scale (n := 1) (d := (n : Int) + 1) (by omega) (by omega)
    refine Has.of_eq this fun M => ?_
    have e : (((n : Int) + 1 : Int) : Rat) = (n : Rat) + 1 := by rw [Rat.intCast_add]; rfl
    rw [e]
    simp only [tm]
    have hp := pos1 n
    rw [Rat.div_def, Rat.div_def]
    simp
    grind
theorem tm_half {x b : Rat} (hx : AB x (1 / 2)) (n : Nat) (h : AB (tm x n) b) : AB (tm x (n + 1)) (b / 2) := by
  have e := tm_succ x n
  have hp := pos1 n
  have g := hx.mul h
  rw [← e] at g
  have e3 : tm x (n + 1) = ((n : Rat) + 1) * tm x (n + 1) / ((n : Rat) + 1) := by grind
  rw [e3]
  refine rdiv_AB hp (g.mono ?_)
  have hn : (0 : Rat) ≤ (n : Rat) := by exact_mod_cast Nat.zero_le n
  have := Rat.mul_nonneg hn h.nonneg
  grind
theorem Iv.little {B : Nat} {a : Int × Int} {x : Nat → Rat} (h : Iv B a x) {m : Int} (ha : Abs a m) (hm : 4 * m ≤ Q B) : ∃ N, ∀ M, N ≤ M → AB (x M) (1 / 2) := by
  have q := Qr_pos B
  obtain ⟨N, h1⟩ := h (1 / 4) (by grind)
  refine ⟨N, fun M hM => ?_⟩
  have := h1 M hM
  have l1 : -(1 / 4 : Rat) ≤ (a.1 : Rat) / (Q B : Rat) := rle_div q (by
    have : ((-(Q B) : Int) : Rat) ≤ ((4 * a.1 : Int) : Rat) := cast_le (by have := ha.1; omega)
    rw [Rat.intCast_neg, Rat.intCast_mul] at this
    have e4 : ((4 : Int) : Rat) = 4 := rfl
    rw [e4] at this
    grind)
  have l2 : (a.2 : Rat) / (Q B : Rat) ≤ (1 / 4 : Rat) := rdiv_le q (by
    have : ((4 * a.2 : Int) : Rat) ≤ ((Q B : Int) : Rat) := cast_le (by have := ha.2.2.2; omega)
    rw [Rat.intCast_mul] at this
    have e4 : ((4 : Int) : Rat) = 4 := rfl
    rw [e4] at this
    grind)
  constructor <;> grind
/-- The sum is a power of e. -/
theorem expSum_has {B N : Nat} {sm : Int × Int} {x : Nat → Rat} (hB : 8 ≤ B) (h : Iv B sm x) (hs : Abs sm (Q (B - 8))) : Iv B (doneI (expT B sm) N) (Ev x) := by
  obtain ⟨M0, h0⟩ := h.little hs (by have := Q_eight hB; have := Q_pos (B - 8); omega)
  exact done_has (expT_le B sm) (fun n _ => expT_has h n) M0 (fun M hM n b _ hb => tm_half (h0 M hM) n hb)
/-- Squares. -/
def sqv (y : Nat → Rat) : Nat → Nat → Rat
  | 0 => y
  | t + 1 => fun M => sqv y t M * sqv y t M
theorem sqI_has {B : Nat} {a : Int × Int} {y : Nat → Rat} (h : Iv B a y) (t : Nat) : Iv B (sqI B a t) (sqv y t) := by
  induction t with
  | zero => exact h
  | succ t ih => exact ih.mul ih
theorem sqv_null {x : Nat → Rat} (h : Bdd x) (t : Nat) : Null (fun M => sqv (Ev x) t M - Ev (fun M => (Q t : Rat) * x M) M) := by
  have hb : ∀ t, Bdd (fun M => (Q t : Rat) * x M) := fun t => (Bdd.const _).mul h
  induction t with
  | zero =>
    have e : (fun M => (Q 0 : Rat) * x M) = x := funext fun M => by simp [Q]
    rw [e]
    exact null_zero.of_eq fun M => by simp only [sqv]; grind
  | succ t ih =>
    have b1 := Ev_bdd (hb t)
    have b2 : Bdd (sqv (Ev x) t) := b1.of_null (ih.neg.of_eq fun M => by grind)
    have n1 := ih.bmul (b1.add b2)
    have n2 := Ev_add (hb t) (hb t)
    have e : (fun M => (Q t : Rat) * x M + (Q t : Rat) * x M) = fun M => (Q (t + 1) : Rat) * x M := funext fun M => by
      have : (Q (t + 1) : Rat) = 2 * (Q t : Rat) := by
        have : Q (t + 1) = 2 * Q t := rfl
        rw [this, Rat.intCast_mul]; rfl
      rw [this]; grind
    rw [e] at n2
    refine (n1.add n2).of_eq fun M => ?_
    simp only [sqv]
    grind
/-- What wide.Exp makes has the power of e. -/
theorem exp_has {B N t : Nat} {a : Int × Int} {x : Nat → Rat} (hB : 8 ≤ B) (h : Iv B a x) (hs : Abs (downI a t) (Q (B - 8))) : Iv B (sqI B (doneI (expT B (downI a t)) N) t) (Ev x) := by
  have hx := Has.bdd h
  have h1 := sqI_has (expSum_has (N := N) hB (h.down t) hs) t
  have hb : Bdd (fun M => x M / (Q t : Rat)) := Has.bdd (h.down t)
  have n1 := sqv_null hb t
  have q := Qr_pos t
  have e : (fun M => (Q t : Rat) * (x M / (Q t : Rat))) = x := funext fun M => by
    rw [Rat.mul_comm]; exact rdm q
  rw [e] at n1
  exact h1.congr (n1.neg.of_eq fun M => by grind)
end Go.Proofs.Ytgmnknmjainabaa

namespace Go.Proofs.Ytgmnknmjainabaa
set_option linter.unusedVariables false
open Ex

/-- How many bits more some squares take, at most. -/
def eb (i : Nat) : Nat := if i ≤ 10 then 12 else 12 * 2 ^ (i - 10)
def cI : Nat → Int
  | 0 => 66048
  | i + 1 => cI i * cI i / 65536 + 1
theorem Q_16 {B : Nat} (hB : 16 ≤ B) : Q B = 65536 * Q (B - 16) ∧ Q (B - 8) = 256 * Q (B - 16) := by
  have h1 := Q_add 16 (B - 16)
  have h2 := Q_add 8 (B - 16)
  rw [show 16 + (B - 16) = B by omega] at h1
  rw [show 8 + (B - 16) = B - 8 by omega] at h2
  exact ⟨by rw [h1]; rfl, by rw [h2]; rfl⟩
theorem sq_abs0 {B : Nat} {d : Int × Int} (hB : 16 ≤ B) (h : Abs d (Q B + 2 * Q (B - 8))) (i : Nat) : Abs (sqI B d i) (cI i * Q (B - 16)) := by
  obtain ⟨e1, e2⟩ := Q_16 hB
  induction i with
  | zero => exact h.mono (by simp only [cI]; omega)
  | succ i ih =>
    refine mulI_abs ih ih ?_
    rw [e1]
    have q := Q_pos (B - 16)
    have h1 : cI i * cI i ≤ cI (i + 1) * 65536 := by simp only [cI]; omega
    have h2 := Int.mul_nonneg (show 0 ≤ Q (B - 16) by omega) (show 0 ≤ Q (B - 16) by omega)
    have h3 := Int.mul_le_mul_of_nonneg_right h1 h2
    generalize Q (B - 16) = r at *
    have e3 : cI i * r * (cI i * r) = cI i * cI i * (r * r) := by grind
    have e4 : cI (i + 1) * r * (65536 * r) = cI (i + 1) * 65536 * (r * r) := by grind
    rw [e3, e4]; exact h3
theorem cI_le : ∀ i, i < 11 → cI i ≤ 268435456 := by decide
theorem sq_abs {B : Nat} {d : Int × Int} (hB : 16 ≤ B) (h : Abs d (Q B + 2 * Q (B - 8))) (i : Nat) : Abs (sqI B d i) (Q (B + eb i)) := by
  by_cases hi : i ≤ 10
  · refine (sq_abs0 hB h i).mono ?_
    have e : eb i = 12 := by simp [eb, hi]
    have e2 : Q (B + 12) = 268435456 * Q (B - 16) := by
      have := Q_add 28 (B - 16)
      rw [show 28 + (B - 16) = B + 12 by omega] at this
      rw [this]; rfl
    rw [e, e2]
    exact Int.mul_le_mul_of_nonneg_right (cI_le i (by omega)) (by have := Q_pos (B - 16); omega)
  · obtain ⟨j, rfl⟩ : ∃ j, i = 10 + j := ⟨i - 10, by omega⟩
    clear hi
    have key : Abs (sqI B d (10 + j)) (Q (B + 12 * 2 ^ j)) := by
      induction j with
      | zero =>
        refine (sq_abs0 hB h 10).mono ?_
        have e2 : Q (B + 12 * 2 ^ 0) = 268435456 * Q (B - 16) := by
          have := Q_add 28 (B - 16)
          rw [show 28 + (B - 16) = B + 12 * 2 ^ 0 by omega] at this
          rw [this]; rfl
        rw [e2]
        exact Int.mul_le_mul_of_nonneg_right (cI_le 10 (by omega)) (by have := Q_pos (B - 16); omega)
      | succ j ih =>
        refine mulI_abs ih ih ?_
        rw [← Q_add, ← Q_add]
        refine Q_mono ?_
        rw [Nat.pow_succ]; omega
    by_cases hj : j = 0
    · subst hj; exact key
    · have : eb (10 + j) = 12 * 2 ^ j := by
        unfold eb; rw [if_neg (by omega)]; congr 2; omega
      rw [this]; exact key
/-- How many bits wider. -/
def wb : Nat → Nat
  | 0 => 0
  | i + 1 => wb i + eb i + 2
theorem sq_wide {B : Nat} {d : Int × Int} (hB : 16 ≤ B) (h : Abs d (Q B + 2 * Q (B - 8))) (hd : d.1 ≤ d.2) (i : Nat) : (sqI B d i).1 ≤ (sqI B d i).2 ∧ (sqI B d i).2 - (sqI B d i).1 + 1 ≤ (d.2 - d.1 + 1) * Q (wb i) := by
  induction i with
  | zero => simp only [sqI, wb, Q]; omega
  | succ i ih =>
    obtain ⟨h1, h2⟩ := ih
    refine ⟨mulI_le B, ?_⟩
    have ha := sq_abs hB h i
    obtain ⟨W, hW⟩ : ∃ W, W = (sqI B d i).2 - (sqI B d i).1 := ⟨_, rfl⟩
    rw [← hW] at h2
    have h3 := mulI_wide (B := B) (c := 2 * Q (eb i) * W) ha ha h1 h1 (by
      rw [← hW, Q_add]
      generalize Q B = q
      generalize Q (eb i) = r
      have : q * r * W + q * r * W = 2 * r * W * q := by grind
      omega)
    have e : Q (wb (i + 1)) = Q (wb i) * (4 * Q (eb i)) := by
      have : wb (i + 1) = wb i + (eb i + 2) := by simp only [wb]; omega
      rw [this, Q_add]
      congr 1
      have := Q_add (eb i) 2
      rw [this, Int.mul_comm]; rfl
    rw [e]
    have q1 := Q_pos (eb i)
    have p := Int.mul_le_mul_of_nonneg_right h2 (show 0 ≤ 4 * Q (eb i) by omega)
    rw [← Int.mul_assoc]
    refine Int.le_trans ?_ p
    have w0 : 0 ≤ W := by omega
    have p2 := Int.mul_nonneg w0 (show 0 ≤ Q (eb i) by omega)
    show (mulI B (sqI B d i) (sqI B d i)).2 - (mulI B (sqI B d i) (sqI B d i)).1 + 1 ≤ _
    have e5 : (W + 1) * (4 * Q (eb i)) = 4 * (W * Q (eb i)) + 4 * Q (eb i) := by grind
    have e6 : 2 * Q (eb i) * W = 2 * (W * Q (eb i)) := by grind
    rw [e5]; rw [e6] at h3
    omega
theorem eb_mono {i j : Nat} (h : i ≤ j) : eb i ≤ eb j := by
  unfold eb
  split
  · split
    · omega
    · have := Nat.pow_le_pow_right (show 0 < 2 by omega) (show 0 ≤ j - 10 by omega); simp at this; omega
  · split
    · omega
    · have := Nat.pow_le_pow_right (show 0 < 2 by omega) (show i - 10 ≤ j - 10 by omega); omega
theorem wb_mono {i j : Nat} (h : i ≤ j) : wb i ≤ wb j := by
  obtain ⟨d, rfl⟩ : ∃ d, j = i + d := ⟨j - i, by omega⟩
  clear h
  induction d with
  | zero => exact Nat.le_refl _
  | succ d ih => show wb i ≤ wb (i + d) + eb (i + d) + 2; omega
/-- What wide.Exp makes: how far from 0, how wide. -/
theorem exp_bound {B N t : Nat} {a : Int × Int} {ws : Int} (hB : 16 ≤ B) (hs : Abs (downI a t) (Q (B - 8))) (ha : a.1 ≤ a.2) (hw : a.2 - a.1 ≤ ws * Q t) (hN : IsStop (expT B (downI a t)) N) :
    (sqI B (doneI (expT B (downI a t)) N) t).1 ≤ (sqI B (doneI (expT B (downI a t)) N) t).2 ∧ Abs (sqI B (doneI (expT B (downI a t)) N) t) (Q (B + eb t)) ∧ N ≤ B / 8 + 1 ∧
    (sqI B (doneI (expT B (downI a t)) N) t).2 - (sqI B (doneI (expT B (downI a t)) N) t).1 ≤ (((N : Int) + 1) * (2 * ws + 6) + 3) * Q (wb t) := by
  have q := Q_pos t
  have hsl : (downI a t).1 ≤ (downI a t).2 := by
    have := scaleI_le (a := a) (n := 1) (d := Q t) ha (by omega) (by omega)
    simpa [scaleI, downI] using this
  have hsw : (downI a t).2 - (downI a t).1 ≤ ws + 1 := div_wide (by omega) hw
  have hT := expT_abs (by omega) hs
  have h1N : 1 ≤ N := by
    refine Nat.pos_of_ne_zero fun e => ?_
    have := hN.1
    rw [e] at this
    have h2 : reachI (expT B (downI a t) 0) = Q B := by
      show maxZ (Q B) (-Q B) = Q B
      have := Q_pos B
      unfold maxZ; rw [if_neg (by omega)]
    rw [h2] at this
    have := Q_mono hB
    have : Q 16 = 65536 := rfl
    omega
  have hd := done_abs1 (s := 8) (by omega) (expT_le B (downI a t)) hT hN h1N
  have hdl := done_le (expT_le B (downI a t)) N
  have hdw := done_wide (expT_wide (by omega) hs hsl hsw) hN
  obtain ⟨g1, g2⟩ := sq_wide hB hd hdl t
  have hle : N ≤ B / 8 + 1 := by
    obtain ⟨N', n1, n2⟩ := stop_ex (s := 8) (by omega) hT
    refine Nat.le_trans (Nat.not_lt.1 fun hlt => ?_) n1
    have := hN.2 N' hlt
    have := n2.1
    omega
  refine ⟨g1, sq_abs hB hd t, hle, ?_⟩
  have q2 := Q_pos (wb t)
  have e : 2 * (ws + 1) + 4 = 2 * ws + 6 := by omega
  rw [e] at hdw
  have := Int.mul_le_mul_of_nonneg_right (show (doneI (expT B (downI a t)) N).2 - (doneI (expT B (downI a t)) N).1 + 1 ≤ ((N : Int) + 1) * (2 * ws + 6) + 3 by omega) (show 0 ≤ Q (wb t) by omega)
  omega
end Go.Proofs.Ytgmnknmjainabaa

namespace Go.Proofs.Ytgmnknmjainabaa
set_option linter.unusedVariables false
open Ex

/-- The numbers that make up half of a logarithm. -/
def logT (B : Nat) (z sq : Int × Int) : Nat → Int × Int
  | 0 => z
  | n + 1 => scaleI (mulI B (logT B z sq n) sq) (2 * (n : Int) + 1) (2 * (n : Int) + 3)
theorem ofI_le {n d : Int} (hd : 0 < d) (B : Nat) : (ofI n d B).1 ≤ (ofI n d B).2 := by
  have := scaleI_le (a := (n * Q B, n * Q B)) (n := 1) (Int.le_refl _) hd (by omega)
  simpa [scaleI, ofI] using this
theorem ofI_wide {n d : Int} (hd : 0 < d) (B : Nat) : (ofI n d B).2 - (ofI n d B).1 ≤ 1 := by
  have := div_wide (x := n * Q B) (y := n * Q B) (c := 0) hd (by omega)
  simpa [ofI] using this
theorem ofI_abs {n d m : Int} (hd : 0 < d) (B : Nat) (h1 : -(m * d) ≤ n * Q B) (h2 : n * Q B ≤ m * d) : Abs (ofI n d B) m := by
  have := round_abs hd h1 h2
  exact ⟨this.1, this.2.1, this.2.2.1, this.2.2.2⟩
theorem logT_le {B : Nat} {z sq : Int × Int} (hz : z.1 ≤ z.2) (n : Nat) : (logT B z sq n).1 ≤ (logT B z sq n).2 := by
  cases n with
  | zero => exact hz
  | succ n => exact scaleI_le (mulI_le B) (by omega) (by omega)
theorem logT_abs {B : Nat} {z sq : Int × Int} (hB : 3 ≤ B) (hz : Abs z (Q B)) (hs : Abs sq (Q (B - 3))) (n : Nat) : Abs (logT B z sq n) (Q (B - 3 * n)) := by
  induction n with
  | zero => exact hz
  | succ n ih => exact scaleI_abs (mulI_abs ih hs (Q_step hB n)) (by omega) (by omega) (by omega)
theorem Q_three {B : Nat} (hB : 3 ≤ B) : Q B = 8 * Q (B - 3) := by
  have := Q_add 3 (B - 3)
  rw [show 3 + (B - 3) = B by omega] at this
  rw [this]; rfl
theorem logT_wide {B : Nat} {z sq : Int × Int} (hB : 3 ≤ B) (hz : Abs z (Q B)) (hs : Abs sq (Q (B - 3))) (hzl : z.1 ≤ z.2) (hsl : sq.1 ≤ sq.2) (hzw : z.2 - z.1 ≤ 1) (hsw : sq.2 - sq.1 ≤ 2) (n : Nat) : (logT B z sq n).2 - (logT B z sq n).1 ≤ 6 := by
  induction n with
  | zero => simp only [logT]; omega
  | succ n ih =>
    have q := Q_pos (B - 3)
    have e := Q_three hB
    have m1 : Q (B - 3 * n) ≤ Q B := Q_mono (by omega)
    have p1 := Int.mul_le_mul m1 hsw (by omega) (by omega)
    have p2 := Int.mul_le_mul_of_nonneg_left ih (show 0 ≤ Q (B - 3) by omega)
    have h1 := mulI_wide (B := B) (c := 3) (logT_abs hB hz hs n) hs (logT_le hzl n) hsl (by omega)
    have h2 := scaleI_wide (a := mulI B (logT B z sq n) sq) (n := 2 * (n : Int) + 1) (d := 2 * (n : Int) + 3) (c := 4) (by omega) (by
      have := Int.mul_le_mul_of_nonneg_right (show (mulI B (logT B z sq n) sq).2 - (mulI B (logT B z sq n) sq).1 ≤ 4 by omega) (show 0 ≤ 2 * (n : Int) + 1 by omega)
      omega)
    simp only [logT]
    omega
theorem logT_has {B : Nat} {a sq : Int × Int} {z : Rat} (h : Iv B a (fun _ => z)) (hs : Iv B sq (fun _ => z * z)) (n : Nat) : Iv B (logT B a sq n) (fun _ => pw z (2 * n + 1) / (2 * (n : Rat) + 1)) := by
  induction n with
  | zero =>
    refine Has.of_eq h fun M => ?_
    simp [pw]
    grind
  | succ n ih =>
    have := (ih.mul hs).scale (n := 2 * (n : Int) + 1) (d := 2 * (n : Int) + 3) (by omega) (by omega)
    refine Has.of_eq this fun M => ?_
    have e1 : ((2 * (n : Int) + 1 : Int) : Rat) = 2 * (n : Rat) + 1 := by rw [Rat.intCast_add, Rat.intCast_mul]; rfl
    have e2 : ((2 * (n : Int) + 3 : Int) : Rat) = 2 * (n : Rat) + 3 := by rw [Rat.intCast_add, Rat.intCast_mul]; rfl
    have e3 : ((n + 1 : Nat) : Rat) = (n : Rat) + 1 := by simp
    have e4 : pw z (2 * (n + 1) + 1) = z * (z * pw z (2 * n + 1)) := rfl
    rw [e1, e2, e3, e4]
    have hn : (0 : Rat) ≤ (n : Rat) := by exact_mod_cast Nat.zero_le n
    generalize pw z (2 * n + 1) = p
    have d1 : (2 * (n : Rat) + 1) ≠ 0 := by grind
    have d2 : (2 * (n : Rat) + 3) ≠ 0 := by grind
    have d3 : 2 * ((n : Rat) + 1) + 1 = 2 * (n : Rat) + 3 := by grind
    rw [d3]
    generalize 2 * (n : Rat) + 1 = u at *
    generalize 2 * (n : Rat) + 3 = v at *
    grind
theorem odd_half {z b : Rat} (hz : AB z (1 / 2)) (n : Nat) (h : AB (pw z (2 * n + 1) / (2 * (n : Rat) + 1)) b) : AB (pw z (2 * (n + 1) + 1) / (2 * ((n + 1 : Nat) : Rat) + 1)) (b / 2) := by
  have hn : (0 : Rat) ≤ (n : Rat) := by exact_mod_cast Nat.zero_le n
  have e3 : ((n + 1 : Nat) : Rat) = (n : Rat) + 1 := by simp
  have e4 : pw z (2 * (n + 1) + 1) = z * (z * pw z (2 * n + 1)) := rfl
  have e5 := rdm (a := pw z (2 * n + 1)) (show (0 : Rat) < 2 * (n : Rat) + 1 by grind)
  rw [e3, e4]
  refine rdiv_AB (by grind) ?_
  generalize pw z (2 * n + 1) / (2 * (n : Rat) + 1) = t at *
  rw [← e5]
  have h1 : AB (2 * (n : Rat) + 1) (2 * (n : Rat) + 1) := by constructor <;> grind
  have g := (hz.mul (hz.mul (h.mul h1)))
  refine g.mono ?_
  have := Rat.mul_nonneg hn h.nonneg
  have := h.nonneg
  grind
/-- The quotient near 1. -/
structure NearOne (n d : Int) : Prop where
  hn : 0 < n
  hd : 0 < d
  h1 : 3 * (n - d) ≤ n + d
  h2 : 3 * (d - n) ≤ n + d
def zI (n d : Int) (B : Nat) : Int × Int := ofI (n - d) (n + d) B
def lnT (n d : Int) (B : Nat) : Nat → Int × Int := logT B (zI n d B) (mulI B (zI n d B) (zI n d B))
def zR (n d : Int) : Rat := ((n - d : Int) : Rat) / ((n + d : Int) : Rat)
theorem zI_abs {n d : Int} (h : NearOne n d) (B : Nat) : Abs (zI n d B) (Q B / 3 + 1) := by
  obtain ⟨h0, h0', h1, h2⟩ := h
  have q := Q_pos B
  have g1 := Int.mul_le_mul_of_nonneg_right h1 (show 0 ≤ Q B by omega)
  have g2 := Int.mul_le_mul_of_nonneg_right h2 (show 0 ≤ Q B by omega)
  have g3 := Int.mul_le_mul_of_nonneg_right (show Q B ≤ 3 * (Q B / 3 + 1) by omega) (show 0 ≤ n + d by omega)
  have e1 : 3 * (Q B / 3 + 1) * (n + d) = 3 * ((Q B / 3 + 1) * (n + d)) := Int.mul_assoc _ _ _
  have e2 : 3 * (n - d) * Q B = 3 * ((n - d) * Q B) := Int.mul_assoc _ _ _
  have e3 : 3 * (d - n) * Q B = -(3 * ((n - d) * Q B)) := by grind
  have e4 : (n + d) * Q B = Q B * (n + d) := Int.mul_comm _ _
  exact ofI_abs (by omega) B (by omega) (by omega)
theorem sq_small {q : Int} (hq : 65536 ≤ q) : (q / 3 + 1) * (q / 3 + 1) * 8 ≤ q * q := by
  have h1 : 3 * (q / 3 + 1) ≤ q + 3 := by omega
  have h2 := Int.mul_le_mul h1 h1 (by omega) (by omega)
  have h3 := Int.mul_le_mul_of_nonneg_right hq (show 0 ≤ q by omega)
  grind
theorem sqI_abs {n d : Int} (h : NearOne n d) {B : Nat} (hB : 16 ≤ B) : Abs (mulI B (zI n d B) (zI n d B)) (Q (B - 3)) := by
  refine mulI_abs (zI_abs h B) (zI_abs h B) ?_
  have e := Q_three (show 3 ≤ B by omega)
  have h1 := Q_mono hB
  have h2 : Q 16 = 65536 := rfl
  have h3 := sq_small (q := Q B) (by omega)
  have e2 : Q B * Q B = 8 * (Q (B - 3) * Q B) := by rw [e]; grind
  omega
theorem zI_absB {n d : Int} (h : NearOne n d) {B : Nat} (hB : 16 ≤ B) : Abs (zI n d B) (Q B) := (zI_abs h B).mono (by
  have h1 := Q_mono hB
  have h2 : Q 16 = 65536 := rfl
  omega)
theorem sqI_wide {n d : Int} (h : NearOne n d) {B : Nat} (hB : 16 ≤ B) : (mulI B (zI n d B) (zI n d B)).2 - (mulI B (zI n d B) (zI n d B)).1 ≤ 2 := by
  have hd : 0 < n + d := by have := h.hn; have := h.hd; omega
  have l := ofI_le (n := n - d) hd B
  have w := ofI_wide (n := n - d) hd B
  have h1 := Q_mono hB
  have h2 : Q 16 = 65536 := rfl
  have p := Int.mul_le_mul_of_nonneg_left w (show 0 ≤ Q B / 3 + 1 by omega)
  exact mulI_wide (c := 1) (zI_abs h B) (zI_abs h B) l l (by
    show (Q B / 3 + 1) * ((ofI (n - d) (n + d) B).2 - (ofI (n - d) (n + d) B).1) + (Q B / 3 + 1) * ((ofI (n - d) (n + d) B).2 - (ofI (n - d) (n + d) B).1) ≤ 1 * Q B
    omega)
theorem lnT_abs {n d : Int} (h : NearOne n d) {B : Nat} (hB : 16 ≤ B) (k : Nat) : Abs (lnT n d B k) (Q (B - 3 * k)) := logT_abs (by omega) (zI_absB h hB) (sqI_abs h hB) k
theorem lnT_le {n d : Int} (h : NearOne n d) (B k : Nat) : (lnT n d B k).1 ≤ (lnT n d B k).2 := logT_le (ofI_le (by have := h.hn; have := h.hd; omega) B) k
theorem lnT_wide {n d : Int} (h : NearOne n d) {B : Nat} (hB : 16 ≤ B) (k : Nat) : (lnT n d B k).2 - (lnT n d B k).1 ≤ 6 :=
  logT_wide (by omega) (zI_absB h hB) (sqI_abs h hB) (ofI_le (by have := h.hn; have := h.hd; omega) B) (mulI_le B) (ofI_wide (by have := h.hn; have := h.hd; omega) B) (sqI_wide h hB) k
/-- What wide.logNear makes: its bounds. -/
theorem ln_bound {n d : Int} (h : NearOne n d) {B N : Nat} (hB : 16 ≤ B) (hN : IsStop (lnT n d B) N) :
    (doneI (lnT n d B) N).1 ≤ (doneI (lnT n d B) N).2 ∧ Abs (doneI (lnT n d B) N) (2 * Q B) ∧ N ≤ B / 3 + 1 ∧ (doneI (lnT n d B) N).2 - (doneI (lnT n d B) N).1 ≤ ((N : Int) + 1) * 6 + 2 := by
  refine ⟨done_le (lnT_le h B) N, done_abs2 (s := 3) (by omega) (lnT_le h B) (lnT_abs h hB) hN, ?_, done_wide (lnT_wide h hB) hN⟩
  obtain ⟨N', n1, n2⟩ := stop_ex (s := 3) (by omega) (lnT_abs h hB)
  refine Nat.le_trans (Nat.not_lt.1 fun hlt => ?_) n1
  have := hN.2 N' hlt
  have := n2.1
  omega
theorem zR_AB {n d : Int} (h : NearOne n d) : AB (zR n d) (1 / 2) := by
  obtain ⟨h0, h0', h1, h2⟩ := h
  have hp : (0 : Rat) < ((n + d : Int) : Rat) := by exact_mod_cast (show 0 < n + d by omega)
  refine rdiv_AB hp ?_
  have g1 : ((3 * (n - d) : Int) : Rat) ≤ ((n + d : Int) : Rat) := cast_le h1
  have g2 : ((-(3 * (n - d)) : Int) : Rat) ≤ ((n + d : Int) : Rat) := cast_le (by omega)
  rw [Rat.intCast_neg] at g2
  rw [Rat.intCast_mul] at g1 g2
  have e : ((3 : Int) : Rat) = 3 := rfl
  rw [e] at g1 g2
  constructor <;> grind
theorem ln_has {n d : Int} (h : NearOne n d) (B N : Nat) : Iv B (doneI (lnT n d B) N) (fun M => Az (zR n d) M) := by
  have hz : Iv B (zI n d B) (fun _ => zR n d) := Iv.of B (by have := h.hn; have := h.hd; omega)
  exact done_has (lnT_le h B) (fun k _ => logT_has hz (hz.mul hz) k) 0 (fun M _ k b _ hb => odd_half (zR_AB h) k hb)
theorem ln_isLog {n d : Int} (h : NearOne n d) : IsLog (fun M => 2 * Az (zR n d) M) (fun _ => (n : Rat) / (d : Rat)) := by
  refine isLog_Az (z := fun _ => zR n d) 0 (fun _ _ => zR_AB h) (fun M _ => ?_)
  obtain ⟨h0, h0', h1, h2⟩ := h
  have hp : (0 : Rat) < ((n + d : Int) : Rat) := by exact_mod_cast (show 0 < n + d by omega)
  have hd : (0 : Rat) < (d : Rat) := by exact_mod_cast h0'
  have e1 := rdm (a := ((n - d : Int) : Rat)) hp
  have e2 := rdm (a := (n : Rat)) hd
  show (n : Rat) / (d : Rat) * (1 - zR n d) = 1 + zR n d
  unfold zR
  generalize ((n - d : Int) : Rat) / ((n + d : Int) : Rat) = z at *
  generalize (n : Rat) / (d : Rat) = r at *
  rw [Rat.intCast_sub, Rat.intCast_add] at e1
  rw [Rat.intCast_add] at hp
  -- z (n + d) = n - d; r d = n
  have e3 : z * (r * d + d) = r * d - d := by rw [e2]; exact e1
  have e4 : (d : Rat) * (r * (1 - z) - (1 + z)) = 0 := by grind
  rcases Rat.mul_eq_zero.1 e4 with h | h
  · grind
  · grind
theorem pw_Q (k : Nat) : pw 2 k = (Q k : Rat) := by
  induction k with
  | zero => rfl
  | succ k ih =>
    have e : Q (k + 1) = 2 * Q k := rfl
    rw [e, Rat.intCast_mul]
    simp only [pw, ih]; rfl
/-- A logarithm by that of a quotient near 1, and that of 2. -/
def lnOf (a b : Int × Int) (k : Int) : Int × Int := if k < 0 then subI (timesI a 2) (timesI (timesI b 2) (-k)) else addI (timesI a 2) (timesI (timesI b 2) k)
/-- The same quotient but for a power of 2. -/
def Bal (n d n' d' k : Int) : Prop := NearOne n' d' ∧ (0 ≤ k → n * d' = n' * d * Q k.toNat) ∧ (k < 0 → n * d' * Q (-k).toNat = n' * d)
theorem near2 : NearOne 2 1 := ⟨by omega, by omega, by omega, by omega⟩
theorem log_has {n d n' d' k : Int} (hn : 0 < n) (hd : 0 < d) (h : Bal n d n' d' k) (B N N2 : Nat) :
    ∃ l, IsLog l (fun _ => (n : Rat) / (d : Rat)) ∧ Iv B (lnOf (doneI (lnT n' d' B) N) (doneI (lnT 2 1 B) N2) k) l := by
  obtain ⟨h1, h2, h3⟩ := h
  have d0 : (0 : Rat) < (d : Rat) := by exact_mod_cast hd
  have d0' : (0 : Rat) < (d' : Rat) := by exact_mod_cast h1.hd
  have a1 := (ln_has h1 B N).times 2
  have a2 := (ln_has near2 B N2).times 2
  have l1 := ln_isLog h1
  have l2 := ln_isLog near2
  have e2 : ((2 : Nat) : Rat) = 2 := rfl
  have e21 : (fun _ : Nat => ((2 : Int) : Rat) / ((1 : Int) : Rat)) = fun _ => (2 : Rat) := funext fun _ => by
    have : ((2 : Int) : Rat) / ((1 : Int) : Rat) = 2 := by
      have e := rdm (a := ((2 : Int) : Rat)) (show (0 : Rat) < ((1 : Int) : Rat) by decide)
      have e1 : ((1 : Int) : Rat) = 1 := rfl
      have e3 : ((2 : Int) : Rat) = 2 := rfl
      rw [e1, e3] at e ⊢
      grind
    exact this
  rw [e21] at l2
  rw [e2] at a1 a2
  by_cases hk : k < 0
  · obtain ⟨j, rfl⟩ : ∃ j : Nat, k = -(j : Int) := ⟨(-k).toNat, by omega⟩
    have hq := h3 hk
    have ej : (-(-(j : Int))).toNat = j := by omega
    rw [ej] at hq
    have qj := Qr_pos j
    have l3 := (l2.times j).neg (s := fun _ => 1 / (Q j : Rat)) (Bdd.const _) 0 (fun M _ => by rw [pw_Q]; exact rdm qj)
    refine ⟨_, (l1.add l3).congr_r (null_zero.of_eq fun M => ?_), ?_⟩
    · show (n' : Rat) / (d' : Rat) * (1 / (Q j : Rat)) - (n : Rat) / (d : Rat) = 0
      have hq2 : ((n * d' * Q j : Int) : Rat) = ((n' * d : Int) : Rat) := by rw [hq]
      rw [Rat.intCast_mul, Rat.intCast_mul, Rat.intCast_mul] at hq2
      have f1 := rdm (a := (n' : Rat)) d0'
      have f2 := rdm (a := (n : Rat)) d0
      have f3 := rdm (a := (1 : Rat)) qj
      generalize (n' : Rat) / (d' : Rat) = r' at *
      generalize (n : Rat) / (d : Rat) = r at *
      generalize 1 / (Q j : Rat) = i at *
      rw [← f1, ← f2] at hq2
      -- r d d' Q = r' d' d
      have f4 : (d : Rat) * ((d' : Rat) * (r * (Q j : Rat) - r')) = 0 := by grind
      have f5 : r * (Q j : Rat) = r' := by
        rcases Rat.mul_eq_zero.1 f4 with h | h
        · grind
        · rcases Rat.mul_eq_zero.1 h with h | h
          · grind
          · grind
      rw [← f5]
      have : r * (Q j : Rat) * i - r = r * (i * (Q j : Rat)) - r := by grind
      rw [this, f3]; grind
    · unfold lnOf
      rw [if_pos hk]
      have := a1.sub (a2.times j)
      rw [show -(-(j : Int)) = (j : Int) by omega]
      refine Has.of_eq this fun M => ?_
      grind
  · obtain ⟨j, rfl⟩ : ∃ j : Nat, k = (j : Int) := ⟨k.toNat, by omega⟩
    have hq := h2 (by omega)
    have ej : ((j : Int)).toNat = j := by omega
    rw [ej] at hq
    have l3 := l2.times j
    refine ⟨_, (l1.add l3).congr_r (null_zero.of_eq fun M => ?_), ?_⟩
    · show (n' : Rat) / (d' : Rat) * pw 2 j - (n : Rat) / (d : Rat) = 0
      rw [pw_Q]
      have hq2 : ((n * d' : Int) : Rat) = ((n' * d * Q j : Int) : Rat) := by rw [hq]
      rw [Rat.intCast_mul, Rat.intCast_mul, Rat.intCast_mul] at hq2
      have f1 := rdm (a := (n' : Rat)) d0'
      have f2 := rdm (a := (n : Rat)) d0
      generalize (n' : Rat) / (d' : Rat) = r' at *
      generalize (n : Rat) / (d : Rat) = r at *
      rw [← f1, ← f2] at hq2
      have f4 : (d : Rat) * ((d' : Rat) * (r' * (Q j : Rat) - r)) = 0 := by grind
      rcases Rat.mul_eq_zero.1 f4 with h | h
      · grind
      · rcases Rat.mul_eq_zero.1 h with h | h
        · grind
        · exact h
    · unfold lnOf
      rw [if_neg hk]
      exact a1.add (a2.times j)
/-- Its bounds. -/
theorem log_bound {n' d' k : Int} (h : NearOne n' d') {B N N2 : Nat} (hB : 16 ≤ B) (hN : IsStop (lnT n' d' B) N) (hN2 : IsStop (lnT 2 1 B) N2) (K : Int) (hk1 : -K ≤ k) (hk2 : k ≤ K) :
    let o := lnOf (doneI (lnT n' d' B) N) (doneI (lnT 2 1 B) N2) k
    o.1 ≤ o.2 ∧ Abs o ((K + 1) * (4 * Q B)) ∧ o.2 - o.1 ≤ (K + 1) * (2 * (((B : Int) / 3 + 2) * 6 + 2)) := by
  obtain ⟨a1, a2, a3, a4⟩ := ln_bound h hB hN
  obtain ⟨b1, b2, b3, b4⟩ := ln_bound near2 hB hN2
  intro o
  have q := Q_pos B
  obtain ⟨W, hW⟩ : ∃ W : Int, W = ((B : Int) / 3 + 2) * 6 + 2 := ⟨_, rfl⟩
  have a5 : (doneI (lnT n' d' B) N).2 - (doneI (lnT n' d' B) N).1 ≤ W := by omega
  have b5 : (doneI (lnT 2 1 B) N2).2 - (doneI (lnT 2 1 B) N2).1 ≤ W := by omega
  rw [← hW]
  have ho : o = lnOf (doneI (lnT n' d' B) N) (doneI (lnT 2 1 B) N2) k := rfl
  clear_value o
  subst ho
  generalize doneI (lnT n' d' B) N = x at *
  generalize doneI (lnT 2 1 B) N2 = y at *
  obtain ⟨x1, x2, x3, x4⟩ := a2
  obtain ⟨y1, y2, y3, y4⟩ := b2
  clear a3 a4 b3 b4
  have hK : 0 ≤ K := by omega
  have eK : (K + 1) * (4 * Q B) = K * (4 * Q B) + 4 * Q B := by rw [Int.add_mul, Int.one_mul]
  have eW : (K + 1) * (2 * W) = K * (2 * W) + 2 * W := by rw [Int.add_mul, Int.one_mul]
  rw [eK, eW]
  have hj : ∀ j : Int, 0 ≤ j → j ≤ K → y.1 * 2 * j ≤ y.2 * 2 * j ∧ -(K * (4 * Q B)) ≤ y.1 * 2 * j ∧ y.1 * 2 * j ≤ K * (4 * Q B) ∧ -(K * (4 * Q B)) ≤ y.2 * 2 * j ∧ y.2 * 2 * j ≤ K * (4 * Q B) ∧ y.2 * 2 * j - y.1 * 2 * j ≤ K * (2 * W) := fun j j0 jK => by
    have c1 := abs_mul (x := y.1 * 2) (m := 4 * Q B) (by omega) (by omega) (show -K ≤ j by omega) jK
    have c2 := abs_mul (x := y.2 * 2) (m := 4 * Q B) (by omega) (by omega) (show -K ≤ j by omega) jK
    have c3 := Int.mul_le_mul_of_nonneg_right (show y.1 * 2 ≤ y.2 * 2 by omega) j0
    have c4 := Int.mul_le_mul (show y.2 * 2 - y.1 * 2 ≤ 2 * W by omega) jK j0 (by omega)
    rw [Int.sub_mul] at c4
    have e1 : 4 * Q B * K = K * (4 * Q B) := Int.mul_comm _ _
    have e2 : 2 * W * K = K * (2 * W) := Int.mul_comm _ _
    omega
  unfold lnOf
  split
  · obtain ⟨c1, c2, c3, c4, c5, c6⟩ := hj (-k) (by omega) (by omega)
    simp only [subI, timesI, Abs]
    omega
  · obtain ⟨c1, c2, c3, c4, c5, c6⟩ := hj k (by omega) (by omega)
    simp only [addI, timesI, Abs]
    omega
end Go.Proofs.Ytgmnknmjainabaa

namespace Go.Proofs.Ytgmnknmjainabaa
set_option linter.unusedVariables false
open Ex

/-- What is left out is at most 1. -/
def doneT (f : Nat → Int × Int) (N : Nat) : Int × Int := addI (sumI f N) (-1, 1)
theorem Iv.mono {B : Nat} {a b : Int × Int} {x : Nat → Rat} (h : Iv B a x) (h1 : b.1 ≤ a.1) (h2 : a.2 ≤ b.2) : Iv B b x := by
  have q := Qr_pos B
  exact Has.mono h (rdiv_le q (by rw [rdm q]; exact cast_le h1)) (rdiv_le q (by rw [rdm q]; exact cast_le h2))
theorem doneT_has {B N : Nat} {f : Nat → Int × Int} {x : Nat → Rat} (h : Iv B (doneI f N) x) (hr : reachI (f N) ≤ 1) : Iv B (doneT f N) x := by
  refine h.mono ?_ ?_ <;> simp only [doneT, doneI, addI] <;> omega
theorem low_abs {b : Nat} {X : Int} (h0 : 0 ≤ X) (h1 : X ≤ Q b) (n : Nat) : Abs (expT b (X, X) (n + 1)) (Q (b - n)) := by
  have hX : Abs (X, X) (Q b) := ⟨by simp only []; omega, by simp only []; omega, by simp only []; omega, by simp only []; omega⟩
  induction n with
  | zero =>
    have h2 : Abs (expT b (X, X) 0) (Q b) := by have := Q_pos b; exact ⟨by simp [expT]; omega, by simp [expT], by simp [expT]; omega, by simp [expT]⟩
    exact scaleI_abs (mulI_abs h2 hX (Int.le_refl _)) (by omega) (by omega) (by omega)
  | succ n ih =>
    have h2 : Abs (mulI b (expT b (X, X) (n + 1)) (X, X)) (Q (b - n)) := mulI_abs ih hX (Int.le_refl _)
    obtain ⟨g1, g2, g3, g4⟩ := h2
    have q := Q_pos (b - (n + 1))
    have hq : Q (b - n) ≤ Q (b - (n + 1)) * ((n + 1 : Nat) + 1 : Int) := by
      by_cases hb : b - n = 0
      · have e : b - (n + 1) = 0 := by omega
        rw [hb, e]; simp [Q]; omega
      · have e : b - n = b - (n + 1) + 1 := by omega
        rw [e]
        have e2 : Q (b - (n + 1) + 1) = 2 * Q (b - (n + 1)) := rfl
        rw [e2]
        have := Int.mul_le_mul_of_nonneg_left (show (2 : Int) ≤ ((n + 1 : Nat) + 1 : Int) by omega) (show 0 ≤ Q (b - (n + 1)) by omega)
        omega
    have d0 : (0 : Int) < ((n + 1 : Nat) + 1 : Int) := by omega
    have r1 := round_abs (x := (mulI b (expT b (X, X) (n + 1)) (X, X)).1 * 1) (m := Q (b - (n + 1))) d0 (by omega) (by omega)
    have r2 := round_abs (x := (mulI b (expT b (X, X) (n + 1)) (X, X)).2 * 1) (m := Q (b - (n + 1))) d0 (by omega) (by omega)
    exact ⟨r1.1, r1.2.1, r2.2.2.1, r2.2.2.2⟩
theorem low_absB {b : Nat} {X : Int} (h0 : 0 ≤ X) (h1 : X ≤ Q b) (n : Nat) : Abs (expT b (X, X) n) (Q b) := by
  cases n with
  | zero => have := Q_pos b; exact ⟨by simp [expT]; omega, by simp [expT], by simp [expT]; omega, by simp [expT]⟩
  | succ n => exact (low_abs h0 h1 n).mono (Q_mono (by omega))
/-- Where tailsureref.lowExp ends. -/
def LowStop (f : Nat → Int × Int) (N : Nat) : Prop := 3 ≤ N ∧ reachI (f N) ≤ 1 ∧ ∀ n, 3 ≤ n → n < N → 1 < reachI (f n)
theorem low_stop {b : Nat} {X : Int} (h0 : 0 ≤ X) (h1 : X ≤ Q b) : ∃ N, N ≤ b + 4 ∧ LowStop (expT b (X, X)) N := by
  have h2 : 3 ≤ b + 4 ∧ reachI (expT b (X, X) (b + 4)) ≤ 1 := by
    refine ⟨by omega, ?_⟩
    have := abs_reach (low_abs h0 h1 (b + 3))
    have e : b - (b + 3) = 0 := by omega
    rw [e] at this; exact this
  obtain ⟨N, n1, n2, n3⟩ := exists_least (p := fun n => 3 ≤ n ∧ reachI (expT b (X, X) n) ≤ 1) h2
  exact ⟨N, n1, n2.1, n2.2, fun n h3 hn => by have := n3 n hn; simp at this; have := this h3; omega⟩
/-- The ends are not below 0. -/
theorem low_nonneg {b : Nat} {X : Int} (h0 : 0 ≤ X) (n : Nat) : 0 ≤ (expT b (X, X) n).1 := by
  induction n with
  | zero => have := Q_pos b; simp only [expT]; omega
  | succ n ih =>
    have hle := expT_le b (X, X) n
    have q := Q_pos b
    have l := (least4 ((expT b (X, X) n).1 * X) ((expT b (X, X) n).1 * X) ((expT b (X, X) n).2 * X) ((expT b (X, X) n).2 * X)).2.2.2.2
    have p1 := Int.mul_nonneg ih h0
    have p2 := Int.mul_nonneg (show 0 ≤ (expT b (X, X) n).2 by omega) h0
    have h3 : 0 ≤ (mulI b (expT b (X, X) n) (X, X)).1 := by
      simp only [mulI]
      refine Int.ediv_nonneg ?_ (by omega)
      rcases l with l | l | l | l <;> rw [l] <;> assumption
    simp only [expT, scaleI]
    exact Int.ediv_nonneg (by omega) (by omega)
theorem low_sum {b : Nat} {X : Int} (h0 : 0 ≤ X) (n : Nat) : Q b ≤ (sumI (expT b (X, X)) n).1 := by
  induction n with
  | zero => simp [sumI, expT]
  | succ n ih => simp only [sumI, addI]; have := low_nonneg (b := b) h0 (n + 1); omega
theorem low_sumabs {b : Nat} {X : Int} (h0 : 0 ≤ X) (h1 : X ≤ Q b) (n : Nat) : Abs (sumI (expT b (X, X)) n) (((n : Int) + 1) * Q b) := by
  induction n with
  | zero => simp only [sumI]; exact (low_absB h0 h1 0).mono (by simp)
  | succ n ih =>
    simp only [sumI]
    refine (ih.add (low_absB h0 h1 (n + 1))).mono ?_
    have : (((n + 1 : Nat) : Int) + 1) * Q b = ((n : Int) + 1) * Q b + Q b := by
      have e : (((n + 1 : Nat) : Int) + 1) = ((n : Int) + 1) + 1 := by omega
      rw [e, Int.add_mul, Int.one_mul]
    omega
theorem tm_half1 {x b : Rat} (hx : AB x 1) {n : Nat} (hn : 1 ≤ n) (h : AB (tm x n) b) : AB (tm x (n + 1)) (b / 2) := by
  have e := tm_succ x n
  have hp := pos1 n
  have g := hx.mul h
  rw [← e] at g
  have e3 : tm x (n + 1) = ((n : Rat) + 1) * tm x (n + 1) / ((n : Rat) + 1) := by grind
  rw [e3]
  refine rdiv_AB hp (g.mono ?_)
  have hn' : (1 : Rat) ≤ (n : Rat) := by exact_mod_cast hn
  have := Rat.mul_nonneg (show 0 ≤ (n : Rat) - 1 by grind) h.nonneg
  grind
/-- It has e to the power of X over 2 to the power of b. -/
theorem low_has {b N : Nat} {X : Int} (h0 : 0 ≤ X) (h1 : X ≤ Q b) (hN : LowStop (expT b (X, X)) N) : Iv b (doneT (expT b (X, X)) N) (Ev (fun _ => (X : Rat) / (Q b : Rat))) := by
  have q := Qr_pos b
  have hX : Iv b (X, X) (fun _ => (X : Rat) / (Q b : Rat)) := Has.const Rat.le_refl Rat.le_refl
  have hx : AB ((X : Rat) / (Q b : Rat)) 1 := by
    refine rdiv_AB q ?_
    have c1 : ((0 : Int) : Rat) ≤ (X : Rat) := cast_le h0
    have c2 := cast_le h1
    have c0 : ((0 : Int) : Rat) = 0 := rfl
    rw [c0] at c1
    constructor <;> grind
  refine doneT_has ?_ hN.2.1
  exact done_has (expT_le b (X, X)) (fun n _ => expT_has hX n) 0 (fun M _ n c hn hc => tm_half1 hx (by have := hN.1; omega) hc)
end Go.Proofs.Ytgmnknmjainabaa

namespace Go.Proofs.Ytgmnknmjainabaa
set_option linter.unusedVariables false
open Ex

theorem doneT_le {f : Nat → Int × Int} (hle : ∀ n, (f n).1 ≤ (f n).2) (n : Nat) : (doneT f n).1 ≤ (doneT f n).2 := by
  have := sum_le hle n
  simp only [doneT, addI]; omega
theorem low_low {b : Nat} {X : Int} (h0 : 0 ≤ X) (N : Nat) : Q b - 1 ≤ (doneT (expT b (X, X)) N).1 := by
  have := low_sum (b := b) h0 N
  simp only [doneT, addI]; omega
/-- The sum is less than four times 1. -/
theorem low_up {b N : Nat} {X : Int} (h0 : 0 ≤ X) (h1 : X ≤ Q b) (hN : LowStop (expT b (X, X)) N) : (sumI (expT b (X, X)) N).2 + Q (b - (N - 1)) ≤ 3 * Q b + 3 := by
  have key : ∀ n, n + 1 ≤ N → (sumI (expT b (X, X)) (n + 1)).2 + Q (b - n) ≤ 3 * Q b + (if n ≥ 3 then 3 else n) := fun n => by
    induction n with
    | zero =>
      intro _
      have g0 := (low_absB h0 h1 0).2.2.2
      have g1 : (expT b (X, X) 1).2 ≤ Q b := (low_abs h0 h1 0).2.2.2
      simp only [sumI, addI, Nat.sub_zero]
      simp
      omega
    | succ n ih =>
      intro hn
      have ih := ih (by omega)
      have g := (low_abs h0 h1 (n + 1)).2.2.2
      have e : (sumI (expT b (X, X)) (n + 1 + 1)).2 = (sumI (expT b (X, X)) (n + 1)).2 + (expT b (X, X) (n + 1 + 1)).2 := rfl
      rw [e]
      by_cases hb : 1 ≤ b - n
      · have e2 : Q (b - n) = 2 * Q (b - (n + 1)) := by
          have : b - n = b - (n + 1) + 1 := by omega
          rw [this]; rfl
        split at ih <;> split <;> omega
      · -- then what came last was within 1 already
        have e3 : b - n = 0 := by omega
        have e4 : b - (n + 1) = 0 := by omega
        rw [e3] at ih
        rw [e4] at g ⊢
        have h2 : Q 0 = 1 := rfl
        by_cases h3 : 3 ≤ n + 1
        · exfalso
          have := hN.2.2 (n + 1) h3 (by omega)
          have h4 := abs_reach (low_abs h0 h1 n)
          rw [e3] at h4
          omega
        · split at ih <;> split <;> omega
  obtain ⟨n, rfl⟩ : ∃ n, N = n + 1 := ⟨N - 1, by have := hN.1; omega⟩
  have := key n (Nat.le_refl _)
  simp only [Nat.add_sub_cancel]
  split at this <;> omega
theorem low_box {b N : Nat} {X : Int} (hb : 4 ≤ b) (h0 : 0 ≤ X) (h1 : X ≤ Q b) (hN : LowStop (expT b (X, X)) N) : Abs (doneT (expT b (X, X)) N) (Q (b + 2)) := by
  have g1 := low_low (b := b) h0 N
  have g2 := low_up h0 h1 hN
  have g3 := doneT_le (expT_le b (X, X)) N
  have q := Q_pos (b - (N - 1))
  have q2 := Q_mono hb
  have e : Q 4 = 16 := rfl
  have e2 : Q (b + 2) = 2 * (2 * Q b) := rfl
  have g4 : (doneT (expT b (X, X)) N).2 = (sumI (expT b (X, X)) N).2 + 1 := rfl
  exact ⟨by omega, by omega, by omega, by omega⟩
/-- Products of what is nearly 1 or more. -/
theorem mul_low {B : Nat} {a c : Int × Int} {α β : Int} (ha : Q B - α ≤ a.1) (hc : Q B - β ≤ c.1) (la : a.1 ≤ a.2) (lc : c.1 ≤ c.2) (a0 : 0 ≤ Q B - α) (c0 : 0 ≤ Q B - β) (hα : 0 ≤ α) (hβ : 0 ≤ β) : Q B - α - β ≤ (mulI B a c).1 := by
  have q := Q_pos B
  have l := (least4 (a.1 * c.1) (a.1 * c.2) (a.2 * c.1) (a.2 * c.2)).2.2.2.2
  have p1 := Int.mul_le_mul ha hc c0 (by omega)
  have p2 := Int.mul_le_mul ha (show Q B - β ≤ c.2 by omega) c0 (by omega)
  have p3 := Int.mul_le_mul (show Q B - α ≤ a.2 by omega) hc c0 (by omega)
  have p4 := Int.mul_le_mul (show Q B - α ≤ a.2 by omega) (show Q B - β ≤ c.2 by omega) c0 (by omega)
  have e : (Q B - α) * (Q B - β) = (Q B - α - β) * Q B + α * β := by grind
  have ab := Int.mul_nonneg hα hβ
  simp only [mulI]
  rw [Int.le_ediv_iff_mul_le (by omega)]
  omega
/-- Where tailsureref.Raised is: of e itself. -/
def EInv (B n : Nat) (m : Nat) (o c : Int × Int) : Prop :=
  ∃ j e : Nat, j + e * m = n ∧ 1 ≤ e ∧ e ≤ 2 * n + 1 ∧ Iv B o (Ev (fun _ => (j : Rat))) ∧ Iv B c (Ev (fun _ => (e : Rat))) ∧ Abs o (Q (B + 2 * j)) ∧ Abs c (Q (B + 2 * e)) ∧ o.1 ≤ o.2 ∧ c.1 ≤ c.2 ∧ Q B - 2 * (j : Int) ≤ o.1 ∧ Q B - (2 * (e : Int) - 1) ≤ c.1
theorem ev_nat (i j : Nat) : Null (fun M => Ev (fun _ => (i : Rat)) M * Ev (fun _ => (j : Rat)) M - Ev (fun _ => ((i + j : Nat) : Rat)) M) := by
  have n := Ev_add (Bdd.const (i : Rat)) (Bdd.const (j : Rat))
  have e : (fun _ : Nat => (i : Rat) + (j : Rat)) = fun _ => ((i + j : Nat) : Rat) := funext fun _ => by simp
  rw [e] at n; exact n
theorem einv_step {B n m : Nat} {o c : Int × Int} (hB : 20 ≤ B) (hn : n ≤ 2000) (hm : 0 < m) (h : EInv B n m o c) :
    EInv B n (m / 2) (if m % 2 = 1 then mulI B o c else o) (mulI B c c) ∧ Abs (mulI B c c) (Q (B + 4 * (2 * n + 1))) ∧ (m % 2 = 1 → Abs (mulI B o c) (Q (B + 2 * n))) := by
  obtain ⟨j, e, h1, h2, h3, h4, h5, h6, h7, h8, h9, h10, h11⟩ := h
  have hem : e ≤ n := by
    have := Nat.mul_le_mul_left e hm
    omega
  have hQ : 1048576 ≤ Q B := by have := Q_mono hB; have e : Q 20 = 1048576 := rfl; omega
  have habs : ∀ p q r : Nat, ∀ u v : Int × Int, p + q = r → Abs u (Q (B + 2 * p)) → Abs v (Q (B + 2 * q)) → Abs (mulI B u v) (Q (B + 2 * r)) := fun p q r u v hr hu hv => by
    refine mulI_abs hu hv ?_
    rw [← Q_add, ← Q_add]
    exact Q_mono (by omega)
  have hcc := habs e e (2 * e) c c (by omega) h7 h7
  have hsq : Iv B (mulI B c c) (Ev (fun _ => ((2 * e : Nat) : Rat))) := by
    have : Iv B (mulI B c c) (Ev (fun _ => ((e + e : Nat) : Rat))) := (h5.mul h5).congr ((ev_nat e e).neg.of_eq fun M => by grind)
    rw [show e + e = 2 * e by omega] at this
    exact this
  have hlow : Q B - (2 * ((2 * e : Nat) : Int) - 1) ≤ (mulI B c c).1 := by
    have := mul_low (B := B) h11 h11 h9 h9 (by omega) (by omega) (by omega) (by omega)
    omega
  refine ⟨?_, hcc.mono (Q_mono (by omega)), fun hodd => ?_⟩
  · by_cases hodd : m % 2 = 1
    · rw [if_pos hodd]
      have hme : e * m = 2 * e * (m / 2) + e := by
        have : m = 2 * (m / 2) + 1 := by omega
        have e1 : e * m = e * (2 * (m / 2) + 1) := by rw [← this]
        rw [e1, Nat.mul_add, Nat.mul_one, ← Nat.mul_assoc, Nat.mul_comm e 2]
      refine ⟨j + e, 2 * e, by omega, by omega, by omega, ?_, hsq, habs j e (j + e) o c rfl h6 h7, hcc, mulI_le B, mulI_le B, ?_, hlow⟩
      · exact (h4.mul h5).congr ((ev_nat j e).neg.of_eq fun M => by grind)
      · have hj : j ≤ n := by omega
        have := mul_low (B := B) h10 h11 h8 h9 (by omega) (by omega) (by omega) (by omega)
        omega
    · rw [if_neg hodd]
      have hme : e * m = 2 * e * (m / 2) := by
        have : m = 2 * (m / 2) := by omega
        have e1 : e * m = e * (2 * (m / 2)) := by rw [← this]
        rw [e1, ← Nat.mul_assoc, Nat.mul_comm e 2]
      exact ⟨j, 2 * e, by omega, by omega, by omega, h4, hsq, h6, hcc, h8, mulI_le B, h10, hlow⟩
  · have hje : j + e ≤ n := by
      have := Nat.mul_le_mul_left e (show 1 ≤ m by omega)
      omega
    exact (habs j e (j + e) o c rfl h6 h7).mono (Q_mono (by omega))
theorem einv_start {B N n : Nat} (hB : 20 ≤ B) (hN : LowStop (expT B (Q B, Q B)) N) : EInv B n n (Q B, Q B) (doneT (expT B (Q B, Q B)) N) := by
  have q := Q_pos B
  have qr := Qr_pos B
  have e1 : (Q B : Rat) / (Q B : Rat) = 1 := by rw [Rat.div_def, Rat.mul_inv_cancel _ (by grind)]
  refine ⟨0, 1, by omega, by omega, by omega, ?_, ?_, ?_, low_box (by omega) (by omega) (Int.le_refl _) hN, Int.le_refl _, doneT_le (expT_le _ _) N, by simp, ?_⟩
  · have h : Iv B (Q B, Q B) (fun _ => (1 : Rat)) := by
      have := Has.const (a := (Q B : Rat) / (Q B : Rat)) (b := (Q B : Rat) / (Q B : Rat)) (c := 1) (by rw [e1]; exact Rat.le_refl) (by rw [e1]; exact Rat.le_refl)
      exact this
    refine h.congr (null_zero.of_eq_from 1 fun M hM => ?_)
    obtain ⟨m, rfl⟩ : ∃ m, M = m + 1 := ⟨M - 1, by omega⟩
    show E ((0 : Nat) : Rat) (m + 1) - 1 = 0
    have : ((0 : Nat) : Rat) = 0 := by simp
    rw [this, E_zero]; grind
  · have := low_has (b := B) (X := Q B) (by omega) (Int.le_refl _) hN
    rw [e1] at this
    have e2 : ((1 : Nat) : Rat) = 1 := rfl
    rw [e2]; exact this
  · exact ⟨by simp; omega, by simp, by simp; omega, by simp⟩
  · have := low_low (b := B) (X := Q B) (by omega) N
    simp; omega
/-- Its end. -/
theorem einv_end {B n : Nat} {o c : Int × Int} (h : EInv B n 0 o c) : Iv B o (Ev (fun _ => (n : Rat))) ∧ Abs o (Q (B + 2 * n)) ∧ o.1 ≤ o.2 ∧ Q B - 2 * (n : Int) ≤ o.1 := by
  obtain ⟨j, e, h1, h2, h3, h4, h5, h6, h7, h8, h9, h10, h11⟩ := h
  have : j = n := by omega
  subst this
  exact ⟨h4, h6, h8, h10⟩
/-- The whole part, and the rest. -/
theorem expR_has {B n N : Nat} {X : Int} {o : Int × Int} (hB : 20 ≤ B) (hX : X / Q B = (n : Int)) (h0 : 0 ≤ X) (hn : n ≤ 2000) (ho : Iv (B + 40) o (Ev (fun _ => (n : Rat)))) (ha : Abs o (Q (B + 40 + 2 * n))) (hle : o.1 ≤ o.2) (hlo : Q (B + 40) - 2 * (n : Int) ≤ o.1)
    (hN : LowStop (expT (B + 40) ((X - n * Q B) * Q 40, (X - n * Q B) * Q 40)) N) (hY0 : 0 ≤ (X - n * Q B) * Q 40) (hY1 : (X - n * Q B) * Q 40 ≤ Q (B + 40)) :
    let p := mulI (B + 40) o (doneT (expT (B + 40) ((X - n * Q B) * Q 40, (X - n * Q B) * Q 40)) N)
    Iv B (downI p 40) (Ev (fun _ => (X : Rat) / (Q B : Rat))) ∧ Abs p (Q (B + 40 + 2 * (n + 1))) ∧ p.1 ≤ p.2 ∧ Q B - 1 ≤ (downI p 40).1 := by
  intro p
  have qB := Qr_pos B
  have q40 := Qr_pos 40
  have hl := low_has hY0 hY1 hN
  have hm := ho.mul hl
  have n1 := Ev_add (Bdd.const (n : Rat)) (Bdd.const (((X - n * Q B) * Q 40 : Int) / (Q (B + 40) : Rat)))
  have e : (fun _ : Nat => (n : Rat) + (((X - n * Q B) * Q 40 : Int) : Rat) / (Q (B + 40) : Rat)) = fun _ => (X : Rat) / (Q B : Rat) := funext fun _ => by
    have e1 : (Q (B + 40) : Rat) = (Q B : Rat) * (Q 40 : Rat) := by rw [Q_add, Rat.intCast_mul]
    have e2 : (((X - n * Q B) * Q 40 : Int) : Rat) = ((X : Rat) - (n : Rat) * (Q B : Rat)) * (Q 40 : Rat) := by
      rw [Rat.intCast_mul, Rat.intCast_sub, Rat.intCast_mul]; rfl
    have f1 := rdm (a := (X : Rat)) qB
    have f2 := rdm (a := (((X - n * Q B) * Q 40 : Int) : Rat)) (show (0 : Rat) < (Q (B + 40) : Rat) from Qr_pos _)
    rw [e1, e2] at f2 ⊢
    generalize (X : Rat) / (Q B : Rat) = x at *
    generalize ((X : Rat) - (n : Rat) * (Q B : Rat)) * (Q 40 : Rat) / ((Q B : Rat) * (Q 40 : Rat)) = y at *
    -- y QB Q40 = (x QB - n QB) Q40
    have f3 : (Q 40 : Rat) * ((Q B : Rat) * (y - (x - n))) = 0 := by rw [← f1] at f2; grind
    rcases Rat.mul_eq_zero.1 f3 with h | h
    · grind
    · rcases Rat.mul_eq_zero.1 h with h | h
      · grind
      · grind
  rw [e] at n1
  have hp : Iv (B + 40) p (Ev (fun _ => (X : Rat) / (Q B : Rat))) := hm.congr (n1.neg.of_eq fun M => by grind)
  have hd := low_low (b := B + 40) hY0 N
  have hdl := doneT_le (expT_le (B + 40) ((X - n * Q B) * Q 40, (X - n * Q B) * Q 40)) N
  have hq : 1048576 ≤ Q (B + 40) := by have := Q_mono (show 20 ≤ B + 40 by omega); have e : Q 20 = 1048576 := rfl; omega
  have hlow : Q (B + 40) - 2 * (n : Int) - 1 ≤ p.1 := mul_low hlo hd hle hdl (by omega) (by omega) (by omega) (by omega)
  refine ⟨hp.to, ?_, mulI_le _, ?_⟩
  · refine mulI_abs ha (low_box (by omega) hY0 hY1 hN) ?_
    rw [← Q_add, ← Q_add]
    exact Q_mono (by omega)
  · show Q B - 1 ≤ p.1 / Q 40
    have e40 : Q 40 = 1099511627776 := rfl
    have eB : Q (B + 40) = Q B * Q 40 := Q_add B 40
    rw [Int.le_ediv_iff_mul_le (by rw [e40]; omega), Int.sub_mul, ← eB]
    omega
end Go.Proofs.Ytgmnknmjainabaa

namespace Go.Proofs.Ytgmnknmjainabaa
set_option linter.unusedVariables false
open Ex

namespace Ex
theorem has_inv {a b L H : Rat} {y z : Nat → Rat} (hy : Has a b y) (ha : 0 < a) (hz : Null (fun M => z M * y M - 1)) (N0 : Nat) (hz0 : ∀ M, N0 ≤ M → 0 ≤ z M) (h1 : L * b ≤ 1) (h2 : 1 ≤ H * a) : Has L H z := fun e he => by
  have hab := hy.le
  have hb : 0 < b := by grind
  obtain ⟨l, hl⟩ := AB.self L
  obtain ⟨h, hh⟩ := AB.self H
  have l0 := hl.nonneg
  have h0 := hh.nonneg
  obtain ⟨hl1, hl2⟩ := hl
  obtain ⟨hh1, hh2⟩ := hh
  have hK : 0 < 2 * (l + h + e + 1) := by grind
  have hae := Rat.mul_pos he ha
  have hδ := rdiv_pos hae hK
  have hδe := rdm (a := e * a) hK
  obtain ⟨N1, k1⟩ := hy _ hδ
  obtain ⟨N2, k2⟩ := hz _ hδ
  refine ⟨N0 + N1 + N2, fun M hM => ?_⟩
  obtain ⟨y1, y2⟩ := k1 M (by omega)
  obtain ⟨z1, z2⟩ : AB (z M * y M - 1) (e * a / (2 * (l + h + e + 1))) := k2 M (by omega)
  have zp := hz0 M (by omega)
  generalize e * a / (2 * (l + h + e + 1)) = δ at *
  generalize z M = Z at *
  generalize y M = Y at *
  have hd2 : δ * (2 * (l + h + e + 1)) = 2 * (δ * l) + 2 * (δ * h) + 2 * (δ * e) + 2 * δ := by grind
  rw [hd2] at hδe
  have p1 := Rat.mul_nonneg (Rat.le_of_lt hδ) l0
  have p2 := Rat.mul_nonneg (Rat.le_of_lt hδ) h0
  have p3 := Rat.mul_pos hδ he
  have p4 := Rat.mul_nonneg (Rat.le_of_lt he) (show 0 ≤ b - a by grind)
  constructor
  · refine Rat.not_lt.1 fun hn => ?_
    -- Z < L - e; Z Y <= Z (b + δ) <= (L - e) (b + δ)
    have q1 := Rat.mul_nonneg zp (show 0 ≤ b + δ - Y by grind)
    have q2 := Rat.mul_pos (show 0 < L - e - Z by grind) (show 0 < b + δ by grind)
    have q3 : L * δ ≤ δ * l := by
      have := Rat.mul_nonneg (Rat.le_of_lt hδ) (show 0 ≤ l - L by grind)
      grind
    grind
  · refine Rat.not_lt.1 fun hn => ?_
    have q1 := Rat.mul_nonneg zp (show 0 ≤ Y - (a - δ) by grind)
    have q4 : δ < a := by
      refine Rat.not_le.1 fun hc => ?_
      have := Rat.mul_nonneg (show 0 ≤ δ - a by grind) (Rat.le_of_lt he)
      grind
    have q2 := Rat.mul_pos (show 0 < Z - (H + e) by grind) (show 0 < a - δ by grind)
    have q3 : H * δ ≤ δ * h := by
      have := Rat.mul_nonneg (Rat.le_of_lt hδ) (show 0 ≤ h - H by grind)
      grind
    grind
theorem has_between {a b c d : Rat} {u v x m n : Nat → Rat} (hu : Has a b u) (hv : Has c d v) (hm : Null m) (hn : Null n) (N : Nat) (h1 : ∀ M, N ≤ M → u M ≤ x M + m M) (N' : Nat) (h2 : ∀ M, N' ≤ M → x M ≤ v M + n M) : Has a d x := fun e he => by
  obtain ⟨N1, k1⟩ := hu (e / 2) (by grind)
  obtain ⟨N2, k2⟩ := hv (e / 2) (by grind)
  obtain ⟨N3, k3⟩ := hm (e / 2) (by grind)
  obtain ⟨N4, k4⟩ := hn (e / 2) (by grind)
  refine ⟨N + N' + N1 + N2 + N3 + N4, fun M hM => ?_⟩
  have g1 := k1 M (by omega)
  have g2 := k2 M (by omega)
  obtain ⟨g3, g4⟩ := k3 M (by omega)
  obtain ⟨g5, g6⟩ := k4 M (by omega)
  have g7 := h1 M (by omega)
  have g8 := h2 M (by omega)
  constructor <;> grind
end Ex
/-- 1 over a power of e. -/
theorem inv_has {B : Nat} {p : Int × Int} {x : Rat} {lo hi : Int} (hp : 0 < p.1) (h : Iv B p (Ev (fun _ => -x))) (h1 : lo * p.2 ≤ Q B * Q B) (h2 : Q B * Q B ≤ hi * p.1) : Iv B (lo, hi) (Ev (fun _ => x)) := by
  have q := Qr_pos B
  obtain ⟨c, hc, N, hN⟩ := Ev_low (Bdd.const x)
  have hz := Ev_inv (Bdd.const x)
  have q2 := Rat.mul_pos q q
  have hp' : (0 : Rat) < (p.1 : Rat) := by exact_mod_cast hp
  refine has_inv h (rdiv_pos hp' q) hz N (fun M hM => by have := hN M hM; grind) ?_ ?_
  · have e1 := rdm (a := (lo : Rat)) q
    have e2 := rdm (a := (p.2 : Rat)) q
    have g := cast_le h1
    rw [Rat.intCast_mul, Rat.intCast_mul] at g
    simp only []
    generalize (lo : Rat) / (Q B : Rat) = u at *
    generalize (p.2 : Rat) / (Q B : Rat) = v at *
    rw [← e1, ← e2] at g
    refine Rat.not_lt.1 fun hn => ?_
    have := Rat.mul_pos (show 0 < u * v - 1 by grind) q2
    grind
  · have e1 := rdm (a := (hi : Rat)) q
    have e2 := rdm (a := (p.1 : Rat)) q
    have g := cast_le h2
    rw [Rat.intCast_mul, Rat.intCast_mul] at g
    simp only []
    generalize (hi : Rat) / (Q B : Rat) = u at *
    generalize (p.1 : Rat) / (Q B : Rat) = v at *
    rw [← e1, ← e2] at g
    refine Rat.not_lt.1 fun hn => ?_
    have := Rat.mul_pos (show 0 < 1 - u * v by grind) q2
    grind
end Go.Proofs.Ytgmnknmjainabaa
