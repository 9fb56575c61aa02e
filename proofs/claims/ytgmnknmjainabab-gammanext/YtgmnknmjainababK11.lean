/-
  The gamma function: what its parts come to. Plain arithmetic: no statement of the seat is proved here.
  The gamma function of all that is more than 0: that of what is 1 more, that of 1; and logarithms of what is told by sequences. Plain arithmetic: no statement of the seat is proved here.
  What the ways that wide.Div hands to wide.corners answer, and wide.corners of them, and that they leave old memory alone.
  What wide.Div answers of right spans, the second one more than 0, and that it leaves old memory alone.
  What wide.Div answers of right spans, the second one less than 0; and both ways together; and that it leaves old memory alone.
-/
import Derived.Test.YtgmnknmjainababK10
namespace Go.Proofs.Ytgmnknmjainabab.Ex
set_option linter.unusedVariables false

theorem div_eq_mul {h t : Rat} (ht : 0 < t) : t * (1 + h / t) = t + h := by
  have := rdm (a := h) ht
  have e : t * (1 + h / t) = t + h / t * t := by grind
  rw [e, this]
theorem div_bd {h t x i : Rat} (hh : 0 ≤ h) (ht : x ≤ t) (t0 : 0 < t) (i0 : 0 ≤ i) (ix : i * x = 1) : h / t ≤ h * i := by
  refine qdiv_le t0 ?_
  have m := Rat.mul_le_mul_of_nonneg_left ht (Rat.mul_nonneg hh i0)
  have e : h * i * x = h * (i * x) := by grind
  rw [e, ix] at m
  grind
theorem mul_bd {h x i D : Rat} (i0 : 0 ≤ i) (ix : i * x = 1) (h1 : h ≤ D * x) : h * i ≤ D := by
  have m := Rat.mul_le_mul_of_nonneg_right h1 i0
  have e : D * x * i = D * (i * x) := by grind
  rw [e, ix] at m
  grind
/-- With more x it is not less. -/
theorem uG_mono {L : Rat → Nat → Rat} (hL : Lns L) {a x y : Rat} (ha : 0 < a) (hx : 0 < x) (hxy : x ≤ y) : LeN (uG L a x) (uG L a y) := by
  obtain ⟨C, D, C0, D0, D16, tan⟩ := uG_tan hL ha (show 0 < y by grind)
  have ix := rdm (a := 1) hx
  have ip : 0 < 1 / x := rdiv_pos (by grind) hx
  obtain ⟨i, hi⟩ : ∃ i, i = 1 / x := ⟨_, rfl⟩
  rw [← hi] at ix ip
  have key := descend (f := fun t M => -uG L a t M) (a := x) (b := y) (C := C * (i * i)) (D := D * x) hxy (Rat.mul_nonneg C0 (sq_nonneg i)) (Rat.mul_pos D0 hx) (fun t h ht hh hD hb => by
    have t0 : 0 < t := by grind
    have um := rdm (a := h) t0
    have u0 : 0 < h / t := rdiv_pos hh t0
    have uh : h / t ≤ h * i := div_bd (Rat.le_of_lt hh) ht t0 (Rat.le_of_lt ip) ix
    have hiD : h * i ≤ D := mul_bd (Rat.le_of_lt ip) ix hD
    have l := tan t (h / t) t0 (by grind) ⟨by grind, by grind⟩
    rw [div_eq_mul t0] at l
    obtain ⟨z, hz, kz⟩ := l.null
    obtain ⟨N, hN⟩ := (pr_nn hL t0 a).mul (ex_nn (-t))
    refine ⟨z, hz, N, fun M hM => ?_⟩
    have k := kz M
    have n := Rat.mul_nonneg (Rat.le_of_lt u0) (hN M hM)
    have m1 := Rat.mul_le_mul_of_nonneg_left uh (Rat.le_of_lt u0)
    have m2 := Rat.mul_le_mul_of_nonneg_right uh (Rat.mul_nonneg (Rat.le_of_lt hh) (Rat.le_of_lt ip))
    have m3 := Rat.mul_le_mul_of_nonneg_left (show h / t * (h / t) ≤ h * i * (h * i) by grind) C0
    simp only [] at k n
    have e : C * (h * i * (h * i)) = C * (i * i) * (h * h) := by grind
    rw [e] at m3
    generalize C * (h / t * (h / t)) = w1 at *
    generalize C * (i * i) * (h * h) = w2 at *
    generalize h / t * (pr L a t M * ex (-t) M) = w3 at *
    grind)
  intro e he
  obtain ⟨N, k⟩ := key e he
  exact ⟨N, fun M hM => by have := k M hM; simp only [] at this; grind⟩
/-- What is beyond x, at most. -/
def uE (L : Rat → Nat → Rat) (a x : Rat) (M : Nat) : Rat := pr L (a - 1) x M * ex (-x) M
theorem uE_bdd {L : Rat → Nat → Rat} (hL : Lns L) {x : Rat} (hx : 0 < x) (a : Rat) : Bdd (uE L a x) := (pr_bdd hL hx _).mul (ex_bdd _)
theorem uE_nn {L : Rat → Nat → Rat} (hL : Lns L) {x : Rat} (hx : 0 < x) (a : Rat) : Nn (uE L a x) := (pr_nn hL hx _).mul (ex_nn _)
theorem uG_bdd {L : Rat → Nat → Rat} (hL : Lns L) {a x : Rat} (ha : 0 < a) (hx : 0 < x) : Bdd (uG L a x) := ((pr_bdd hL hx _).mul (ex_bdd _)).mul (uS_Bdd ha (Rat.le_of_lt hx))
/-- x times it is x to the power of a, over e to the power of x. -/
theorem uE_mul {L : Rat → Nat → Rat} (hL : Lns L) {x : Rat} (hx : 0 < x) (a : Rat) : Null (fun M => x * uE L a x M - pr L a x M * ex (-x) M) := by
  have h1 := pr_add hL hx (a - 1) 1
  have h2 := (pr_one hL hx).bmul (pr_bdd hL hx (a - 1))
  have e : a - 1 + 1 = a := by grind
  rw [e] at h1
  refine ((h1.sub h2).bmul (ex_bdd (-x))).of_eq fun M => ?_
  unfold uE
  grind
theorem pr_neg_mono {L : Rat → Nat → Rat} (hL : Lns L) {c x y : Rat} (hc : c ≤ 0) (hx : 0 < x) (hxy : x ≤ y) : LeN (pr L c y) (pr L c x) := by
  have hy : 0 < y := by grind
  have le : LeN (L x) (L y) := fun e he => (hL x hx).le (hL y hy) null_zero 0 (fun M _ => by grind) e he
  obtain ⟨z, hz, kz⟩ := (le.cmul (c := -c) (by grind)).null
  obtain ⟨v, hv, N, kv⟩ := Ev_mono (pr_arg hL hy c) (pr_arg hL hx c) hz 0 (fun M _ => by have := kz M; grind)
  exact LeN.of_null hv N kv
/-- One step of what is up to x and beyond it. -/
theorem uE_step {L : Rat → Nat → Rat} (hL : Lns L) {a t h : Rat} (ha1 : a ≤ 1) (ht : 0 < t) (hh : 0 ≤ h) : LeN (fun M => (1 + h) * uE L a (t + h) M) (uE L a t) := by
  have l1 := pr_neg_mono hL (c := a - 1) (by grind) ht (show t ≤ t + h by grind)
  have l2 : LeN (fun M => (1 + h) * ex (-(t + h)) M) (ex (-t)) := by
    have l : LeN (fun _ => 1 + h) (ex h) := LeN.of_le 2 fun M hM => E_one1 hh hM
    refine (l.bmul (ex_bdd (-(t + h))) (ex_nn _)).trans ?_
    have s := ex_add h (-(t + h))
    refine LeN.of_eqN (s.of_eq fun M => ?_)
    have e : h + -(t + h) = -t := by grind
    rw [e]
  have l := l1.mul l2 ((Bdd.const (1 + h)).mul (ex_bdd _)) ((Nn.const (by grind)).mul (ex_nn _)) (pr_bdd hL ht _) (pr_nn hL ht _)
  refine LeN.trans (LeN.of_le 0 fun M _ => ?_) l
  unfold uE
  generalize pr L (a - 1) (t + h) M = p
  generalize ex (-(t + h)) M = q
  grind
/-- Up to x and beyond it, at most: with more x it is not more. -/
theorem uGE_anti {L : Rat → Nat → Rat} (hL : Lns L) {a x y : Rat} (ha : 0 < a) (ha1 : a ≤ 1) (hx : 0 < x) (hxy : x ≤ y) : LeN (fun M => uG L a y M + uE L a y M) (fun M => uG L a x M + uE L a x M) := by
  obtain ⟨C, D, C0, D0, D16, tan⟩ := uG_tan hL ha (show 0 < y by grind)
  have ix := rdm (a := 1) hx
  have ip : 0 < 1 / x := rdiv_pos (by grind) hx
  obtain ⟨i, hi⟩ : ∃ i, i = 1 / x := ⟨_, rfl⟩
  rw [← hi] at ix ip
  refine descend (f := fun t M => uG L a t M + uE L a t M) (a := x) (b := y) (C := C * (i * i)) (D := D * x) hxy (Rat.mul_nonneg C0 (sq_nonneg i)) (Rat.mul_pos D0 hx) (fun t h ht hh hD hb => ?_)
  have t0 : 0 < t := by grind
  obtain ⟨s, hs⟩ : ∃ s, s = t + h := ⟨_, rfl⟩
  have s0 : 0 < s := by grind
  have vm := rdm (a := h) s0
  have v0 : 0 < h / s := rdiv_pos hh s0
  have vh : h / s ≤ h * i := div_bd (Rat.le_of_lt hh) (show x ≤ s by grind) s0 (Rat.le_of_lt ip) ix
  have hiD : h * i ≤ D := mul_bd (Rat.le_of_lt ip) ix hD
  have l := tan s (-(h / s)) s0 (by grind) ⟨by grind, by grind⟩
  have e1 : s * (1 + -(h / s)) = t := by
    have : s * (1 + -(h / s)) = s - h / s * s := by grind
    rw [this, vm]; grind
  rw [e1] at l
  have l2 := uE_step hL ha1 t0 (Rat.le_of_lt hh)
  rw [← hs] at l2
  obtain ⟨z, hz, kz⟩ := (l.add l2).null
  have n := (uE_mul hL s0 a).bmul (Bdd.const (h / s))
  refine ⟨_, hz.add n.neg, 0, fun M _ => ?_⟩
  have k := kz M
  rw [← hs]
  have m1 := Rat.mul_le_mul_of_nonneg_left vh (Rat.le_of_lt v0)
  have m2 := Rat.mul_le_mul_of_nonneg_right vh (Rat.mul_nonneg (Rat.le_of_lt hh) (Rat.le_of_lt ip))
  have m3 := Rat.mul_le_mul_of_nonneg_left (show h / s * (h / s) ≤ h * i * (h * i) by grind) C0
  have e : C * (h * i * (h * i)) = C * (i * i) * (h * h) := by grind
  rw [e] at m3
  have e2 : -(h / s) * -(h / s) = h / s * (h / s) := by grind
  rw [e2] at k
  have e3 : (s * uE L a s M - pr L a s M * ex (-s) M) * (h / s) = h * uE L a s M - h / s * (pr L a s M * ex (-s) M) := by
    have : s * uE L a s M * (h / s) = h / s * s * uE L a s M := by grind
    have e4 : (s * uE L a s M - pr L a s M * ex (-s) M) * (h / s) = s * uE L a s M * (h / s) - h / s * (pr L a s M * ex (-s) M) := by grind
    rw [e4, this, vm]
  rw [e3]
  generalize C * (h / s * (h / s)) = w1 at *
  generalize C * (i * i) * (h * h) = w2 at *
  have e5 : -(h / s) * (pr L a s M * ex (-s) M) = -(h / s * (pr L a s M * ex (-s) M)) := by grind
  rw [e5] at k
  generalize h / s * (pr L a s M * ex (-s) M) = w3 at *
  generalize uE L a s M = w4 at *
  clear e e1 e2 e3 e5 vm v0 vh hiD m1 m2 l l2 n tan
  grind
/-- A greatest one of some. -/
theorem top_ex (P : Nat → Prop) (k : Nat) : ∃ v, (P v ∨ v = 0) ∧ ∀ n, n ≤ k → P n → n ≤ v := by
  induction k with
  | zero => exact ⟨0, Or.inr rfl, fun n hn _ => by omega⟩
  | succ k ih =>
    by_cases h : P (k + 1)
    · exact ⟨k + 1, Or.inl h, fun n hn _ => hn⟩
    · obtain ⟨v, h1, h2⟩ := ih
      exact ⟨v, h1, fun n hn hp => h2 n (by rcases Nat.lt_or_eq_of_le hn with h' | h'
                                            · omega
                                            · subst h'; exact absurd hp h) hp⟩
theorem bound_all {R : Nat → Nat → Prop} (h : ∀ i, ∃ N, ∀ M, N ≤ M → R i M) (k : Nat) : ∃ N, ∀ i, i < k → ∀ M, N ≤ M → R i M := by
  induction k with
  | zero => exact ⟨0, fun i hi => by omega⟩
  | succ k ih =>
    obtain ⟨N1, h1⟩ := ih
    obtain ⟨N2, h2⟩ := h k
    refine ⟨N1 + N2, fun i hi M hM => ?_⟩
    by_cases c : i < k
    · exact h1 i c M (by omega)
    · have : i = k := by omega
      subst this; exact h2 M (by omega)
/-- What comes together comes to something. -/
theorem complete {s t : Nat → Nat → Rat} (h1 : ∀ n m, n ≤ m → LeN (s n) (s m)) (h2 : ∀ n m, n ≤ m → LeN (s m) (fun M => s n M + t n M)) : ∃ g, ∀ n, LeN (s n) g ∧ LeN g (fun M => s n M + t n M) := by
  let P : Nat → Nat → Prop := fun M n => ∀ i, i < n + 1 → ∀ j, j < n + 1 → i ≤ j → s i M ≤ s j M + 1 / ((n : Rat) + 1) ∧ s j M ≤ s i M + t i M + 1 / ((n : Rat) + 1)
  have hP : ∀ n, ∃ N, ∀ M, N ≤ M → P M n := fun n => by
    have u0 : (0 : Rat) < 1 / ((n : Rat) + 1) := rdiv_pos (by grind) (pos1 n)
    have step : ∀ i, ∃ N, ∀ M, N ≤ M → ∀ j, j < n + 1 → i ≤ j → s i M ≤ s j M + 1 / ((n : Rat) + 1) ∧ s j M ≤ s i M + t i M + 1 / ((n : Rat) + 1) := fun i => by
      obtain ⟨N, hN⟩ := bound_all (R := fun j M => i ≤ j → s i M ≤ s j M + 1 / ((n : Rat) + 1) ∧ s j M ≤ s i M + t i M + 1 / ((n : Rat) + 1)) (fun j => by
        by_cases c : i ≤ j
        · obtain ⟨N1, k1⟩ := h1 i j c _ u0
          obtain ⟨N2, k2⟩ := h2 i j c _ u0
          exact ⟨N1 + N2, fun M hM _ => ⟨k1 M (by omega), k2 M (by omega)⟩⟩
        · exact ⟨0, fun M _ c' => absurd c' c⟩) (n + 1)
      exact ⟨N, fun M hM j hj => hN j hj M hM⟩
    obtain ⟨N, hN⟩ := bound_all step (n + 1)
    exact ⟨N, fun M hM i hi j hj hij => hN i hi M hM j hj hij⟩
  obtain ⟨v, hv⟩ := Classical.skolem.1 (fun M => top_ex (P M) M)
  have main : ∀ n (e : Rat), 0 < e → ∃ N, ∀ M, N ≤ M → s n M ≤ s (v M) M + e ∧ s (v M) M ≤ s n M + t n M + e := fun n e he => by
    obtain ⟨m, hm⟩ := rat_nat (1 / e)
    obtain ⟨N, hN⟩ := hP (n + m + 1)
    refine ⟨N + n + m + 1, fun M hM => ?_⟩
    obtain ⟨w1, w2⟩ := hv M
    have ge := w2 (n + m + 1) (by omega) (hN M (by omega))
    have pv : P M (v M) := by rcases w1 with h | h
                              · exact h
                              · omega
    obtain ⟨a1, a2⟩ := pv n (by omega) (v M) (by omega) (by omega)
    have small : 1 / ((v M : Rat) + 1) ≤ e := by
      refine qdiv_le (pos1 _) ?_
      have c : (m : Rat) ≤ (v M : Rat) := by exact_mod_cast (show m ≤ v M by omega)
      have d := rdm (a := 1) he
      have := Rat.mul_le_mul_of_nonneg_left (Rat.le_trans hm.2 c) (Rat.le_of_lt he)
      grind
    exact ⟨by grind, by grind⟩
  exact ⟨fun M => s (v M) M, fun n => ⟨fun e he => (main n e he).imp fun N h M hM => (h M hM).1, fun e he => (main n e he).imp fun N h M hM => (h M hM).2⟩⟩
/-- The gamma function of what is not more than 1. -/
structure Gam1 (L : Rat → Nat → Rat) (a : Rat) (g : Nat → Rat) : Prop where
  lo : ∀ x, 0 < x → LeN (uG L a x) g
  hi : ∀ x, 0 < x → LeN g (fun M => uG L a x M + uE L a x M)
theorem gam1_ex {L : Rat → Nat → Rat} (hL : Lns L) {a : Rat} (ha : 0 < a) (ha1 : a ≤ 1) : ∃ g, Gam1 L a g := by
  have cast : ∀ {n m : Nat}, n ≤ m → (n : Rat) + 1 ≤ (m : Rat) + 1 := fun {n m} h => by have : (n : Rat) ≤ (m : Rat) := by exact_mod_cast h
                                                                                        grind
  obtain ⟨g, hg⟩ := complete (s := fun n => uG L a ((n : Rat) + 1)) (t := fun n => uE L a ((n : Rat) + 1))
    (fun n m h => uG_mono hL ha (pos1 n) (cast h))
    (fun n m h => by
      refine LeN.trans ?_ (uGE_anti hL ha ha1 (pos1 n) (cast h))
      obtain ⟨N, hN⟩ := uE_nn hL (pos1 m) a
      exact LeN.of_le N fun M hM => by have := hN M hM; grind)
  have up : ∀ x : Rat, ∃ n : Nat, x ≤ (n : Rat) + 1 := fun x => by
    obtain ⟨n, hn⟩ := rat_nat x
    exact ⟨n, by have := hn.2; grind⟩
  refine ⟨g, fun x hx => ?_, fun x hx => ?_⟩
  · obtain ⟨n, hn⟩ := up x
    exact (uG_mono hL ha hx hn).trans (hg n).1
  · obtain ⟨n, hn⟩ := up x
    exact (hg n).2.trans (uGE_anti hL ha ha1 hx hn)
end Go.Proofs.Ytgmnknmjainabab.Ex

namespace Go.Proofs.Ytgmnknmjainabab.Ex
set_option linter.unusedVariables false

structure IsGam (L : Rat → Nat → Rat) (a : Rat) (g : Nat → Rat) : Prop where
  bdd : Bdd g
  pos : ∃ c : Rat, 0 < c ∧ ∃ N : Nat, ∀ M, N ≤ M → c ≤ g M
  lo : ∀ x, 0 < x → LeN (uG L a x) g
  hi : ∀ x, 1 ≤ x → 2 * a ≤ x + 2 → LeN g (fun M => uG L a x M + 2 * uE L a x M)
theorem bdd_between {f g k : Nat → Rat} (h1 : LeN f g) (h2 : LeN g k) (bf : Bdd f) (bk : Bdd k) : Bdd g := by
  obtain ⟨N1, a1⟩ := h1 1 (by grind)
  obtain ⟨N2, a2⟩ := h2 1 (by grind)
  obtain ⟨K1, M1, k10, b1⟩ := bf
  obtain ⟨K2, M2, k20, b2⟩ := bk
  refine ⟨K1 + K2 + 1, N1 + N2 + M1 + M2, by grind, fun M hM => ?_⟩
  have := a1 M (by omega)
  have := a2 M (by omega)
  have := b1 M (by omega)
  have := b2 M (by omega)
  obtain ⟨c1, c2⟩ := this
  obtain ⟨d1, d2⟩ := ‹AB (f M) K1›
  exact ⟨by grind, by grind⟩
theorem uG_low {L : Rat → Nat → Rat} (hL : Lns L) {a x : Rat} (ha : 0 < a) (hx : 0 < x) : ∃ c : Rat, 0 < c ∧ ∃ N : Nat, ∀ M, N ≤ M → c ≤ uG L a x M := by
  obtain ⟨c1, p1, N1, h1⟩ := Ev_low (pr_arg hL hx a)
  obtain ⟨c2, p2, N2, h2⟩ := Ev_low (Bdd.const (-x))
  have ip : 0 < 1 / a := rdiv_pos (by grind) ha
  refine ⟨c1 * c2 * (1 / a), Rat.mul_pos (Rat.mul_pos p1 p2) ip, N1 + N2 + 1, fun M hM => ?_⟩
  obtain ⟨m, rfl⟩ : ∃ m, M = m + 1 := ⟨M - 1, by omega⟩
  have f := uS_first ha (Rat.le_of_lt hx) m
  have a1 := h1 (m + 1) (by omega)
  have a2 := h2 (m + 1) (by omega)
  have b : c1 * c2 ≤ pr L a x (m + 1) * ex (-x) (m + 1) := Rat.le_trans (Rat.mul_le_mul_of_nonneg_right a1 (Rat.le_of_lt p2)) (Rat.mul_le_mul_of_nonneg_left a2 (show 0 ≤ pr L a x (m + 1) by unfold pr; grind))
  have c0 := Rat.mul_nonneg (Rat.le_of_lt p1) (Rat.le_of_lt p2)
  unfold uG
  exact Rat.le_trans (Rat.mul_le_mul_of_nonneg_right b (Rat.le_of_lt ip)) (Rat.mul_le_mul_of_nonneg_left f (by grind))
theorem pos_of_le {f g : Nat → Rat} (h : LeN f g) (k : ∃ c : Rat, 0 < c ∧ ∃ N : Nat, ∀ M, N ≤ M → c ≤ f M) : ∃ c : Rat, 0 < c ∧ ∃ N : Nat, ∀ M, N ≤ M → c ≤ g M := by
  obtain ⟨c, c0, N, hc⟩ := k
  obtain ⟨N2, h2⟩ := h (c / 2) (by grind)
  exact ⟨c / 2, by grind, N + N2, fun M hM => by have := hc M (by omega); have := h2 M (by omega); grind⟩
theorem Gam1.isGam {L : Rat → Nat → Rat} (hL : Lns L) {a : Rat} {g : Nat → Rat} (ha : 0 < a) (h : Gam1 L a g) : IsGam L a g := by
  have one : (0 : Rat) < 1 := by grind
  refine ⟨bdd_between (h.lo 1 one) (h.hi 1 one) (uG_bdd hL ha one) ((uG_bdd hL ha one).add (uE_bdd hL one a)), pos_of_le (h.lo 1 one) (uG_low hL ha one), h.lo, fun x hx _ => (h.hi x (by grind)).trans ?_⟩
  obtain ⟨N, hN⟩ := uE_nn hL (show 0 < x by grind) a
  exact LeN.of_le N fun M hM => by have := hN M hM; grind
/-- Both are the same. -/
theorem leN_small {f g : Nat → Rat} (h : ∀ n : Nat, LeN f (fun M => g M + q2 n)) : LeN f g := fun e he => by
  obtain ⟨N, hN⟩ := null_q2 (e / 2) (by grind)
  obtain ⟨N2, h2⟩ := h N (e / 2) (by grind)
  have q := (hN N (Nat.le_refl _)).2
  exact ⟨N2, fun M hM => by have := h2 M hM; grind⟩
theorem ex_half (n : Nat) : LeN (ex (-(n : Rat))) (fun _ => q2 n) := by
  induction n with
  | zero =>
    refine LeN.of_le 1 fun M hM => ?_
    obtain ⟨m, rfl⟩ : ∃ m, M = m + 1 := ⟨M - 1, by omega⟩
    have e : -((0 : Nat) : Rat) = 0 := by have : ((0 : Nat) : Rat) = 0 := rfl
                                          rw [this]; grind
    rw [e]
    have : ex 0 (m + 1) = 1 := E_zero m
    rw [this]
    show (1 : Rat) ≤ 1
    exact Rat.le_refl
  | succ n ih =>
    have c : ((n + 1 : Nat) : Rat) = (n : Rat) + 1 := by push_cast; rfl
    -- twice ex (-(n+1)) is at most ex (-n)
    have l : LeN (fun _ => (2 : Rat)) (ex 1) := LeN.of_le 2 fun M hM => by have := E_one1 (x := 1) (by grind) hM; show 2 ≤ E 1 M; grind
    have m := l.bmul (ex_bdd (-((n : Rat) + 1))) (ex_nn _)
    have s := ex_add 1 (-((n : Rat) + 1))
    have e : 1 + -((n : Rat) + 1) = -(n : Rat) := by grind
    rw [e] at s
    have k := (m.trans (LeN.of_eqN s)).trans ih
    rw [c]
    refine LeN.trans (LeN.of_le 0 fun M _ => ?_) ((k.cmul (c := 1 / 2) (by grind)).trans (LeN.of_le 0 fun M _ => ?_))
    · grind
    · show 1 / 2 * q2 n ≤ q2 (n + 1)
      have : q2 (n + 1) = q2 n / 2 := rfl
      rw [this]; grind
theorem uS_one {x : Rat} (M : Nat) : x * uS 1 x M = E x (M + 1) - 1 := by
  have t : ∀ n : Nat, x * upT 1 x n = tm x (n + 1) := fun n => by
    induction n with
    | zero =>
      have e := tm_succ x 0
      have c : ((0 : Nat) : Rat) = 0 := rfl
      rw [c] at e
      have e2 : tm x 0 = 1 := rfl
      rw [e2] at e
      have e3 := upT_zero (show (0 : Rat) < 1 by grind) x
      grind
    | succ n ih =>
      have e1 := upT_succ (show (0 : Rat) < 1 by grind) x n
      have e2 := tm_succ x (n + 1)
      have c : ((n + 1 : Nat) : Rat) = (n : Rat) + 1 := by push_cast; rfl
      rw [c] at e2
      refine rat_cancel (show 0 < (n : Rat) + 1 + 1 by have := pos1 n; grind) ?_
      rw [e2, ← ih]
      grind
  induction M with
  | zero => show x * 0 = (0 + 1) - 1; grind
  | succ n ih =>
    have := t n
    have e : E x (n + 1 + 1) = E x (n + 1) + tm x (n + 1) := rfl
    rw [uS_succ, e]; grind
/-- That of 1 is 1. -/
theorem gam_one {L : Rat → Nat → Rat} (hL : Lns L) {g : Nat → Rat} (h : Gam1 L 1 g) : Null (fun M => g M - 1) := by
  have key : ∀ x, 0 < x → Null (fun M => uG L 1 x M - (1 - ex (-x) M)) := fun x hx => by
    have x0 := Rat.le_of_lt hx
    have s := ex_add x (-x)
    have e : x + -x = 0 := by grind
    rw [e] at s
    have h2 := (pr_one hL hx).bmul ((ex_bdd (-x)).mul (uS_Bdd (show (0 : Rat) < 1 by grind) x0))
    obtain ⟨K, k0, hK⟩ := tm_bd x
    have tn : Null (tm x) := (null_q4 K k0).of_le 1 fun M hM => (hK M).mono (by
      have m1 : (1 : Rat) ≤ (M : Rat) := by exact_mod_cast hM
      have := Rat.mul_le_mul_of_nonneg_left m1 (Rat.mul_nonneg k0 (Rat.le_of_lt (q4_pos M)))
      grind)
    have h3 := tn.bmul (ex_bdd (-x))
    refine ((h2.add h3).add s).of_eq_from 1 fun M hM => ?_
    have e0 : ex 0 M = 1 := by
      obtain ⟨m, rfl⟩ : ∃ m, M = m + 1 := ⟨M - 1, by omega⟩
      exact E_zero m
    have e1 := uS_one (x := x) M
    have e2 : E x (M + 1) = ex x M + tm x M := rfl
    rw [e0]
    unfold uG
    rw [e2] at e1
    generalize pr L 1 x M = p at *
    generalize ex (-x) M = y at *
    generalize uS 1 x M = u at *
    generalize ex x M = v at *
    generalize tm x M = t at *
    have k : y * (x * u) = y * (v + t - 1) := by rw [e1]
    grind
  have up : LeN g (fun _ => 1) := by
    refine (h.hi 1 (by grind)).trans ?_
    refine LeN.of_null (key 1 (by grind)) 1 fun M hM => ?_
    have e : pr L (1 - 1) 1 M = 1 := by
      obtain ⟨m, rfl⟩ : ∃ m, M = m + 1 := ⟨M - 1, by omega⟩
      unfold pr Ev
      have e : (1 - 1 : Rat) * L 1 (m + 1) = 0 := by grind
      show E ((1 - 1) * L 1 (m + 1)) (m + 1) = 1
      rw [e]
      exact E_zero m
    unfold uE
    rw [e]
    grind
  have dn : LeN (fun _ => (1 : Rat)) g := by
    refine leN_small fun n => ?_
    have n1 : (0 : Rat) < (n : Rat) + 1 := pos1 n
    have a := h.lo _ n1
    obtain ⟨z, hz, kz⟩ := (a.add (ex_half (n + 1))).null
    have c : ((n + 1 : Nat) : Rat) = (n : Rat) + 1 := by push_cast; rfl
    refine LeN.of_null (hz.add (key _ n1).neg) 0 fun M _ => ?_
    have k := kz M
    have e : q2 (n + 1) = q2 n / 2 := rfl
    have q := q2_pos n
    rw [c, e] at k
    grind
  exact up.eq dn
/-- What is told by a sequence, and more than 0, has a logarithm. -/
theorem log_seq {L : Rat → Nat → Rat} (hL : Lns L) {g : Nat → Rat} (hb : Bdd g) (hp : ∃ c : Rat, 0 < c ∧ ∃ N : Nat, ∀ M, N ≤ M → c ≤ g M) : ∃ l, IsLog l g := by
  obtain ⟨c, c0, N1, hc⟩ := hp
  obtain ⟨K, N2, k0, hK⟩ := hb
  have Kc : 0 < K + c := by grind
  obtain ⟨B1, M1, b10, h1⟩ := (hL c c0).1
  obtain ⟨B2, M2, b20, h2⟩ := (hL (K + c) Kc).1
  have each : ∀ M, ∃ y : Rat, N1 + N2 ≤ M → AB y (B1 + B2 + 1) ∧ ∃ j, M ≤ j ∧ AB (E y j - g M) (q2 M) := fun M => by
    by_cases hM : N1 + N2 ≤ M
    · have gc := hc M (by omega)
      have gK := (hK M (by omega)).2
      have gp : 0 < g M := by grind
      obtain ⟨n1, p1⟩ := (hL c c0).le (hL _ gp) null_zero 0 (fun _ _ => by grind) 1 (by grind)
      obtain ⟨n2, p2⟩ := (hL _ gp).le (hL _ Kc) null_zero 0 (fun _ _ => by grind) 1 (by grind)
      obtain ⟨n3, p3⟩ := (hL _ gp).2 (q2 M) (q2_pos M)
      obtain ⟨j, hj⟩ : ∃ j, j = M + M1 + M2 + n1 + n2 + n3 := ⟨_, rfl⟩
      refine ⟨L (g M) j, fun _ => ⟨?_, j, by omega, p3 j (by omega)⟩⟩
      have r1 := p1 j (by omega)
      have r2 := p2 j (by omega)
      have r3 := (h1 j (by omega)).1
      have r4 := (h2 j (by omega)).2
      exact ⟨by grind, by grind⟩
    · exact ⟨0, fun h => absurd h hM⟩
  obtain ⟨l, hl⟩ := Classical.skolem.1 each
  obtain ⟨T, t0, hT⟩ := tm_unif (B1 + B2 + 1)
  refine ⟨l, ⟨_, N1 + N2, by grind, fun M hM => (hl M hM).1⟩, ?_⟩
  have z := (null_q4 (2 * T) (by grind)).add null_q2
  refine z.of_le (N1 + N2 + 1) fun M hM => ?_
  obtain ⟨a1, j, hj, a2⟩ := hl M (by omega)
  obtain ⟨i, rfl⟩ : ∃ i, j = M + i := ⟨j - M, by omega⟩
  have s := E_sub (l M) T (fun i => hT _ a1 i) M i
  have m1 : (1 : Rat) ≤ (M : Rat) := by exact_mod_cast (show 1 ≤ M by omega)
  have qm := q4_pos M
  have qi := q4_pos (M + i)
  have mq := Rat.mul_le_mul_of_nonneg_left m1 (Rat.mul_nonneg t0 (Rat.le_of_lt qm))
  have mi := Rat.mul_nonneg t0 (Rat.le_of_lt qi)
  obtain ⟨s1, s2⟩ := s
  obtain ⟨d1, d2⟩ := a2
  show AB (E (l M) M - g M) _
  generalize E (l M) (M + i) = w1 at *
  generalize E (l M) M = w2 at *
  exact ⟨by grind, by grind⟩
end Go.Proofs.Ytgmnknmjainabab.Ex

namespace Go.Proofs.Ytgmnknmjainabab
set_option linter.unusedVariables false
set_option linter.unusedSimpArgs false
set_option linter.unnecessarySimpa false
open Go.RowKit
attribute [local go_sem ↓] Go.wp_at_zero Go.wp_at_succ

set_option maxRecDepth 100000 in
set_option maxHeartbeats 2000000 in
theorem div1_int (neg neg2 : Bool) (a c : Option Addr) (n m cap cap2 k k2 b B : Nat) (x y : Int) (w : World) (h1 : IntAt w neg a n cap k x) (h2 : IntAt w neg2 c m cap2 k2 y) (hk : k ≤ 300000000) (hb : b ≤ 1000000) (hy : 0 < y) (hc : w.cell? ⟨B, 4, none⟩ = some (.int .i64 b)) :
    Calls Try.prog 157 #[.agg #[.bool neg, .slice a n cap], .agg #[.bool neg2, .slice c m cap2], .pointer (some ⟨B, 0, none⟩)] w (IntAns w (b / 16 + k + 9) (x * Q b / y)) := by
  have lB : B < w.heap.size := World.block_lt_of_cell? w ⟨B, 4, none⟩ hc
  have ne1 : w.heap.size ≠ w.heap.size + 1 + 1 := by omega
  have ne2 : w.heap.size + 1 + 1 ≠ w.heap.size := by omega
  obtain ⟨W, hW⟩ : ∃ W, W = ((w.alloc (.cells #[.bool neg, .slice a n cap] 26)).alloc (.cells #[.bool neg2, .slice c m cap2] 26)).alloc (.cells #[.bool false, .slice none 0 0] 26) := ⟨_, rfl⟩
  have hBW : Below w.heap.size w W := by rw [hW]; exact bl3 _ _ _ _
  have A : NmC W w.heap.size ⟨neg, a, n, cap⟩ := by rw [hW]; exact ⟨by simp [go_sem], by simp [go_sem]⟩
  have G : NmC W (w.heap.size + 1) ⟨neg2, c, m, cap2⟩ := by rw [hW]; exact ⟨by simp [go_sem], by simp [go_sem]⟩
  have R : NoI W (w.heap.size + 1 + 1) := by rw [hW]; exact ⟨by simp [go_sem], by simp [go_sem], fun o => by simp [go_sem]⟩
  have hcW := (hBW.cell (p := ⟨B, 4, none⟩) lB).trans hc
  have lBW := Nat.lt_of_lt_of_le lB hBW.size
  have HX := hide (h1.below hBW)
  have HY := hide (h2.below hBW)
  have hB0 : Below W.heap.size W W.drew := (Below.refl _ _).drew
  have lR := R.lt
  have nB : B ≠ w.heap.size + 1 + 1 := by omega
  have nB' : w.heap.size + 1 + 1 ≠ B := by omega
  have HK := hide (show ∀ w', Below W.heap.size W w' → (w'.cell? ⟨w.heap.size, 0, none⟩ = some (.bool neg) ∧ w'.cell? ⟨w.heap.size, 1, none⟩ = some (.slice a n cap) ∧ w'.cell? ⟨w.heap.size + 1, 0, none⟩ = some (.bool neg2) ∧ w'.cell? ⟨w.heap.size + 1, 1, none⟩ = some (.slice c m cap2) ∧ w'.cell? ⟨B, 4, none⟩ = some (.int .i64 b)) from fun w' hB => ⟨(A.below hB).c0, (A.below hB).c1, (G.below hB).c0, (G.below hB).c1, (hB.cell (p := ⟨B, 4, none⟩) lBW).trans hcW⟩)
  go_enter Try.func157, Try.ntmps157
  go_wp2
  rw [← hW]
  clear hW
  obtain ⟨i0, i1, i2, i3, i4⟩ := unhide HK _ (Below.refl _ _)
  go_region_held3 (fun w' => w'.cell? ⟨w.heap.size, 0, none⟩ = some (.bool neg) ∧ w'.cell? ⟨w.heap.size, 1, none⟩ = some (.slice a n cap) ∧ w'.cell? ⟨w.heap.size + 1, 0, none⟩ = some (.bool neg2) ∧ w'.cell? ⟨w.heap.size + 1, 1, none⟩ = some (.slice c m cap2) ∧ w'.cell? ⟨B, 4, none⟩ = some (.int .i64 b)) (first | exact unhide HK _ (by first | with_reducible exact hB0 | with_reducible exact hB2 | with_reducible exact hB1) | go_keep)
    (first
      | (go_at_call 113; refine (up_int _ _ _ _ b k x _ ((unhide HX).below hB0) (by omega) (by omega)).mono ?_; rintro r w1 ⟨neg1, a1, n1, c1, rfl, hint1, hb1⟩; have hB1 := bthen hB0 hb1)
      | (go_at_call 105; refine (floor_any _ _ _ _ _ _ _ _ (b / 16 + k + 1) k2 (x * Q b) y _ hint1 ((unhide HY).below hB1) (by omega) hy).mono ?_; rintro r w2 ⟨neg3, a3, n3, c3, rfl, hint3, hb2⟩; have hB2 := bthen hB1 hb2; obtain ⟨q0, q1, q2⟩ := R.below hB2; obtain ⟨d0, d1, d2, d3, d4⟩ := unhide HK _ hB2))
  clear i0 i1 i2 i3 i4
  go_wp2
  refine bodyPost_ret (v := .agg #[.bool neg3, .slice a3 n3 c3]) (by simp [results, Try.results157, go_sem, q0, q1]) rfl ⟨neg3, a3, n3, c3, rfl, (hint3.put2 q0 q1 _ _).mono (by omega), ?_⟩
  exact set2 (bthen hBW hB2) (by omega) _ _

set_option maxRecDepth 100000 in
set_option maxHeartbeats 2000000 in
theorem div2_int (neg neg2 : Bool) (a c : Option Addr) (n m cap cap2 k k2 b B : Nat) (x y : Int) (w : World) (h1 : IntAt w neg a n cap k x) (h2 : IntAt w neg2 c m cap2 k2 y) (hk : k ≤ 300000000) (hb : b ≤ 1000000) (hy : 0 < y) (hc : w.cell? ⟨B, 4, none⟩ = some (.int .i64 b)) :
    Calls Try.prog 158 #[.agg #[.bool neg, .slice a n cap], .agg #[.bool neg2, .slice c m cap2], .pointer (some ⟨B, 0, none⟩)] w (IntAns w (b / 16 + k + 9) (-(-(x * Q b) / y))) := by
  have lB : B < w.heap.size := World.block_lt_of_cell? w ⟨B, 4, none⟩ hc
  have ne1 : w.heap.size ≠ w.heap.size + 1 + 1 := by omega
  have ne2 : w.heap.size + 1 + 1 ≠ w.heap.size := by omega
  obtain ⟨W, hW⟩ : ∃ W, W = ((w.alloc (.cells #[.bool neg, .slice a n cap] 26)).alloc (.cells #[.bool neg2, .slice c m cap2] 26)).alloc (.cells #[.bool false, .slice none 0 0] 26) := ⟨_, rfl⟩
  have hBW : Below w.heap.size w W := by rw [hW]; exact bl3 _ _ _ _
  have A : NmC W w.heap.size ⟨neg, a, n, cap⟩ := by rw [hW]; exact ⟨by simp [go_sem], by simp [go_sem]⟩
  have G : NmC W (w.heap.size + 1) ⟨neg2, c, m, cap2⟩ := by rw [hW]; exact ⟨by simp [go_sem], by simp [go_sem]⟩
  have R : NoI W (w.heap.size + 1 + 1) := by rw [hW]; exact ⟨by simp [go_sem], by simp [go_sem], fun o => by simp [go_sem]⟩
  have hcW := (hBW.cell (p := ⟨B, 4, none⟩) lB).trans hc
  have lBW := Nat.lt_of_lt_of_le lB hBW.size
  have HX := hide (h1.below hBW)
  have HY := hide (h2.below hBW)
  have hB0 : Below W.heap.size W W.drew := (Below.refl _ _).drew
  have lR := R.lt
  have nB : B ≠ w.heap.size + 1 + 1 := by omega
  have nB' : w.heap.size + 1 + 1 ≠ B := by omega
  have HK := hide (show ∀ w', Below W.heap.size W w' → (w'.cell? ⟨w.heap.size, 0, none⟩ = some (.bool neg) ∧ w'.cell? ⟨w.heap.size, 1, none⟩ = some (.slice a n cap) ∧ w'.cell? ⟨w.heap.size + 1, 0, none⟩ = some (.bool neg2) ∧ w'.cell? ⟨w.heap.size + 1, 1, none⟩ = some (.slice c m cap2) ∧ w'.cell? ⟨B, 4, none⟩ = some (.int .i64 b)) from fun w' hB => ⟨(A.below hB).c0, (A.below hB).c1, (G.below hB).c0, (G.below hB).c1, (hB.cell (p := ⟨B, 4, none⟩) lBW).trans hcW⟩)
  go_enter Try.func158, Try.ntmps158
  go_wp2
  rw [← hW]
  clear hW
  obtain ⟨i0, i1, i2, i3, i4⟩ := unhide HK _ (Below.refl _ _)
  go_region_held3 (fun w' => w'.cell? ⟨w.heap.size, 0, none⟩ = some (.bool neg) ∧ w'.cell? ⟨w.heap.size, 1, none⟩ = some (.slice a n cap) ∧ w'.cell? ⟨w.heap.size + 1, 0, none⟩ = some (.bool neg2) ∧ w'.cell? ⟨w.heap.size + 1, 1, none⟩ = some (.slice c m cap2) ∧ w'.cell? ⟨B, 4, none⟩ = some (.int .i64 b)) (first | exact unhide HK _ (by first | with_reducible exact hB0 | with_reducible exact hB2 | with_reducible exact hB1) | go_keep)
    (first
      | (go_at_call 113; refine (up_int _ _ _ _ b k x _ ((unhide HX).below hB0) (by omega) (by omega)).mono ?_; rintro r w1 ⟨neg1, a1, n1, c1, rfl, hint1, hb1⟩; have hB1 := bthen hB0 hb1)
      | (go_at_call 114; refine (ceil_any _ _ _ _ _ _ _ _ (b / 16 + k + 1) k2 (x * Q b) y _ hint1 ((unhide HY).below hB1) (by omega) hy).mono ?_; rintro r w2 ⟨neg3, a3, n3, c3, rfl, hint3, hb2⟩; have hB2 := bthen hB1 hb2; obtain ⟨q0, q1, q2⟩ := R.below hB2; obtain ⟨d0, d1, d2, d3, d4⟩ := unhide HK _ hB2))
  clear i0 i1 i2 i3 i4
  go_wp2
  refine bodyPost_ret (v := .agg #[.bool neg3, .slice a3 n3 c3]) (by simp [results, Try.results158, go_sem, q0, q1]) rfl ⟨neg3, a3, n3, c3, rfl, (hint3.put2 q0 q1 _ _).mono (by omega), ?_⟩
  exact set2 (bthen hBW hB2) (by omega) _ _

set_option maxRecDepth 100000 in
set_option maxHeartbeats 2000000 in
theorem corners_div1 (w : World) (s t : Sp) (k b B : Nat) (lo hi lo' hi' : Int) (hs : SpAt w s k lo hi) (ht : SpAt w t k lo' hi') (hk : k ≤ 300000000) (hb : b ≤ 1000000) (hp : 0 < lo') (hp2 : 0 < hi') (hc : w.cell? ⟨B, 4, none⟩ = some (.int .i64 b)) :
    Calls Try.prog 115 #[.agg #[.bool s.ln, .slice s.la s.lN s.lc, .bool s.hn, .slice s.ha s.hN s.hc, .int .i64 s.bits], .agg #[.bool t.ln, .slice t.la t.lN t.lc, .bool t.hn, .slice t.ha t.hN t.hc, .int .i64 t.bits], .func (.func 157) #[] #[.pointer (some ⟨B, 0, none⟩)]] w fun r w' =>
      ∃ B' f, r = .returned (.slice (some ⟨B', 0, none⟩) 4 4) ∧ Nums w' B' 4 (b / 16 + k + 9) f (pr4 (lo * Q b / lo') (lo * Q b / hi') (hi * Q b / lo') (hi * Q b / hi')) ∧ Below w.heap.size w w' := by
  have lB : B < w.heap.size := World.block_lt_of_cell? w ⟨B, 4, none⟩ hc
  obtain ⟨W, hW⟩ : ∃ W, W = (w.alloc (.cells #[.bool s.ln, .slice s.la s.lN s.lc, .bool s.hn, .slice s.ha s.hN s.hc, .int .i64 s.bits] 28)).alloc (.cells #[.bool t.ln, .slice t.la t.lN t.lc, .bool t.hn, .slice t.ha t.hN t.hc, .int .i64 t.bits] 28) := ⟨_, rfl⟩
  have hBW : Below w.heap.size w W := by rw [hW]; exact bl2 _ _ _
  have a0 : SpC W w.heap.size s := by rw [hW]; exact ⟨by simp [go_sem], by simp [go_sem], by simp [go_sem], by simp [go_sem], by simp [go_sem]⟩
  have g0 : SpC W (w.heap.size + 1) t := by rw [hW]; exact ⟨by simp [go_sem], by simp [go_sem], by simp [go_sem], by simp [go_sem], by simp [go_sem]⟩
  have hcW := (hBW.cell (p := ⟨B, 4, none⟩) lB).trans hc
  have lBW := Nat.lt_of_lt_of_le lB hBW.size
  have HS := hide (hs.below hBW)
  have HT := hide (ht.below hBW)
  have hB0 : Below W.heap.size W W.drew := (Below.refl _ _).drew
  have HKB := hide (show ∀ w', Below W.heap.size W w' → w'.cell? ⟨B, 4, none⟩ = some (.int .i64 b) from fun w' hB => (hB.cell (p := ⟨B, 4, none⟩) lBW).trans hcW)
  have HK := hide (show ∀ w', Below W.heap.size W w' → (w'.cell? ⟨w.heap.size, 0, none⟩ = some (.bool s.ln) ∧ w'.cell? ⟨w.heap.size, 1, none⟩ = some (.slice s.la s.lN s.lc) ∧ w'.cell? ⟨w.heap.size, 2, none⟩ = some (.bool s.hn) ∧ w'.cell? ⟨w.heap.size, 3, none⟩ = some (.slice s.ha s.hN s.hc) ∧ w'.cell? ⟨w.heap.size + 1, 0, none⟩ = some (.bool t.ln) ∧ w'.cell? ⟨w.heap.size + 1, 1, none⟩ = some (.slice t.la t.lN t.lc) ∧ w'.cell? ⟨w.heap.size + 1, 2, none⟩ = some (.bool t.hn) ∧ w'.cell? ⟨w.heap.size + 1, 3, none⟩ = some (.slice t.ha t.hN t.hc)) from fun w' hB => by
    obtain ⟨x0, x1, x2, x3, x4⟩ := a0.below hB
    obtain ⟨y0, y1, y2, y3, y4⟩ := g0.below hB
    exact ⟨x0, x1, x2, x3, y0, y1, y2, y3⟩)
  go_enter Try.func115, Try.ntmps115
  go_wp2
  obtain ⟨x0, x1, x2, x3, x4⟩ := a0
  obtain ⟨y0, y1, y2, y3, y4⟩ := g0
  rw [← hW]
  clear hW
  go_region_held3 (fun w' => w'.cell? ⟨w.heap.size, 0, none⟩ = some (.bool s.ln) ∧ w'.cell? ⟨w.heap.size, 1, none⟩ = some (.slice s.la s.lN s.lc) ∧ w'.cell? ⟨w.heap.size, 2, none⟩ = some (.bool s.hn) ∧ w'.cell? ⟨w.heap.size, 3, none⟩ = some (.slice s.ha s.hN s.hc) ∧ w'.cell? ⟨w.heap.size + 1, 0, none⟩ = some (.bool t.ln) ∧ w'.cell? ⟨w.heap.size + 1, 1, none⟩ = some (.slice t.la t.lN t.lc) ∧ w'.cell? ⟨w.heap.size + 1, 2, none⟩ = some (.bool t.hn) ∧ w'.cell? ⟨w.heap.size + 1, 3, none⟩ = some (.slice t.ha t.hN t.hc)) (exact unhide HK _ (by first | with_reducible exact hB0 | with_reducible exact balloc hB4 _ | with_reducible exact hB4 | with_reducible exact hB3 | with_reducible exact hB2 | with_reducible exact hB1))
    (first
      | (go_at_call 157; have hq := hB3; refine (div1_int _ _ _ _ _ _ _ _ k k b B hi hi' _ ((unhide HS).hi.below hB3) ((unhide HT).hi.below hB3) hk hb hp2 (unhide HKB _ hB3)).mono ?_; rintro r w4 ⟨neg4, a4, n4, c4, rfl, hint4, hb4⟩; replace hint1 := hint1.below hb4; replace hint2 := hint2.below hb4; replace hint3 := hint3.below hb4; have hB4 := bthen hB3 hb4)
      | (go_at_call 157; have hq := hB2; refine (div1_int _ _ _ _ _ _ _ _ k k b B hi lo' _ ((unhide HS).hi.below hB2) ((unhide HT).lo.below hB2) hk hb hp (unhide HKB _ hB2)).mono ?_; rintro r w3 ⟨neg3, a3, n3, c3, rfl, hint3, hb3⟩; replace hint1 := hint1.below hb3; replace hint2 := hint2.below hb3; have hB3 := bthen hB2 hb3)
      | (go_at_call 157; have hq := hB1; refine (div1_int _ _ _ _ _ _ _ _ k k b B lo hi' _ ((unhide HS).lo.below hB1) ((unhide HT).hi.below hB1) hk hb hp2 (unhide HKB _ hB1)).mono ?_; rintro r w2 ⟨neg2, a2, n2, c2, rfl, hint2, hb2⟩; replace hint1 := hint1.below hb2; have hB2 := bthen hB1 hb2)
      | (go_at_call 157; have hq := hB0; refine (div1_int _ _ _ _ _ _ _ _ k k b B lo lo' _ ((unhide HS).lo.below hB0) ((unhide HT).lo.below hB0) hk hb hp (unhide HKB _ hB0)).mono ?_; rintro r w1 ⟨neg1, a1, n1, c1, rfl, hint1, hb1⟩; have hB1 := bthen hB0 hb1))
  go_wp2
  go_ret
  exact ⟨w4.heap.size, pr4 ⟨neg1, a1, n1, c1⟩ ⟨neg2, a2, n2, c2⟩ ⟨neg3, a3, n3, c3⟩ ⟨neg4, a4, n4, c4⟩, rfl, nums4 w4 _ rfl ⟨neg1, a1, n1, c1⟩ ⟨neg2, a2, n2, c2⟩ ⟨neg3, a3, n3, c3⟩ ⟨neg4, a4, n4, c4⟩ _ _ _ _ _ _ hint1 hint2 hint3 hint4, bthen hBW (balloc hB4 _)⟩

set_option maxRecDepth 100000 in
set_option maxHeartbeats 2000000 in
theorem corners_div2 (w : World) (s t : Sp) (k b B : Nat) (lo hi lo' hi' : Int) (hs : SpAt w s k lo hi) (ht : SpAt w t k lo' hi') (hk : k ≤ 300000000) (hb : b ≤ 1000000) (hp : 0 < lo') (hp2 : 0 < hi') (hc : w.cell? ⟨B, 4, none⟩ = some (.int .i64 b)) :
    Calls Try.prog 115 #[.agg #[.bool s.ln, .slice s.la s.lN s.lc, .bool s.hn, .slice s.ha s.hN s.hc, .int .i64 s.bits], .agg #[.bool t.ln, .slice t.la t.lN t.lc, .bool t.hn, .slice t.ha t.hN t.hc, .int .i64 t.bits], .func (.func 158) #[] #[.pointer (some ⟨B, 0, none⟩)]] w fun r w' =>
      ∃ B' f, r = .returned (.slice (some ⟨B', 0, none⟩) 4 4) ∧ Nums w' B' 4 (b / 16 + k + 9) f (pr4 (-(-(lo * Q b) / lo')) (-(-(lo * Q b) / hi')) (-(-(hi * Q b) / lo')) (-(-(hi * Q b) / hi'))) ∧ Below w.heap.size w w' := by
  have lB : B < w.heap.size := World.block_lt_of_cell? w ⟨B, 4, none⟩ hc
  obtain ⟨W, hW⟩ : ∃ W, W = (w.alloc (.cells #[.bool s.ln, .slice s.la s.lN s.lc, .bool s.hn, .slice s.ha s.hN s.hc, .int .i64 s.bits] 28)).alloc (.cells #[.bool t.ln, .slice t.la t.lN t.lc, .bool t.hn, .slice t.ha t.hN t.hc, .int .i64 t.bits] 28) := ⟨_, rfl⟩
  have hBW : Below w.heap.size w W := by rw [hW]; exact bl2 _ _ _
  have a0 : SpC W w.heap.size s := by rw [hW]; exact ⟨by simp [go_sem], by simp [go_sem], by simp [go_sem], by simp [go_sem], by simp [go_sem]⟩
  have g0 : SpC W (w.heap.size + 1) t := by rw [hW]; exact ⟨by simp [go_sem], by simp [go_sem], by simp [go_sem], by simp [go_sem], by simp [go_sem]⟩
  have hcW := (hBW.cell (p := ⟨B, 4, none⟩) lB).trans hc
  have lBW := Nat.lt_of_lt_of_le lB hBW.size
  have HS := hide (hs.below hBW)
  have HT := hide (ht.below hBW)
  have hB0 : Below W.heap.size W W.drew := (Below.refl _ _).drew
  have HKB := hide (show ∀ w', Below W.heap.size W w' → w'.cell? ⟨B, 4, none⟩ = some (.int .i64 b) from fun w' hB => (hB.cell (p := ⟨B, 4, none⟩) lBW).trans hcW)
  have HK := hide (show ∀ w', Below W.heap.size W w' → (w'.cell? ⟨w.heap.size, 0, none⟩ = some (.bool s.ln) ∧ w'.cell? ⟨w.heap.size, 1, none⟩ = some (.slice s.la s.lN s.lc) ∧ w'.cell? ⟨w.heap.size, 2, none⟩ = some (.bool s.hn) ∧ w'.cell? ⟨w.heap.size, 3, none⟩ = some (.slice s.ha s.hN s.hc) ∧ w'.cell? ⟨w.heap.size + 1, 0, none⟩ = some (.bool t.ln) ∧ w'.cell? ⟨w.heap.size + 1, 1, none⟩ = some (.slice t.la t.lN t.lc) ∧ w'.cell? ⟨w.heap.size + 1, 2, none⟩ = some (.bool t.hn) ∧ w'.cell? ⟨w.heap.size + 1, 3, none⟩ = some (.slice t.ha t.hN t.hc)) from fun w' hB => by
    obtain ⟨x0, x1, x2, x3, x4⟩ := a0.below hB
    obtain ⟨y0, y1, y2, y3, y4⟩ := g0.below hB
    exact ⟨x0, x1, x2, x3, y0, y1, y2, y3⟩)
  go_enter Try.func115, Try.ntmps115
  go_wp2
  obtain ⟨x0, x1, x2, x3, x4⟩ := a0
  obtain ⟨y0, y1, y2, y3, y4⟩ := g0
  rw [← hW]
  clear hW
  go_region_held3 (fun w' => w'.cell? ⟨w.heap.size, 0, none⟩ = some (.bool s.ln) ∧ w'.cell? ⟨w.heap.size, 1, none⟩ = some (.slice s.la s.lN s.lc) ∧ w'.cell? ⟨w.heap.size, 2, none⟩ = some (.bool s.hn) ∧ w'.cell? ⟨w.heap.size, 3, none⟩ = some (.slice s.ha s.hN s.hc) ∧ w'.cell? ⟨w.heap.size + 1, 0, none⟩ = some (.bool t.ln) ∧ w'.cell? ⟨w.heap.size + 1, 1, none⟩ = some (.slice t.la t.lN t.lc) ∧ w'.cell? ⟨w.heap.size + 1, 2, none⟩ = some (.bool t.hn) ∧ w'.cell? ⟨w.heap.size + 1, 3, none⟩ = some (.slice t.ha t.hN t.hc)) (exact unhide HK _ (by first | with_reducible exact hB0 | with_reducible exact balloc hB4 _ | with_reducible exact hB4 | with_reducible exact hB3 | with_reducible exact hB2 | with_reducible exact hB1))
    (first
      | (go_at_call 158; have hq := hB3; refine (div2_int _ _ _ _ _ _ _ _ k k b B hi hi' _ ((unhide HS).hi.below hB3) ((unhide HT).hi.below hB3) hk hb hp2 (unhide HKB _ hB3)).mono ?_; rintro r w4 ⟨neg4, a4, n4, c4, rfl, hint4, hb4⟩; replace hint1 := hint1.below hb4; replace hint2 := hint2.below hb4; replace hint3 := hint3.below hb4; have hB4 := bthen hB3 hb4)
      | (go_at_call 158; have hq := hB2; refine (div2_int _ _ _ _ _ _ _ _ k k b B hi lo' _ ((unhide HS).hi.below hB2) ((unhide HT).lo.below hB2) hk hb hp (unhide HKB _ hB2)).mono ?_; rintro r w3 ⟨neg3, a3, n3, c3, rfl, hint3, hb3⟩; replace hint1 := hint1.below hb3; replace hint2 := hint2.below hb3; have hB3 := bthen hB2 hb3)
      | (go_at_call 158; have hq := hB1; refine (div2_int _ _ _ _ _ _ _ _ k k b B lo hi' _ ((unhide HS).lo.below hB1) ((unhide HT).hi.below hB1) hk hb hp2 (unhide HKB _ hB1)).mono ?_; rintro r w2 ⟨neg2, a2, n2, c2, rfl, hint2, hb2⟩; replace hint1 := hint1.below hb2; have hB2 := bthen hB1 hb2)
      | (go_at_call 158; have hq := hB0; refine (div2_int _ _ _ _ _ _ _ _ k k b B lo lo' _ ((unhide HS).lo.below hB0) ((unhide HT).lo.below hB0) hk hb hp (unhide HKB _ hB0)).mono ?_; rintro r w1 ⟨neg1, a1, n1, c1, rfl, hint1, hb1⟩; have hB1 := bthen hB0 hb1))
  go_wp2
  go_ret
  exact ⟨w4.heap.size, pr4 ⟨neg1, a1, n1, c1⟩ ⟨neg2, a2, n2, c2⟩ ⟨neg3, a3, n3, c3⟩ ⟨neg4, a4, n4, c4⟩, rfl, nums4 w4 _ rfl ⟨neg1, a1, n1, c1⟩ ⟨neg2, a2, n2, c2⟩ ⟨neg3, a3, n3, c3⟩ ⟨neg4, a4, n4, c4⟩ _ _ _ _ _ _ hint1 hint2 hint3 hint4, bthen hBW (balloc hB4 _)⟩
end Go.Proofs.Ytgmnknmjainabab

namespace Go.Proofs.Ytgmnknmjainabab
set_option linter.unusedVariables false
set_option linter.unusedSimpArgs false
set_option linter.unnecessarySimpa false
open Go.RowKit
attribute [local go_sem ↓] Go.wp_at_zero Go.wp_at_succ

set_option maxRecDepth 100000 in
set_option maxHeartbeats 2000000 in
theorem wideDiv_pos (w : World) (s t : Sp) (k b : Nat) (lo hi lo' hi' : Int) (hs : SpAt w s k lo hi) (ht : SpAt w t k lo' hi') (hk : k ≤ 300000000) (hb : b ≤ 1000000) (hbits : s.bits = b) (hp : 0 < lo') (hp2 : 0 < hi') :
    Calls Try.prog 130 #[.agg #[.bool s.ln, .slice s.la s.lN s.lc, .bool s.hn, .slice s.ha s.hN s.hc, .int .i64 s.bits], .agg #[.bool t.ln, .slice t.la t.lN t.lc, .bool t.hn, .slice t.ha t.hN t.hc, .int .i64 t.bits]] w (SpanAns w b (b / 16 + k + 10) (leastZ (pr4 (lo * Q b / lo') (lo * Q b / hi') (hi * Q b / lo') (hi * Q b / hi')) 3) (mostZ (pr4 (-(-(lo * Q b) / lo')) (-(-(lo * Q b) / hi')) (-(-(hi * Q b) / lo')) (-(-(hi * Q b) / hi'))) 3)) := by
  have HBT := hide hbits
  have t1 : ¬ cmpInt hi' 0 < 0 := by unfold cmpInt; rw [if_neg (by omega)]; split <;> omega
  clear hbits
  obtain ⟨W, hW⟩ : ∃ W, W = ((w.alloc (.cells #[.bool s.ln, .slice s.la s.lN s.lc, .bool s.hn, .slice s.ha s.hN s.hc, .int .i64 s.bits] 28)).alloc (.cells #[.bool t.ln, .slice t.la t.lN t.lc, .bool t.hn, .slice t.ha t.hN t.hc, .int .i64 t.bits] 28)).alloc (.cells #[.bool false, .slice none 0 0, .bool false, .slice none 0 0, .int .i64 0] 28) := ⟨_, rfl⟩
  have hBW : Below w.heap.size w W := by rw [hW]; exact bl3 _ _ _ _
  have A : SpC W w.heap.size s := by rw [hW]; exact ⟨by simp [go_sem], by simp [go_sem], by simp [go_sem], by simp [go_sem], by simp [go_sem]⟩
  have G : SpC W (w.heap.size + 1) t := by rw [hW]; exact ⟨by simp [go_sem], by simp [go_sem], by simp [go_sem], by simp [go_sem], by simp [go_sem]⟩
  have R : NoC W (w.heap.size + 1 + 1) := by rw [hW]; exact ⟨by simp [go_sem], by simp [go_sem], by simp [go_sem], by simp [go_sem], by simp [go_sem], fun o => by simp [go_sem]⟩
  replace hs := hs.below hBW
  replace ht := ht.below hBW
  go_enter Try.func130, Try.ntmps130
  go_wp2_with fail
  rw [← hW]
  clear hW
  refine (sign_int _ _ _ _ k hi' _ ht.hi).mono ?_
  rintro r w0 ⟨rfl, hb0⟩
  replace hBW := bthen hBW hb0
  replace A := A.below hb0
  replace G := G.below hb0
  replace R := R.below hb0
  replace hs := hs.below hb0
  replace ht := ht.below hb0
  clear hb0
  have lA := A.lt
  have lG := G.lt
  obtain ⟨x0, x1, x2, x3, x4⟩ := A
  obtain ⟨y0, y1, y2, y3, y4⟩ := G
  have A : SpC w0 w.heap.size s := ⟨x0, x1, x2, x3, x4⟩
  have G : SpC w0 (w.heap.size + 1) t := ⟨y0, y1, y2, y3, y4⟩
  go_wp2_with fail
  clear lA lG x0 x1 x2 x3 x4 y0 y1 y2 y3 y4
  refine (corners_div1 _ s t k b w.heap.size lo hi lo' hi' hs ht hk hb hp hp2 (by rw [← unhide HBT]; exact A.c4)).mono ?_
  rintro r w1 ⟨B1, f1, rfl, hN1, hb1⟩
  replace hBW := bthen hBW hb1
  replace A := A.below hb1
  replace G := G.below hb1
  replace R := R.below hb1
  replace hs := hs.below hb1
  replace ht := ht.below hb1
  clear hb1
  go_wp2_with fail
  refine (leastw_int _ 3 _ (b / 16 + k + 9) f1 _ _ hN1 (by omega) (by omega)).mono ?_
  rintro r w2 ⟨neg2, a2, n2, c2, rfl, hint2, hb2⟩
  replace hBW := bthen hBW hb2
  replace A := A.below hb2
  replace G := G.below hb2
  replace R := R.below hb2
  replace hs := hs.below hb2
  replace ht := ht.below hb2
  clear hb2 hN1
  obtain ⟨W2, hW2⟩ : ∃ W', W' = w2.alloc (.cells #[.bool neg2, .slice a2 n2 c2] 26) := ⟨_, rfl⟩
  have hc2 : Below w2.heap.size w2 W2 := by rw [hW2]; exact bl1 _ _
  have X2 : NmC W2 w2.heap.size ⟨neg2, a2, n2, c2⟩ := by rw [hW2]; exact nmc_new w2 ⟨neg2, a2, n2, c2⟩ _
  have lA := A.lt
  have lG := G.lt
  obtain ⟨x0, x1, x2, x3, x4⟩ := A
  obtain ⟨y0, y1, y2, y3, y4⟩ := G
  have A : SpC w2 w.heap.size s := ⟨x0, x1, x2, x3, x4⟩
  have G : SpC w2 (w.heap.size + 1) t := ⟨y0, y1, y2, y3, y4⟩
  go_wp2_with fail
  rw [← hW2]
  clear hW2
  clear lA lG x0 x1 x2 x3 x4 y0 y1 y2 y3 y4
  have nR2 : w2.heap.size ≠ w.heap.size + 1 + 1 := Nat.ne_of_gt R.lt
  replace hBW := bthen hBW hc2
  replace A := A.below hc2
  replace G := G.below hc2
  replace R := R.below hc2
  replace hs := hs.below hc2
  replace ht := ht.below hc2
  replace hint2 := hint2.below hc2
  clear hc2
  refine (corners_div2 _ s t k b w.heap.size lo hi lo' hi' hs ht hk hb hp hp2 (by rw [← unhide HBT]; exact A.c4)).mono ?_
  rintro r w3 ⟨B3, f3, rfl, hN3, hb3⟩
  replace hBW := bthen hBW hb3
  replace A := A.below hb3
  replace R := R.below hb3
  replace hint2 := hint2.below hb3
  replace X2 := X2.below hb3
  clear hb3
  go_wp2_with fail
  refine (most_int _ 3 _ (b / 16 + k + 9) f3 _ _ hN3 (by omega) (by omega)).mono ?_
  rintro r w4 ⟨neg4, a4, n4, c4, rfl, hint4, hb4⟩
  replace hBW := bthen hBW hb4
  replace A := A.below hb4
  replace R := R.below hb4
  replace hint2 := hint2.below hb4
  replace X2 := X2.below hb4
  clear hb4 hN3
  have lA := A.lt
  have lX := X2.lt
  have lR := R.lt
  have nR2' : w.heap.size + 1 + 1 ≠ w2.heap.size := fun e9 => nR2 e9.symm
  have nR4 : w4.heap.size ≠ w.heap.size + 1 + 1 := Nat.ne_of_gt lR
  have nR4' : w.heap.size + 1 + 1 ≠ w4.heap.size := Nat.ne_of_lt lR
  have nX4 : w2.heap.size ≠ w4.heap.size := Nat.ne_of_lt lX
  obtain ⟨x0, x1, x2, x3, x4⟩ := A
  obtain ⟨z0, z1⟩ := X2
  obtain ⟨q0, q1, q2, q3, q4, q5⟩ := R
  go_wp2_with fail
  refine bodyPost_ret (v := .agg #[.bool neg2, .slice a2 n2 c2, .bool neg4, .slice a4 n4 c4, .int .i64 s.bits]) (by simp [results, Try.results130, go_sem, lR, q0, q1, q2, q3, q4]) rfl ⟨⟨neg2, a2, n2, c2, neg4, a4, n4, c4, s.bits⟩, rfl, unhide HBT, ?_, ?_⟩
  · first | with_reducible exact SpAt.put5 ⟨(hint2.below (bl1 _ _)).mono (by omega), (hint4.below (bl1 _ _)).mono (by omega)⟩ (by simp [go_sem, lR, q0]) (by simp [go_sem, lR, q1]) (by simp [go_sem, lR, q2]) (by simp [go_sem, lR, q3]) (by simp [go_sem, lR, q4]) _ _ _ _ _ | with_reducible exact SpAt.below (SpAt.put5 ⟨hint2.mono (by omega), hint4.mono (by omega)⟩ q0 q1 q2 q3 q4 _ _ _ _ _) (bl1 _ _)
  · first | with_reducible exact set5 (balloc hBW _) (by omega) _ _ _ _ _ | with_reducible exact balloc (set5 hBW (by omega) _ _ _ _ _) _
end Go.Proofs.Ytgmnknmjainabab

namespace Go.Proofs.Ytgmnknmjainabab
set_option linter.unusedVariables false
set_option linter.unusedSimpArgs false
set_option linter.unnecessarySimpa false
open Go.RowKit
attribute [local go_sem ↓] Go.wp_at_zero Go.wp_at_succ

theorem SpC.put5n {w : World} {B B' : Nat} {s : Sp} (h : SpC w B s) (hne : B ≠ B') (u0 u1 u2 u3 u4 : Value) :
    SpC (((((w.setCell ⟨B', 0, none⟩ u0).setCell ⟨B', 1, none⟩ u1).setCell ⟨B', 2, none⟩ u2).setCell ⟨B', 3, none⟩ u3).setCell ⟨B', 4, none⟩ u4) B s :=
  ⟨cell_put5' h.c0 hne _ _ _ _ _, cell_put5' h.c1 hne _ _ _ _ _, cell_put5' h.c2 hne _ _ _ _ _, cell_put5' h.c3 hne _ _ _ _ _, cell_put5' h.c4 hne _ _ _ _ _⟩
theorem NoC.put5n {w : World} {B B' : Nat} (h : NoC w B) (hne : B ≠ B') (u0 u1 u2 u3 u4 : Value) :
    NoC (((((w.setCell ⟨B', 0, none⟩ u0).setCell ⟨B', 1, none⟩ u1).setCell ⟨B', 2, none⟩ u2).setCell ⟨B', 3, none⟩ u3).setCell ⟨B', 4, none⟩ u4) B := by
  obtain ⟨q0, q1, q2, q3, q4, q5⟩ := h
  exact ⟨cell_put5' q0 hne _ _ _ _ _, cell_put5' q1 hne _ _ _ _ _, cell_put5' q2 hne _ _ _ _ _, cell_put5' q3 hne _ _ _ _ _, cell_put5' q4 hne _ _ _ _ _, fun o => by rw [frozen_set', frozen_set', frozen_set', frozen_set', frozen_set']; exact q5 o⟩
theorem sp_put {w : World} {B : Nat} {t : Sp} (h : SpC w B t) (s : Sp) : SpC (((((w.setCell ⟨B, 0, none⟩ (.bool s.ln)).setCell ⟨B, 1, none⟩ (.slice s.la s.lN s.lc)).setCell ⟨B, 2, none⟩ (.bool s.hn)).setCell ⟨B, 3, none⟩ (.slice s.ha s.hN s.hc)).setCell ⟨B, 4, none⟩ (.int .i64 s.bits)) B s := by
  obtain ⟨q0, q1, q2, q3, q4⟩ := h
  constructor <;> simp [go_sem, q0, q1, q2, q3, q4]
/-- Two spans that are written anew, one behind the other. -/
theorem two_sp {w : World} {B B' : Nat} {s t : Sp} (hA : SpC w B s) (hG : SpC w B' t) (hne : B ≠ B') (u v : Sp) :
    let w1 := ((((w.setCell ⟨B, 0, none⟩ (.bool u.ln)).setCell ⟨B, 1, none⟩ (.slice u.la u.lN u.lc)).setCell ⟨B, 2, none⟩ (.bool u.hn)).setCell ⟨B, 3, none⟩ (.slice u.ha u.hN u.hc)).setCell ⟨B, 4, none⟩ (.int .i64 u.bits)
    let w2 := ((((w1.setCell ⟨B', 0, none⟩ (.bool v.ln)).setCell ⟨B', 1, none⟩ (.slice v.la v.lN v.lc)).setCell ⟨B', 2, none⟩ (.bool v.hn)).setCell ⟨B', 3, none⟩ (.slice v.ha v.hN v.hc)).setCell ⟨B', 4, none⟩ (.int .i64 v.bits)
    SpC w2 B u ∧ SpC w2 B' v ∧ (∀ {x : Sp} {k : Nat} {lo hi : Int}, SpAt w x k lo hi → SpAt w2 x k lo hi) ∧ (∀ {C : Nat}, NoC w C → C ≠ B → C ≠ B' → NoC w2 C) := by
  intro w1 w2
  have h1 : SpC w1 B u := sp_put hA u
  have h2 : SpC w1 B' t := hG.put5n (fun e => hne e.symm) _ _ _ _ _
  exact ⟨h1.put5n hne _ _ _ _ _, sp_put h2 v, fun h => SpAt.put5 (SpAt.put5 h hA.c0 hA.c1 hA.c2 hA.c3 hA.c4 _ _ _ _ _) h2.c0 h2.c1 h2.c2 h2.c3 h2.c4 _ _ _ _ _, fun h n1 n2 => (h.put5n n1 _ _ _ _ _).put5n n2 _ _ _ _ _⟩

set_option maxRecDepth 100000 in
set_option maxHeartbeats 4000000 in
theorem wideDiv_neg (w : World) (s t : Sp) (k b : Nat) (lo hi lo' hi' : Int) (hs : SpAt w s k lo hi) (ht : SpAt w t k lo' hi') (hk : k ≤ 300000000) (hb : b ≤ 1000000) (hbits : s.bits = b) (hp : lo' < 0) (hp2 : hi' < 0) :
    Calls Try.prog 130 #[.agg #[.bool s.ln, .slice s.la s.lN s.lc, .bool s.hn, .slice s.ha s.hN s.hc, .int .i64 s.bits], .agg #[.bool t.ln, .slice t.la t.lN t.lc, .bool t.hn, .slice t.ha t.hN t.hc, .int .i64 t.bits]] w (SpanAns w b (b / 16 + k + 10) (leastZ (pr4 ((-hi) * Q b / (-hi')) ((-hi) * Q b / (-lo')) ((-lo) * Q b / (-hi')) ((-lo) * Q b / (-lo'))) 3) (mostZ (pr4 (-(-((-hi) * Q b) / (-hi'))) (-(-((-hi) * Q b) / (-lo'))) (-(-((-lo) * Q b) / (-hi'))) (-(-((-lo) * Q b) / (-lo')))) 3)) := by
  have HBT := hide hbits
  have t1 : cmpInt hi' 0 < 0 := by unfold cmpInt; rw [if_pos (by omega)]; omega
  clear hbits
  obtain ⟨W, hW⟩ : ∃ W, W = ((w.alloc (.cells #[.bool s.ln, .slice s.la s.lN s.lc, .bool s.hn, .slice s.ha s.hN s.hc, .int .i64 s.bits] 28)).alloc (.cells #[.bool t.ln, .slice t.la t.lN t.lc, .bool t.hn, .slice t.ha t.hN t.hc, .int .i64 t.bits] 28)).alloc (.cells #[.bool false, .slice none 0 0, .bool false, .slice none 0 0, .int .i64 0] 28) := ⟨_, rfl⟩
  have hBW : Below w.heap.size w W := by rw [hW]; exact bl3 _ _ _ _
  have A : SpC W w.heap.size s := by rw [hW]; exact ⟨by simp [go_sem], by simp [go_sem], by simp [go_sem], by simp [go_sem], by simp [go_sem]⟩
  have G : SpC W (w.heap.size + 1) t := by rw [hW]; exact ⟨by simp [go_sem], by simp [go_sem], by simp [go_sem], by simp [go_sem], by simp [go_sem]⟩
  have R : NoC W (w.heap.size + 1 + 1) := by rw [hW]; exact ⟨by simp [go_sem], by simp [go_sem], by simp [go_sem], by simp [go_sem], by simp [go_sem], fun o => by simp [go_sem]⟩
  have FA : ∀ o, W.frozen? ⟨w.heap.size, o, none⟩ = false := by intro o; rw [hW]; simp [go_sem]
  have FG : ∀ o, W.frozen? ⟨w.heap.size + 1, o, none⟩ = false := by intro o; rw [hW]; simp [go_sem]
  replace hs := hs.below hBW
  replace ht := ht.below hBW
  go_enter Try.func130, Try.ntmps130
  go_wp2_with fail
  rw [← hW]
  clear hW
  refine (sign_int _ _ _ _ k hi' _ ht.hi).mono ?_
  rintro r w0 ⟨rfl, hb0⟩
  replace hBW := bthen hBW hb0
  replace FA : ∀ o, w0.frozen? ⟨w.heap.size, o, none⟩ = false := fun o => (hb0.frozen (p := ⟨w.heap.size, o, none⟩) A.lt).trans (FA o)
  replace FG : ∀ o, w0.frozen? ⟨w.heap.size + 1, o, none⟩ = false := fun o => (hb0.frozen (p := ⟨w.heap.size + 1, o, none⟩) G.lt).trans (FG o)
  replace A := A.below hb0
  replace G := G.below hb0
  replace R := R.below hb0
  replace hs := hs.below hb0
  replace ht := ht.below hb0
  clear hb0
  have nAG : w.heap.size ≠ w.heap.size + 1 := by omega
  have nRA : w.heap.size + 1 + 1 ≠ w.heap.size := by omega
  have nRG : w.heap.size + 1 + 1 ≠ w.heap.size + 1 := by omega
  have HS := hide hs
  have HT := hide ht
  have HR := hide R
  have HA := hide A
  have HG := hide G
  have lA := A.lt
  have lG := G.lt
  have hB0 : Below w0.heap.size w0 w0.drew := (Below.refl _ _).drew
  obtain ⟨x0, x1, x2, x3, x4⟩ := A
  obtain ⟨y0, y1, y2, y3, y4⟩ := G
  go_wp2_with fail
  go_cut [12] (fun p wx => ∃ s2 t2 : Sp, s2.bits = s.bits ∧ SpC wx w.heap.size s2 ∧ SpC wx (w.heap.size + 1) t2 ∧ SpAt wx s2 k (-hi) (-lo) ∧ SpAt wx t2 k (-hi') (-lo') ∧ NoC wx (w.heap.size + 1 + 1) ∧ Below w.heap.size w wx)
  case first =>
    go_region_with
      (first
        | (go_at_call 78; have hq := hB1; refine (opposite_int _ t k lo' hi' ((unhide HT).below hB1) (by omega)).mono ?_; rintro r w2 ⟨u2, rfl, hub2, hup2, hb2⟩; have HU2 := hide hub2; clear hub2; have hB2 := bthen hB1 hb2; replace hup1 := hup1.below hb2; have l2A := Nat.lt_of_lt_of_le lA hB2.size; have l2G := Nat.lt_of_lt_of_le lG hB2.size; obtain ⟨a0, a1, a2, a3, a4⟩ := (unhide HA).below hB2; obtain ⟨g0, g1, g2, g3, g4⟩ := (unhide HG).below hB2; have fA2 : ∀ o, w2.frozen? ⟨w.heap.size, o, none⟩ = false := (fun o => (hB2.frozen (p := ⟨w.heap.size, o, none⟩) lA).trans (FA o)); have fG2 : ∀ o, w2.frozen? ⟨w.heap.size + 1, o, none⟩ = false := (fun o => (hB2.frozen (p := ⟨w.heap.size + 1, o, none⟩) lG).trans (FG o)))
        | (go_at_call 78; refine (opposite_int _ s k lo hi ((unhide HS).below (by repeat' (first | with_reducible exact Below.refl _ _ | with_reducible refine Below.drew ?_))) (by omega)).mono ?_; rintro r w1 ⟨u1, rfl, hub1, hup1, hb1⟩; have HU1 := hide hub1; clear hub1; have hB1 : Below w0.heap.size w0 w1 := bthen (by repeat' (first | with_reducible exact Below.refl _ _ | with_reducible refine Below.drew ?_)) hb1; obtain ⟨b0, b1, b2, b3, b4⟩ := (unhide HA).below hB1; obtain ⟨d0, d1, d2, d3, d4⟩ := (unhide HG).below hB1; have l1A := Nat.lt_of_lt_of_le lA hB1.size; have l1G := Nat.lt_of_lt_of_le lG hB1.size))
    all_goals
      go_wp2_with fail
      go_meet
      have A2 : SpC w2 w.heap.size s := ⟨a0, a1, a2, a3, a4⟩
      have G2 : SpC w2 (w.heap.size + 1) t := ⟨g0, g1, g2, g3, g4⟩
      obtain ⟨p1, p2, p3, p4⟩ := two_sp A2 G2 nAG u1 u2
      exact ⟨u1, u2, unhide HU1, p1, p2, p3 hup1, p3 hup2, p4 ((unhide HR).below hB2) nRA nRG, set5 (set5 (bthen hBW hB2) (Nat.le_refl _) _ _ _ _ _) (Nat.le_succ _) _ _ _ _ _⟩
  case rest =>
  obtain ⟨s2, t2, hsb, A, G, hs, ht, R, hBW⟩ := hcut
  replace HBT := hide (hsb.trans (unhide HBT))
  clear hsb HA HG HS HT HR lA lG x0 x1 x2 x3 x4 y0 y1 y2 y3 y4 FA FG hB0
  have lA := A.lt
  have lG := G.lt
  obtain ⟨x0, x1, x2, x3, x4⟩ := A
  obtain ⟨y0, y1, y2, y3, y4⟩ := G
  have A : SpC wc w.heap.size s2 := ⟨x0, x1, x2, x3, x4⟩
  have G : SpC wc (w.heap.size + 1) t2 := ⟨y0, y1, y2, y3, y4⟩
  go_wp2_with fail
  clear lA lG x0 x1 x2 x3 x4 y0 y1 y2 y3 y4
  refine (corners_div1 _ s2 t2 k b w.heap.size (-hi) (-lo) (-hi') (-lo') hs ht hk hb (by omega) (by omega) (by rw [← unhide HBT]; exact A.c4)).mono ?_
  rintro r w1 ⟨B1, f1, rfl, hN1, hb1⟩
  replace hBW := bthen hBW hb1
  replace A := A.below hb1
  replace G := G.below hb1
  replace R := R.below hb1
  replace hs := hs.below hb1
  replace ht := ht.below hb1
  clear hb1
  go_wp2_with fail
  refine (leastw_int _ 3 _ (b / 16 + k + 9) f1 _ _ hN1 (by omega) (by omega)).mono ?_
  rintro r w2 ⟨neg2, a2, n2, c2, rfl, hint2, hb2⟩
  replace hBW := bthen hBW hb2
  replace A := A.below hb2
  replace G := G.below hb2
  replace R := R.below hb2
  replace hs := hs.below hb2
  replace ht := ht.below hb2
  clear hb2 hN1
  obtain ⟨W2, hW2⟩ : ∃ W', W' = w2.alloc (.cells #[.bool neg2, .slice a2 n2 c2] 26) := ⟨_, rfl⟩
  have hc2 : Below w2.heap.size w2 W2 := by rw [hW2]; exact bl1 _ _
  have X2 : NmC W2 w2.heap.size ⟨neg2, a2, n2, c2⟩ := by rw [hW2]; exact nmc_new w2 ⟨neg2, a2, n2, c2⟩ _
  have lA := A.lt
  have lG := G.lt
  obtain ⟨x0, x1, x2, x3, x4⟩ := A
  obtain ⟨y0, y1, y2, y3, y4⟩ := G
  have A : SpC w2 w.heap.size s2 := ⟨x0, x1, x2, x3, x4⟩
  have G : SpC w2 (w.heap.size + 1) t2 := ⟨y0, y1, y2, y3, y4⟩
  go_wp2_with fail
  rw [← hW2]
  clear hW2
  clear lA lG x0 x1 x2 x3 x4 y0 y1 y2 y3 y4
  have nR2 : w2.heap.size ≠ w.heap.size + 1 + 1 := Nat.ne_of_gt R.lt
  replace hBW := bthen hBW hc2
  replace A := A.below hc2
  replace G := G.below hc2
  replace R := R.below hc2
  replace hs := hs.below hc2
  replace ht := ht.below hc2
  replace hint2 := hint2.below hc2
  clear hc2
  refine (corners_div2 _ s2 t2 k b w.heap.size (-hi) (-lo) (-hi') (-lo') hs ht hk hb (by omega) (by omega) (by rw [← unhide HBT]; exact A.c4)).mono ?_
  rintro r w3 ⟨B3, f3, rfl, hN3, hb3⟩
  replace hBW := bthen hBW hb3
  replace A := A.below hb3
  replace R := R.below hb3
  replace hint2 := hint2.below hb3
  replace X2 := X2.below hb3
  clear hb3
  go_wp2_with fail
  refine (most_int _ 3 _ (b / 16 + k + 9) f3 _ _ hN3 (by omega) (by omega)).mono ?_
  rintro r w4 ⟨neg4, a4, n4, c4, rfl, hint4, hb4⟩
  replace hBW := bthen hBW hb4
  replace A := A.below hb4
  replace R := R.below hb4
  replace hint2 := hint2.below hb4
  replace X2 := X2.below hb4
  clear hb4 hN3
  have lA := A.lt
  have lX := X2.lt
  have lR := R.lt
  have nR2' : w.heap.size + 1 + 1 ≠ w2.heap.size := fun e9 => nR2 e9.symm
  have nR4 : w4.heap.size ≠ w.heap.size + 1 + 1 := Nat.ne_of_gt lR
  have nR4' : w.heap.size + 1 + 1 ≠ w4.heap.size := Nat.ne_of_lt lR
  have nX4 : w2.heap.size ≠ w4.heap.size := Nat.ne_of_lt lX
  obtain ⟨x0, x1, x2, x3, x4⟩ := A
  obtain ⟨z0, z1⟩ := X2
  obtain ⟨q0, q1, q2, q3, q4, q5⟩ := R
  go_wp2_with fail
  refine bodyPost_ret (v := .agg #[.bool neg2, .slice a2 n2 c2, .bool neg4, .slice a4 n4 c4, .int .i64 s2.bits]) (by simp [results, Try.results130, go_sem, lR, q0, q1, q2, q3, q4]) rfl ⟨⟨neg2, a2, n2, c2, neg4, a4, n4, c4, s2.bits⟩, rfl, unhide HBT, ?_, ?_⟩
  · first | with_reducible exact SpAt.put5 ⟨(hint2.below (bl1 _ _)).mono (by omega), (hint4.below (bl1 _ _)).mono (by omega)⟩ (by simp [go_sem, lR, q0]) (by simp [go_sem, lR, q1]) (by simp [go_sem, lR, q2]) (by simp [go_sem, lR, q3]) (by simp [go_sem, lR, q4]) _ _ _ _ _ | with_reducible exact SpAt.below (SpAt.put5 ⟨hint2.mono (by omega), hint4.mono (by omega)⟩ q0 q1 q2 q3 q4 _ _ _ _ _) (bl1 _ _)
  · first | with_reducible exact set5 (balloc hBW _) (by omega) _ _ _ _ _ | with_reducible exact balloc (set5 hBW (by omega) _ _ _ _ _) _

theorem wideDiv_any (w : World) (s t : Sp) (k b : Nat) (lo hi lo' hi' : Int) (hs : SpAt w s k lo hi) (ht : SpAt w t k lo' hi') (hk : k ≤ 300000000) (hb : b ≤ 1000000) (hbits : s.bits = b) (hl : lo ≤ hi) (hp : ¬ (lo' ≤ 0 ∧ 0 ≤ hi')) (hp2 : lo' ≤ hi') :
    Calls Try.prog 130 #[.agg #[.bool s.ln, .slice s.la s.lN s.lc, .bool s.hn, .slice s.ha s.hN s.hc, .int .i64 s.bits], .agg #[.bool t.ln, .slice t.la t.lN t.lc, .bool t.hn, .slice t.ha t.hN t.hc, .int .i64 t.bits]] w (SpanAns w b (b / 16 + k + 10) (dvLo lo hi lo' hi' b) (dvHi lo hi lo' hi' b)) := by
  have hq := Q_pos b
  unfold dvLo dvHi
  by_cases h : hi' < 0
  · rw [if_pos h, if_pos h]
    have := wideDiv_neg w s t k b lo hi lo' hi' hs ht hk hb hbits (by omega) h
    rw [over_least (Int.mul_le_mul_of_nonneg_right (by omega) (by omega)) (by omega) (by omega), over_most (Int.mul_le_mul_of_nonneg_right (by omega) (by omega)) (by omega) (by omega)] at this
    exact this
  · rw [if_neg h, if_neg h]
    have := wideDiv_pos w s t k b lo hi lo' hi' hs ht hk hb hbits (by omega) (by omega)
    rw [over_least (Int.mul_le_mul_of_nonneg_right hl (by omega)) (by omega) (by omega), over_most (Int.mul_le_mul_of_nonneg_right hl (by omega)) (by omega) (by omega)] at this
    exact this
end Go.Proofs.Ytgmnknmjainabab
