/-
  Texts GamD, DifM, PsrM, PrdM, BetM: what they hold is told in the last text.
-/
import Derived.Test.YtgmnknmjainababK02
set_option linter.unusedVariables false
namespace Go.Proofs.Ytgmnknmjainabab.Ex
structure IsGam (L : Rat → Nat → Rat) (a : Rat) (g : Nat → Rat) : Prop where
  bdd : Bdd g
  pos : ∃ c : Rat, 0 < c ∧ ∃ N : Nat, ∀ M, N ≤ M → c ≤ g M
  lo : ∀ x, 0 < x → LeN (uG L a x) g
  hi : ∀ x, 1 ≤ x → 2 * a ≤ x + 2 → LeN g (fun M => uG L a x M + 2 * uE L a x M)
theorem bdd_between {f g k : Nat → Rat} (h1 : LeN f g) (h2 : LeN g k) (bf : Bdd f) (bk : Bdd k) : Bdd g := by
  obtain ⟨N1, a1⟩ := h1 1 (by grind)
  obtain ⟨N2, a2⟩ := h2 1 (by grind)
  obtain ⟨K1, M1, k10, b1⟩ := bf
  obtain ⟨K2, M2, k20, b2⟩ := bk
  refine ⟨K1 + K2 + 1, N1 + N2 + M1 + M2, by grind, fun M hM => ?_⟩
  have := a1 M (by omega)
  have := a2 M (by omega)
  have := b1 M (by omega)
  have := b2 M (by omega)
  obtain ⟨c1, c2⟩ := this
  obtain ⟨d1, d2⟩ := ‹AB (f M) K1›
  exact ⟨by grind, by grind⟩
theorem uG_low {L : Rat → Nat → Rat} (hL : Lns L) {a x : Rat} (ha : 0 < a) (hx : 0 < x) : ∃ c : Rat, 0 < c ∧ ∃ N : Nat, ∀ M, N ≤ M → c ≤ uG L a x M := by
  obtain ⟨c1, p1, N1, h1⟩ := Ev_low (pr_arg hL hx a)
  obtain ⟨c2, p2, N2, h2⟩ := Ev_low (Bdd.const (-x))
  have ip : 0 < 1 / a := rdiv_pos (by grind) ha
  refine ⟨c1 * c2 * (1 / a), Rat.mul_pos (Rat.mul_pos p1 p2) ip, N1 + N2 + 1, fun M hM => ?_⟩
  obtain ⟨m, rfl⟩ : ∃ m, M = m + 1 := ⟨M - 1, by omega⟩
  have f := uS_first ha (Rat.le_of_lt hx) m
  have a1 := h1 (m + 1) (by omega)
  have a2 := h2 (m + 1) (by omega)
  have b : c1 * c2 ≤ pr L a x (m + 1) * ex (-x) (m + 1) := Rat.le_trans (Rat.mul_le_mul_of_nonneg_right a1 (Rat.le_of_lt p2)) (Rat.mul_le_mul_of_nonneg_left a2 (show 0 ≤ pr L a x (m + 1) by unfold pr; grind))
  have c0 := Rat.mul_nonneg (Rat.le_of_lt p1) (Rat.le_of_lt p2)
  unfold uG
  exact Rat.le_trans (Rat.mul_le_mul_of_nonneg_right b (Rat.le_of_lt ip)) (Rat.mul_le_mul_of_nonneg_left f (by grind))
theorem pos_of_le {f g : Nat → Rat} (h : LeN f g) (k : ∃ c : Rat, 0 < c ∧ ∃ N : Nat, ∀ M, N ≤ M → c ≤ f M) : ∃ c : Rat, 0 < c ∧ ∃ N : Nat, ∀ M, N ≤ M → c ≤ g M := by
  obtain ⟨c, c0, N, hc⟩ := k
  obtain ⟨N2, h2⟩ := h (c / 2) (by grind)
  exact ⟨c / 2, by grind, N + N2, fun M hM => by have := hc M (by omega); have := h2 M (by omega); grind⟩
theorem Gam1.isGam {L : Rat → Nat → Rat} (hL : Lns L) {a : Rat} {g : Nat → Rat} (ha : 0 < a) (h : Gam1 L a g) : IsGam L a g := by
  have one : (0 : Rat) < 1 := by grind
  refine ⟨bdd_between (h.lo 1 one) (h.hi 1 one) (uG_bdd hL ha one) ((uG_bdd hL ha one).add (uE_bdd hL one a)), pos_of_le (h.lo 1 one) (uG_low hL ha one), h.lo, fun x hx _ => (h.hi x (by grind)).trans ?_⟩
  obtain ⟨N, hN⟩ := uE_nn hL (show 0 < x by grind) a
  exact LeN.of_le N fun M hM => by have := hN M hM; grind
theorem uE_next {L : Rat → Nat → Rat} (hL : Lns L) {x : Rat} (hx : 0 < x) (a : Rat) : Null (fun M => x * uE L a x M - uE L (a + 1) x M) := by
  refine (uE_mul hL hx a).of_eq fun M => ?_
  have e : a + 1 - 1 = a := by grind
  unfold uE
  rw [e]
theorem uG_next {L : Rat → Nat → Rat} (hL : Lns L) {a x : Rat} (ha : 0 < a) (hx : 0 < x) : Null (fun M => uG L (a + 1) x M - (a * uG L a x M - uE L (a + 1) x M)) := by
  have x0 := Rat.le_of_lt hx
  have a1 : 0 < a + 1 := by grind
  have h1 := pr_add hL hx a 1
  have h2 := (pr_one hL hx).bmul (pr_bdd hL hx a)
  have b := (ex_bdd (-x)).mul (uS_Bdd a1 x0)
  have h3 := (h2.sub h1).bmul b
  have h4 := (upT_null ha x0).bmul (((Bdd.const a).mul (pr_bdd hL hx a)).mul (ex_bdd (-x)))
  refine (h4.add h3).of_eq fun M => ?_
  have e1 := uS_next ha x M
  have e2 : uS a x (M + 1) = uS a x M + upT a x M := rfl
  have e3 : a + 1 - 1 = a := by grind
  unfold uG uE
  rw [e3]
  have e4 : x * uS (a + 1) x M = a * (uS a x M + upT a x M) - 1 := by rw [← e2, e1]; grind
  generalize pr L a x M = p at *
  generalize pr L (a + 1) x M = p1 at *
  generalize ex (-x) M = y at *
  generalize pr L 1 x M = p2 at *
  generalize upT a x M = t at *
  generalize uS a x M = s at *
  generalize uS (a + 1) x M = s1 at *
  have k : p * y * (x * s1) = p * y * (a * (s + t) - 1) := by rw [e4]
  clear e1 e2 e3 e4 h1 h2 h3 h4
  grind
theorem IsGam.next {L : Rat → Nat → Rat} (hL : Lns L) {a : Rat} {g : Nat → Rat} (ha : 0 < a) (h : IsGam L a g) : IsGam L (a + 1) (fun M => a * g M) := by
  have a0 := Rat.le_of_lt ha
  refine ⟨(Bdd.const a).mul h.bdd, ?_, fun x hx => ?_, fun x hx hx2 => ?_⟩
  · obtain ⟨c, c0, N, hc⟩ := h.pos
    exact ⟨a * c, Rat.mul_pos ha c0, N, fun M hM => Rat.mul_le_mul_of_nonneg_left (hc M hM) a0⟩
  · refine (LeN.of_eqN (uG_next hL ha hx)).trans (LeN.trans ?_ ((h.lo x hx).cmul a0))
    obtain ⟨N, hN⟩ := uE_nn hL hx (a + 1)
    exact LeN.of_le N fun M hM => by have := hN M hM; grind
  · have x0 : 0 < x := by grind
    refine ((h.hi x hx (by grind)).cmul a0).trans ?_
    obtain ⟨z, hz, kz⟩ := (LeN.of_eqN (uE_next hL x0 a)).null
    obtain ⟨N, hN⟩ := uE_nn hL x0 a
    refine LeN.of_null ((uG_next hL ha x0).neg.add hz) N fun M hM => ?_
    have k := kz M
    have n := hN M hM
    have m := Rat.mul_le_mul_of_nonneg_right (show 2 * a ≤ x by grind) n
    generalize uG L (a + 1) x M = w1 at *
    generalize uE L (a + 1) x M = w2 at *
    generalize uG L a x M = w3 at *
    generalize uE L a x M = w4 at *
    grind
theorem leN_small {f g : Nat → Rat} (h : ∀ n : Nat, LeN f (fun M => g M + q2 n)) : LeN f g := fun e he => by
  obtain ⟨N, hN⟩ := null_q2 (e / 2) (by grind)
  obtain ⟨N2, h2⟩ := h N (e / 2) (by grind)
  have q := (hN N (Nat.le_refl _)).2
  exact ⟨N2, fun M hM => by have := h2 M hM; grind⟩
theorem ex_half (n : Nat) : LeN (ex (-(n : Rat))) (fun _ => q2 n) := by
  induction n with
  | zero =>
    refine LeN.of_le 1 fun M hM => ?_
    obtain ⟨m, rfl⟩ : ∃ m, M = m + 1 := ⟨M - 1, by omega⟩
    have e : -((0 : Nat) : Rat) = 0 := by have : ((0 : Nat) : Rat) = 0 := rfl
                                          rw [this]; grind
    rw [e]
    have : ex 0 (m + 1) = 1 := E_zero m
    rw [this]
    show (1 : Rat) ≤ 1
    exact Rat.le_refl
  | succ n ih =>
    have c : ((n + 1 : Nat) : Rat) = (n : Rat) + 1 := by push_cast; rfl
    have l : LeN (fun _ => (2 : Rat)) (ex 1) := LeN.of_le 2 fun M hM => by have := E_one1 (x := 1) (by grind) hM; show 2 ≤ E 1 M; grind
    have m := l.bmul (ex_bdd (-((n : Rat) + 1))) (ex_nn _)
    have s := ex_add 1 (-((n : Rat) + 1))
    have e : 1 + -((n : Rat) + 1) = -(n : Rat) := by grind
    rw [e] at s
    have k := (m.trans (LeN.of_eqN s)).trans ih
    rw [c]
    refine LeN.trans (LeN.of_le 0 fun M _ => ?_) ((k.cmul (c := 1 / 2) (by grind)).trans (LeN.of_le 0 fun M _ => ?_))
    · grind
    · show 1 / 2 * q2 n ≤ q2 (n + 1)
      have : q2 (n + 1) = q2 n / 2 := rfl
      rw [this]; grind
theorem uS_one {x : Rat} (M : Nat) : x * uS 1 x M = E x (M + 1) - 1 := by
  have t : ∀ n : Nat, x * upT 1 x n = tm x (n + 1) := fun n => by
    induction n with
    | zero =>
      have e := tm_succ x 0
      have c : ((0 : Nat) : Rat) = 0 := rfl
      rw [c] at e
      have e2 : tm x 0 = 1 := rfl
      rw [e2] at e
      have e3 := upT_zero (show (0 : Rat) < 1 by grind) x
      grind
    | succ n ih =>
      have e1 := upT_succ (show (0 : Rat) < 1 by grind) x n
      have e2 := tm_succ x (n + 1)
      have c : ((n + 1 : Nat) : Rat) = (n : Rat) + 1 := by push_cast; rfl
      rw [c] at e2
      refine rat_cancel (show 0 < (n : Rat) + 1 + 1 by have := pos1 n; grind) ?_
      rw [e2, ← ih]
      grind
  induction M with
  | zero => show x * 0 = (0 + 1) - 1; grind
  | succ n ih =>
    have := t n
    have e : E x (n + 1 + 1) = E x (n + 1) + tm x (n + 1) := rfl
    rw [uS_succ, e]; grind
theorem gam_one {L : Rat → Nat → Rat} (hL : Lns L) {g : Nat → Rat} (h : Gam1 L 1 g) : Null (fun M => g M - 1) := by
  have key : ∀ x, 0 < x → Null (fun M => uG L 1 x M - (1 - ex (-x) M)) := fun x hx => by
    have x0 := Rat.le_of_lt hx
    have s := ex_add x (-x)
    have e : x + -x = 0 := by grind
    rw [e] at s
    have h2 := (pr_one hL hx).bmul ((ex_bdd (-x)).mul (uS_Bdd (show (0 : Rat) < 1 by grind) x0))
    obtain ⟨K, k0, hK⟩ := tm_bd x
    have tn : Null (tm x) := (null_q4 K k0).of_le 1 fun M hM => (hK M).mono (by
      have m1 : (1 : Rat) ≤ (M : Rat) := by exact_mod_cast hM
      have := Rat.mul_le_mul_of_nonneg_left m1 (Rat.mul_nonneg k0 (Rat.le_of_lt (q4_pos M)))
      grind)
    have h3 := tn.bmul (ex_bdd (-x))
    refine ((h2.add h3).add s).of_eq_from 1 fun M hM => ?_
    have e0 : ex 0 M = 1 := by
      obtain ⟨m, rfl⟩ : ∃ m, M = m + 1 := ⟨M - 1, by omega⟩
      exact E_zero m
    have e1 := uS_one (x := x) M
    have e2 : E x (M + 1) = ex x M + tm x M := rfl
    rw [e0]
    unfold uG
    rw [e2] at e1
    generalize pr L 1 x M = p at *
    generalize ex (-x) M = y at *
    generalize uS 1 x M = u at *
    generalize ex x M = v at *
    generalize tm x M = t at *
    have k : y * (x * u) = y * (v + t - 1) := by rw [e1]
    grind
  have up : LeN g (fun _ => 1) := by
    refine (h.hi 1 (by grind)).trans ?_
    refine LeN.of_null (key 1 (by grind)) 1 fun M hM => ?_
    have e : pr L (1 - 1) 1 M = 1 := by
      obtain ⟨m, rfl⟩ : ∃ m, M = m + 1 := ⟨M - 1, by omega⟩
      unfold pr Ev
      have e : (1 - 1 : Rat) * L 1 (m + 1) = 0 := by grind
      show E ((1 - 1) * L 1 (m + 1)) (m + 1) = 1
      rw [e]
      exact E_zero m
    unfold uE
    rw [e]
    grind
  have dn : LeN (fun _ => (1 : Rat)) g := by
    refine leN_small fun n => ?_
    have n1 : (0 : Rat) < (n : Rat) + 1 := pos1 n
    have a := h.lo _ n1
    obtain ⟨z, hz, kz⟩ := (a.add (ex_half (n + 1))).null
    have c : ((n + 1 : Nat) : Rat) = (n : Rat) + 1 := by push_cast; rfl
    refine LeN.of_null (hz.add (key _ n1).neg) 0 fun M _ => ?_
    have k := kz M
    have e : q2 (n + 1) = q2 n / 2 := rfl
    have q := q2_pos n
    rw [c, e] at k
    grind
  exact up.eq dn
theorem log_seq {L : Rat → Nat → Rat} (hL : Lns L) {g : Nat → Rat} (hb : Bdd g) (hp : ∃ c : Rat, 0 < c ∧ ∃ N : Nat, ∀ M, N ≤ M → c ≤ g M) : ∃ l, IsLog l g := by
  obtain ⟨c, c0, N1, hc⟩ := hp
  obtain ⟨K, N2, k0, hK⟩ := hb
  have Kc : 0 < K + c := by grind
  obtain ⟨B1, M1, b10, h1⟩ := (hL c c0).1
  obtain ⟨B2, M2, b20, h2⟩ := (hL (K + c) Kc).1
  have each : ∀ M, ∃ y : Rat, N1 + N2 ≤ M → AB y (B1 + B2 + 1) ∧ ∃ j, M ≤ j ∧ AB (E y j - g M) (q2 M) := fun M => by
    by_cases hM : N1 + N2 ≤ M
    · have gc := hc M (by omega)
      have gK := (hK M (by omega)).2
      have gp : 0 < g M := by grind
      obtain ⟨n1, p1⟩ := (hL c c0).le (hL _ gp) null_zero 0 (fun _ _ => by grind) 1 (by grind)
      obtain ⟨n2, p2⟩ := (hL _ gp).le (hL _ Kc) null_zero 0 (fun _ _ => by grind) 1 (by grind)
      obtain ⟨n3, p3⟩ := (hL _ gp).2 (q2 M) (q2_pos M)
      obtain ⟨j, hj⟩ : ∃ j, j = M + M1 + M2 + n1 + n2 + n3 := ⟨_, rfl⟩
      refine ⟨L (g M) j, fun _ => ⟨?_, j, by omega, p3 j (by omega)⟩⟩
      have r1 := p1 j (by omega)
      have r2 := p2 j (by omega)
      have r3 := (h1 j (by omega)).1
      have r4 := (h2 j (by omega)).2
      exact ⟨by grind, by grind⟩
    · exact ⟨0, fun h => absurd h hM⟩
  obtain ⟨l, hl⟩ := Classical.skolem.1 each
  obtain ⟨T, t0, hT⟩ := tm_unif (B1 + B2 + 1)
  refine ⟨l, ⟨_, N1 + N2, by grind, fun M hM => (hl M hM).1⟩, ?_⟩
  have z := (null_q4 (2 * T) (by grind)).add null_q2
  refine z.of_le (N1 + N2 + 1) fun M hM => ?_
  obtain ⟨a1, j, hj, a2⟩ := hl M (by omega)
  obtain ⟨i, rfl⟩ : ∃ i, j = M + i := ⟨j - M, by omega⟩
  have s := E_sub (l M) T (fun i => hT _ a1 i) M i
  have m1 : (1 : Rat) ≤ (M : Rat) := by exact_mod_cast (show 1 ≤ M by omega)
  have qm := q4_pos M
  have qi := q4_pos (M + i)
  have mq := Rat.mul_le_mul_of_nonneg_left m1 (Rat.mul_nonneg t0 (Rat.le_of_lt qm))
  have mi := Rat.mul_nonneg t0 (Rat.le_of_lt qi)
  obtain ⟨s1, s2⟩ := s
  obtain ⟨d1, d2⟩ := a2
  show AB (E (l M) M - g M) _
  generalize E (l M) (M + i) = w1 at *
  generalize E (l M) M = w2 at *
  exact ⟨by grind, by grind⟩
end Go.Proofs.Ytgmnknmjainabab.Ex
namespace Go.Proofs.Ytgmnknmjainabab.Ex
def LeA (f : Nat → Rat) (K : Rat) : Prop := ∀ e : Rat, 0 < e → ∃ N : Nat, ∀ M, N ≤ M → AB (f M) (K + e)
theorem LeA.nonneg {f : Nat → Rat} {K : Rat} (h : LeA f K) : 0 ≤ K := by
  refine Rat.not_lt.1 fun hn => ?_
  obtain ⟨N, k⟩ := h (-K / 2) (by grind)
  have := (k N (Nat.le_refl _)).nonneg
  grind
theorem LeA.mono {f : Nat → Rat} {K K' : Rat} (h : LeA f K) (k : K ≤ K') : LeA f K' := fun e he => by
  obtain ⟨N, h⟩ := h e he
  exact ⟨N, fun M hM => (h M hM).mono (by grind)⟩
theorem LeA.of_ab {f : Nat → Rat} {K : Rat} (N : Nat) (h : ∀ M, N ≤ M → AB (f M) K) : LeA f K := fun e he => ⟨N, fun M hM => (h M hM).mono (by grind)⟩
theorem LeA.of_null {f : Nat → Rat} (h : Null f) : LeA f 0 := fun e he => by
  obtain ⟨N, h⟩ := h e he
  exact ⟨N, fun M hM => (h M hM).mono (by grind)⟩
theorem LeA.null {f : Nat → Rat} (h : LeA f 0) : Null f := fun e he => by
  obtain ⟨N, h⟩ := h e he
  exact ⟨N, fun M hM => (h M hM).mono (by grind)⟩
theorem LeA.add {f g : Nat → Rat} {K L : Rat} (h : LeA f K) (k : LeA g L) : LeA (fun M => f M + g M) (K + L) := fun e he => by
  obtain ⟨N, h⟩ := h (e / 2) (by grind)
  obtain ⟨N', k⟩ := k (e / 2) (by grind)
  exact ⟨N + N', fun M hM => ((h M (by omega)).add (k M (by omega))).mono (by grind)⟩
theorem LeA.neg {f : Nat → Rat} {K : Rat} (h : LeA f K) : LeA (fun M => -f M) K := fun e he => by
  obtain ⟨N, h⟩ := h e he
  exact ⟨N, fun M hM => (h M hM).neg⟩
theorem LeA.mul {f g : Nat → Rat} {K L : Rat} (h : LeA f K) (k : LeA g L) : LeA (fun M => f M * g M) (K * L) := fun e he => by
  have k0 := h.nonneg
  have l0 := k.nonneg
  have hp : 0 < K + L + 1 + e := by grind
  have d0 := rdiv_pos he hp
  have dm := rdm (a := e) hp
  obtain ⟨N, h⟩ := h _ d0
  obtain ⟨N', k⟩ := k _ d0
  refine ⟨N + N', fun M hM => ((h M (by omega)).mul (k M (by omega))).mono ?_⟩
  generalize e / (K + L + 1 + e) = d at *
  have m1 := Rat.mul_nonneg (Rat.le_of_lt d0) k0
  have m2 := Rat.mul_nonneg (Rat.le_of_lt d0) l0
  have m3 := Rat.mul_nonneg (Rat.le_of_lt d0) (Rat.le_of_lt he)
  have d1 : d ≤ 1 := by
    refine Rat.not_lt.1 fun hn => ?_
    have := Rat.mul_pos (show 0 < d - 1 by grind) hp
    have := Rat.mul_pos d0 he
    grind
  have m4 := Rat.mul_nonneg (Rat.le_of_lt d0) (show 0 ≤ 1 - d by grind)
  grind
theorem LeA.const {c K : Rat} (h : AB c K) : LeA (fun _ => c) K := LeA.of_ab 0 fun _ _ => h
theorem LeA.of_eq {f g : Nat → Rat} {K : Rat} (h : LeA f K) (e : ∀ M, g M = f M) : LeA g K := by
  have : g = f := funext e
  rw [this]; exact h
theorem LeA.congr {f g : Nat → Rat} {K : Rat} (h : LeA f K) (k : Null (fun M => g M - f M)) : LeA g K := by
  have := (h.add (LeA.of_null k)).mono (K' := K) (by grind)
  exact this.of_eq fun M => by grind
theorem LeA.bdd {f : Nat → Rat} {K : Rat} (h : LeA f K) : Bdd f := by
  obtain ⟨N, h1⟩ := h 1 (by grind)
  exact Bdd.of_le (K + 1) N h1
theorem Bdd.leA {f : Nat → Rat} (h : Bdd f) : ∃ K, LeA f K := by
  obtain ⟨K, N, k0, h⟩ := h
  exact ⟨K, LeA.of_ab N h⟩
theorem LeA.scale {f : Nat → Rat} {K c d : Rat} (h : LeA f K) (hc : AB c d) : LeA (fun M => c * f M) (d * K) := (LeA.const hc).mul h
def Dif (F F' : Rat → Nat → Rat) (p q : Rat) : Prop := ∃ C K, 0 ≤ C ∧ 0 ≤ K ∧ (∀ x, p ≤ x → x ≤ q → LeA (F x) K ∧ LeA (F' x) K) ∧ ∀ x h, p ≤ x → x ≤ q → p ≤ x + h → x + h ≤ q → LeA (fun M => F (x + h) M - F x M - h * F' x M) (C * (h * h))
theorem ab_len {p q x h : Rat} (h1 : p ≤ x) (h2 : x ≤ q) (h3 : p ≤ x + h) (h4 : x + h ≤ q) : AB h (q - p) := ⟨by grind, by grind⟩
theorem Dif.of_small {F F' : Rat → Nat → Rat} {p q D C K : Rat} (hpq : p ≤ q) (hD : 0 < D) (hC : 0 ≤ C) (hK : 0 ≤ K) (b : ∀ x, p ≤ x → x ≤ q → LeA (F x) K ∧ LeA (F' x) K) (s : ∀ x h, p ≤ x → x ≤ q → p ≤ x + h → x + h ≤ q → AB h D → LeA (fun M => F (x + h) M - F x M - h * F' x M) (C * (h * h))) : Dif F F' p q := by
  have DD := Rat.mul_pos hD hD
  obtain ⟨i, hi⟩ : ∃ i, i = 1 / (D * D) := ⟨_, rfl⟩
  have ip : 0 < i := by rw [hi]; exact rdiv_pos (by grind) DD
  have im : i * (D * D) = 1 := by rw [hi]; exact rdm DD
  obtain ⟨W, hW⟩ : ∃ W, W = K + K + (q - p) * K := ⟨_, rfl⟩
  have W0 : 0 ≤ W := by have := Rat.mul_nonneg (show 0 ≤ q - p by grind) hK; grind
  have Wi := Rat.mul_nonneg W0 (Rat.le_of_lt ip)
  refine ⟨C + W * i, K, by grind, hK, b, fun x h h1 h2 h3 h4 => ?_⟩
  have hh := sq_nonneg h
  by_cases c : AB h D
  · refine (s x h h1 h2 h3 h4 c).mono ?_
    have := Rat.mul_nonneg Wi hh
    grind
  · have far : D * D ≤ h * h := by
      by_cases c1 : 0 ≤ h
      · have : D ≤ h := by
          refine Rat.not_lt.1 fun hn => c ⟨by grind, by grind⟩
        have := Rat.mul_le_mul_of_nonneg_right this (Rat.le_of_lt hD)
        have := Rat.mul_le_mul_of_nonneg_left (show D ≤ h by assumption) c1
        grind
      · have : D ≤ -h := by
          refine Rat.not_lt.1 fun hn => c ⟨by grind, by grind⟩
        have := Rat.mul_le_mul_of_nonneg_right this (Rat.le_of_lt hD)
        have := Rat.mul_le_mul_of_nonneg_left (show D ≤ -h by assumption) (show 0 ≤ -h by grind)
        grind
    have l := ((b (x + h) h3 h4).1.add (b x h1 h2).1.neg).add ((b x h1 h2).2.scale (ab_len h1 h2 h3 h4)).neg
    refine (l.mono ?_).of_eq fun M => by grind
    have m1 := Rat.mul_le_mul_of_nonneg_left far Wi
    have m2 : W * i * (D * D) = W := by
      have : W * i * (D * D) = W * (i * (D * D)) := by grind
      rw [this, im]; grind
    have m3 := Rat.mul_nonneg hC hh
    rw [m2] at m1
    rw [← hW]
    grind
theorem Dif.mul {F F' G G' : Rat → Nat → Rat} {p q : Rat} (hpq : p ≤ q) (h : Dif F F' p q) (k : Dif G G' p q) : Dif (fun x M => F x M * G x M) (fun x M => F' x M * G x M + F x M * G' x M) p q := by
  obtain ⟨C1, K1, c10, k10, b1, s1⟩ := h
  obtain ⟨C2, K2, c20, k20, b2, s2⟩ := k
  have W0 : 0 ≤ q - p := by grind
  have n1 := Rat.mul_nonneg c10 k20
  have n2 := Rat.mul_nonneg k10 c20
  have n3 := Rat.mul_nonneg W0 (Rat.mul_nonneg k10 c20)
  have n4 := Rat.mul_nonneg k10 k20
  refine ⟨C1 * K2 + K1 * C2 + (q - p) * (K1 * C2) + K1 * K2, K1 * K2 + K1 * K2, by grind, by grind, fun x h1 h2 => ⟨?_, ?_⟩, fun x h h1 h2 h3 h4 => ?_⟩
  · exact ((b1 x h1 h2).1.mul (b2 x h1 h2).1).mono (by grind)
  · exact ((b1 x h1 h2).2.mul (b2 x h1 h2).1).add ((b1 x h1 h2).1.mul (b2 x h1 h2).2)
  · have d1 := s1 x h h1 h2 h3 h4
    have d2 := s2 x h h1 h2 h3 h4
    have f := b1 x h1 h2
    have g := b2 x h1 h2
    have g1 := b2 (x + h) h3 h4
    have hb := ab_len h1 h2 h3 h4
    have hh := sq_nonneg h
    have hhb : AB (h * h) (h * h) := ⟨by grind, by grind⟩
    have t1 := d1.mul g1.1
    have t2 := f.1.mul d2
    have t3 := (f.2.mul d2).scale hb
    have t4 := (f.2.mul g.2).scale hhb
    refine (((t1.add t2).add (t3.add t4)).mono ?_).of_eq fun M => ?_
    · clear t1 t2 t3 t4 d1 d2 f g g1 b1 b2 s1 s2
      grind
    · clear t1 t2 t3 t4 d1 d2 f g g1 b1 b2 s1 s2
      dsimp only
      generalize F (x + h) M = f1
      generalize F x M = f0
      generalize F' x M = f'
      generalize G (x + h) M = g1
      generalize G x M = g0
      generalize G' x M = g'
      grind
theorem Dif.add {F F' G G' : Rat → Nat → Rat} {p q : Rat} (h : Dif F F' p q) (k : Dif G G' p q) : Dif (fun x M => F x M + G x M) (fun x M => F' x M + G' x M) p q := by
  obtain ⟨C1, K1, c10, k10, b1, s1⟩ := h
  obtain ⟨C2, K2, c20, k20, b2, s2⟩ := k
  refine ⟨C1 + C2, K1 + K2, by grind, by grind, fun x h1 h2 => ⟨(b1 x h1 h2).1.add (b2 x h1 h2).1, (b1 x h1 h2).2.add (b2 x h1 h2).2⟩, fun x h h1 h2 h3 h4 => ?_⟩
  refine (((s1 x h h1 h2 h3 h4).add (s2 x h h1 h2 h3 h4)).mono (by grind)).of_eq fun M => by grind
theorem Dif.smul {F F' : Rat → Nat → Rat} {p q : Rat} (h : Dif F F' p q) (c : Rat) : Dif (fun x M => c * F x M) (fun x M => c * F' x M) p q := by
  obtain ⟨C1, K1, c10, k10, b1, s1⟩ := h
  obtain ⟨d, hd⟩ := AB.self c
  have d0 := hd.nonneg
  refine ⟨d * C1, d * K1, Rat.mul_nonneg d0 c10, Rat.mul_nonneg d0 k10, fun x h1 h2 => ⟨(b1 x h1 h2).1.scale hd, (b1 x h1 h2).2.scale hd⟩, fun x h h1 h2 h3 h4 => ?_⟩
  refine (((s1 x h h1 h2 h3 h4).scale hd).mono (by grind)).of_eq fun M => by grind
theorem Dif.sub {F F' G G' : Rat → Nat → Rat} {p q : Rat} (h : Dif F F' p q) (k : Dif G G' p q) : Dif (fun x M => F x M - G x M) (fun x M => F' x M - G' x M) p q := by
  have := h.add (k.smul (-1))
  have e1 : (fun x M => F x M + -1 * G x M) = fun x M => F x M - G x M := by funext x M; grind
  have e2 : (fun x M => F' x M + -1 * G' x M) = fun x M => F' x M - G' x M := by funext x M; grind
  rw [e1, e2] at this
  exact this
theorem Dif.congr {F F' G' : Rat → Nat → Rat} {p q : Rat} (h : Dif F F' p q) (k : ∀ x, p ≤ x → x ≤ q → Null (fun M => G' x M - F' x M)) : Dif F G' p q := by
  obtain ⟨C1, K1, c10, k10, b1, s1⟩ := h
  refine ⟨C1, K1, c10, k10, fun x h1 h2 => ⟨(b1 x h1 h2).1, (b1 x h1 h2).2.congr (k x h1 h2)⟩, fun x h h1 h2 h3 h4 => ?_⟩
  refine (s1 x h h1 h2 h3 h4).congr (((k x h1 h2).bmul (Bdd.const (-h))).of_eq fun M => ?_)
  generalize F (x + h) M = f1
  generalize F x M = f0
  generalize F' x M = f'
  generalize G' x M = g'
  grind
theorem Dif.within {F F' : Rat → Nat → Rat} {p q p' q' : Rat} (h : Dif F F' p q) (h1 : p ≤ p') (h2 : q' ≤ q) : Dif F F' p' q' := by
  obtain ⟨C1, K1, c10, k10, b1, s1⟩ := h
  exact ⟨C1, K1, c10, k10, fun x a b => b1 x (by grind) (by grind), fun x h a b c d => s1 x h (by grind) (by grind) (by grind) (by grind)⟩
theorem Dif.flip {F F' : Rat → Nat → Rat} {p q : Rat} (h : Dif F F' (1 - q) (1 - p)) : Dif (fun x => F (1 - x)) (fun x M => -F' (1 - x) M) p q := by
  obtain ⟨C1, K1, c10, k10, b1, s1⟩ := h
  refine ⟨C1, K1, c10, k10, fun x a b => ⟨(b1 (1 - x) (by grind) (by grind)).1, (b1 (1 - x) (by grind) (by grind)).2.neg⟩, fun x h a b c d => ?_⟩
  have s := s1 (1 - x) (-h) (by grind) (by grind) (by grind) (by grind)
  have e : 1 - x + -h = 1 - (x + h) := by grind
  rw [e] at s
  refine (s.mono (by grind)).of_eq fun M => by grind
theorem Dif.const (c : Nat → Rat) (hc : Bdd c) (p q : Rat) : Dif (fun _ => c) (fun _ _ => 0) p q := by
  obtain ⟨K, hK⟩ := hc.leA
  refine ⟨0, K, by grind, hK.nonneg, fun x _ _ => ⟨hK, (LeA.of_null null_zero).mono hK.nonneg⟩, fun x h _ _ _ _ => ?_⟩
  exact (LeA.of_null null_zero).mono (by grind) |>.of_eq fun M => by grind
theorem Dif.id (p q : Rat) : Dif (fun x _ => x) (fun _ _ => 1) p q := by
  obtain ⟨K1, h1⟩ := AB.self p
  obtain ⟨K2, h2⟩ := AB.self q
  have := h1.nonneg
  have := h2.nonneg
  refine ⟨0, K1 + K2 + 1, by grind, by grind, fun x a b => ⟨LeA.const ((AB.between h1 h2 a b).mono (by grind)), LeA.const ⟨by grind, by grind⟩⟩, fun x h _ _ _ _ => ?_⟩
  exact (LeA.of_null null_zero).mono (by grind) |>.of_eq fun M => by grind
theorem Dif.le {F F' : Rat → Nat → Rat} {p q : Rat} (hpq : p ≤ q) (h : Dif F F' p q) (k : ∀ x, p ≤ x → x ≤ q → LeN (fun _ => 0) (F' x)) : LeN (F p) (F q) := by
  obtain ⟨C, K, c0, k0, b, s⟩ := h
  have key := descend (f := fun x M => -F x M) (a := p) (b := q) (C := C) (D := 1) hpq c0 (by grind) (fun x h h1 h2 h3 h4 => by
    have a1 := s x h h1 (by grind) (by grind) h4
    have l : LeN (fun M => F x M) (fun M => F (x + h) M + C * (h * h)) := fun e he => by
      have hp : 0 < 1 + h := by grind
      have d0 := rdiv_pos he hp
      have dm := rdm (a := e) hp
      obtain ⟨N1, n1⟩ := a1 _ d0
      obtain ⟨N2, n2⟩ := k x h1 (by grind) _ d0
      refine ⟨N1 + N2, fun M hM => ?_⟩
      have b1 := (n1 M (by omega)).1
      have b2 := Rat.mul_le_mul_of_nonneg_left (n2 M (by omega)) (Rat.le_of_lt h2)
      dsimp only at b1 b2 ⊢
      generalize e / (1 + h) = d at *
      grind
    obtain ⟨z, hz, kz⟩ := l.null
    exact ⟨z, hz, 0, fun M _ => by have : F x M ≤ F (x + h) M + C * (h * h) + z M := kz M; show -F (x + h) M ≤ -F x M + C * (h * h) + z M; grind⟩)
  intro e he
  obtain ⟨N, k⟩ := key e he
  exact ⟨N, fun M hM => by have : -F q M ≤ -F p M + e := k M hM; grind⟩
theorem Dif.eq {F F' : Rat → Nat → Rat} {p q : Rat} (hpq : p ≤ q) (h : Dif F F' p q) (k : ∀ x, p ≤ x → x ≤ q → Null (F' x)) : Null (fun M => F p M - F q M) := by
  refine (h.le hpq fun x a b => ?_).eq ?_
  · exact LeN.of_eqN ((k x a b).neg.of_eq fun M => by grind)
  · have l := (h.smul (-1)).le hpq fun x a b => LeN.of_eqN ((k x a b).of_eq fun M => by grind)
    intro e he
    obtain ⟨N, k⟩ := l e he
    exact ⟨N, fun M hM => by have : -1 * F p M ≤ -1 * F q M + e := k M hM; grind⟩
end Go.Proofs.Ytgmnknmjainabab.Ex
namespace Go.Proofs.Ytgmnknmjainabab.Ex
theorem pw_nonneg {x : Rat} (h : 0 ≤ x) (k : Nat) : 0 ≤ pw x k := by
  induction k with
  | zero => show (0 : Rat) ≤ 1; grind
  | succ k ih => exact Rat.mul_nonneg h ih
theorem pw_mono {x y : Rat} (h : 0 ≤ x) (hxy : x ≤ y) (k : Nat) : pw x k ≤ pw y k := by
  induction k with
  | zero => exact Rat.le_refl
  | succ k ih => exact Rat.le_trans (Rat.mul_le_mul_of_nonneg_left ih h) (Rat.mul_le_mul_of_nonneg_right hxy (pw_nonneg (by grind) k))
def dw (x : Rat) : Nat → Rat
  | 0 => 0
  | k + 1 => x * dw x k + pw x k
theorem dw_nonneg {x : Rat} (h : 0 ≤ x) (k : Nat) : 0 ≤ dw x k := by
  induction k with
  | zero => show (0 : Rat) ≤ 0; grind
  | succ k ih =>
    have := Rat.mul_nonneg h ih
    have := pw_nonneg h k
    show 0 ≤ x * dw x k + pw x k
    grind
theorem dw_mul (x : Rat) (k : Nat) : x * dw x k = (k : Rat) * pw x k := by
  induction k with
  | zero => show x * 0 = ((0 : Nat) : Rat) * 1; have : ((0 : Nat) : Rat) = 0 := rfl; grind
  | succ k ih =>
    have c : ((k + 1 : Nat) : Rat) = (k : Rat) + 1 := by push_cast; rfl
    show x * (x * dw x k + pw x k) = _
    rw [c, ih]
    show _ = ((k : Rat) + 1) * (x * pw x k)
    grind
theorem dw_le {x q r : Rat} (h : 0 ≤ x) (hx : x ≤ q) (hr : q ≤ r) (k : Nat) : (r - q) * dw x k ≤ pw r k := by
  induction k with
  | zero => show (r - q) * 0 ≤ 1; grind
  | succ k ih =>
    have m1 := Rat.mul_le_mul_of_nonneg_left ih h
    have m2 := Rat.mul_le_mul_of_nonneg_right hx (pw_nonneg (show 0 ≤ r by grind) k)
    have m3 := Rat.mul_le_mul_of_nonneg_left (pw_mono h (show x ≤ r by grind) k) (show 0 ≤ r - q by grind)
    show (r - q) * (x * dw x k + pw x k) ≤ r * pw r k
    grind
theorem pw_two_sided {x y q r : Rat} (hx0 : 0 ≤ x) (hx : x ≤ q) (hy0 : 0 ≤ y) (hy : y ≤ q) (hr : q ≤ r) (k : Nat) : 0 ≤ pw y k - pw x k - (y - x) * dw x k ∧ (r - q) * (r - q) * (pw y k - pw x k - (y - x) * dw x k) ≤ (y - x) * (y - x) * pw r k := by
  induction k with
  | zero =>
    have := sq_nonneg (y - x)
    refine ⟨by show 0 ≤ (1 : Rat) - 1 - (y - x) * 0; grind, ?_⟩
    show (r - q) * (r - q) * (1 - 1 - (y - x) * 0) ≤ (y - x) * (y - x) * 1
    grind
  | succ k ih =>
    obtain ⟨i1, i2⟩ := ih
    have d0 := dw_nonneg hx0 k
    have d1 := dw_le hx0 hx hr k
    have s := sq_nonneg (y - x)
    have p0 := pw_nonneg (show 0 ≤ r by grind) k
    have e : pw y (k + 1) - pw x (k + 1) - (y - x) * dw x (k + 1) = y * (pw y k - pw x k - (y - x) * dw x k) + (y - x) * (y - x) * dw x k := by
      show y * pw y k - x * pw x k - (y - x) * (x * dw x k + pw x k) = _
      grind
    rw [e]
    have m1 := Rat.mul_nonneg hy0 i1
    have m2 := Rat.mul_nonneg s d0
    refine ⟨by grind, ?_⟩
    have m3 := Rat.mul_le_mul_of_nonneg_left i2 hy0
    have m4 := Rat.mul_le_mul_of_nonneg_left d1 (Rat.mul_nonneg (show 0 ≤ r - q by grind) s)
    have m5 := Rat.mul_nonneg (Rat.mul_nonneg (show 0 ≤ q - y by grind) s) p0
    have e2 : pw r (k + 1) = r * pw r k := rfl
    rw [e2]
    generalize pw y k - pw x k - (y - x) * dw x k = t at *
    generalize dw x k = d at *
    generalize pw r k = p at *
    generalize (y - x) * (y - x) = u at *
    clear e e2 i1 i2 d1
    grind
def psS (c : Nat → Rat) (x : Rat) (M : Nat) : Rat := S (fun k => c k * pw x k) M
def psD (c : Nat → Rat) (x : Rat) (M : Nat) : Rat := S (fun k => c k * dw x k) M
theorem S_mono {f g : Nat → Rat} (h : ∀ k, f k ≤ g k) (M : Nat) : S f M ≤ S g M := by
  induction M with
  | zero => exact Rat.le_refl
  | succ M ih => have := h M; show S f M + f M ≤ S g M + g M; grind
theorem psS_bd {c A : Nat → Rat} {x r K : Rat} (hc : ∀ k, AB (c k) (A k)) (hK : ∀ M, S (fun k => A k * pw r k) M ≤ K) (hx0 : 0 ≤ x) (hx : x ≤ r) (M : Nat) : AB (psS c x M) K := by
  refine (S_AB (g := fun k => A k * pw r k) M fun k _ => ?_).mono (hK M)
  have a := (hc k).mul (show AB (pw x k) (pw x k) from ⟨by have := pw_nonneg hx0 k; grind, Rat.le_refl⟩)
  exact a.mono (Rat.mul_le_mul_of_nonneg_left (pw_mono hx0 hx k) (hc k).nonneg)
theorem ps_dif {c A : Nat → Rat} {q r K : Rat} (hc : ∀ k, AB (c k) (A k)) (hK : ∀ M, S (fun k => A k * pw r k) M ≤ K) (hq0 : 0 ≤ q) (hr : q < r) : Dif (psS c) (psD c) 0 q := by
  have d0 : 0 < r - q := by grind
  have K0 : 0 ≤ K := by have := hK 0; have e : S (fun k => A k * pw r k) 0 = 0 := rfl; grind
  obtain ⟨i, hi⟩ : ∃ i, i = 1 / (r - q) := ⟨_, rfl⟩
  have ip : 0 < i := by rw [hi]; exact rdiv_pos (by grind) d0
  have im : i * (r - q) = 1 := by rw [hi]; exact rdm d0
  have iK := Rat.mul_nonneg (Rat.le_of_lt ip) K0
  refine ⟨i * i * K, K + i * K, by have := Rat.mul_nonneg (Rat.mul_nonneg (Rat.le_of_lt ip) (Rat.le_of_lt ip)) K0; grind, by grind, fun x h1 h2 => ⟨?_, ?_⟩, fun x h h1 h2 h3 h4 => ?_⟩
  · exact LeA.of_ab 0 fun M _ => (psS_bd hc hK h1 (by grind) M).mono (by grind)
  · refine LeA.of_ab 0 fun M _ => ?_
    have b : AB (psD c x M) (S (fun k => i * (A k * pw r k)) M) := S_AB M fun k _ => by
      have n := dw_nonneg h1 k
      have l := dw_le h1 h2 (Rat.le_of_lt hr) k
      have a := (hc k).mul (show AB (dw x k) (i * pw r k) from ⟨by have := Rat.mul_nonneg (Rat.le_of_lt ip) (pw_nonneg (show 0 ≤ r by grind) k); grind, by
        have m := Rat.mul_le_mul_of_nonneg_left l (Rat.le_of_lt ip)
        have e : i * ((r - q) * dw x k) = i * (r - q) * dw x k := by grind
        rw [e, im] at m
        grind⟩)
      exact a.mono (by grind)
    rw [S_mul] at b
    refine b.mono ?_
    have := Rat.mul_le_mul_of_nonneg_left (hK M) (Rat.le_of_lt ip)
    grind
  · refine LeA.of_ab 0 fun M _ => ?_
    have e : psS c (x + h) M - psS c x M - h * psD c x M = S (fun k => c k * (pw (x + h) k - pw x k - h * dw x k)) M := by
      unfold psS psD
      rw [← S_mul, ← S_sub, ← S_sub]
      exact S_congr M fun k _ => by grind
    have b : AB (S (fun k => c k * (pw (x + h) k - pw x k - h * dw x k)) M) (S (fun k => h * h * (i * i) * (A k * pw r k)) M) := S_AB M fun k _ => by
      obtain ⟨a1, a2⟩ := pw_two_sided h1 h2 h3 h4 (Rat.le_of_lt hr) k
      have e1 : x + h - x = h := by grind
      rw [e1] at a1 a2
      have ii := Rat.mul_nonneg (Rat.le_of_lt ip) (Rat.le_of_lt ip)
      have m := Rat.mul_le_mul_of_nonneg_left a2 ii
      have e2 : i * i * ((r - q) * (r - q) * (pw (x + h) k - pw x k - h * dw x k)) = i * (r - q) * (i * (r - q)) * (pw (x + h) k - pw x k - h * dw x k) := by grind
      rw [e2, im] at m
      have a := (hc k).mul (show AB (pw (x + h) k - pw x k - h * dw x k) (i * i * (h * h * pw r k)) from ⟨by grind, by grind⟩)
      exact a.mono (by grind)
    rw [S_mul] at b
    rw [e]
    refine b.mono ?_
    have m := Rat.mul_le_mul_of_nonneg_left (hK M) (Rat.mul_nonneg (sq_nonneg h) (Rat.mul_nonneg (Rat.le_of_lt ip) (Rat.le_of_lt ip)))
    grind
theorem geo {t : Nat → Rat} {ρ : Rat} (h0 : ∀ k, 0 ≤ t k) (hρ : ρ < 1) (hρ0 : 0 ≤ ρ) (k0 : Nat) (h : ∀ k, k0 ≤ k → t (k + 1) ≤ ρ * t k) : ∃ K, 0 ≤ K ∧ ∀ M, S t M ≤ K := by
  have d0 : 0 < 1 - ρ := by grind
  obtain ⟨i, hi⟩ : ∃ i, i = 1 / (1 - ρ) := ⟨_, rfl⟩
  have ip : 0 < i := by rw [hi]; exact rdiv_pos (by grind) d0
  have im : i * (1 - ρ) = 1 := by rw [hi]; exact rdm d0
  have sn : ∀ M, 0 ≤ S t M := fun M => by
    induction M with
    | zero => show (0 : Rat) ≤ 0; grind
    | succ M ih => have := h0 M; show 0 ≤ S t M + t M; grind
  have inv : ∀ j, S t (k0 + j) + i * t (k0 + j) ≤ S t k0 + i * t k0 := fun j => by
    induction j with
    | zero => exact Rat.le_refl
    | succ j ih =>
      have a := h (k0 + j) (by omega)
      have m := Rat.mul_le_mul_of_nonneg_left a (Rat.le_of_lt ip)
      have e : S t (k0 + (j + 1)) = S t (k0 + j) + t (k0 + j) := rfl
      have e2 : t (k0 + (j + 1)) = t (k0 + j + 1) := rfl
      rw [e, e2]
      have r : i * (ρ * t (k0 + j)) = i * t (k0 + j) - i * (1 - ρ) * t (k0 + j) := by grind
      rw [r, im] at m
      grind
  have up : ∀ M j, S t M ≤ S t (M + j) := fun M j => by
    induction j with
    | zero => exact Rat.le_refl
    | succ j ih => have := h0 (M + j); show S t M ≤ S t (M + j) + t (M + j); grind
  have ik := Rat.mul_nonneg (Rat.le_of_lt ip) (h0 k0)
  refine ⟨S t k0 + i * t k0, by have := sn k0; grind, fun M => ?_⟩
  have a := up M k0
  have b := inv M
  have c := Rat.mul_nonneg (Rat.le_of_lt ip) (h0 (k0 + M))
  have e : M + k0 = k0 + M := Nat.add_comm _ _
  rw [e] at a
  grind
theorem geo_null {t : Nat → Rat} {ρ : Rat} (h0 : ∀ k, 0 ≤ t k) (hρ : ρ < 1) (hρ0 : 0 ≤ ρ) (k0 : Nat) (h : ∀ k, k0 ≤ k → t (k + 1) ≤ ρ * t k) : Null t := by
  obtain ⟨K, hK0, hK⟩ := geo h0 hρ hρ0 k0 h
  have fall : ∀ k, k0 ≤ k → t (k + 1) ≤ t k := fun k hk => by
    have := h k hk
    have := Rat.mul_le_mul_of_nonneg_right (Rat.le_of_lt hρ) (h0 k)
    grind
  have fall2 : ∀ j i, t (k0 + (j + i)) ≤ t (k0 + j) := fun j i => by
    induction i with
    | zero => exact Rat.le_refl
    | succ i ih => exact Rat.le_trans (fall (k0 + (j + i)) (by omega)) ih
  have low : ∀ (j m : Nat), m ≤ j → (m : Rat) * t (k0 + j) ≤ S t (k0 + m) - S t k0 := fun j m => by
    induction m with
    | zero => intro _; have : ((0 : Nat) : Rat) = 0 := rfl; rw [this]; show (0 : Rat) * t (k0 + j) ≤ S t k0 - S t k0; grind
    | succ m ih =>
      intro hm
      have i := ih (by omega)
      have f := fall2 m (j - m)
      have e : k0 + (m + (j - m)) = k0 + j := by omega
      rw [e] at f
      have c : ((m + 1 : Nat) : Rat) = (m : Rat) + 1 := by push_cast; rfl
      have es : S t (k0 + (m + 1)) = S t (k0 + m) + t (k0 + m) := rfl
      rw [c, es]
      grind
  have s0 : 0 ≤ S t k0 := by
    have : ∀ M, 0 ≤ S t M := fun M => by
      induction M with
      | zero => show (0 : Rat) ≤ 0; grind
      | succ M ih => have := h0 M; show 0 ≤ S t M + t M; grind
    exact this k0
  intro e he
  obtain ⟨n, hn⟩ := rat_nat (K / e)
  refine ⟨k0 + n + 1, fun M hM => ?_⟩
  obtain ⟨j, rfl⟩ : ∃ j, M = k0 + j := ⟨M - k0, by omega⟩
  have t0 := h0 (k0 + j)
  refine ⟨by grind, ?_⟩
  have l := low j j (Nat.le_refl _)
  have b := hK (k0 + j)
  have d := rdm (a := K) he
  have jn : (n : Rat) + 1 ≤ (j : Rat) := by exact_mod_cast (show n + 1 ≤ j by omega)
  have m1 := Rat.mul_le_mul_of_nonneg_right hn.2 (Rat.le_of_lt he)
  rw [d] at m1
  refine Rat.not_lt.1 fun hlt => ?_
  have n0 : (0 : Rat) ≤ (n : Rat) := by exact_mod_cast Nat.zero_le n
  have m2 := Rat.mul_le_mul_of_nonneg_right jn t0
  have m3 := Rat.mul_le_mul_of_nonneg_left (Rat.le_of_lt hlt) n0
  grind
end Go.Proofs.Ytgmnknmjainabab.Ex
namespace Go.Proofs.Ytgmnknmjainabab.Ex
theorem dlog_high {d : Nat → Rat} {u : Rat} (h : IsLog d (fun _ => 1 + u)) (hu : AB u (1 / 16)) : LeN d (fun _ => u + 4 * (u * u)) := by
  have uu := sq_nonneg u
  have a1 : u * u ≤ 1 / 256 := by have := (hu.mul hu).2; grind
  intro e he
  have hb : AB (u + 4 * (u * u)) (1 / 4) := ⟨by have := hu.1; grind, by have := hu.2; grind⟩
  refine h.le (isLog_const (u + 4 * (u * u))) null_zero 2 (fun M hM => ?_) e he
  have k := (E_two hb (M := M) hM).1
  show 1 + u ≤ E (u + 4 * (u * u)) M + 0
  have q : (u + 4 * (u * u)) * (u + 4 * (u * u)) = u * u * ((1 + 4 * u) * (1 + 4 * u)) := by grind
  have r : (1 + 4 * u) * (1 + 4 * u) ≤ 2 := by have := hu.2; grind
  have m := Rat.mul_le_mul_of_nonneg_left r uu
  grind
theorem dlog_two {d : Nat → Rat} {u : Rat} (h : IsLog d (fun _ => 1 + u)) (hu : AB u (1 / 16)) : LeA (fun M => d M - u) (4 * (u * u)) := fun e he => by
  obtain ⟨N1, k1⟩ := dlog_low h hu e he
  obtain ⟨N2, k2⟩ := dlog_high h hu e he
  refine ⟨N1 + N2, fun M hM => ?_⟩
  have a1 := k1 M (by omega)
  have a2 := k2 M (by omega)
  dsimp only at a1 a2
  exact ⟨by grind, by grind⟩
theorem LeA.of_abs {f g : Nat → Rat} {K : Rat} (h : LeA g K) (N0 : Nat) (k : ∀ M, N0 ≤ M → AB (f M) (g M)) : LeA f K := fun e he => by
  obtain ⟨N, h⟩ := h e he
  exact ⟨N + N0, fun M hM => (k M (by omega)).mono (h M (by omega)).2⟩
theorem abs_ex (u : Rat) : ∃ v, AB u v ∧ v * v = u * u := by
  by_cases c : 0 ≤ u
  · exact ⟨u, ⟨by grind, by grind⟩, rfl⟩
  · exact ⟨-u, ⟨by grind, by grind⟩, by grind⟩
theorem pr_unit {d : Nat → Rat} {u c c1 v : Rat} (h : IsLog d (fun _ => 1 + u)) (hc : AB c c1) (hv : AB u v) (hvv : v * v = u * u) (h16 : v ≤ 1 / 16) (hcv : c1 * v ≤ 1 / 16) : LeA (fun M => Ev (fun M => c * d M) M - 1 - c * u) ((4 * c1 + 8 * (c1 * c1)) * (u * u)) := by
  have c0 := hc.nonneg
  have v0 := hv.nonneg
  have l := dlog_two h (hv.mono h16)
  have ld : LeA d (2 * v) := by
    refine ((l.add (LeA.const hv)).mono ?_).of_eq fun M => by grind
    have := Rat.mul_le_mul_of_nonneg_left h16 v0
    rw [← hvv]; grind
  have ly : LeA (fun M => c * d M) (c1 * (2 * v)) := ld.scale hc
  obtain ⟨N, hN⟩ := ly (1 / 8) (by grind)
  have l2 : LeA (fun M => Ev (fun M => c * d M) M - 1 - c * d M) (2 * (c1 * (2 * v) * (c1 * (2 * v)))) := by
    refine ((ly.mul ly).scale (show AB 2 2 from ⟨by grind, by grind⟩)).of_abs (N + 2) fun M hM => ?_
    exact E_two ((hN M (by omega)).mono (by grind)) (by omega)
  refine ((l2.add (l.scale hc)).mono ?_).of_eq fun M => by grind
  rw [← hvv]; grind
theorem pr_dif {L : Rat → Nat → Rat} (hL : Lns L) (c : Rat) {p q : Rat} (hp : 0 < p) (hpq : p ≤ q) : Dif (pr L c) (fun x M => c / x * pr L c x M) p q := by
  obtain ⟨c1, hc⟩ := AB.self c
  have c0 := hc.nonneg
  have hq : 0 < q := by grind
  obtain ⟨B1, hB1⟩ := (hL p hp).1.leA
  obtain ⟨B2, hB2⟩ := (hL q hq).1.leA
  have B10 := hB1.nonneg
  have B20 := hB2.nonneg
  obtain ⟨K, K0, hK⟩ := E_bound (c1 * (B1 + B2 + 2))
  have bd : ∀ x, p ≤ x → x ≤ q → LeA (pr L c x) K := fun x h1 h2 => by
    have x0 : 0 < x := by grind
    have l1 : LeN (L p) (L x) := fun e he => (hL p hp).le (hL x x0) null_zero 0 (fun M _ => by grind) e he
    have l2 : LeN (L x) (L q) := fun e he => (hL x x0).le (hL q hq) null_zero 0 (fun M _ => by grind) e he
    obtain ⟨N1, n1⟩ := l1 1 (by grind)
    obtain ⟨N2, n2⟩ := l2 1 (by grind)
    obtain ⟨N3, n3⟩ := hB1 1 (by grind)
    obtain ⟨N4, n4⟩ := hB2 1 (by grind)
    refine LeA.of_ab (N1 + N2 + N3 + N4) fun M hM => hK M _ (hc.mul ?_)
    have a1 := n1 M (by omega)
    have a2 := n2 M (by omega)
    have a3 := (n3 M (by omega)).1
    have a4 := (n4 M (by omega)).2
    exact ⟨by grind, by grind⟩
  obtain ⟨i, hi⟩ : ∃ i, i = 1 / p := ⟨_, rfl⟩
  have ip : 0 < i := by rw [hi]; exact rdiv_pos (by grind) hp
  have im : i * p = 1 := by rw [hi]; exact rdm hp
  have ic := Rat.mul_nonneg c0 (Rat.le_of_lt ip)
  have icK := Rat.mul_nonneg ic K0
  have Dp : 0 < 16 * ((1 + c1) * i) := by have := Rat.mul_pos (show 0 < 1 + c1 by grind) ip; grind
  have D0 := rdiv_pos (show (0 : Rat) < 1 by grind) Dp
  have Dm := rdm (a := 1) Dp
  obtain ⟨C2, hC2⟩ : ∃ C2, C2 = (4 * c1 + 8 * (c1 * c1)) := ⟨_, rfl⟩
  have C20 : 0 ≤ C2 := by have := Rat.mul_nonneg c0 c0; grind
  have inv : ∀ x, p ≤ x → 0 < 1 / x ∧ 1 / x ≤ i ∧ 1 / x * x = 1 := fun x h1 => by
    have x0 : 0 < x := by grind
    have := rdm (a := 1) x0
    refine ⟨rdiv_pos (by grind) x0, qdiv_le x0 ?_, this⟩
    have := Rat.mul_le_mul_of_nonneg_left h1 (Rat.le_of_lt ip)
    grind
  have cdiv : ∀ x, c / x = c * (1 / x) := fun x => by rw [Rat.div_def, Rat.div_def, Rat.one_mul]
  refine Dif.of_small (D := 1 / (16 * ((1 + c1) * i))) (C := C2 * K * (i * i)) (K := K + c1 * i * K) hpq D0 (Rat.mul_nonneg (Rat.mul_nonneg C20 K0) (sq_nonneg i)) (by grind) (fun x h1 h2 => ⟨(bd x h1 h2).mono (by grind), ?_⟩) (fun x h h1 h2 h3 h4 hD => ?_)
  · obtain ⟨e1, e2, e3⟩ := inv x h1
    rw [cdiv]
    refine ((bd x h1 h2).scale (hc.mul (show AB (1 / x) i from ⟨by grind, e2⟩))).mono (by grind)
  · obtain ⟨e1, e2, e3⟩ := inv x h1
    have x0 : 0 < x := by grind
    obtain ⟨j, hj⟩ : ∃ j, j = 1 / x := ⟨_, rfl⟩
    rw [← hj] at e1 e2 e3
    obtain ⟨w, hw, hww⟩ := abs_ex h
    have w0 := hw.nonneg
    have hwD : w ≤ 1 / (16 * ((1 + c1) * i)) := by
      by_cases cs : 0 ≤ h
      · have : w = h := by
          have : (w - h) * (w + h) = 0 := by grind
          rcases Rat.mul_eq_zero.1 this with h' | h'
          · grind
          · have := hw.2; grind
        have := hD.2; grind
      · have : w = -h := by
          have : (w - h) * (w + h) = 0 := by grind
          rcases Rat.mul_eq_zero.1 this with h' | h'
          · have := hw.1; grind
          · grind
        have := hD.1; grind
    have uw : AB (h * j) (w * j) := hw.mul (show AB j j from ⟨by grind, by grind⟩)
    have wj : w * j ≤ w * i := Rat.mul_le_mul_of_nonneg_left e2 w0
    have b1 : (1 + c1) * (w * i) ≤ 1 / 16 := by
      have m := Rat.mul_le_mul_of_nonneg_right hwD (Rat.le_of_lt Dp)
      rw [Dm] at m
      grind
    have wi := Rat.mul_nonneg w0 (Rat.le_of_lt ip)
    have cwi := Rat.mul_nonneg c0 wi
    have hs : x * (1 + h * j) = x + h := by
      have : x * (1 + h * j) = x + h * (j * x) := by grind
      rw [this, e3]; grind
    have s0 : 0 < x + h := by grind
    have u1 : 0 < 1 + h * j := by have := uw.1; grind
    have hd := log_quot hL x0 u1
    rw [hs] at hd
    have m := Rat.mul_le_mul_of_nonneg_left wj c0
    have pu := pr_unit hd hc uw (by grind) (by grind) (by grind)
    have bdd := (Bdd.const c).mul hd.1
    have s := Ev_add bdd (pr_arg hL x0 c)
    have es : ∀ M, Ev (fun M => c * (L (x + h) M - L x M) + c * L x M) M = pr L c (x + h) M := fun M => by unfold pr Ev; congr 1; grind
    have t := pu.mul (bd x h1 h2)
    rw [← hC2] at t
    refine (LeA.congr (t.mono ?_) (s.neg.of_eq fun M => ?_))
    · have hjj : h * j * (h * j) = h * h * (j * j) := by grind
      have jj : j * j ≤ i * i := by
        have a := Rat.mul_le_mul_of_nonneg_left e2 (Rat.le_of_lt e1)
        have b := Rat.mul_le_mul_of_nonneg_right e2 (Rat.le_of_lt ip)
        grind
      have m1 := Rat.mul_le_mul_of_nonneg_left jj (Rat.mul_nonneg (Rat.mul_nonneg C20 K0) (sq_nonneg h))
      rw [hjj]
      grind
    · rw [es M, cdiv, ← hj]
      have e : Ev (fun M => c * L x M) M = pr L c x M := rfl
      rw [e]
      grind
end Go.Proofs.Ytgmnknmjainabab.Ex
namespace Go.Proofs.Ytgmnknmjainabab.Ex
def bT (a b x : Rat) : Nat → Rat
  | 0 => 1 / a
  | n + 1 => x * (a + b + (n : Rat)) / (a + ((n : Rat) + 1)) * bT a b x n
theorem bT_zero {a : Rat} (ha : 0 < a) (b x : Rat) : a * bT a b x 0 = 1 := by
  have := rdm (a := 1) ha
  show a * (1 / a) = 1
  grind
theorem bT_succ {a : Rat} (ha : 0 < a) (b x : Rat) (n : Nat) : (a + ((n : Rat) + 1)) * bT a b x (n + 1) = x * (a + b + (n : Rat)) * bT a b x n := by
  have e := rdm (a := x * (a + b + (n : Rat))) (un_pos ha n)
  show (a + ((n : Rat) + 1)) * (x * (a + b + (n : Rat)) / (a + ((n : Rat) + 1)) * bT a b x n) = _
  generalize x * (a + b + (n : Rat)) / (a + ((n : Rat) + 1)) = t at *
  rw [← e]; grind
theorem cast0 (n : Nat) : (0 : Rat) ≤ (n : Rat) := by exact_mod_cast Nat.zero_le n
theorem bT_nonneg {a b x : Rat} (ha : 0 < a) (hb : 0 < b) (h : 0 ≤ x) (n : Nat) : 0 ≤ bT a b x n := by
  induction n with
  | zero => exact qle_div ha (by grind)
  | succ n ih =>
    have n0 := cast0 n
    exact Rat.mul_nonneg (qle_div (un_pos ha n) (by have := Rat.mul_nonneg h (show 0 ≤ a + b + (n : Rat) by grind); grind)) ih
theorem bT_pw {a : Rat} (ha : 0 < a) (b x : Rat) (n : Nat) : bT a b x n = bT a b 1 n * pw x n := by
  induction n with
  | zero => show 1 / a = 1 / a * 1; grind
  | succ n ih =>
    have e1 := bT_succ ha b x n
    have e2 := bT_succ ha b 1 n
    refine rat_cancel (un_pos ha n) ?_
    have e3 : pw x (n + 1) = x * pw x n := rfl
    rw [e1, e3, ih]
    have : (a + ((n : Rat) + 1)) * (bT a b 1 (n + 1) * (x * pw x n)) = (a + ((n : Rat) + 1)) * bT a b 1 (n + 1) * (x * pw x n) := by grind
    rw [this, e2]; grind
def bS (a b x : Rat) (M : Nat) : Rat := S (bT a b x) M
theorem bS_succ (a b x : Rat) (M : Nat) : bS a b x (M + 1) = bS a b x M + bT a b x M := rfl
theorem bS_ps {a : Rat} (ha : 0 < a) (b : Rat) : bS a b = psS (bT a b 1) := by
  funext x M
  exact S_congr M fun k _ => bT_pw ha b x k
theorem bS_nonneg {a b x : Rat} (ha : 0 < a) (hb : 0 < b) (h : 0 ≤ x) (M : Nat) : 0 ≤ bS a b x M := by
  induction M with
  | zero => show (0 : Rat) ≤ 0; grind
  | succ n ih => have := bT_nonneg ha hb h n; rw [bS_succ]; grind
theorem bS_first {a b x : Rat} (ha : 0 < a) (hb : 0 < b) (h : 0 ≤ x) (M : Nat) : 1 / a ≤ bS a b x (M + 1) := by
  induction M with
  | zero => show 1 / a ≤ 0 + 1 / a; grind
  | succ n ih => have := bT_nonneg ha hb h (n + 1); rw [bS_succ]; grind
theorem b_turn {b x : Rat} (hb : 0 < b) (hx : 0 ≤ x) (h1 : x < 1) : ∃ k0 : Nat, ∀ k : Nat, k0 ≤ k → 2 * (x * b) ≤ (1 - x) * (k : Rat) := by
  have d : 0 < 1 - x := by grind
  obtain ⟨n, hn⟩ := rat_nat (2 * b / (1 - x))
  refine ⟨n, fun k hk => ?_⟩
  have nk : (n : Rat) ≤ (k : Rat) := by exact_mod_cast hk
  have e := rdm (a := 2 * b) d
  have m := Rat.mul_le_mul_of_nonneg_right (Rat.le_trans hn.2 nk) (Rat.le_of_lt d)
  rw [e] at m
  have m2 := Rat.mul_le_mul_of_nonneg_right (Rat.le_of_lt h1) (Rat.le_of_lt hb)
  grind
theorem bT_geo {a b x : Rat} (ha : 0 < a) (hb : 0 < b) (hx : 0 ≤ x) (h1 : x < 1) : ∃ k0 : Nat, ∀ k, k0 ≤ k → bT a b x (k + 1) ≤ (1 + x) / 2 * bT a b x k ∧ (a + ((k + 1 : Nat) : Rat)) * bT a b x (k + 1) ≤ (1 + x) / 2 * ((a + (k : Rat)) * bT a b x k) := by
  obtain ⟨k0, hk0⟩ := b_turn hb hx h1
  refine ⟨k0, fun k hk => ?_⟩
  have t := hk0 k hk
  have e := bT_succ ha b x k
  have n0 := cast0 k
  have p := un_pos ha k
  have t0 := bT_nonneg ha hb hx k
  have xa := Rat.mul_nonneg (show 0 ≤ 1 - x by grind) (Rat.le_of_lt ha)
  have c : ((k + 1 : Nat) : Rat) = (k : Rat) + 1 := by push_cast; rfl
  rw [c, e]
  constructor
  · refine Rat.le_of_mul_le_mul_left (c := a + ((k : Rat) + 1)) ?_ p
    rw [e]
    have m := Rat.mul_le_mul_of_nonneg_right (show x * (a + b + (k : Rat)) ≤ (1 + x) / 2 * (a + ((k : Rat) + 1)) by grind) t0
    grind
  · have m := Rat.mul_le_mul_of_nonneg_right (show x * (a + b + (k : Rat)) ≤ (1 + x) / 2 * (a + (k : Rat)) by grind) t0
    grind
theorem bS_bdd {a b x : Rat} (ha : 0 < a) (hb : 0 < b) (hx : 0 ≤ x) (h1 : x < 1) : ∃ K, 0 ≤ K ∧ ∀ M, bS a b x M ≤ K := by
  obtain ⟨k0, h⟩ := bT_geo ha hb hx h1
  exact geo (t := bT a b x) (ρ := (1 + x) / 2) (bT_nonneg ha hb hx) (by grind) (by grind) k0 fun k hk => (h k hk).1
theorem bS_Bdd {a b x : Rat} (ha : 0 < a) (hb : 0 < b) (hx : 0 ≤ x) (h1 : x < 1) : Bdd (bS a b x) := by
  obtain ⟨K, k0, hK⟩ := bS_bdd ha hb hx h1
  exact Bdd.of_le K 0 fun M _ => ⟨by have := bS_nonneg ha hb hx M; grind, hK M⟩
theorem bS_mono {a b x y : Rat} (ha : 0 < a) (hb : 0 < b) (hx : 0 ≤ x) (hxy : x ≤ y) (M : Nat) : bS a b x M ≤ bS a b y M := by
  refine S_mono (fun k => ?_) M
  rw [bT_pw ha b x, bT_pw ha b y]
  exact Rat.mul_le_mul_of_nonneg_left (pw_mono hx hxy k) (bT_nonneg ha hb (by grind) k)
theorem bT_null {a b x : Rat} (ha : 0 < a) (hb : 0 < b) (hx : 0 ≤ x) (h1 : x < 1) : Null (bT a b x) := by
  obtain ⟨k0, h⟩ := bT_geo ha hb hx h1
  exact geo_null (ρ := (1 + x) / 2) (bT_nonneg ha hb hx) (by grind) (by grind) k0 fun k hk => (h k hk).1
theorem bW_null {a b x : Rat} (ha : 0 < a) (hb : 0 < b) (hx : 0 ≤ x) (h1 : x < 1) : Null (fun k => (a + (k : Rat)) * bT a b x k) := by
  obtain ⟨k0, h⟩ := bT_geo ha hb hx h1
  refine geo_null (t := fun k => (a + (k : Rat)) * bT a b x k) (ρ := (1 + x) / 2) (fun k => Rat.mul_nonneg (by have := cast0 k; grind) (bT_nonneg ha hb hx k)) (by grind) (by grind) k0 fun k hk => (h k hk).2
theorem bS_ode {a : Rat} (ha : 0 < a) (b x : Rat) (M : Nat) : (1 - x) * (x * psD (bT a b 1) x M) = 1 + ((a + b) * x - a) * bS a b x M - (a + (M : Rat)) * bT a b x M := by
  have key : ∀ M : Nat, a * bS a b x M + x * psD (bT a b 1) x M - 1 + (a + (M : Rat)) * bT a b x M = x * (a + b) * bS a b x M + x * (x * psD (bT a b 1) x M) := fun M => by
    induction M with
    | zero =>
      have e := bT_zero ha b x
      have c : ((0 : Nat) : Rat) = 0 := rfl
      rw [c]
      show a * 0 + x * 0 - 1 + (a + 0) * bT a b x 0 = x * (a + b) * 0 + x * (x * 0)
      grind
    | succ n ih =>
      have e1 := bT_succ ha b x n
      have c : ((n + 1 : Nat) : Rat) = (n : Rat) + 1 := by push_cast; rfl
      have e2 : psD (bT a b 1) x (n + 1) = psD (bT a b 1) x n + bT a b 1 n * dw x n := rfl
      have e3 : x * (bT a b 1 n * dw x n) = (n : Rat) * bT a b x n := by
        have d := dw_mul x n
        rw [bT_pw ha b x n]
        have : x * (bT a b 1 n * dw x n) = bT a b 1 n * (x * dw x n) := by grind
        rw [this, d]; grind
      rw [bS_succ, e2, c, e1]
      have e4 : x * (psD (bT a b 1) x n + bT a b 1 n * dw x n) = x * psD (bT a b 1) x n + (n : Rat) * bT a b x n := by rw [← e3]; grind
      rw [e4]
      generalize psD (bT a b 1) x n = D at *
      generalize bS a b x n = s at *
      generalize bT a b x n = t at *
      clear e1 e2 e3 e4
      grind
  have := key M
  grind
def bP (L : Rat → Nat → Rat) (a b x : Rat) (M : Nat) : Rat := pr L a x M * pr L b (1 - x) M
def bH (L : Rat → Nat → Rat) (a b x : Rat) (M : Nat) : Rat := bP L a b x M * bS a b x M
def bF (L : Rat → Nat → Rat) (a b x : Rat) (M : Nat) : Rat := 1 / (x * (1 - x)) * bP L a b x M
theorem bP_bdd {L : Rat → Nat → Rat} (hL : Lns L) {x : Rat} (hx : 0 < x) (h1 : x < 1) (a b : Rat) : Bdd (bP L a b x) := (pr_bdd hL hx a).mul (pr_bdd hL (show 0 < 1 - x by grind) b)
theorem bP_nn {L : Rat → Nat → Rat} (hL : Lns L) {x : Rat} (hx : 0 < x) (h1 : x < 1) (a b : Rat) : Nn (bP L a b x) := (pr_nn hL hx a).mul (pr_nn hL (show 0 < 1 - x by grind) b)
theorem bP_turn (L : Rat → Nat → Rat) (a b x : Rat) (M : Nat) : bP L b a (1 - x) M = bP L a b x M := by
  unfold bP
  have : 1 - (1 - x) = x := by grind
  rw [this]; grind
theorem bF_turn (L : Rat → Nat → Rat) (a b x : Rat) (M : Nat) : bF L b a (1 - x) M = bF L a b x M := by
  unfold bF
  rw [bP_turn]
  have : (1 - x) * (1 - (1 - x)) = x * (1 - x) := by grind
  rw [this]
theorem bH_bdd {L : Rat → Nat → Rat} (hL : Lns L) {a b x : Rat} (ha : 0 < a) (hb : 0 < b) (hx : 0 < x) (h1 : x < 1) : Bdd (bH L a b x) := (bP_bdd hL hx h1 a b).mul (bS_Bdd ha hb (Rat.le_of_lt hx) h1)
theorem bH_nn {L : Rat → Nat → Rat} (hL : Lns L) {a b x : Rat} (ha : 0 < a) (hb : 0 < b) (hx : 0 < x) (h1 : x < 1) : Nn (bH L a b x) := (bP_nn hL hx h1 a b).mul ⟨0, fun M _ => bS_nonneg ha hb (Rat.le_of_lt hx) M⟩
theorem bS_dif {a b q : Rat} (ha : 0 < a) (hb : 0 < b) (hq : 0 ≤ q) (hq1 : q < 1) : Dif (bS a b) (psD (bT a b 1)) 0 q := by
  obtain ⟨K, k0, hK⟩ := bS_bdd ha hb (show 0 ≤ (1 + q) / 2 by grind) (show (1 + q) / 2 < 1 by grind)
  rw [bS_ps ha b]
  refine ps_dif (A := bT a b 1) (r := (1 + q) / 2) (K := K) (fun k => ⟨by have := bT_nonneg ha hb (show (0 : Rat) ≤ 1 by grind) k; grind, Rat.le_refl⟩) (fun M => ?_) hq (by grind)
  have := hK M
  rw [bS_ps ha b] at this
  exact this
theorem one_div_mul {x y : Rat} (hx : 0 < x) (hy : 0 < y) : 1 / (x * y) = 1 / x * (1 / y) := by
  rw [Rat.div_def, Rat.div_def, Rat.div_def, Rat.inv_mul_rev]; grind
theorem bH_dif {L : Rat → Nat → Rat} (hL : Lns L) {a b p q : Rat} (ha : 0 < a) (hb : 0 < b) (hp : 0 < p) (hpq : p ≤ q) (hq : q < 1) : Dif (bH L a b) (bF L a b) p q := by
  have d1 := pr_dif hL a hp hpq
  have d2 : Dif (fun x => pr L b (1 - x)) (fun x M => -(b / (1 - x) * pr L b (1 - x) M)) p q := Dif.flip (F := pr L b) (F' := fun x M => b / x * pr L b x M) (pr_dif hL b (show 0 < 1 - q by grind) (by grind))
  have d3 := (bS_dif ha hb (show 0 ≤ q by grind) hq).within (p' := p) (q' := q) (by grind) Rat.le_refl
  have d := (d1.mul hpq d2).mul hpq d3
  refine d.congr fun x h1 h2 => ?_
  have x0 : 0 < x := by grind
  have x1 : 0 < 1 - x := by grind
  have w := (bW_null ha hb (Rat.le_of_lt x0) (show x < 1 by grind)).bmul ((bP_bdd hL x0 (by grind) a b).mul (Bdd.const (1 / (x * (1 - x)))))
  refine w.of_eq fun M => ?_
  have o := bS_ode ha b x M
  have e1 := rdm (a := 1) x0
  have e2 := rdm (a := 1) x1
  have e3 : a / x = a * (1 / x) := by rw [Rat.div_def, Rat.div_def, Rat.one_mul]
  have e4 : b / (1 - x) = b * (1 / (1 - x)) := by rw [Rat.div_def, Rat.div_def, Rat.one_mul]
  unfold bF bP
  rw [one_div_mul x0 x1, e3, e4]
  generalize 1 / x = i at *
  generalize 1 / (1 - x) = j at *
  generalize pr L a x M = P at *
  generalize pr L b (1 - x) M = R at *
  generalize bS a b x M = s at *
  generalize psD (bT a b 1) x M = D at *
  generalize (a + (M : Rat)) * bT a b x M = W at *
  clear w d d1 d2 d3
  have g : D = i * j * ((1 - x) * (x * D)) := by
    have : i * j * ((1 - x) * (x * D)) = i * x * (j * (1 - x)) * D := by grind
    rw [this, e1, e2]; grind
  have g2 : a * i - b * j = i * j * (a * (1 - x) - b * x) := by
    have : i * j * (a * (1 - x) - b * x) = a * i * (j * (1 - x)) - b * j * (i * x) := by grind
    rw [this, e1, e2]; grind
  have g3 : (a * i * P * R + P * -(b * j * R)) * s + P * R * D = P * R * ((a * i - b * j) * s + D) := by grind
  rw [g3, g2]
  have g4 : i * j * (a * (1 - x) - b * x) * s + D = i * j * ((a * (1 - x) - b * x) * s + (1 - x) * (x * D)) := by
    have : i * j * (a * (1 - x) - b * x) * s + D = i * j * (a * (1 - x) - b * x) * s + i * j * ((1 - x) * (x * D)) := by rw [← g]
    rw [this]; grind
  rw [g4, o]
  grind
theorem bF_nn {L : Rat → Nat → Rat} (hL : Lns L) {x : Rat} (hx : 0 < x) (h1 : x < 1) (a b : Rat) : Nn (bF L a b x) := (Nn.const (qle_div (Rat.mul_pos hx (show 0 < 1 - x by grind)) (by grind))).mul (bP_nn hL hx h1 a b)
theorem Nn.leN {f : Nat → Rat} (h : Nn f) : LeN (fun _ => 0) f := by
  obtain ⟨N, hN⟩ := h
  exact LeN.of_le N fun M hM => hN M hM
theorem bH_mono {L : Rat → Nat → Rat} (hL : Lns L) {a b x y : Rat} (ha : 0 < a) (hb : 0 < b) (hx : 0 < x) (hxy : x ≤ y) (hy : y < 1) : LeN (bH L a b x) (bH L a b y) :=
  (bH_dif hL ha hb hx hxy hy).le hxy fun t h1 h2 => (bF_nn hL (by grind) (by grind) a b).leN
def bJ (L : Rat → Nat → Rat) (a b : Rat) (M : Nat) : Rat := bH L a b (1 / 2) M + bH L b a (1 / 2) M
theorem bJ_symm (L : Rat → Nat → Rat) (a b : Rat) (M : Nat) : bJ L a b M = bJ L b a M := by unfold bJ; grind
theorem bJ_at {L : Rat → Nat → Rat} (hL : Lns L) {a b x : Rat} (ha : 0 < a) (hb : 0 < b) (hx : 0 < x) (h1 : x < 1) : Null (fun M => bH L a b x M + bH L b a (1 - x) M - bJ L a b M) := by
  have main : ∀ p q : Rat, 0 < p → p ≤ q → q < 1 → Null (fun M => (bH L a b p M + bH L b a (1 - p) M) - (bH L a b q M + bH L b a (1 - q) M)) := fun p q hp hpq hq => by
    have d := (bH_dif hL ha hb hp hpq hq).add (Dif.flip (F := bH L b a) (F' := bF L b a) (bH_dif hL hb ha (show 0 < 1 - q by grind) (show 1 - q ≤ 1 - p by grind) (by grind)))
    refine d.eq hpq fun t h1 h2 => null_zero.of_eq fun M => ?_
    have := bF_turn L a b t M
    rw [this]; grind
  have e : (1 : Rat) - 1 / 2 = 1 / 2 := by grind
  by_cases c : x ≤ 1 / 2
  · have m := main x (1 / 2) hx c (by grind)
    rw [e] at m
    exact m
  · have m := main (1 / 2) x (by grind) (by grind) h1
    rw [e] at m
    exact m.neg.of_eq fun M => by unfold bJ; grind
theorem bJ_bdd {L : Rat → Nat → Rat} (hL : Lns L) {a b : Rat} (ha : 0 < a) (hb : 0 < b) : Bdd (bJ L a b) := (bH_bdd hL ha hb (by grind) (by grind)).add (bH_bdd hL hb ha (by grind) (by grind))
theorem bJ_nn {L : Rat → Nat → Rat} (hL : Lns L) {a b : Rat} (ha : 0 < a) (hb : 0 < b) : Nn (bJ L a b) := (bH_nn hL ha hb (by grind) (by grind)).add (bH_nn hL hb ha (by grind) (by grind))
end Go.Proofs.Ytgmnknmjainabab.Ex
