/-
  Texts BetN, BetG, BetQ, NumA: what they hold is told in the last text.
-/
import Derived.Test.YtgmnknmjainababProg
import Derived.WalkKit
import Derived.WalkSpells
import Derived.WalkLawsBesides
import Derived.Deep.QuietTactic
import Derived.BigQuiet
import Derived.Deep.OwnRows
import Derived.Test.YtgmnknmjainababK03
set_option linter.unnecessarySimpa false
set_option linter.unusedSimpArgs false
set_option linter.unusedVariables false
namespace Go.Proofs.Ytgmnknmjainabab.Ex
theorem bT_up {a : Rat} (ha : 0 < a) (b x : Rat) (n : Nat) : (a + b) * (x * bT (a + 1) b x n) = a * bT a b x (n + 1) := by
  induction n with
  | zero =>
    have e1 := bT_succ ha b x 0
    have e2 := bT_zero ha b x
    have e3 := bT_zero (show 0 < a + 1 by grind) b x
    have c : ((0 : Nat) : Rat) = 0 := rfl
    rw [c] at e1
    refine rat_cancel (show 0 < a + 1 by grind) ?_
    have k1 : (a + 1) * ((a + b) * (x * bT (a + 1) b x 0)) = (a + b) * x * ((a + 1) * bT (a + 1) b x 0) := by grind
    have k2 : (a + 1) * (a * bT a b x (0 + 1)) = a * ((a + (0 + 1)) * bT a b x (0 + 1)) := by grind
    rw [k1, k2, e1, e3]
    have k3 : a * (x * (a + b + 0) * bT a b x 0) = x * (a + b) * (a * bT a b x 0) := by grind
    rw [k3, e2]; grind
  | succ n ih =>
    have e1 := bT_succ ha b x (n + 1)
    have e2 := bT_succ (show 0 < a + 1 by grind) b x n
    have c : ((n + 1 : Nat) : Rat) = (n : Rat) + 1 := by push_cast; rfl
    rw [c] at e1
    refine rat_cancel (show 0 < a + ((n : Rat) + 1 + 1) by have := pos1 n; grind) ?_
    have k1 : (a + ((n : Rat) + 1 + 1)) * ((a + b) * (x * bT (a + 1) b x (n + 1))) = (a + b) * x * ((a + 1 + ((n : Rat) + 1)) * bT (a + 1) b x (n + 1)) := by grind
    have k2 : (a + ((n : Rat) + 1 + 1)) * (a * bT a b x (n + 1 + 1)) = a * ((a + ((n : Rat) + 1 + 1)) * bT a b x (n + 1 + 1)) := by grind
    rw [k1, k2, e1, e2]
    have k3 : (a + b) * x * (x * (a + 1 + b + (n : Rat)) * bT (a + 1) b x n) = x * (a + 1 + b + (n : Rat)) * ((a + b) * (x * bT (a + 1) b x n)) := by grind
    rw [k3, ih]; grind
theorem bS_up {a : Rat} (ha : 0 < a) (b x : Rat) (M : Nat) : (a + b) * (x * bS (a + 1) b x M) = a * bS a b x M - 1 + a * bT a b x M := by
  induction M with
  | zero =>
    have := bT_zero ha b x
    show (a + b) * (x * 0) = a * 0 - 1 + a * bT a b x 0
    grind
  | succ n ih =>
    have := bT_up ha b x n
    rw [bS_succ, bS_succ]
    grind
theorem bT_side {b : Rat} (hb : 0 < b) (a y : Rat) (n : Nat) : (a + b) * bT b (a + 1) y n = (a + b + (n : Rat)) * bT b a y n := by
  induction n with
  | zero =>
    have c : ((0 : Nat) : Rat) = 0 := rfl
    rw [c]
    show (a + b) * (1 / b) = (a + b + 0) * (1 / b)
    grind
  | succ n ih =>
    have e1 := bT_succ hb (a + 1) y n
    have e2 := bT_succ hb a y n
    have c : ((n + 1 : Nat) : Rat) = (n : Rat) + 1 := by push_cast; rfl
    refine rat_cancel (un_pos hb n) ?_
    have k1 : (b + ((n : Rat) + 1)) * ((a + b) * bT b (a + 1) y (n + 1)) = (a + b) * ((b + ((n : Rat) + 1)) * bT b (a + 1) y (n + 1)) := by grind
    have k2 : (b + ((n : Rat) + 1)) * ((a + b + ((n + 1 : Nat) : Rat)) * bT b a y (n + 1)) = (a + b + ((n : Rat) + 1)) * ((b + ((n : Rat) + 1)) * bT b a y (n + 1)) := by rw [c]; grind
    rw [k1, k2, e1, e2]
    have k3 : (a + b) * (y * (b + (a + 1) + (n : Rat)) * bT b (a + 1) y n) = y * (b + (a + 1) + (n : Rat)) * ((a + b) * bT b (a + 1) y n) := by grind
    rw [k3, ih]; grind
theorem bS_side {b : Rat} (hb : 0 < b) (a y : Rat) (M : Nat) : (a + b) * ((1 - y) * bS b (a + 1) y M) = a * bS b a y M + 1 - (b + (M : Rat)) * bT b a y M := by
  induction M with
  | zero =>
    have := bT_zero hb a y
    have c : ((0 : Nat) : Rat) = 0 := rfl
    rw [c]
    show (a + b) * ((1 - y) * 0) = a * 0 + 1 - (b + 0) * bT b a y 0
    grind
  | succ n ih =>
    have e := bT_side hb a y n
    have e2 := bT_succ hb a y n
    have c : ((n + 1 : Nat) : Rat) = (n : Rat) + 1 := by push_cast; rfl
    rw [bS_succ, bS_succ, c, e2]
    have k : (a + b) * ((1 - y) * (bS b (a + 1) y n + bT b (a + 1) y n)) = (a + b) * ((1 - y) * bS b (a + 1) y n) + (1 - y) * ((a + b) * bT b (a + 1) y n) := by grind
    rw [k, ih, e]; grind
theorem pr_up {L : Rat → Nat → Rat} (hL : Lns L) {x : Rat} (hx : 0 < x) (a : Rat) : Null (fun M => pr L (a + 1) x M - x * pr L a x M) := by
  have h1 := pr_add hL hx a 1
  have h2 := (pr_one hL hx).bmul (pr_bdd hL hx a)
  exact (h2.sub h1).of_eq fun M => by grind
theorem bH_up {L : Rat → Nat → Rat} (hL : Lns L) {a b x : Rat} (ha : 0 < a) (hb : 0 < b) (hx : 0 < x) (h1 : x < 1) : Null (fun M => (a + b) * bH L (a + 1) b x M - (a * bH L a b x M - bP L a b x M)) := by
  have x0 := Rat.le_of_lt hx
  have n1 := (pr_up hL hx a).bmul ((pr_bdd hL (show 0 < 1 - x by grind) b).mul ((Bdd.const (a + b)).mul (bS_Bdd (show 0 < a + 1 by grind) hb x0 h1)))
  have n2 := (bT_null ha hb x0 h1).bmul ((Bdd.const a).mul (bP_bdd hL hx h1 a b))
  refine (n1.add n2).of_eq fun M => ?_
  have e := bS_up ha b x M
  unfold bH bP
  generalize pr L (a + 1) x M = p1 at *
  generalize pr L a x M = p at *
  generalize pr L b (1 - x) M = r at *
  generalize bS (a + 1) b x M = s1 at *
  generalize bS a b x M = s at *
  generalize bT a b x M = t at *
  clear n1 n2
  have : p * r * ((a + b) * (x * s1)) = p * r * (a * s - 1 + a * t) := by rw [e]
  grind
theorem bH_side {L : Rat → Nat → Rat} (hL : Lns L) {a b y : Rat} (ha : 0 < a) (hb : 0 < b) (hy : 0 < y) (h1 : y < 1) : Null (fun M => (a + b) * bH L b (a + 1) y M - (a * bH L b a y M + bP L b a y M)) := by
  have y0 := Rat.le_of_lt hy
  have y1 : 0 < 1 - y := by grind
  have n1 := (pr_up hL y1 a).bmul ((pr_bdd hL hy b).mul ((Bdd.const (a + b)).mul (bS_Bdd hb (show 0 < a + 1 by grind) y0 h1)))
  have n2 := (bW_null hb ha y0 h1).bmul (bP_bdd hL hy h1 b a)
  refine (n1.sub n2).of_eq fun M => ?_
  have e := bS_side hb a y M
  unfold bH bP
  generalize pr L (a + 1) (1 - y) M = p1 at *
  generalize pr L a (1 - y) M = p at *
  generalize pr L b y M = r at *
  generalize bS b (a + 1) y M = s1 at *
  generalize bS b a y M = s at *
  generalize (b + (M : Rat)) * bT b a y M = t at *
  clear n1 n2
  have : p * r * ((a + b) * ((1 - y) * s1)) = p * r * (a * s + 1 - t) := by rw [e]
  grind
theorem bJ_next {L : Rat → Nat → Rat} (hL : Lns L) {a b : Rat} (ha : 0 < a) (hb : 0 < b) : Null (fun M => (a + b) * bJ L (a + 1) b M - a * bJ L a b M) := by
  have n1 := bH_up hL ha hb (show (0 : Rat) < 1 / 2 by grind) (by grind)
  have n2 := bH_side hL ha hb (show (0 : Rat) < 1 / 2 by grind) (by grind)
  refine (n1.add n2).of_eq fun M => ?_
  have t := bP_turn L a b (1 / 2) M
  have e : (1 : Rat) - 1 / 2 = 1 / 2 := by grind
  rw [e] at t
  unfold bJ
  rw [t]; grind
theorem bS_11 {x : Rat} (M : Nat) : (1 - x) * bS 1 1 x M = 1 - pw x M := by
  have t : ∀ n, bT 1 1 x n = pw x n := fun n => by
    induction n with
    | zero => show (1 : Rat) / 1 = 1; grind
    | succ n ih =>
      have e := bT_succ (show (0 : Rat) < 1 by grind) 1 x n
      refine rat_cancel (un_pos (show (0 : Rat) < 1 by grind) n) ?_
      rw [e, ih]
      show _ = (1 + ((n : Rat) + 1)) * (x * pw x n)
      grind
  induction M with
  | zero => show (1 - x) * 0 = 1 - 1; grind
  | succ n ih =>
    rw [bS_succ, t n]
    show _ = 1 - x * pw x n
    grind
theorem pw_null {x : Rat} (hx : 0 ≤ x) (h1 : x < 1) : Null (pw x) := geo_null (fun k => pw_nonneg hx k) h1 hx 0 fun k _ => Rat.le_refl
theorem bH_11 {L : Rat → Nat → Rat} (hL : Lns L) {x : Rat} (hx : 0 < x) (h1 : x < 1) : Null (fun M => bH L 1 1 x M - x) := by
  have x0 := Rat.le_of_lt hx
  have x1 : 0 < 1 - x := by grind
  have one : (0 : Rat) < 1 := by grind
  have n1 := (pr_one hL hx).bmul ((pr_bdd hL x1 1).mul (bS_Bdd one one x0 h1))
  have n2 := (pr_one hL x1).bmul ((Bdd.const x).mul (bS_Bdd one one x0 h1))
  have n3 := (pw_null x0 h1).bmul (Bdd.const x)
  refine ((n1.add n2).sub n3).of_eq fun M => ?_
  have e := bS_11 (x := x) M
  unfold bH bP
  generalize pr L 1 x M = p at *
  generalize pr L 1 (1 - x) M = r at *
  generalize bS 1 1 x M = s at *
  generalize pw x M = t at *
  clear n1 n2 n3
  have : x * ((1 - x) * s) = x * (1 - t) := by rw [e]
  grind
theorem bJ_11 {L : Rat → Nat → Rat} (hL : Lns L) : Null (fun M => bJ L 1 1 M - 1) := by
  have n := bH_11 hL (show (0 : Rat) < 1 / 2 by grind) (by grind)
  exact (n.add n).of_eq fun M => by unfold bJ; grind
theorem pr_small {L : Rat → Nat → Rat} (hL : Lns L) {a : Rat} (ha : 0 < a) (n : Nat) : ∃ p, 0 < p ∧ p ≤ 1 / 4 ∧ LeN (pr L a p) (fun _ => q2 n) := by
  obtain ⟨c, c0, N, hc⟩ := Ev_low (Bdd.const (-((n : Rat) / a)))
  obtain ⟨p, p0, p1, p2⟩ : ∃ p, 0 < p ∧ p ≤ 1 / 4 ∧ p ≤ c := by
    by_cases h : c ≤ 1 / 4
    · exact ⟨c, c0, h, Rat.le_refl⟩
    · exact ⟨1 / 4, by grind, Rat.le_refl, by grind⟩
  refine ⟨p, p0, p1, ?_⟩
  have l : LeN (L p) (fun _ => -((n : Rat) / a)) := fun e he => (hL p p0).le (isLog_const _) null_zero N (fun M hM => by
    have := hc M hM
    have e : ex (-((n : Rat) / a)) M = Ev (fun _ => -((n : Rat) / a)) M := rfl
    rw [e]; grind) e he
  obtain ⟨z, hz, kz⟩ := (l.cmul (Rat.le_of_lt ha)).null
  obtain ⟨v, hv, N2, kv⟩ := Ev_mono (pr_arg hL p0 a) (Bdd.const (a * -((n : Rat) / a))) hz 0 (fun M _ => kz M)
  have e : a * -((n : Rat) / a) = -(n : Rat) := by have := rdm (a := (n : Rat)) ha; grind
  rw [e] at kv
  exact (LeN.of_null hv N2 kv).trans (ex_half n)
theorem pr_le_one {L : Rat → Nat → Rat} (hL : Lns L) {b x : Rat} (hb : 0 ≤ b) (hx : 0 < x) (h1 : x ≤ 1) : LeN (pr L b x) (fun _ => 1) := by
  have l : LeN (L x) (fun _ => 0) := fun e he => (hL x hx).le isLog_one null_zero 0 (fun M _ => by grind) e he
  obtain ⟨z, hz, kz⟩ := (l.cmul hb).null
  obtain ⟨v, hv, N2, kv⟩ := Ev_mono (pr_arg hL hx b) (Bdd.const (b * 0)) hz 0 (fun M _ => kz M)
  refine LeN.of_null hv (N2 + 1) fun M hM => ?_
  have k := kv M (by omega)
  obtain ⟨m, rfl⟩ : ∃ m, M = m + 1 := ⟨M - 1, by omega⟩
  have e : Ev (fun _ => b * 0) (m + 1) = 1 := by
    have : b * 0 = 0 := by grind
    rw [this]
    exact E_zero m
  rw [e] at k
  exact k
theorem bH_small {L : Rat → Nat → Rat} (hL : Lns L) {a b : Rat} (ha : 0 < a) (hb : 0 < b) {e : Rat} (he : 0 < e) : ∃ p, 0 < p ∧ p ≤ 1 / 4 ∧ LeN (bH L a b p) (fun _ => e) := by
  obtain ⟨K, k0, hK⟩ := bS_bdd ha hb (show (0 : Rat) ≤ 1 / 4 by grind) (by grind)
  have Kp : 0 < K + 1 := by grind
  obtain ⟨n, hn⟩ := null_q2 (e / (K + 1)) (rdiv_pos he Kp)
  have q := (hn n (Nat.le_refl _)).2
  obtain ⟨p, p0, p1, ps⟩ := pr_small hL ha n
  refine ⟨p, p0, p1, ?_⟩
  have p11 : 0 < 1 - p := by grind
  have l1 := ps.mul (pr_le_one hL (Rat.le_of_lt hb) p11 (by grind)) (pr_bdd hL p11 b) (pr_nn hL p11 b) (Bdd.const (q2 n)) (Nn.const (Rat.le_of_lt (q2_pos n)))
  have l2 : LeN (bS a b p) (fun _ => K + 1) := LeN.of_le 0 fun M _ => by
    have := hK M
    have := bS_mono ha hb (Rat.le_of_lt p0) p1 M
    grind
  have l := l1.mul l2 (bS_Bdd ha hb (Rat.le_of_lt p0) (by grind)) ⟨0, fun M _ => bS_nonneg ha hb (Rat.le_of_lt p0) M⟩ (Bdd.const (q2 n * 1)) (Nn.const (by have := q2_pos n; grind))
  refine l.trans (LeN.of_le 0 fun M _ => ?_)
  have m := Rat.mul_le_mul_of_nonneg_right q (Rat.le_of_lt Kp)
  rw [rdm Kp] at m
  grind
theorem pr_exp_anti {L : Rat → Nat → Rat} (hL : Lns L) {a a' x : Rat} (h : a ≤ a') (hx : 0 < x) (h1 : x ≤ 1) : LeN (pr L a' x) (pr L a x) := by
  have l : LeN (L x) (fun _ => 0) := fun e he => (hL x hx).le isLog_one null_zero 0 (fun M _ => by grind) e he
  obtain ⟨z, hz, kz⟩ := (l.cmul (show 0 ≤ a' - a by grind)).null
  obtain ⟨v, hv, N2, kv⟩ := Ev_mono (pr_arg hL hx a') (pr_arg hL hx a) hz 0 (fun M _ => by have := kz M; grind)
  exact LeN.of_null hv N2 kv
theorem bF_anti {L : Rat → Nat → Rat} (hL : Lns L) {a a' b x : Rat} (h : a ≤ a') (hx : 0 < x) (h1 : x < 1) : LeN (bF L a' b x) (bF L a b x) := by
  have x1 : 0 < 1 - x := by grind
  have l := (pr_exp_anti hL h hx (Rat.le_of_lt h1)).bmul (pr_bdd hL x1 b) (pr_nn hL x1 b)
  exact l.cmul (qle_div (Rat.mul_pos hx x1) (by grind))
theorem bH_cmp {L : Rat → Nat → Rat} (hL : Lns L) {a b a' b' : Rat} (ha : 0 < a) (hb : 0 < b) (ha' : 0 < a') (hb' : 0 < b') (h : ∀ x, 0 < x → x < 1 → LeN (bF L a' b' x) (bF L a b x)) {y : Rat} (hy : 1 / 4 ≤ y) (hy1 : y < 1) : LeN (bH L a' b' y) (bH L a b y) := by
  intro e he
  obtain ⟨p, p0, p1, ps⟩ := bH_small hL ha' hb' (show 0 < e / 2 by grind)
  have d := (bH_dif hL ha hb p0 (show p ≤ y by grind) hy1).sub (bH_dif hL ha' hb' p0 (show p ≤ y by grind) hy1)
  have l := d.le (by grind) fun x h1 h2 => by
    have k := h x (by grind) (by grind)
    obtain ⟨z, hz, kz⟩ := k.null
    exact LeN.of_null hz 0 fun M _ => by have := kz M; grind
  obtain ⟨N1, n1⟩ := l (e / 4) (by grind)
  obtain ⟨N2, n2⟩ := ps (e / 4) (by grind)
  obtain ⟨N3, n3⟩ := bH_nn hL ha hb p0 (show p < 1 by grind)
  refine ⟨N1 + N2 + N3, fun M hM => ?_⟩
  have a1 := n1 M (by omega)
  have a2 := n2 M (by omega)
  have a3 := n3 M (by omega)
  dsimp only at a1 a2
  grind
theorem bJ_anti {L : Rat → Nat → Rat} (hL : Lns L) {a a' b : Rat} (ha : 0 < a) (hb : 0 < b) (h : a ≤ a') : LeN (bJ L a' b) (bJ L a b) := by
  have l1 := bH_cmp hL ha hb (show 0 < a' by grind) hb (fun x h1 h2 => bF_anti hL h h1 h2) (show (1 : Rat) / 4 ≤ 1 / 2 by grind) (by grind)
  have l2 := bH_cmp hL hb ha hb (show 0 < a' by grind) (fun x h1 h2 => by
    have := bF_anti hL (b := b) h (show 0 < 1 - x by grind) (show 1 - x < 1 by grind)
    have e1 : bF L a' b (1 - x) = bF L b a' x := by funext M; exact bF_turn L b a' x M
    have e2 : bF L a b (1 - x) = bF L b a x := by funext M; exact bF_turn L b a x M
    rw [e1, e2] at this
    exact this) (show (1 : Rat) / 4 ≤ 1 / 2 by grind) (by grind)
  exact l1.add l2
end Go.Proofs.Ytgmnknmjainabab.Ex
namespace Go.Proofs.Ytgmnknmjainabab.Ex
theorem E_part {s y : Rat} (s0 : 0 ≤ s) (s1 : s ≤ 1) (hy : 0 ≤ y) {M : Nat} (hM : 1 ≤ M) : E (s * y) M ≤ 1 - s + s * E y M := by
  obtain ⟨m, rfl⟩ : ∃ m, M = m + 1 := ⟨M - 1, by omega⟩
  clear hM
  have t : ∀ k : Nat, tm (s * y) (k + 1) ≤ s * tm y (k + 1) := fun k => by
    induction k with
    | zero =>
      have e1 := tm_succ (s * y) 0
      have e2 := tm_succ y 0
      have c : ((0 : Nat) : Rat) = 0 := rfl
      rw [c] at e1 e2
      have z1 : tm (s * y) 0 = 1 := rfl
      have z2 : tm y 0 = 1 := rfl
      rw [z1] at e1
      rw [z2] at e2
      grind
    | succ k ih =>
      have e1 := tm_succ (s * y) (k + 1)
      have e2 := tm_succ y (k + 1)
      have p := pos1 (k + 1)
      have n0 := tm_nonneg hy (k + 1)
      have sy := Rat.mul_nonneg s0 hy
      refine Rat.le_of_mul_le_mul_left (c := ((k + 1 : Nat) : Rat) + 1) ?_ p
      rw [e1]
      have k1 : (((k + 1 : Nat) : Rat) + 1) * (s * tm y (k + 1 + 1)) = s * ((((k + 1 : Nat) : Rat) + 1) * tm y (k + 1 + 1)) := by grind
      rw [k1, e2]
      have m1 := Rat.mul_le_mul_of_nonneg_left ih sy
      have m2 := Rat.mul_nonneg (Rat.mul_nonneg sy (show 0 ≤ 1 - s by grind)) n0
      grind
  induction m with
  | zero =>
    show 0 + tm (s * y) 0 ≤ 1 - s + s * (0 + tm y 0)
    have z1 : tm (s * y) 0 = 1 := rfl
    have z2 : tm y 0 = 1 := rfl
    rw [z1, z2]; grind
  | succ m ih =>
    have := t m
    show E (s * y) (m + 1) + tm (s * y) (m + 1) ≤ 1 - s + s * (E y (m + 1) + tm y (m + 1))
    grind
theorem Ev_part {s : Rat} {y : Nat → Rat} (s0 : 0 ≤ s) (s1 : s ≤ 1) (hb : Bdd y) (hy : LeN (fun _ => 0) y) : LeN (Ev (fun M => s * y M)) (fun M => 1 - s + s * Ev y M) := by
  obtain ⟨z, hz, kz⟩ := hy.null
  obtain ⟨y', h1, h2⟩ : ∃ y' : Nat → Rat, (∀ M, 0 ≤ y' M) ∧ Null (fun M => y M - y' M) := by
    refine ⟨fun M => if 0 ≤ y M then y M else 0, fun M => ?_, fun e he => ?_⟩
    · dsimp only; split <;> grind
    · obtain ⟨N, hN⟩ := hy e he
      refine ⟨N, fun M hM => ?_⟩
      have := hN M hM
      dsimp only at this ⊢
      split <;> exact ⟨by grind, by grind⟩
  have hb' : Bdd y' := hb.of_null h2
  have c1 := Ev_congr ((Bdd.const s).mul hb) ((Bdd.const s).mul hb') ((h2.bmul (Bdd.const s)).of_eq fun M => by grind)
  have c2 := (Ev_congr hb hb' h2).bmul (Bdd.const s)
  refine LeN.of_null (c1.sub c2) 1 fun M hM => ?_
  have e := E_part s0 s1 (h1 M) hM
  have e1 : Ev (fun M => s * y' M) M = E (s * y' M) M := rfl
  have e2 : Ev y' M = E (y' M) M := rfl
  rw [e1, e2]
  grind
theorem bern {L : Rat → Nat → Rat} (hL : Lns L) {s c t : Rat} (s0 : 0 ≤ s) (s1 : s ≤ 1) (hc : 0 < c) (ht : 0 < t) : LeN (pr L s t) (fun M => (1 - s + s * (t / c)) * pr L s c M) := by
  have r0 := rdiv_pos ht hc
  have hy := log_quot hL hc r0
  have et : c * (t / c) = t := by have := rdm (a := t) hc; grind
  rw [et] at hy
  obtain ⟨y, ey⟩ : ∃ y : Nat → Rat, y = fun M => L t M - L c M := ⟨_, rfl⟩
  rw [← ey] at hy
  have key : LeN (Ev (fun M => s * y M)) (fun _ => 1 - s + s * (t / c)) := by
    by_cases hle : c ≤ t
    · have l : LeN (fun _ => 0) y := fun e he => isLog_one.le hy null_zero 0 (fun M _ => by
        have := qle_div (a := 1) hc (show 1 * c ≤ t by grind)
        grind) e he
      refine (Ev_part s0 s1 hy.1 l).trans ?_
      refine LeN.of_null (hy.2.bmul (Bdd.const s)) 0 fun M _ => by grind
    · -- the other way round
      have hw := hy.neg (s := fun _ => c / t) (Bdd.const _) 0 (fun M _ => by
        have e1 := rdm (a := c) ht
        have e2 := rdm (a := t) hc
        have : c / t * (t / c) = c / t * t * (t / c) / t := by
          have : c / t * t * (t / c) / t = c / t * (t / c) * (t / t) := by rw [Rat.div_def _ t, Rat.div_def t t]; grind
          rw [this]
          have : t / t = 1 := by rw [Rat.div_def, Rat.mul_inv_cancel _ (by grind)]
          rw [this]; grind
        rw [this, e1]
        have : c * (t / c) = t := by grind
        rw [this, Rat.div_def, Rat.mul_inv_cancel _ (by grind)])
      have l : LeN (fun _ => 0) (fun M => -y M) := fun e he => isLog_one.le hw null_zero 0 (fun M _ => by
        have := qle_div (a := 1) ht (show 1 * t ≤ c by grind)
        grind) e he
      have k := (Ev_part (show 0 ≤ 1 - s by grind) (by grind) hw.1 l).bmul (Ev_bdd hy.1) (Ev_nn hy.1)
      have a1 := Ev_add ((Bdd.const (1 - s)).mul hw.1) hy.1
      have a2 := Ev_add hw.1 hy.1
      have e1 : ∀ M, Ev (fun M => (1 - s) * -y M + y M) M = Ev (fun M => s * y M) M := fun M => by unfold Ev; congr 1; grind
      have e2 : ∀ M, Ev (fun M => -y M + y M) M = E 0 M := fun M => by unfold Ev; congr 1; grind
      obtain ⟨z, hz, kz⟩ := k.null
      have n1 : Null (fun M => E 0 M - 1) := null_zero.of_eq_from 1 fun M hM => by
        obtain ⟨m, rfl⟩ : ∃ m, M = m + 1 := ⟨M - 1, by omega⟩
        rw [E_zero]; grind
      refine LeN.of_null (((hz.add (a2.bmul (Bdd.const (1 - s)))).add (hy.2.bmul (Bdd.const s))).add ((n1.bmul (Bdd.const (1 - s))).sub a1)) 0 fun M _ => ?_
      have k2 := kz M
      rw [e1, e2]
      generalize Ev (fun M => (1 - s) * -y M) M = w1 at *
      generalize Ev (fun M => s * y M) M = w2 at *
      generalize Ev (fun M => -y M) M = w3 at *
      generalize Ev y M = w4 at *
      generalize E 0 M = w5 at *
      clear k a1 a2 e1 e2 n1 hw l hz kz
      have r : (1 - (1 - s) + (1 - s) * w3) * w4 = s * w4 + (1 - s) * (w3 * w4) := by grind
      rw [r] at k2
      grind
  have k := key.bmul (pr_bdd hL hc s) (pr_nn hL hc s)
  have a := Ev_add ((Bdd.const s).mul hy.1) (pr_arg hL hc s)
  refine LeN.trans (LeN.of_eqN (Null.symm (a.of_eq fun M => ?_))) k
  have e : Ev (fun M => s * y M + s * L c M) M = pr L s t M := by rw [ey]; unfold pr Ev; congr 1; grind
  rw [e]; rfl
theorem upT_pw {a : Rat} (ha : 0 < a) (x : Rat) (n : Nat) : upT a x n = upT a 1 n * pw x n := by
  induction n with
  | zero => show 1 / a = 1 / a * 1; grind
  | succ n ih =>
    have e1 := upT_succ ha x n
    have e2 := upT_succ ha 1 n
    refine rat_cancel (un_pos ha n) ?_
    have e3 : pw x (n + 1) = x * pw x n := rfl
    rw [e1, e3, ih]
    have : (a + ((n : Rat) + 1)) * (upT a 1 (n + 1) * (x * pw x n)) = (a + ((n : Rat) + 1)) * upT a 1 (n + 1) * (x * pw x n) := by grind
    rw [this, e2]; grind
theorem uS_ps {a : Rat} (ha : 0 < a) : uS a = psS (upT a 1) := by
  funext x M
  exact S_congr M fun k _ => upT_pw ha x k
theorem uS_dif {a q : Rat} (ha : 0 < a) (hq : 0 ≤ q) : Dif (uS a) (psD (upT a 1)) 0 q := by
  obtain ⟨K, k0, hK⟩ := uS_bdd ha (show 0 ≤ q + 1 by grind)
  rw [uS_ps ha]
  refine ps_dif (A := upT a 1) (r := q + 1) (K := K) (fun k => ⟨by have := upT_nonneg ha (show (0 : Rat) ≤ 1 by grind) k; grind, Rat.le_refl⟩) (fun M => ?_) hq (by grind)
  have := hK M
  rw [uS_ps ha] at this
  exact this
theorem uS_ode {a : Rat} (ha : 0 < a) (x : Rat) (M : Nat) : x * psD (upT a 1) x M = 1 + (x - a) * uS a x M - (a + (M : Rat)) * upT a x M := by
  induction M with
  | zero =>
    have e := upT_zero ha x
    have c : ((0 : Nat) : Rat) = 0 := rfl
    rw [c]
    show x * 0 = 1 + (x - a) * 0 - (a + 0) * upT a x 0
    grind
  | succ n ih =>
    have e1 := upT_succ ha x n
    have c : ((n + 1 : Nat) : Rat) = (n : Rat) + 1 := by push_cast; rfl
    have e2 : psD (upT a 1) x (n + 1) = psD (upT a 1) x n + upT a 1 n * dw x n := rfl
    have e3 : x * (upT a 1 n * dw x n) = (n : Rat) * upT a x n := by
      have d := dw_mul x n
      rw [upT_pw ha x n]
      have : x * (upT a 1 n * dw x n) = upT a 1 n * (x * dw x n) := by grind
      rw [this, d]; grind
    rw [uS_succ, e2, c, e1]
    have e4 : x * (psD (upT a 1) x n + upT a 1 n * dw x n) = x * psD (upT a 1) x n + (n : Rat) * upT a x n := by rw [← e3]; grind
    rw [e4, ih]
    grind
theorem uW_null {a x : Rat} (ha : 0 < a) (hx : 0 ≤ x) : Null (fun M => (a + (M : Rat)) * upT a x M) := by
  refine ((shift_null (upT_null ha hx)).bmul (Bdd.const x)).of_eq_from 1 fun M hM => ?_
  obtain ⟨m, rfl⟩ : ∃ m, M = m + 1 := ⟨M - 1, by omega⟩
  have e := upT_succ ha x m
  have c : ((m + 1 : Nat) : Rat) = (m : Rat) + 1 := by push_cast; rfl
  rw [c, e]
  simp only [Nat.add_sub_cancel]
  grind
theorem ex_dif {p q : Rat} (hp : 0 ≤ p) (hpq : p ≤ q) : Dif (fun x => ex (-x)) (fun x M => -ex (-x) M) p q := by
  have bd : ∀ x, p ≤ x → x ≤ q → LeA (ex (-x)) 1 := fun x h1 h2 e he => by
    obtain ⟨N1, n1⟩ := ex_nn (-x)
    obtain ⟨N2, n2⟩ := (ex_mono (a := -x) (b := 0) (by grind)) e he
    refine ⟨N1 + N2 + 1, fun M hM => ?_⟩
    have a1 := n1 M (by omega)
    have a2 := n2 M (by omega)
    obtain ⟨m, rfl⟩ : ∃ m, M = m + 1 := ⟨M - 1, by omega⟩
    have e0 : ex 0 (m + 1) = 1 := E_zero m
    rw [e0] at a2
    exact ⟨by grind, a2⟩
  refine Dif.of_small (D := 1 / 4) (C := 2) (K := 1) hpq (by grind) (by grind) (by grind) (fun x h1 h2 => ⟨bd x h1 h2, (bd x h1 h2).neg⟩) (fun x h h1 h2 h3 h4 hD => ?_)
  have l : LeA (fun M => ex (-h) M - 1 - -h) (2 * (-h * -h)) := LeA.of_ab 2 fun M hM => E_two hD.neg hM
  have t := l.mul (bd x h1 h2)
  have s := ex_add (-h) (-x)
  have e : -h + -x = -(x + h) := by grind
  rw [e] at s
  refine LeA.congr (t.mono (by grind)) (s.neg.of_eq fun M => by grind)
def uF (L : Rat → Nat → Rat) (a x : Rat) (M : Nat) : Rat := 1 / x * (pr L a x M * ex (-x) M)
theorem uG_dif {L : Rat → Nat → Rat} (hL : Lns L) {a p q : Rat} (ha : 0 < a) (hp : 0 < p) (hpq : p ≤ q) : Dif (uG L a) (uF L a) p q := by
  have d1 := pr_dif hL a hp hpq
  have d2 := ex_dif (Rat.le_of_lt hp) hpq
  have d3 := (uS_dif ha (show 0 ≤ q by grind)).within (p' := p) (q' := q) (by grind) Rat.le_refl
  have d := (d1.mul hpq d2).mul hpq d3
  refine d.congr fun x h1 h2 => ?_
  have x0 : 0 < x := by grind
  have w := (uW_null ha (Rat.le_of_lt x0)).bmul (((pr_bdd hL x0 a).mul (ex_bdd (-x))).mul (Bdd.const (1 / x)))
  refine w.of_eq fun M => ?_
  have o := uS_ode ha x M
  have e1 := rdm (a := 1) x0
  have e3 : a / x = a * (1 / x) := by rw [Rat.div_def, Rat.div_def, Rat.one_mul]
  unfold uF
  rw [e3]
  generalize 1 / x = i at *
  generalize pr L a x M = P at *
  generalize ex (-x) M = R at *
  generalize uS a x M = s at *
  generalize psD (upT a 1) x M = D at *
  generalize (a + (M : Rat)) * upT a x M = W at *
  clear w d d1 d2 d3
  have g : D = i * (x * D) := by
    have : i * (x * D) = i * x * D := by grind
    rw [this, e1]; grind
  have g2 : a * i - 1 = i * (a - x) := by
    have : i * (a - x) = a * i - i * x := by grind
    rw [this, e1]
  have g3 : (a * i * P * R + P * -R) * s + P * R * D = P * R * ((a * i - 1) * s + D) := by grind
  rw [g3, g2]
  have g4 : i * (a - x) * s + D = i * ((a - x) * s + x * D) := by
    have : i * (a - x) * s + D = i * (a - x) * s + i * (x * D) := by rw [← g]
    rw [this]; grind
  rw [g4, o]
  grind
theorem uG_small {L : Rat → Nat → Rat} (hL : Lns L) {a : Rat} (ha : 0 < a) {e : Rat} (he : 0 < e) : ∃ p, 0 < p ∧ p ≤ 1 / 4 ∧ LeN (uG L a p) (fun _ => e) := by
  obtain ⟨K, k0, hK⟩ := uS_bdd ha (show (0 : Rat) ≤ 1 / 4 by grind)
  have Kp : 0 < K + 1 := by grind
  obtain ⟨n, hn⟩ := null_q2 (e / (K + 1)) (rdiv_pos he Kp)
  have q := (hn n (Nat.le_refl _)).2
  obtain ⟨p, p0, p1, ps⟩ := pr_small hL ha n
  refine ⟨p, p0, p1, ?_⟩
  have le : LeN (ex (-p)) (fun _ => 1) := (ex_mono (a := -p) (b := 0) (by grind)).trans (LeN.of_le 1 fun M hM => by
    obtain ⟨m, rfl⟩ : ∃ m, M = m + 1 := ⟨M - 1, by omega⟩
    have e0 : ex 0 (m + 1) = 1 := E_zero m
    rw [e0]; exact Rat.le_refl)
  have l1 := ps.mul le (ex_bdd (-p)) (ex_nn (-p)) (Bdd.const (q2 n)) (Nn.const (Rat.le_of_lt (q2_pos n)))
  have l2 : LeN (uS a p) (fun _ => K + 1) := LeN.of_le 0 fun M _ => by
    have := hK M
    have := uS_mono ha (Rat.le_of_lt p0) p1 M
    grind
  have l := l1.mul l2 (uS_Bdd ha (Rat.le_of_lt p0)) ⟨0, fun M _ => uS_nonneg ha (Rat.le_of_lt p0) M⟩ (Bdd.const (q2 n * 1)) (Nn.const (by have := q2_pos n; grind))
  refine l.trans (LeN.of_le 0 fun M _ => ?_)
  have m := Rat.mul_le_mul_of_nonneg_right q (Rat.le_of_lt Kp)
  rw [rdm Kp] at m
  grind
theorem uF_next {L : Rat → Nat → Rat} (hL : Lns L) {x : Rat} (hx : 0 < x) (a s : Rat) : Null (fun M => uF L (a + s) x M - uF L a x M * pr L s x M) := by
  have h := (pr_add hL hx a s).bmul ((ex_bdd (-x)).mul (Bdd.const (1 / x)))
  exact h.neg.of_eq fun M => by unfold uF; grind
theorem gam_far {L : Rat → Nat → Rat} (hL : Lns L) {a : Rat} {g : Nat → Rat} (ha : 0 < a) (h : IsGam L a g) {e : Rat} (he : 0 < e) : ∃ x, 0 < x ∧ LeN g (fun M => uG L a x M + e) := by
  obtain ⟨K, k0, hK⟩ : ∃ K, 0 ≤ K ∧ LeN g (fun _ => K) := by
    obtain ⟨K, hK⟩ := h.bdd.leA
    exact ⟨K, hK.nonneg, fun e he => by
      obtain ⟨N, n⟩ := hK e he
      exact ⟨N, fun M hM => (n M hM).2⟩⟩
  obtain ⟨n, hn⟩ := rat_nat (2 * K / e)
  obtain ⟨m, hm⟩ := rat_nat a
  obtain ⟨x, ex'⟩ : ∃ x : Rat, x = 2 * (a + 1) * ((n : Rat) + 1) + 2 := ⟨_, rfl⟩
  have n0 := cast0 n
  have an := Rat.mul_nonneg (show 0 ≤ a + 1 by grind) (show (0 : Rat) ≤ (n : Rat) + 1 by grind)
  have an2 := Rat.mul_nonneg (show 0 ≤ a by grind) n0
  have x0 : 0 < x := by grind
  refine ⟨x, x0, ?_⟩
  have us : ∀ M, 1 ≤ M → 2 * ((n : Rat) + 1) ≤ x * uS a x M := fun M hM => by
    obtain ⟨j, rfl⟩ : ∃ j, M = j + 1 := ⟨M - 1, by omega⟩
    have f := uS_first ha (Rat.le_of_lt x0) j
    have d := rdm (a := 1) ha
    have i0 := rdiv_pos (show (0 : Rat) < 1 by grind) ha
    have m1 := Rat.mul_le_mul_of_nonneg_left f (Rat.le_of_lt x0)
    refine Rat.le_trans ?_ m1
    refine Rat.le_of_mul_le_mul_right (c := a) ?_ ha
    have : x * (1 / a) * a = x * (1 / a * a) := by grind
    rw [this, d]
    grind
  have n1 := (uE_mul hL x0 a).bmul (uS_Bdd ha (Rat.le_of_lt x0))
  obtain ⟨N2, e2⟩ := uE_nn hL x0 a
  have l1 : LeN (fun M => 2 * ((n : Rat) + 1) * uE L a x M) (uG L a x) := by
    refine LeN.of_null n1 (1 + N2) fun M hM => ?_
    have u0 := e2 M (by omega)
    have m := Rat.mul_le_mul_of_nonneg_right (us M (by omega)) u0
    unfold uG
    generalize uE L a x M = ue at *
    generalize uS a x M = s at *
    generalize pr L a x M = p at *
    generalize ex (-x) M = y at *
    grind
  have l2 := (l1.trans (h.lo x x0)).trans hK
  have l3 := h.hi x (by grind) (by grind)
  have d := rdm (a := 2 * K) he
  have small : LeN (fun M => 2 * uE L a x M) (fun _ => e) := by
    have ip : 0 < 1 / ((n : Rat) + 1) := rdiv_pos (by grind) (pos1 n)
    have im := rdm (a := 1) (pos1 n)
    refine LeN.trans (LeN.of_le 0 fun M _ => ?_) ((l2.cmul (Rat.le_of_lt ip)).trans (LeN.of_le 0 fun M _ => ?_))
    · have : 1 / ((n : Rat) + 1) * (2 * ((n : Rat) + 1) * uE L a x M) = 1 / ((n : Rat) + 1) * ((n : Rat) + 1) * (2 * uE L a x M) := by grind
      rw [this, im]; grind
    · have m1 := Rat.mul_le_mul_of_nonneg_right hn.2 (Rat.le_of_lt he)
      rw [d] at m1
      refine Rat.le_of_mul_le_mul_left (c := (n : Rat) + 1) ?_ (pos1 n)
      have : ((n : Rat) + 1) * (1 / ((n : Rat) + 1) * K) = 1 / ((n : Rat) + 1) * ((n : Rat) + 1) * K := by grind
      rw [this, im]
      grind
  exact l3.trans ((LeN.refl (uG L a x)).add small)
theorem gam_uniq {L : Rat → Nat → Rat} (hL : Lns L) {a : Rat} {g g' : Nat → Rat} (ha : 0 < a) (h : IsGam L a g) (h' : IsGam L a g') : Null (fun M => g M - g' M) := by
  have one : ∀ g g' : Nat → Rat, IsGam L a g → IsGam L a g' → LeN g g' := fun g g' h h' e he => by
    obtain ⟨x, x0, hx⟩ := gam_far hL ha h (show 0 < e / 2 by grind)
    obtain ⟨N1, n1⟩ := hx (e / 4) (by grind)
    obtain ⟨N2, n2⟩ := h'.lo x x0 (e / 4) (by grind)
    exact ⟨N1 + N2, fun M hM => by have := n1 M (by omega); have := n2 M (by omega); grind⟩
  exact (one g g' h h').eq (one g' g h' h)
theorem gam_pow {L : Rat → Nat → Rat} (hL : Lns L) {z s c : Rat} {g k : Nat → Rat} (hz : 0 < z) (s0 : 0 ≤ s) (s1 : s ≤ 1) (hzc : z ≤ c) (hg : IsGam L z g) (hk : IsGam L (z + s) k) : LeN k (fun M => pr L s c M * g M) := by
  intro e he
  have c0 : 0 < c := by grind
  have zs : 0 < z + s := by grind
  obtain ⟨x, x0, hx⟩ := gam_far hL zs hk (show 0 < e / 8 by grind)
  obtain ⟨p, p0, p1, ps⟩ := uG_small hL zs (show 0 < e / 8 by grind)
  have step : LeN (uG L (z + s) x) (fun M => pr L s c M * g M + e / 4) := by
    by_cases hpx : p ≤ x
    · obtain ⟨F, hF⟩ : ∃ F : Rat → Nat → Rat, F = fun x M => pr L s c M * ((1 - s) * uG L z x M + s / c * uG L (z + 1) x M) := ⟨_, rfl⟩
      have dz := uG_dif hL hz p0 hpx
      have dz1 := uG_dif hL (show 0 < z + 1 by grind) p0 hpx
      have dzs := uG_dif hL zs p0 hpx
      have dc := Dif.const (pr L s c) (pr_bdd hL c0 s) p x
      have d := (dc.mul hpx ((dz.smul (1 - s)).add (dz1.smul (s / c)))).sub dzs
      have l := d.le hpx fun t h1 h2 => by
        have t0 : 0 < t := by grind
        have b := bern hL s0 s1 c0 t0
        obtain ⟨N, hN⟩ : Nn (uF L z t) := (Nn.const (qle_div t0 (by grind))).mul ((pr_nn hL t0 z).mul (ex_nn (-t)))
        have bF : Bdd (uF L z t) := (Bdd.const _).mul ((pr_bdd hL t0 z).mul (ex_bdd (-t)))
        have bb := b.bmul bF ⟨N, hN⟩
        have f1 := (uF_next hL t0 z 1).bmul ((Bdd.const (s / c)).mul (pr_bdd hL c0 s))
        have f2 := uF_next hL t0 z s
        have f3 := (pr_one hL t0).bmul ((bF.mul (Bdd.const (s / c))).mul (pr_bdd hL c0 s))
        obtain ⟨y, hy, ky⟩ := bb.null
        refine LeN.of_null ((hy.add f2).sub (f1.add f3)) 0 fun M _ => ?_
        have k2 := ky M
        have es : s * (t / c) = s / c * t := by rw [Rat.div_def, Rat.div_def]; grind
        rw [es] at k2
        generalize uF L (z + s) t M = w1 at *
        generalize uF L (z + 1) t M = w2 at *
        generalize uF L z t M = w3 at *
        generalize pr L s t M = w4 at *
        generalize pr L s c M = w5 at *
        generalize pr L 1 t M = w6 at *
        generalize s / c = w7 at *
        clear b bb f1 f2 f3 hy ky hN bF d dz dz1 dzs dc
        grind
      have l1 := hg.lo x x0
      have l2 := (hg.next hL hz).lo x x0
      obtain ⟨NN, hNN⟩ := pr_nn hL c0 s
      obtain ⟨N6, n6⟩ := uG_nn hL hz p0
      obtain ⟨N7, n7⟩ := uG_nn hL (show 0 < z + 1 by grind) p0
      have sc := qle_div (a := 0) (b := s) c0 (by grind)
      have l3 := (((l1.cmul (show 0 ≤ 1 - s by grind)).add (l2.cmul sc)).bmul (pr_bdd hL c0 s) ⟨NN, hNN⟩)
      obtain ⟨gc, gc0, N8, n8⟩ := hg.pos
      intro e' he'
      obtain ⟨N1, n1⟩ := l (e' / 4) (by grind)
      obtain ⟨N2, n2⟩ := ps (e' / 4) (by grind)
      obtain ⟨N3, n3⟩ := l3 (e' / 4) (by grind)
      refine ⟨N1 + N2 + N3 + NN + N6 + N7 + N8, fun M hM => ?_⟩
      have a1 := n1 M (by omega)
      have a2 := n2 M (by omega)
      have a3 := n3 M (by omega)
      have a4 := hNN M (by omega)
      have a6 := n6 M (by omega)
      have a7 := n7 M (by omega)
      have a8 := n8 M (by omega)
      dsimp only at a1 a2 a3 ⊢
      have g0 : 0 ≤ g M := by grind
      have q1 := Rat.mul_nonneg a4 (Rat.mul_nonneg (show 0 ≤ 1 - s by grind) a6)
      have q2' := Rat.mul_nonneg a4 (Rat.mul_nonneg sc a7)
      have zc : s / c * z ≤ s := by
        have := Rat.mul_le_mul_of_nonneg_left hzc sc
        rw [rdm c0] at this
        exact this
      have q3 := Rat.mul_nonneg a4 (Rat.mul_nonneg (show 0 ≤ s - s / c * z by grind) g0)
      generalize pr L s c M = w1 at *
      generalize uG L z p M = w2 at *
      generalize uG L (z + 1) p M = w3 at *
      generalize uG L (z + s) p M = w4 at *
      generalize uG L z x M = w5 at *
      generalize uG L (z + 1) x M = w6 at *
      generalize uG L (z + s) x M = w7 at *
      generalize s / c = w8 at *
      clear l l1 l2 l3 d dz dz1 dzs dc n1 n2 n3 n6 n7 n8 hNN hx ps hk hg hF
      have r1 : w1 * ((1 - s) * w5 + w8 * w6) ≤ w1 * g M + e' / 4 := by
        have : ((1 - s) * g M + w8 * (z * g M)) * w1 = w1 * g M - w1 * ((s - w8 * z) * g M) := by grind
        rw [this] at a3
        grind
      have r2 : -w4 ≤ w1 * ((1 - s) * w2 + w8 * w3) - w4 := by grind
      grind
    · -- x is below p
      have m := uG_mono hL zs x0 (show x ≤ p by grind)
      obtain ⟨NN, hNN⟩ := pr_nn hL c0 s
      obtain ⟨gc, gc0, N8, n8⟩ := hg.pos
      refine (m.trans ps).trans (LeN.of_le (NN + N8) fun M hM => ?_)
      have a4 := hNN M (by omega)
      have a8 := n8 M (by omega)
      have := Rat.mul_nonneg a4 (show 0 ≤ g M by grind)
      grind
  obtain ⟨N1, n1⟩ := hx (e / 4) (by grind)
  obtain ⟨N2, n2⟩ := step (e / 4) (by grind)
  refine ⟨N1 + N2, fun M hM => ?_⟩
  have a1 := n1 M (by omega)
  have a2 := n2 M (by omega)
  dsimp only at a1 a2 ⊢
  grind
end Go.Proofs.Ytgmnknmjainabab.Ex
namespace Go.Proofs.Ytgmnknmjainabab.Ex
theorem LeN.congr2 {f g f' g' : Nat → Rat} (h : LeN f g) (hf : Null (fun M => f' M - f M)) (hg : Null (fun M => g M - g' M)) : LeN f' g' := ((LeN.of_eqN hf).trans h).trans (LeN.of_eqN hg)
theorem IsGam.nn {L : Rat → Nat → Rat} {a : Rat} {g : Nat → Rat} (h : IsGam L a g) : Nn g := by
  obtain ⟨c, c0, N, hc⟩ := h.pos
  exact ⟨N, fun M hM => by have := hc M hM; grind⟩
theorem bJ_steps {L : Rat → Nat → Rat} (hL : Lns L) {a b : Rat} {ga gab : Nat → Rat} (ha : 0 < a) (hb : 0 < b) (h1 : IsGam L a ga) (h2 : IsGam L (a + b) gab) (n : Nat) : ∃ R R' : Rat, 0 < R ∧ 0 < R' ∧ IsGam L (a + (n : Rat)) (fun M => R * ga M) ∧ IsGam L (a + b + (n : Rat)) (fun M => R' * gab M) ∧ Null (fun M => R' * bJ L (a + (n : Rat)) b M - R * bJ L a b M) := by
  induction n with
  | zero =>
    have c : ((0 : Nat) : Rat) = 0 := rfl
    have e1 : a + ((0 : Nat) : Rat) = a := by rw [c]; grind
    have e2 : a + b + ((0 : Nat) : Rat) = a + b := by rw [c]; grind
    have e3 : (fun M => 1 * ga M) = ga := by funext M; grind
    have e4 : (fun M => 1 * gab M) = gab := by funext M; grind
    rw [e1, e2]
    exact ⟨1, 1, by grind, by grind, by rw [e3]; exact h1, by rw [e4]; exact h2, null_zero.of_eq fun M => by grind⟩
  | succ n ih =>
    obtain ⟨R, R', r0, r0', i1, i2, i3⟩ := ih
    have n0 := cast0 n
    have c : ((n + 1 : Nat) : Rat) = (n : Rat) + 1 := by push_cast; rfl
    have an : 0 < a + (n : Rat) := by grind
    have abn : 0 < a + b + (n : Rat) := by grind
    have g1 := i1.next hL an
    have g2 := i2.next hL abn
    have e1 : a + ((n + 1 : Nat) : Rat) = a + (n : Rat) + 1 := by rw [c]; grind
    have e2 : a + b + ((n + 1 : Nat) : Rat) = a + b + (n : Rat) + 1 := by rw [c]; grind
    have e3 : (fun M => (a + (n : Rat)) * (R * ga M)) = fun M => (a + (n : Rat)) * R * ga M := by funext M; grind
    have e4 : (fun M => (a + b + (n : Rat)) * (R' * gab M)) = fun M => (a + b + (n : Rat)) * R' * gab M := by funext M; grind
    rw [e3] at g1
    rw [e4] at g2
    have nx := bJ_next hL an hb
    rw [e1, e2]
    refine ⟨_, _, Rat.mul_pos an r0, Rat.mul_pos abn r0', g1, g2, ?_⟩
    refine ((nx.bmul (Bdd.const R')).add (i3.bmul (Bdd.const (a + (n : Rat))))).of_eq fun M => by grind
theorem one_gam {L : Rat → Nat → Rat} (hL : Lns L) : ∃ g, IsGam L 1 g ∧ Null (fun M => g M - 1) := by
  obtain ⟨g, hg⟩ := gam1_ex hL (show (0 : Rat) < 1 by grind) Rat.le_refl
  exact ⟨g, hg.isGam hL (by grind), gam_one hL hg⟩
theorem bJ_both {L : Rat → Nat → Rat} (hL : Lns L) {a b : Rat} {ga gb gab : Nat → Rat} (ha : 0 < a) (ha1 : a ≤ 1) (hb : 0 < b) (h1 : IsGam L a ga) (h2 : IsGam L b gb) (h3 : IsGam L (a + b) gab) (hJ : Null (fun M => b * bJ L 1 b M - 1)) (n : Nat) :
    LeN (fun M => ((n : Rat) + 1) * (bJ L a b M * gab M)) (fun M => ((n : Rat) + 1 + (a + b + 1)) * (ga M * gb M)) ∧ LeN (fun M => ((n : Rat) + 1) * (ga M * gb M)) (fun M => ((n : Rat) + 1 + (a + b + 1)) * (bJ L a b M * gab M)) := by
  have n0 := cast0 n
  have cN : ((n + 1 : Nat) : Rat) = (n : Rat) + 1 := by push_cast; rfl
  obtain ⟨g1, ig1, n1⟩ := one_gam hL
  obtain ⟨R, R', r0, r0', i1, i2, i3⟩ := bJ_steps hL ha hb h1 h3 (n + 1)
  have hb1 := h2.next hL hb
  have eb : b + 1 = 1 + b := by grind
  rw [eb] at hb1
  obtain ⟨T, T', t0, t0', j1, j2, j3⟩ := bJ_steps hL (show (0 : Rat) < 1 by grind) hb ig1 hb1 n
  rw [cN] at i1 i2 i3
  obtain ⟨N, eN⟩ : ∃ N : Rat, N = (n : Rat) + 1 := ⟨_, rfl⟩
  have e1n : (1 : Rat) + (n : Rat) = N := by grind
  have e1bn : (1 : Rat) + b + (n : Rat) = N + b := by grind
  rw [e1n] at j1 j3
  rw [e1bn] at j2
  rw [← eN] at i1 i2 i3
  have N0 : 0 < N := by grind
  have ea : a + N = N + a := by grind
  have eab : a + b + N = N + b + a := by grind
  rw [ea] at i1 i3
  rw [eab] at i2
  obtain ⟨c, ec⟩ : ∃ c : Rat, c = N + (a + b + 1) := ⟨_, rfl⟩
  have c0 : 0 < c := by grind
  have a0 := Rat.le_of_lt ha
  have p1 := gam_pow hL (z := N + b) (s := a) (c := c) (by grind) a0 ha1 (by grind) j2 i2
  have jn := j1.next hL N0
  have p2 := gam_pow hL (z := N + a) (s := 1 - a) (c := c) (by grind) (by grind) (by grind) (by grind) i1 (by
    have e : N + a + (1 - a) = N + 1 := by grind
    rw [e]; exact jn)
  have jb := j2.next hL (show 0 < N + b by grind)
  have p3 := gam_pow hL (z := N + b + a) (s := 1 - a) (c := c) (by grind) (by grind) (by grind) (by grind) i2 (by
    have e : N + b + a + (1 - a) = N + b + 1 := by grind
    rw [e]; exact jb)
  have p4 := gam_pow hL (z := N) (s := a) (c := c) N0 a0 ha1 (by grind) j1 i1
  have q1 := bJ_anti hL (a := N) (a' := N + a) N0 hb (by grind)
  have q2' := bJ_anti hL (a := N + a) (a' := N + 1) (by grind) hb (by grind)
  have q3 := bJ_next hL N0 hb
  have w := pr_add hL c0 a (1 - a)
  have ew : a + (1 - a) = 1 := by grind
  rw [ew] at w
  have w1 := w.add (pr_one hL c0)
  have bW := pr_bdd hL c0 a
  have nW := pr_nn hL c0 a
  have bV := pr_bdd hL c0 (1 - a)
  have nV := pr_nn hL c0 (1 - a)
  have bJN := bJ_bdd hL N0 hb
  have bJa := bJ_bdd hL (show 0 < N + a by grind) hb
  have bJ0 := bJ_bdd hL ha hb
  have nJN := bJ_nn hL N0 hb
  have nJa := bJ_nn hL (show 0 < N + a by grind) hb
  have nR : Nn (fun M => R' * gab M) := (Nn.const (Rat.le_of_lt r0')).mul h3.nn
  have bR : Bdd (fun M => R' * gab M) := (Bdd.const R').mul h3.bdd
  have bga := h1.bdd
  have bgb := h2.bdd
  have bgab := h3.bdd
  have bg1 := ig1.bdd
  have b1 := bJ_bdd hL (show (0 : Rat) < 1 by grind) hb
  rw [← eN, ← ec]
  constructor
  · -- J(N+a) R' gab <= J(N) W T' b gb
    have l1 := q1.mul p1 bR nR bJN nJN
    have l2 : LeN (fun M => R * (bJ L a b M * gab M)) (fun M => T * (pr L a c M * gb M)) := by
      refine l1.congr2 ((i3.bmul bgab).neg.of_eq fun M => ?_) (((j3.bmul ((bW.mul (Bdd.const b)).mul bgb)).add (hJ.bmul ((Bdd.const T).mul (bW.mul bgb)))).of_eq fun M => ?_)
      · grind
      · grind
    have l3 := p2.bmul (bW.mul bgb) (nW.mul h2.nn)
    have l4 : LeN (fun M => N * (T * (pr L a c M * gb M))) (fun M => c * (R * (ga M * gb M))) := by
      refine l3.congr2 ((n1.bmul ((Bdd.const (N * T)).mul (bW.mul bgb))).neg.of_eq fun M => ?_) ((w1.bmul ((Bdd.const R).mul (bga.mul bgb))).of_eq fun M => ?_)
      · grind
      · grind
    have l5 := (l2.cmul (Rat.le_of_lt N0)).trans l4
    have ir := rdiv_pos (show (0 : Rat) < 1 by grind) r0
    have im := rdm (a := 1) r0
    refine LeN.trans (LeN.of_le 0 fun M _ => ?_) ((l5.cmul (Rat.le_of_lt ir)).trans (LeN.of_le 0 fun M _ => ?_))
    · have : 1 / R * (N * (R * (bJ L a b M * gab M))) = 1 / R * R * (N * (bJ L a b M * gab M)) := by grind
      rw [this, im]; grind
    · have : 1 / R * (c * (R * (ga M * gb M))) = 1 / R * R * (c * (ga M * gb M)) := by grind
      rw [this, im]; grind
  · -- J(N+1) (N+b) T' b gb <= J(N+a) V R' gab
    have nB : Nn (fun M => (N + b) * (T' * (b * gb M))) := (Nn.const (show 0 ≤ N + b by grind)).mul ((Nn.const (Rat.le_of_lt t0')).mul ((Nn.const (Rat.le_of_lt hb)).mul h2.nn))
    have bB : Bdd (fun M => (N + b) * (T' * (b * gb M))) := (Bdd.const (N + b)).mul ((Bdd.const T').mul ((Bdd.const b).mul bgb))
    have l1 := q2'.mul p3 bB nB bJa nJa
    have l2 : LeN (fun M => N * (T * gb M)) (fun M => pr L (1 - a) c M * (R * (bJ L a b M * gab M))) := by
      refine l1.congr2 ((((q3.bmul ((Bdd.const (T' * b)).mul bgb)).add (j3.bmul ((Bdd.const (N * b)).mul bgb))).add (hJ.bmul ((Bdd.const (N * T)).mul bgb))).neg.of_eq fun M => ?_) ((i3.bmul (bV.mul bgab)).of_eq fun M => ?_)
      · grind
      · grind
    have l3 := p4.bmul ((Bdd.const N).mul bgb) ((Nn.const (Rat.le_of_lt N0)).mul h2.nn)
    have l4 := l2.bmul bW nW
    have l5 : LeN (fun M => N * (R * (ga M * gb M))) (fun M => N * (T * gb M) * pr L a c M) := by
      refine l3.congr2 (null_zero.of_eq fun M => ?_) ((n1.bmul ((Bdd.const (N * T)).mul (bW.mul bgb))).of_eq fun M => ?_)
      · grind
      · grind
    have l6 : LeN (fun M => N * (R * (ga M * gb M))) (fun M => c * (R * (bJ L a b M * gab M))) := by
      refine (l5.trans l4).trans (LeN.of_eqN ((w1.bmul ((Bdd.const R).mul (bJ0.mul bgab))).of_eq fun M => ?_))
      grind
    have ir := rdiv_pos (show (0 : Rat) < 1 by grind) r0
    have im := rdm (a := 1) r0
    refine LeN.trans (LeN.of_le 0 fun M _ => ?_) ((l6.cmul (Rat.le_of_lt ir)).trans (LeN.of_le 0 fun M _ => ?_))
    · have : 1 / R * (N * (R * (ga M * gb M))) = 1 / R * R * (N * (ga M * gb M)) := by grind
      rw [this, im]; grind
    · have : 1 / R * (c * (R * (bJ L a b M * gab M))) = 1 / R * R * (c * (bJ L a b M * gab M)) := by grind
      rw [this, im]; grind
theorem lim_both {P W : Nat → Rat} {C : Rat} (hC : 0 ≤ C) (bP : Bdd W) (h : ∀ n : Nat, LeN (fun M => ((n : Rat) + 1) * P M) (fun M => ((n : Rat) + 1 + C) * W M)) : LeN P W := by
  obtain ⟨K, hK⟩ := bP.leA
  have k0 := hK.nonneg
  obtain ⟨N0, hN0⟩ := hK 1 (by grind)
  refine LeN.lim (C := C * (K + 1)) (Rat.mul_nonneg hC (by grind)) fun n => ?_
  have ip := rdiv_pos (show (0 : Rat) < 1 by grind) (pos1 n)
  have im := rdm (a := 1) (pos1 n)
  refine LeN.trans (LeN.of_le 0 fun M _ => ?_) (((h n).cmul (Rat.le_of_lt ip)).trans (LeN.of_le N0 fun M hM => ?_))
  · have : 1 / ((n : Rat) + 1) * (((n : Rat) + 1) * P M) = 1 / ((n : Rat) + 1) * ((n : Rat) + 1) * P M := by grind
    rw [this, im]; grind
  · have b := (hN0 M hM).2
    have m := Rat.mul_le_mul_of_nonneg_left b (Rat.mul_nonneg (Rat.le_of_lt ip) hC)
    have : 1 / ((n : Rat) + 1) * (((n : Rat) + 1 + C) * W M) = 1 / ((n : Rat) + 1) * ((n : Rat) + 1) * W M + 1 / ((n : Rat) + 1) * C * W M := by grind
    rw [this, im]
    grind
theorem bJ_unit {L : Rat → Nat → Rat} (hL : Lns L) {a b : Rat} {ga gb gab : Nat → Rat} (ha : 0 < a) (ha1 : a ≤ 1) (hb : 0 < b) (h1 : IsGam L a ga) (h2 : IsGam L b gb) (h3 : IsGam L (a + b) gab) (hJ : Null (fun M => b * bJ L 1 b M - 1)) : Null (fun M => bJ L a b M * gab M - ga M * gb M) := by
  have c0 : 0 ≤ a + b + 1 := by grind
  refine (lim_both c0 (h1.bdd.mul h2.bdd) fun n => (bJ_both hL ha ha1 hb h1 h2 h3 hJ n).1).eq (lim_both c0 ((bJ_bdd hL ha hb).mul h3.bdd) fun n => (bJ_both hL ha ha1 hb h1 h2 h3 hJ n).2)
theorem gam_ex {L : Rat → Nat → Rat} (hL : Lns L) (n : Nat) : ∀ a : Rat, 0 < a → a ≤ (n : Rat) + 1 → ∃ g, IsGam L a g := by
  induction n with
  | zero =>
    intro a ha h
    have c : ((0 : Nat) : Rat) = 0 := rfl
    rw [c] at h
    obtain ⟨g, hg⟩ := gam1_ex hL ha (by grind)
    exact ⟨g, hg.isGam hL ha⟩
  | succ n ih =>
    intro a ha h
    have c : ((n + 1 : Nat) : Rat) = (n : Rat) + 1 := by push_cast; rfl
    rw [c] at h
    by_cases h1 : a ≤ 1
    · obtain ⟨g, hg⟩ := gam1_ex hL ha h1
      exact ⟨g, hg.isGam hL ha⟩
    · obtain ⟨g, hg⟩ := ih (a - 1) (by grind) (by grind)
      have := hg.next hL (show 0 < a - 1 by grind)
      have e : a - 1 + 1 = a := by grind
      rw [e] at this
      exact ⟨_, this⟩
theorem bJ_all {L : Rat → Nat → Rat} (hL : Lns L) {b : Rat} {gb : Nat → Rat} (hb : 0 < b) (h2 : IsGam L b gb) (hJ : Null (fun M => b * bJ L 1 b M - 1)) (n : Nat) : ∀ (a : Rat) (ga gab : Nat → Rat), 0 < a → a ≤ (n : Rat) + 1 → IsGam L a ga → IsGam L (a + b) gab → Null (fun M => bJ L a b M * gab M - ga M * gb M) := by
  induction n with
  | zero =>
    intro a ga gab ha h h1 h3
    have c : ((0 : Nat) : Rat) = 0 := rfl
    rw [c] at h
    exact bJ_unit hL ha (by grind) hb h1 h2 h3 hJ
  | succ n ih =>
    intro a ga gab ha h h1 h3
    have c : ((n + 1 : Nat) : Rat) = (n : Rat) + 1 := by push_cast; rfl
    rw [c] at h
    by_cases hle : a ≤ 1
    · exact bJ_unit hL ha hle hb h1 h2 h3 hJ
    · have a1 : 0 < a - 1 := by grind
      obtain ⟨g, hg⟩ := gam_ex hL n (a - 1) a1 (by grind)
      obtain ⟨m, hm⟩ := rat_nat (a - 1 + b)
      obtain ⟨k, hk⟩ := gam_ex hL m (a - 1 + b) (by grind) (by have := hm.2; grind)
      have i := ih (a - 1) g k a1 (by grind) hg hk
      have e1 : a - 1 + 1 = a := by grind
      have e2 : a - 1 + b + 1 = a + b := by grind
      have hg1 := hg.next hL a1
      have hk1 := hk.next hL (show 0 < a - 1 + b by grind)
      rw [e1] at hg1
      rw [e2] at hk1
      have u1 := gam_uniq hL ha h1 hg1
      have u2 := gam_uniq hL (show 0 < a + b by grind) h3 hk1
      have nx := bJ_next hL a1 hb
      rw [e1] at nx
      refine ((((i.bmul (Bdd.const (a - 1))).add (nx.bmul hk.bdd)).add (u2.bmul (bJ_bdd hL ha hb))).sub (u1.bmul h2.bdd)).of_eq fun M => ?_
      grind
theorem bJ_one {L : Rat → Nat → Rat} (hL : Lns L) {b : Rat} (hb : 0 < b) : Null (fun M => b * bJ L 1 b M - 1) := by
  obtain ⟨g1, ig1, n1⟩ := one_gam hL
  obtain ⟨m, hm⟩ := rat_nat b
  obtain ⟨g, hg⟩ := gam_ex hL m b hb (by have := hm.2; grind)
  have j1 : Null (fun M => 1 * bJ L 1 1 M - 1) := (bJ_11 hL).of_eq fun M => by grind
  have k := bJ_all hL (show (0 : Rat) < 1 by grind) ig1 j1 m b g (fun M => b * g M) hb (by have := hm.2; grind) hg (hg.next hL hb)
  have h := (k.add (n1.bmul hg.bdd))
  have p : Null (fun M => g M * (b * bJ L 1 b M) - g M) := h.of_eq fun M => by
    rw [bJ_symm L 1 b M]
    grind
  obtain ⟨c, c0, N, hc⟩ := hg.pos
  intro e he
  obtain ⟨N2, n2⟩ := p (c * e) (Rat.mul_pos c0 he)
  refine ⟨N + N2, fun M hM => ?_⟩
  have a1 := n2 M (by omega)
  have a2 := hc M (by omega)
  dsimp only at a1
  show AB (b * bJ L 1 b M - 1) e
  clear p h k j1 n1
  generalize b * bJ L 1 b M = w at *
  have e1 : g M * w - g M = g M * (w - 1) := by grind
  rw [e1] at a1
  have m := Rat.mul_le_mul_of_nonneg_right a2 (Rat.le_of_lt he)
  have g0 : 0 < g M := by grind
  exact ⟨Rat.le_of_mul_le_mul_left (c := g M) (by have := a1.1; grind) g0, Rat.le_of_mul_le_mul_left (c := g M) (by have := a1.2; grind) g0⟩
theorem beta_gamma {L : Rat → Nat → Rat} (hL : Lns L) {a b : Rat} {ga gb gab : Nat → Rat} (ha : 0 < a) (hb : 0 < b) (h1 : IsGam L a ga) (h2 : IsGam L b gb) (h3 : IsGam L (a + b) gab) : Null (fun M => bJ L a b M * gab M - ga M * gb M) := by
  obtain ⟨m, hm⟩ := rat_nat a
  exact bJ_all hL hb h2 (bJ_one hL hb) m a ga gab ha (by have := hm.2; grind) h1 h3
end Go.Proofs.Ytgmnknmjainabab.Ex
namespace Go.Proofs.Ytgmnknmjainabab
open Go.RowKit
set_option maxHeartbeats 400000 in
theorem isRight_any (neg : Bool) (a : Option Addr) (n cap : Nat) (d : Nat → Int) (w : World) (h : Dig w a n cap d) :
    Calls Try.prog 50 #[.agg #[.bool neg, .slice a n cap]] w fun e w' => e = .returned (.bool (rightB neg n d)) ∧ Below w.heap.size w w' := by
  have hr := h.room
  have hl := h.le
  by_cases hn : n = 0
  · subst hn
    go_enter Try.func50, Try.ntmps50
    go_wp2
    go_ret
    exact ⟨by simp [rightB], (Below.refl _ _).alloc (Nat.le_refl _) _⟩
  · obtain ⟨b, off, rfl, hb, hc⟩ := h.at_ (by omega)
    have hc1 := hc (n - 1) (by omega)
    have hz : ((n : Int) == 0) = false := by simp; omega
    have hi : ((n : Int) - 1) = ((n - 1 : Nat) : Int) := by omega
    go_enter Try.func50, Try.ntmps50
    go_wp2
    go_ret
    exact ⟨by simp [rightB, hn], ((Below.refl _ _).alloc (Nat.le_refl _) _)⟩
def signZ (neg : Bool) (n : Nat) : Int := if n = 0 then 0 else if neg then -1 else 1
set_option maxHeartbeats 400000 in
theorem sign_any (neg : Bool) (a : Option Addr) (n cap : Nat) (w : World) (hr : n ≤ 70368744177664) :
    Calls Try.prog 57 #[.agg #[.bool neg, .slice a n cap]] w fun e w' => e = .returned (.int .i64 (signZ neg n)) ∧ Below w.heap.size w w' := by
  by_cases hn : n = 0
  · subst hn
    go_enter Try.func57, Try.ntmps57
    go_wp2
    all_goals (go_ret; exact ⟨by simp [signZ], (Below.refl _ _).alloc (Nat.le_refl _) _⟩)
  · have hz : ((n : Int) == 0) = false := by simp; omega
    cases neg
    all_goals
      go_enter Try.func57, Try.ntmps57
      go_wp2
      go_ret
      exact ⟨by simp [signZ, hn], (Below.refl _ _).alloc (Nat.le_refl _) _⟩
def cmpTo (d e : Nat → Int) : Nat → Int
  | 0 => 0
  | n + 1 => if d n < e n then -1 else if e n < d n then 1 else cmpTo d e n
def cmpZ (d e : Nat → Int) (n m : Nat) : Int := if n < m then -1 else if m < n then 1 else cmpTo d e n
set_option maxHeartbeats 400000 in
theorem compare_any (a c : Option Addr) (n m cap cap2 : Nat) (d e : Nat → Int) (w : World) (ha : Dig w a n cap d) (hc : Dig w c m cap2 e) :
    Calls Try.prog 59 #[.slice a n cap, .slice c m cap2] w fun r w' => r = .returned (.int .i64 (cmpZ d e n m)) ∧ Below w.heap.size w w' := by
  have hr := ha.room
  have hl := ha.le
  have hr2 := hc.room
  have hl2 := hc.le
  by_cases hne : n = m
  · subst hne
    have hz : ((n : Int) != n) = false := by simp
    go_enter Try.func59, Try.ntmps59
    go_wp2
    go_loopw [5] (fun i wr => ∃ k : Nat, k ≤ n ∧ i = .int .i64 ((k : Int) - 1) ∧ cmpTo d e n = cmpTo d e k ∧ Below w.heap.size w wr) (fun i _ => (intOf i + 1).toNat)
    case atStart => exact ⟨n, Nat.le_refl _, rfl, rfl, Below.refl _ _⟩
    case round =>
      obtain ⟨k, hk, rfl, hcm, hbl⟩ := hrel
      by_cases hk0 : k = 0
      · subst hk0
        go_wp2
        go_ret
        exact ⟨by simp [cmpZ, hcm, cmpTo], hbl⟩
      · obtain ⟨b1, o1, rfl, hb1, hc1⟩ := ha.at_ (by omega)
        obtain ⟨b2, o2, rfl, hb2, hc2⟩ := hc.at_ (by omega)
        obtain ⟨q, rfl⟩ : ∃ q, k = q + 1 := ⟨k - 1, by omega⟩
        have e0 : ((q + 1 : Nat) : Int) - 1 = (q : Int) := by omega
        rw [e0]
        have g1 : wr.cell? ⟨b1, o1 + q, none⟩ = some (.int .u16 (d q)) := (hbl.cell (p := ⟨b1, o1 + q, none⟩) hb1).trans (hc1 q (by omega))
        have g2 : wr.cell? ⟨b2, o2 + q, none⟩ = some (.int .u16 (e q)) := (hbl.cell (p := ⟨b2, o2 + q, none⟩) hb2).trans (hc2 q (by omega))
        have gq : (q : Int) < (n : Int) := by omega
        have Hcm := hide hcm
        clear hcm e0 ha hc hc1 hc2
        by_cases hlt : d q < e q
        · have t1 : (d q != e q) = true := by rw [bne_iff_ne]; omega
          go_wp2
          go_quiet (fail)
          go_wp2
          go_quiet (fail)
          go_wp2
          go_ret
          exact ⟨by simp [cmpZ, unhide Hcm, cmpTo, hlt], below_drewN (below_drewN hbl _) _⟩
        · by_cases hgt : e q < d q
          · have t1 : (d q != e q) = true := by rw [bne_iff_ne]; omega
            go_wp2
            go_quiet (fail)
            go_wp2
            go_quiet (fail)
            go_wp2
            go_ret
            exact ⟨by simp [cmpZ, unhide Hcm, cmpTo, hlt, hgt], below_drewN (below_drewN hbl _) _⟩
          · have t1 : (d q != e q) = false := by rw [bne_eq_false_iff_eq]; omega
            have Hn := hide (show cmpTo d e (q + 1) = cmpTo d e q by simp [cmpTo, hlt, hgt])
            go_wp2
            go_quiet (fail)
            go_wp2
            go_roundw
            case rel => exact ⟨q, by omega, by go_num, by rw [unhide Hcm, unhide Hn], below_drewN hbl _⟩
            case measure => simp [intOf]; try omega
  · have hz : ((n : Int) != m) = true := by rw [bne_iff_ne]; omega
    by_cases hlt : n < m
    · have hlt' : (n : Int) < m := by omega
      go_enter Try.func59, Try.ntmps59
      go_wp2
      go_ret
      exact ⟨by simp [cmpZ, hlt], Below.refl _ _⟩
    · have hlt' : ¬ (n : Int) < m := by omega
      go_enter Try.func59, Try.ntmps59
      go_wp2
      go_ret
      have hgt : m < n := by omega
      exact ⟨by simp [cmpZ, hlt, hgt], Below.refl _ _⟩
def cmpI (neg neg2 : Bool) (d e : Nat → Int) (n m : Nat) : Int :=
  if neg != neg2 then (if neg then -1 else 1) else if neg then - cmpZ d e n m else cmpZ d e n m
theorem cmpTo_bd (d e : Nat → Int) (n : Nat) : -1 ≤ cmpTo d e n ∧ cmpTo d e n ≤ 1 := by
  induction n with
  | zero => simp [cmpTo]
  | succ n ih => simp only [cmpTo]; split <;> (try split) <;> omega
theorem cmpZ_bd (d e : Nat → Int) (n m : Nat) : -1 ≤ cmpZ d e n m ∧ cmpZ d e n m ≤ 1 := by
  have := cmpTo_bd d e n
  unfold cmpZ; split <;> (try split) <;> omega
set_option maxHeartbeats 400000 in
theorem cmp_any (neg neg2 : Bool) (a c : Option Addr) (n m cap cap2 : Nat) (d e : Nat → Int) (w : World) (ha : Dig w a n cap d) (hc : Dig w c m cap2 e) :
    Calls Try.prog 24 #[.agg #[.bool neg, .slice a n cap], .agg #[.bool neg2, .slice c m cap2]] w fun r w' => r = .returned (.int .i64 (cmpI neg neg2 d e n m)) ∧ Below w.heap.size w w' := by
  have hbd := cmpZ_bd d e n m
  obtain ⟨b1, b2⟩ := hbd
  cases neg <;> cases neg2
  all_goals
    go_enter Try.func24, Try.ntmps24
    go_wp2_with (go_at_call 59; refine (compare_any _ _ _ _ _ _ d e _ (ha.below (bl2 _ _ _)) (hc.below (bl2 _ _ _))).mono ?_; rintro r w' ⟨rfl, hb⟩)
    go_ret
    first | exact ⟨by simp [cmpI], bthen (bl2 _ _ _) ‹_›⟩ | exact ⟨by simp [cmpI], bl2 _ _ _⟩
set_option maxHeartbeats 400000 in
theorem len_any (neg : Bool) (a : Option Addr) (n cap : Nat) (d : Nat → Int) (w : World) (ha : Dig w a n cap d) :
    Calls Try.prog 97 #[.agg #[.bool neg, .slice a n cap]] w fun r w' => r = .returned (.int .i64 (lenZ n d)) ∧ Below w.heap.size w w' := by
  have hr := ha.room
  have hl := ha.le
  by_cases hn : n = 0
  · subst hn
    go_enter Try.func97, Try.ntmps97
    go_wp2
    go_ret
    exact ⟨by simp [lenZ], (Below.refl _ _).alloc (Nat.le_refl _) _⟩
  · have hz : ((n : Int) == 0) = false := by simp; omega
    obtain ⟨b, off, rfl, hb, hc⟩ := ha.at_ (by omega)
    have hc1 := hc (n - 1) (by omega)
    have hi : ((n : Int) - 1) = ((n - 1 : Nat) : Int) := by omega
    go_enter Try.func97, Try.ntmps97
    go_wp2
    go_loop [4, 5] (fun k x => ∃ (f j : Nat) (y : Int), j + f = 16 ∧ k = .int .i64 j ∧ x = .int .u16 y ∧ 0 ≤ y ∧ y < Q f ∧ j + blenF f y = blenF 16 (d (n - 1))) (fun _ x => (intOf x).toNat)
    case atStart => exact ⟨16, 0, _, rfl, rfl, rfl, (ha.dgs _).1, (ha.dgs _).2, by simp⟩
    case round =>
      obtain ⟨f, j, y, hf, rfl, rfl, hy0, hyf, hbl⟩ := hrel
      by_cases hy : y = 0
      · subst hy
        have hb0 : blenF f 0 = 0 := by cases f <;> simp [blenF]
        have HB := hide (show (j : Int) = blenF 16 (d (n - 1)) by omega)
        clear hbl
        go_wp2
        go_ret
        exact ⟨by simp [lenZ, hn, ← unhide HB]; omega, bl1 _ _⟩
      · have hpos : 0 < y := by omega
        match f, hf, hyf, hbl with
        | 0, _, hyf, _ => simp [Q] at hyf; omega
        | f + 1, hf, hyf, hbl =>
        have Hb2 := hide (show (j : Int) + 1 + blenF f (y / 2) = blenF 16 (d (n - 1)) by rw [← hbl]; simp [blenF, show ¬ y ≤ 0 by omega]; omega)
        have hyf2 : y < 2 * Q f := hyf
        have hy3 : y / 2 < Q f := by omega
        clear hbl hyf hyf2
        go_wp2
        go_round
        case rel => exact ⟨f, j + 1, y / 2, by omega, by go_num, by go_num, by omega, hy3, by have := unhide Hb2; omega⟩
        case measure => simp [intOf]; try omega
end Go.Proofs.Ytgmnknmjainabab
