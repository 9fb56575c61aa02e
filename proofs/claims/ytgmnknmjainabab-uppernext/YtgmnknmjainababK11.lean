/-
  Texts GamB, GamC, GamD, DivB, DivC: what they hold is told in the last text.
-/
import Derived.Test.YtgmnknmjainababK10
set_option linter.unnecessarySimpa false
set_option linter.unusedSimpArgs false
set_option linter.unusedVariables false
namespace Go.Proofs.Ytgmnknmjainabab.Ex
def Lns (L : Rat → Nat → Rat) : Prop := ∀ x, 0 < x → IsLog (L x) (fun _ => x)
def pr (L : Rat → Nat → Rat) (c x : Rat) (M : Nat) : Rat := Ev (fun M => c * L x M) M
theorem pr_arg {L : Rat → Nat → Rat} (hL : Lns L) {x : Rat} (hx : 0 < x) (c : Rat) : Bdd (fun M => c * L x M) := (Bdd.const c).mul (hL x hx).1
theorem pr_bdd {L : Rat → Nat → Rat} (hL : Lns L) {x : Rat} (hx : 0 < x) (c : Rat) : Bdd (pr L c x) := Ev_bdd (pr_arg hL hx c)
theorem pr_nn {L : Rat → Nat → Rat} (hL : Lns L) {x : Rat} (hx : 0 < x) (c : Rat) : Nn (pr L c x) := Ev_nn (pr_arg hL hx c)
theorem pr_add {L : Rat → Nat → Rat} (hL : Lns L) {x : Rat} (hx : 0 < x) (c d : Rat) : Null (fun M => pr L c x M * pr L d x M - pr L (c + d) x M) := by
  have h := Ev_add (pr_arg hL hx c) (pr_arg hL hx d)
  refine h.of_eq fun M => ?_
  have e : Ev (fun M => c * L x M + d * L x M) M = pr L (c + d) x M := by unfold pr Ev; congr 1; grind
  rw [e]; rfl
theorem pr_one {L : Rat → Nat → Rat} (hL : Lns L) {x : Rat} (hx : 0 < x) : Null (fun M => pr L 1 x M - x) := by
  refine (hL x hx).2.of_eq fun M => ?_
  show E (1 * L x M) M - x = E (L x M) M - x
  rw [Rat.one_mul]
theorem log_quot {L : Rat → Nat → Rat} (hL : Lns L) {x r : Rat} (hx : 0 < x) (hr : 0 < r) : IsLog (fun M => L (x * r) M - L x M) (fun _ => r) := by
  have h1 := hL (x * r) (Rat.mul_pos hx hr)
  have d := rdm (a := 1) hx
  have h2 := (hL x hx).neg (s := fun _ => 1 / x) (Bdd.const _) 0 (fun M _ => d)
  have h3 := h1.add h2
  have e : (fun (_ : Nat) => x * r * (1 / x)) = fun _ => r := by funext _; have : x * r * (1 / x) = 1 / x * x * r := by grind
                                                                 rw [this, d]; grind
  rw [e] at h3
  have e2 : (fun M => L (x * r) M + -L x M) = fun M => L (x * r) M - L x M := by funext M; grind
  rw [e2] at h3
  exact h3
theorem E_two {h : Rat} (hb : AB h (1 / 4)) {M : Nat} (hM : 2 ≤ M) : AB (E h M - 1 - h) (2 * (h * h)) := by
  by_cases c : 0 ≤ h
  · exact E_little2 (b := h) ⟨by grind, Rat.le_refl⟩ hb.2 hM
  · have := E_little2 (h := h) (b := -h) ⟨by grind, by grind⟩ (by have := hb.1; grind) hM
    have e : -h * -h = h * h := by grind
    rw [e] at this
    exact this
theorem isLog_const (c : Rat) : IsLog (fun _ => c) (ex c) := ⟨Bdd.const c, null_zero.of_eq fun M => by unfold ex; grind⟩
theorem dlog_low {d : Nat → Rat} {u : Rat} (h : IsLog d (fun _ => 1 + u)) (hu : AB u (1 / 16)) : LeN (fun _ => u - 4 * (u * u)) d := by
  have uu := sq_nonneg u
  have a1 : u * u ≤ 1 / 256 := by
    by_cases c : 0 ≤ u
    · have := Rat.mul_le_mul_of_nonneg_left hu.2 c; have := hu.2; grind
    · have := Rat.mul_le_mul_of_nonneg_left (show -u ≤ 1 / 16 by have := hu.1; grind) (show 0 ≤ -u by grind); have := hu.1; grind
  intro e he
  have hb : AB (u - 4 * (u * u)) (1 / 4) := ⟨by have := hu.1; grind, by have := hu.2; grind⟩
  refine (isLog_const (u - 4 * (u * u))).le h null_zero 2 (fun M hM => ?_) e he
  have k := (E_two hb (M := M) hM).2
  show E (u - 4 * (u * u)) M ≤ 1 + u + 0
  have q : (u - 4 * (u * u)) * (u - 4 * (u * u)) = u * u * ((1 - 4 * u) * (1 - 4 * u)) := by grind
  have r : (1 - 4 * u) * (1 - 4 * u) ≤ 2 := by have := hu.1; grind
  have m := Rat.mul_le_mul_of_nonneg_left r uu
  grind
theorem pr_tan {L : Rat → Nat → Rat} (hL : Lns L) {a x u : Rat} (ha : 0 ≤ a) (hx : 0 < x) (hu : AB u (1 / 16)) (hau : AB (a * u) (1 / 8)) : LeN (fun M => (1 + a * u - (4 * a + 4 * (a * a)) * (u * u)) * pr L a x M) (pr L a (x * (1 + u))) := by
  have r0 : 0 < 1 + u := by have := hu.1; grind
  have hd := log_quot hL hx r0
  have low := dlog_low hd hu
  obtain ⟨z, hz, kz⟩ := (low.cmul ha).null
  have bd : Bdd (fun M => a * (L (x * (1 + u)) M - L x M)) := (Bdd.const a).mul hd.1
  obtain ⟨v, hv, N, kv⟩ := Ev_mono (x := fun _ => a * (u - 4 * (u * u))) (Bdd.const _) bd hz 0 (fun M _ => kz M)
  have uu := sq_nonneg u
  have hb : AB (a * (u - 4 * (u * u))) (1 / 4) := by
    have e : a * (u - 4 * (u * u)) = a * u * (1 - 4 * u) := by grind
    rw [e]
    exact (hau.mul (show AB (1 - 4 * u) 2 from ⟨by have := hu.2; grind, by have := hu.1; grind⟩)).mono (by grind)
  have l1 : LeN (fun _ => 1 + a * u - (4 * a + 4 * (a * a)) * (u * u)) (Ev (fun M => a * (L (x * (1 + u)) M - L x M))) := by
    refine LeN.of_null hv (N + 2) fun M hM => ?_
    have k := (E_two hb (M := M) (by omega)).1
    have k2 := kv M (by omega)
    have e2 : Ev (fun _ => a * (u - 4 * (u * u))) M = E (a * (u - 4 * (u * u))) M := rfl
    rw [e2] at k2
    have q : a * (u - 4 * (u * u)) * (a * (u - 4 * (u * u))) = a * a * (u * u) * ((1 - 4 * u) * (1 - 4 * u)) := by grind
    have r : (1 - 4 * u) * (1 - 4 * u) ≤ 2 := by
      have a1 : u * u ≤ 1 / 256 := by
        by_cases c : 0 ≤ u
        · have := Rat.mul_le_mul_of_nonneg_left hu.2 c; have := hu.2; grind
        · have := Rat.mul_le_mul_of_nonneg_left (show -u ≤ 1 / 16 by have := hu.1; grind) (show 0 ≤ -u by grind); have := hu.1; grind
      have := hu.1; grind
    have m := Rat.mul_le_mul_of_nonneg_left r (Rat.mul_nonneg (Rat.mul_nonneg ha ha) uu)
    rw [q] at k
    generalize a * a * (u * u) * ((1 - 4 * u) * (1 - 4 * u)) = w at *
    generalize Ev (fun M => a * (L (x * (1 + u)) M - L x M)) M = w2 at *
    generalize E (a * (u - 4 * (u * u))) M = w3 at *
    grind
  refine (l1.bmul (pr_bdd hL hx a) (pr_nn hL hx a)).trans ?_
  have s := Ev_add bd (pr_arg hL hx a)
  refine LeN.of_eqN (s.of_eq fun M => ?_)
  have e : Ev (fun M => a * (L (x * (1 + u)) M - L x M) + a * L x M) M = pr L a (x * (1 + u)) M := by unfold pr Ev; congr 1; grind
  rw [e]; rfl
theorem ex_tan {x u : Rat} (hu : AB (x * u) (1 / 4)) : LeN (fun M => (1 - x * u - 2 * (x * x) * (u * u)) * ex (-x) M) (ex (-(x * (1 + u)))) := by
  have l1 : LeN (fun _ => 1 - x * u - 2 * (x * x) * (u * u)) (ex (-(x * u))) := LeN.of_le 2 fun M hM => by
    have k := (E_two (h := -(x * u)) hu.neg hM).1
    show _ ≤ E (-(x * u)) M
    grind
  refine (l1.bmul (ex_bdd _) (ex_nn _)).trans ?_
  have s := ex_add (-(x * u)) (-x)
  refine LeN.of_eqN (s.of_eq fun M => ?_)
  have e : -(x * u) + -x = -(x * (1 + u)) := by grind
  rw [e]
def uG (L : Rat → Nat → Rat) (a x : Rat) (M : Nat) : Rat := pr L a x M * ex (-x) M * uS a x M
theorem tan_poly {a x u s c q1 q2 q3 : Rat} (h1 : q1 = 1 + a * u - c * (u * u)) (h2 : q2 = 1 - x * u - 2 * (x * x) * (u * u)) (h3 : q3 = s + u * (1 + x * s - a * s)) : q1 * q2 * q3 - (s + u) = u * u * ((a - x) * (1 + x * s - a * s) + (-(a * x) - 2 * (x * x) - c + u * (c * x - 2 * (a * (x * x))) + u * u * (2 * (c * (x * x)))) * q3) := by
  rw [h1, h2, h3]; grind
theorem tan_bound {a x u s c Y K : Rat} (ha : 0 ≤ a) (hc : 0 ≤ c) (hx : AB x Y) (hs : AB s K) (hu : AB u 1) : AB ((a - x) * (1 + x * s - a * s) + (-(a * x) - 2 * (x * x) - c + u * (c * x - 2 * (a * (x * x))) + u * u * (2 * (c * (x * x)))) * (s + u * (1 + x * s - a * s))) ((a + Y) * (1 + Y * K + a * K) + (a * Y + 2 * (Y * Y) + c + 1 * (c * Y + 2 * (a * (Y * Y))) + 1 * 1 * (2 * (c * (Y * Y)))) * (K + 1 * (1 + Y * K + a * K))) := by
  have A : AB a a := ⟨by grind, Rat.le_refl⟩
  have C : AB c c := ⟨by grind, Rat.le_refl⟩
  have one : AB (1 : Rat) 1 := ⟨by grind, Rat.le_refl⟩
  have two : AB (2 : Rat) 2 := ⟨by grind, Rat.le_refl⟩
  have p1 := (one.add (hx.mul hs)).sub (A.mul hs)
  have p2 := (((((A.mul hx).neg.sub (two.mul (hx.mul hx))).sub C).add (hu.mul ((C.mul hx).sub (two.mul (A.mul (hx.mul hx)))))).add ((hu.mul hu).mul (two.mul (C.mul (hx.mul hx)))))
  exact ((A.sub hx).mul p1).add (p2.mul (hs.add (hu.mul p1)))
theorem shift_null {f : Nat → Rat} (h : Null f) : Null (fun M => f (M - 1)) := fun e he => by
  obtain ⟨N, hN⟩ := h e he
  exact ⟨N + 1, fun M hM => hN (M - 1) (by omega)⟩
theorem uS_tanN {a x u : Rat} (ha : 0 < a) (hx : 0 ≤ x) (hu : -1 ≤ u) : LeN (fun M => uS a x M + u * (1 + x * uS a x M - a * uS a x M)) (uS a (x * (1 + u))) := by
  have z := (shift_null (upT_null ha hx)).bmul (Bdd.const (u * x))
  refine LeN.of_null z 1 fun M hM => ?_
  obtain ⟨m, rfl⟩ : ∃ m, M = m + 1 := ⟨M - 1, by omega⟩
  have t := uS_tan ha hx hu m
  have e : uS a x (m + 1) = uS a x m + upT a x m := rfl
  simp only [Nat.add_sub_cancel]
  have e2 : uS a x m = uS a x (m + 1) - upT a x m := by grind
  rw [e2] at t
  grind
theorem uG_tan {L : Rat → Nat → Rat} (hL : Lns L) {a Y : Rat} (ha : 0 < a) (hY : 0 < Y) : ∃ C D, 0 ≤ C ∧ 0 < D ∧ D ≤ 1 / 16 ∧ ∀ x u, 0 < x → x ≤ Y → AB u D → LeN (fun M => uG L a x M + u * (pr L a x M * ex (-x) M)) (fun M => uG L a (x * (1 + u)) M + C * (u * u)) := by
  obtain ⟨K, k0, hK⟩ := uS_bdd ha (Rat.le_of_lt hY)
  obtain ⟨V, N0, v0, hV⟩ := pr_bdd hL hY a
  obtain ⟨c, hc⟩ : ∃ c, c = 4 * a + 4 * (a * a) := ⟨_, rfl⟩
  have a0 := Rat.le_of_lt ha
  have aa := Rat.mul_nonneg a0 a0
  have y0 := Rat.le_of_lt hY
  have c0 : 0 ≤ c := by grind
  obtain ⟨C1, hC1⟩ : ∃ C1, C1 = (a + Y) * (1 + Y * K + a * K) + (a * Y + 2 * (Y * Y) + c + 1 * (c * Y + 2 * (a * (Y * Y))) + 1 * 1 * (2 * (c * (Y * Y)))) * (K + 1 * (1 + Y * K + a * K)) := ⟨_, rfl⟩
  have D0 : 0 < 16 * (1 + a + Y) := by grind
  have dm := rdm (a := 1) D0
  have dp : 0 < 1 / (16 * (1 + a + Y)) := rdiv_pos (by grind) D0
  obtain ⟨D, hD⟩ : ∃ D, D = 1 / (16 * (1 + a + Y)) := ⟨_, rfl⟩
  rw [← hD] at dm dp
  have Da := Rat.mul_nonneg (Rat.le_of_lt dp) a0
  have Dy := Rat.mul_nonneg (Rat.le_of_lt dp) y0
  have C10 : 0 ≤ C1 := by
    have := (tan_bound (x := 0) (u := 0) (s := 0) (Y := Y) (K := K) a0 c0 ⟨by grind, y0⟩ ⟨by grind, k0⟩ ⟨by grind, by grind⟩).nonneg
    rw [hC1]; exact this
  refine ⟨C1 * ((V + 1) * 2), D, Rat.mul_nonneg C10 (by grind), dp, by grind, fun x u hx hxY hu => ?_⟩
  have D16 : D ≤ 1 / 16 := by grind
  have u16 : AB u (1 / 16) := hu.mono D16
  have au : AB (a * u) (1 / 8) := ((show AB a a from ⟨by grind, Rat.le_refl⟩).mul hu).mono (by grind)
  have x0 := Rat.le_of_lt hx
  have xu : AB (x * u) (1 / 4) := ((show AB x Y from ⟨by grind, hxY⟩).mul hu).mono (by grind)
  have r0 : 0 < 1 + u := by have := u16.1; grind
  have hx' : 0 < x * (1 + u) := Rat.mul_pos hx r0
  have l1 := pr_tan hL a0 hx u16 au
  have l2 := ex_tan xu
  have l3 := uS_tanN ha x0 (show -1 ≤ u by have := u16.1; grind)
  obtain ⟨q1, h1⟩ : ∃ q1, q1 = 1 + a * u - c * (u * u) := ⟨_, rfl⟩
  obtain ⟨q2, h2⟩ : ∃ q2, q2 = 1 - x * u - 2 * (x * x) * (u * u) := ⟨_, rfl⟩
  rw [← hc, ← h1] at l1
  rw [← h2] at l2
  have uu16 : u * u ≤ 1 / 16 * (1 / 16) := (u16.mul u16).2
  have q20 : 0 ≤ q2 := by
    have := (xu.mul xu).2
    have := xu.2
    grind
  have l12 := l1.mul l2 ((Bdd.const q2).mul (ex_bdd (-x))) ((Nn.const q20).mul (ex_nn (-x))) (pr_bdd hL hx' a) (pr_nn hL hx' a)
  have sB := uS_Bdd ha x0
  have q3B : Bdd (fun M => uS a x M + u * (1 + x * uS a x M - a * uS a x M)) := sB.add ((Bdd.const u).mul (((Bdd.const 1).add ((Bdd.const x).mul sB)).sub ((Bdd.const a).mul sB)))
  have q3n : Nn (fun M => uS a x M + u * (1 + x * uS a x M - a * uS a x M)) := ⟨1, fun M hM => by
    obtain ⟨m, rfl⟩ : ∃ m, M = m + 1 := ⟨M - 1, by omega⟩
    have f := uS_first ha x0 m
    have d := rdm (a := 1) ha
    have s1 : 1 ≤ a * uS a x (m + 1) := by
      have := Rat.mul_le_mul_of_nonneg_left f a0
      grind
    show 0 ≤ uS a x (m + 1) + u * (1 + x * uS a x (m + 1) - a * uS a x (m + 1))
    generalize uS a x (m + 1) = s at *
    have s0 : 0 ≤ s := by have := qle_div (a := 0) (b := 1) ha (by grind); grind
    have t1 := Rat.mul_le_mul_of_nonneg_right (xu.1) s0
    have t2 := Rat.mul_le_mul_of_nonneg_right (au.2) s0
    have t3 : -(1 / 2) * s ≤ u := by
      have m1 := Rat.mul_le_mul_of_nonneg_right au.1 s0
      by_cases cu : 0 ≤ u
      · grind
      · have := Rat.mul_le_mul_of_nonneg_left s1 (show 0 ≤ -u by grind)
        grind
    grind⟩
  have px : Bdd (fun M => pr L a (x * (1 + u)) M * ex (-(x * (1 + u))) M) := (pr_bdd hL hx' a).mul (ex_bdd _)
  have pn : Nn (fun M => pr L a (x * (1 + u)) M * ex (-(x * (1 + u))) M) := (pr_nn hL hx' a).mul (ex_nn _)
  have l := l12.mul l3 q3B q3n px pn
  have pmono : LeN (pr L a x) (pr L a Y) := by
    have le := fun e he => (hL x hx).le (hL Y hY) null_zero 0 (fun M _ => by grind) e he
    have lz : LeN (fun M => a * L x M) (fun M => a * L Y M) := LeN.cmul le a0
    obtain ⟨z, hz, kz⟩ := lz.null
    obtain ⟨v, hv, N, kv⟩ := Ev_mono (pr_arg hL hx a) (pr_arg hL hY a) hz 0 (fun M _ => kz M)
    exact LeN.of_null hv N kv
  obtain ⟨N1, n1⟩ := pmono 1 (by grind)
  obtain ⟨N2, n2⟩ := (ex_mono (a := -x) (b := 0) (by grind)) (1 / 2) (by grind)
  obtain ⟨N3, n3⟩ := pr_nn hL hx a
  obtain ⟨N4, n4⟩ := ex_nn (-x)
  refine LeN.trans (LeN.of_le (N0 + N1 + N2 + N3 + N4 + 2) fun M hM => ?_) (l.add (LeN.refl fun _ => C1 * ((V + 1) * 2) * (u * u)))
  have a1 := n1 M (by omega)
  have a2 := n2 M (by omega)
  have a3 := n3 M (by omega)
  have a4 := n4 M (by omega)
  have a5 := (hV M (by omega)).2
  have e0 : ex 0 M = 1 := by
    obtain ⟨m, rfl⟩ : ∃ m, M = m + 1 := ⟨M - 1, by omega⟩
    exact E_zero m
  rw [e0] at a2
  have sK : AB (uS a x M) K := ⟨by have := uS_nonneg ha x0 M; grind, Rat.le_trans (uS_mono ha x0 hxY M) (hK M)⟩
  have tb := tan_bound (x := x) (u := u) (s := uS a x M) (Y := Y) (K := K) a0 c0 ⟨by grind, hxY⟩ sK (hu.mono (by grind))
  rw [← hC1] at tb
  have tp := tan_poly (a := a) (x := x) (u := u) (s := uS a x M) (c := c) h1 h2 rfl
  have uu := sq_nonneg u
  have m1 := Rat.mul_le_mul_of_nonneg_left tb.1 uu
  have pX := Rat.mul_nonneg a3 a4
  have pV : pr L a x M * ex (-x) M ≤ (V + 1) * 2 := Rat.le_trans (Rat.mul_le_mul_of_nonneg_right (show pr L a x M ≤ V + 1 by grind) a4) (Rat.mul_le_mul_of_nonneg_left (by grind) (by grind))
  have key : uS a x M + u ≤ q1 * q2 * (uS a x M + u * (1 + x * uS a x M - a * uS a x M)) + C1 * (u * u) := by
    rw [← tp] at m1
    grind
  have m2 := Rat.mul_le_mul_of_nonneg_right key pX
  have m3 := Rat.mul_le_mul_of_nonneg_left pV (Rat.mul_nonneg C10 uu)
  show uG L a x M + u * (pr L a x M * ex (-x) M) ≤ _
  unfold uG
  generalize uS a x M + u * (1 + x * uS a x M - a * uS a x M) = q3 at *
  clear tb tp m1 key l l1 l2 l3 l12 q3B q3n px pn pmono hC1 h1 h2 hc
  generalize uS a x M = s at *
  generalize pr L a x M = p at *
  generalize ex (-x) M = xx at *
  have r1 : q1 * p * (q2 * xx) * q3 = q1 * q2 * q3 * (p * xx) := by grind
  rw [r1]
  have r2 : (s + u) * (p * xx) = p * xx * s + u * (p * xx) := by grind
  have r3 : (q1 * q2 * q3 + C1 * (u * u)) * (p * xx) = q1 * q2 * q3 * (p * xx) + C1 * (u * u) * (p * xx) := by grind
  rw [r2, r3] at m2
  have r4 : C1 * ((V + 1) * 2) * (u * u) = C1 * (u * u) * ((V + 1) * 2) := by grind
  rw [r4]
  exact Rat.le_trans m2 (Rat.add_le_add_left.2 m3)
end Go.Proofs.Ytgmnknmjainabab.Ex
namespace Go.Proofs.Ytgmnknmjainabab.Ex
theorem div_eq_mul {h t : Rat} (ht : 0 < t) : t * (1 + h / t) = t + h := by
  have := rdm (a := h) ht
  have e : t * (1 + h / t) = t + h / t * t := by grind
  rw [e, this]
theorem div_bd {h t x i : Rat} (hh : 0 ≤ h) (ht : x ≤ t) (t0 : 0 < t) (i0 : 0 ≤ i) (ix : i * x = 1) : h / t ≤ h * i := by
  refine qdiv_le t0 ?_
  have m := Rat.mul_le_mul_of_nonneg_left ht (Rat.mul_nonneg hh i0)
  have e : h * i * x = h * (i * x) := by grind
  rw [e, ix] at m
  grind
theorem mul_bd {h x i D : Rat} (i0 : 0 ≤ i) (ix : i * x = 1) (h1 : h ≤ D * x) : h * i ≤ D := by
  have m := Rat.mul_le_mul_of_nonneg_right h1 i0
  have e : D * x * i = D * (i * x) := by grind
  rw [e, ix] at m
  grind
theorem uG_mono {L : Rat → Nat → Rat} (hL : Lns L) {a x y : Rat} (ha : 0 < a) (hx : 0 < x) (hxy : x ≤ y) : LeN (uG L a x) (uG L a y) := by
  obtain ⟨C, D, C0, D0, D16, tan⟩ := uG_tan hL ha (show 0 < y by grind)
  have ix := rdm (a := 1) hx
  have ip : 0 < 1 / x := rdiv_pos (by grind) hx
  obtain ⟨i, hi⟩ : ∃ i, i = 1 / x := ⟨_, rfl⟩
  rw [← hi] at ix ip
  have key := descend (f := fun t M => -uG L a t M) (a := x) (b := y) (C := C * (i * i)) (D := D * x) hxy (Rat.mul_nonneg C0 (sq_nonneg i)) (Rat.mul_pos D0 hx) (fun t h ht hh hD hb => by
    have t0 : 0 < t := by grind
    have um := rdm (a := h) t0
    have u0 : 0 < h / t := rdiv_pos hh t0
    have uh : h / t ≤ h * i := div_bd (Rat.le_of_lt hh) ht t0 (Rat.le_of_lt ip) ix
    have hiD : h * i ≤ D := mul_bd (Rat.le_of_lt ip) ix hD
    have l := tan t (h / t) t0 (by grind) ⟨by grind, by grind⟩
    rw [div_eq_mul t0] at l
    obtain ⟨z, hz, kz⟩ := l.null
    obtain ⟨N, hN⟩ := (pr_nn hL t0 a).mul (ex_nn (-t))
    refine ⟨z, hz, N, fun M hM => ?_⟩
    have k := kz M
    have n := Rat.mul_nonneg (Rat.le_of_lt u0) (hN M hM)
    have m1 := Rat.mul_le_mul_of_nonneg_left uh (Rat.le_of_lt u0)
    have m2 := Rat.mul_le_mul_of_nonneg_right uh (Rat.mul_nonneg (Rat.le_of_lt hh) (Rat.le_of_lt ip))
    have m3 := Rat.mul_le_mul_of_nonneg_left (show h / t * (h / t) ≤ h * i * (h * i) by grind) C0
    simp only [] at k n
    have e : C * (h * i * (h * i)) = C * (i * i) * (h * h) := by grind
    rw [e] at m3
    generalize C * (h / t * (h / t)) = w1 at *
    generalize C * (i * i) * (h * h) = w2 at *
    generalize h / t * (pr L a t M * ex (-t) M) = w3 at *
    grind)
  intro e he
  obtain ⟨N, k⟩ := key e he
  exact ⟨N, fun M hM => by have := k M hM; simp only [] at this; grind⟩
def uE (L : Rat → Nat → Rat) (a x : Rat) (M : Nat) : Rat := pr L (a - 1) x M * ex (-x) M
theorem uE_bdd {L : Rat → Nat → Rat} (hL : Lns L) {x : Rat} (hx : 0 < x) (a : Rat) : Bdd (uE L a x) := (pr_bdd hL hx _).mul (ex_bdd _)
theorem uE_nn {L : Rat → Nat → Rat} (hL : Lns L) {x : Rat} (hx : 0 < x) (a : Rat) : Nn (uE L a x) := (pr_nn hL hx _).mul (ex_nn _)
theorem uG_bdd {L : Rat → Nat → Rat} (hL : Lns L) {a x : Rat} (ha : 0 < a) (hx : 0 < x) : Bdd (uG L a x) := ((pr_bdd hL hx _).mul (ex_bdd _)).mul (uS_Bdd ha (Rat.le_of_lt hx))
theorem uE_mul {L : Rat → Nat → Rat} (hL : Lns L) {x : Rat} (hx : 0 < x) (a : Rat) : Null (fun M => x * uE L a x M - pr L a x M * ex (-x) M) := by
  have h1 := pr_add hL hx (a - 1) 1
  have h2 := (pr_one hL hx).bmul (pr_bdd hL hx (a - 1))
  have e : a - 1 + 1 = a := by grind
  rw [e] at h1
  refine ((h1.sub h2).bmul (ex_bdd (-x))).of_eq fun M => ?_
  unfold uE
  grind
theorem pr_neg_mono {L : Rat → Nat → Rat} (hL : Lns L) {c x y : Rat} (hc : c ≤ 0) (hx : 0 < x) (hxy : x ≤ y) : LeN (pr L c y) (pr L c x) := by
  have hy : 0 < y := by grind
  have le : LeN (L x) (L y) := fun e he => (hL x hx).le (hL y hy) null_zero 0 (fun M _ => by grind) e he
  obtain ⟨z, hz, kz⟩ := (le.cmul (c := -c) (by grind)).null
  obtain ⟨v, hv, N, kv⟩ := Ev_mono (pr_arg hL hy c) (pr_arg hL hx c) hz 0 (fun M _ => by have := kz M; grind)
  exact LeN.of_null hv N kv
theorem uE_step {L : Rat → Nat → Rat} (hL : Lns L) {a t h : Rat} (ha1 : a ≤ 1) (ht : 0 < t) (hh : 0 ≤ h) : LeN (fun M => (1 + h) * uE L a (t + h) M) (uE L a t) := by
  have l1 := pr_neg_mono hL (c := a - 1) (by grind) ht (show t ≤ t + h by grind)
  have l2 : LeN (fun M => (1 + h) * ex (-(t + h)) M) (ex (-t)) := by
    have l : LeN (fun _ => 1 + h) (ex h) := LeN.of_le 2 fun M hM => E_one1 hh hM
    refine (l.bmul (ex_bdd (-(t + h))) (ex_nn _)).trans ?_
    have s := ex_add h (-(t + h))
    refine LeN.of_eqN (s.of_eq fun M => ?_)
    have e : h + -(t + h) = -t := by grind
    rw [e]
  have l := l1.mul l2 ((Bdd.const (1 + h)).mul (ex_bdd _)) ((Nn.const (by grind)).mul (ex_nn _)) (pr_bdd hL ht _) (pr_nn hL ht _)
  refine LeN.trans (LeN.of_le 0 fun M _ => ?_) l
  unfold uE
  generalize pr L (a - 1) (t + h) M = p
  generalize ex (-(t + h)) M = q
  grind
theorem uGE_anti {L : Rat → Nat → Rat} (hL : Lns L) {a x y : Rat} (ha : 0 < a) (ha1 : a ≤ 1) (hx : 0 < x) (hxy : x ≤ y) : LeN (fun M => uG L a y M + uE L a y M) (fun M => uG L a x M + uE L a x M) := by
  obtain ⟨C, D, C0, D0, D16, tan⟩ := uG_tan hL ha (show 0 < y by grind)
  have ix := rdm (a := 1) hx
  have ip : 0 < 1 / x := rdiv_pos (by grind) hx
  obtain ⟨i, hi⟩ : ∃ i, i = 1 / x := ⟨_, rfl⟩
  rw [← hi] at ix ip
  refine descend (f := fun t M => uG L a t M + uE L a t M) (a := x) (b := y) (C := C * (i * i)) (D := D * x) hxy (Rat.mul_nonneg C0 (sq_nonneg i)) (Rat.mul_pos D0 hx) (fun t h ht hh hD hb => ?_)
  have t0 : 0 < t := by grind
  obtain ⟨s, hs⟩ : ∃ s, s = t + h := ⟨_, rfl⟩
  have s0 : 0 < s := by grind
  have vm := rdm (a := h) s0
  have v0 : 0 < h / s := rdiv_pos hh s0
  have vh : h / s ≤ h * i := div_bd (Rat.le_of_lt hh) (show x ≤ s by grind) s0 (Rat.le_of_lt ip) ix
  have hiD : h * i ≤ D := mul_bd (Rat.le_of_lt ip) ix hD
  have l := tan s (-(h / s)) s0 (by grind) ⟨by grind, by grind⟩
  have e1 : s * (1 + -(h / s)) = t := by
    have : s * (1 + -(h / s)) = s - h / s * s := by grind
    rw [this, vm]; grind
  rw [e1] at l
  have l2 := uE_step hL ha1 t0 (Rat.le_of_lt hh)
  rw [← hs] at l2
  obtain ⟨z, hz, kz⟩ := (l.add l2).null
  have n := (uE_mul hL s0 a).bmul (Bdd.const (h / s))
  refine ⟨_, hz.add n.neg, 0, fun M _ => ?_⟩
  have k := kz M
  rw [← hs]
  have m1 := Rat.mul_le_mul_of_nonneg_left vh (Rat.le_of_lt v0)
  have m2 := Rat.mul_le_mul_of_nonneg_right vh (Rat.mul_nonneg (Rat.le_of_lt hh) (Rat.le_of_lt ip))
  have m3 := Rat.mul_le_mul_of_nonneg_left (show h / s * (h / s) ≤ h * i * (h * i) by grind) C0
  have e : C * (h * i * (h * i)) = C * (i * i) * (h * h) := by grind
  rw [e] at m3
  have e2 : -(h / s) * -(h / s) = h / s * (h / s) := by grind
  rw [e2] at k
  have e3 : (s * uE L a s M - pr L a s M * ex (-s) M) * (h / s) = h * uE L a s M - h / s * (pr L a s M * ex (-s) M) := by
    have : s * uE L a s M * (h / s) = h / s * s * uE L a s M := by grind
    have e4 : (s * uE L a s M - pr L a s M * ex (-s) M) * (h / s) = s * uE L a s M * (h / s) - h / s * (pr L a s M * ex (-s) M) := by grind
    rw [e4, this, vm]
  rw [e3]
  generalize C * (h / s * (h / s)) = w1 at *
  generalize C * (i * i) * (h * h) = w2 at *
  have e5 : -(h / s) * (pr L a s M * ex (-s) M) = -(h / s * (pr L a s M * ex (-s) M)) := by grind
  rw [e5] at k
  generalize h / s * (pr L a s M * ex (-s) M) = w3 at *
  generalize uE L a s M = w4 at *
  clear e e1 e2 e3 e5 vm v0 vh hiD m1 m2 l l2 n tan
  grind
theorem top_ex (P : Nat → Prop) (k : Nat) : ∃ v, (P v ∨ v = 0) ∧ ∀ n, n ≤ k → P n → n ≤ v := by
  induction k with
  | zero => exact ⟨0, Or.inr rfl, fun n hn _ => by omega⟩
  | succ k ih =>
    by_cases h : P (k + 1)
    · exact ⟨k + 1, Or.inl h, fun n hn _ => hn⟩
    · obtain ⟨v, h1, h2⟩ := ih
      exact ⟨v, h1, fun n hn hp => h2 n (by rcases Nat.lt_or_eq_of_le hn with h' | h'
                                            · omega
                                            · subst h'; exact absurd hp h) hp⟩
theorem bound_all {R : Nat → Nat → Prop} (h : ∀ i, ∃ N, ∀ M, N ≤ M → R i M) (k : Nat) : ∃ N, ∀ i, i < k → ∀ M, N ≤ M → R i M := by
  induction k with
  | zero => exact ⟨0, fun i hi => by omega⟩
  | succ k ih =>
    obtain ⟨N1, h1⟩ := ih
    obtain ⟨N2, h2⟩ := h k
    refine ⟨N1 + N2, fun i hi M hM => ?_⟩
    by_cases c : i < k
    · exact h1 i c M (by omega)
    · have : i = k := by omega
      subst this; exact h2 M (by omega)
theorem complete {s t : Nat → Nat → Rat} (h1 : ∀ n m, n ≤ m → LeN (s n) (s m)) (h2 : ∀ n m, n ≤ m → LeN (s m) (fun M => s n M + t n M)) : ∃ g, ∀ n, LeN (s n) g ∧ LeN g (fun M => s n M + t n M) := by
  let P : Nat → Nat → Prop := fun M n => ∀ i, i < n + 1 → ∀ j, j < n + 1 → i ≤ j → s i M ≤ s j M + 1 / ((n : Rat) + 1) ∧ s j M ≤ s i M + t i M + 1 / ((n : Rat) + 1)
  have hP : ∀ n, ∃ N, ∀ M, N ≤ M → P M n := fun n => by
    have u0 : (0 : Rat) < 1 / ((n : Rat) + 1) := rdiv_pos (by grind) (pos1 n)
    have step : ∀ i, ∃ N, ∀ M, N ≤ M → ∀ j, j < n + 1 → i ≤ j → s i M ≤ s j M + 1 / ((n : Rat) + 1) ∧ s j M ≤ s i M + t i M + 1 / ((n : Rat) + 1) := fun i => by
      obtain ⟨N, hN⟩ := bound_all (R := fun j M => i ≤ j → s i M ≤ s j M + 1 / ((n : Rat) + 1) ∧ s j M ≤ s i M + t i M + 1 / ((n : Rat) + 1)) (fun j => by
        by_cases c : i ≤ j
        · obtain ⟨N1, k1⟩ := h1 i j c _ u0
          obtain ⟨N2, k2⟩ := h2 i j c _ u0
          exact ⟨N1 + N2, fun M hM _ => ⟨k1 M (by omega), k2 M (by omega)⟩⟩
        · exact ⟨0, fun M _ c' => absurd c' c⟩) (n + 1)
      exact ⟨N, fun M hM j hj => hN j hj M hM⟩
    obtain ⟨N, hN⟩ := bound_all step (n + 1)
    exact ⟨N, fun M hM i hi j hj hij => hN i hi M hM j hj hij⟩
  obtain ⟨v, hv⟩ := Classical.skolem.1 (fun M => top_ex (P M) M)
  have main : ∀ n (e : Rat), 0 < e → ∃ N, ∀ M, N ≤ M → s n M ≤ s (v M) M + e ∧ s (v M) M ≤ s n M + t n M + e := fun n e he => by
    obtain ⟨m, hm⟩ := rat_nat (1 / e)
    obtain ⟨N, hN⟩ := hP (n + m + 1)
    refine ⟨N + n + m + 1, fun M hM => ?_⟩
    obtain ⟨w1, w2⟩ := hv M
    have ge := w2 (n + m + 1) (by omega) (hN M (by omega))
    have pv : P M (v M) := by rcases w1 with h | h
                              · exact h
                              · omega
    obtain ⟨a1, a2⟩ := pv n (by omega) (v M) (by omega) (by omega)
    have small : 1 / ((v M : Rat) + 1) ≤ e := by
      refine qdiv_le (pos1 _) ?_
      have c : (m : Rat) ≤ (v M : Rat) := by exact_mod_cast (show m ≤ v M by omega)
      have d := rdm (a := 1) he
      have := Rat.mul_le_mul_of_nonneg_left (Rat.le_trans hm.2 c) (Rat.le_of_lt he)
      grind
    exact ⟨by grind, by grind⟩
  exact ⟨fun M => s (v M) M, fun n => ⟨fun e he => (main n e he).imp fun N h M hM => (h M hM).1, fun e he => (main n e he).imp fun N h M hM => (h M hM).2⟩⟩
structure Gam1 (L : Rat → Nat → Rat) (a : Rat) (g : Nat → Rat) : Prop where
  lo : ∀ x, 0 < x → LeN (uG L a x) g
  hi : ∀ x, 0 < x → LeN g (fun M => uG L a x M + uE L a x M)
theorem gam1_ex {L : Rat → Nat → Rat} (hL : Lns L) {a : Rat} (ha : 0 < a) (ha1 : a ≤ 1) : ∃ g, Gam1 L a g := by
  have cast : ∀ {n m : Nat}, n ≤ m → (n : Rat) + 1 ≤ (m : Rat) + 1 := fun {n m} h => by have : (n : Rat) ≤ (m : Rat) := by exact_mod_cast h
                                                                                        grind
  obtain ⟨g, hg⟩ := complete (s := fun n => uG L a ((n : Rat) + 1)) (t := fun n => uE L a ((n : Rat) + 1))
    (fun n m h => uG_mono hL ha (pos1 n) (cast h))
    (fun n m h => by
      refine LeN.trans ?_ (uGE_anti hL ha ha1 (pos1 n) (cast h))
      obtain ⟨N, hN⟩ := uE_nn hL (pos1 m) a
      exact LeN.of_le N fun M hM => by have := hN M hM; grind)
  have up : ∀ x : Rat, ∃ n : Nat, x ≤ (n : Rat) + 1 := fun x => by
    obtain ⟨n, hn⟩ := rat_nat x
    exact ⟨n, by have := hn.2; grind⟩
  refine ⟨g, fun x hx => ?_, fun x hx => ?_⟩
  · obtain ⟨n, hn⟩ := up x
    exact (uG_mono hL ha hx hn).trans (hg n).1
  · obtain ⟨n, hn⟩ := up x
    exact (hg n).2.trans (uGE_anti hL ha ha1 hx hn)
end Go.Proofs.Ytgmnknmjainabab.Ex
namespace Go.Proofs.Ytgmnknmjainabab.Ex
structure IsGam (L : Rat → Nat → Rat) (a : Rat) (g : Nat → Rat) : Prop where
  bdd : Bdd g
  pos : ∃ c : Rat, 0 < c ∧ ∃ N : Nat, ∀ M, N ≤ M → c ≤ g M
  lo : ∀ x, 0 < x → LeN (uG L a x) g
  hi : ∀ x, 1 ≤ x → 2 * a ≤ x + 2 → LeN g (fun M => uG L a x M + 2 * uE L a x M)
theorem bdd_between {f g k : Nat → Rat} (h1 : LeN f g) (h2 : LeN g k) (bf : Bdd f) (bk : Bdd k) : Bdd g := by
  obtain ⟨N1, a1⟩ := h1 1 (by grind)
  obtain ⟨N2, a2⟩ := h2 1 (by grind)
  obtain ⟨K1, M1, k10, b1⟩ := bf
  obtain ⟨K2, M2, k20, b2⟩ := bk
  refine ⟨K1 + K2 + 1, N1 + N2 + M1 + M2, by grind, fun M hM => ?_⟩
  have := a1 M (by omega)
  have := a2 M (by omega)
  have := b1 M (by omega)
  have := b2 M (by omega)
  obtain ⟨c1, c2⟩ := this
  obtain ⟨d1, d2⟩ := ‹AB (f M) K1›
  exact ⟨by grind, by grind⟩
theorem uG_low {L : Rat → Nat → Rat} (hL : Lns L) {a x : Rat} (ha : 0 < a) (hx : 0 < x) : ∃ c : Rat, 0 < c ∧ ∃ N : Nat, ∀ M, N ≤ M → c ≤ uG L a x M := by
  obtain ⟨c1, p1, N1, h1⟩ := Ev_low (pr_arg hL hx a)
  obtain ⟨c2, p2, N2, h2⟩ := Ev_low (Bdd.const (-x))
  have ip : 0 < 1 / a := rdiv_pos (by grind) ha
  refine ⟨c1 * c2 * (1 / a), Rat.mul_pos (Rat.mul_pos p1 p2) ip, N1 + N2 + 1, fun M hM => ?_⟩
  obtain ⟨m, rfl⟩ : ∃ m, M = m + 1 := ⟨M - 1, by omega⟩
  have f := uS_first ha (Rat.le_of_lt hx) m
  have a1 := h1 (m + 1) (by omega)
  have a2 := h2 (m + 1) (by omega)
  have b : c1 * c2 ≤ pr L a x (m + 1) * ex (-x) (m + 1) := Rat.le_trans (Rat.mul_le_mul_of_nonneg_right a1 (Rat.le_of_lt p2)) (Rat.mul_le_mul_of_nonneg_left a2 (show 0 ≤ pr L a x (m + 1) by unfold pr; grind))
  have c0 := Rat.mul_nonneg (Rat.le_of_lt p1) (Rat.le_of_lt p2)
  unfold uG
  exact Rat.le_trans (Rat.mul_le_mul_of_nonneg_right b (Rat.le_of_lt ip)) (Rat.mul_le_mul_of_nonneg_left f (by grind))
theorem pos_of_le {f g : Nat → Rat} (h : LeN f g) (k : ∃ c : Rat, 0 < c ∧ ∃ N : Nat, ∀ M, N ≤ M → c ≤ f M) : ∃ c : Rat, 0 < c ∧ ∃ N : Nat, ∀ M, N ≤ M → c ≤ g M := by
  obtain ⟨c, c0, N, hc⟩ := k
  obtain ⟨N2, h2⟩ := h (c / 2) (by grind)
  exact ⟨c / 2, by grind, N + N2, fun M hM => by have := hc M (by omega); have := h2 M (by omega); grind⟩
theorem Gam1.isGam {L : Rat → Nat → Rat} (hL : Lns L) {a : Rat} {g : Nat → Rat} (ha : 0 < a) (h : Gam1 L a g) : IsGam L a g := by
  have one : (0 : Rat) < 1 := by grind
  refine ⟨bdd_between (h.lo 1 one) (h.hi 1 one) (uG_bdd hL ha one) ((uG_bdd hL ha one).add (uE_bdd hL one a)), pos_of_le (h.lo 1 one) (uG_low hL ha one), h.lo, fun x hx _ => (h.hi x (by grind)).trans ?_⟩
  obtain ⟨N, hN⟩ := uE_nn hL (show 0 < x by grind) a
  exact LeN.of_le N fun M hM => by have := hN M hM; grind
theorem uE_next {L : Rat → Nat → Rat} (hL : Lns L) {x : Rat} (hx : 0 < x) (a : Rat) : Null (fun M => x * uE L a x M - uE L (a + 1) x M) := by
  refine (uE_mul hL hx a).of_eq fun M => ?_
  have e : a + 1 - 1 = a := by grind
  unfold uE
  rw [e]
theorem uG_next {L : Rat → Nat → Rat} (hL : Lns L) {a x : Rat} (ha : 0 < a) (hx : 0 < x) : Null (fun M => uG L (a + 1) x M - (a * uG L a x M - uE L (a + 1) x M)) := by
  have x0 := Rat.le_of_lt hx
  have a1 : 0 < a + 1 := by grind
  have h1 := pr_add hL hx a 1
  have h2 := (pr_one hL hx).bmul (pr_bdd hL hx a)
  have b := (ex_bdd (-x)).mul (uS_Bdd a1 x0)
  have h3 := (h2.sub h1).bmul b
  have h4 := (upT_null ha x0).bmul (((Bdd.const a).mul (pr_bdd hL hx a)).mul (ex_bdd (-x)))
  refine (h4.add h3).of_eq fun M => ?_
  have e1 := uS_next ha x M
  have e2 : uS a x (M + 1) = uS a x M + upT a x M := rfl
  have e3 : a + 1 - 1 = a := by grind
  unfold uG uE
  rw [e3]
  have e4 : x * uS (a + 1) x M = a * (uS a x M + upT a x M) - 1 := by rw [← e2, e1]; grind
  generalize pr L a x M = p at *
  generalize pr L (a + 1) x M = p1 at *
  generalize ex (-x) M = y at *
  generalize pr L 1 x M = p2 at *
  generalize upT a x M = t at *
  generalize uS a x M = s at *
  generalize uS (a + 1) x M = s1 at *
  have k : p * y * (x * s1) = p * y * (a * (s + t) - 1) := by rw [e4]
  clear e1 e2 e3 e4 h1 h2 h3 h4
  grind
theorem IsGam.next {L : Rat → Nat → Rat} (hL : Lns L) {a : Rat} {g : Nat → Rat} (ha : 0 < a) (h : IsGam L a g) : IsGam L (a + 1) (fun M => a * g M) := by
  have a0 := Rat.le_of_lt ha
  refine ⟨(Bdd.const a).mul h.bdd, ?_, fun x hx => ?_, fun x hx hx2 => ?_⟩
  · obtain ⟨c, c0, N, hc⟩ := h.pos
    exact ⟨a * c, Rat.mul_pos ha c0, N, fun M hM => Rat.mul_le_mul_of_nonneg_left (hc M hM) a0⟩
  · refine (LeN.of_eqN (uG_next hL ha hx)).trans (LeN.trans ?_ ((h.lo x hx).cmul a0))
    obtain ⟨N, hN⟩ := uE_nn hL hx (a + 1)
    exact LeN.of_le N fun M hM => by have := hN M hM; grind
  · have x0 : 0 < x := by grind
    refine ((h.hi x hx (by grind)).cmul a0).trans ?_
    obtain ⟨z, hz, kz⟩ := (LeN.of_eqN (uE_next hL x0 a)).null
    obtain ⟨N, hN⟩ := uE_nn hL x0 a
    refine LeN.of_null ((uG_next hL ha x0).neg.add hz) N fun M hM => ?_
    have k := kz M
    have n := hN M hM
    have m := Rat.mul_le_mul_of_nonneg_right (show 2 * a ≤ x by grind) n
    generalize uG L (a + 1) x M = w1 at *
    generalize uE L (a + 1) x M = w2 at *
    generalize uG L a x M = w3 at *
    generalize uE L a x M = w4 at *
    grind
theorem leN_small {f g : Nat → Rat} (h : ∀ n : Nat, LeN f (fun M => g M + q2 n)) : LeN f g := fun e he => by
  obtain ⟨N, hN⟩ := null_q2 (e / 2) (by grind)
  obtain ⟨N2, h2⟩ := h N (e / 2) (by grind)
  have q := (hN N (Nat.le_refl _)).2
  exact ⟨N2, fun M hM => by have := h2 M hM; grind⟩
theorem ex_half (n : Nat) : LeN (ex (-(n : Rat))) (fun _ => q2 n) := by
  induction n with
  | zero =>
    refine LeN.of_le 1 fun M hM => ?_
    obtain ⟨m, rfl⟩ : ∃ m, M = m + 1 := ⟨M - 1, by omega⟩
    have e : -((0 : Nat) : Rat) = 0 := by have : ((0 : Nat) : Rat) = 0 := rfl
                                          rw [this]; grind
    rw [e]
    have : ex 0 (m + 1) = 1 := E_zero m
    rw [this]
    show (1 : Rat) ≤ 1
    exact Rat.le_refl
  | succ n ih =>
    have c : ((n + 1 : Nat) : Rat) = (n : Rat) + 1 := by push_cast; rfl
    have l : LeN (fun _ => (2 : Rat)) (ex 1) := LeN.of_le 2 fun M hM => by have := E_one1 (x := 1) (by grind) hM; show 2 ≤ E 1 M; grind
    have m := l.bmul (ex_bdd (-((n : Rat) + 1))) (ex_nn _)
    have s := ex_add 1 (-((n : Rat) + 1))
    have e : 1 + -((n : Rat) + 1) = -(n : Rat) := by grind
    rw [e] at s
    have k := (m.trans (LeN.of_eqN s)).trans ih
    rw [c]
    refine LeN.trans (LeN.of_le 0 fun M _ => ?_) ((k.cmul (c := 1 / 2) (by grind)).trans (LeN.of_le 0 fun M _ => ?_))
    · grind
    · show 1 / 2 * q2 n ≤ q2 (n + 1)
      have : q2 (n + 1) = q2 n / 2 := rfl
      rw [this]; grind
theorem uS_one {x : Rat} (M : Nat) : x * uS 1 x M = E x (M + 1) - 1 := by
  have t : ∀ n : Nat, x * upT 1 x n = tm x (n + 1) := fun n => by
    induction n with
    | zero =>
      have e := tm_succ x 0
      have c : ((0 : Nat) : Rat) = 0 := rfl
      rw [c] at e
      have e2 : tm x 0 = 1 := rfl
      rw [e2] at e
      have e3 := upT_zero (show (0 : Rat) < 1 by grind) x
      grind
    | succ n ih =>
      have e1 := upT_succ (show (0 : Rat) < 1 by grind) x n
      have e2 := tm_succ x (n + 1)
      have c : ((n + 1 : Nat) : Rat) = (n : Rat) + 1 := by push_cast; rfl
      rw [c] at e2
      refine rat_cancel (show 0 < (n : Rat) + 1 + 1 by have := pos1 n; grind) ?_
      rw [e2, ← ih]
      grind
  induction M with
  | zero => show x * 0 = (0 + 1) - 1; grind
  | succ n ih =>
    have := t n
    have e : E x (n + 1 + 1) = E x (n + 1) + tm x (n + 1) := rfl
    rw [uS_succ, e]; grind
theorem gam_one {L : Rat → Nat → Rat} (hL : Lns L) {g : Nat → Rat} (h : Gam1 L 1 g) : Null (fun M => g M - 1) := by
  have key : ∀ x, 0 < x → Null (fun M => uG L 1 x M - (1 - ex (-x) M)) := fun x hx => by
    have x0 := Rat.le_of_lt hx
    have s := ex_add x (-x)
    have e : x + -x = 0 := by grind
    rw [e] at s
    have h2 := (pr_one hL hx).bmul ((ex_bdd (-x)).mul (uS_Bdd (show (0 : Rat) < 1 by grind) x0))
    obtain ⟨K, k0, hK⟩ := tm_bd x
    have tn : Null (tm x) := (null_q4 K k0).of_le 1 fun M hM => (hK M).mono (by
      have m1 : (1 : Rat) ≤ (M : Rat) := by exact_mod_cast hM
      have := Rat.mul_le_mul_of_nonneg_left m1 (Rat.mul_nonneg k0 (Rat.le_of_lt (q4_pos M)))
      grind)
    have h3 := tn.bmul (ex_bdd (-x))
    refine ((h2.add h3).add s).of_eq_from 1 fun M hM => ?_
    have e0 : ex 0 M = 1 := by
      obtain ⟨m, rfl⟩ : ∃ m, M = m + 1 := ⟨M - 1, by omega⟩
      exact E_zero m
    have e1 := uS_one (x := x) M
    have e2 : E x (M + 1) = ex x M + tm x M := rfl
    rw [e0]
    unfold uG
    rw [e2] at e1
    generalize pr L 1 x M = p at *
    generalize ex (-x) M = y at *
    generalize uS 1 x M = u at *
    generalize ex x M = v at *
    generalize tm x M = t at *
    have k : y * (x * u) = y * (v + t - 1) := by rw [e1]
    grind
  have up : LeN g (fun _ => 1) := by
    refine (h.hi 1 (by grind)).trans ?_
    refine LeN.of_null (key 1 (by grind)) 1 fun M hM => ?_
    have e : pr L (1 - 1) 1 M = 1 := by
      obtain ⟨m, rfl⟩ : ∃ m, M = m + 1 := ⟨M - 1, by omega⟩
      unfold pr Ev
      have e : (1 - 1 : Rat) * L 1 (m + 1) = 0 := by grind
      show E ((1 - 1) * L 1 (m + 1)) (m + 1) = 1
      rw [e]
      exact E_zero m
    unfold uE
    rw [e]
    grind
  have dn : LeN (fun _ => (1 : Rat)) g := by
    refine leN_small fun n => ?_
    have n1 : (0 : Rat) < (n : Rat) + 1 := pos1 n
    have a := h.lo _ n1
    obtain ⟨z, hz, kz⟩ := (a.add (ex_half (n + 1))).null
    have c : ((n + 1 : Nat) : Rat) = (n : Rat) + 1 := by push_cast; rfl
    refine LeN.of_null (hz.add (key _ n1).neg) 0 fun M _ => ?_
    have k := kz M
    have e : q2 (n + 1) = q2 n / 2 := rfl
    have q := q2_pos n
    rw [c, e] at k
    grind
  exact up.eq dn
theorem log_seq {L : Rat → Nat → Rat} (hL : Lns L) {g : Nat → Rat} (hb : Bdd g) (hp : ∃ c : Rat, 0 < c ∧ ∃ N : Nat, ∀ M, N ≤ M → c ≤ g M) : ∃ l, IsLog l g := by
  obtain ⟨c, c0, N1, hc⟩ := hp
  obtain ⟨K, N2, k0, hK⟩ := hb
  have Kc : 0 < K + c := by grind
  obtain ⟨B1, M1, b10, h1⟩ := (hL c c0).1
  obtain ⟨B2, M2, b20, h2⟩ := (hL (K + c) Kc).1
  have each : ∀ M, ∃ y : Rat, N1 + N2 ≤ M → AB y (B1 + B2 + 1) ∧ ∃ j, M ≤ j ∧ AB (E y j - g M) (q2 M) := fun M => by
    by_cases hM : N1 + N2 ≤ M
    · have gc := hc M (by omega)
      have gK := (hK M (by omega)).2
      have gp : 0 < g M := by grind
      obtain ⟨n1, p1⟩ := (hL c c0).le (hL _ gp) null_zero 0 (fun _ _ => by grind) 1 (by grind)
      obtain ⟨n2, p2⟩ := (hL _ gp).le (hL _ Kc) null_zero 0 (fun _ _ => by grind) 1 (by grind)
      obtain ⟨n3, p3⟩ := (hL _ gp).2 (q2 M) (q2_pos M)
      obtain ⟨j, hj⟩ : ∃ j, j = M + M1 + M2 + n1 + n2 + n3 := ⟨_, rfl⟩
      refine ⟨L (g M) j, fun _ => ⟨?_, j, by omega, p3 j (by omega)⟩⟩
      have r1 := p1 j (by omega)
      have r2 := p2 j (by omega)
      have r3 := (h1 j (by omega)).1
      have r4 := (h2 j (by omega)).2
      exact ⟨by grind, by grind⟩
    · exact ⟨0, fun h => absurd h hM⟩
  obtain ⟨l, hl⟩ := Classical.skolem.1 each
  obtain ⟨T, t0, hT⟩ := tm_unif (B1 + B2 + 1)
  refine ⟨l, ⟨_, N1 + N2, by grind, fun M hM => (hl M hM).1⟩, ?_⟩
  have z := (null_q4 (2 * T) (by grind)).add null_q2
  refine z.of_le (N1 + N2 + 1) fun M hM => ?_
  obtain ⟨a1, j, hj, a2⟩ := hl M (by omega)
  obtain ⟨i, rfl⟩ : ∃ i, j = M + i := ⟨j - M, by omega⟩
  have s := E_sub (l M) T (fun i => hT _ a1 i) M i
  have m1 : (1 : Rat) ≤ (M : Rat) := by exact_mod_cast (show 1 ≤ M by omega)
  have qm := q4_pos M
  have qi := q4_pos (M + i)
  have mq := Rat.mul_le_mul_of_nonneg_left m1 (Rat.mul_nonneg t0 (Rat.le_of_lt qm))
  have mi := Rat.mul_nonneg t0 (Rat.le_of_lt qi)
  obtain ⟨s1, s2⟩ := s
  obtain ⟨d1, d2⟩ := a2
  show AB (E (l M) M - g M) _
  generalize E (l M) (M + i) = w1 at *
  generalize E (l M) M = w2 at *
  exact ⟨by grind, by grind⟩
end Go.Proofs.Ytgmnknmjainabab.Ex
namespace Go.Proofs.Ytgmnknmjainabab
open Go.RowKit
attribute [local go_sem ↓] Go.wp_at_zero Go.wp_at_succ
set_option maxRecDepth 100000 in
set_option maxHeartbeats 2000000 in
theorem div1_int (neg neg2 : Bool) (a c : Option Addr) (n m cap cap2 k k2 b B : Nat) (x y : Int) (w : World) (h1 : IntAt w neg a n cap k x) (h2 : IntAt w neg2 c m cap2 k2 y) (hk : k ≤ 300000000) (hb : b ≤ 1000000) (hy : 0 < y) (hc : w.cell? ⟨B, 4, none⟩ = some (.int .i64 b)) :
    Calls Try.prog 157 #[.agg #[.bool neg, .slice a n cap], .agg #[.bool neg2, .slice c m cap2], .pointer (some ⟨B, 0, none⟩)] w (IntAns w (b / 16 + k + 9) (x * Q b / y)) := by
  have lB : B < w.heap.size := World.block_lt_of_cell? w ⟨B, 4, none⟩ hc
  have ne1 : w.heap.size ≠ w.heap.size + 1 + 1 := by omega
  have ne2 : w.heap.size + 1 + 1 ≠ w.heap.size := by omega
  obtain ⟨W, hW⟩ : ∃ W, W = ((w.alloc (.cells #[.bool neg, .slice a n cap] 26)).alloc (.cells #[.bool neg2, .slice c m cap2] 26)).alloc (.cells #[.bool false, .slice none 0 0] 26) := ⟨_, rfl⟩
  have hBW : Below w.heap.size w W := by rw [hW]; exact bl3 _ _ _ _
  have A : NmC W w.heap.size ⟨neg, a, n, cap⟩ := by rw [hW]; exact ⟨by simp [go_sem], by simp [go_sem]⟩
  have G : NmC W (w.heap.size + 1) ⟨neg2, c, m, cap2⟩ := by rw [hW]; exact ⟨by simp [go_sem], by simp [go_sem]⟩
  have R : NoI W (w.heap.size + 1 + 1) := by rw [hW]; exact ⟨by simp [go_sem], by simp [go_sem], fun o => by simp [go_sem]⟩
  have hcW := (hBW.cell (p := ⟨B, 4, none⟩) lB).trans hc
  have lBW := Nat.lt_of_lt_of_le lB hBW.size
  have HX := hide (h1.below hBW)
  have HY := hide (h2.below hBW)
  have hB0 : Below W.heap.size W W.drew := (Below.refl _ _).drew
  have lR := R.lt
  have nB : B ≠ w.heap.size + 1 + 1 := by omega
  have nB' : w.heap.size + 1 + 1 ≠ B := by omega
  have HK := hide (show ∀ w', Below W.heap.size W w' → (w'.cell? ⟨w.heap.size, 0, none⟩ = some (.bool neg) ∧ w'.cell? ⟨w.heap.size, 1, none⟩ = some (.slice a n cap) ∧ w'.cell? ⟨w.heap.size + 1, 0, none⟩ = some (.bool neg2) ∧ w'.cell? ⟨w.heap.size + 1, 1, none⟩ = some (.slice c m cap2) ∧ w'.cell? ⟨B, 4, none⟩ = some (.int .i64 b)) from fun w' hB => ⟨(A.below hB).c0, (A.below hB).c1, (G.below hB).c0, (G.below hB).c1, (hB.cell (p := ⟨B, 4, none⟩) lBW).trans hcW⟩)
  go_enter Try.func157, Try.ntmps157
  go_wp2
  rw [← hW]
  clear hW
  obtain ⟨i0, i1, i2, i3, i4⟩ := unhide HK _ (Below.refl _ _)
  go_region_held3 (fun w' => w'.cell? ⟨w.heap.size, 0, none⟩ = some (.bool neg) ∧ w'.cell? ⟨w.heap.size, 1, none⟩ = some (.slice a n cap) ∧ w'.cell? ⟨w.heap.size + 1, 0, none⟩ = some (.bool neg2) ∧ w'.cell? ⟨w.heap.size + 1, 1, none⟩ = some (.slice c m cap2) ∧ w'.cell? ⟨B, 4, none⟩ = some (.int .i64 b)) (first | exact unhide HK _ (by first | with_reducible exact hB0 | with_reducible exact hB2 | with_reducible exact hB1) | go_keep)
    (first
      | (go_at_call 113; refine (up_int _ _ _ _ b k x _ ((unhide HX).below hB0) (by omega) (by omega)).mono ?_; rintro r w1 ⟨neg1, a1, n1, c1, rfl, hint1, hb1⟩; have hB1 := bthen hB0 hb1)
      | (go_at_call 105; refine (floor_any _ _ _ _ _ _ _ _ (b / 16 + k + 1) k2 (x * Q b) y _ hint1 ((unhide HY).below hB1) (by omega) hy).mono ?_; rintro r w2 ⟨neg3, a3, n3, c3, rfl, hint3, hb2⟩; have hB2 := bthen hB1 hb2; obtain ⟨q0, q1, q2⟩ := R.below hB2; obtain ⟨d0, d1, d2, d3, d4⟩ := unhide HK _ hB2))
  clear i0 i1 i2 i3 i4
  go_wp2
  refine bodyPost_ret (v := .agg #[.bool neg3, .slice a3 n3 c3]) (by simp [results, Try.results157, go_sem, q0, q1]) rfl ⟨neg3, a3, n3, c3, rfl, (hint3.put2 q0 q1 _ _).mono (by omega), ?_⟩
  exact set2 (bthen hBW hB2) (by omega) _ _
set_option maxRecDepth 100000 in
set_option maxHeartbeats 2000000 in
theorem div2_int (neg neg2 : Bool) (a c : Option Addr) (n m cap cap2 k k2 b B : Nat) (x y : Int) (w : World) (h1 : IntAt w neg a n cap k x) (h2 : IntAt w neg2 c m cap2 k2 y) (hk : k ≤ 300000000) (hb : b ≤ 1000000) (hy : 0 < y) (hc : w.cell? ⟨B, 4, none⟩ = some (.int .i64 b)) :
    Calls Try.prog 158 #[.agg #[.bool neg, .slice a n cap], .agg #[.bool neg2, .slice c m cap2], .pointer (some ⟨B, 0, none⟩)] w (IntAns w (b / 16 + k + 9) (-(-(x * Q b) / y))) := by
  have lB : B < w.heap.size := World.block_lt_of_cell? w ⟨B, 4, none⟩ hc
  have ne1 : w.heap.size ≠ w.heap.size + 1 + 1 := by omega
  have ne2 : w.heap.size + 1 + 1 ≠ w.heap.size := by omega
  obtain ⟨W, hW⟩ : ∃ W, W = ((w.alloc (.cells #[.bool neg, .slice a n cap] 26)).alloc (.cells #[.bool neg2, .slice c m cap2] 26)).alloc (.cells #[.bool false, .slice none 0 0] 26) := ⟨_, rfl⟩
  have hBW : Below w.heap.size w W := by rw [hW]; exact bl3 _ _ _ _
  have A : NmC W w.heap.size ⟨neg, a, n, cap⟩ := by rw [hW]; exact ⟨by simp [go_sem], by simp [go_sem]⟩
  have G : NmC W (w.heap.size + 1) ⟨neg2, c, m, cap2⟩ := by rw [hW]; exact ⟨by simp [go_sem], by simp [go_sem]⟩
  have R : NoI W (w.heap.size + 1 + 1) := by rw [hW]; exact ⟨by simp [go_sem], by simp [go_sem], fun o => by simp [go_sem]⟩
  have hcW := (hBW.cell (p := ⟨B, 4, none⟩) lB).trans hc
  have lBW := Nat.lt_of_lt_of_le lB hBW.size
  have HX := hide (h1.below hBW)
  have HY := hide (h2.below hBW)
  have hB0 : Below W.heap.size W W.drew := (Below.refl _ _).drew
  have lR := R.lt
  have nB : B ≠ w.heap.size + 1 + 1 := by omega
  have nB' : w.heap.size + 1 + 1 ≠ B := by omega
  have HK := hide (show ∀ w', Below W.heap.size W w' → (w'.cell? ⟨w.heap.size, 0, none⟩ = some (.bool neg) ∧ w'.cell? ⟨w.heap.size, 1, none⟩ = some (.slice a n cap) ∧ w'.cell? ⟨w.heap.size + 1, 0, none⟩ = some (.bool neg2) ∧ w'.cell? ⟨w.heap.size + 1, 1, none⟩ = some (.slice c m cap2) ∧ w'.cell? ⟨B, 4, none⟩ = some (.int .i64 b)) from fun w' hB => ⟨(A.below hB).c0, (A.below hB).c1, (G.below hB).c0, (G.below hB).c1, (hB.cell (p := ⟨B, 4, none⟩) lBW).trans hcW⟩)
  go_enter Try.func158, Try.ntmps158
  go_wp2
  rw [← hW]
  clear hW
  obtain ⟨i0, i1, i2, i3, i4⟩ := unhide HK _ (Below.refl _ _)
  go_region_held3 (fun w' => w'.cell? ⟨w.heap.size, 0, none⟩ = some (.bool neg) ∧ w'.cell? ⟨w.heap.size, 1, none⟩ = some (.slice a n cap) ∧ w'.cell? ⟨w.heap.size + 1, 0, none⟩ = some (.bool neg2) ∧ w'.cell? ⟨w.heap.size + 1, 1, none⟩ = some (.slice c m cap2) ∧ w'.cell? ⟨B, 4, none⟩ = some (.int .i64 b)) (first | exact unhide HK _ (by first | with_reducible exact hB0 | with_reducible exact hB2 | with_reducible exact hB1) | go_keep)
    (first
      | (go_at_call 113; refine (up_int _ _ _ _ b k x _ ((unhide HX).below hB0) (by omega) (by omega)).mono ?_; rintro r w1 ⟨neg1, a1, n1, c1, rfl, hint1, hb1⟩; have hB1 := bthen hB0 hb1)
      | (go_at_call 114; refine (ceil_any _ _ _ _ _ _ _ _ (b / 16 + k + 1) k2 (x * Q b) y _ hint1 ((unhide HY).below hB1) (by omega) hy).mono ?_; rintro r w2 ⟨neg3, a3, n3, c3, rfl, hint3, hb2⟩; have hB2 := bthen hB1 hb2; obtain ⟨q0, q1, q2⟩ := R.below hB2; obtain ⟨d0, d1, d2, d3, d4⟩ := unhide HK _ hB2))
  clear i0 i1 i2 i3 i4
  go_wp2
  refine bodyPost_ret (v := .agg #[.bool neg3, .slice a3 n3 c3]) (by simp [results, Try.results158, go_sem, q0, q1]) rfl ⟨neg3, a3, n3, c3, rfl, (hint3.put2 q0 q1 _ _).mono (by omega), ?_⟩
  exact set2 (bthen hBW hB2) (by omega) _ _
set_option maxRecDepth 100000 in
set_option maxHeartbeats 2000000 in
theorem corners_div1 (w : World) (s t : Sp) (k b B : Nat) (lo hi lo' hi' : Int) (hs : SpAt w s k lo hi) (ht : SpAt w t k lo' hi') (hk : k ≤ 300000000) (hb : b ≤ 1000000) (hp : 0 < lo') (hp2 : 0 < hi') (hc : w.cell? ⟨B, 4, none⟩ = some (.int .i64 b)) :
    Calls Try.prog 115 #[.agg #[.bool s.ln, .slice s.la s.lN s.lc, .bool s.hn, .slice s.ha s.hN s.hc, .int .i64 s.bits], .agg #[.bool t.ln, .slice t.la t.lN t.lc, .bool t.hn, .slice t.ha t.hN t.hc, .int .i64 t.bits], .func (.func 157) #[] #[.pointer (some ⟨B, 0, none⟩)]] w fun r w' =>
      ∃ B' f, r = .returned (.slice (some ⟨B', 0, none⟩) 4 4) ∧ Nums w' B' 4 (b / 16 + k + 9) f (pr4 (lo * Q b / lo') (lo * Q b / hi') (hi * Q b / lo') (hi * Q b / hi')) ∧ Below w.heap.size w w' := by
  have lB : B < w.heap.size := World.block_lt_of_cell? w ⟨B, 4, none⟩ hc
  obtain ⟨W, hW⟩ : ∃ W, W = (w.alloc (.cells #[.bool s.ln, .slice s.la s.lN s.lc, .bool s.hn, .slice s.ha s.hN s.hc, .int .i64 s.bits] 28)).alloc (.cells #[.bool t.ln, .slice t.la t.lN t.lc, .bool t.hn, .slice t.ha t.hN t.hc, .int .i64 t.bits] 28) := ⟨_, rfl⟩
  have hBW : Below w.heap.size w W := by rw [hW]; exact bl2 _ _ _
  have a0 : SpC W w.heap.size s := by rw [hW]; exact ⟨by simp [go_sem], by simp [go_sem], by simp [go_sem], by simp [go_sem], by simp [go_sem]⟩
  have g0 : SpC W (w.heap.size + 1) t := by rw [hW]; exact ⟨by simp [go_sem], by simp [go_sem], by simp [go_sem], by simp [go_sem], by simp [go_sem]⟩
  have hcW := (hBW.cell (p := ⟨B, 4, none⟩) lB).trans hc
  have lBW := Nat.lt_of_lt_of_le lB hBW.size
  have HS := hide (hs.below hBW)
  have HT := hide (ht.below hBW)
  have hB0 : Below W.heap.size W W.drew := (Below.refl _ _).drew
  have HKB := hide (show ∀ w', Below W.heap.size W w' → w'.cell? ⟨B, 4, none⟩ = some (.int .i64 b) from fun w' hB => (hB.cell (p := ⟨B, 4, none⟩) lBW).trans hcW)
  have HK := hide (show ∀ w', Below W.heap.size W w' → (w'.cell? ⟨w.heap.size, 0, none⟩ = some (.bool s.ln) ∧ w'.cell? ⟨w.heap.size, 1, none⟩ = some (.slice s.la s.lN s.lc) ∧ w'.cell? ⟨w.heap.size, 2, none⟩ = some (.bool s.hn) ∧ w'.cell? ⟨w.heap.size, 3, none⟩ = some (.slice s.ha s.hN s.hc) ∧ w'.cell? ⟨w.heap.size + 1, 0, none⟩ = some (.bool t.ln) ∧ w'.cell? ⟨w.heap.size + 1, 1, none⟩ = some (.slice t.la t.lN t.lc) ∧ w'.cell? ⟨w.heap.size + 1, 2, none⟩ = some (.bool t.hn) ∧ w'.cell? ⟨w.heap.size + 1, 3, none⟩ = some (.slice t.ha t.hN t.hc)) from fun w' hB => by
    obtain ⟨x0, x1, x2, x3, x4⟩ := a0.below hB
    obtain ⟨y0, y1, y2, y3, y4⟩ := g0.below hB
    exact ⟨x0, x1, x2, x3, y0, y1, y2, y3⟩)
  go_enter Try.func115, Try.ntmps115
  go_wp2
  obtain ⟨x0, x1, x2, x3, x4⟩ := a0
  obtain ⟨y0, y1, y2, y3, y4⟩ := g0
  rw [← hW]
  clear hW
  go_region_held3 (fun w' => w'.cell? ⟨w.heap.size, 0, none⟩ = some (.bool s.ln) ∧ w'.cell? ⟨w.heap.size, 1, none⟩ = some (.slice s.la s.lN s.lc) ∧ w'.cell? ⟨w.heap.size, 2, none⟩ = some (.bool s.hn) ∧ w'.cell? ⟨w.heap.size, 3, none⟩ = some (.slice s.ha s.hN s.hc) ∧ w'.cell? ⟨w.heap.size + 1, 0, none⟩ = some (.bool t.ln) ∧ w'.cell? ⟨w.heap.size + 1, 1, none⟩ = some (.slice t.la t.lN t.lc) ∧ w'.cell? ⟨w.heap.size + 1, 2, none⟩ = some (.bool t.hn) ∧ w'.cell? ⟨w.heap.size + 1, 3, none⟩ = some (.slice t.ha t.hN t.hc)) (exact unhide HK _ (by first | with_reducible exact hB0 | with_reducible exact balloc hB4 _ | with_reducible exact hB4 | with_reducible exact hB3 | with_reducible exact hB2 | with_reducible exact hB1))
    (first
      | (go_at_call 157; have hq := hB3; refine (div1_int _ _ _ _ _ _ _ _ k k b B hi hi' _ ((unhide HS).hi.below hB3) ((unhide HT).hi.below hB3) hk hb hp2 (unhide HKB _ hB3)).mono ?_; rintro r w4 ⟨neg4, a4, n4, c4, rfl, hint4, hb4⟩; replace hint1 := hint1.below hb4; replace hint2 := hint2.below hb4; replace hint3 := hint3.below hb4; have hB4 := bthen hB3 hb4)
      | (go_at_call 157; have hq := hB2; refine (div1_int _ _ _ _ _ _ _ _ k k b B hi lo' _ ((unhide HS).hi.below hB2) ((unhide HT).lo.below hB2) hk hb hp (unhide HKB _ hB2)).mono ?_; rintro r w3 ⟨neg3, a3, n3, c3, rfl, hint3, hb3⟩; replace hint1 := hint1.below hb3; replace hint2 := hint2.below hb3; have hB3 := bthen hB2 hb3)
      | (go_at_call 157; have hq := hB1; refine (div1_int _ _ _ _ _ _ _ _ k k b B lo hi' _ ((unhide HS).lo.below hB1) ((unhide HT).hi.below hB1) hk hb hp2 (unhide HKB _ hB1)).mono ?_; rintro r w2 ⟨neg2, a2, n2, c2, rfl, hint2, hb2⟩; replace hint1 := hint1.below hb2; have hB2 := bthen hB1 hb2)
      | (go_at_call 157; have hq := hB0; refine (div1_int _ _ _ _ _ _ _ _ k k b B lo lo' _ ((unhide HS).lo.below hB0) ((unhide HT).lo.below hB0) hk hb hp (unhide HKB _ hB0)).mono ?_; rintro r w1 ⟨neg1, a1, n1, c1, rfl, hint1, hb1⟩; have hB1 := bthen hB0 hb1))
  go_wp2
  go_ret
  exact ⟨w4.heap.size, pr4 ⟨neg1, a1, n1, c1⟩ ⟨neg2, a2, n2, c2⟩ ⟨neg3, a3, n3, c3⟩ ⟨neg4, a4, n4, c4⟩, rfl, nums4 w4 _ rfl ⟨neg1, a1, n1, c1⟩ ⟨neg2, a2, n2, c2⟩ ⟨neg3, a3, n3, c3⟩ ⟨neg4, a4, n4, c4⟩ _ _ _ _ _ _ hint1 hint2 hint3 hint4, bthen hBW (balloc hB4 _)⟩
set_option maxRecDepth 100000 in
set_option maxHeartbeats 2000000 in
theorem corners_div2 (w : World) (s t : Sp) (k b B : Nat) (lo hi lo' hi' : Int) (hs : SpAt w s k lo hi) (ht : SpAt w t k lo' hi') (hk : k ≤ 300000000) (hb : b ≤ 1000000) (hp : 0 < lo') (hp2 : 0 < hi') (hc : w.cell? ⟨B, 4, none⟩ = some (.int .i64 b)) :
    Calls Try.prog 115 #[.agg #[.bool s.ln, .slice s.la s.lN s.lc, .bool s.hn, .slice s.ha s.hN s.hc, .int .i64 s.bits], .agg #[.bool t.ln, .slice t.la t.lN t.lc, .bool t.hn, .slice t.ha t.hN t.hc, .int .i64 t.bits], .func (.func 158) #[] #[.pointer (some ⟨B, 0, none⟩)]] w fun r w' =>
      ∃ B' f, r = .returned (.slice (some ⟨B', 0, none⟩) 4 4) ∧ Nums w' B' 4 (b / 16 + k + 9) f (pr4 (-(-(lo * Q b) / lo')) (-(-(lo * Q b) / hi')) (-(-(hi * Q b) / lo')) (-(-(hi * Q b) / hi'))) ∧ Below w.heap.size w w' := by
  have lB : B < w.heap.size := World.block_lt_of_cell? w ⟨B, 4, none⟩ hc
  obtain ⟨W, hW⟩ : ∃ W, W = (w.alloc (.cells #[.bool s.ln, .slice s.la s.lN s.lc, .bool s.hn, .slice s.ha s.hN s.hc, .int .i64 s.bits] 28)).alloc (.cells #[.bool t.ln, .slice t.la t.lN t.lc, .bool t.hn, .slice t.ha t.hN t.hc, .int .i64 t.bits] 28) := ⟨_, rfl⟩
  have hBW : Below w.heap.size w W := by rw [hW]; exact bl2 _ _ _
  have a0 : SpC W w.heap.size s := by rw [hW]; exact ⟨by simp [go_sem], by simp [go_sem], by simp [go_sem], by simp [go_sem], by simp [go_sem]⟩
  have g0 : SpC W (w.heap.size + 1) t := by rw [hW]; exact ⟨by simp [go_sem], by simp [go_sem], by simp [go_sem], by simp [go_sem], by simp [go_sem]⟩
  have hcW := (hBW.cell (p := ⟨B, 4, none⟩) lB).trans hc
  have lBW := Nat.lt_of_lt_of_le lB hBW.size
  have HS := hide (hs.below hBW)
  have HT := hide (ht.below hBW)
  have hB0 : Below W.heap.size W W.drew := (Below.refl _ _).drew
  have HKB := hide (show ∀ w', Below W.heap.size W w' → w'.cell? ⟨B, 4, none⟩ = some (.int .i64 b) from fun w' hB => (hB.cell (p := ⟨B, 4, none⟩) lBW).trans hcW)
  have HK := hide (show ∀ w', Below W.heap.size W w' → (w'.cell? ⟨w.heap.size, 0, none⟩ = some (.bool s.ln) ∧ w'.cell? ⟨w.heap.size, 1, none⟩ = some (.slice s.la s.lN s.lc) ∧ w'.cell? ⟨w.heap.size, 2, none⟩ = some (.bool s.hn) ∧ w'.cell? ⟨w.heap.size, 3, none⟩ = some (.slice s.ha s.hN s.hc) ∧ w'.cell? ⟨w.heap.size + 1, 0, none⟩ = some (.bool t.ln) ∧ w'.cell? ⟨w.heap.size + 1, 1, none⟩ = some (.slice t.la t.lN t.lc) ∧ w'.cell? ⟨w.heap.size + 1, 2, none⟩ = some (.bool t.hn) ∧ w'.cell? ⟨w.heap.size + 1, 3, none⟩ = some (.slice t.ha t.hN t.hc)) from fun w' hB => by
    obtain ⟨x0, x1, x2, x3, x4⟩ := a0.below hB
    obtain ⟨y0, y1, y2, y3, y4⟩ := g0.below hB
    exact ⟨x0, x1, x2, x3, y0, y1, y2, y3⟩)
  go_enter Try.func115, Try.ntmps115
  go_wp2
  obtain ⟨x0, x1, x2, x3, x4⟩ := a0
  obtain ⟨y0, y1, y2, y3, y4⟩ := g0
  rw [← hW]
  clear hW
  go_region_held3 (fun w' => w'.cell? ⟨w.heap.size, 0, none⟩ = some (.bool s.ln) ∧ w'.cell? ⟨w.heap.size, 1, none⟩ = some (.slice s.la s.lN s.lc) ∧ w'.cell? ⟨w.heap.size, 2, none⟩ = some (.bool s.hn) ∧ w'.cell? ⟨w.heap.size, 3, none⟩ = some (.slice s.ha s.hN s.hc) ∧ w'.cell? ⟨w.heap.size + 1, 0, none⟩ = some (.bool t.ln) ∧ w'.cell? ⟨w.heap.size + 1, 1, none⟩ = some (.slice t.la t.lN t.lc) ∧ w'.cell? ⟨w.heap.size + 1, 2, none⟩ = some (.bool t.hn) ∧ w'.cell? ⟨w.heap.size + 1, 3, none⟩ = some (.slice t.ha t.hN t.hc)) (exact unhide HK _ (by first | with_reducible exact hB0 | with_reducible exact balloc hB4 _ | with_reducible exact hB4 | with_reducible exact hB3 | with_reducible exact hB2 | with_reducible exact hB1))
    (first
      | (go_at_call 158; have hq := hB3; refine (div2_int _ _ _ _ _ _ _ _ k k b B hi hi' _ ((unhide HS).hi.below hB3) ((unhide HT).hi.below hB3) hk hb hp2 (unhide HKB _ hB3)).mono ?_; rintro r w4 ⟨neg4, a4, n4, c4, rfl, hint4, hb4⟩; replace hint1 := hint1.below hb4; replace hint2 := hint2.below hb4; replace hint3 := hint3.below hb4; have hB4 := bthen hB3 hb4)
      | (go_at_call 158; have hq := hB2; refine (div2_int _ _ _ _ _ _ _ _ k k b B hi lo' _ ((unhide HS).hi.below hB2) ((unhide HT).lo.below hB2) hk hb hp (unhide HKB _ hB2)).mono ?_; rintro r w3 ⟨neg3, a3, n3, c3, rfl, hint3, hb3⟩; replace hint1 := hint1.below hb3; replace hint2 := hint2.below hb3; have hB3 := bthen hB2 hb3)
      | (go_at_call 158; have hq := hB1; refine (div2_int _ _ _ _ _ _ _ _ k k b B lo hi' _ ((unhide HS).lo.below hB1) ((unhide HT).hi.below hB1) hk hb hp2 (unhide HKB _ hB1)).mono ?_; rintro r w2 ⟨neg2, a2, n2, c2, rfl, hint2, hb2⟩; replace hint1 := hint1.below hb2; have hB2 := bthen hB1 hb2)
      | (go_at_call 158; have hq := hB0; refine (div2_int _ _ _ _ _ _ _ _ k k b B lo lo' _ ((unhide HS).lo.below hB0) ((unhide HT).lo.below hB0) hk hb hp (unhide HKB _ hB0)).mono ?_; rintro r w1 ⟨neg1, a1, n1, c1, rfl, hint1, hb1⟩; have hB1 := bthen hB0 hb1))
  go_wp2
  go_ret
  exact ⟨w4.heap.size, pr4 ⟨neg1, a1, n1, c1⟩ ⟨neg2, a2, n2, c2⟩ ⟨neg3, a3, n3, c3⟩ ⟨neg4, a4, n4, c4⟩, rfl, nums4 w4 _ rfl ⟨neg1, a1, n1, c1⟩ ⟨neg2, a2, n2, c2⟩ ⟨neg3, a3, n3, c3⟩ ⟨neg4, a4, n4, c4⟩ _ _ _ _ _ _ hint1 hint2 hint3 hint4, bthen hBW (balloc hB4 _)⟩
end Go.Proofs.Ytgmnknmjainabab
namespace Go.Proofs.Ytgmnknmjainabab
open Go.RowKit
attribute [local go_sem ↓] Go.wp_at_zero Go.wp_at_succ
set_option maxRecDepth 100000 in
set_option maxHeartbeats 2000000 in
theorem wideDiv_pos (w : World) (s t : Sp) (k b : Nat) (lo hi lo' hi' : Int) (hs : SpAt w s k lo hi) (ht : SpAt w t k lo' hi') (hk : k ≤ 300000000) (hb : b ≤ 1000000) (hbits : s.bits = b) (hp : 0 < lo') (hp2 : 0 < hi') :
    Calls Try.prog 130 #[.agg #[.bool s.ln, .slice s.la s.lN s.lc, .bool s.hn, .slice s.ha s.hN s.hc, .int .i64 s.bits], .agg #[.bool t.ln, .slice t.la t.lN t.lc, .bool t.hn, .slice t.ha t.hN t.hc, .int .i64 t.bits]] w (SpanAns w b (b / 16 + k + 10) (leastZ (pr4 (lo * Q b / lo') (lo * Q b / hi') (hi * Q b / lo') (hi * Q b / hi')) 3) (mostZ (pr4 (-(-(lo * Q b) / lo')) (-(-(lo * Q b) / hi')) (-(-(hi * Q b) / lo')) (-(-(hi * Q b) / hi'))) 3)) := by
  have HBT := hide hbits
  have t1 : ¬ cmpInt hi' 0 < 0 := by unfold cmpInt; rw [if_neg (by omega)]; split <;> omega
  clear hbits
  obtain ⟨W, hW⟩ : ∃ W, W = ((w.alloc (.cells #[.bool s.ln, .slice s.la s.lN s.lc, .bool s.hn, .slice s.ha s.hN s.hc, .int .i64 s.bits] 28)).alloc (.cells #[.bool t.ln, .slice t.la t.lN t.lc, .bool t.hn, .slice t.ha t.hN t.hc, .int .i64 t.bits] 28)).alloc (.cells #[.bool false, .slice none 0 0, .bool false, .slice none 0 0, .int .i64 0] 28) := ⟨_, rfl⟩
  have hBW : Below w.heap.size w W := by rw [hW]; exact bl3 _ _ _ _
  have A : SpC W w.heap.size s := by rw [hW]; exact ⟨by simp [go_sem], by simp [go_sem], by simp [go_sem], by simp [go_sem], by simp [go_sem]⟩
  have G : SpC W (w.heap.size + 1) t := by rw [hW]; exact ⟨by simp [go_sem], by simp [go_sem], by simp [go_sem], by simp [go_sem], by simp [go_sem]⟩
  have R : NoC W (w.heap.size + 1 + 1) := by rw [hW]; exact ⟨by simp [go_sem], by simp [go_sem], by simp [go_sem], by simp [go_sem], by simp [go_sem], fun o => by simp [go_sem]⟩
  replace hs := hs.below hBW
  replace ht := ht.below hBW
  go_enter Try.func130, Try.ntmps130
  go_wp2_with fail
  rw [← hW]
  clear hW
  refine (sign_int _ _ _ _ k hi' _ ht.hi).mono ?_
  rintro r w0 ⟨rfl, hb0⟩
  replace hBW := bthen hBW hb0
  replace A := A.below hb0
  replace G := G.below hb0
  replace R := R.below hb0
  replace hs := hs.below hb0
  replace ht := ht.below hb0
  clear hb0
  have lA := A.lt
  have lG := G.lt
  obtain ⟨x0, x1, x2, x3, x4⟩ := A
  obtain ⟨y0, y1, y2, y3, y4⟩ := G
  have A : SpC w0 w.heap.size s := ⟨x0, x1, x2, x3, x4⟩
  have G : SpC w0 (w.heap.size + 1) t := ⟨y0, y1, y2, y3, y4⟩
  go_wp2_with fail
  clear lA lG x0 x1 x2 x3 x4 y0 y1 y2 y3 y4
  refine (corners_div1 _ s t k b w.heap.size lo hi lo' hi' hs ht hk hb hp hp2 (by rw [← unhide HBT]; exact A.c4)).mono ?_
  rintro r w1 ⟨B1, f1, rfl, hN1, hb1⟩
  replace hBW := bthen hBW hb1
  replace A := A.below hb1
  replace G := G.below hb1
  replace R := R.below hb1
  replace hs := hs.below hb1
  replace ht := ht.below hb1
  clear hb1
  go_wp2_with fail
  refine (leastw_int _ 3 _ (b / 16 + k + 9) f1 _ _ hN1 (by omega) (by omega)).mono ?_
  rintro r w2 ⟨neg2, a2, n2, c2, rfl, hint2, hb2⟩
  replace hBW := bthen hBW hb2
  replace A := A.below hb2
  replace G := G.below hb2
  replace R := R.below hb2
  replace hs := hs.below hb2
  replace ht := ht.below hb2
  clear hb2 hN1
  obtain ⟨W2, hW2⟩ : ∃ W', W' = w2.alloc (.cells #[.bool neg2, .slice a2 n2 c2] 26) := ⟨_, rfl⟩
  have hc2 : Below w2.heap.size w2 W2 := by rw [hW2]; exact bl1 _ _
  have X2 : NmC W2 w2.heap.size ⟨neg2, a2, n2, c2⟩ := by rw [hW2]; exact nmc_new w2 ⟨neg2, a2, n2, c2⟩ _
  have lA := A.lt
  have lG := G.lt
  obtain ⟨x0, x1, x2, x3, x4⟩ := A
  obtain ⟨y0, y1, y2, y3, y4⟩ := G
  have A : SpC w2 w.heap.size s := ⟨x0, x1, x2, x3, x4⟩
  have G : SpC w2 (w.heap.size + 1) t := ⟨y0, y1, y2, y3, y4⟩
  go_wp2_with fail
  rw [← hW2]
  clear hW2
  clear lA lG x0 x1 x2 x3 x4 y0 y1 y2 y3 y4
  have nR2 : w2.heap.size ≠ w.heap.size + 1 + 1 := Nat.ne_of_gt R.lt
  replace hBW := bthen hBW hc2
  replace A := A.below hc2
  replace G := G.below hc2
  replace R := R.below hc2
  replace hs := hs.below hc2
  replace ht := ht.below hc2
  replace hint2 := hint2.below hc2
  clear hc2
  refine (corners_div2 _ s t k b w.heap.size lo hi lo' hi' hs ht hk hb hp hp2 (by rw [← unhide HBT]; exact A.c4)).mono ?_
  rintro r w3 ⟨B3, f3, rfl, hN3, hb3⟩
  replace hBW := bthen hBW hb3
  replace A := A.below hb3
  replace R := R.below hb3
  replace hint2 := hint2.below hb3
  replace X2 := X2.below hb3
  clear hb3
  go_wp2_with fail
  refine (most_int _ 3 _ (b / 16 + k + 9) f3 _ _ hN3 (by omega) (by omega)).mono ?_
  rintro r w4 ⟨neg4, a4, n4, c4, rfl, hint4, hb4⟩
  replace hBW := bthen hBW hb4
  replace A := A.below hb4
  replace R := R.below hb4
  replace hint2 := hint2.below hb4
  replace X2 := X2.below hb4
  clear hb4 hN3
  have lA := A.lt
  have lX := X2.lt
  have lR := R.lt
  have nR2' : w.heap.size + 1 + 1 ≠ w2.heap.size := fun e9 => nR2 e9.symm
  have nR4 : w4.heap.size ≠ w.heap.size + 1 + 1 := Nat.ne_of_gt lR
  have nR4' : w.heap.size + 1 + 1 ≠ w4.heap.size := Nat.ne_of_lt lR
  have nX4 : w2.heap.size ≠ w4.heap.size := Nat.ne_of_lt lX
  obtain ⟨x0, x1, x2, x3, x4⟩ := A
  obtain ⟨z0, z1⟩ := X2
  obtain ⟨q0, q1, q2, q3, q4, q5⟩ := R
  go_wp2_with fail
  refine bodyPost_ret (v := .agg #[.bool neg2, .slice a2 n2 c2, .bool neg4, .slice a4 n4 c4, .int .i64 s.bits]) (by simp [results, Try.results130, go_sem, lR, q0, q1, q2, q3, q4]) rfl ⟨⟨neg2, a2, n2, c2, neg4, a4, n4, c4, s.bits⟩, rfl, unhide HBT, ?_, ?_⟩
  · first | with_reducible exact SpAt.put5 ⟨(hint2.below (bl1 _ _)).mono (by omega), (hint4.below (bl1 _ _)).mono (by omega)⟩ (by simp [go_sem, lR, q0]) (by simp [go_sem, lR, q1]) (by simp [go_sem, lR, q2]) (by simp [go_sem, lR, q3]) (by simp [go_sem, lR, q4]) _ _ _ _ _ | with_reducible exact SpAt.below (SpAt.put5 ⟨hint2.mono (by omega), hint4.mono (by omega)⟩ q0 q1 q2 q3 q4 _ _ _ _ _) (bl1 _ _)
  · first | with_reducible exact set5 (balloc hBW _) (by omega) _ _ _ _ _ | with_reducible exact balloc (set5 hBW (by omega) _ _ _ _ _) _
end Go.Proofs.Ytgmnknmjainabab
