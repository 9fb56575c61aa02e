/-
  What wide.Erf makes has the error function, lies from 0 to 1, and is narrow. Plain arithmetic: no statement of the seat is proved here.
  What the function literal of wide.Erf answers, and wide.rising of what it makes.
  What wide.angle and wide.pi answer, and that they leave old memory alone.
-/
import Derived.Test.YtgmnknmjainababGreatK13
namespace Go.Proofs.YtgmnknmjainababGreat
set_option linter.unusedVariables false
open Ex

/-- x comes to the root of n over d; it is less than 13, and not little unless it is 0. -/
structure ErIn (n d : Int) (x : Nat → Rat) : Prop where
  n0 : 0 ≤ n
  d0 : 0 < d
  rt : RtOf ((n : Rat) / (d : Rat)) x
  up : n < 152 * d
  low : n = 0 ∨ d ≤ 4194304 * n
def erF (n d : Int) (B : Nat) : Int × Int := rootI B (ofI n d B)
/-- The root of a ratio. -/
theorem root_rtS {B : Nat} {a : Int × Int} {y : Rat} {x : Nat → Rat} (hx : RtOf y x) (h : Iv B a (fun _ => y)) {r t : Int} (hr0 : 0 ≤ r) (hr : r * r ≤ a.1 * Q B) (ht0 : 0 ≤ t) (ht : a.2 * Q B ≤ t * t) : Iv B (r, t) x := by
  have q := Qr_pos B
  obtain ⟨h1, h2⟩ := Has.of_const h
  have qq : (0 : Rat) < (Q B : Rat) * (Q B : Rat) := Rat.mul_pos q q
  have pos : ∀ y : Int, 0 ≤ y → (0 : Rat) ≤ (y : Rat) / (Q B : Rat) := fun y hy => rle_div q (by
    have : (0 : Rat) ≤ (y : Rat) := by exact_mod_cast hy
    grind)
  have mid : ∀ y : Int, (y : Rat) / (Q B : Rat) * ((Q B : Rat) * (Q B : Rat)) = (y : Rat) * (Q B : Rat) := fun y => by
    rw [← Rat.mul_assoc, rdm (a := (y : Rat)) q]
  have l1 : ((r : Rat) / (Q B : Rat)) * ((r : Rat) / (Q B : Rat)) ≤ y := by
    refine Rat.le_trans (Rat.le_of_mul_le_mul_right (c := (Q B : Rat) * (Q B : Rat)) ?_ qq) h1
    rw [root_sq, mid]
    have := cast_le hr
    rw [Rat.intCast_mul, Rat.intCast_mul] at this
    exact this
  have l2 : y ≤ ((t : Rat) / (Q B : Rat)) * ((t : Rat) / (Q B : Rat)) := by
    refine Rat.le_trans h2 (Rat.le_of_mul_le_mul_right (c := (Q B : Rat) * (Q B : Rat)) ?_ qq)
    rw [root_sq, mid]
    have := cast_le ht
    rw [Rat.intCast_mul, Rat.intCast_mul] at this
    exact this
  intro e he
  obtain ⟨N1, k1⟩ := hx.ge (pos r hr0) l1 e he
  obtain ⟨N2, k2⟩ := hx.le (pos t ht0) l2 e he
  exact ⟨N1 + N2, fun M hM => ⟨by have := k1 M (by omega); simp only [] at this ⊢; grind, k2 M (by omega)⟩⟩
theorem ErIn.of_lo {n d : Int} {x : Nat → Rat} (h : ErIn n d x) (B : Nat) : 0 ≤ (ofI n d B).1 := by
  have := Q_pos B
  exact Int.ediv_nonneg (Int.mul_nonneg h.n0 (by omega)) (by have := h.d0; omega)
theorem rtZ_zero : rtZ 0 = 0 := rfl
theorem rtU_zero : rtU 0 = 0 := rfl
theorem erF_ok {n d : Int} {x : Nat → Rat} (h : ErIn n d x) (B : Nat) : 0 ≤ (erF n d B).1 ∧ (erF n d B).1 ≤ (erF n d B).2 ∧ (erF n d B).2 ≤ Q (B + 4) ∧ (erF n d B).2 - (erF n d B).1 + 1 ≤ Q 22 ∧ Iv B (erF n d B) x := by
  have q := Q_pos B
  have a0 := h.of_lo B
  have al := ofI_le (n := n) h.d0 B
  obtain ⟨r0, r1, r2, r3⟩ := rootI_bounds (B := B) a0 al
  have up : (ofI n d B).2 ≤ 152 * Q B := by
    have m := Int.mul_le_mul_of_nonneg_right (show n ≤ 152 * d by have := h.up; omega) (show 0 ≤ Q B by omega)
    have : -(152 * Q B) ≤ -(n * Q B) / d := Int.le_ediv_of_mul_le h.d0 (by
      have e : -(152 * Q B) * d = -(152 * d * Q B) := by grind
      omega)
    show -(-(n * Q B) / d) ≤ _
    omega
  have hi := rootI_up (B := B) (a := ofI n d B) (c := 13) (by omega) (by omega) (by omega)
  refine ⟨r0, r1, ?_, ?_, root_rtS h.rt (Iv.of B (n := n) h.d0) r0 r2 (by have := r0; show 0 ≤ (rootI B (ofI n d B)).2; omega) r3⟩
  · have e : Q (B + 4) = 16 * Q B := by rw [Q_add]; have : Q 4 = 16 := rfl; rw [this]; omega
    show (rootI B (ofI n d B)).2 ≤ _
    omega
  · have q22 : Q 22 = 4194304 := rfl
    rcases h.low with hz | hz
    · have e : ofI n d B = (0, 0) := by unfold ofI; rw [hz]; simp
      show (rootI B (ofI n d B)).2 - (rootI B (ofI n d B)).1 + 1 ≤ _
      rw [e]
      unfold rootI
      simp only [Int.zero_mul, rtZ_zero, rtU_zero]
      omega
    · have c1 : n * Q B ≤ (ofI n d B).2 * d := by
        have := dv_ceil (n * Q B) h.d0
        exact this
      have c2 : Q B ≤ 4194304 * (ofI n d B).2 := by
        refine Int.le_of_mul_le_mul_right (a := d) ?_ h.d0
        have m1 := Int.mul_le_mul_of_nonneg_right hz (show 0 ≤ Q B by omega)
        have e1 : Q B * d = d * Q B := Int.mul_comm _ _
        have e2 : 4194304 * (ofI n d B).2 * d = 4194304 * ((ofI n d B).2 * d) := by grind
        have e3 : 4194304 * n * Q B = 4194304 * (n * Q B) := by grind
        omega
      have c3 : Q B ≤ 2048 * (rootI B (ofI n d B)).2 := sqI_le (by omega) (by omega) (by
        have m1 := Int.mul_le_mul_of_nonneg_right c2 (show 0 ≤ Q B by omega)
        have e1 : 2048 * (rootI B (ofI n d B)).2 * (2048 * (rootI B (ofI n d B)).2) = 4194304 * ((rootI B (ofI n d B)).2 * (rootI B (ofI n d B)).2) := by grind
        have e2 : 4194304 * (ofI n d B).2 * Q B = 4194304 * ((ofI n d B).2 * Q B) := by grind
        omega)
      have := rootI_wide (B := B) (W := 1) (g := 2048) a0 al (ofI_wide h.d0 B) (by omega) c3
      show (rootI B (ofI n d B)).2 - (rootI B (ofI n d B)).1 + 1 ≤ _
      omega
/-- The series, and where it ends. -/
def erT (n d : Int) (B : Nat) : Nat → Int × Int := riT (erF n d B) (erU n) (erD d)
theorem sum_hi {f : Nat → Int × Int} {U : Int} (h : ∀ n, (f n).2 ≤ U) (n : Nat) : (sumI f n).2 ≤ ((n : Int) + 1) * U := by
  induction n with
  | zero => have := h 0; show (f 0).2 ≤ _; omega
  | succ n ih =>
    have := h (n + 1)
    show (sumI f n).2 + (f (n + 1)).2 ≤ _
    have e : (((n + 1 : Nat) : Int) + 1) * U = ((n : Int) + 1) * U + U := by push_cast; grind
    omega
theorem sum_lo {f : Nat → Int × Int} (h : ∀ n, 0 ≤ (f n).1) (n : Nat) : 0 ≤ (sumI f n).1 := by
  induction n with
  | zero => exact h 0
  | succ n ih => have := h (n + 1); show 0 ≤ (sumI f n).1 + (f (n + 1)).1; omega
theorem erT_set {n d : Int} {x : Nat → Rat} (h : ErIn n d x) (B : Nat) : ∃ N, N ≤ 3 * B + 8523 ∧ IsRise (erT n d B) (erTurn n d) N := by
  obtain ⟨f1, f2, f3, f4, f5⟩ := erF_ok h B
  have hh := er_hi (B := B) h.n0 h.d0 h.up f1 f2 f3 (erTurn n d)
  have ht := er_turn h.n0 h.d0 h.up
  obtain ⟨N, n1, n2⟩ := rise_ex (turn := erTurn n d) (H := B + 2740) (er_ok h.n0 h.d0) f1 f2 (fun k hk => er_34 h.n0 h.d0 k hk) (by omega)
  have e : 3 * (B + 2740) = 3 * B + 8220 := Nat.mul_add 3 B 2740
  rw [e] at n1
  refine ⟨N, Nat.le_trans n1 (Nat.le_trans (Nat.add_le_add_right ht _) (Nat.le_of_eq ?_)), n2⟩
  rw [Nat.add_comm 303, Nat.add_assoc]
theorem erT_each {n d : Int} {x : Nat → Rat} (h : ErIn n d x) (B k : Nat) : 0 ≤ (erT n d B k).1 ∧ (erT n d B k).1 ≤ (erT n d B k).2 ∧ (erT n d B k).2 ≤ Q (B + 2740) ∧ (erT n d B k).2 - (erT n d B k).1 ≤ Q 2760 := by
  obtain ⟨f1, f2, f3, f4, f5⟩ := erF_ok h B
  exact ⟨riT_nonneg (er_ok h.n0 h.d0) f1 k, riT_le (er_ok h.n0 h.d0) f2 k, er_hi h.n0 h.d0 h.up f1 f2 f3 k, er_wide h.n0 h.d0 h.up f2 f4 k⟩
theorem Q_s (k : Nat) : Q (k + 1) = 2 * Q k := rfl
theorem mul_Q20 {N : Nat} (hN : N ≤ 50000) (U : Nat) (hU : 4 ≤ U) : ((N : Int) + 1) * Q U + 9 ≤ Q (U + 20) := by
  have q := Q_pos U
  have q4 := Q_mono hU
  have e4 : Q 4 = 16 := rfl
  have e : Q (U + 20) = 1048576 * Q U := by rw [Q_add]; have : Q 20 = 1048576 := rfl; rw [this]; omega
  have m := Int.mul_le_mul_of_nonneg_right (show (N : Int) + 1 ≤ 50001 by omega) (show 0 ≤ Q U by omega)
  omega
theorem erT_sum {n d : Int} {x : Nat → Rat} (h : ErIn n d x) (B : Nat) (hB : B ≤ 10000) (k : Nat) (hk : k ≤ 50000) : 0 ≤ (sumI (erT n d B) k).1 ∧ (sumI (erT n d B) k).1 ≤ (sumI (erT n d B) k).2 ∧ (sumI (erT n d B) k).2 + 9 ≤ Q (B + 2760) ∧ (sumI (erT n d B) k).2 - (sumI (erT n d B) k).1 + 9 ≤ Q 2780 := by
  have h1 := sum_lo (f := erT n d B) (fun j => (erT_each h B j).1) k
  have h2 := sum_le (f := erT n d B) (fun j => (erT_each h B j).2.1) k
  have h3 := sum_hi (f := erT n d B) (fun j => (erT_each h B j).2.2.1) k
  have h4 := sum_wide (f := erT n d B) (fun j => (erT_each h B j).2.2.2) k
  have m1 := mul_Q20 hk (B + 2740) (by omega)
  have m2 := mul_Q20 hk 2760 (by omega)
  rw [show B + 2740 + 20 = B + 2760 by omega] at m1
  rw [show 2760 + 20 = 2780 by rfl] at m2
  exact ⟨h1, h2, by omega, by omega⟩
theorem er_valG {n d : Int} {x : Nat → Rat} (hd : 0 < d) (k M : Nat) : riV x (erU n) (erD d) k M = x M * gT ((n : Rat) / (d : Rat)) k := by
  induction k with
  | zero => show x M = x M * 1; grind
  | succ k ih =>
    show ((erU n (k + 1) : Int) : Rat) / ((erD d (k + 1) : Int) : Rat) * riV x (erU n) (erD d) k M = x M * (2 * ((n : Rat) / (d : Rat)) / (2 * ((k : Rat) + 1) + 1) * gT ((n : Rat) / (d : Rat)) k)
    rw [ih]
    have d0 : (0 : Rat) < (d : Rat) := by exact_mod_cast hd
    have p := odd_pos k
    have e1 : ((erU n (k + 1) : Int) : Rat) = 2 * (n : Rat) := by unfold erU; rw [Rat.intCast_mul]; rfl
    have e2 : ((erD d (k + 1) : Int) : Rat) = (d : Rat) * (2 * ((k : Rat) + 1) + 1) := by
      unfold erD
      rw [Rat.intCast_mul]
      congr 1
      rw [Rat.intCast_add, Rat.intCast_mul]
      push_cast
      rfl
    have q : (0 : Rat) < (d : Rat) * (2 * ((k : Rat) + 1) + 1) := Rat.mul_pos d0 p
    have r0 := rdm (a := (n : Rat)) d0
    have r1 := rdm (a := 2 * (n : Rat)) q
    have r2 := rdm (a := 2 * ((n : Rat) / (d : Rat))) p
    have e3 : 2 * (n : Rat) / ((d : Rat) * (2 * ((k : Rat) + 1) + 1)) = 2 * ((n : Rat) / (d : Rat)) / (2 * ((k : Rat) + 1) + 1) := by
      have lhs : 2 * ((n : Rat) / (d : Rat)) / (2 * ((k : Rat) + 1) + 1) * ((d : Rat) * (2 * ((k : Rat) + 1) + 1)) = 2 * (n : Rat) := by
        have : 2 * ((n : Rat) / (d : Rat)) / (2 * ((k : Rat) + 1) + 1) * ((d : Rat) * (2 * ((k : Rat) + 1) + 1)) = (2 * ((n : Rat) / (d : Rat)) / (2 * ((k : Rat) + 1) + 1) * (2 * ((k : Rat) + 1) + 1)) * (d : Rat) := by grind
        rw [this, r2, Rat.mul_assoc, r0]
      exact Rat.le_antisymm (Rat.le_of_mul_le_mul_right (by rw [lhs, r1]; exact Rat.le_refl) q) (Rat.le_of_mul_le_mul_right (by rw [lhs, r1]; exact Rat.le_refl) q)
    rw [e1, e2, e3]
    generalize 2 * ((n : Rat) / (d : Rat)) / (2 * ((k : Rat) + 1) + 1) = c
    grind
theorem er_hasG {B N : Nat} {a : Int × Int} {n d : Int} {x : Nat → Rat} (hn : 0 ≤ n) (hd : 0 < d) (hx : RtOf ((n : Rat) / (d : Rat)) x) (ha : Iv B a x) (hN : IsRise (riT a (erU n) (erD d)) (erTurn n d) N) : Iv B (riseI (riT a (erU n) (erD d)) N) (fun M => x M * gS ((n : Rat) / (d : Rat)) M) := by
  have h := rising_has (er_ok hn hd) ha 0 (fun M _ => hx.nn M) (fun k hk => er_34 hn hd k hk) hN
  refine Has.of_eq h fun M => ?_
  have : ∀ j, S (fun k => riV x (erU n) (erD d) k M) j = x M * S (gT ((n : Rat) / (d : Rat))) j := fun j => by
    induction j with
    | zero => show (0 : Rat) = x M * 0; grind
    | succ j ih =>
      show S (fun k => riV x (erU n) (erD d) k M) j + riV x (erU n) (erD d) j M = x M * (S (gT ((n : Rat) / (d : Rat))) j + gT ((n : Rat) / (d : Rat)) j)
      rw [ih, er_valG hd]; grind
  exact (this M).symm
def erSer (n d : Int) (B N : Nat) : Int × Int := riseI (erT n d B) N
theorem erSer_ok {n d : Int} {x : Nat → Rat} (h : ErIn n d x) {B N : Nat} (hB : B ≤ 10000) (hN : N ≤ 3 * B + 8523) (hR : IsRise (erT n d B) (erTurn n d) N) : 0 ≤ (erSer n d B N).1 ∧ (erSer n d B N).1 ≤ (erSer n d B N).2 ∧ (erSer n d B N).2 ≤ Q (B + 2760) ∧ (erSer n d B N).2 - (erSer n d B N).1 ≤ Q 2780 ∧ Iv B (erSer n d B N) (fun M => x M * gS ((n : Rat) / (d : Rat)) M) := by
  have hN5 : N ≤ 50000 := by omega
  obtain ⟨s1, s2, s3, s4⟩ := erT_sum h B hB N hN5
  obtain ⟨f1, f2, f3, f4, f5⟩ := erF_ok h B
  have e1 : (erSer n d B N).1 = (sumI (erT n d B) N).1 := by show (sumI (erT n d B) N).1 + 0 = _; omega
  have e2 : (erSer n d B N).2 = (sumI (erT n d B) N).2 + 9 := rfl
  refine ⟨by omega, by omega, by omega, by omega, er_hasG h.n0 h.d0 h.rt f5 hR⟩
/-- e to the power of its square. -/
def erX (n d : Int) (B t N : Nat) : Int × Int := sqI B (doneI (expT B (downI (ofI n d B) t)) N) t
theorem erX_set {n d : Int} {x : Nat → Rat} (h : ErIn n d x) {B : Nat} (hB : 40 ≤ B) : ∃ (l : Int) (t N : Nat), LenIs (reachI (ofI n d B)) l ∧ (t : Int) = max 0 (l - B + 8) ∧ t ≤ 16 ∧ Abs (downI (ofI n d B) t) (Q (B - 8)) ∧ IsStop (expT B (downI (ofI n d B) t)) N := by
  have := h.n0
  have := h.d0
  have := h.up
  obtain ⟨l, t, N, e1, e2, e3, e4, e5⟩ := exp_set (B := B) (e := 8) (by omega) (ofI_le h.d0 B) (of_reach (p := n) (q := d) (n := 152) (b := B) (e := 8) h.d0 (by omega) (by omega) (by decide))
  exact ⟨l, t, N, e1, e2, by omega, e4, e5⟩
theorem erX_ok {n d : Int} {x : Nat → Rat} (h : ErIn n d x) {B t N : Nat} (hB : 40 ≤ B) (hB2 : B ≤ 10000) (ht : t ≤ 16) (hA : Abs (downI (ofI n d B) t) (Q (B - 8))) (hN : IsStop (expT B (downI (ofI n d B) t)) N) :
    Q B + 1 ≤ 2 * (erX n d B t N).1 ∧ (erX n d B t N).1 ≤ (erX n d B t N).2 ∧ Abs (erX n d B t N) (Q (B + 1536)) ∧ (erX n d B t N).2 - (erX n d B t N).1 ≤ Q 1700 ∧ Iv B (erX n d B t N) (ex ((n : Rat) / (d : Rat))) := by
  have q := Q_pos t
  have al := ofI_le (n := n) h.d0 B
  obtain ⟨g1, g2, g3, g4⟩ := exp_bound (ws := 1) (by omega) hA al (by have := ofI_wide (n := n) h.d0 B; omega) hN
  have hwb := Q_mono (wb_mono (show t ≤ 17 by omega))
  rw [wb_17] at hwb
  have heb := Q_mono (show B + eb t ≤ B + 1536 by have := eb_mono (show t ≤ 17 by omega); rw [eb_17] at this; omega)
  have hiv := Iv.of B (n := n) h.d0
  refine ⟨exp_low (h.of_lo B) al (by omega) hB hN, g1, g2.mono heb, ?_, exp_has (by omega) hiv hA⟩
  have m := Int.mul_le_mul (show ((N : Int) + 1) * (2 * 1 + 6) + 3 ≤ 1048576 by omega) hwb (by have := Q_pos (wb t); omega) (by omega)
  have e : Q 1700 = 4 * (1048576 * Q 1678) := by
    rw [show 1700 = 1678 + 22 by rfl, Q_add]; have : Q 22 = 4194304 := rfl; rw [this]; omega
  have q2 := Q_pos 1678
  show (sqI B (doneI (expT B (downI (ofI n d B) t)) N) t).2 - (sqI B (doneI (expT B (downI (ofI n d B) t)) N) t).1 ≤ _
  omega
/-- The root of what the angles make. -/
def erP (B N5 N9 : Nat) : Int × Int := rootI B (piI B N5 N9)
theorem erP_ok {B N5 N9 : Nat} {R : Nat → Rat} (hR : RootS piS R) (hB : 32 ≤ B) (hB2 : B ≤ 10000) (h5 : IsStop (agT 5 B) N5) (h9 : IsStop (agT 239 B) N9) :
    Q B ≤ (erP B N5 N9).1 ∧ (erP B N5 N9).1 ≤ (erP B N5 N9).2 ∧ (erP B N5 N9).2 ≤ 8 * Q B + 1 ∧ (erP B N5 N9).2 - (erP B N5 N9).1 ≤ 1048576 ∧ Iv B (erP B N5 N9) R := by
  obtain ⟨p1, p2, p3, p4⟩ := pi_bound hB h5 h9
  have q := Q_pos B
  obtain ⟨r0, r1, r2, r3⟩ := rootI_bounds (B := B) (a := piI B N5 N9) (by omega) p1
  have lo : Q B ≤ (rootI B (piI B N5 N9)).1 := by
    have m := Int.mul_le_mul_of_nonneg_right p2 (show 0 ≤ Q B by omega)
    have z := (rtZ_sq (show 0 ≤ (piI B N5 N9).1 * Q B by have := Int.mul_nonneg (show 0 ≤ Q B by omega) (show 0 ≤ Q B by omega); omega)).2
    have n0 := rtZ_nonneg ((piI B N5 N9).1 * Q B)
    show Q B ≤ rtZ ((piI B N5 N9).1 * Q B)
    refine Int.not_lt.1 fun hlt => ?_
    have m2 := Int.mul_le_mul (show rtZ ((piI B N5 N9).1 * Q B) + 1 ≤ Q B by omega) (show rtZ ((piI B N5 N9).1 * Q B) + 1 ≤ Q B by omega) (by omega) (by omega)
    omega
  have hi := rootI_up (B := B) (a := piI B N5 N9) (c := 8) (by omega) (by omega) (by omega)
  have w := rootI_wide (B := B) (a := piI B N5 N9) (W := 20 * (B : Int) + 120) (g := 1) (by omega) p1 p4 (by omega) (by omega)
  refine ⟨lo, r1, hi, ?_, root_iv (r := (rootI B (piI B N5 N9)).1) (t := (rootI B (piI B N5 N9)).2) (pi_has B N5 N9) hR r2 (by omega) r3⟩
  show (rootI B (piI B N5 N9)).2 - (rootI B (piI B N5 N9)).1 ≤ _
  omega
/-- What it is divided by. -/
def erDn (n d : Int) (B t N N5 N9 : Nat) : Int × Int := mulI B (erP B N5 N9) (erX n d B t N)
theorem erDn_ok {n d : Int} {x : Nat → Rat} {R : Nat → Rat} (hR : RootS piS R) (h : ErIn n d x) {B t N N5 N9 : Nat} (hB : 40 ≤ B) (hB2 : B ≤ 10000) (ht : t ≤ 16) (hA : Abs (downI (ofI n d B) t) (Q (B - 8))) (hN : IsStop (expT B (downI (ofI n d B) t)) N) (h5 : IsStop (agT 5 B) N5) (h9 : IsStop (agT 239 B) N9) :
    Q B + 1 ≤ 2 * (erDn n d B t N N5 N9).1 ∧ (erDn n d B t N N5 N9).1 ≤ (erDn n d B t N N5 N9).2 ∧ (erDn n d B t N N5 N9).2 ≤ Q (B + 1540) ∧ (erDn n d B t N N5 N9).2 - (erDn n d B t N N5 N9).1 ≤ Q 1710 ∧ Iv B (erDn n d B t N N5 N9) (fun M => R M * ex ((n : Rat) / (d : Rat)) M) := by
  obtain ⟨x1, x2, x3, x4, x5⟩ := erX_ok h hB hB2 ht hA hN
  obtain ⟨p1, p2, p3, p4, p5⟩ := erP_ok hR (by omega) hB2 h5 h9
  have q := Q_pos B
  have PA : Abs (erP B N5 N9) (16 * Q B) := ⟨by omega, by omega, by omega, by omega⟩
  have e40 : Q (B + 1540) * Q B = 16 * Q B * Q (B + 1536) := by
    rw [show B + 1540 = (B + 1536) + 4 by omega, Q_add (B + 1536) 4]
    have : Q 4 = 16 := rfl
    rw [this]; grind
  have ab := mulI_abs (B := B) (p := Q (B + 1540)) PA x3 (by omega)
  refine ⟨?_, mulI_le B, ab.2.2.2, ?_, p5.mul x5⟩
  · obtain ⟨_, _, _, _, hh⟩ := least4 ((erP B N5 N9).1 * (erX n d B t N).1) ((erP B N5 N9).1 * (erX n d B t N).2) ((erP B N5 N9).2 * (erX n d B t N).1) ((erP B N5 N9).2 * (erX n d B t N).2)
    have y0 : 0 ≤ (erX n d B t N).1 := by omega
    have m0 := Int.mul_le_mul_of_nonneg_right p1 y0
    have m1 := Int.mul_le_mul_of_nonneg_left x2 (show 0 ≤ (erP B N5 N9).1 by omega)
    have m2 := Int.mul_le_mul_of_nonneg_right p2 y0
    have m3 := Int.mul_le_mul_of_nonneg_left x2 (show 0 ≤ (erP B N5 N9).2 by omega)
    have k : (erX n d B t N).1 ≤ (erDn n d B t N N5 N9).1 := by
      refine Int.le_ediv_of_mul_le (by omega) ?_
      rw [Int.mul_comm]
      omega
    omega
  · have w := mulI_wide (B := B) (c := 16 * Q 1700 + Q 1536 * 1048576) PA x3 p2 x2 (by
      have m1 := Int.mul_le_mul_of_nonneg_left x4 (show 0 ≤ 16 * Q B by omega)
      have m2 := Int.mul_le_mul_of_nonneg_left p4 (show 0 ≤ Q (B + 1536) by have := Q_pos (B + 1536); omega)
      have e : Q (B + 1536) = Q B * Q 1536 := Q_add B 1536
      have e2 : (16 * Q 1700 + Q 1536 * 1048576) * Q B = 16 * Q B * Q 1700 + Q B * Q 1536 * 1048576 := by grind
      rw [e] at m2 ⊢
      omega)
    have e1 : Q 1710 = 1024 * Q 1700 := by rw [show 1710 = 1700 + 10 by rfl, Q_add]; have : Q 10 = 1024 := rfl; rw [this]; omega
    have e3 : Q 1556 = Q 1536 * 1048576 := by rw [show 1556 = 1536 + 20 by rfl, Q_add]; rfl
    have e4 := Q_mono (show 1556 ≤ 1700 by omega)
    have q2 := Q_pos 1700
    show (mulI B (erP B N5 N9) (erX n d B t N)).2 - (mulI B (erP B N5 N9) (erX n d B t N)).1 ≤ _
    omega
theorem dv_wide2 {s1 s2 t1 t2 q V W C : Int} (hq : 0 < q) (h0 : 0 ≤ s1) (hV : 0 ≤ V) (h1 : s2 - s1 ≤ V) (hC : 1 ≤ C) (h2 : s1 ≤ C * t2) (h3 : t1 ≤ t2) (h4 : t2 - t1 ≤ W) (h5 : q + 1 ≤ 2 * t1) : -(-(s2 * q) / t1) - s1 * q / t2 ≤ 2 * V + 2 * (C * W) + 4 := by
  obtain ⟨hi, ehi⟩ : ∃ hi, hi = -(-(s2 * q) / t1) := ⟨_, rfl⟩
  obtain ⟨lo, elo⟩ : ∃ lo, lo = s1 * q / t2 := ⟨_, rfl⟩
  rw [← ehi, ← elo]
  have t0 : 0 < t1 := by omega
  have c1 : (hi - 1) * t1 < s2 * q := by
    have := Int.lt_ediv_add_one_mul_self (-(s2 * q)) t0
    have e : (hi - 1) * t1 = -((-(s2 * q) / t1 + 1) * t1) := by rw [ehi]; grind
    omega
  have c2 : s1 * q < (lo + 1) * t2 := by rw [elo]; exact Int.lt_ediv_add_one_mul_self _ (by omega)
  have c3 : lo ≤ C * q := by
    rw [elo]
    refine Int.ediv_le_of_le_mul (by omega) ?_
    have := Int.mul_le_mul_of_nonneg_right h2 (show 0 ≤ q by omega)
    have e : C * t2 * q = C * q * t2 := by grind
    omega
  have c4 : 0 ≤ lo := by rw [elo]; exact Int.ediv_nonneg (Int.mul_nonneg h0 (by omega)) (by omega)
  refine Int.not_lt.1 fun hn => ?_
  have W0 : 0 ≤ W := by omega
  have CW : W ≤ C * W := by have := Int.mul_le_mul_of_nonneg_right hC W0; omega
  obtain ⟨X, hX⟩ : ∃ X, X = C * W := ⟨_, rfl⟩
  rw [← hX] at hn CW
  have d1 := Int.mul_le_mul_of_nonneg_right (show (lo + 1) + (2 * V + 2 * X + 3) ≤ hi - 1 by omega) (show 0 ≤ t1 by omega)
  have d2 := Int.mul_le_mul_of_nonneg_left h4 (show 0 ≤ lo + 1 by omega)
  have d3 := Int.mul_le_mul_of_nonneg_right (show lo + 1 ≤ C * q + 1 by omega) W0
  have d4 := Int.mul_le_mul_of_nonneg_right h1 (show 0 ≤ q by omega)
  have d5 := Int.mul_le_mul_of_nonneg_left h5 (show 0 ≤ V + X by omega)
  have e1 : (lo + 1 + (2 * V + 2 * X + 3)) * t1 = (lo + 1) * t2 - (lo + 1) * (t2 - t1) + (V + X) * (2 * t1) + 3 * t1 := by grind
  have e2 : (s2 - s1) * q = s2 * q - s1 * q := by grind
  have e3 : (C * q + 1) * W = X * q + W := by rw [hX]; grind
  have e4 : (V + X) * (q + 1) = V * q + X * q + V + X := by grind
  omega
theorem w_fin {x v y z : Int} (h : x ≤ 2 * (2 * v) + 2 * y + 4) (hv : v ≤ y) (hy : 0 < y) (hz : z = 134217728 * y) : x ≤ z := by omega
/-- What wide.Erf makes. -/
def cap1 (B : Nat) (a : Int × Int) : Int × Int := (a.1, if a.2 ≤ Q B then a.2 else Q B)
def erQ (n d : Int) (B M t N N5 N9 : Nat) : Int × Int := (dvLo ((erSer n d B M).1 * 2) ((erSer n d B M).2 * 2) (erDn n d B t N N5 N9).1 (erDn n d B t N N5 N9).2 B, dvHi ((erSer n d B M).1 * 2) ((erSer n d B M).2 * 2) (erDn n d B t N N5 N9).1 (erDn n d B t N N5 N9).2 B)
theorem cap1_wide {B : Nat} {a : Int × Int} {w : Int} (h : a.2 - a.1 ≤ w) (h2 : a.1 ≤ Q B) : (cap1 B a).2 - (cap1 B a).1 ≤ w := by
  unfold cap1; simp only []; split <;> omega
theorem Iv.capN {B : Nat} {a : Int × Int} {x : Nat → Rat} (h : Iv B a x) (hx : LeN x (fun _ => 1)) : Iv B (cap1 B a) x := by
  unfold cap1
  split
  · exact h
  · intro e he
    obtain ⟨N, hN⟩ := h e he
    obtain ⟨N0, hN0⟩ := hx e he
    refine ⟨N + N0, fun M hM => ?_⟩
    have g := (hN M (by omega)).1
    have g2 := hN0 M (by omega)
    have q := Qr_pos B
    have e1 : (Q B : Rat) / (Q B : Rat) = 1 := by rw [Rat.div_def, Rat.mul_inv_cancel _ (by grind)]
    simp only []
    rw [e1]
    constructor <;> grind
theorem Iv.lo_one {B : Nat} {a : Int × Int} {x : Nat → Rat} (h : Iv B a x) (hx : LeN x (fun _ => 1)) : a.1 ≤ Q B := by
  refine Int.not_lt.1 fun hlt => ?_
  have q := Qr_pos B
  have h1 : ((Q B + 1 : Int) : Rat) ≤ (a.1 : Rat) := cast_le (by omega)
  have h2 : 1 + 1 / (Q B : Rat) ≤ (a.1 : Rat) / (Q B : Rat) := by
    refine rle_div q ?_
    have e : (1 + 1 / (Q B : Rat)) * (Q B : Rat) = (Q B : Rat) + 1 / (Q B : Rat) * (Q B : Rat) := by grind
    rw [e, rdm q]
    rw [Rat.intCast_add] at h1
    exact h1
  have u0 : (0 : Rat) < 1 / (Q B : Rat) := rdiv_pos (by grind) q
  obtain ⟨N1, k1⟩ := h (1 / (Q B : Rat) / 4) (by grind)
  obtain ⟨N2, k2⟩ := hx (1 / (Q B : Rat) / 4) (by grind)
  have a1 := (k1 (N1 + N2) (by omega)).1
  have a2 := k2 (N1 + N2) (by omega)
  grind
theorem erf_ok {n d : Int} {x : Nat → Rat} {R : Nat → Rat} (hR : RootS piS R) (h : ErIn n d x) {B M t N N5 N9 : Nat} (hB : 40 ≤ B) (hB2 : B ≤ 10000) (hM : M ≤ 3 * B + 8523) (hM2 : IsRise (erT n d B) (erTurn n d) M) (ht : t ≤ 16) (hA : Abs (downI (ofI n d B) t) (Q (B - 8))) (hN : IsStop (expT B (downI (ofI n d B) t)) N) (h5 : IsStop (agT 5 B) N5) (h9 : IsStop (agT 239 B) N9) :
    Iv B (cap1 B (erQ n d B M t N N5 N9)) (erfG R ((n : Rat) / (d : Rat)) x) ∧ 0 ≤ (cap1 B (erQ n d B M t N N5 N9)).1 ∧ (cap1 B (erQ n d B M t N N5 N9)).1 ≤ (cap1 B (erQ n d B M t N N5 N9)).2 ∧ (cap1 B (erQ n d B M t N N5 N9)).2 ≤ Q B ∧ (cap1 B (erQ n d B M t N N5 N9)).2 - (cap1 B (erQ n d B M t N N5 N9)).1 ≤ Q 4500 := by
  obtain ⟨s1, s2, s3, s4, s5⟩ := erSer_ok h hB2 hM hM2
  obtain ⟨d1, d2, d3, d4, d5⟩ := erDn_ok hR h hB hB2 ht hA hN h5 h9
  have q := Q_pos B
  have one := erfG_one hR h.rt
  have iv : Iv B (erQ n d B M t N N5 N9) (erfG R ((n : Rat) / (d : Rat)) x) := by
    have := Iv.dv (s := timesI (erSer n d B M) 2) (s5.times 2) d5 (show 0 ≤ (erSer n d B M).1 * 2 by omega) (by omega)
    exact this
  obtain ⟨e1, e2⟩ := dv_pos (b := B) (lo := (erSer n d B M).1 * 2) (hi := (erSer n d B M).2 * 2) (lo' := (erDn n d B t N N5 N9).1) (hi' := (erDn n d B t N N5 N9).2) (by omega) (by omega) (by omega) d2
  have lo1 := iv.lo_one one
  have ed1 : (erQ n d B M t N N5 N9).1 = (erSer n d B M).1 * 2 * Q B / (erDn n d B t N N5 N9).2 := e1
  have ed2 : (erQ n d B M t N N5 N9).2 = -(-((erSer n d B M).2 * 2 * Q B) / (erDn n d B t N N5 N9).1) := e2
  have l0 : 0 ≤ (erQ n d B M t N N5 N9).1 := by
    rw [ed1]
    exact Int.ediv_nonneg (Int.mul_nonneg (by omega) (by omega)) (by omega)
  have le := iv.le
  have w : (erQ n d B M t N N5 N9).2 - (erQ n d B M t N N5 N9).1 ≤ Q 4500 := by
    rw [ed1, ed2]
    have C0 := Q_pos 2763
    have := dv_wide2 (s1 := (erSer n d B M).1 * 2) (s2 := (erSer n d B M).2 * 2) (t1 := (erDn n d B t N N5 N9).1) (t2 := (erDn n d B t N N5 N9).2) (q := Q B) (V := 2 * Q 2780) (W := Q 1710) (C := Q 2763) (by omega) (by omega) (by have := Q_pos 2780; omega) (by omega) (by omega) (by
      have m := Int.mul_le_mul_of_nonneg_left (show Q B ≤ 2 * (erDn n d B t N N5 N9).2 by omega) (show 0 ≤ Q 2761 by have := Q_pos 2761; omega)
      have e : Q (B + 2760) = Q B * Q 2760 := Q_add B 2760
      have e6 : Q 2761 = 2 * Q 2760 := Q_s 2760
      have e7 : Q 2763 = 2 * (2 * Q 2761) := by rw [← Q_s 2761]; exact Q_s 2762
      have e8 : Q 2761 * Q B = 2 * (Q B * Q 2760) := by rw [e6]; grind
      have e9 : Q 2763 * (erDn n d B t N N5 N9).2 = 2 * (Q 2761 * (2 * (erDn n d B t N N5 N9).2)) := by rw [e7]; grind
      have q9 := Int.mul_nonneg (show 0 ≤ Q B by omega) (show 0 ≤ Q 2760 by have := Q_pos 2760; omega)
      omega) d2 d4 d1
    have e3 : Q 4473 = Q 2763 * Q 1710 := by rw [← Q_add]
    have e4 := Q_mono (show 2780 ≤ 4473 by omega)
    have e5 : Q 4500 = 134217728 * Q 4473 := by
      rw [show 4500 = 27 + 4473 by rfl, Q_add]
      rfl
    rw [e3] at e4 e5
    exact w_fin this e4 (by rw [← e3]; exact Q_pos 4473) e5
  refine ⟨iv.capN one, l0, ?_, ?_, cap1_wide w lo1⟩
  · clear w; unfold cap1; simp only []; split <;> omega
  · clear w; unfold cap1; simp only []; split <;> omega
end Go.Proofs.YtgmnknmjainababGreat

namespace Go.Proofs.YtgmnknmjainababGreat
set_option linter.unusedVariables false
set_option linter.unusedSimpArgs false
set_option linter.unnecessarySimpa false
open Go.RowKit
attribute [local go_sem ↓] Go.wp_at_zero Go.wp_at_succ

set_option maxRecDepth 100000 in
set_option maxHeartbeats 2000000 in
theorem er1_iv (w : World) (B0 B1 : Nat) (s : Sp) (x y : Nm) (k k1 k2 b : Nat) (n : Int) (a : Int × Int) (u v : Int) (hs : SpAt w s k a.1 a.2) (hx : IntAt w x.neg x.a x.n x.cap k1 u) (hy : IntAt w y.neg y.a y.n y.cap k2 v) (X : NmC w B0 x) (Y : NmC w B1 y) (hk : k ≤ 100000000) (hk1 : k1 ≤ 1000000) (hk2 : k2 ≤ 1000000) (hb : s.bits = (b : Int)) (hn : 0 ≤ n) (hn2 : n ≤ 1000000000000) (hv : 0 < v) :
    Calls Tryz.prog 160 #[.agg #[.bool s.ln, .slice s.la s.lN s.lc, .bool s.hn, .slice s.ha s.hN s.hc, .int .i64 s.bits], .int .i64 n, .pointer (some ⟨B0, 0, none⟩), .pointer (some ⟨B1, 0, none⟩)] w (SpanAns w b (k + k1 + 10) (scaleI a u (v * (2 * n + 1))).1 (scaleI a u (v * (2 * n + 1))).2) := by
  obtain ⟨W, hW⟩ : ∃ W, W = (w.alloc (.cells #[.bool s.ln, .slice s.la s.lN s.lc, .bool s.hn, .slice s.ha s.hN s.hc, .int .i64 s.bits] 28)).alloc (.cells #[.bool false, .slice none 0 0, .bool false, .slice none 0 0, .int .i64 0] 28) := ⟨_, rfl⟩
  have hBW : Below w.heap.size w W := by rw [hW]; exact bl2 _ _ _
  have A : SpC W w.heap.size s := by rw [hW]; exact ⟨by simp [go_sem], by simp [go_sem], by simp [go_sem], by simp [go_sem], by simp [go_sem]⟩
  have R : NoC W (w.heap.size + 1) := by rw [hW]; exact ⟨by simp [go_sem], by simp [go_sem], by simp [go_sem], by simp [go_sem], by simp [go_sem], fun o => by simp [go_sem]⟩
  have HS := hide (hs.below hBW)
  have HX := hide (hx.below hBW)
  have HY := hide (hy.below hBW)
  have l0 := X.lt
  have l1 := Y.lt
  replace X := X.below hBW
  replace Y := Y.below hBW
  have HB := hide hb
  have HP := hide (show 0 < v * (2 * n + 1) from Int.mul_pos hv (by omega))
  have lR := R.lt
  have lA := A.lt
  have HE1 := hide (show IntKind.i64.wrap (2 * n) = 2 * n from i64_id _ (by omega) (by omega))
  have HE2 := hide (show IntKind.i64.wrap (2 * n + 1) = 2 * n + 1 from i64_id _ (by omega) (by omega))
  clear hs hx hy hb
  have hB0 : Below W.heap.size W W.drew := (Below.refl _ _).drew
  have HK := hide (show ∀ w', Below W.heap.size W w' → (w'.cell? ⟨w.heap.size, 0, none⟩ = some (.bool s.ln) ∧ w'.cell? ⟨w.heap.size, 1, none⟩ = some (.slice s.la s.lN s.lc) ∧ w'.cell? ⟨w.heap.size, 2, none⟩ = some (.bool s.hn) ∧ w'.cell? ⟨w.heap.size, 3, none⟩ = some (.slice s.ha s.hN s.hc) ∧ w'.cell? ⟨w.heap.size, 4, none⟩ = some (.int .i64 s.bits) ∧ w'.cell? ⟨B0, 0, none⟩ = some (.bool x.neg) ∧ w'.cell? ⟨B0, 1, none⟩ = some (.slice x.a x.n x.cap) ∧ w'.cell? ⟨B1, 0, none⟩ = some (.bool y.neg) ∧ w'.cell? ⟨B1, 1, none⟩ = some (.slice y.a y.n y.cap)) from fun w' hB => ⟨(A.below hB).c0, (A.below hB).c1, (A.below hB).c2, (A.below hB).c3, (A.below hB).c4, (X.below hB).c0, (X.below hB).c1, (Y.below hB).c0, (Y.below hB).c1⟩)
  go_enter Tryz.func160, Tryz.ntmps160
  go_wp2
  rw [← hW]
  clear hW
  have nB0 : w.heap.size + 1 ≠ B0 := by omega
  have nB1 : w.heap.size + 1 ≠ B1 := by omega
  obtain ⟨x0, x1, x2, x3, x4, x5, x6, x7, x8⟩ := unhide HK _ (Below.refl _ _)
  go_region_held3 (fun w' => w'.cell? ⟨w.heap.size, 0, none⟩ = some (.bool s.ln) ∧ w'.cell? ⟨w.heap.size, 1, none⟩ = some (.slice s.la s.lN s.lc) ∧ w'.cell? ⟨w.heap.size, 2, none⟩ = some (.bool s.hn) ∧ w'.cell? ⟨w.heap.size, 3, none⟩ = some (.slice s.ha s.hN s.hc) ∧ w'.cell? ⟨w.heap.size, 4, none⟩ = some (.int .i64 s.bits) ∧ w'.cell? ⟨B0, 0, none⟩ = some (.bool x.neg) ∧ w'.cell? ⟨B0, 1, none⟩ = some (.slice x.a x.n x.cap) ∧ w'.cell? ⟨B1, 0, none⟩ = some (.bool y.neg) ∧ w'.cell? ⟨B1, 1, none⟩ = some (.slice y.a y.n y.cap)) (first | exact unhide HK _ (by first | with_reducible exact hB0 | with_reducible exact hB3 | with_reducible exact hB2 | with_reducible exact hB1) | go_keep)
    (first
      | (go_at_call 143; have hq := hB2; refine (scale_iv _ s ⟨x.neg, x.a, x.n, x.cap⟩ ⟨neg2, a2, n2, c2⟩ k k1 _ b a u (v * (2 * n + 1)) ((unhide HS).below hB2) ((unhide HX).below hB2) hint2 (by omega) (by omega) (unhide HP) (unhide HB)).mono ?_; rintro r w3 ⟨t, rfl, htb, htp, hb3⟩; have HT := hide htb; clear htb; have hB3 := bthen hB2 hb3; obtain ⟨q0, q1, q2, q3, q4, q5⟩ := R.below hB3; obtain ⟨i0, i1, i2, i3, i4, i5, i6, i7, i8⟩ := unhide HK _ hB3)
      | (go_at_call 66; have hq := hB1; refine (mul_int _ _ _ _ _ _ _ _ k2 4 v (2 * n + 1) _ ((unhide HY).below hB1) hint1 (by omega) (by omega)).mono ?_; rintro r w2 ⟨neg2, a2, n2, c2, rfl, hint2, hb2⟩; have hB2 := bthen hB1 hb2)
      | (go_at_call 43; rw [unhide HE1, unhide HE2]; refine (numOf_int (2 * n + 1) _ (by omega) (by omega)).mono ?_; rintro r w1 ⟨neg1, a1, n1, c1, rfl, hint1, hb1⟩; have hB1 := bthen hB0 hb1))
  all_goals
    go_wp2
    refine bodyPost_ret (v := .agg #[.bool t.ln, .slice t.la t.lN t.lc, .bool t.hn, .slice t.ha t.hN t.hc, .int .i64 t.bits]) (by simp [results, Tryz.results160, go_sem, q0, q1, q2, q3, q4]) rfl ⟨t, rfl, unhide HT, ?_, ?_⟩
    · exact SpAt.put5 htp q0 q1 q2 q3 q4 _ _ _ _ _
    · exact set5 (bthen hBW hB3) (Nat.le_succ _) _ _ _ _ _

set_option maxRecDepth 100000 in
set_option maxHeartbeats 4000000 in
theorem rise_erf (p1 p2 : Value) (f : Nat → Int × Int) (turn N b K KF : Nat) (s : Sp) (W : World) (hs : SpAt W s K (f 0).1 (f 0).2) (hbits : s.bits = (b : Int)) (hb : b ≤ 1000000) (hK : K ≤ 100000000) (hK4 : 4 ≤ K) (hKF : KF ≤ 900000000) (hN : IsRise f turn N) (hNb : N ≤ 1000000000) (htn : turn ≤ 1000000000)
    (hle : ∀ n, (f n).1 ≤ (f n).2) (h0 : ∀ n, 0 ≤ (f n).1) (hfit : ∀ n, n ≤ N → -P K < (f n).1 ∧ (f n).2 < P K) (hfitS : ∀ n, n ≤ N → -P K < (sumI f n).1 ∧ (sumI f n).2 < P K)
    (hF : ∀ (n : Nat) (u : Sp) w', n < N → u.bits = (b : Int) → SpAt w' u K (f n).1 (f n).2 → Below W.heap.size W w' → Calls Tryz.prog 160 #[.agg #[.bool u.ln, .slice u.la u.lN u.lc, .bool u.hn, .slice u.ha u.hN u.hc, .int .i64 u.bits], .int .i64 ((n : Int) + 1), p1, p2] w' (SpanAns w' b KF (f (n + 1)).1 (f (n + 1)).2)) :
    Calls Tryz.prog 141 #[.agg #[.bool s.ln, .slice s.la s.lN s.lc, .bool s.hn, .slice s.ha s.hN s.hc, .int .i64 s.bits], .int .i64 turn, .func (.func 160) #[] #[p1, p2]] W (SpanAns W b (K + 3) (riseI f N).1 (riseI f N).2) := by
  have HF := hide hF
  have HN := hide hN
  have HBT := hide hbits
  have H0 := hide h0
  clear hF hN hbits h0
  obtain ⟨V, hV⟩ : ∃ V, V = (W.alloc (.cells #[.bool s.ln, .slice s.la s.lN s.lc, .bool s.hn, .slice s.ha s.hN s.hc, .int .i64 s.bits] 28)).alloc (.cells #[.bool false, .slice none 0 0, .bool false, .slice none 0 0, .int .i64 0] 28) := ⟨_, rfl⟩
  have hBV : Below W.heap.size W V := by rw [hV]; exact bl2 _ _ _
  have A : SpC V W.heap.size s := by rw [hV]; exact ⟨by simp [go_sem], by simp [go_sem], by simp [go_sem], by simp [go_sem], by simp [go_sem]⟩
  have R : NoC V (W.heap.size + 1) := by rw [hV]; exact ⟨by simp [go_sem], by simp [go_sem], by simp [go_sem], by simp [go_sem], by simp [go_sem], fun o => by simp [go_sem]⟩
  have HS := hide (hs.below hBV)
  have lA := A.lt
  have lR := R.lt
  clear hs
  go_enter Tryz.func141, Tryz.ntmps141
  go_wp2
  rw [← hV]
  clear hV
  go_cut [7, 8] (fun p q wx => TwoS V wx s s p q)
  case first =>
    obtain ⟨x0, x1, x2, x3, x4⟩ := A
    go_region
    all_goals
      go_wp2_with fail
      go_meet
      first
        | with_reducible exact twoS_a _ _ _ _
        | with_reducible exact twoS_b _ _ _ _
  case rest =>
  obtain ⟨B5, B6, rfl, rfl, l5, l6, hne, X, Y, hB⟩ := hcut
  have n5 : W.heap.size + 1 < B5 := by omega
  have n6 : W.heap.size + 1 < B6 := by omega
  have st0 : SumSt W wc B5 B6 b K s s s f 0 := ⟨X, Y, (unhide HS).below hB, (unhide HS).below hB, unhide HBT, unhide HBT, A.below hB, R.below hB, bthen hBV hB, n5, n6, hne⟩
  clear X Y hB A R HS l5 l6 n5 n6 hne hBV lA lR
  go_wp2_with fail
  go_loopw [9] (fun nn wr => ∃ (i : Nat) (X Y : Sp), nn = .int .i64 ((i : Int) + 1) ∧ i ≤ N ∧ SumSt W wr B5 B6 b K s X Y f i) (fun nn _ => N + 1 - (intOf nn).toNat)
  case atStart => exact ⟨0, s, s, rfl, Nat.zero_le _, st0⟩
  case round =>
    obtain ⟨i, X, Y, rfl, hi, st⟩ := hrel
    by_cases hit : i < turn
    · have hin : i < N := by have := (unhide HN).1; omega
      have hit' : ((i : Int) + 1 ≤ (turn : Int)) := by omega
      obtain ⟨⟨y0, y1, y2, y3, y4⟩, y5⟩ := st.y
      go_wp2_with fail
      refine (unhide HF i Y _ hin st.yb st.yp st.be).mono ?_
      rintro r w3 ⟨u, rfl, hub, hup, hb3⟩
      replace st := st.below hb3
      replace hup := hup.fits (K := K) (hle _) (hfit _ (by omega)).1 (hfit _ (by omega)).2
      have HU := hide hub
      clear hb3 y0 y1 y2 y3 y4 y5 hub
      obtain ⟨V3, hV3⟩ : ∃ V3, V3 = put5w w3 B6 u := ⟨_, rfl⟩
      have X3 : VrC V3 B5 X := by rw [hV3]; exact st.x.off st.ne u
      have Y3 : VrC V3 B6 u := by rw [hV3]; exact st.y.put u
      have P3 : SpAt V3 X K (sumI f i).1 (sumI f i).2 := by rw [hV3]; exact st.xp.put st.y.c u
      have U3 : SpAt V3 u K (f (i + 1)).1 (f (i + 1)).2 := by rw [hV3]; exact hup.put st.y.c u
      have F3 : SpC V3 W.heap.size s := by rw [hV3]; exact st.fs.off (by have := st.l6; omega) u
      have R3 : NoC V3 (W.heap.size + 1) := by rw [hV3]; exact st.no.off (by have := st.l6; omega) u
      have B3 : Below W.heap.size W V3 := by rw [hV3]; exact below_put st.be (by have := st.l6; omega) u
      have xb := hide st.xb
      have l5 := st.l5
      have l6 := st.l6
      have hne := st.ne
      have lY := st.y.lt
      have lX := st.x.lt
      obtain ⟨⟨y0, y1, y2, y3, y4⟩, y5⟩ := st.y
      obtain ⟨⟨x0, x1, x2, x3, x4⟩, x5⟩ := st.x
      clear st hup
      go_wp2_with fail
      have hV3' : V3 = put5w w3 B6 u := hV3
      unfold put5w at hV3'
      rw [← hV3']
      clear hV3' y0 y1 y2 y3 y4 y5 x0 x1 x2 x3 x4 x5
      have lX3 : B5 < V3.heap.size := X3.lt
      refine (add_iv _ X u K b (sumI f i) (f (i + 1)) P3 U3 (by omega) (unhide xb)).mono ?_
      rintro r w4 ⟨v, rfl, hvb, hvp, hb4⟩
      have X4 := X3.below hb4
      have Y4 := Y3.below hb4
      have U4 := U3.below hb4
      have F4 := F3.below hb4
      have R4 := R3.below hb4
      have B4 := bthen B3 hb4
      have e : addI (sumI f i) (f (i + 1)) = sumI f (i + 1) := rfl
      rw [e] at hvp
      replace hvp := hvp.fits (K := K) (sum_le hle _) (hfitS _ (by omega)).1 (hfitS _ (by omega)).2
      have HV := hide hvb
      clear hb4 hvb X3 Y3 P3 U3 F3 R3 B3 hV3
      have stn : SumSt W (put5w w4 B5 v) B5 B6 b K s v u f (i + 1) := ⟨X4.put v, Y4.off (Ne.symm hne) v, hvp.put X4.c v, U4.put X4.c v, unhide HV, unhide HU, F4.off (by omega) v, R4.off (by omega) v, below_put B4 (by omega) v, l5, l6, hne⟩
      unfold put5w at stn
      obtain ⟨⟨x0, x1, x2, x3, x4⟩, x5⟩ := X4
      go_wp2_with fail
      go_roundw
      case rel => exact ⟨i + 1, v, u, by go_num, by omega, stn⟩
      case measure => simp [intOf]; omega
    · have hit' : ¬ ((i : Int) + 1 ≤ (turn : Int)) := by omega
      obtain ⟨⟨y0, y1, y2, y3, y4⟩, y5⟩ := st.y
      go_wp2_with fail
      have hr0 : 0 ≤ (f i).2 := by have := unhide H0 i; have := hle i; omega
      refine (len_int _ _ _ _ _ (f i).2 _ st.yp.hi hr0).mono ?_
      rintro r w2 ⟨l, hlen, rfl, hb2⟩
      replace st := st.below hb2
      clear hb2 y0 y1 y2 y3 y4 y5
      by_cases hin : i < N
      · have hl : 2 < l := by
          have h3 := (unhide HN).2.2 i hin
          refine Int.not_le.1 fun hl => ?_
          obtain ⟨g1, g2, g3⟩ := hlen
          obtain ⟨L, e1, e2, e3⟩ := g3 (by omega)
          have := Q_mono (show L + 1 ≤ 2 by omega)
          have : Q 2 = 4 := rfl
          omega
        clear hlen hr0
        obtain ⟨⟨y0, y1, y2, y3, y4⟩, y5⟩ := st.y
        go_wp2_with fail
        refine (unhide HF i Y _ hin st.yb st.yp st.be).mono ?_
        rintro r w3 ⟨u, rfl, hub, hup, hb3⟩
        replace st := st.below hb3
        replace hup := hup.fits (K := K) (hle _) (hfit _ (by omega)).1 (hfit _ (by omega)).2
        have HU := hide hub
        clear hb3 y0 y1 y2 y3 y4 y5 hub
        obtain ⟨V3, hV3⟩ : ∃ V3, V3 = put5w w3 B6 u := ⟨_, rfl⟩
        have X3 : VrC V3 B5 X := by rw [hV3]; exact st.x.off st.ne u
        have Y3 : VrC V3 B6 u := by rw [hV3]; exact st.y.put u
        have P3 : SpAt V3 X K (sumI f i).1 (sumI f i).2 := by rw [hV3]; exact st.xp.put st.y.c u
        have U3 : SpAt V3 u K (f (i + 1)).1 (f (i + 1)).2 := by rw [hV3]; exact hup.put st.y.c u
        have F3 : SpC V3 W.heap.size s := by rw [hV3]; exact st.fs.off (by have := st.l6; omega) u
        have R3 : NoC V3 (W.heap.size + 1) := by rw [hV3]; exact st.no.off (by have := st.l6; omega) u
        have B3 : Below W.heap.size W V3 := by rw [hV3]; exact below_put st.be (by have := st.l6; omega) u
        have xb := hide st.xb
        have l5 := st.l5
        have l6 := st.l6
        have hne := st.ne
        have lY := st.y.lt
        have lX := st.x.lt
        obtain ⟨⟨y0, y1, y2, y3, y4⟩, y5⟩ := st.y
        obtain ⟨⟨x0, x1, x2, x3, x4⟩, x5⟩ := st.x
        clear st hup
        go_wp2_with fail
        have hV3' : V3 = put5w w3 B6 u := hV3
        unfold put5w at hV3'
        rw [← hV3']
        clear hV3' y0 y1 y2 y3 y4 y5 x0 x1 x2 x3 x4 x5
        have lX3 : B5 < V3.heap.size := X3.lt
        refine (add_iv _ X u K b (sumI f i) (f (i + 1)) P3 U3 (by omega) (unhide xb)).mono ?_
        rintro r w4 ⟨v, rfl, hvb, hvp, hb4⟩
        have X4 := X3.below hb4
        have Y4 := Y3.below hb4
        have U4 := U3.below hb4
        have F4 := F3.below hb4
        have R4 := R3.below hb4
        have B4 := bthen B3 hb4
        have e : addI (sumI f i) (f (i + 1)) = sumI f (i + 1) := rfl
        rw [e] at hvp
        replace hvp := hvp.fits (K := K) (sum_le hle _) (hfitS _ (by omega)).1 (hfitS _ (by omega)).2
        have HV := hide hvb
        clear hb4 hvb X3 Y3 P3 U3 F3 R3 B3 hV3
        have stn : SumSt W (put5w w4 B5 v) B5 B6 b K s v u f (i + 1) := ⟨X4.put v, Y4.off (Ne.symm hne) v, hvp.put X4.c v, U4.put X4.c v, unhide HV, unhide HU, F4.off (by omega) v, R4.off (by omega) v, below_put B4 (by omega) v, l5, l6, hne⟩
        unfold put5w at stn
        obtain ⟨⟨x0, x1, x2, x3, x4⟩, x5⟩ := X4
        go_wp2_with fail
        go_roundw
        case rel => exact ⟨i + 1, v, u, by go_num, by omega, stn⟩
        case measure => simp [intOf]; omega
      · have hie : i = N := by omega
        subst hie
        have hl : ¬ 2 < l := by
          have h1 := (unhide HN).2.1
          intro hl
          obtain ⟨g1, g2, g3⟩ := hlen
          by_cases hp : 0 < (f i).2
          · obtain ⟨L, e1, e2, e3⟩ := g3 hp
            have := Q_mono (show 2 ≤ L by omega)
            have : Q 2 = 4 := rfl
            omega
          · have := g2 (by omega); omega
        clear hlen
        have l5 := st.l5
        have lX := st.x.lt
        have HKr := hide (show ∀ w', Below w2.heap.size w2 w' → (w'.cell? ⟨B5, 0, none⟩ = some (.bool X.ln) ∧ w'.cell? ⟨B5, 1, none⟩ = some (.slice X.la X.lN X.lc) ∧ w'.cell? ⟨B5, 2, none⟩ = some (.bool X.hn) ∧ w'.cell? ⟨B5, 3, none⟩ = some (.slice X.ha X.hN X.hc) ∧ w'.cell? ⟨B5, 4, none⟩ = some (.int .i64 X.bits) ∧ w'.cell? ⟨W.heap.size, 4, none⟩ = some (.int .i64 s.bits)) from fun w' hB => ⟨(st.x.c.below hB).c0, (st.x.c.below hB).c1, (st.x.c.below hB).c2, (st.x.c.below hB).c3, (st.x.c.below hB).c4, (st.fs.below hB).c4⟩)
        have R3 := st.no
        have lR3 := R3.lt
        have ST := hide st
        clear st
        go_wp2_with fail
        obtain ⟨x0, x1, x2, x3, x4, x5⟩ := unhide HKr _ (Below.refl _ _)
        have hD0 : Below w2.heap.size w2 w2.drew := (Below.refl _ _).drew
        have nR1 : W.heap.size + 1 ≠ B5 := by omega
        have nR3 : W.heap.size + 1 ≠ W.heap.size := by omega
        go_region_held3 (fun w' => w'.cell? ⟨B5, 0, none⟩ = some (.bool X.ln) ∧ w'.cell? ⟨B5, 1, none⟩ = some (.slice X.la X.lN X.lc) ∧ w'.cell? ⟨B5, 2, none⟩ = some (.bool X.hn) ∧ w'.cell? ⟨B5, 3, none⟩ = some (.slice X.ha X.hN X.hc) ∧ w'.cell? ⟨B5, 4, none⟩ = some (.int .i64 X.bits) ∧ w'.cell? ⟨W.heap.size, 4, none⟩ = some (.int .i64 s.bits)) (first | exact unhide HKr _ (by first | with_reducible exact hD0 | with_reducible exact hD2 | with_reducible exact hD1) | go_keep)
          (first
            | (go_at_call 113; have hq := hD1; refine (add_iv _ X ⟨false, none, 0, 0, neg4, a4, n4, c4, s.bits⟩ K b (sumI f i) (0, 9) ((unhide ST).xp.below hD1) ⟨zeroInt _ _, hint4.mono hK4⟩ (by omega) (unhide ST).xb).mono ?_; rintro r' w5 ⟨v, rfl, hvb, hvp, hb5⟩; have hD2 := bthen hD1 hb5; have HV := hide hvb; clear hvb; obtain ⟨q0, q1, q2, q3, q4, q5⟩ := R3.below hD2; obtain ⟨y0, y1, y2, y3, y4, y5⟩ := unhide HKr _ hD2)
            | (go_at_call 43; refine (numOf_int 9 _ (by omega) (by omega)).mono ?_; rintro r' w4 ⟨neg4, a4, n4, c4, rfl, hint4, hb4⟩; have hD1 := bthen hD0 hb4))
        all_goals
          go_wp2_with fail
          refine bodyPost_ret (v := .agg #[.bool v.ln, .slice v.la v.lN v.lc, .bool v.hn, .slice v.ha v.hN v.hc, .int .i64 v.bits]) (by simp [results, Tryz.results141, go_sem, q0, q1, q2, q3, q4]) rfl ⟨v, rfl, unhide HV, ?_, ?_⟩
          · exact SpAt.put5 (hvp.mono (by omega)) q0 q1 q2 q3 q4 _ _ _ _ _
          · exact set5 (bthen (unhide ST).be hD2) (Nat.le_succ _) _ _ _ _ _
end Go.Proofs.YtgmnknmjainababGreat

namespace Go.Proofs.YtgmnknmjainababGreat
set_option linter.unusedVariables false
set_option linter.unusedSimpArgs false
set_option linter.unnecessarySimpa false
open Go.RowKit
attribute [local go_sem ↓] Go.wp_at_zero Go.wp_at_succ

/-- The numbers are small. -/
theorem ag_small {n m : Int} (h1 : 1 ≤ n) (h2 : n ≤ 1000000) (h3 : 2 ≤ m) (h4 : m ≤ 1000) : 0 < (2 * n + 1) * m ∧ (2 * n + 1) * m ≤ 2000001000 ∧ 0 < (2 * n + 1) * m * m ∧ (2 * n + 1) * m * m ≤ 2000001000000 := by
  have a := Int.mul_pos (show 0 < 2 * n + 1 by omega) (show 0 < m by omega)
  have b := Int.mul_le_mul (show 2 * n + 1 ≤ 2000001 by omega) h4 (by omega) (by omega)
  have c := Int.mul_pos a (show 0 < m by omega)
  have d := Int.mul_le_mul b h4 (by omega) (by omega)
  exact ⟨a, by omega, c, by omega⟩

set_option maxRecDepth 100000 in
set_option maxHeartbeats 2000000 in
theorem ag1_iv (w : World) (B0 : Nat) (s : Sp) (m : Int) (k b : Nat) (n : Int) (a : Int × Int) (hs : SpAt w s k a.1 a.2) (hc : w.cell? ⟨B0, 0, none⟩ = some (.int .i64 m)) (l0 : B0 < w.heap.size) (hk : k ≤ 100000000) (hb : s.bits = (b : Int)) (hn : 1 ≤ n) (hn2 : n ≤ 1000000) (hm : 2 ≤ m) (hm2 : m ≤ 1000) :
    Calls Tryz.prog 205 #[.agg #[.bool s.ln, .slice s.la s.lN s.lc, .bool s.hn, .slice s.ha s.hN s.hc, .int .i64 s.bits], .int .i64 n, .pointer (some ⟨B0, 0, none⟩)] w (SpanAns w b (k + 4 + 10) (negI (scaleI a (2 * n - 1) ((2 * n + 1) * m * m))).1 (negI (scaleI a (2 * n - 1) ((2 * n + 1) * m * m))).2) := by
  obtain ⟨W, hW⟩ : ∃ W, W = (w.alloc (.cells #[.bool s.ln, .slice s.la s.lN s.lc, .bool s.hn, .slice s.ha s.hN s.hc, .int .i64 s.bits] 28)).alloc (.cells #[.bool false, .slice none 0 0, .bool false, .slice none 0 0, .int .i64 0] 28) := ⟨_, rfl⟩
  have hBW : Below w.heap.size w W := by rw [hW]; exact bl2 _ _ _
  have A : SpC W w.heap.size s := by rw [hW]; exact ⟨by simp [go_sem], by simp [go_sem], by simp [go_sem], by simp [go_sem], by simp [go_sem]⟩
  have R : NoC W (w.heap.size + 1) := by rw [hW]; exact ⟨by simp [go_sem], by simp [go_sem], by simp [go_sem], by simp [go_sem], by simp [go_sem], fun o => by simp [go_sem]⟩
  have HS := hide (hs.below hBW)
  have C : W.cell? ⟨B0, 0, none⟩ = some (.int .i64 m) := (hBW.cell (p := ⟨B0, 0, none⟩) l0).trans hc
  have l1 : B0 < W.heap.size := Nat.lt_of_lt_of_le l0 hBW.size
  have HB := hide hb
  have lR := R.lt
  have lA := A.lt
  obtain ⟨b1, b2, b3, b4⟩ := ag_small hn hn2 hm hm2
  have HE1 := hide (show IntKind.i64.wrap (2 * n) = 2 * n from i64_id _ (by omega) (by omega))
  have HE2 := hide (show IntKind.i64.wrap (2 * n - 1) = 2 * n - 1 from i64_id _ (by omega) (by omega))
  have HE3 := hide (show IntKind.i64.wrap (2 * n + 1) = 2 * n + 1 from i64_id _ (by omega) (by omega))
  have HE4 := hide (show IntKind.i64.wrap ((2 * n + 1) * m) = (2 * n + 1) * m from i64_id _ (by omega) (by omega))
  have HE5 := hide (show IntKind.i64.wrap ((2 * n + 1) * m * m) = (2 * n + 1) * m * m from i64_id _ (by omega) (by omega))
  have HQ1 := hide (show -9223372036854775808 ≤ (2 * n + 1) * m * m ∧ (2 * n + 1) * m * m ≤ 9223372036854775807 from ⟨by omega, by omega⟩)
  have HQ3 := hide b3
  clear hs hb hc b1 b2 b3 b4
  have hB0 : Below W.heap.size W W.drew := (Below.refl _ _).drew
  have HK := hide (show ∀ w', Below W.heap.size W w' → (w'.cell? ⟨w.heap.size, 0, none⟩ = some (.bool s.ln) ∧ w'.cell? ⟨w.heap.size, 1, none⟩ = some (.slice s.la s.lN s.lc) ∧ w'.cell? ⟨w.heap.size, 2, none⟩ = some (.bool s.hn) ∧ w'.cell? ⟨w.heap.size, 3, none⟩ = some (.slice s.ha s.hN s.hc) ∧ w'.cell? ⟨w.heap.size, 4, none⟩ = some (.int .i64 s.bits) ∧ w'.cell? ⟨B0, 0, none⟩ = some (.int .i64 m)) from fun w' hB => ⟨(A.below hB).c0, (A.below hB).c1, (A.below hB).c2, (A.below hB).c3, (A.below hB).c4, (hB.cell (p := ⟨B0, 0, none⟩) l1).trans C⟩)
  clear C
  go_enter Tryz.func205, Tryz.ntmps205
  go_wp2
  rw [← hW]
  clear hW
  have nB0 : w.heap.size + 1 ≠ B0 := by omega
  obtain ⟨x0, x1, x2, x3, x4, x5⟩ := unhide HK _ (Below.refl _ _)
  go_region_held3 (fun w' => w'.cell? ⟨w.heap.size, 0, none⟩ = some (.bool s.ln) ∧ w'.cell? ⟨w.heap.size, 1, none⟩ = some (.slice s.la s.lN s.lc) ∧ w'.cell? ⟨w.heap.size, 2, none⟩ = some (.bool s.hn) ∧ w'.cell? ⟨w.heap.size, 3, none⟩ = some (.slice s.ha s.hN s.hc) ∧ w'.cell? ⟨w.heap.size, 4, none⟩ = some (.int .i64 s.bits) ∧ w'.cell? ⟨B0, 0, none⟩ = some (.int .i64 m)) (first | exact unhide HK _ (by first | with_reducible exact hB0 | with_reducible exact hB4 | with_reducible exact hB3 | with_reducible exact hB2 | with_reducible exact hB1) | go_keep)
    (first
      | (go_at_call 97; have hq := hB3; refine (opposite_int _ v3 (k + 4 + 10) _ _ hvp3 (by omega)).mono ?_; rintro r w4 ⟨t, rfl, htb, htp, hb4⟩; have HT := hide (htb.trans (unhide HV)); clear htb; have hB4 := bthen hB3 hb4; obtain ⟨q0, q1, q2, q3, q4, q5⟩ := R.below hB4; obtain ⟨i0, i1, i2, i3, i4, i5⟩ := unhide HK _ hB4)
      | (go_at_call 143; have hq := hB2; refine (scale_iv _ s ⟨neg1, a1, n1, c1⟩ ⟨neg2, a2, n2, c2⟩ k 4 _ b a (2 * n - 1) ((2 * n + 1) * m * m) ((unhide HS).below hB2) (hint1.below hb2) hint2 (by omega) (by omega) (unhide HQ3) (unhide HB)).mono ?_; rintro r w3 ⟨v3, rfl, hvb3, hvp3, hb3⟩; have HV := hide hvb3; clear hvb3; have hB3 := bthen hB2 hb3)
      | (go_at_call 43; have hq := hB1; (first | rw [unhide HE1, unhide HE3, unhide HE4, unhide HE5] | rw [unhide HE3, unhide HE4, unhide HE5]); refine (numOf_int ((2 * n + 1) * m * m) _ (unhide HQ1).1 (unhide HQ1).2).mono ?_; rintro r w2 ⟨neg2, a2, n2, c2, rfl, hint2, hb2⟩; have hB2 := bthen hB1 hb2)
      | (go_at_call 43; rw [unhide HE1, unhide HE2]; refine (numOf_int (2 * n - 1) _ (by omega) (by omega)).mono ?_; rintro r w1 ⟨neg1, a1, n1, c1, rfl, hint1, hb1⟩; have hB1 := bthen hB0 hb1))
  all_goals
    go_wp2
    refine bodyPost_ret (v := .agg #[.bool t.ln, .slice t.la t.lN t.lc, .bool t.hn, .slice t.ha t.hN t.hc, .int .i64 t.bits]) (by simp [results, Tryz.results205, go_sem, q0, q1, q2, q3, q4]) rfl ⟨t, rfl, unhide HT, ?_, ?_⟩
    · exact SpAt.put5 htp q0 q1 q2 q3 q4 _ _ _ _ _
    · exact set5 (bthen hBW hB4) (Nat.le_succ _) _ _ _ _ _

set_option maxRecDepth 100000 in
set_option maxHeartbeats 4000000 in
theorem sum_ag (p1 : Value) (f : Nat → Int × Int) (N b K KF : Nat) (s : Sp) (W : World) (hs : SpAt W s K (f 0).1 (f 0).2) (hbits : s.bits = (b : Int)) (hb : b ≤ 1000000) (hK : K ≤ 100000000) (hKF : KF ≤ 900000000) (hN : IsStop f N) (hNb : N ≤ 1000000000)
    (hle : ∀ n, (f n).1 ≤ (f n).2) (hfit : ∀ n, n ≤ N → -P K < (f n).1 ∧ (f n).2 < P K) (hfitS : ∀ n, n ≤ N → -P K < (sumI f n).1 ∧ (sumI f n).2 < P K)
    (hF : ∀ (n : Nat) (u : Sp) w', n < N → u.bits = (b : Int) → SpAt w' u K (f n).1 (f n).2 → Below W.heap.size W w' → Calls Tryz.prog 205 #[.agg #[.bool u.ln, .slice u.la u.lN u.lc, .bool u.hn, .slice u.ha u.hN u.hc, .int .i64 u.bits], .int .i64 ((n : Int) + 1), p1] w' (SpanAns w' b KF (f (n + 1)).1 (f (n + 1)).2)) :
    Calls Tryz.prog 182 #[.agg #[.bool s.ln, .slice s.la s.lN s.lc, .bool s.hn, .slice s.ha s.hN s.hc, .int .i64 s.bits], .func (.func 205) #[] #[p1]] W (SpanAns W b (K + 3) (doneI f N).1 (doneI f N).2) := by
  have HF := hide hF
  have HN := hide hN
  have HBT := hide hbits
  clear hF hN hbits
  obtain ⟨V, hV⟩ : ∃ V, V = (W.alloc (.cells #[.bool s.ln, .slice s.la s.lN s.lc, .bool s.hn, .slice s.ha s.hN s.hc, .int .i64 s.bits] 28)).alloc (.cells #[.bool false, .slice none 0 0, .bool false, .slice none 0 0, .int .i64 0] 28) := ⟨_, rfl⟩
  have hBV : Below W.heap.size W V := by rw [hV]; exact bl2 _ _ _
  have A : SpC V W.heap.size s := by rw [hV]; exact ⟨by simp [go_sem], by simp [go_sem], by simp [go_sem], by simp [go_sem], by simp [go_sem]⟩
  have R : NoC V (W.heap.size + 1) := by rw [hV]; exact ⟨by simp [go_sem], by simp [go_sem], by simp [go_sem], by simp [go_sem], by simp [go_sem], fun o => by simp [go_sem]⟩
  have HS := hide (hs.below hBV)
  have lA := A.lt
  have lR := R.lt
  clear hs
  go_enter Tryz.func182, Tryz.ntmps182
  go_wp2
  rw [← hV]
  clear hV
  go_cut [5, 6] (fun p q wx => TwoS V wx s s p q)
  case first =>
    obtain ⟨x0, x1, x2, x3, x4⟩ := A
    go_region
    all_goals
      go_wp2_with fail
      go_meet
      first
        | with_reducible exact twoS_a _ _ _ _
        | with_reducible exact twoS_b _ _ _ _
  case rest =>
  obtain ⟨B5, B6, rfl, rfl, l5, l6, hne, X, Y, hB⟩ := hcut
  have n5 : W.heap.size + 1 < B5 := by omega
  have n6 : W.heap.size + 1 < B6 := by omega
  have st0 : SumSt W wc B5 B6 b K s s s f 0 := ⟨X, Y, (unhide HS).below hB, (unhide HS).below hB, unhide HBT, unhide HBT, A.below hB, R.below hB, bthen hBV hB, n5, n6, hne⟩
  clear X Y hB A R HS l5 l6 n5 n6 hne hBV lA lR
  go_wp2_with fail
  go_loopw [7] (fun nn wr => ∃ (i : Nat) (X Y : Sp), nn = .int .i64 ((i : Int) + 1) ∧ i ≤ N ∧ SumSt W wr B5 B6 b K s X Y f i) (fun nn _ => N + 1 - (intOf nn).toNat)
  case atStart => exact ⟨0, s, s, rfl, Nat.zero_le _, st0⟩
  case round =>
    obtain ⟨i, X, Y, rfl, hi, st⟩ := hrel
    have hr0 := reach_pair (hle i)
    obtain ⟨⟨y0, y1, y2, y3, y4⟩, y5⟩ := st.y
    go_wp2_with fail
    refine (reach_int _ Y K _ _ st.yp (by omega)).mono ?_
    rintro r w1 ⟨neg1, a1, n1, c1, rfl, hint1, hb1⟩
    replace st := st.below hb1
    clear hb1 y0 y1 y2 y3 y4 y5
    go_wp2_with fail
    refine (len_int _ _ _ _ _ (reachI (f i)) _ hint1 hr0).mono ?_
    rintro r w2 ⟨l, hlen, rfl, hb2⟩
    replace st := st.below hb2
    clear hb2 hint1
    by_cases hin : i < N
    · have hl : 1 < l := by
        refine Int.not_le.1 fun hl => ?_
        have := len_one hlen hl hr0
        have := (unhide HN).2 i hin
        omega
      clear hlen
      obtain ⟨⟨y0, y1, y2, y3, y4⟩, y5⟩ := st.y
      go_wp2_with fail
      refine (unhide HF i Y _ hin st.yb st.yp st.be).mono ?_
      rintro r w3 ⟨u, rfl, hub, hup, hb3⟩
      replace st := st.below hb3
      replace hup := hup.fits (K := K) (hle _) (hfit _ (by omega)).1 (hfit _ (by omega)).2
      have HU := hide hub
      clear hb3 y0 y1 y2 y3 y4 y5 hub
      obtain ⟨V3, hV3⟩ : ∃ V3, V3 = put5w w3 B6 u := ⟨_, rfl⟩
      have X3 : VrC V3 B5 X := by rw [hV3]; exact st.x.off st.ne u
      have Y3 : VrC V3 B6 u := by rw [hV3]; exact st.y.put u
      have P3 : SpAt V3 X K (sumI f i).1 (sumI f i).2 := by rw [hV3]; exact st.xp.put st.y.c u
      have U3 : SpAt V3 u K (f (i + 1)).1 (f (i + 1)).2 := by rw [hV3]; exact hup.put st.y.c u
      have F3 : SpC V3 W.heap.size s := by rw [hV3]; exact st.fs.off (by have := st.l6; omega) u
      have R3 : NoC V3 (W.heap.size + 1) := by rw [hV3]; exact st.no.off (by have := st.l6; omega) u
      have B3 : Below W.heap.size W V3 := by rw [hV3]; exact below_put st.be (by have := st.l6; omega) u
      have xb := hide st.xb
      have l5 := st.l5
      have l6 := st.l6
      have hne := st.ne
      have lY := st.y.lt
      have lX := st.x.lt
      obtain ⟨⟨y0, y1, y2, y3, y4⟩, y5⟩ := st.y
      obtain ⟨⟨x0, x1, x2, x3, x4⟩, x5⟩ := st.x
      clear st hup
      go_wp2_with fail
      have hV3' : V3 = put5w w3 B6 u := hV3
      unfold put5w at hV3'
      rw [← hV3']
      clear hV3' y0 y1 y2 y3 y4 y5 x0 x1 x2 x3 x4 x5
      have lX3 : B5 < V3.heap.size := X3.lt
      refine (add_iv _ X u K b (sumI f i) (f (i + 1)) P3 U3 (by omega) (unhide xb)).mono ?_
      rintro r w4 ⟨v, rfl, hvb, hvp, hb4⟩
      have X4 := X3.below hb4
      have Y4 := Y3.below hb4
      have U4 := U3.below hb4
      have F4 := F3.below hb4
      have R4 := R3.below hb4
      have B4 := bthen B3 hb4
      have e : addI (sumI f i) (f (i + 1)) = sumI f (i + 1) := rfl
      rw [e] at hvp
      replace hvp := hvp.fits (K := K) (sum_le hle _) (hfitS _ (by omega)).1 (hfitS _ (by omega)).2
      have HV := hide hvb
      clear hb4 hvb X3 Y3 P3 U3 F3 R3 B3 hV3
      have stn : SumSt W (put5w w4 B5 v) B5 B6 b K s v u f (i + 1) := ⟨X4.put v, Y4.off (Ne.symm hne) v, hvp.put X4.c v, U4.put X4.c v, unhide HV, unhide HU, F4.off (by omega) v, R4.off (by omega) v, below_put B4 (by omega) v, l5, l6, hne⟩
      unfold put5w at stn
      obtain ⟨⟨x0, x1, x2, x3, x4⟩, x5⟩ := X4
      go_wp2_with fail
      go_roundw
      case rel => exact ⟨i + 1, v, u, by go_num, by omega, stn⟩
      case measure => simp [intOf]; omega
    · have hie : i = N := by omega
      subst hie
      have hl : ¬ 1 < l := by
        have h1 := (unhide HN).1
        intro hl
        obtain ⟨g1, g2, g3⟩ := hlen
        by_cases hp : 0 < reachI (f i)
        · obtain ⟨L, e1, e2, e3⟩ := g3 hp
          have : 1 ≤ L := by omega
          have := Q_mono this
          have : Q 1 = 2 := rfl
          omega
        · have := g2 (by omega); omega
      clear hlen
      obtain ⟨⟨y0, y1, y2, y3, y4⟩, y5⟩ := st.y
      go_wp2_with fail
      refine (reach_int _ Y K _ _ st.yp (by omega)).mono ?_
      rintro r w3 ⟨neg3, a3, n3, c3, rfl, hint3, hb3⟩
      replace st := st.below hb3
      clear hb3 y0 y1 y2 y3 y4 y5
      obtain ⟨V3, hV3⟩ : ∃ V3, V3 = w3.alloc (.cells #[.bool neg3, .slice a3 n3 c3] 26) := ⟨_, rfl⟩
      have bV : Below w3.heap.size w3 V3 := by rw [hV3]; exact bl1 _ _
      have L3 : NmC V3 w3.heap.size ⟨neg3, a3, n3, c3⟩ := by rw [hV3]; exact nmc_new w3 ⟨neg3, a3, n3, c3⟩ _
      have st3 := st.below bV
      have HI := hide (hint3.below bV)
      have l5 := st.l5
      have lX := st.x.lt
      have HKr := hide (show ∀ w', Below V3.heap.size V3 w' → (w'.cell? ⟨B5, 0, none⟩ = some (.bool X.ln) ∧ w'.cell? ⟨B5, 1, none⟩ = some (.slice X.la X.lN X.lc) ∧ w'.cell? ⟨B5, 2, none⟩ = some (.bool X.hn) ∧ w'.cell? ⟨B5, 3, none⟩ = some (.slice X.ha X.hN X.hc) ∧ w'.cell? ⟨B5, 4, none⟩ = some (.int .i64 X.bits) ∧ w'.cell? ⟨w3.heap.size, 0, none⟩ = some (.bool neg3) ∧ w'.cell? ⟨w3.heap.size, 1, none⟩ = some (.slice a3 n3 c3) ∧ w'.cell? ⟨W.heap.size, 4, none⟩ = some (.int .i64 s.bits)) from fun w' hB => ⟨(st3.x.c.below hB).c0, (st3.x.c.below hB).c1, (st3.x.c.below hB).c2, (st3.x.c.below hB).c3, (st3.x.c.below hB).c4, (L3.below hB).c0, (L3.below hB).c1, (st3.fs.below hB).c4⟩)
      have lL := L3.lt
      have R3 := st3.no
      have lR3 := R3.lt
      clear st L3 hint3
      go_wp2_with fail
      rw [← hV3]
      clear hV3
      obtain ⟨x0, x1, x2, x3, x4, x5, x6, x7⟩ := unhide HKr _ (Below.refl _ _)
      have hD0 : Below V3.heap.size V3 V3.drew := (Below.refl _ _).drew
      have nR1 : W.heap.size + 1 ≠ B5 := by omega
      have nR2 : W.heap.size + 1 ≠ w3.heap.size := by omega
      have nR3 : W.heap.size + 1 ≠ W.heap.size := by omega
      go_region_held3 (fun w' => w'.cell? ⟨B5, 0, none⟩ = some (.bool X.ln) ∧ w'.cell? ⟨B5, 1, none⟩ = some (.slice X.la X.lN X.lc) ∧ w'.cell? ⟨B5, 2, none⟩ = some (.bool X.hn) ∧ w'.cell? ⟨B5, 3, none⟩ = some (.slice X.ha X.hN X.hc) ∧ w'.cell? ⟨B5, 4, none⟩ = some (.int .i64 X.bits) ∧ w'.cell? ⟨w3.heap.size, 0, none⟩ = some (.bool neg3) ∧ w'.cell? ⟨w3.heap.size, 1, none⟩ = some (.slice a3 n3 c3) ∧ w'.cell? ⟨W.heap.size, 4, none⟩ = some (.int .i64 s.bits)) (first | exact unhide HKr _ (by first | with_reducible exact hD0 | with_reducible exact hD2 | with_reducible exact hD1) | go_keep)
        (first
          | (go_at_call 113; have hq := hD1; refine (add_iv _ X ⟨neg4, a4, n4, c4, neg3, a3, n3, c3, s.bits⟩ (K + 1) b (sumI f i) (-reachI (f i), reachI (f i)) ((st3.xp.below hD1).mono (by omega)) ⟨hint4, (unhide HI).below hD1⟩ (by omega) st3.xb).mono ?_; rintro r' w5 ⟨v, rfl, hvb, hvp, hb5⟩; have hD2 := bthen hD1 hb5; have HV := hide hvb; clear hvb; obtain ⟨q0, q1, q2, q3, q4, q5⟩ := R3.below hD2; obtain ⟨y0, y1, y2, y3, y4, y5, y6, y7⟩ := unhide HKr _ hD2)
          | (go_at_call 103; refine (neg_int _ _ _ _ (K + 1) (reachI (f i)) _ ((unhide HI).below hD0) (by omega)).mono ?_; rintro r' w4 ⟨neg4, a4, n4, c4, rfl, hint4, hb4⟩; have hD1 := bthen hD0 hb4))
      all_goals
        go_wp2_with fail
        refine bodyPost_ret (v := .agg #[.bool v.ln, .slice v.la v.lN v.lc, .bool v.hn, .slice v.ha v.hN v.hc, .int .i64 v.bits]) (by simp [results, Tryz.results182, go_sem, q0, q1, q2, q3, q4]) rfl ⟨v, rfl, unhide HV, ?_, ?_⟩
        · exact SpAt.put5 (hvp.mono (by omega)) q0 q1 q2 q3 q4 _ _ _ _ _
        · exact set5 (bthen st3.be hD2) (Nat.le_succ _) _ _ _ _ _

set_option maxRecDepth 100000 in
set_option maxHeartbeats 4000000 in
theorem angle_iv (w : World) (m : Int) (b N K : Nat) (hm : 2 ≤ m) (hm2 : m ≤ 1000) (hb40 : 2 ≤ b) (hb : b ≤ 100000) (hN : IsStop (agT m b) N) (hK : Q (b + 4) < P K) (hK2 : K ≤ 10000000) :
    Calls Tryz.prog 190 #[.int .i64 m, .int .i64 b] w (SpanAns w b (K + 3) (doneI (agT m b) N).1 (doneI (agT m b) N).2) := by
  obtain ⟨W, hW⟩ : ∃ W, W = (w.alloc (.cells #[.int .i64 m] 3)).alloc (.cells #[.bool false, .slice none 0 0, .bool false, .slice none 0 0, .int .i64 0] 28) := ⟨_, rfl⟩
  have hBW : Below w.heap.size w W := by rw [hW]; exact bl2 _ _ _
  have C : W.cell? ⟨w.heap.size, 0, none⟩ = some (.int .i64 m) := by rw [hW]; simp [go_sem]
  have R : NoC W (w.heap.size + 1) := by rw [hW]; exact ⟨by simp [go_sem], by simp [go_sem], by simp [go_sem], by simp [go_sem], by simp [go_sem], fun o => by simp [go_sem]⟩
  have lR := R.lt
  have l0 : w.heap.size < W.heap.size := by omega
  have hQb := Q_pos b
  have hQK : Q b * 16 < P K := by
    have e : Q (b + 4) = 2 * (2 * (2 * (2 * Q b))) := rfl
    omega
  obtain ⟨g1, g2, g3, g4⟩ := ag_bound hm hb40 hN
  have HT0 := hide (agT_abs hm hb40)
  have HLT := hide (agT_le hm b)
  have HFIT : Hid (∀ j, j ≤ N → -P K < (agT m b j).1 ∧ (agT m b j).2 < P K) := hide (fun j _ => by
    obtain ⟨g1, g2, g3, g4⟩ := unhide HT0 j
    have := Q_mono (show b - 2 * j ≤ b by omega)
    omega)
  have HFITS : Hid (∀ j, j ≤ N → -P K < (sumI (agT m b) j).1 ∧ (sumI (agT m b) j).2 < P K) := hide (fun j hj => by
    obtain ⟨g1, g2, g3, g4⟩ := sum_abs2 (s := 2) (by omega) (unhide HT0) hN j hj
    have := Q_pos (b - 2 * j)
    omega)
  have HFZ : Hid (-P K < (ofI 1 m b).1 ∧ (ofI 1 m b).2 < P K) := hide ((unhide HFIT) 0 (Nat.zero_le _))
  have hNb : N ≤ 1000000 := by omega
  have HN := hide hN
  have HFN := hide (show ∀ (j : Nat) (u : Sp) w', j < N → u.bits = (b : Int) → SpAt w' u K (agT m b j).1 (agT m b j).2 → Below W.heap.size W w' → Calls Tryz.prog 205 #[.agg #[.bool u.ln, .slice u.la u.lN u.lc, .bool u.hn, .slice u.ha u.hN u.hc, .int .i64 u.bits], .int .i64 ((j : Int) + 1), .pointer (some ⟨w.heap.size, 0, none⟩)] w' (SpanAns w' b (K + 4 + 10) (agT m b (j + 1)).1 (agT m b (j + 1)).2) from fun j u w' hj hub hup hbw => by
    have e := ag1_iv w' w.heap.size u m K b ((j : Int) + 1) (agT m b j) hup ((hbw.cell (p := ⟨w.heap.size, 0, none⟩) l0).trans C) (Nat.lt_of_lt_of_le l0 hbw.size) (by omega) hub (by omega) (by omega) hm hm2
    have e1 : 2 * ((j : Int) + 1) - 1 = 2 * (j : Int) + 1 := by omega
    have e2 : 2 * ((j : Int) + 1) + 1 = 2 * (j : Int) + 3 := by omega
    rw [e1, e2] at e
    exact e)
  have HK := hide (show ∀ w', Below W.heap.size W w' → (w'.cell? ⟨w.heap.size, 0, none⟩ = some (.int .i64 m)) from fun w' hB => (hB.cell (p := ⟨w.heap.size, 0, none⟩) l0).trans C)
  have HOL := hide (ofI_le (n := 1) (show 0 < m by omega) b)
  have hB0 : Below W.heap.size W W.drew := (Below.refl _ _).drew
  clear hN g1 g2 g3 g4 C
  go_enter Tryz.func190, Tryz.ntmps190
  go_wp2
  rw [← hW]
  clear hW
  have nR : w.heap.size + 1 ≠ w.heap.size := by omega
  have x0 := unhide HK _ (Below.refl _ _)
  go_region_held3 (fun w' => w'.cell? ⟨w.heap.size, 0, none⟩ = some (.int .i64 m)) (first | exact unhide HK _ (by first | with_reducible exact hB0 | with_reducible exact hB4 | with_reducible exact hB3 | with_reducible exact hB2 | with_reducible exact hB1) | go_keep)
    (first
      | (go_at_call 182; have hq := hB3; refine (sum_ag _ (agT m b) N b K (K + 4 + 10) v3 _ (hvp3.fits (K := K) (unhide HOL) (unhide HFZ).1 (unhide HFZ).2) (unhide HV) (by omega) (by omega) (by omega) (unhide HN) (by omega) (unhide HLT) (unhide HFIT) (unhide HFITS) (fun j u w' hj hub hup hbw => unhide HFN j u w' hj hub hup (bthen hB3 hbw))).mono ?_; rintro r w4 ⟨t, rfl, htb, htp, hb4⟩; have HT := hide htb; clear htb; have hB4 := bthen hB3 hb4; obtain ⟨q0, q1, q2, q3, q4, q5⟩ := R.below hB4; have i0 := unhide HK _ hB4)
      | (go_at_call 140; have hq := hB2; refine (wideOf_any _ _ _ _ _ _ _ _ 4 4 b 1 m _ (hint1.below hb2) hint2 (by omega) (by omega) (by omega)).mono ?_; rintro r w3 ⟨v3, rfl, hvb3, hvp3, hb3⟩; have HV := hide hvb3; clear hvb3; have hB3 := bthen hB2 hb3)
      | (go_at_call 43; have hq := hB1; refine (numOf_int m _ (by omega) (by omega)).mono ?_; rintro r w2 ⟨neg2, a2, n2, c2, rfl, hint2, hb2⟩; have hB2 := bthen hB1 hb2)
      | (go_at_call 43; refine (numOf_int 1 _ (by omega) (by omega)).mono ?_; rintro r w1 ⟨neg1, a1, n1, c1, rfl, hint1, hb1⟩; have hB1 := bthen hB0 hb1))
  all_goals
    go_wp2
    refine bodyPost_ret (v := .agg #[.bool t.ln, .slice t.la t.lN t.lc, .bool t.hn, .slice t.ha t.hN t.hc, .int .i64 t.bits]) (by simp [results, Tryz.results190, go_sem, q0, q1, q2, q3, q4]) rfl ⟨t, rfl, unhide HT, ?_, ?_⟩
    · exact SpAt.put5 htp q0 q1 q2 q3 q4 _ _ _ _ _
    · exact set5 (bthen hBW hB4) (Nat.le_succ _) _ _ _ _ _

set_option maxRecDepth 100000 in
set_option maxHeartbeats 2000000 in
theorem pi_iv (w : World) (b N5 N9 K : Nat) (hb40 : 2 ≤ b) (hb : b ≤ 100000) (h5 : IsStop (agT 5 b) N5) (h9 : IsStop (agT 239 b) N9) (hK : Q (b + 4) < P K) (hK2 : K ≤ 10000000) :
    Calls Tryz.prog 163 #[.int .i64 b] w (SpanAns w b (K + 8) (piI b N5 N9).1 (piI b N5 N9).2) := by
  obtain ⟨W, hW⟩ : ∃ W, W = w.alloc (.cells #[.bool false, .slice none 0 0, .bool false, .slice none 0 0, .int .i64 0] 28) := ⟨_, rfl⟩
  have hBW : Below w.heap.size w W := by rw [hW]; exact bl1 _ _
  have R : NoC W w.heap.size := by rw [hW]; exact ⟨by simp [go_sem], by simp [go_sem], by simp [go_sem], by simp [go_sem], by simp [go_sem], fun o => by simp [go_sem]⟩
  have H5 := hide h5
  have H9 := hide h9
  clear h5 h9
  go_enter Tryz.func163, Tryz.ntmps163
  go_wp2_with fail
  rw [← hW]
  clear hW
  refine (angle_iv _ 5 b N5 K (by omega) (by omega) hb40 hb (unhide H5) hK hK2).mono ?_
  rintro r w1 ⟨v1, rfl, hvb1, hvp1, hb1⟩
  have B1 := hide hvb1
  replace R := R.below hb1
  replace hBW := bthen hBW hb1
  clear hvb1 hb1
  go_wp2_with fail
  refine (times_iv _ v1 (K + 3) b 16 _ hvp1 (by omega) (unhide B1) (by omega) (by omega)).mono ?_
  rintro r w2 ⟨v2, rfl, hvb2, hvp2, hb2⟩
  have B2 := hide hvb2
  replace R := R.below hb2
  replace hBW := bthen hBW hb2
  clear hvb2 hb2 hvp1
  go_wp2_with fail
  refine (angle_iv _ 239 b N9 K (by omega) (by omega) hb40 hb (unhide H9) hK hK2).mono ?_
  rintro r w3 ⟨v3, rfl, hvb3, hvp3, hb3⟩
  have B3 := hide hvb3
  replace R := R.below hb3
  replace hBW := bthen hBW hb3
  replace hvp2 := hvp2.below hb3
  clear hvb3 hb3
  go_wp2_with fail
  refine (times_iv _ v3 (K + 3) b 4 _ hvp3 (by omega) (unhide B3) (by omega) (by omega)).mono ?_
  rintro r w4 ⟨v4, rfl, hvb4, hvp4, hb4⟩
  replace R := R.below hb4
  replace hBW := bthen hBW hb4
  replace hvp2 := hvp2.below hb4
  have B4 := hide hvb4
  clear hvb4 hb4 hvp3
  go_wp2_with fail
  refine (sub_iv _ v2 v4 (K + 3 + 4) b (timesI (doneI (agT 5 b) N5) 16) (timesI (doneI (agT 239 b) N9) 4) hvp2 hvp4 (by omega) (unhide B2)).mono ?_
  rintro r w5 ⟨v5, rfl, hvb5, hvp5, hb5⟩
  obtain ⟨q0, q1, q2, q3, q4, q5⟩ := R.below hb5
  replace hBW := bthen hBW hb5
  have B5 := hide hvb5
  clear hvb5
  go_wp2_with fail
  refine bodyPost_ret (v := .agg #[.bool v5.ln, .slice v5.la v5.lN v5.lc, .bool v5.hn, .slice v5.ha v5.hN v5.hc, .int .i64 v5.bits]) (by simp [results, Tryz.results163, go_sem, q0, q1, q2, q3, q4]) rfl ⟨v5, rfl, unhide B5, ?_, ?_⟩
  · exact SpAt.put5 (hvp5.mono (by omega)) q0 q1 q2 q3 q4 _ _ _ _ _
  · exact set5 hBW (Nat.le_refl _) _ _ _ _ _
end Go.Proofs.YtgmnknmjainababGreat
