/-
  Texts LgmA, LgmB, Pel, GamT, LgmC: what they hold is told in the last text.
-/
import Derived.Test.YtgmnknmjainababK20
set_option linter.unnecessarySimpa false
set_option linter.unusedSimpArgs false
set_option linter.unusedVariables false
namespace Go.Proofs.Ytgmnknmjainabab
open Ex
def mx (F h : Int) : Int := if F ≤ h then h else F
theorem mx_ge (F h : Int) : h ≤ mx F h ∧ F ≤ mx F h := by unfold mx; split <;> omega
theorem mx_le {F h : Int} (hF : 0 ≤ F) (hh : 0 ≤ h) : mx F h ≤ h + F := by unfold mx; split <;> omega
theorem sc_facts {a : Int × Int} {u v : Int} (hv : 0 < v) (hu : 0 ≤ u) (h0 : 0 ≤ a.1) (hl : a.1 ≤ a.2) : 0 ≤ (scaleI a u v).1 ∧ (scaleI a u v).1 ≤ (scaleI a u v).2 ∧ a.2 * u ≤ (scaleI a u v).2 * v ∧ ((scaleI a u v).2 - 1) * v < a.2 * u ∧ ((scaleI a u v).2 - (scaleI a u v).1 - 2) * v ≤ (a.2 - a.1) * u ∧ (scaleI a u v).1 * v ≤ a.1 * u := by
  have f1 := dv_floor2 (a.1 * u) hv
  have f2 := dv_floor2 (-(a.2 * u)) hv
  have f3 := dv_ceil (a.2 * u) hv
  have f4 := dv_floor (a.1 * u) hv
  have e1 : (scaleI a u v).1 = a.1 * u / v := rfl
  have e2 : (scaleI a u v).2 = -(-(a.2 * u) / v) := rfl
  rw [← e1] at f1 f4
  rw [← e2] at f3
  have c2 : ((scaleI a u v).2 - 1) * v < a.2 * u := by
    have : (-(a.2 * u) / v + 1) * v = -(((scaleI a u v).2 - 1) * v) := by rw [e2]; grind
    omega
  refine ⟨by rw [e1]; exact Int.ediv_nonneg (Int.mul_nonneg h0 hu) (by omega), scaleI_le hl hv hu, f3, c2, ?_, f4⟩
  have r1 : ((scaleI a u v).2 - (scaleI a u v).1 - 2) * v = ((scaleI a u v).2 - 1) * v - ((scaleI a u v).1 + 1) * v := by grind
  have r2 : (a.2 - a.1) * u = a.2 * u - a.1 * u := by grind
  omega
theorem sc_w {a : Int × Int} {u v F c : Int} (hv : 0 < v) (hu : 0 ≤ u) (h0 : 0 ≤ a.1) (hl : a.1 ≤ a.2) (hF : 0 < F) (hc : 0 ≤ c) (hw : (a.2 - a.1) * F ≤ c * mx F a.2) (hr : F ≤ a.2 ∨ u ≤ v) : ((scaleI a u v).2 - (scaleI a u v).1) * F ≤ (c + 2) * mx F (scaleI a u v).2 := by
  obtain ⟨s0, s1, s2, s3, s4, s5⟩ := sc_facts hv hu h0 hl
  obtain ⟨m1, m2⟩ := mx_ge F (scaleI a u v).2
  generalize (scaleI a u v).2 = h1 at *
  generalize (scaleI a u v).1 = l1 at *
  generalize mx F h1 = M at *
  have key : (h1 - l1 - 2) * F ≤ c * M := by
    have k1 := Int.mul_le_mul_of_nonneg_right s4 (show 0 ≤ F by omega)
    have k2 := Int.mul_le_mul_of_nonneg_right hw hu
    refine Int.le_of_mul_le_mul_right (a := v) ?_ hv
    have r1 : (h1 - l1 - 2) * F * v = (h1 - l1 - 2) * v * F := by grind
    have r2 : (a.2 - a.1) * u * F = (a.2 - a.1) * F * u := by grind
    have k3 : mx F a.2 * u ≤ M * v := by
      unfold mx
      split
      · exact Int.le_trans s2 (Int.mul_le_mul_of_nonneg_right m1 (by omega))
      · rcases hr with h | h
        · omega
        · exact Int.le_trans (Int.mul_le_mul_of_nonneg_left h (by omega)) (Int.mul_le_mul_of_nonneg_right m2 (by omega))
    have k4 := Int.mul_le_mul_of_nonneg_left k3 hc
    have r3 : c * mx F a.2 * u = c * (mx F a.2 * u) := by grind
    have r4 : c * M * v = c * (M * v) := by grind
    omega
  have r5 : (h1 - l1 - 2) * F = (h1 - l1) * F - 2 * F := by grind
  have r6 : (c + 2) * M = c * M + 2 * M := by grind
  omega
structure LmIn (n d : Int) (b x : Nat) : Prop where
  n0 : 0 < n
  d0 : 0 < d
  dd : d ≤ 2199023255552
  up : n ≤ 201 * d
  b0 : 8 ≤ b
  b1 : b ≤ 400
  x2 : 2 * n ≤ (x : Int) * d
  xb : 2 * b + 64 ≤ x
  x1 : x ≤ 1300
structure LmSt where
  T : Int × Int
  U : Int × Int
  e : Nat
def lmT (n d : Int) (x k : Nat) (T : Int × Int) : Int × Int := scaleI T ((x : Int) * d) (n + ((k : Int) + 1) * d)
def lmNext (n d : Int) (x m k : Nat) (s : LmSt) : LmSt :=
  if Q (m + 128) ≤ (addI s.U (lmT n d x k s.T)).2 then ⟨scaleI (lmT n d x k s.T) 1 (Q 64), scaleI (addI s.U (lmT n d x k s.T)) 1 (Q 64), s.e + 1⟩ else ⟨lmT n d x k s.T, addI s.U (lmT n d x k s.T), s.e⟩
def lmS (n d : Int) (x m : Nat) : Nat → LmSt
  | 0 => ⟨ofI d n m, ofI d n m, 0⟩
  | k + 1 => lmNext n d x m k (lmS n d x m k)
structure LmOk (n d : Int) (x m k : Nat) (s : LmSt) : Prop where
  t0 : 0 ≤ s.T.1
  tl : s.T.1 ≤ s.T.2
  u1 : 1048576 ≤ s.U.1
  ul : s.U.1 ≤ s.U.2
  tu : s.T.2 ≤ s.U.2
  us : s.U.2 < Q (m + 128)
  rs : n + (k : Int) * d ≤ (x : Int) * d → Q (m - 9) ≤ s.T.2 ∧ s.U.2 ≤ (2 * (k : Int) + 2) * s.T.2
  tw : (s.T.2 - s.T.1) * Q (m - 9) ≤ (4 * (k : Int) + 1) * mx (Q (m - 9)) s.T.2
  uw : (s.U.2 - s.U.1) * Q (m - 9) ≤ (4 * (k : Int) + 1) * (s.U.2 + ((k : Int) + 1) * Q (m - 9))
theorem lm_zero {n d : Int} {b x m : Nat} (h : LmIn n d b x) (hm : m = b + 128) : LmOk n d x m 0 (lmS n d x m 0) := by
  have n0 := h.n0
  have d0 := h.d0
  have up := h.up
  have F := Q_pos (m - 9)
  have e8 : Q m = 256 * Q (m - 8) := by
    have e : Q (m - 8 + 8) = Q (m - 8) * Q 8 := Q_add _ _
    have e2 : m - 8 + 8 = m := by omega
    have e3 : Q 8 = 256 := rfl
    rw [e2, e3] at e
    omega
  have e9 : Q (m - 8) = 2 * Q (m - 9) := by
    have : m - 8 = (m - 9) + 1 := by omega
    rw [this]; rfl
  have lo : Q (m - 8) ≤ (ofI d n m).1 := by
    refine Int.le_ediv_of_mul_le n0 ?_
    have a := Int.mul_le_mul_of_nonneg_left up (show 0 ≤ Q (m - 8) by omega)
    have b' := Int.mul_nonneg (show 0 ≤ Q (m - 8) by omega) (show 0 ≤ d by omega)
    have r1 : Q (m - 8) * (201 * d) = 201 * (Q (m - 8) * d) := by grind
    have r2 : d * (256 * Q (m - 8)) = 256 * (Q (m - 8) * d) := by grind
    rw [e8, r2]; omega
  have le := ofI_le (n := d) n0 m
  have wd := ofI_wide (n := d) n0 m
  have hi : (ofI d n m).2 ≤ Q (m + 41) := by
    have e41 : Q (m + 41) = Q m * Q 41 := Q_add m 41
    have c41 : Q 41 = 2199023255552 := rfl
    have qm := Q_pos m
    have r := (round_abs (x := d * Q m) (m := Q (m + 41)) (q := n) n0 (by
      have := Int.mul_nonneg (show 0 ≤ d by omega) (show 0 ≤ Q m by omega)
      have := Int.mul_nonneg (show 0 ≤ Q (m + 41) by have := Q_pos (m + 41); omega) (show 0 ≤ n by omega)
      omega) (by
      have m1 := Int.mul_le_mul_of_nonneg_right h.dd (show 0 ≤ Q m by omega)
      have m2 := Int.mul_le_mul_of_nonneg_left (show 1 ≤ n by omega) (show 0 ≤ Q (m + 41) by have := Q_pos (m + 41); omega)
      rw [e41, c41] at m2 ⊢
      have : Q m * 2199023255552 = 2199023255552 * Q m := Int.mul_comm _ _
      omega)).2.2.2
    exact r
  have up2 := Q_mono (show m + 42 ≤ m + 128 by omega)
  have e42 : Q (m + 42) = 2 * Q (m + 41) := rfl
  have q41 := Q_pos (m + 41)
  have mxe : mx (Q (m - 9)) (ofI d n m).2 = (ofI d n m).2 := by unfold mx; rw [if_pos (by omega)]
  have c0 : ((0 : Nat) : Int) = 0 := rfl
  have w1 : ((ofI d n m).2 - (ofI d n m).1) * Q (m - 9) ≤ 1 * Q (m - 9) := Int.mul_le_mul_of_nonneg_right wd (by omega)
  refine ⟨?_, le, ?_, le, Int.le_refl _, ?_, fun _ => ⟨?_, ?_⟩, ?_, ?_⟩
  · show 0 ≤ (ofI d n m).1; omega
  · show 1048576 ≤ (ofI d n m).1
    have e20 : Q 20 = 1048576 := rfl
    have := Q_mono (show 20 ≤ m - 8 by omega)
    omega
  · show (ofI d n m).2 < _; omega
  · show _ ≤ (ofI d n m).2; omega
  · show (ofI d n m).2 ≤ (2 * ((0 : Nat) : Int) + 2) * (ofI d n m).2; rw [c0]; omega
  · show ((ofI d n m).2 - (ofI d n m).1) * Q (m - 9) ≤ (4 * ((0 : Nat) : Int) + 1) * mx (Q (m - 9)) (ofI d n m).2; rw [mxe, c0]; omega
  · show ((ofI d n m).2 - (ofI d n m).1) * Q (m - 9) ≤ (4 * ((0 : Nat) : Int) + 1) * ((ofI d n m).2 + (((0 : Nat) : Int) + 1) * Q (m - 9)); rw [c0]; omega
structure LmMid (n d : Int) (x m k : Nat) (T U : Int × Int) : Prop where
  t0 : 0 ≤ T.1
  tl : T.1 ≤ T.2
  u1 : 1048576 ≤ U.1
  ul : U.1 ≤ U.2
  tu : T.2 ≤ U.2
  us : U.2 ≤ Q (m + 140)
  rs : n + ((k : Int) + 1) * d ≤ (x : Int) * d → Q (m - 9) ≤ T.2 ∧ U.2 ≤ (2 * (k : Int) + 3) * T.2
  tw : (T.2 - T.1) * Q (m - 9) ≤ (4 * (k : Int) + 3) * mx (Q (m - 9)) T.2
  uw : (U.2 - U.1) * Q (m - 9) ≤ (4 * (k : Int) + 3) * (U.2 + ((k : Int) + 2) * Q (m - 9))
theorem lm_mid {n d : Int} {b x m k : Nat} {s : LmSt} (h : LmIn n d b x) (hm : m = b + 128) (o : LmOk n d x m k s) : LmMid n d x m k (lmT n d x k s.T) (addI s.U (lmT n d x k s.T)) := by
  have n0 := h.n0
  have d0 := h.d0
  have F := Q_pos (m - 9)
  have kd := Int.mul_nonneg (show (0 : Int) ≤ (k : Int) by omega) (show 0 ≤ d by omega)
  have ed : ((k : Int) + 1) * d = (k : Int) * d + d := by grind
  have v0 : 0 < n + ((k : Int) + 1) * d := by omega
  have u0 : 0 ≤ (x : Int) * d := Int.mul_nonneg (by omega) (by omega)
  obtain ⟨s0, s1, s2, s3, s4, s5⟩ := sc_facts v0 u0 o.t0 o.tl
  have tw := sc_w (F := Q (m - 9)) (c := 4 * (k : Int) + 1) v0 u0 o.t0 o.tl (by omega) (by omega) o.tw (by
    by_cases c : n + (k : Int) * d ≤ (x : Int) * d
    · exact Or.inl (o.rs c).1
    · exact Or.inr (by omega))
  have uw := o.uw
  have u1 := o.u1
  have ul := o.ul
  have tu := o.tu
  have us := o.us
  have t0 := o.t0
  have tl := o.tl
  have rs0 := o.rs
  have hi : (lmT n d x k s.T).2 ≤ 2048 * s.T.2 + 1 := by
    have a := Int.mul_le_mul (show (x : Int) ≤ 2048 by have := h.x1; omega) (show d ≤ n + ((k : Int) + 1) * d by omega) (by omega) (by omega)
    have b' := Int.mul_le_mul_of_nonneg_left a (show 0 ≤ s.T.2 by omega)
    have r1 : s.T.2 * (2048 * (n + ((k : Int) + 1) * d)) = 2048 * s.T.2 * (n + ((k : Int) + 1) * d) := by grind
    have lt : ((scaleI s.T ((x : Int) * d) (n + ((k : Int) + 1) * d)).2 - 1) * (n + ((k : Int) + 1) * d) < (2048 * s.T.2) * (n + ((k : Int) + 1) * d) := by omega
    have := Int.lt_of_mul_lt_mul_right lt (by omega)
    show (scaleI s.T ((x : Int) * d) (n + ((k : Int) + 1) * d)).2 ≤ _
    omega
  have eT : scaleI s.T ((x : Int) * d) (n + ((k : Int) + 1) * d) = lmT n d x k s.T := rfl
  rw [eT] at s0 s1 s2 s3 s4 s5 tw
  have ea1 : (addI s.U (lmT n d x k s.T)).1 = s.U.1 + (lmT n d x k s.T).1 := rfl
  have ea2 : (addI s.U (lmT n d x k s.T)).2 = s.U.2 + (lmT n d x k s.T).2 := rfl
  have e140 : Q (m + 140) = 4096 * Q (m + 128) := by
    have e : Q (m + 128 + 12) = Q (m + 128) * Q 12 := Q_add _ _
    have e12 : Q 12 = 4096 := rfl
    have e3 : m + 128 + 12 = m + 140 := by omega
    rw [e3, e12] at e
    omega
  generalize lmT n d x k s.T = T at *
  refine ⟨s0, s1, by omega, by omega, by omega, ?_, fun c => ?_, ?_, ?_⟩
  · have := Q_pos (m + 128)
    rw [ea2, e140]; omega
  · have c' : n + (k : Int) * d ≤ (x : Int) * d := by omega
    obtain ⟨g1, g2⟩ := rs0 c'
    have g3 : s.T.2 ≤ T.2 := by
      have a := Int.mul_le_mul_of_nonneg_left c (show 0 ≤ s.T.2 by omega)
      exact Int.le_of_mul_le_mul_right (Int.le_trans a s2) v0
    refine ⟨by omega, ?_⟩
    have a := Int.mul_le_mul_of_nonneg_left g3 (show 0 ≤ 2 * (k : Int) + 2 by omega)
    have r : (2 * (k : Int) + 3) * T.2 = (2 * (k : Int) + 2) * T.2 + T.2 := by grind
    rw [ea2, r]; omega
  · have r : (4 * (k : Int) + 1 + 2) = 4 * (k : Int) + 3 := by omega
    rw [r] at tw; exact tw
  · have r : (4 * (k : Int) + 1 + 2) = 4 * (k : Int) + 3 := by omega
    rw [r] at tw
    have ml := mx_le (F := Q (m - 9)) (h := T.2) (by omega) (by omega)
    have a1 := Int.mul_le_mul_of_nonneg_left ml (show 0 ≤ 4 * (k : Int) + 3 by omega)
    have kF := Int.mul_nonneg (show (0 : Int) ≤ (k : Int) by omega) (show 0 ≤ Q (m - 9) by omega)
    have rk : ((k : Int) + 1) * Q (m - 9) = (k : Int) * Q (m - 9) + Q (m - 9) := by grind
    have a2 := Int.mul_le_mul_of_nonneg_right (show 4 * (k : Int) + 1 ≤ 4 * (k : Int) + 3 by omega) (show 0 ≤ s.U.2 + ((k : Int) + 1) * Q (m - 9) by omega)
    rw [ea1, ea2]
    have r1 : (s.U.2 + T.2 - (s.U.1 + T.1)) * Q (m - 9) = (s.U.2 - s.U.1) * Q (m - 9) + (T.2 - T.1) * Q (m - 9) := by grind
    have r2 : (4 * (k : Int) + 3) * (s.U.2 + T.2 + ((k : Int) + 2) * Q (m - 9)) = (4 * (k : Int) + 3) * (s.U.2 + ((k : Int) + 1) * Q (m - 9)) + (4 * (k : Int) + 3) * (T.2 + Q (m - 9)) := by grind
    rw [r1, r2]; omega
theorem su_w {U : Int × Int} {q F c j : Int} (hq : 0 < q) (h0 : 0 ≤ U.1) (hl : U.1 ≤ U.2) (hF : 0 < F) (hc : 0 ≤ c) (hj : 1 ≤ j) (hw : (U.2 - U.1) * F ≤ c * (U.2 + j * F)) : ((scaleI U 1 q).2 - (scaleI U 1 q).1) * F ≤ (c + 2) * ((scaleI U 1 q).2 + j * F) := by
  obtain ⟨s0, s1, s2, s3, s4, s5⟩ := sc_facts hq (show (0 : Int) ≤ 1 by decide) h0 hl
  generalize (scaleI U 1 q).2 = h1 at *
  generalize (scaleI U 1 q).1 = l1 at *
  rw [Int.mul_one] at s2 s4
  have jF := Int.mul_nonneg (show 0 ≤ j by omega) (show 0 ≤ F by omega)
  have jq := Int.mul_le_mul_of_nonneg_left (show 1 ≤ q by omega) jF
  have key : (h1 - l1 - 2) * F ≤ c * (h1 + j * F) := by
    have k1 := Int.mul_le_mul_of_nonneg_right s4 (show 0 ≤ F by omega)
    have k2 := Int.mul_le_mul_of_nonneg_left (show U.2 + j * F ≤ h1 * q + j * F * q by omega) hc
    refine Int.le_of_mul_le_mul_right (a := q) ?_ hq
    have r1 : (h1 - l1 - 2) * F * q = (h1 - l1 - 2) * q * F := by grind
    have r2 : c * (h1 + j * F) * q = c * (h1 * q + j * F * q) := by grind
    omega
  have Fj := Int.mul_le_mul_of_nonneg_right hj (show 0 ≤ F by omega)
  have r5 : (h1 - l1 - 2) * F = (h1 - l1) * F - 2 * F := by grind
  have r6 : (c + 2) * (h1 + j * F) = c * (h1 + j * F) + 2 * h1 + 2 * (j * F) := by grind
  omega
theorem lm_half {n d : Int} {b x m k : Nat} {T U : Int × Int} (hm : m = b + 128) (hk : k ≤ 25000) (o : LmMid n d x m k T U) (hg : Q (m + 128) ≤ U.2) : U.2 ≤ 2 * U.1 := by
  have F := Q_pos (m - 9)
  have F1 : Q 119 ≤ Q (m - 9) := Q_mono (by omega)
  have c119 : Q 119 = 664613997892457936451903530140172288 := by decide +kernel
  have G1 : Q 128 ≤ Q (m + 128) := Q_mono (by omega)
  have c128 : Q 128 = 340282366920938463463374607431768211456 := by decide +kernel
  have uw := o.uw
  have ul := o.ul
  have u1 := o.u1
  rw [c119] at F1
  rw [c128] at G1
  generalize Q (m - 9) = f at *
  generalize Q (m + 128) = gq at *
  have a1 := Int.mul_le_mul_of_nonneg_right (show 4 * (4 * (k : Int) + 3) ≤ f by omega) (show 0 ≤ U.2 by omega)
  have cj := Int.mul_le_mul (show 4 * (k : Int) + 3 ≤ 100003 by omega) (show (k : Int) + 2 ≤ 25002 by omega) (by omega) (by omega)
  have a2 := Int.mul_le_mul_of_nonneg_right (show 4 * ((4 * (k : Int) + 3) * ((k : Int) + 2)) ≤ U.2 by omega) (show 0 ≤ f by omega)
  have key : 2 * (U.2 - U.1) ≤ U.2 := by
    refine Int.le_of_mul_le_mul_right (a := f) ?_ (by omega)
    have r1 : (4 * (k : Int) + 3) * (U.2 + ((k : Int) + 2) * f) = (4 * (k : Int) + 3) * U.2 + (4 * (k : Int) + 3) * ((k : Int) + 2) * f := by grind
    have r2 : 4 * (4 * (k : Int) + 3) * U.2 = 4 * ((4 * (k : Int) + 3) * U.2) := by grind
    have r3 : 4 * ((4 * (k : Int) + 3) * ((k : Int) + 2)) * f = 4 * ((4 * (k : Int) + 3) * ((k : Int) + 2) * f) := by grind
    have r4 : 2 * (U.2 - U.1) * f = 2 * ((U.2 - U.1) * f) := by grind
    have r5 : f * U.2 = U.2 * f := Int.mul_comm _ _
    rw [r1] at uw
    rw [r2, r5] at a1
    rw [r3] at a2
    omega
  omega
theorem lm_step {n d : Int} {b x m k : Nat} {s : LmSt} (h : LmIn n d b x) (hm : m = b + 128) (hk : k ≤ 25000) (o : LmOk n d x m k s) : LmOk n d x m (k + 1) (lmNext n d x m k s) := by
  have md := lm_mid h hm o
  have F := Q_pos (m - 9)
  have ec : ((k + 1 : Nat) : Int) = (k : Int) + 1 := by omega
  unfold lmNext
  generalize lmT n d x k s.T = T at *
  generalize addI s.U T = U at *
  by_cases hg : Q (m + 128) ≤ U.2
  · rw [if_pos hg]
    have hf := lm_half hm hk md hg
    have q64 : (0 : Int) < Q 64 := by have := Q_pos 64; omega
    have e64 : Q 64 = 18446744073709551616 := by decide +kernel
    obtain ⟨a0, a1, a2, a3, a4, a5⟩ := sc_facts (a := T) q64 (show (0 : Int) ≤ 1 by decide) md.t0 md.tl
    obtain ⟨b0, b1, b2, b3, b4, b5⟩ := sc_facts (a := U) q64 (show (0 : Int) ≤ 1 by decide) (by have := md.u1; omega) md.ul
    have tw := sc_w (F := Q (m - 9)) (c := 4 * (k : Int) + 3) q64 (show (0 : Int) ≤ 1 by decide) md.t0 md.tl (by omega) (by omega) md.tw (Or.inr (by omega))
    have uw := su_w (F := Q (m - 9)) (c := 4 * (k : Int) + 3) (j := (k : Int) + 2) q64 (by have := md.u1; omega) md.ul (by omega) (by omega) (by omega) md.uw
    have us := md.us
    have tu := md.tu
    have rs := md.rs
    have lo : Q (m + 127) ≤ U.1 := by
      have e : Q (m + 127 + 1) = 2 * Q (m + 127) := rfl
      have e2 : m + 127 + 1 = m + 128 := by omega
      rw [e2] at e
      omega
    have lo1 : 1048576 ≤ (scaleI U 1 (Q 64)).1 := by
      refine Int.le_ediv_of_mul_le q64 ?_
      have e84 : Q 84 = Q 20 * Q 64 := Q_add 20 64
      have e20 : Q 20 = 1048576 := rfl
      rw [e20] at e84
      have := Q_mono (show 84 ≤ m + 127 by omega)
      omega
    have e76 : Q (m + 140) = Q (m + 76) * Q 64 := by rw [← Q_add]
    have hi : (scaleI U 1 (Q 64)).2 ≤ Q (m + 76) := by
      have lt : ((scaleI U 1 (Q 64)).2 - 1) * Q 64 < Q (m + 76) * Q 64 := by rw [← e76]; omega
      have := Int.lt_of_mul_lt_mul_right lt (by omega)
      omega
    have e128 := Q_mono (show m + 77 ≤ m + 128 by omega)
    have e77 : Q (m + 77) = 2 * Q (m + 76) := rfl
    have q76 := Q_pos (m + 76)
    have tu2 : (scaleI T 1 (Q 64)).2 ≤ (scaleI U 1 (Q 64)).2 := by
      have lt : ((scaleI T 1 (Q 64)).2 - 1) * Q 64 < (scaleI U 1 (Q 64)).2 * Q 64 := by omega
      have := Int.lt_of_mul_lt_mul_right lt (by omega)
      omega
    refine ⟨a0, a1, lo1, b1, tu2, by show (scaleI U 1 (Q 64)).2 < _; omega, fun c => ?_, ?_, ?_⟩
    · rw [ec] at c
      obtain ⟨g1, g2⟩ := rs c
      have T0 : 0 ≤ T.2 := by have := md.t0; have := md.tl; omega
      have big : Q (m + 112) ≤ T.2 := by
        refine Int.not_lt.1 fun hlt => ?_
        have e : Q (m + 112 + 16) = Q (m + 112) * Q 16 := Q_add _ _
        have e16 : Q 16 = 65536 := rfl
        have e4 : m + 112 + 16 = m + 128 := by omega
        rw [e4, e16] at e
        have a := Int.mul_le_mul_of_nonneg_right (show 2 * (k : Int) + 3 ≤ 65536 by omega) T0
        omega
      have e48 : Q (m + 112) = Q (m + 48) * Q 64 := by rw [← Q_add]
      rw [Int.mul_one] at a2 b3
      have h48 : Q (m + 48) ≤ (scaleI T 1 (Q 64)).2 := Int.le_of_mul_le_mul_right (a := Q 64) (by omega) q64
      have F48 := Q_mono (show m - 9 ≤ m + 48 by omega)
      refine ⟨by show Q (m - 9) ≤ (scaleI T 1 (Q 64)).2; omega, ?_⟩
      rw [ec]
      show (scaleI U 1 (Q 64)).2 ≤ (2 * ((k : Int) + 1) + 2) * (scaleI T 1 (Q 64)).2
      have q48 := Q_pos (m + 48)
      have a6 := Int.mul_le_mul_of_nonneg_left a2 (show 0 ≤ 2 * (k : Int) + 3 by omega)
      have r1 : (2 * (k : Int) + 3) * ((scaleI T 1 (Q 64)).2 * Q 64) = (2 * (k : Int) + 3) * (scaleI T 1 (Q 64)).2 * Q 64 := by grind
      have lt : ((scaleI U 1 (Q 64)).2 - 1) * Q 64 < (2 * (k : Int) + 3) * (scaleI T 1 (Q 64)).2 * Q 64 := by omega
      have lt2 := Int.lt_of_mul_lt_mul_right lt (by omega)
      have r2 : (2 * ((k : Int) + 1) + 2) * (scaleI T 1 (Q 64)).2 = (2 * (k : Int) + 3) * (scaleI T 1 (Q 64)).2 + (scaleI T 1 (Q 64)).2 := by grind
      omega
    · have r : ((4 * (k : Int) + 3) + 2) = 4 * ((k : Int) + 1) + 1 := by omega
      rw [r] at tw
      rw [ec]; exact tw
    · have r : ((4 * (k : Int) + 3) + 2) = 4 * ((k : Int) + 1) + 1 := by omega
      rw [r] at uw
      rw [ec]
      have r2 : ((k : Int) + 1 + 1) = (k : Int) + 2 := by omega
      rw [r2]; exact uw
  · rw [if_neg hg]
    refine ⟨md.t0, md.tl, md.u1, md.ul, md.tu, by show U.2 < _; omega, fun c => ?_, ?_, ?_⟩
    · rw [ec] at c
      obtain ⟨g1, g2⟩ := md.rs c
      refine ⟨g1, ?_⟩
      have t0 := md.t0
      have tl := md.tl
      rw [ec]
      show U.2 ≤ (2 * ((k : Int) + 1) + 2) * T.2
      have r : (2 * ((k : Int) + 1) + 2) * T.2 = (2 * (k : Int) + 3) * T.2 + T.2 := by grind
      omega
    · have tw := md.tw
      obtain ⟨m1, m2⟩ := mx_ge (Q (m - 9)) T.2
      have a := Int.mul_le_mul_of_nonneg_right (show 4 * (k : Int) + 3 ≤ 4 * ((k : Int) + 1) + 1 by omega) (show 0 ≤ mx (Q (m - 9)) T.2 by omega)
      rw [ec]
      exact Int.le_trans tw a
    · have uw := md.uw
      have ul := md.ul
      have u1 := md.u1
      have kF := Int.mul_nonneg (show (0 : Int) ≤ (k : Int) + 2 by omega) (show 0 ≤ Q (m - 9) by omega)
      have a := Int.mul_le_mul_of_nonneg_right (show 4 * (k : Int) + 3 ≤ 4 * ((k : Int) + 1) + 1 by omega) (show 0 ≤ U.2 + ((k : Int) + 2) * Q (m - 9) by omega)
      rw [ec]
      have r2 : ((k : Int) + 1 + 1) = (k : Int) + 2 := by omega
      rw [r2]
      exact Int.le_trans uw a
theorem lm_all {n d : Int} {b x m : Nat} (h : LmIn n d b x) (hm : m = b + 128) (k : Nat) (hk : k ≤ 25000) : LmOk n d x m k (lmS n d x m k) := by
  induction k with
  | zero => exact lm_zero h hm
  | succ k ih => exact lm_step h hm (by omega) (ih (by omega))
theorem lm_fall {n d : Int} {b x m k : Nat} (h : LmIn n d b x) (hm : m = b + 128) (hk : k ≤ 24000) (hx : 2 * x ≤ k) : 2 * (lmS n d x m (k + 1)).T.2 ≤ (lmS n d x m k).T.2 + 1 := by
  have o := lm_all h hm k (by omega)
  have n0 := h.n0
  have d0 := h.d0
  obtain ⟨s, hs⟩ : ∃ s, s = lmS n d x m k := ⟨_, rfl⟩
  rw [← hs] at o
  have kd := Int.mul_nonneg (show (0 : Int) ≤ (k : Int) by omega) (show 0 ≤ d by omega)
  have ed : ((k : Int) + 1) * d = (k : Int) * d + d := by grind
  have v0 : 0 < n + ((k : Int) + 1) * d := by omega
  have u0 : 0 ≤ (x : Int) * d := Int.mul_nonneg (by omega) (by omega)
  obtain ⟨s0, s1, s2, s3, s4, s5⟩ := sc_facts v0 u0 o.t0 o.tl
  have T0 : 0 ≤ s.T.2 := by have := o.t0; have := o.tl; omega
  have half : 2 * (lmT n d x k s.T).2 ≤ s.T.2 + 1 := by
    show 2 * (scaleI s.T ((x : Int) * d) (n + ((k : Int) + 1) * d)).2 ≤ _
    generalize (scaleI s.T ((x : Int) * d) (n + ((k : Int) + 1) * d)).2 = y at *
    have a := Int.mul_le_mul_of_nonneg_right (show 2 * (x : Int) ≤ (k : Int) by omega) (show 0 ≤ d by omega)
    have r1 : 2 * (x : Int) * d = 2 * ((x : Int) * d) := by grind
    have le : 2 * ((x : Int) * d) ≤ n + ((k : Int) + 1) * d := by omega
    have b' := Int.mul_le_mul_of_nonneg_left le T0
    have r2 : s.T.2 * (2 * ((x : Int) * d)) = 2 * (s.T.2 * ((x : Int) * d)) := by grind
    have lt : (2 * (y - 1)) * (n + ((k : Int) + 1) * d) < s.T.2 * (n + ((k : Int) + 1) * d) := by
      have r3 : (2 * (y - 1)) * (n + ((k : Int) + 1) * d) = 2 * ((y - 1) * (n + ((k : Int) + 1) * d)) := by grind
      omega
    have := Int.lt_of_mul_lt_mul_right lt (by omega)
    omega
  show 2 * (lmNext n d x m k (lmS n d x m k)).T.2 ≤ (lmS n d x m k).T.2 + 1
  rw [← hs]
  unfold lmNext
  have t1 : 0 ≤ (lmT n d x k s.T).1 := s0
  have t2 : (lmT n d x k s.T).1 ≤ (lmT n d x k s.T).2 := s1
  split
  · have q64 : (0 : Int) < Q 64 := by have := Q_pos 64; omega
    obtain ⟨a0, a1, a2, a3, a4, a5⟩ := sc_facts (a := lmT n d x k s.T) q64 (show (0 : Int) ≤ 1 by decide) t1 t2
    show 2 * (scaleI (lmT n d x k s.T) 1 (Q 64)).2 ≤ _
    have le : (scaleI (lmT n d x k s.T) 1 (Q 64)).2 ≤ (lmT n d x k s.T).2 := by
      generalize (scaleI (lmT n d x k s.T) 1 (Q 64)).2 = y at *
      generalize (lmT n d x k s.T).2 = z at *
      by_cases c : y ≤ 1
      · by_cases c2 : y ≤ 0
        · omega
        · have m := Int.mul_le_mul_of_nonneg_left (show (1 : Int) ≤ Q 64 by omega) (show 0 ≤ y - 1 by omega)
          omega
      · have m := Int.mul_le_mul_of_nonneg_left (show (2 : Int) ≤ Q 64 by have := Q_mono (show 1 ≤ 64 by omega); have : Q 1 = 2 := rfl; omega) (show 0 ≤ y - 1 by omega)
        omega
    omega
  · exact half
theorem lm_ends {n d : Int} {b x m : Nat} (h : LmIn n d b x) (hm : m = b + 128) : ∃ K, 2 * x < K ∧ K < 16 * x ∧ (lmS n d x m K).T.2 ≤ 1 ∧ ∀ k, 2 * x < k → k < K → 1 < (lmS n d x m k).T.2 := by
  have x1 := h.x1
  have xb := h.xb
  have b1 := h.b1
  have fall : ∀ j : Nat, j ≤ m + 130 → (lmS n d x m (2 * x + 1 + j)).T.2 ≤ 1 ∨ (lmS n d x m (2 * x + 1 + j)).T.2 ≤ Q (m + 129 - j) + 1 := fun j => by
    induction j with
    | zero =>
      intro _
      have o := lm_all h hm (2 * x + 1 + 0) (by omega)
      have := o.tu
      have := o.us
      have e : Q (m + 129 - 0) = 2 * Q (m + 128) := rfl
      have qq := Q_pos (m + 128)
      refine Or.inr ?_
      rw [e]
      omega
    | succ j ih =>
      intro hj
      have f := lm_fall h hm (k := 2 * x + 1 + j) (by omega) (by omega)
      have e0 : 2 * x + 1 + (j + 1) = 2 * x + 1 + j + 1 := by omega
      rw [e0]
      rcases ih (by omega) with c | c
      · exact Or.inl (by omega)
      · by_cases hz : j ≤ m + 128
        · have e : Q (m + 129 - j) = 2 * Q (m + 129 - (j + 1)) := by
            have : m + 129 - j = (m + 129 - (j + 1)) + 1 := by omega
            rw [this]; rfl
          exact Or.inr (by omega)
        · have e : m + 129 - j = 0 := by omega
          rw [e] at c
          have : Q 0 = 1 := rfl
          exact Or.inl (by omega)
  have last : (lmS n d x m (2 * x + 1 + (m + 130))).T.2 ≤ 1 := by
    rcases fall (m + 130) (Nat.le_refl _) with c | c
    · exact c
    · have c9 := fall (m + 129) (by omega)
      have f := lm_fall h hm (k := 2 * x + 1 + (m + 129)) (by omega) (by omega)
      have e0 : 2 * x + 1 + (m + 130) = 2 * x + 1 + (m + 129) + 1 := by omega
      rw [e0]
      rcases c9 with c9 | c9
      · omega
      · have e : m + 129 - (m + 129) = 0 := by omega
        rw [e] at c9
        have : Q 0 = 1 := rfl
        omega
  obtain ⟨K, k1, k2, k3⟩ := exists_least (p := fun k => 2 * x < k ∧ (lmS n d x m k).T.2 ≤ 1) (K := 2 * x + 1 + (m + 130)) ⟨by omega, last⟩
  refine ⟨K, k2.1, by omega, k2.2, fun k hk hK => ?_⟩
  have := k3 k hK
  exact Int.not_le.1 fun c => this ⟨hk, c⟩
end Go.Proofs.Ytgmnknmjainabab
namespace Go.Proofs.Ytgmnknmjainabab
open Ex
theorem Has.of_constL {a b c : Rat} (h : Has a b (fun _ => c)) : a ≤ c ∧ c ≤ b := by
  refine ⟨Rat.not_lt.1 fun hlt => ?_, Rat.not_lt.1 fun hlt => ?_⟩
  · obtain ⟨N, k⟩ := h ((a - c) / 2) (by grind)
    have := (k N (Nat.le_refl _)).1
    grind
  · obtain ⟨N, k⟩ := h ((c - b) / 2) (by grind)
    have := (k N (Nat.le_refl _)).2
    grind
theorem rat_frac {n d : Int} {x k : Nat} (hn : 0 < n) (hd : 0 < d) : (((x : Int) * d : Int) : Rat) / ((n + ((k : Int) + 1) * d : Int) : Rat) = (x : Rat) / ((n : Rat) / (d : Rat) + ((k : Rat) + 1)) := by
  have d0 : (0 : Rat) < (d : Rat) := by exact_mod_cast hd
  have n0 : (0 : Rat) < (n : Rat) := by exact_mod_cast hn
  have k0 : (0 : Rat) < (k : Rat) + 1 := pos1 k
  have kd := Rat.mul_pos k0 d0
  have e1 : ((n + ((k : Int) + 1) * d : Int) : Rat) = (n : Rat) + ((k : Rat) + 1) * (d : Rat) := by
    rw [Rat.intCast_add, Rat.intCast_mul, Rat.intCast_add]; rfl
  have e2 : (((x : Int) * d : Int) : Rat) = (x : Rat) * (d : Rat) := by rw [Rat.intCast_mul]; rfl
  have p : 0 < (n : Rat) + ((k : Rat) + 1) * (d : Rat) := by grind
  have q : 0 < (n : Rat) / (d : Rat) + ((k : Rat) + 1) := by have := rdiv_pos n0 d0; grind
  rw [e1, e2]
  have m1 := rdm (a := (x : Rat) * (d : Rat)) p
  have m2 := rdm (a := (x : Rat)) q
  have m3 := rdm (a := (n : Rat)) d0
  refine rat_cancel (Rat.mul_pos p q) ?_
  generalize (x : Rat) * (d : Rat) / ((n : Rat) + ((k : Rat) + 1) * (d : Rat)) = y at *
  generalize (x : Rat) / ((n : Rat) / (d : Rat) + ((k : Rat) + 1)) = z at *
  have r1 : ((n : Rat) + ((k : Rat) + 1) * (d : Rat)) * ((n : Rat) / (d : Rat) + ((k : Rat) + 1)) * y = y * ((n : Rat) + ((k : Rat) + 1) * (d : Rat)) * ((n : Rat) / (d : Rat) + ((k : Rat) + 1)) := by grind
  have r2 : ((n : Rat) + ((k : Rat) + 1) * (d : Rat)) * ((n : Rat) / (d : Rat) + ((k : Rat) + 1)) * z = z * ((n : Rat) / (d : Rat) + ((k : Rat) + 1)) * ((n : Rat) + ((k : Rat) + 1) * (d : Rat)) := by grind
  rw [r1, r2, m1, m2]
  have r3 : (n : Rat) + ((k : Rat) + 1) * (d : Rat) = ((n : Rat) / (d : Rat) + ((k : Rat) + 1)) * (d : Rat) := by
    have : ((n : Rat) / (d : Rat) + ((k : Rat) + 1)) * (d : Rat) = (n : Rat) / (d : Rat) * (d : Rat) + ((k : Rat) + 1) * (d : Rat) := by grind
    rw [this, m3]
  rw [r3]; grind
def h64 (e : Nat) : Rat := 1 / (Q (64 * e) : Rat)
theorem h64_succ (e : Nat) : (1 : Int) / ((Q 64 : Int) : Rat) * h64 e = h64 (e + 1) := by
  unfold h64
  have e1 : Q (64 * (e + 1)) = Q 64 * Q (64 * e) := by rw [← Q_add]; congr 1; omega
  rw [e1, Rat.intCast_mul]
  have p := Qr_pos 64
  have q := Qr_pos (64 * e)
  have c1 : ((1 : Int) : Rat) = 1 := rfl
  rw [c1]
  generalize (Q 64 : Rat) = y at *
  generalize (Q (64 * e) : Rat) = z at *
  have a := rdm (a := 1) p
  have b := rdm (a := 1) q
  have c := rdm (a := 1) (Rat.mul_pos p q)
  refine rat_cancel (Rat.mul_pos p q) ?_
  have r1 : y * z * (1 / y * (1 / z)) = 1 / y * y * (1 / z * z) := by grind
  have r2 : y * z * (1 / (y * z)) = 1 / (y * z) * (y * z) := by grind
  rw [r1, r2, a, b, c]; grind
theorem lm_has {n d : Int} {b x m : Nat} (h : LmIn n d b x) (k : Nat) : Iv m (lmS n d x m k).T (fun _ => h64 (lmS n d x m k).e * upT ((n : Rat) / (d : Rat)) (x : Rat) k) ∧ Iv m (lmS n d x m k).U (fun _ => h64 (lmS n d x m k).e * uS ((n : Rat) / (d : Rat)) (x : Rat) (k + 1)) := by
  have n0 := h.n0
  have d0 := h.d0
  have nr : (0 : Rat) < (n : Rat) := by exact_mod_cast n0
  have dr : (0 : Rat) < (d : Rat) := by exact_mod_cast d0
  have a0 : (0 : Rat) < (n : Rat) / (d : Rat) := rdiv_pos nr dr
  induction k with
  | zero =>
    have i := Iv.of m (n := d) (d := n) n0
    have e : (d : Rat) / (n : Rat) = 1 / ((n : Rat) / (d : Rat)) := by
      have m1 := rdm (a := (d : Rat)) nr
      have m2 := rdm (a := 1) a0
      have m3 := rdm (a := (n : Rat)) dr
      refine rat_cancel (Rat.mul_pos nr a0) ?_
      generalize 1 / ((n : Rat) / (d : Rat)) = z at *
      generalize (n : Rat) / (d : Rat) = y at *
      generalize (d : Rat) / (n : Rat) = u at *
      have r1 : (n : Rat) * y * u = u * (n : Rat) * y := by grind
      have r2 : (n : Rat) * y * z = (n : Rat) * (z * y) := by grind
      rw [r1, r2, m1, m2]; grind
    have e1 : h64 0 = 1 := by
      unfold h64
      show (1 : Rat) / ((1 : Int) : Rat) = 1
      decide +kernel
    refine ⟨Has.of_eq i fun M => ?_, Has.of_eq i fun M => ?_⟩
    · show h64 0 * (1 / ((n : Rat) / (d : Rat))) = _
      rw [e1, e]; grind
    · show h64 0 * (0 + 1 / ((n : Rat) / (d : Rat))) = _
      rw [e1, e]; grind
  | succ k ih =>
    obtain ⟨i1, i2⟩ := ih
    obtain ⟨s, hs⟩ : ∃ s, s = lmS n d x m k := ⟨_, rfl⟩
    rw [← hs] at i1 i2
    have kd := Int.mul_nonneg (show (0 : Int) ≤ (k : Int) by omega) (show 0 ≤ d by omega)
    have ed : ((k : Int) + 1) * d = (k : Int) * d + d := by grind
    have t1 : Iv m (lmT n d x k s.T) (fun _ => h64 s.e * upT ((n : Rat) / (d : Rat)) (x : Rat) (k + 1)) := by
      refine Has.of_eq (i1.scale (n := (x : Int) * d) (d := n + ((k : Int) + 1) * d) (Int.mul_nonneg (by omega) (by omega)) (by omega)) fun M => ?_
      rw [rat_frac n0 d0]
      show h64 s.e * ((x : Rat) / ((n : Rat) / (d : Rat) + ((k : Rat) + 1)) * upT ((n : Rat) / (d : Rat)) (x : Rat) k) = _
      generalize (x : Rat) / ((n : Rat) / (d : Rat) + ((k : Rat) + 1)) = y
      grind
    have t2 : Iv m (addI s.U (lmT n d x k s.T)) (fun _ => h64 s.e * uS ((n : Rat) / (d : Rat)) (x : Rat) (k + 1 + 1)) := by
      refine Has.of_eq (i2.add t1) fun M => ?_
      rw [uS_succ _ _ (k + 1)]; grind
    have e : lmS n d x m (k + 1) = lmNext n d x m k s := by rw [hs]; rfl
    rw [e]
    unfold lmNext
    have q64 := Q_pos 64
    split
    · refine ⟨Has.of_eq (t1.scale (n := 1) (d := Q 64) (by decide) (by omega)) fun M => ?_, Has.of_eq (t2.scale (n := 1) (d := Q 64) (by decide) (by omega)) fun M => ?_⟩
      · show h64 (s.e + 1) * _ = _
        rw [← h64_succ]; grind
      · show h64 (s.e + 1) * _ = _
        rw [← h64_succ]; grind
    · exact ⟨t1, t2⟩
theorem upT_half {a x : Rat} {K : Nat} (ha : 0 < a) (hx : 0 ≤ x) (hK : 2 * x ≤ (K : Rat)) (i : Nat) : 2 * upT a x (K + i + 1) ≤ upT a x (K + i) := by
  have e := upT_succ ha x (K + i)
  have t0 := upT_nonneg ha hx (K + i)
  have t1 := upT_nonneg ha hx (K + i + 1)
  have ik : (K : Rat) ≤ ((K + i : Nat) : Rat) := by exact_mod_cast (show K ≤ K + i by omega)
  by_cases hz : x = 0
  · have : upT a x (K + i + 1) = 0 := by
      show x / (a + (((K + i : Nat) : Rat) + 1)) * upT a x (K + i) = 0
      rw [hz, Rat.div_def]; grind
    rw [this]; grind
  · have xp : 0 < x := by grind
    have m := Rat.mul_le_mul_of_nonneg_right (show 2 * x ≤ a + (((K + i : Nat) : Rat) + 1) by grind) t1
    rw [e] at m
    refine Rat.le_of_mul_le_mul_left (c := x) ?_ xp
    grind
theorem uS_rest {a x : Rat} {K : Nat} (ha : 0 < a) (hx : 0 ≤ x) (hK : 2 * x ≤ (K : Rat)) (i : Nat) : uS a x (K + 1 + i) + upT a x (K + i) ≤ uS a x (K + 1) + upT a x K := by
  induction i with
  | zero => exact Rat.le_refl
  | succ i ih =>
    have e : uS a x (K + 1 + (i + 1)) = uS a x (K + 1 + i) + upT a x (K + 1 + i) := rfl
    have e2 : K + 1 + i = K + i + 1 := by omega
    have e3 : K + (i + 1) = K + i + 1 := by omega
    have hh := upT_half ha hx hK i
    rw [e, e3]
    rw [e2] at ih ⊢
    grind
def lmL (U : Int × Int) : Int := U.1 - 2
def lmH (m e : Nat) (U : Int × Int) : Int := U.2 + 2 + -(-(Q (m + 1)) / Q (64 * e))
theorem lm_span {n d : Int} {b x m K : Nat} (h : LmIn n d b x) (hK : 2 * x < K) (hT : (lmS n d x m K).T.2 ≤ 1) : LeN (fun _ => (lmL (lmS n d x m K).U : Rat) / (Q m : Rat)) (fun M => h64 (lmS n d x m K).e * uS ((n : Rat) / (d : Rat)) (x : Rat) M) ∧ LeN (fun M => h64 (lmS n d x m K).e * (uS ((n : Rat) / (d : Rat)) (x : Rat) M + 2)) (fun _ => (lmH m (lmS n d x m K).e (lmS n d x m K).U : Rat) / (Q m : Rat)) := by
  have n0 := h.n0
  have d0 := h.d0
  have nr : (0 : Rat) < (n : Rat) := by exact_mod_cast n0
  have dr : (0 : Rat) < (d : Rat) := by exact_mod_cast d0
  have a0 : (0 : Rat) < (n : Rat) / (d : Rat) := rdiv_pos nr dr
  have x0 : (0 : Rat) ≤ (x : Rat) := by exact_mod_cast Nat.zero_le x
  have xK : 2 * (x : Rat) ≤ (K : Rat) := by exact_mod_cast (show 2 * x ≤ K by omega)
  obtain ⟨i1, i2⟩ := lm_has (m := m) h K
  obtain ⟨s, hs⟩ : ∃ s, s = lmS n d x m K := ⟨_, rfl⟩
  rw [← hs] at i1 i2 hT ⊢
  have q := Qr_pos m
  have he : 0 < h64 s.e := rdiv_pos (by grind) (Qr_pos _)
  obtain ⟨l1, u1⟩ := Has.of_constL i2
  obtain ⟨l2, u2⟩ := Has.of_constL i1
  have T1 : (s.T.2 : Rat) / (Q m : Rat) ≤ 1 / (Q m : Rat) := rdiv_le q (by rw [rdm q]; exact_mod_cast cast_le hT)
  obtain ⟨j, hj⟩ : ∃ j, j = 1 / (Q m : Rat) := ⟨_, rfl⟩
  have jm : j * (Q m : Rat) = 1 := by rw [hj]; exact rdm q
  rw [← hj] at T1
  have j0 : 0 < j := by rw [hj]; exact rdiv_pos (by grind) q
  have eL : (lmL s.U : Rat) / (Q m : Rat) = (s.U.1 : Rat) / (Q m : Rat) - 2 * j := by
    unfold lmL
    rw [Rat.intCast_sub, rdiv_sub]
    have : ((2 : Int) : Rat) / (Q m : Rat) = 2 * j := by
      rw [hj, Rat.div_def, Rat.div_def]
      have c2 : ((2 : Int) : Rat) = 2 := rfl
      rw [c2]; grind
    rw [this]
  refine ⟨LeN.of_le (K + 1) fun M hM => ?_, LeN.of_le (K + 1) fun M hM => ?_⟩
  · obtain ⟨i, rfl⟩ : ∃ i, M = K + 1 + i := ⟨M - (K + 1), by omega⟩
    have mono : ∀ i, uS ((n : Rat) / (d : Rat)) (x : Rat) (K + 1) ≤ uS ((n : Rat) / (d : Rat)) (x : Rat) (K + 1 + i) := fun i => by
      induction i with
      | zero => exact Rat.le_refl
      | succ i ih => have := upT_nonneg a0 x0 (K + 1 + i); have e : uS ((n : Rat) / (d : Rat)) (x : Rat) (K + 1 + (i + 1)) = uS ((n : Rat) / (d : Rat)) (x : Rat) (K + 1 + i) + upT ((n : Rat) / (d : Rat)) (x : Rat) (K + 1 + i) := rfl; rw [e]; grind
    have m1 := Rat.mul_le_mul_of_nonneg_left (mono i) (Rat.le_of_lt he)
    rw [eL]
    grind
  · obtain ⟨i, rfl⟩ : ∃ i, M = K + 1 + i := ⟨M - (K + 1), by omega⟩
    have r := uS_rest a0 x0 xK i
    have t0 := upT_nonneg a0 x0 (K + i)
    have m1 := Rat.mul_le_mul_of_nonneg_left (show uS ((n : Rat) / (d : Rat)) (x : Rat) (K + 1 + i) ≤ uS ((n : Rat) / (d : Rat)) (x : Rat) (K + 1) + upT ((n : Rat) / (d : Rat)) (x : Rat) K by grind) (Rat.le_of_lt he)
    have e64p : 0 < Q (64 * s.e) := by have := Q_pos (64 * s.e); omega
    have cl := dv_ceil (Q (m + 1)) e64p
    have beyond : 2 * h64 s.e ≤ ((-(-(Q (m + 1)) / Q (64 * s.e)) : Int) : Rat) / (Q m : Rat) := by
      refine rle_div q ?_
      have c := cast_le cl
      have e1 : Q (m + 1) = 2 * Q m := rfl
      rw [Rat.intCast_mul, e1, Rat.intCast_mul] at c
      have c2 : ((2 : Int) : Rat) = 2 := rfl
      rw [c2] at c
      rw [e1]
      generalize ((-(-(2 * Q m) / Q (64 * s.e)) : Int) : Rat) = z at *
      unfold h64
      have p := Qr_pos (64 * s.e)
      have dm := rdm (a := 1) p
      refine Rat.le_of_mul_le_mul_right (c := (Q (64 * s.e) : Rat)) ?_ p
      have r1 : 2 * (1 / (Q (64 * s.e) : Rat)) * (Q m : Rat) * (Q (64 * s.e) : Rat) = 2 * (Q m : Rat) * (1 / (Q (64 * s.e) : Rat) * (Q (64 * s.e) : Rat)) := by grind
      rw [r1, dm]; grind
    have eH : (lmH m s.e s.U : Rat) / (Q m : Rat) = (s.U.2 : Rat) / (Q m : Rat) + 2 * j + ((-(-(Q (m + 1)) / Q (64 * s.e)) : Int) : Rat) / (Q m : Rat) := by
      unfold lmH
      rw [Rat.intCast_add, rdiv_add, Rat.intCast_add, rdiv_add]
      have : ((2 : Int) : Rat) / (Q m : Rat) = 2 * j := by
        rw [hj, Rat.div_def, Rat.div_def]
        have c2 : ((2 : Int) : Rat) = 2 := rfl
        rw [c2]; grind
      rw [this]
    rw [eH]
    grind
end Go.Proofs.Ytgmnknmjainabab
namespace Go.Proofs.Ytgmnknmjainabab
open Go.RowKit
attribute [local go_sem ↓] Go.wp_at_zero Go.wp_at_succ
theorem touch_up {b i : Nat} {a c : Int × Int} {x : Nat → Rat} (h : Iv b a x) (k : Iv (b + i) c x) : touB a.1 a.2 i c.1 c.2 0 = true := by
  have q := Q_pos b
  have t1 := h.touch k
  have t2 := k.touch h
  rw [Q_add] at t1 t2
  have e1 : a.1 * (Q b * Q i) = a.1 * Q i * Q b := by grind
  have e2 : a.2 * (Q b * Q i) = a.2 * Q i * Q b := by grind
  rw [e1] at t1
  rw [e2] at t2
  have c1 : a.1 * Q i ≤ c.2 := Int.le_of_mul_le_mul_right t1 (by omega)
  have c2 : c.1 ≤ a.2 * Q i := Int.le_of_mul_le_mul_right t2 (by omega)
  have e0 : Q 0 = 1 := rfl
  unfold touB
  rw [e0]
  simp [c1, c2]
theorem lawSure_ok (w : World) (s t : Sp) (b i k : Nat) (lo hi lo' hi' : Int) (hs : SpAt w s 250 lo hi) (ht : SpAt w t k lo' hi') (hk0 : 250 ≤ k) (hk : k ≤ 300000000) (hb : s.bits = b) (hb1 : b ≤ 120) (hle : lo ≤ hi) (hi0 : 1 ≤ i) (hi1 : i ≤ 1000) (htb : t.bits = ((b + i : Nat) : Int)) (hN : narB lo hi (Q b) 4 = true) (hT : touB lo hi i lo' hi' 0 = true) :
    Calls Try.prog 13 #[.agg #[.bool s.ln, .slice s.la s.lN s.lc, .bool s.hn, .slice s.ha s.hN s.hc, .int .i64 s.bits], .int .i64 0, .int .i64 0, .int .i64 b, .agg #[.bool t.ln, .slice t.la t.lN t.lc, .bool t.hn, .slice t.ha t.hN t.hc, .int .i64 t.bits]] w fun r w' => r = .returned (.bool true) ∧ Below w.heap.size w w' := by
  rw [← hb]
  rcases cmp3 lo hi with ⟨h1, h2⟩ | ⟨h1, h2⟩ | ⟨h1, h2⟩
  · exact lawSure_a w s t b i k lo hi lo' hi' hs ht hk0 hk hb hb1 hle hi0 hi1 htb hN hT h1
  · exact lawSure_b w s t b i k lo hi lo' hi' hs ht hk0 hk hb hb1 hle hi0 hi1 htb hN hT h1
  · omega
end Go.Proofs.Ytgmnknmjainabab
namespace Go.Proofs.Ytgmnknmjainabab
open Ex
theorem wholeG_iv (b : Nat) (c : Int) : Iv b (c * Q b, c * Q b) (fun _ => (c : Rat)) := by
  have q := Qr_pos b
  have e : ((c * Q b : Int) : Rat) / (Q b : Rat) = (c : Rat) := by
    rw [Rat.intCast_mul]
    exact Rat.le_antisymm (rdiv_le q Rat.le_refl) (rle_div q Rat.le_refl)
  refine Has.of_from 0 fun M _ => ?_
  simp only [e]
  exact ⟨Rat.le_refl, Rat.le_refl⟩
theorem tou_whole {b : Nat} {L H c : Int} {x : Nat → Rat} (h : Iv b (L, H) x) (hx : Null (fun M => (c : Rat) - x M)) : touB L H 0 (c * Q b) (c * Q b) 0 = true := by
  have k := h.congr hx
  exact touch_up (i := 0) k (wholeG_iv b c)
theorem gm_one {L G : Rat → Nat → Rat} {X : Int → Int → Nat → Rat} (hE : GEnv L G X) : Null (fun M => G 1 M - 1) := gam_one hE.lns (hE.gam 1 (by grind) (by grind))
theorem gm_nat {L G : Rat → Nat → Rat} {X : Int → Int → Nat → Rat} (hE : GEnv L G X) {n c : Int} (h1 : gA n 1 = 1) (h2 : (stP n 1 (stN n 1) : Rat) / (stQ 1 (stN n 1) : Rat) = (c : Rat)) : Null (fun M => (c : Rat) - gmV n 1 (G (gA n 1)) M) := by
  refine ((gm_one hE).bmul (Bdd.const (-(c : Rat)))).of_eq fun M => ?_
  unfold gmV
  rw [h1, h2]
  grind
theorem gm_five {L G : Rat → Nat → Rat} {X : Int → Int → Nat → Rat} (hE : GEnv L G X) : Null (fun M => ((24 : Int) : Rat) - gmV 5 1 (G (gA 5 1)) M) := gm_nat hE (by decide +kernel) (by decide +kernel)
theorem gmV_next {n d : Int} (h0 : 0 < n) (hd : 0 < d) (g : Nat → Rat) (M : Nat) : gmV (n + d) d g M = gmV n d g M * ((n : Rat) / (d : Rat)) := by
  unfold gmV
  rw [stN_next hd h0, stP_next]
  have e : stQ d (stN n d + 1) = stQ d (stN n d) * d := rfl
  rw [e, Rat.intCast_mul, Rat.intCast_mul]
  have d0 : (0 : Rat) < (d : Rat) := by exact_mod_cast hd
  have q0 : (0 : Rat) < (stQ d (stN n d) : Rat) := by exact_mod_cast stQ_pos hd _
  generalize (stP n d (stN n d) : Rat) = P at *
  generalize (stQ d (stN n d) : Rat) = Q at *
  generalize g M = y
  have k : (n : Rat) * P / (Q * (d : Rat)) = P / Q * ((n : Rat) / (d : Rat)) := by
    have qd := Rat.mul_pos q0 d0
    refine rat_cancel qd ?_
    have e1 := rdm (a := (n : Rat) * P) qd
    have e2 := rdm (a := P) q0
    have e3 := rdm (a := (n : Rat)) d0
    have r1 : Q * (d : Rat) * ((n : Rat) * P / (Q * (d : Rat))) = (n : Rat) * P / (Q * (d : Rat)) * (Q * (d : Rat)) := by grind
    have r2 : Q * (d : Rat) * (P / Q * ((n : Rat) / (d : Rat))) = P / Q * Q * ((n : Rat) / (d : Rat) * (d : Rat)) := by grind
    rw [r1, r2, e1, e2, e3]; grind
  rw [k]; grind
theorem gE1_nat {p q bt : Int} (h : rok p q) (h1 : 8 ≤ bt) (h2 : bt ≤ 120) (h3 : 0 < p) (h4 : p ≤ 100 * q) : (if ¬ (rok p q ∧ 8 ≤ bt ∧ bt ≤ 120) then (3 : Int) else if p ≤ 0 then 5 else if 100 * q < p then 2 else 0) = 0 := by
  rw [if_neg (fun k => k ⟨h, h1, h2⟩), if_neg (by omega), if_neg (by omega)]
end Go.Proofs.Ytgmnknmjainabab
namespace Go.Proofs.Ytgmnknmjainabab
open Ex
namespace Ex
theorem IsGam.congr {L : Rat → Nat → Rat} {a : Rat} {g g' : Nat → Rat} (h : IsGam L a g) (e : ∀ M, g' M = g M) : IsGam L a g' := by
  have : g' = g := funext e
  rw [this]; exact h
end Ex
theorem gam_steps {L : Rat → Nat → Rat} (hL : Lns L) {n d : Int} {g : Nat → Rat} (h0 : 0 < n) (h1 : n ≤ d) (hg : Gam1 L ((n : Rat) / (d : Rat)) g) (k : Nat) : IsGam L (((n + (k : Int) * d : Int) : Rat) / (d : Rat)) (gmV (n + (k : Int) * d) d g) := by
  have d0 : 0 < d := by omega
  have dr : (0 : Rat) < (d : Rat) := by exact_mod_cast d0
  have nr : (0 : Rat) < (n : Rat) := by exact_mod_cast h0
  induction k with
  | zero =>
    have e : n + ((0 : Nat) : Int) * d = n := by have : ((0 : Nat) : Int) = 0 := rfl
                                                 rw [this]; omega
    rw [e]
    refine (hg.isGam hL (rdiv_pos nr dr)).congr fun M => ?_
    have s : stN n d = 0 := by unfold stN; rw [Int.ediv_eq_zero_of_lt (by omega) (by omega)]; rfl
    unfold gmV
    rw [s]
    show ((1 : Int) : Rat) / ((1 : Int) : Rat) * g M = g M
    have : ((1 : Int) : Rat) / ((1 : Int) : Rat) = 1 := by decide +kernel
    rw [this]; grind
  | succ k ih =>
    have kd := Int.mul_nonneg (show (0 : Int) ≤ (k : Int) by omega) (show 0 ≤ d by omega)
    have e : n + ((k + 1 : Nat) : Int) * d = n + (k : Int) * d + d := by
      have : ((k + 1 : Nat) : Int) = (k : Int) + 1 := by omega
      rw [this]; grind
    have p : 0 < n + (k : Int) * d := by omega
    have pr' : (0 : Rat) < ((n + (k : Int) * d : Int) : Rat) := by exact_mod_cast p
    have nx := ih.next hL (rdiv_pos pr' dr)
    rw [e]
    have ea : ((n + (k : Int) * d + d : Int) : Rat) / (d : Rat) = ((n + (k : Int) * d : Int) : Rat) / (d : Rat) + 1 := by
      rw [Rat.intCast_add (n + (k : Int) * d) d, rdiv_add]
      have : (d : Rat) / (d : Rat) = 1 := Rat.le_antisymm (rdiv_le dr (by grind)) (rle_div dr (by grind))
      rw [this]
    rw [ea]
    refine nx.congr fun M => ?_
    rw [gmV_next p d0]; grind
theorem gam_ratio {L G : Rat → Nat → Rat} {X : Int → Int → Nat → Rat} (hE : GEnv L G X) {n d : Int} (h : StIn n d) : IsGam L ((n : Rat) / (d : Rat)) (gmV n d (G (gA n d))) := by
  obtain ⟨r1, r2, r3⟩ := h.rest
  have k := gam_steps hE.lns r1 r2 (hE.gam _ (gA_ok h).1 (gA_ok h).2) (stN n d)
  have e : n - (stN n d : Int) * d + (stN n d : Int) * d = n := by omega
  rw [e] at k
  exact k
theorem pw_two (k : Nat) : pw 2 k = (Q k : Rat) := pw_Q k
theorem h64_mul (e : Nat) : h64 e * (Q (64 * e) : Rat) = 1 := rdm (Qr_pos _)
theorem lm_log {L : Rat → Nat → Rat} (hL : Lns L) {n d : Int} {b x m K : Nat} (h : LmIn n d b x) (hm : m = b + 128) (hK : 2 * x < K) (hK2 : K ≤ 25000) (hT : (lmS n d x m K).T.2 ≤ 1) {g X lL lH l2 : Nat → Rat} (hg : IsGam L ((n : Rat) / (d : Rat)) g) (hX : IsLog X g)
    (gL : IsLog lL (fun _ => (lmL (lmS n d x m K).U : Rat) / (Q m : Rat))) (gH : IsLog lH (fun _ => (lmH m (lmS n d x m K).e (lmS n d x m K).U : Rat) / (Q m : Rat))) (g2 : IsLog l2 (fun _ => 2)) :
    LeN (fun M => lL M + ((64 * (lmS n d x m K).e : Nat) : Rat) * l2 M + (n : Rat) / (d : Rat) * L (x : Rat) M - (x : Rat)) X ∧ LeN X (fun M => lH M + ((64 * (lmS n d x m K).e : Nat) : Rat) * l2 M + (n : Rat) / (d : Rat) * L (x : Rat) M - (x : Rat)) := by
  obtain ⟨s1, s2⟩ := lm_span (m := m) h hK hT
  have o := lm_all h hm K hK2
  obtain ⟨s, hs⟩ : ∃ s, s = lmS n d x m K := ⟨_, rfl⟩
  rw [← hs] at s1 s2 gL gH o ⊢
  obtain ⟨a, ha⟩ : ∃ a, a = (n : Rat) / (d : Rat) := ⟨_, rfl⟩
  have nr : (0 : Rat) < (n : Rat) := by exact_mod_cast h.n0
  have dr : (0 : Rat) < (d : Rat) := by exact_mod_cast h.d0
  have a0 : 0 < a := by rw [ha]; exact rdiv_pos nr dr
  have x1 : (1 : Rat) ≤ (x : Rat) := by exact_mod_cast (show 1 ≤ x by have := h.xb; omega)
  have x0 : (0 : Rat) < (x : Rat) := by grind
  have xa : 2 * a ≤ (x : Rat) := by
    have c := cast_le h.x2
    rw [Rat.intCast_mul, Rat.intCast_mul] at c
    have c2 : ((2 : Int) : Rat) = 2 := rfl
    have c3 : ((x : Int) : Rat) = (x : Rat) := rfl
    rw [c2, c3] at c
    have dm := rdm (a := (n : Rat)) dr
    rw [← ha] at dm
    refine Rat.le_of_mul_le_mul_right (c := (d : Rat)) ?_ dr
    have : 2 * a * (d : Rat) = 2 * (a * (d : Rat)) := by grind
    rw [this, dm]; exact c
  rw [← ha] at s1 s2 hg ⊢
  have Qp := Qr_pos (64 * s.e)
  have hq := h64_mul s.e
  have hp : 0 < h64 s.e := rdiv_pos (by grind) Qp
  have pB := pr_bdd hL x0 a
  have pN := pr_nn hL x0 a
  have eB := ex_bdd (-(x : Rat))
  have eN := ex_nn (-(x : Rat))
  have lg : ∀ {l : Nat → Rat} {c : Rat}, IsLog l (fun _ => c) → IsLog (fun M => l M + ((64 * s.e : Nat) : Rat) * l2 M + a * L (x : Rat) M - (x : Rat)) (fun M => c * (Q (64 * s.e) : Rat) * (Ex.pr L a (x : Rat) M * ex (-(x : Rat)) M)) := fun {l c} hl => by
    have k1 := hl.add (g2.times (64 * s.e))
    have k2 : IsLog (fun M => a * L (x : Rat) M) (Ex.pr L a (x : Rat)) := ⟨pr_arg hL x0 a, null_zero.of_eq fun M => by unfold Ex.pr; grind⟩
    have k3 := (k1.add k2).add (isLog_const (-(x : Rat)))
    have e1 : (fun M => l M + ((64 * s.e : Nat) : Rat) * l2 M + a * L (x : Rat) M + -(x : Rat)) = fun M => l M + ((64 * s.e : Nat) : Rat) * l2 M + a * L (x : Rat) M - (x : Rat) := by funext M; grind
    rw [e1] at k3
    refine k3.congr_r (null_zero.of_eq fun M => ?_)
    rw [pw_two]; grind
  refine ⟨fun e he => ?_, fun e he => ?_⟩
  · have low : LeN (fun M => (lmL s.U : Rat) / (Q m : Rat) * (Q (64 * s.e) : Rat) * (Ex.pr L a (x : Rat) M * ex (-(x : Rat)) M)) g := by
      refine LeN.trans ?_ (hg.lo _ x0)
      have l1 := ((s1.cmul (c := (Q (64 * s.e) : Rat)) (Rat.le_of_lt Qp)).bmul (pB.mul eB) (pN.mul eN))
      refine LeN.trans (LeN.of_le 0 fun M _ => ?_) (l1.trans (LeN.of_le 0 fun M _ => ?_))
      · grind
      · show (Q (64 * s.e) : Rat) * (h64 s.e * uS a (x : Rat) M) * (Ex.pr L a (x : Rat) M * ex (-(x : Rat)) M) ≤ uG L a (x : Rat) M
        unfold uG
        generalize Ex.pr L a (x : Rat) M = p
        generalize ex (-(x : Rat)) M = y
        generalize uS a (x : Rat) M = u
        have r : (Q (64 * s.e) : Rat) * (h64 s.e * u) * (p * y) = h64 s.e * (Q (64 * s.e) : Rat) * (p * y * u) := by grind
        rw [r, hq]; grind
    obtain ⟨z, hz, kz⟩ := low.null
    exact (lg gL).le hX hz 0 (fun M _ => kz M) e he
  · have up : LeN g (fun M => (lmH m s.e s.U : Rat) / (Q m : Rat) * (Q (64 * s.e) : Rat) * (Ex.pr L a (x : Rat) M * ex (-(x : Rat)) M)) := by
      refine (hg.hi _ x1 (by grind)).trans ?_
      have l1 := ((s2.cmul (c := (Q (64 * s.e) : Rat)) (Rat.le_of_lt Qp)).bmul (pB.mul eB) (pN.mul eN))
      refine LeN.trans ?_ (l1.trans (LeN.of_le 0 fun M _ => by grind))
      have nx := uE_mul hL x0 a
      obtain ⟨N, hN⟩ := uE_nn hL x0 a
      have nx2 := nx.bmul (Bdd.const 2)
      refine LeN.of_null nx2 N fun M hM => ?_
      have u0 := hN M hM
      have m1 := Rat.mul_le_mul_of_nonneg_right x1 u0
      show uG L a (x : Rat) M + 2 * uE L a (x : Rat) M ≤ (Q (64 * s.e) : Rat) * (h64 s.e * (uS a (x : Rat) M + 2)) * (Ex.pr L a (x : Rat) M * ex (-(x : Rat)) M) + ((x : Rat) * uE L a (x : Rat) M - Ex.pr L a (x : Rat) M * ex (-(x : Rat)) M) * 2
      unfold uG
      generalize uE L a (x : Rat) M = ue at *
      generalize Ex.pr L a (x : Rat) M = p at *
      generalize ex (-(x : Rat)) M = y at *
      generalize uS a (x : Rat) M = u at *
      have r : (Q (64 * s.e) : Rat) * (h64 s.e * (u + 2)) * (p * y) = h64 s.e * (Q (64 * s.e) : Rat) * (p * y * u + 2 * (p * y)) := by grind
      rw [r, hq]
      grind
    obtain ⟨z, hz, kz⟩ := up.null
    exact hX.le (lg gH) hz 0 (fun M _ => kz M) e he
def lgR (B : Nat) (n d c x : Int) (p r o2 ox : Int × Int) : Int × Int := subI (addI (addI (p.1, r.2) (byI o2 c 1)) (byI ox n d)) (x * Q B, x * Q B)
theorem iv_between {B : Nat} {a c : Int × Int} {lo hi X : Nat → Rat} (h1 : Iv B a lo) (h2 : Iv B c hi) (l : LeN lo X) (u : LeN X hi) : Iv B (a.1, c.2) X := by
  intro e he
  obtain ⟨N1, k1⟩ := h1 (e / 2) (by grind)
  obtain ⟨N2, k2⟩ := h2 (e / 2) (by grind)
  obtain ⟨N3, k3⟩ := l (e / 2) (by grind)
  obtain ⟨N4, k4⟩ := u (e / 2) (by grind)
  refine ⟨N1 + N2 + N3 + N4, fun M hM => ?_⟩
  have a1 := (k1 M (by omega)).1
  have a2 := (k2 M (by omega)).2
  have a3 := k3 M (by omega)
  have a4 := k4 M (by omega)
  exact ⟨by grind, by grind⟩
theorem lgR_has {B : Nat} {n d : Int} {c x : Nat} (hd : 0 < d) {p r o2 ox : Int × Int} {lL lH l2 lx X : Nat → Rat} (i1 : Iv B p lL) (i2 : Iv B r lH) (j2 : Iv B o2 l2) (jx : Iv B ox lx) (low : LeN (fun M => lL M + (c : Rat) * l2 M + (n : Rat) / (d : Rat) * lx M - (x : Rat)) X) (up : LeN X (fun M => lH M + (c : Rat) * l2 M + (n : Rat) / (d : Rat) * lx M - (x : Rat))) : Iv B (lgR B n d (c : Int) (x : Int) p r o2 ox) X := by
  have w := wholeG_iv B (x : Int)
  have k2 := j2.by_ (c : Int) (d := 1) (by decide)
  have kx := jx.by_ n hd
  have one : (((c : Int) : Rat) / ((1 : Int) : Rat)) = (c : Rat) := by
    have e1 : ((1 : Int) : Rat) = 1 := rfl
    have e2 : ((c : Int) : Rat) = (c : Rat) := rfl
    have e3 : (1 : Rat)⁻¹ = 1 := by decide +kernel
    rw [e1, e2, Rat.div_def, e3, Rat.mul_one]
  have ex' : ((x : Int) : Rat) = (x : Rat) := rfl
  have a1 : Iv B (subI (addI (addI p (byI o2 c 1)) (byI ox n d)) ((x : Int) * Q B, (x : Int) * Q B)) (fun M => lL M + (c : Rat) * l2 M + (n : Rat) / (d : Rat) * lx M - (x : Rat)) := by
    refine Has.of_eq (((i1.add k2).add kx).sub w) (fun M => ?_)
    show lL M + (c : Rat) * l2 M + (n : Rat) / (d : Rat) * lx M - (x : Rat) = lL M + ((c : Int) : Rat) / ((1 : Int) : Rat) * l2 M + (n : Rat) / (d : Rat) * lx M - ((x : Int) : Rat)
    rw [one, ex']
  have a2 : Iv B (subI (addI (addI r (byI o2 c 1)) (byI ox n d)) ((x : Int) * Q B, (x : Int) * Q B)) (fun M => lH M + (c : Rat) * l2 M + (n : Rat) / (d : Rat) * lx M - (x : Rat)) := by
    refine Has.of_eq (((i2.add k2).add kx).sub w) (fun M => ?_)
    show lH M + (c : Rat) * l2 M + (n : Rat) / (d : Rat) * lx M - (x : Rat) = lH M + ((c : Int) : Rat) / ((1 : Int) : Rat) * l2 M + (n : Rat) / (d : Rat) * lx M - ((x : Int) : Rat)
    rw [one, ex']
  have e : lgR B n d (c : Int) (x : Int) p r o2 ox = ((subI (addI (addI p (byI o2 c 1)) (byI ox n d)) ((x : Int) * Q B, (x : Int) * Q B)).1, (subI (addI (addI r (byI o2 c 1)) (byI ox n d)) ((x : Int) * Q B, (x : Int) * Q B)).2) := by
    unfold lgR
    generalize byI o2 (c : Int) 1 = y1
    generalize byI ox n d = y2
    generalize (x : Int) * Q B = y3
    rfl
  rw [e]
  exact iv_between a1 a2 low up
end Go.Proofs.Ytgmnknmjainabab
