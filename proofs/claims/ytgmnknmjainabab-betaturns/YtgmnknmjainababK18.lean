/-
  Texts BptI, Lst2, Msb, Stp: what they hold is told in the last text.
-/
import Derived.Test.YtgmnknmjainababK17
set_option linter.unnecessarySimpa false
set_option linter.unusedSimpArgs false
set_option linter.unusedVariables false
namespace Go.Proofs.Ytgmnknmjainabab
open Ex
structure BpIn (p q r s n d : Int) (B : Nat) : Prop where
  p0 : 0 < p
  q0 : 0 < q
  pq : p ≤ 100 * q
  qq : q ≤ 2048
  r0 : 0 < r
  s0 : 0 < s
  rs : r ≤ 100 * s
  ss : s ≤ 2048
  n0 : 0 < n
  nd : 2 * n ≤ d
  dd : d ≤ 4503599627370496
  b0 : 40 ≤ B
  b1 : B ≤ 400
def puU (p q r s n : Int) (k : Nat) : Int := n * (p * s + r * q + ((k - 1 : Nat) : Int) * (q * s))
def puD (p q s d : Int) (k : Nat) : Int := d * ((p + (k : Int) * q) * s)
def puT (p q r s n d : Int) (B : Nat) : Nat → Int × Int := riT (Q B, Q B) (puU p q r s n) (puD p q s d)
def puN (r s : Int) : Nat := (2 * r / s).toNat
theorem pu_n {p q r s n d : Int} {B : Nat} (h : BpIn p q r s n d B) : (puN r s : Int) = 2 * r / s ∧ puN r s ≤ 200 := by
  have r0 := h.r0
  have s0 := h.s0
  have rs := h.rs
  have q0 : 0 ≤ 2 * r / s := Int.ediv_nonneg (by omega) (by omega)
  have l : 2 * r / s < 201 := Int.ediv_lt_of_lt_mul s0 (by omega)
  unfold puN
  exact ⟨by omega, by omega⟩
theorem puD_pos {p q r s n d : Int} {B : Nat} (h : BpIn p q r s n d B) (k : Nat) : 0 < puD p q s d k := by
  have := Int.mul_nonneg (show (0 : Int) ≤ (k : Int) by omega) (show 0 ≤ q by have := h.q0; omega)
  have := h.p0
  have := h.n0
  have := h.nd
  exact Int.mul_pos (by omega) (Int.mul_pos (by omega) h.s0)
theorem pu_ok {p q r s n d : Int} {B : Nat} (h : BpIn p q r s n d B) : SeOk (Q B, Q B) (puU p q r s n) (puD p q s d) := by
  have qq := Q_pos B
  have p0 := Int.le_of_lt h.p0
  have q0 := Int.le_of_lt h.q0
  have r0 := Int.le_of_lt h.r0
  have s0 := Int.le_of_lt h.s0
  have n0 := Int.le_of_lt h.n0
  have nd := h.nd
  have qs := Int.mul_nonneg q0 s0
  refine ⟨⟨fun k => Int.mul_nonneg n0 ?_, fun k => puD_pos h k⟩, by show 0 < Q B; omega, Int.le_refl _, by show Q B - Q B ≤ 1; omega, fun k hk => ?_⟩
  · have := Int.mul_nonneg p0 s0
    have := Int.mul_nonneg r0 q0
    have := Int.mul_nonneg (show (0 : Int) ≤ ((k - 1 : Nat) : Int) by omega) qs
    omega
  · have e1 : puU p q r s n (k + 2) = puU p q r s n (k + 1) + n * (q * s) := by
      unfold puU
      have a1 : k + 2 - 1 = k + 1 := by omega
      have a2 : k + 1 - 1 = k := by omega
      rw [a1, a2]
      have : ((k + 1 : Nat) : Int) = (k : Int) + 1 := by omega
      rw [this]; grind
    have e2 : puD p q s d (k + 2) = puD p q s d (k + 1) + d * (q * s) := by
      unfold puD
      have : ((k + 2 : Nat) : Int) = ((k + 1 : Nat) : Int) + 1 := by omega
      rw [this]; grind
    rw [e1, e2] at hk
    have m := Int.mul_le_mul_of_nonneg_right (show n ≤ d by omega) qs
    omega
theorem pu_k {p q r s n : Int} (k : Nat) : puU p q r s n (k + 1) = n * (p * s + r * q + (k : Int) * (q * s)) := by
  unfold puU
  rw [show k + 1 - 1 = k by omega]
theorem pu_34 {p q r s n d : Int} {B : Nat} (h : BpIn p q r s n d B) (k : Nat) (hk : puN r s ≤ k) : 4 * puU p q r s n (k + 1) ≤ 3 * puD p q s d (k + 1) := by
  have p0 := Int.le_of_lt h.p0
  have q0 := Int.le_of_lt h.q0
  have r0 := Int.le_of_lt h.r0
  have s0 := h.s0
  have n0 := Int.le_of_lt h.n0
  have nd := h.nd
  have f := dv_floor2 (2 * r) s0
  rw [← (pu_n h).1] at f
  have m1 := Int.mul_le_mul_of_nonneg_right (show (puN r s : Int) + 1 ≤ (k : Int) + 1 by omega) (Int.le_of_lt s0)
  have m2 := Int.mul_le_mul_of_nonneg_right (show 2 * r ≤ ((k : Int) + 1) * s by omega) q0
  have ps := Int.mul_nonneg p0 (Int.le_of_lt s0)
  have rq := Int.mul_nonneg r0 q0
  have qs := Int.mul_nonneg q0 (Int.le_of_lt s0)
  have kqs := Int.mul_nonneg (show (0 : Int) ≤ (k : Int) by omega) qs
  rw [pu_k]
  unfold puD
  have ec : ((k + 1 : Nat) : Int) = (k : Int) + 1 := by omega
  rw [ec]
  generalize (k : Int) = K at *
  have e1 : (p + (K + 1) * q) * s = p * s + (K + 1) * s * q := by grind
  have e2 : (K + 1) * s * q = K * (q * s) + q * s := by grind
  have e3 : 2 * r * q = 2 * (r * q) := by grind
  rw [e1, e2]
  rw [e2, e3] at m2
  generalize p * s = u at *
  generalize r * q = v at *
  generalize K * (q * s) = w at *
  generalize q * s = y at *
  have m3 := Int.mul_le_mul_of_nonneg_right nd (show 0 ≤ u + v + w by omega)
  have m4 := Int.mul_le_mul_of_nonneg_left (show 2 * (u + v + w) ≤ 3 * (u + (w + y)) by omega) (show 0 ≤ d by omega)
  have r1 : 4 * (n * (u + v + w)) = 2 * (2 * n * (u + v + w)) := by grind
  have r2 : d * (2 * (u + v + w)) = 2 * (d * (u + v + w)) := by grind
  have r3 : d * (3 * (u + (w + y))) = 3 * (d * (u + (w + y))) := by grind
  omega
theorem pu_c {p q r s n d : Int} {B : Nat} (h : BpIn p q r s n d B) (k : Nat) : puU p q r s n (k + 1) ≤ Q 6 * puD p q s d (k + 1) := by
  have p0 := Int.le_of_lt h.p0
  have q0 := Int.le_of_lt h.q0
  have r0 := Int.le_of_lt h.r0
  have s0 := Int.le_of_lt h.s0
  have n0 := Int.le_of_lt h.n0
  have nd := h.nd
  have e6 : Q 6 = 64 := rfl
  have ps := Int.mul_nonneg p0 s0
  have rq := Int.mul_nonneg r0 q0
  have qs := Int.mul_nonneg q0 s0
  have kqs := Int.mul_nonneg (show (0 : Int) ≤ (k : Int) by omega) qs
  have m1 := Int.mul_le_mul_of_nonneg_right h.rs q0
  rw [pu_k, e6]
  unfold puD
  have ec : ((k + 1 : Nat) : Int) = (k : Int) + 1 := by omega
  rw [ec]
  generalize (k : Int) = K at *
  have e1 : (p + (K + 1) * q) * s = p * s + (K * (q * s) + q * s) := by grind
  have e2 : 100 * s * q = 100 * (q * s) := by grind
  rw [e1]
  rw [e2] at m1
  generalize p * s = u at *
  generalize r * q = v at *
  generalize K * (q * s) = w at *
  generalize q * s = y at *
  have m3 := Int.mul_le_mul_of_nonneg_right nd (show 0 ≤ u + v + w by omega)
  have m4 := Int.mul_le_mul_of_nonneg_left (show u + v + w ≤ 128 * (u + (w + y)) by omega) (show 0 ≤ d by omega)
  have r1 : 2 * n * (u + v + w) = 2 * (n * (u + v + w)) := by grind
  have r3 : d * (128 * (u + (w + y))) = 128 * (d * (u + (w + y))) := by grind
  omega
theorem pu_set {p q r s n d : Int} {B : Nat} (h : BpIn p q r s n d B) : ∃ N, N ≤ 5100 ∧ IsRise (puT p q r s n d B) (puN r s) N := by
  obtain ⟨N, h1, h2⟩ := se_set (pu_ok h) (H := B) (c := 6) (turn := puN r s) (Int.le_refl _) (by have := h.b0; omega) (pu_c h) (pu_34 h)
  have := (pu_n h).2
  have := h.b1
  exact ⟨N, by omega, h2⟩
theorem pu_fit {p q r s n d : Int} {B : Nat} (h : BpIn p q r s n d B) (k : Nat) (hk : k ≤ 1000000) : (sumI (puT p q r s n d B) k).2 + 9 ≤ Q 1621 := by
  have a := se_fit (pu_ok h) (H := B) (c := 6) (turn := puN r s) (Int.le_refl _) (by have := h.b0; omega) (pu_c h) (pu_34 h) k hk
  have := (pu_n h).2
  have := h.b1
  exact Int.le_trans a (Q_mono (by omega))
theorem pu_hi {p q r s n d : Int} {B : Nat} (h : BpIn p q r s n d B) (k : Nat) : (puT p q r s n d B k).2 ≤ Q 1621 := by
  have a := se_hi (pu_ok h) (H := B) (c := 6) (turn := puN r s) (Int.le_refl _) (by have := h.b0; omega) (pu_c h) (pu_34 h) k
  have := (pu_n h).2
  have := h.b1
  exact Int.le_trans a (Q_mono (by omega))
theorem pu_val {p q r s n d : Int} {B : Nat} (h : BpIn p q r s n d B) (k M : Nat) : riV (fun _ => 1) (puU p q r s n) (puD p q s d) k M = (p : Rat) / (q : Rat) * bT ((p : Rat) / (q : Rat)) ((r : Rat) / (s : Rat)) ((n : Rat) / (d : Rat)) k := by
  have p0 : (0 : Rat) < (p : Rat) := by exact_mod_cast h.p0
  have q0 : (0 : Rat) < (q : Rat) := by exact_mod_cast h.q0
  have s0 : (0 : Rat) < (s : Rat) := by exact_mod_cast h.s0
  have d0 : (0 : Rat) < (d : Rat) := by exact_mod_cast (show 0 < d by have := h.n0; have := h.nd; omega)
  have a0 : (0 : Rat) < (p : Rat) / (q : Rat) := rdiv_pos p0 q0
  have ea := rdm (a := (p : Rat)) q0
  have eb := rdm (a := (r : Rat)) s0
  have ex' := rdm (a := (n : Rat)) d0
  induction k with
  | zero => rw [bT_zero a0]; rfl
  | succ k ih =>
    have pD : (0 : Rat) < (puD p q s d (k + 1) : Rat) := by exact_mod_cast puD_pos h (k + 1)
    have us := bT_succ a0 ((r : Rat) / (s : Rat)) ((n : Rat) / (d : Rat)) k
    have up := un_pos a0 k
    show (puU p q r s n (k + 1) : Rat) / (puD p q s d (k + 1) : Rat) * riV (fun _ => 1) (puU p q r s n) (puD p q s d) k M = _
    rw [ih]
    have eD : (puD p q s d (k + 1) : Rat) = (d : Rat) * (q : Rat) * (s : Rat) * ((p : Rat) / (q : Rat) + ((k : Rat) + 1)) := by
      unfold puD
      rw [Rat.intCast_mul, Rat.intCast_mul, Rat.intCast_add, Rat.intCast_mul]
      have : (((k + 1 : Nat) : Int) : Rat) = (k : Rat) + 1 := by push_cast; rfl
      rw [this]
      have : (d : Rat) * (q : Rat) * (s : Rat) * ((p : Rat) / (q : Rat) + ((k : Rat) + 1)) = (d : Rat) * (s : Rat) * ((p : Rat) / (q : Rat) * (q : Rat) + ((k : Rat) + 1) * (q : Rat)) := by grind
      rw [this, ea]; grind
    have eU : (puU p q r s n (k + 1) : Rat) = (d : Rat) * (q : Rat) * (s : Rat) * (((n : Rat) / (d : Rat)) * ((p : Rat) / (q : Rat) + (r : Rat) / (s : Rat) + (k : Rat))) := by
      rw [pu_k, Rat.intCast_mul, Rat.intCast_add, Rat.intCast_add, Rat.intCast_mul, Rat.intCast_mul, Rat.intCast_mul, Rat.intCast_mul]
      have ck : ((k : Int) : Rat) = (k : Rat) := rfl
      rw [ck]
      have : (d : Rat) * (q : Rat) * (s : Rat) * (((n : Rat) / (d : Rat)) * ((p : Rat) / (q : Rat) + (r : Rat) / (s : Rat) + (k : Rat))) = ((n : Rat) / (d : Rat) * (d : Rat)) * (((p : Rat) / (q : Rat) * (q : Rat)) * (s : Rat) + ((r : Rat) / (s : Rat) * (s : Rat)) * (q : Rat) + (k : Rat) * ((q : Rat) * (s : Rat))) := by grind
      rw [this, ex', ea, eb]
    have dq := Rat.mul_pos (Rat.mul_pos d0 q0) s0
    have e4 := rdm (a := (puU p q r s n (k + 1) : Rat)) pD
    generalize bT ((p : Rat) / (q : Rat)) ((r : Rat) / (s : Rat)) ((n : Rat) / (d : Rat)) k = u at *
    generalize bT ((p : Rat) / (q : Rat)) ((r : Rat) / (s : Rat)) ((n : Rat) / (d : Rat)) (k + 1) = u1 at *
    generalize (puU p q r s n (k + 1) : Rat) / (puD p q s d (k + 1) : Rat) = t at *
    rw [eD, eU] at e4
    generalize (p : Rat) / (q : Rat) = a at *
    generalize (r : Rat) / (s : Rat) = b at *
    generalize (n : Rat) / (d : Rat) = x at *
    generalize (d : Rat) * (q : Rat) * (s : Rat) = e at *
    refine rat_cancel (c := e * (a + ((k : Rat) + 1))) (Rat.mul_pos dq up) ?_
    have r1 : e * (a + ((k : Rat) + 1)) * (t * (a * u)) = t * (e * (a + ((k : Rat) + 1))) * (a * u) := by grind
    have r2 : e * (a + ((k : Rat) + 1)) * (a * u1) = e * a * ((a + ((k : Rat) + 1)) * u1) := by grind
    rw [r1, r2, e4, us]
    grind
def puSer (p q r s n d : Int) (B N : Nat) : Int × Int := riseI (puT p q r s n d B) N
theorem pu_has {p q r s n d : Int} {B N : Nat} (h : BpIn p q r s n d B) (hN : IsRise (puT p q r s n d B) (puN r s) N) : Iv B (puSer p q r s n d B N) (fun M => (p : Rat) / (q : Rat) * bS ((p : Rat) / (q : Rat)) ((r : Rat) / (s : Rat)) ((n : Rat) / (d : Rat)) M) := by
  have t := rising_has (pu_ok h).ok (one_iv B) 0 (fun M _ => by grind) (fun k hk => pu_34 h k hk) hN
  refine Has.of_eq t fun M => ?_
  have : ∀ m, (p : Rat) / (q : Rat) * S (bT ((p : Rat) / (q : Rat)) ((r : Rat) / (s : Rat)) ((n : Rat) / (d : Rat))) m = S (fun k => riV (fun _ => 1) (puU p q r s n) (puD p q s d) k M) m := fun m => by
    induction m with
    | zero => show (p : Rat) / (q : Rat) * 0 = 0; grind
    | succ m ih =>
      show (p : Rat) / (q : Rat) * (S (bT ((p : Rat) / (q : Rat)) ((r : Rat) / (s : Rat)) ((n : Rat) / (d : Rat))) m + bT ((p : Rat) / (q : Rat)) ((r : Rat) / (s : Rat)) ((n : Rat) / (d : Rat)) m) = S (fun k => riV (fun _ => 1) (puU p q r s n) (puD p q s d) k M) m + riV (fun _ => 1) (puU p q r s n) (puD p q s d) m M
      rw [← ih, pu_val h m M]; grind
  exact this M
structure LgP3 (x : Nat → Rat) (B : Nat) (l u : Int) : Prop where
  le : l ≤ u
  wd : u - l ≤ 60000000 * ((B : Int) * (B : Int)) + 540000000
  ab : Abs (l, u) (360000 * Q B)
  iv : Iv B (l, u) x
theorem lgP3_of {x y z : Nat → Rat} {B : Nat} {l1 u1 l2 u2 l3 u3 : Int} (h1 : LgP2 x B l1 u1) (h2 : LgP2 y B l2 u2) (h3 : LgP2 z B l3 u3) : LgP3 (fun M => x M + y M - z M) B (l1 + l2 - u3) (u1 + u2 - l3) := by
  have iv : Iv B (subI (addI (l1, u1) (l2, u2)) (l3, u3)) (fun M => x M + y M - z M) := (h1.iv.add h2.iv).sub h3.iv
  have a1 := h1.wd
  have a2 := h2.wd
  have a3 := h3.wd
  have b1 := h1.le
  have b2 := h2.le
  have b3 := h3.le
  obtain ⟨x1, x2, x3, x4⟩ := h1.ab
  obtain ⟨y1, y2, y3, y4⟩ := h2.ab
  obtain ⟨z1, z2, z3, z4⟩ := h3.ab
  simp only [] at x1 x2 x3 x4 y1 y2 y3 y4 z1 z2 z3 z4
  refine ⟨by omega, by omega, ?_, iv⟩
  exact ⟨by show _ ≤ l1 + l2 - u3; omega, by show l1 + l2 - u3 ≤ _; omega, by show _ ≤ u1 + u2 - l3; omega, by show u1 + u2 - l3 ≤ _; omega⟩
def puY (p q r s : Int) (o1 o2 o3 g : Int × Int) : Int × Int := addI (addI (scaleI o1 p q) (scaleI o2 r s)) (addI o3 g)
def puW (B : Nat) : Int := 60000000 * ((B : Int) * (B : Int)) + 600000000
theorem pu_scale {L : Rat → Nat → Rat} {x : Rat} {B : Nat} {o : Int × Int} {p q : Int} (ho : LwLog L x B o) (p0 : 0 < p) (q0 : 0 < q) (pq : p ≤ 100 * q) : (scaleI o p q).1 ≤ (scaleI o p q).2 ∧ (scaleI o p q).2 - (scaleI o p q).1 ≤ 100 * (132 * (2 * (B : Int) + 14)) + 1 ∧ Abs (scaleI o p q) (26400 * Q B) := by
  have Qp := Q_pos B
  have sl := scaleI_le (a := o) (n := p) (d := q) ho.le q0 (by omega)
  have sw := scaleI_wide (a := o) (n := p) (d := q) (c := 100 * (o.2 - o.1)) q0 (by
    have m := Int.mul_le_mul_of_nonneg_left pq (show 0 ≤ o.2 - o.1 by have := ho.le; omega)
    have r : (o.2 - o.1) * (100 * q) = 100 * (o.2 - o.1) * q := by grind
    omega)
  obtain ⟨a1, a2, a3, a4⟩ := ho.ab
  have wd := ho.wd
  refine ⟨sl, by omega, ?_⟩
  have t1 := abs_mul (x := o.1) (y := p) (m := 264 * Q B) (n := 100 * q) a1 a2 (by omega) pq
  have t2 := abs_mul (x := o.2) (y := p) (m := 264 * Q B) (n := 100 * q) a3 a4 (by omega) pq
  have r : 264 * Q B * (100 * q) = 26400 * Q B * q := by grind
  rw [r] at t1 t2
  have r1 := round_abs q0 t1.1 t1.2
  have r2 := round_abs q0 t2.1 t2.2
  exact ⟨r1.1, r1.2.1, r2.2.2.1, r2.2.2.2⟩
theorem puY_ok {L : Rat → Nat → Rat} {p q r s n d : Int} {B : Nat} {o1 o2 o3 : Int × Int} {l u : Int} {X : Nat → Rat} {y z : Rat} (h : BpIn p q r s n d B) (h1 : LwLog L y B o1) (h2 : LwLog L z B o2) (h3 : LwLog L ((p : Rat) / (q : Rat)) B o3) (hg : LgP3 X B l u) : (puY p q r s o1 o2 o3 (l, u)).1 ≤ (puY p q r s o1 o2 o3 (l, u)).2 ∧ (puY p q r s o1 o2 o3 (l, u)).2 - (puY p q r s o1 o2 o3 (l, u)).1 ≤ puW B ∧ Abs (puY p q r s o1 o2 o3 (l, u)) (413064 * Q B) ∧ Iv B (puY p q r s o1 o2 o3 (l, u)) (bY L ((p : Rat) / (q : Rat)) ((r : Rat) / (s : Rat)) y z X) := by
  have b0 := h.b0
  have b1 := h.b1
  have Qp := Q_pos B
  obtain ⟨x1, x2, x3, x4, x5, x6⟩ := pu_scale h1 h.p0 h.q0 h.pq
  obtain ⟨y1, y2, y3, y4, y5, y6⟩ := pu_scale h2 h.r0 h.s0 h.rs
  have w3 := h3.wd
  have l3 := h3.le
  obtain ⟨c1, c2, c3, c4⟩ := h3.ab
  have gl := hg.le
  have gw := hg.wd
  obtain ⟨z1, z2, z3, z4⟩ := hg.ab
  simp only [] at z1 z2 z3 z4
  have e1 : (puY p q r s o1 o2 o3 (l, u)).1 = (scaleI o1 p q).1 + (scaleI o2 r s).1 + (o3.1 + l) := rfl
  have e2 : (puY p q r s o1 o2 o3 (l, u)).2 = (scaleI o1 p q).2 + (scaleI o2 r s).2 + (o3.2 + u) := rfl
  refine ⟨by omega, ?_, ⟨by omega, by omega, by omega, by omega⟩, ?_⟩
  · unfold puW
    omega
  · have i1 := h1.iv.scale (n := p) (d := q) (by have := h.p0; omega) h.q0
    have i2 := h2.iv.scale (n := r) (d := s) (by have := h.r0; omega) h.s0
    exact Has.of_eq ((i1.add i2).add (h3.iv.add hg.iv)) fun M => rfl
theorem pu_exD {B t : Nat} (h0 : 40 ≤ B) (h1 : B ≤ 400) (ht : t ≤ 27) : 2 * exD2 (puW B) t ≤ Q B ∧ exD2 (puW B) t ≤ 1000000000000000 := by
  have qt := Q_mono ht
  have e27 : Q 27 = 134217728 := rfl
  have q0 := Q_pos t
  have go : ∀ b : Int, (B : Int) ≤ b → exD2 (puW B) t ≤ 2 * (60000000 * (b * b) + 600000000) + 45634027520 := fun b hb => by
    have bb := mulle hb hb (by omega) (by omega)
    unfold exD2 puW
    omega
  by_cases c1 : B ≤ 47
  · have g := go 47 (by omega)
    have q := Q_mono h0
    have e : Q 40 = 1099511627776 := rfl
    omega
  · have g := go 400 (by omega)
    have q := Q_mono (show 48 ≤ B by omega)
    have e : Q 48 = 281474976710656 := rfl
    omega
def puE (p q r s : Int) (B : Nat) (o1 o2 o3 g : Int × Int) (t N : Nat) : Int × Int := sqI B (doneI (expT B (downI (puY p q r s o1 o2 o3 g) t)) N) t
theorem bp_x {p q r s n d : Int} {B : Nat} (h : BpIn p q r s n d B) : (0 : Rat) < (p : Rat) / (q : Rat) ∧ (0 : Rat) < (r : Rat) / (s : Rat) ∧ (0 : Rat) < (n : Rat) / (d : Rat) ∧ (n : Rat) / (d : Rat) < 1 ∧ (n : Rat) / (d : Rat) * ((d : Rat) / (n : Rat)) = 1 ∧ (1 - (n : Rat) / (d : Rat)) * ((d : Rat) / ((d - n : Int) : Rat)) = 1 ∧ (0 : Rat) < (d : Rat) / (n : Rat) ∧ (0 : Rat) < (d : Rat) / ((d - n : Int) : Rat) := by
  have n0 := h.n0
  have nd := h.nd
  have pr : (0 : Rat) < (p : Rat) := by exact_mod_cast h.p0
  have qr : (0 : Rat) < (q : Rat) := by exact_mod_cast h.q0
  have rr : (0 : Rat) < (r : Rat) := by exact_mod_cast h.r0
  have sr : (0 : Rat) < (s : Rat) := by exact_mod_cast h.s0
  have nr : (0 : Rat) < (n : Rat) := by exact_mod_cast n0
  have dr : (0 : Rat) < (d : Rat) := by exact_mod_cast (show 0 < d by omega)
  have lr : (0 : Rat) < ((d - n : Int) : Rat) := by exact_mod_cast (show 0 < d - n by omega)
  have le : ((d - n : Int) : Rat) = (d : Rat) - (n : Rat) := Rat.intCast_sub _ _
  have e1 := rdm (a := (n : Rat)) dr
  have e2 := rdm (a := (d : Rat)) nr
  have e3 := rdm (a := (d : Rat)) lr
  refine ⟨rdiv_pos pr qr, rdiv_pos rr sr, rdiv_pos nr dr, ?_, ?_, ?_, rdiv_pos dr nr, rdiv_pos dr lr⟩
  · refine Rat.lt_of_mul_lt_mul_right (c := (d : Rat)) ?_ (Rat.le_of_lt dr)
    rw [e1]
    have : (n : Rat) < (d : Rat) := by exact_mod_cast (show n < d by omega)
    grind
  · generalize (n : Rat) / (d : Rat) = u at *
    generalize (d : Rat) / (n : Rat) = v at *
    refine rat_cancel (c := (n : Rat)) nr ?_
    have : (n : Rat) * (u * v) = u * (v * (n : Rat)) := by grind
    rw [this, e2, e1]; grind
  · generalize (n : Rat) / (d : Rat) = u at *
    generalize (d : Rat) / ((d - n : Int) : Rat) = v at *
    refine rat_cancel (c := (d : Rat)) dr ?_
    have : (d : Rat) * ((1 - u) * v) = ((d : Rat) - u * (d : Rat)) * v := by grind
    rw [this, e1, ← le]
    grind
theorem pu_okE {L : Rat → Nat → Rat} (hL : Lns L) {p q r s n d : Int} {B t N NS : Nat} {o1 o2 o3 : Int × Int} {l u : Int} {X : Nat → Rat} (h : BpIn p q r s n d B) (hX : IsLog X (bJ L ((p : Rat) / (q : Rat)) ((r : Rat) / (s : Rat)))) (h1 : LwLog L ((d : Rat) / (n : Rat)) B o1) (h2 : LwLog L ((d : Rat) / ((d - n : Int) : Rat)) B o2) (h3 : LwLog L ((p : Rat) / (q : Rat)) B o3) (hg : LgP3 X B l u) (ht : t ≤ 27) (hA : Abs (downI (puY p q r s o1 o2 o3 (l, u)) t) (Q (B - 8))) (hN : IsStop (expT B (downI (puY p q r s o1 o2 o3 (l, u)) t)) N) (hS : NS ≤ 5100) (hS2 : IsRise (puT p q r s n d B) (puN r s) NS) :
    0 < (puE p q r s B o1 o2 o3 (l, u) t N).1 ∧ (puE p q r s B o1 o2 o3 (l, u) t N).1 ≤ (puE p q r s B o1 o2 o3 (l, u) t N).2 ∧ 0 ≤ (puSer p q r s n d B NS).1 ∧ (puSer p q r s n d B NS).1 ≤ (puSer p q r s n d B NS).2 ∧ LwPr (bv L ((p : Rat) / (q : Rat)) ((r : Rat) / (s : Rat)) ((n : Rat) / (d : Rat))) B (dvLo (puSer p q r s n d B NS).1 (puSer p q r s n d B NS).2 (puE p q r s B o1 o2 o3 (l, u) t N).1 (puE p q r s B o1 o2 o3 (l, u) t N).2 B) (luHi (puSer p q r s n d B NS) (puE p q r s B o1 o2 o3 (l, u) t N) B) := by
  have b0 := h.b0
  have b1 := h.b1
  have qB := Q_pos B
  obtain ⟨a0, bb0, x0, x1, xy, xz, yp, zp⟩ := bp_x h
  obtain ⟨s1, s2, s3⟩ := se_ok (pu_ok h) NS
  obtain ⟨y1, y2, y3, y4⟩ := puY_ok h h1 h2 h3 hg
  obtain ⟨D1, D2⟩ := pu_exD b0 b1 ht
  obtain ⟨e1, e2, e3, e4, e5⟩ := exq_ok2 (t := t) (N := N) (by omega) b1 y4 (bY_nonneg hL a0 bb0 x0 x1 xy xz yp zp hX) y2 hA hN D1
  have D0 : 0 ≤ exD2 (puW B) t := by
    have := Q_pos t
    have := Int.mul_nonneg (show (0 : Int) ≤ (B : Int) by omega) (show (0 : Int) ≤ (B : Int) by omega)
    unfold exD2 puW
    omega
  have si := pu_has h hS2
  have sl0 : 0 ≤ (puSer p q r s n d B NS).1 := by
    have : Q B ≤ (puSer p q r s n d B NS).1 := s1
    omega
  have ee : (puE p q r s B o1 o2 o3 (l, u) t N) = sqI B (doneI (expT B (downI (puY p q r s o1 o2 o3 (l, u)) t)) N) t := rfl
  have es : puSer p q r s n d B NS = riseI (riT (Q B, Q B) (puU p q r s n) (puD p q s d)) NS := rfl
  rw [← ee] at e1 e2 e3 e4 e5
  rw [← es] at s1 s2 s3
  have dv := (Iv.dv si e5 sl0 (by omega)).congr (bv_quot hL a0 bb0 x0 x1 xy xz yp zp hX)
  refine ⟨by omega, e2, sl0, s2, part_ok (C := (1 + 2 * (NS : Int)) * ((NS : Int) + 2) + 9) (D := exD2 (puW B) t) b0 sl0 s2 (by omega) e2 ?_ D0 ?_ D2 (by omega) s3 e4 dv (bv_one hL a0 bb0 x0 x1)⟩
  · have := Int.mul_nonneg (show 0 ≤ 1 + 2 * (NS : Int) by omega) (show 0 ≤ (NS : Int) + 2 by omega)
    omega
  · have := mulle (show 1 + 2 * (NS : Int) ≤ 10201 by omega) (show (NS : Int) + 2 ≤ 5102 by omega) (by omega) (by omega)
    omega
theorem pu_exp {L : Rat → Nat → Rat} {p q r s n d : Int} {B NS : Nat} {o1 o2 o3 : Int × Int} {lg ug : Int} {X : Nat → Rat} (h : BpIn p q r s n d B) (h1 : LwLog L ((d : Rat) / (n : Rat)) B o1) (h2 : LwLog L ((d : Rat) / ((d - n : Int) : Rat)) B o2) (h3 : LwLog L ((p : Rat) / (q : Rat)) B o3) (hg : LgP3 X B lg ug) (hL : Lns L) (hX : IsLog X (bJ L ((p : Rat) / (q : Rat)) ((r : Rat) / (s : Rat)))) (hS : NS ≤ 5100) (hS2 : IsRise (puT p q r s n d B) (puN r s) NS) :
    ∃ (l : Int) (t NE : Nat), LenIs (reachI (puY p q r s o1 o2 o3 (lg, ug))) l ∧ (t : Int) = max 0 (l - B + 8) ∧ t ≤ 27 ∧ Abs (downI (puY p q r s o1 o2 o3 (lg, ug)) t) (Q (B - 8)) ∧ IsStop (expT B (downI (puY p q r s o1 o2 o3 (lg, ug)) t)) NE ∧ Q (B + eb t) < P 98400 ∧ (puY p q r s o1 o2 o3 (lg, ug)).1 ≤ (puY p q r s o1 o2 o3 (lg, ug)).2 ∧
      (0 < (puE p q r s B o1 o2 o3 (lg, ug) t NE).1 ∧ (puE p q r s B o1 o2 o3 (lg, ug) t NE).1 ≤ (puE p q r s B o1 o2 o3 (lg, ug) t NE).2 ∧ 0 ≤ (puSer p q r s n d B NS).1 ∧ (puSer p q r s n d B NS).1 ≤ (puSer p q r s n d B NS).2 ∧ LwPr (bv L ((p : Rat) / (q : Rat)) ((r : Rat) / (s : Rat)) ((n : Rat) / (d : Rat))) B (dvLo (puSer p q r s n d B NS).1 (puSer p q r s n d B NS).2 (puE p q r s B o1 o2 o3 (lg, ug) t NE).1 (puE p q r s B o1 o2 o3 (lg, ug) t NE).2 B) (luHi (puSer p q r s n d B NS) (puE p q r s B o1 o2 o3 (lg, ug) t NE) B)) := by
  obtain ⟨y1, y2, y3, y4⟩ := puY_ok h h1 h2 h3 hg
  have b0 := h.b0
  have b1 := h.b1
  have qB := Q_pos B
  have t : reachI (puY p q r s o1 o2 o3 (lg, ug)) < Q (B + 19) := by
    have a := abs_reach y3
    have e : Q (B + 19) = Q B * Q 19 := Q_add B 19
    have e19 : Q 19 = 524288 := rfl
    rw [e19] at e
    omega
  obtain ⟨l, t, NE, e1, e2, e3, e4, e5⟩ := exp_set (B := B) (e := 19) (by omega) y1 t
  refine ⟨l, t, NE, e1, e2, by omega, e4, e5, ?_, y1, pu_okE hL h hX h1 h2 h3 hg (by omega) e4 e5 hS hS2⟩
  rw [← Q_P]
  have ebm := eb_mono (show t ≤ 27 by omega)
  have eb27 : eb 27 = 1572864 := by decide
  rw [eb27] at ebm
  have h1 := Q_mono (show B + eb t + 1 ≤ 16 * 98400 by omega)
  have h2 : ∀ j, Q (j + 1) = 2 * Q j := fun _ => rfl
  rw [h2] at h1
  have := Q_pos (B + eb t)
  generalize Q (B + eb t) = y at *
  generalize Q (16 * 98400) = z at *
  omega
end Go.Proofs.Ytgmnknmjainabab
namespace Go.Proofs.Ytgmnknmjainabab
open Go
section
variable {Pg : Program} {ops : Array Oper} {Q : Exit → Act → World → Prop} {md : Region.Mode} {S : Nat → World → Prop}
def AnyS (Pg : Program) (md : Region.Mode) (ops : Array Oper) (Q : Exit → Act → World → Prop) (S : Nat → World → Prop) : Nat → Array Bool → Act → World → Prop
  | 0, listed, a, w => Region.ready md ops listed = [] ∧ Q .normal a w
  | fuel + 1, listed, a, w =>
    (Region.ready md ops listed = [] → Q .normal a w) ∧
    ∀ i ∈ Region.ready md ops listed, wpOp Pg ops Q i (fun a' w' => S i w' ∧ AnyS Pg md ops Q S fuel (listed.setIfInBounds i true) a' w') a w
theorem AnyS.any : ∀ (fuel : Nat) (listed : Array Bool) (a : Act) (w : World), AnyS Pg md ops Q S fuel listed a w → wpAny Pg md ops Q fuel listed a w
  | 0, _, _, _, h => h
  | fuel + 1, _, _, _, h => ⟨h.1, fun i hi => wpOp_mono (fun a' w' h' => AnyS.any fuel _ a' w' h'.2) (h.2 i hi)⟩
theorem AnyS.first {i : Nat} {oi : Oper} {v : Value} {T : World → Prop} (hi : ops[i]? = some oi) (hsel : ∀ (j : Nat) (o : Oper) cs b, ops[j]? = some o → o.op ≠ .select cs b)
    (hQ : ∀ c a w, Q (.panic c) (a.put oi.dst v) w → Q (.panic c) a w) (hi' : ∀ w, T w → S i w) :
    ∀ (fuel : Nat) (listed : Array Bool) (a : Act) (w : World), (∀ j, listed.getD j true = false → waits md ops j i = true ∨ ∀ w, S j w → T w) →
      (∀ j oj, ops[j]? = some oj → j ≠ i → listed.getD j true = false → (∀ e ∈ oj.after, Region.binds md e = true → e.on ≠ i) → oi.apart ops oj = true) →
      i ∈ Region.ready md ops listed → YieldsIf Pg ops T oi v a → T w → S i w →
      AnyS Pg md ops Q S fuel (listed.setIfInBounds i true) (a.put oi.dst v) w → AnyS Pg md ops Q S (fuel + 1) listed a w := by
  intro fuel
  induction fuel with
  | zero =>
    intro listed a w hT _ hr hy hT' hS H
    refine ⟨fun h => (by rw [h] at hr; cases hr), fun j hj => ?_⟩
    by_cases hji : j = i
    · subst hji; exact hy.wpOp hi hT' ⟨hS, H⟩
    · have := ready_mono hj hji
      rw [H.1] at this
      cases this
  | succ fuel ih =>
    intro listed a w hT hfree hr hy hT' hS H
    refine ⟨fun h => (by rw [h] at hr; cases hr), fun j hj => ?_⟩
    by_cases hji : j = i
    · subst hji; exact hy.wpOp hi hT' ⟨hS, H⟩
    · have hjT : ∀ w, S j w → T w := by
        rcases hT j (mem_ready.1 hj).1 with h | h
        · exact absurd hj (fun hj => waits_not h hr hj)
        · exact h
      have h1 := H.2 j (ready_mono hj hji)
      obtain ⟨hjun, oj, hoj, hall⟩ := mem_ready.1 hj
      have hnot : ∀ e ∈ oj.after, Region.binds md e = true → e.on ≠ i := fun e he hb heq => by
        have h1 := hall e he hb
        have h0 := (mem_ready.1 hr).1
        rw [heq] at h1
        rcases Nat.lt_or_ge i listed.size with h' | h'
        · simp [h'] at h0 h1; rw [h0] at h1; cases h1
        · simp [Array.getElem?_eq_none h'] at h1
      have h2 := wpOp_putIf hoj (hfree j oj hoj hji hjun hnot) (fun cs b => hsel i oi cs b hi) (fun cs b => hsel j oj cs b hoj) hQ hy h1
      have hfree' : ∀ k ok, ops[k]? = some ok → k ≠ i → (listed.setIfInBounds j true).getD k true = false →
          (∀ e ∈ ok.after, Region.binds md e = true → e.on ≠ i) → oi.apart ops ok = true := fun k ok hk hki hun hno => by
        refine hfree k ok hk hki ?_ hno
        by_cases hjk : j = k
        · subst hjk; exact hjun
        · rw [getD_set_ne true hjk] at hun; exact hun
      have hT2 : ∀ k, (listed.setIfInBounds j true).getD k true = false → waits md ops k i = true ∨ ∀ w, S k w → T w := fun k hk => by
        refine hT k ?_
        by_cases hjk : j = k
        · subst hjk; exact hjun
        · rw [getD_set_ne true hjk] at hk; exact hk
      refine wpOp_mono (fun a' w' h3 => ⟨h3.2.1, ih (listed.setIfInBounds j true) a' w' hT2 hfree' (ready_mono hr (Ne.symm hji)) h3.1 (hjT w' h3.2.1) (hi' _ (hjT w' h3.2.1)) ?_⟩) h2
      rw [Array.setIfInBounds_comm _ _ hji]
      exact h3.2.2
theorem AnyS.take {i : Nat} {oi : Oper} {v : Value} {T : World → Prop} {fuel : Nat} {listed : Array Bool} {a : Act} {w : World} (hi : ops[i]? = some oi)
    (hs : Region.noSelect ops = true) (hf : Region.free md ops listed i = true) (hr : (Region.ready md ops listed).contains i = true)
    (hQ : ∀ c a w, Q (.panic c) (a.put oi.dst v) w → Q (.panic c) a w) (k m : Nat) (hk : ∀ j, listed.getD j true = false → j < k ∨ k + m ≤ j → ∀ w, S j w → T w) (hlate : (List.range m).all (fun j => waits md ops (k + j) i) = true)
    (hi' : ∀ w, T w → S i w) (hy : YieldsIf Pg ops T oi v a) (hTw : T w)
    (h : AnyS Pg md ops Q S fuel (listed.setIfInBounds i true) (a.put oi.dst v) w) : AnyS Pg md ops Q S (fuel + 1) listed a w :=
  AnyS.first hi (Region.noSelect_spec hs) hQ hi' fuel listed a w (fun j hj => by
    by_cases h1 : j < k ∨ k + m ≤ j
    · exact Or.inr (hk j hj h1)
    · refine Or.inl ?_
      have := (List.all_eq_true.1 hlate) (j - k) (List.mem_range.2 (by omega))
      have e : k + (j - k) = j := by omega
      rw [e] at this
      exact this) (Region.free_spec hi hf) (by simpa using hr) hy hTw (hi' _ hTw) h
theorem AnyS.one {i : Nat} {o : Oper} {fuel : Nat} {listed : Array Bool} {a : Act} {w : World} (hr : Region.ready md ops listed = [i]) (ho : ops[i]? = some o)
    (h : ∀ K' : Act → World → Prop, Shut (∀ a w, S i w → (S i w → AnyS Pg md ops Q S fuel (listed.setIfInBounds i true) a w) → K' a w) → if Region.wanted o (yielded ops a.tmps) = true then Oper.wp Pg o a w K' Q else K' (a.put o.dst undef) w) :
    AnyS Pg md ops Q S (fuel + 1) listed a w :=
  ⟨fun h0 => absurd (hr ▸ h0) (by simp), fun j hj => by
    rw [hr] at hj
    have hj' : j = i := by simpa using hj
    subst hj'
    exact wpOp_step ho (fun K' hK => h K' (fun a w hS hW => hK a w ⟨hS, hW hS⟩))⟩
theorem AnyS.last {l : Nat} {o : Oper} {fuel : Nat} {listed : Array Bool} {a : Act} {w : World} (hr : Region.ready md ops listed = [l]) (ho : ops[l]? = some o)
    (hd : Region.ready md ops (listed.setIfInBounds l true) = []) (hSl : ∀ w, S l w)
    (h : ∀ K' : Act → World → Prop, Shut (∀ a w, Q .normal a w → K' a w) → if Region.wanted o (yielded ops a.tmps) = true then Oper.wp Pg o a w K' Q else K' (a.put o.dst undef) w) :
    AnyS Pg md ops Q S (fuel + 1) listed a w :=
  ⟨fun h0 => absurd (hr ▸ h0) (by simp), fun j hj => by
    rw [hr] at hj
    have hj' : j = l := by simpa using hj
    subst hj'
    refine wpOp_step ho (fun K' hK => h K' (fun a w hW => hK a w ⟨hSl w, ?_⟩))
    cases fuel with
    | zero => exact ⟨hd, hW⟩
    | succ fuel => exact ⟨fun _ => hW, by rw [hd]; simp⟩⟩
theorem AnyS.start {id : Nat} {a : Act} {w : World} (hm : Pg.follows .mixedOrders = true)
    (h : AnyS Pg .any ops Q S ops.size (Array.replicate ops.size false) a w.drew) : (Code.region id ops true).wp Pg Q a w :=
  wp_region_any hm (AnyS.any _ _ _ _ h)
end
end Go.Proofs.Ytgmnknmjainabab
namespace Go.Proofs.Ytgmnknmjainabab
open Go.RowKit
attribute [local go_sem ↓] Go.wp_at_zero Go.wp_at_succ
structure VnC (w : World) (B : Nat) (x : Nm) : Prop where
  c : NmC w B x
  fz : ∀ o, w.frozen? ⟨B, o, none⟩ = false
theorem VnC.lt {w : World} {B : Nat} {x : Nm} (h : VnC w B x) : B < w.heap.size := h.c.lt
theorem VnC.below {w w' : World} {B : Nat} {x : Nm} (h : VnC w B x) (hb : Below w.heap.size w w') : VnC w' B x :=
  ⟨h.c.below hb, fun o => (hb.frozen (p := ⟨B, o, none⟩) h.lt).trans (h.fz o)⟩
abbrev put2w (w : World) (B : Nat) (x : Nm) : World := (w.setCell ⟨B, 0, none⟩ (.bool x.neg)).setCell ⟨B, 1, none⟩ (.slice x.a x.n x.cap)
theorem VnC.put {w : World} {B : Nat} {x : Nm} (h : VnC w B x) (y : Nm) : VnC (put2w w B y) B y := ⟨put_nm2 h.c y, put_fz2 h.fz _ _⟩
theorem VnC.off {w : World} {B B' : Nat} {x : Nm} (h : VnC w B x) (hne : B ≠ B') (y : Nm) : VnC (put2w w B' y) B x := ⟨h.c.off hne _ _, put_fz2 h.fz _ _⟩
theorem IntAt.putv {w : World} {neg : Bool} {a : Option Addr} {n cap k : Nat} {z : Int} (h : IntAt w neg a n cap k z) {B : Nat} {x : Nm} (hx : VnC w B x) (y : Nm) : IntAt (put2w w B y) neg a n cap k z := h.put2 hx.c.c0 hx.c.c1 _ _
theorem NoC.offv {w : World} {B B' : Nat} (h : NoC w B) (hne : B ≠ B') (y : Nm) : NoC (put2w w B' y) B := by
  obtain ⟨q0, q1, q2, q3, q4, q5⟩ := h
  exact ⟨by simp [go_sem, q0, hne, Ne.symm hne], by simp [go_sem, q1, hne, Ne.symm hne], by simp [go_sem, q2, hne, Ne.symm hne], by simp [go_sem, q3, hne, Ne.symm hne], by simp [go_sem, q4, hne, Ne.symm hne], put_fz2 q5 _ _⟩
theorem vnc_new (w : World) (x : Nm) (T : TypeId) : VnC (w.alloc (.cells #[.bool x.neg, .slice x.a x.n x.cap] T)) w.heap.size x := ⟨⟨by simp, by simp⟩, fun o => by simp [go_sem]⟩
structure RaSt (w wr : World) (B : Nat) (X : Nm) (p q : Int) (k : Nat) (v : Int) : Prop where
  a : RaC wr w.heap.size p q
  x : VnC wr B X
  i : IntAt wr X.neg X.a X.n X.cap k v
  no : NoC wr (w.heap.size + 1)
  be : Below w.heap.size w wr
  l : w.heap.size + 1 < B
theorem RaSt.below {w wr wr' : World} {B : Nat} {X : Nm} {p q : Int} {k : Nat} {v : Int} (h : RaSt w wr B X p q k v) (hb : Below wr.heap.size wr wr') : RaSt w wr' B X p q k v :=
  ⟨h.a.below hb, h.x.below hb, h.i.below hb, h.no.below hb, bthen h.be hb, h.l⟩
theorem RaC.offv {w : World} {B B' : Nat} {p q : Int} (h : RaC w B p q) (hne : B ≠ B') (y : Nm) : RaC (put2w w B' y) B p q := by
  obtain ⟨q0, q1⟩ := h
  constructor <;> simp [go_sem, q0, q1, hne, Ne.symm hne]
theorem RaSt.put {w wr : World} {B : Nat} {X Y : Nm} {p q : Int} {k k' : Nat} {v v' : Int} (h : RaSt w wr B X p q k v) (hy : IntAt wr Y.neg Y.a Y.n Y.cap k' v') : RaSt w (put2w wr B Y) B Y p q k' v' :=
  ⟨h.a.offv (by have := h.l; omega) Y, h.x.put Y, hy.putv h.x Y, h.no.offv (by have := h.l; omega) Y, set2 h.be (by have := h.l; omega) _ _, h.l⟩
end Go.Proofs.Ytgmnknmjainabab
namespace Go.Proofs.Ytgmnknmjainabab
open Go.RowKit
attribute [local go_sem ↓] Go.wp_at_zero Go.wp_at_succ
structure StSt (w wr : World) (BX BY : Nat) (X Y : Nm) (k : Nat) (p q : Int) : Prop where
  x : VnC wr BX X
  y : VnC wr BY Y
  ix : IntAt wr X.neg X.a X.n X.cap k p
  iy : IntAt wr Y.neg Y.a Y.n Y.cap k q
  n1 : NoI wr w.heap.size
  n2 : NoI wr (w.heap.size + 1)
  be : Below w.heap.size w wr
  l1 : w.heap.size + 1 < BX
  l2 : w.heap.size + 1 < BY
  ne : BX ≠ BY
theorem StSt.below {w wr wr' : World} {BX BY : Nat} {X Y : Nm} {k : Nat} {p q : Int} (h : StSt w wr BX BY X Y k p q) (hb : Below wr.heap.size wr wr') : StSt w wr' BX BY X Y k p q :=
  ⟨h.x.below hb, h.y.below hb, h.ix.below hb, h.iy.below hb, h.n1.below hb, h.n2.below hb, bthen h.be hb, h.l1, h.l2, h.ne⟩
theorem NoI.offs {w : World} {B B' : Nat} (h : NoI w B) (hne : B ≠ B') (y : Nm) : NoI (put2w w B' y) B := by
  obtain ⟨q0, q1, q2⟩ := h
  exact ⟨by simp [go_sem, q0, hne, Ne.symm hne], by simp [go_sem, q1, hne, Ne.symm hne], put_fz2 q2 _ _⟩
theorem StSt.put {w wr : World} {BX BY : Nat} {X Y X' Y' : Nm} {k k' : Nat} {p q p' q' : Int} (h : StSt w wr BX BY X Y k p q) (hx : IntAt wr X'.neg X'.a X'.n X'.cap k' p') (hy : IntAt wr Y'.neg Y'.a Y'.n Y'.cap k' q') : StSt w (put2w (put2w wr BX X') BY Y') BX BY X' Y' k' p' q' :=
  have x1 := h.x.put X'
  have y1 := h.y.off (Ne.symm h.ne) X'
  ⟨x1.off h.ne Y', y1.put Y', (hx.putv h.x X').putv y1 Y', (hy.putv h.x X').putv y1 Y', (h.n1.offs (by have := h.l1; omega) X').offs (by have := h.l2; omega) Y', (h.n2.offs (by have := h.l1; omega) X').offs (by have := h.l2; omega) Y', set2 (set2 h.be (by have := h.l1; omega) _ _) (by have := h.l2; omega) _ _, h.l1, h.l2, h.ne⟩
theorem st_end {w wr : World} {BX BY : Nat} {X Y : Nm} {k : Nat} {p q : Int} (h : StSt w wr BX BY X Y k p q) : IntAt (put2w (put2w wr w.heap.size X) (w.heap.size + 1) Y) X.neg X.a X.n X.cap k p ∧ IntAt (put2w (put2w wr w.heap.size X) (w.heap.size + 1) Y) Y.neg Y.a Y.n Y.cap k q ∧ Below w.heap.size w (put2w (put2w wr w.heap.size X) (w.heap.size + 1) Y) := by
  have n2 := h.n2.offs (B' := w.heap.size) (by omega) X
  obtain ⟨a0, a1, af⟩ := h.n1
  obtain ⟨b0, b1, bf⟩ := n2
  exact ⟨(h.ix.put2 a0 a1 _ _).put2 b0 b1 _ _, (h.iy.put2 a0 a1 _ _).put2 b0 b1 _ _, set2 (set2 h.be (Nat.le_refl _) _ _) (Nat.le_succ _) _ _⟩
set_option maxRecDepth 100000 in
set_option maxHeartbeats 6000000 in
theorem steps_int (w : World) (n d : Int) (h : StIn n d) (hn : n ≤ 4611686018427387904) :
    Calls Try.prog 96 #[.int .i64 n, .int .i64 d] w (fun r w' => ∃ X Y : Nm, r = .returned (.tuple #[.int .i64 (n - (stN n d : Int) * d), .agg #[.bool X.neg, .slice X.a X.n X.cap], .agg #[.bool Y.neg, .slice Y.a Y.n Y.cap]]) ∧ IntAt w' X.neg X.a X.n X.cap (4 * stN n d + 4) (stP n d (stN n d)) ∧ IntAt w' Y.neg Y.a Y.n Y.cap (4 * stN n d + 4) (stQ d (stN n d)) ∧ Below w.heap.size w w') := by
  obtain ⟨W, hW⟩ : ∃ W, W = (w.alloc (.cells #[.bool false, .slice none 0 0] 26)).alloc (.cells #[.bool false, .slice none 0 0] 26) := ⟨_, rfl⟩
  have hBW : Below w.heap.size w W := by rw [hW]; exact bl2 _ _ _
  have R1 : NoI W w.heap.size := by rw [hW]; exact (noi_new w _).below (bl1 _ _)
  have R2 : NoI W (w.heap.size + 1) := by rw [hW]; exact ⟨by simp [go_sem], by simp [go_sem], fun o => by simp [go_sem]⟩
  have d0 := h.d0
  have dd := h.dd
  have k200 := h.rest.2.2
  have H := hide h
  clear h
  go_enter Try.func96, Try.ntmps96
  go_wp2_with fail
  rw [← hW]
  clear hW
  refine (numOf_int 1 _ (by decide) (by decide)).mono ?_
  rintro r' w1 ⟨neg1, a1, n1, c1, rfl, hint1, hb1⟩
  replace R1 := R1.below hb1
  replace R2 := R2.below hb1
  replace hBW := bthen hBW hb1
  clear hb1
  go_wp2_with fail
  refine (numOf_int 1 _ (by decide) (by decide)).mono ?_
  rintro r' w2 ⟨neg2, a2, n2, c2, rfl, hint2, hb2⟩
  replace R1 := R1.below hb2
  replace R2 := R2.below hb2
  replace hBW := bthen hBW hb2
  replace hint1 := hint1.below hb2
  clear hb2
  have lR := R2.lt
  obtain ⟨V1, hV1⟩ : ∃ V1, V1 = (w2.alloc (.cells #[.bool neg1, .slice a1 n1 c1] 26)).alloc (.cells #[.bool neg2, .slice a2 n2 c2] 26) := ⟨_, rfl⟩
  have bV1 : Below w2.heap.size w2 V1 := by rw [hV1]; exact bl2 _ _ _
  have st0 : StSt w V1 w2.heap.size (w2.heap.size + 1) ⟨neg1, a1, n1, c1⟩ ⟨neg2, a2, n2, c2⟩ (4 * 0 + 4) (stP n d 0) (stQ d 0) := ⟨by rw [hV1]; exact (vnc_new w2 ⟨neg1, a1, n1, c1⟩ _).below (bl1 _ _), by rw [hV1]; exact ⟨⟨by simp [go_sem], by simp [go_sem]⟩, fun o => by simp [go_sem]⟩, hint1.below bV1, hint2.below bV1, R1.below bV1, R2.below bV1, bthen hBW bV1, lR, by omega, by omega⟩
  go_wp2_with fail
  rw [← hV1]
  clear hV1 bV1 hint1 hint2 R1 R2 hBW
  obtain ⟨BX, hBX⟩ : ∃ B, B = w2.heap.size := ⟨_, rfl⟩
  obtain ⟨BY, hBY⟩ : ∃ B', B' = w2.heap.size + 1 := ⟨_, rfl⟩
  rw [← hBY, ← hBX] at st0 ⊢
  clear hBX hBY lR
  go_loopw [0] (fun nn wr => ∃ (i : Nat) (X Y : Nm), nn = .int .i64 (n - (i : Int) * d) ∧ i ≤ stN n d ∧ StSt w wr BX BY X Y (4 * i + 4) (stP n d i) (stQ d i)) (fun nn _ => (intOf nn).toNat)
  case atStart => exact ⟨0, _, _, by simp, Nat.zero_le _, st0⟩
  case round =>
    obtain ⟨i, X, Y, rfl, hi, st⟩ := hrel
    clear st0
    have p0 := (st_at (unhide H) hi).1
    have id0 := Int.mul_nonneg (show (0 : Int) ≤ (i : Int) by omega) (show 0 ≤ d by omega)
    by_cases hin : i < stN n d
    · have hin1 : d < n - (i : Int) * d := (st_at (unhide H) hi).2 hin
      have HX := hide st.x
      have HY := hide st.y
      have HI := hide st.ix
      have HJ := hide st.iy
      have HST := hide st
      have HE1 := hide (show IntKind.i64.wrap (n - (i : Int) * d - d) = n - (i : Int) * d - d from i64_id _ (by omega) (by omega))
      have HR := hide (show -9223372036854775808 ≤ n - (i : Int) * d - d ∧ n - (i : Int) * d - d ≤ 9223372036854775807 from ⟨by omega, by omega⟩)
      clear st
      go_wp2_with fail
      have hD0 : Below wr.heap.size wr wr.drew := (Below.refl _ _).drew
      have HK7 := hide (show ∀ w', Below wr.heap.size wr w' → (w'.cell? ⟨BX, 0, none⟩ = some (.bool X.neg) ∧ w'.cell? ⟨BX, 1, none⟩ = some (.slice X.a X.n X.cap)) from fun w' hB => ⟨((unhide HX).below hB).c.c0, ((unhide HX).below hB).c.c1⟩)
      have HK8 := hide (show ∀ w', Below wr.heap.size wr w' → (w'.cell? ⟨BY, 0, none⟩ = some (.bool Y.neg) ∧ w'.cell? ⟨BY, 1, none⟩ = some (.slice Y.a Y.n Y.cap)) from fun w' hB => ⟨((unhide HY).below hB).c.c0, ((unhide HY).below hB).c.c1⟩)
      refine AnyS.start (S := fun j w' => (j = 6 ∨ j = 7 ∨ j = 10 ∨ j = 11 ∨ (w'.cell? ⟨BX, 0, none⟩ = some (.bool X.neg) ∧ w'.cell? ⟨BX, 1, none⟩ = some (.slice X.a X.n X.cap))) ∧ (j = 11 ∨ (w'.cell? ⟨BY, 0, none⟩ = some (.bool Y.neg) ∧ w'.cell? ⟨BY, 1, none⟩ = some (.slice Y.a Y.n Y.cap)))) (by kernel_rfl) ?_
      refine AnyS.take (i := 6) (oi := { dst := some 23, op := Go.Op.load 26 (Go.Operand.tmp 8), type := 26, pos := "gamma.go:37", after := #[], guard := none }) (v := .agg #[.bool Y.neg, .slice Y.a Y.n Y.cap]) (T := fun w' => w'.cell? ⟨BY, 0, none⟩ = some (.bool Y.neg) ∧ w'.cell? ⟨BY, 1, none⟩ = some (.slice Y.a Y.n Y.cap)) rfl (by kernel_rfl) (by kernel_rfl) (by kernel_rfl) (fun _ _ _ h => h) 11 1 (fun j hl hj w h => h.2.elim (fun e => absurd e (by omega)) id) (by kernel_rfl) (fun w h => ⟨Or.inl rfl, Or.inr h⟩) (Or.inl ⟨by rfl, fun w hSw => ?_⟩) (unhide HK8 _ hD0) ?_
      · obtain ⟨s0, s1⟩ := hSw; go_simp
      try simp only [Act.put, List.setIfInBounds_toArray, List.set_cons_zero, List.set_cons_succ]
      refine AnyS.take (i := 7) (oi := { dst := some 24, op := Go.Op.move (Go.Operand.tmp 1), type := 3, pos := "gamma.go:37", after := #[], guard := none }) (v := .int .i64 d) (T := fun w' => w'.cell? ⟨BY, 0, none⟩ = some (.bool Y.neg) ∧ w'.cell? ⟨BY, 1, none⟩ = some (.slice Y.a Y.n Y.cap)) rfl (by kernel_rfl) (by kernel_rfl) (by kernel_rfl) (fun _ _ _ h => h) 11 1 (fun j hl hj w h => h.2.elim (fun e => absurd e (by omega)) id) (by kernel_rfl) (fun w h => ⟨Or.inr (Or.inl rfl), Or.inr h⟩) (Or.inl ⟨by rfl, fun w hSw => ?_⟩) (unhide HK8 _ hD0) ?_
      · go_simp
      try simp only [Act.put, List.setIfInBounds_toArray, List.set_cons_zero, List.set_cons_succ]
      refine AnyS.take (i := 0) (oi := { dst := some 17, op := Go.Op.load 26 (Go.Operand.tmp 7), type := 26, pos := "gamma.go:37", after := #[], guard := none }) (v := .agg #[.bool X.neg, .slice X.a X.n X.cap]) (T := fun w' => (w'.cell? ⟨BX, 0, none⟩ = some (.bool X.neg) ∧ w'.cell? ⟨BX, 1, none⟩ = some (.slice X.a X.n X.cap)) ∧ (w'.cell? ⟨BY, 0, none⟩ = some (.bool Y.neg) ∧ w'.cell? ⟨BY, 1, none⟩ = some (.slice Y.a Y.n Y.cap))) rfl (by kernel_rfl) (by kernel_rfl) (by kernel_rfl) (fun _ _ _ h => h) 10 2 (fun j hl hj w h => ⟨h.1.elim (fun e => absurd hl (by rw [e]; decide)) (fun h => h.elim (fun e => absurd hl (by rw [e]; decide)) (fun h => h.elim (fun e => absurd e (by omega)) (fun h => h.elim (fun e => absurd e (by omega)) id))), h.2.elim (fun e => absurd e (by omega)) id⟩) (by kernel_rfl) (fun w h => ⟨Or.inr (Or.inr (Or.inr (Or.inr h.1))), Or.inr h.2⟩) (Or.inl ⟨by rfl, fun w hSw => ?_⟩) ⟨unhide HK7 _ hD0, unhide HK8 _ hD0⟩ ?_
      · obtain ⟨⟨s0, s1⟩, _⟩ := hSw; go_simp
      try simp only [Act.put, List.setIfInBounds_toArray, List.set_cons_zero, List.set_cons_succ]
      refine AnyS.take (i := 1) (oi := { dst := some 18, op := Go.Op.move (Go.Operand.tmp 0), type := 3, pos := "gamma.go:37", after := #[], guard := none }) (v := .int .i64 (n - (i : Int) * d)) (T := fun w' => (w'.cell? ⟨BX, 0, none⟩ = some (.bool X.neg) ∧ w'.cell? ⟨BX, 1, none⟩ = some (.slice X.a X.n X.cap)) ∧ (w'.cell? ⟨BY, 0, none⟩ = some (.bool Y.neg) ∧ w'.cell? ⟨BY, 1, none⟩ = some (.slice Y.a Y.n Y.cap))) rfl (by kernel_rfl) (by kernel_rfl) (by kernel_rfl) (fun _ _ _ h => h) 10 2 (fun j hl hj w h => ⟨h.1.elim (fun e => absurd hl (by rw [e]; decide)) (fun h => h.elim (fun e => absurd hl (by rw [e]; decide)) (fun h => h.elim (fun e => absurd e (by omega)) (fun h => h.elim (fun e => absurd e (by omega)) id))), h.2.elim (fun e => absurd e (by omega)) id⟩) (by kernel_rfl) (fun w h => ⟨Or.inr (Or.inr (Or.inr (Or.inr h.1))), Or.inr h.2⟩) (Or.inl ⟨by rfl, fun w hSw => ?_⟩) ⟨unhide HK7 _ hD0, unhide HK8 _ hD0⟩ ?_
      · go_simp
      try simp only [Act.put, List.setIfInBounds_toArray, List.set_cons_zero, List.set_cons_succ]
      refine AnyS.take (i := 2) (oi := { dst := some 19, op := Go.Op.move (Go.Operand.tmp 1), type := 3, pos := "gamma.go:37", after := #[], guard := none }) (v := .int .i64 d) (T := fun w' => (w'.cell? ⟨BX, 0, none⟩ = some (.bool X.neg) ∧ w'.cell? ⟨BX, 1, none⟩ = some (.slice X.a X.n X.cap)) ∧ (w'.cell? ⟨BY, 0, none⟩ = some (.bool Y.neg) ∧ w'.cell? ⟨BY, 1, none⟩ = some (.slice Y.a Y.n Y.cap))) rfl (by kernel_rfl) (by kernel_rfl) (by kernel_rfl) (fun _ _ _ h => h) 10 2 (fun j hl hj w h => ⟨h.1.elim (fun e => absurd hl (by rw [e]; decide)) (fun h => h.elim (fun e => absurd hl (by rw [e]; decide)) (fun h => h.elim (fun e => absurd e (by omega)) (fun h => h.elim (fun e => absurd e (by omega)) id))), h.2.elim (fun e => absurd e (by omega)) id⟩) (by kernel_rfl) (fun w h => ⟨Or.inr (Or.inr (Or.inr (Or.inr h.1))), Or.inr h.2⟩) (Or.inl ⟨by rfl, fun w hSw => ?_⟩) ⟨unhide HK7 _ hD0, unhide HK8 _ hD0⟩ ?_
      · go_simp
      try simp only [Act.put, List.setIfInBounds_toArray, List.set_cons_zero, List.set_cons_succ]
      refine AnyS.take (i := 3) (oi := { dst := some 20, op := Go.Op.binOp Go.BinOp.sub 3 (Go.Operand.tmp 18) (Go.Operand.tmp 19) 3, type := 3, pos := "gamma.go:37", after := #[{ on := 1, ground := Go.Ground.data }, { on := 2, ground := Go.Ground.data }], guard := none }) (v := .int .i64 (n - (i : Int) * d - d)) (T := fun w' => (w'.cell? ⟨BX, 0, none⟩ = some (.bool X.neg) ∧ w'.cell? ⟨BX, 1, none⟩ = some (.slice X.a X.n X.cap)) ∧ (w'.cell? ⟨BY, 0, none⟩ = some (.bool Y.neg) ∧ w'.cell? ⟨BY, 1, none⟩ = some (.slice Y.a Y.n Y.cap))) rfl (by kernel_rfl) (by kernel_rfl) (by kernel_rfl) (fun _ _ _ h => h) 10 2 (fun j hl hj w h => ⟨h.1.elim (fun e => absurd hl (by rw [e]; decide)) (fun h => h.elim (fun e => absurd hl (by rw [e]; decide)) (fun h => h.elim (fun e => absurd e (by omega)) (fun h => h.elim (fun e => absurd e (by omega)) id))), h.2.elim (fun e => absurd e (by omega)) id⟩) (by kernel_rfl) (fun w h => ⟨Or.inr (Or.inr (Or.inr (Or.inr h.1))), Or.inr h.2⟩) (Or.inl ⟨by rfl, fun w hSw => ?_⟩) ⟨unhide HK7 _ hD0, unhide HK8 _ hD0⟩ ?_
      · go_simp; rw [unhide HE1]
      try simp only [Act.put, List.setIfInBounds_toArray, List.set_cons_zero, List.set_cons_succ]
      refine AnyS.one (i := 4) (o := { dst := some 21, op := Go.Op.call { callee := Go.Callee.value (Go.Operand.func 48), args := #[Go.Operand.tmp 20], argTypes := #[3] }, type := 26, pos := "gamma.go:37", after := #[{ on := 3, ground := Go.Ground.data }], guard := none }) (by kernel_rfl) rfl (fun Kc hKc => ?_)
      go_simp
      refine (numOf_int (n - (i : Int) * d - d) _ (unhide HR).1 (unhide HR).2).mono ?_
      rintro r' w1 ⟨neg1, a1, n1, c1, rfl, hint1, hb1⟩
      have hD1 := bthen hD0 hb1
      clear hb1
      go_wp2_with fail
      refine hKc.out _ _ ⟨Or.inr (Or.inr (Or.inr (Or.inr (unhide HK7 _ hD1)))), Or.inr (unhide HK8 _ hD1)⟩ (fun _ => ?_)
      clear hKc Kc
      try simp only [Act.put, List.setIfInBounds_toArray, List.set_cons_zero, List.set_cons_succ]
      refine AnyS.one (i := 5) (o := { dst := some 22, op := Go.Op.call { callee := Go.Callee.value (Go.Operand.func 84), args := #[Go.Operand.tmp 17, Go.Operand.tmp 21], argTypes := #[26, 26] }, type := 26, pos := "gamma.go:37", after := #[{ on := 0, ground := Go.Ground.data }, { on := 4, ground := Go.Ground.data }, { on := 4, ground := Go.Ground.chain }], guard := none }) (by kernel_rfl) rfl (fun Kc hKc => ?_)
      go_simp
      refine (mul_int _ _ _ _ _ _ _ _ (4 * i + 4) 4 (stP n d i) (n - (i : Int) * d - d) _ ((unhide HI).below hD1) hint1 (by omega) (by omega)).mono ?_
      rintro r' w2 ⟨neg2, a2, n2, c2, rfl, hint2, hb2⟩
      have hD2 := bthen hD1 hb2
      clear hb2 hint1
      go_wp2_with fail
      refine hKc.out _ _ ⟨Or.inr (Or.inr (Or.inr (Or.inr (unhide HK7 _ hD2)))), Or.inr (unhide HK8 _ hD2)⟩ (fun _ => ?_)
      clear hKc Kc
      try simp only [Act.put, List.setIfInBounds_toArray, List.set_cons_zero, List.set_cons_succ]
      refine AnyS.one (i := 8) (o := { dst := some 25, op := Go.Op.call { callee := Go.Callee.value (Go.Operand.func 48), args := #[Go.Operand.tmp 24], argTypes := #[3] }, type := 26, pos := "gamma.go:37", after := #[{ on := 7, ground := Go.Ground.data }, { on := 5, ground := Go.Ground.chain }], guard := none }) (by kernel_rfl) rfl (fun Kc hKc => ?_)
      go_simp
      refine (numOf_int d _ (by omega) (by omega)).mono ?_
      rintro r' w3 ⟨neg3, a3, n3, c3, rfl, hint3, hb3⟩
      have hD3 := bthen hD2 hb3
      replace hint2 := hint2.below hb3
      clear hb3
      go_wp2_with fail
      refine hKc.out _ _ ⟨Or.inr (Or.inr (Or.inr (Or.inr (unhide HK7 _ hD3)))), Or.inr (unhide HK8 _ hD3)⟩ (fun _ => ?_)
      clear hKc Kc
      try simp only [Act.put, List.setIfInBounds_toArray, List.set_cons_zero, List.set_cons_succ]
      refine AnyS.one (i := 9) (o := { dst := some 26, op := Go.Op.call { callee := Go.Callee.value (Go.Operand.func 84), args := #[Go.Operand.tmp 23, Go.Operand.tmp 25], argTypes := #[26, 26] }, type := 26, pos := "gamma.go:37", after := #[{ on := 6, ground := Go.Ground.data }, { on := 8, ground := Go.Ground.data }, { on := 8, ground := Go.Ground.chain }], guard := none }) (by kernel_rfl) rfl (fun Kc hKc => ?_)
      go_simp
      refine (mul_int _ _ _ _ _ _ _ _ (4 * i + 4) 4 (stQ d i) d _ ((unhide HJ).below hD3) hint3 (by omega) (by omega)).mono ?_
      rintro r' w4 ⟨neg4, a4, n4, c4, rfl, hint4, hb4⟩
      have hD4 := bthen hD3 hb4
      replace hint2 := hint2.below hb4
      clear hb4 hint3
      go_wp2_with fail
      refine hKc.out _ _ ⟨Or.inr (Or.inr (Or.inr (Or.inr (unhide HK7 _ hD4)))), Or.inr (unhide HK8 _ hD4)⟩ (fun _ => ?_)
      clear hKc Kc
      try simp only [Act.put, List.setIfInBounds_toArray, List.set_cons_zero, List.set_cons_succ]
      have VX := (unhide HX).below hD4
      have VY := (unhide HY).below hD4
      have lX := VX.lt
      have lY := VY.lt
      have VY2 : VnC (put2w w4 BX ⟨neg2, a2, n2, c2⟩) BY Y := VY.off (Ne.symm (unhide HST).ne) ⟨neg2, a2, n2, c2⟩
      unfold put2w at VY2
      obtain ⟨⟨z0, z1⟩, zf⟩ := VX
      refine AnyS.one (i := 10) (o := { dst := none, op := Go.Op.store 26 (Go.Operand.tmp 7) (Go.Operand.tmp 22), type := 0, pos := "gamma.go:37", after := #[{ on := 5, ground := Go.Ground.data }, { on := 9, ground := Go.Ground.chain }, { on := 0, ground := Go.Ground.phase }, { on := 1, ground := Go.Ground.phase }, { on := 2, ground := Go.Ground.phase }, { on := 3, ground := Go.Ground.phase }, { on := 4, ground := Go.Ground.phase }, { on := 5, ground := Go.Ground.phase }, { on := 6, ground := Go.Ground.textOnly Go.Departure.lateStores }, { on := 7, ground := Go.Ground.textOnly Go.Departure.lateStores }, { on := 8, ground := Go.Ground.textOnly Go.Departure.lateStoresUnsure }, { on := 9, ground := Go.Ground.textOnly Go.Departure.lateStoresUnsure }], guard := none }) (by kernel_rfl) rfl (fun Kc hKc => ?_)
      go_simp
      refine hKc.out _ _ ⟨Or.inr (Or.inr (Or.inl rfl)), Or.inr ⟨VY2.c.c0, VY2.c.c1⟩⟩ (fun _ => ?_)
      clear hKc Kc z0 z1 zf
      try simp only [Act.put, List.setIfInBounds_toArray, List.set_cons_zero, List.set_cons_succ]
      have lY2 := VY2.lt
      obtain ⟨⟨z0, z1⟩, zf⟩ := VY2
      refine AnyS.last (o := { dst := none, op := Go.Op.store 26 (Go.Operand.tmp 8) (Go.Operand.tmp 26), type := 0, pos := "gamma.go:37", after := #[{ on := 9, ground := Go.Ground.data }, { on := 10, ground := Go.Ground.chain }, { on := 0, ground := Go.Ground.phase }, { on := 1, ground := Go.Ground.phase }, { on := 2, ground := Go.Ground.phase }, { on := 3, ground := Go.Ground.phase }, { on := 4, ground := Go.Ground.phase }, { on := 5, ground := Go.Ground.phase }, { on := 6, ground := Go.Ground.phase }, { on := 7, ground := Go.Ground.phase }, { on := 8, ground := Go.Ground.phase }, { on := 9, ground := Go.Ground.phase }, { on := 10, ground := Go.Ground.phase }], guard := none }) (by kernel_rfl) rfl (by kernel_rfl) (fun _ => ⟨Or.inr (Or.inr (Or.inr (Or.inl rfl))), Or.inl rfl⟩) (fun Kc hKc => ?_)
      go_simp
      refine hKc.out _ _ ?_
      clear hKc Kc z0 z1 zf HK7 HK8
      have stn := ((unhide HST).below hD4).put (X' := ⟨neg2, a2, n2, c2⟩) (Y' := ⟨neg4, a4, n4, c4⟩) hint2 hint4
      unfold put2w at stn
      have e1 : stP n d i * (n - (i : Int) * d - d) = stP n d (i + 1) := by
        show _ = stP n d i * (n - ((i : Int) + 1) * d)
        congr 1; grind
      have e2 : stQ d i * d = stQ d (i + 1) := rfl
      have e3 : n - (i : Int) * d - d = n - ((i + 1 : Nat) : Int) * d := by
        have : ((i + 1 : Nat) : Int) = (i : Int) + 1 := by omega
        rw [this]; grind
      rw [e1, e2, show 4 * i + 4 + 4 = 4 * (i + 1) + 4 by omega] at stn
      have E3 := hide e3
      clear e1 e2 e3
      go_wp2_with fail
      go_roundw
      case rel => exact ⟨i + 1, _, _, congrArg _ (unhide E3), by omega, stn⟩
      case measure => simp [intOf]; omega
    · have hin1 : ¬ d < n - (i : Int) * d := by
        have := (unhide H).rest.2.1
        have e : i = stN n d := by omega
        rw [e]; omega
      have hik : i = stN n d := by omega
      subst hik
      have lX := st.x.lt
      have lY := st.y.lt
      have q1 := st.n1
      have q2 := st.n2
      have l1 := st.l1
      have l2 := st.l2
      have lq1 := q1.lt
      have lq2 := q2.lt
      have HST := hide st
      obtain ⟨⟨x0, x1⟩, xf⟩ := st.x
      obtain ⟨⟨y0, y1⟩, yf⟩ := st.y
      obtain ⟨q10, q11, q1f⟩ := q1
      obtain ⟨q20, q21, q2f⟩ := q2
      clear st
      have m1 : w.heap.size ≠ BX := by omega
      have m2 : w.heap.size ≠ BY := by omega
      have m3 : w.heap.size + 1 ≠ BX := by omega
      have m4 : w.heap.size + 1 ≠ BY := by omega
      go_wp2_with fail
      have HE := st_end (unhide HST)
      unfold put2w at HE
      go_region
      all_goals
        go_wp2_with fail
        refine bodyPost_ret (v := .tuple #[.int .i64 (n - (stN n d : Int) * d), .agg #[.bool X.neg, .slice X.a X.n X.cap], .agg #[.bool Y.neg, .slice Y.a Y.n Y.cap]]) (by simp [results, Try.results96, go_sem, q10, q11, q20, q21]) rfl ⟨X, Y, rfl, ?_, ?_, ?_⟩
        · exact HE.1.below (Below.refl _ _).drew
        · exact HE.2.1.below (Below.refl _ _).drew
        · exact HE.2.2.drew
end Go.Proofs.Ytgmnknmjainabab
