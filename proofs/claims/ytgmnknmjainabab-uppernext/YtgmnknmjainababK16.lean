/-
  Texts UppI, Lst2, Msb, Stp: what they hold is told in the last text.
-/
import Derived.Test.YtgmnknmjainababK15
set_option linter.unnecessarySimpa false
set_option linter.unusedSimpArgs false
set_option linter.unusedVariables false
namespace Go.Proofs.Ytgmnknmjainabab
open Ex
structure LwIn (p q n d : Int) (B : Nat) : Prop where
  p0 : 0 < p
  q0 : 0 < q
  pq : p ≤ 100 * q
  qq : q ≤ 1048576
  n0 : 0 < n
  d0 : 0 < d
  nn : n ≤ 1099511627776
  dd : d ≤ 1048576
  nx : n < d * (2 * ((B : Int) + p / q + 1))
  b0 : 40 ≤ B
  b1 : B ≤ 400
def luU (q n : Int) (_ : Nat) : Int := n * q
def luD (p q d : Int) (k : Nat) : Int := d * (p + (k : Int) * q)
def luT (p q n d : Int) (B : Nat) : Nat → Int × Int := riT (Q B, Q B) (luU q n) (luD p q d)
def luN (n d : Int) : Nat := (2 * n / d).toNat
theorem lu_x {p q n d : Int} {B : Nat} (h : LwIn p q n d B) : n < 1002 * d ∧ (luN n d : Int) = 2 * n / d ∧ luN n d ≤ 2004 := by
  have e : p / q ≤ 100 := Int.ediv_le_of_le_mul h.q0 h.pq
  have b1 := h.b1
  have d0 := h.d0
  have n0 := h.n0
  have m := Int.mul_le_mul_of_nonneg_left (show 2 * ((B : Int) + p / q + 1) ≤ 1002 by omega) (show 0 ≤ d by omega)
  have nx := h.nx
  have q0 : 0 ≤ 2 * n / d := Int.ediv_nonneg (by omega) (by omega)
  have l : 2 * n / d < 2005 := Int.ediv_lt_of_lt_mul d0 (by omega)
  unfold luN
  exact ⟨by omega, by omega, by omega⟩
theorem luD_pos {p q n d : Int} {B : Nat} (h : LwIn p q n d B) (k : Nat) : 0 < luD p q d k := by
  have := Int.mul_nonneg (show (0 : Int) ≤ (k : Int) by omega) (show 0 ≤ q by have := h.q0; omega)
  have := h.p0
  exact Int.mul_pos h.d0 (by omega)
theorem lu_ok {p q n d : Int} {B : Nat} (h : LwIn p q n d B) : SeOk (Q B, Q B) (luU q n) (luD p q d) := by
  have q := Q_pos B
  refine ⟨⟨fun _ => Int.mul_nonneg (by have := h.n0; omega) (by have := h.q0; omega), fun k => luD_pos h k⟩, by show 0 < Q B; omega, Int.le_refl _, by show Q B - Q B ≤ 1; omega, fun k hk => ?_⟩
  refine Int.le_trans ?_ hk
  refine Int.mul_le_mul_of_nonneg_left ?_ (by have := h.d0; omega)
  have m := Int.mul_le_mul_of_nonneg_right (show ((k + 1 : Nat) : Int) ≤ ((k + 2 : Nat) : Int) by omega) (show 0 ≤ _ from Int.le_of_lt h.q0)
  omega
theorem lu_34 {p q n d : Int} {B : Nat} (h : LwIn p q n d B) (k : Nat) (hk : luN n d ≤ k) : 4 * luU q n (k + 1) ≤ 3 * luD p q d (k + 1) := by
  have d0 := h.d0
  have f := dv_floor2 (2 * n) d0
  have e := (lu_x h).2.1
  rw [← e] at f
  have m := Int.mul_le_mul_of_nonneg_right (show (luN n d : Int) + 1 ≤ ((k + 1 : Nat) : Int) by omega) (show 0 ≤ d by omega)
  have m2 := Int.mul_le_mul_of_nonneg_right (show 2 * n ≤ ((k + 1 : Nat) : Int) * d by omega) (show 0 ≤ q from Int.le_of_lt h.q0)
  have m3 := Int.mul_nonneg (show 0 ≤ d by omega) (show 0 ≤ p from Int.le_of_lt h.p0)
  have m4 := Int.mul_nonneg (show 0 ≤ n from Int.le_of_lt h.n0) (show 0 ≤ q from Int.le_of_lt h.q0)
  unfold luU luD
  generalize ((k + 1 : Nat) : Int) = K at *
  have r : d * (p + K * q) = d * p + K * d * q := by grind
  have r2 : 2 * n * q = 2 * (n * q) := by grind
  rw [r]
  omega
theorem lu_c {p q n d : Int} {B : Nat} (h : LwIn p q n d B) (k : Nat) : luU q n (k + 1) ≤ Q 10 * luD p q d (k + 1) := by
  have x := (lu_x h).1
  have e10 : Q 10 = 1024 := rfl
  have q0 := h.q0
  have d0 := h.d0
  have p0 := h.p0
  have m1 := Int.mul_le_mul_of_nonneg_right (show n ≤ 1024 * d by omega) (show 0 ≤ q by omega)
  have kq := Int.mul_le_mul_of_nonneg_right (show (1 : Int) ≤ ((k + 1 : Nat) : Int) by omega) (show 0 ≤ q by omega)
  have m2 := Int.mul_le_mul_of_nonneg_left (show q ≤ p + ((k + 1 : Nat) : Int) * q by omega) (show 0 ≤ d by omega)
  unfold luU luD
  rw [e10]
  have r : 1024 * d * q = 1024 * (d * q) := by grind
  omega
theorem lu_set {p q n d : Int} {B : Nat} (h : LwIn p q n d B) : ∃ N, N ≤ 70000 ∧ IsRise (luT p q n d B) (luN n d) N := by
  obtain ⟨N, h1, h2⟩ := se_set (lu_ok h) (H := B) (c := 10) (turn := luN n d) (Int.le_refl _) (by have := h.b0; omega) (lu_c h) (lu_34 h)
  have := (lu_x h).2.2
  have := h.b1
  exact ⟨N, by omega, h2⟩
theorem lu_fit {p q n d : Int} {B : Nat} (h : LwIn p q n d B) (k : Nat) (hk : k ≤ 1000000) : (sumI (luT p q n d B) k).2 + 9 ≤ Q 20461 := by
  have a := se_fit (lu_ok h) (H := B) (c := 10) (turn := luN n d) (Int.le_refl _) (by have := h.b0; omega) (lu_c h) (lu_34 h) k hk
  have := (lu_x h).2.2
  have := h.b1
  exact Int.le_trans a (Q_mono (by omega))
theorem lu_hi {p q n d : Int} {B : Nat} (h : LwIn p q n d B) (k : Nat) : (luT p q n d B k).2 ≤ Q 20461 := by
  have a := se_hi (lu_ok h) (H := B) (c := 10) (turn := luN n d) (Int.le_refl _) (by have := h.b0; omega) (lu_c h) (lu_34 h) k
  have := (lu_x h).2.2
  have := h.b1
  exact Int.le_trans a (Q_mono (by omega))
theorem lu_val {p q n d : Int} {B : Nat} (h : LwIn p q n d B) (k M : Nat) : riV (fun _ => 1) (luU q n) (luD p q d) k M = (p : Rat) / (q : Rat) * upT ((p : Rat) / (q : Rat)) ((n : Rat) / (d : Rat)) k := by
  have p0 : (0 : Rat) < (p : Rat) := by exact_mod_cast h.p0
  have q0 : (0 : Rat) < (q : Rat) := by exact_mod_cast h.q0
  have d0 : (0 : Rat) < (d : Rat) := by exact_mod_cast h.d0
  have a0 : (0 : Rat) < (p : Rat) / (q : Rat) := rdiv_pos p0 q0
  have ea := rdm (a := (p : Rat)) q0
  have ex' := rdm (a := (n : Rat)) d0
  induction k with
  | zero => rw [upT_zero a0]; rfl
  | succ k ih =>
    have pD : (0 : Rat) < (luD p q d (k + 1) : Rat) := by exact_mod_cast luD_pos h (k + 1)
    have us := upT_succ a0 ((n : Rat) / (d : Rat)) k
    have up := un_pos a0 k
    show (luU q n (k + 1) : Rat) / (luD p q d (k + 1) : Rat) * riV (fun _ => 1) (luU q n) (luD p q d) k M = _
    rw [ih]
    have eD : (luD p q d (k + 1) : Rat) = (d : Rat) * (q : Rat) * ((p : Rat) / (q : Rat) + ((k : Rat) + 1)) := by
      unfold luD
      rw [Rat.intCast_mul, Rat.intCast_add, Rat.intCast_mul]
      have : (((k + 1 : Nat) : Int) : Rat) = (k : Rat) + 1 := by push_cast; rfl
      rw [this]
      have : (d : Rat) * (q : Rat) * ((p : Rat) / (q : Rat) + ((k : Rat) + 1)) = (d : Rat) * ((p : Rat) / (q : Rat) * (q : Rat) + ((k : Rat) + 1) * (q : Rat)) := by grind
      rw [this, ea]
    have eU : (luU q n (k + 1) : Rat) = (d : Rat) * (q : Rat) * ((n : Rat) / (d : Rat)) := by
      unfold luU
      rw [Rat.intCast_mul]
      have : (d : Rat) * (q : Rat) * ((n : Rat) / (d : Rat)) = (n : Rat) / (d : Rat) * (d : Rat) * (q : Rat) := by grind
      rw [this, ex']
    have dq := Rat.mul_pos d0 q0
    have e4 := rdm (a := (luU q n (k + 1) : Rat)) pD
    generalize upT ((p : Rat) / (q : Rat)) ((n : Rat) / (d : Rat)) k = u at *
    generalize upT ((p : Rat) / (q : Rat)) ((n : Rat) / (d : Rat)) (k + 1) = u1 at *
    generalize (luU q n (k + 1) : Rat) / (luD p q d (k + 1) : Rat) = r at *
    rw [eD, eU] at e4
    generalize (p : Rat) / (q : Rat) = a at *
    generalize (n : Rat) / (d : Rat) = x at *
    generalize (d : Rat) * (q : Rat) = e at *
    refine rat_cancel (c := e * (a + ((k : Rat) + 1))) (Rat.mul_pos dq up) ?_
    have r1 : e * (a + ((k : Rat) + 1)) * (r * (a * u)) = r * (e * (a + ((k : Rat) + 1))) * (a * u) := by grind
    have r2 : e * (a + ((k : Rat) + 1)) * (a * u1) = e * a * ((a + ((k : Rat) + 1)) * u1) := by grind
    rw [r1, r2, e4, us]
    grind
def luSer (p q n d : Int) (B N : Nat) : Int × Int := riseI (luT p q n d B) N
theorem lu_has {p q n d : Int} {B N : Nat} (h : LwIn p q n d B) (hN : IsRise (luT p q n d B) (luN n d) N) : Iv B (luSer p q n d B N) (fun M => (p : Rat) / (q : Rat) * uS ((p : Rat) / (q : Rat)) ((n : Rat) / (d : Rat)) M) := by
  have r := rising_has (lu_ok h).ok (one_iv B) 0 (fun M _ => by grind) (fun k hk => lu_34 h k hk) hN
  refine Has.of_eq r fun M => ?_
  show (p : Rat) / (q : Rat) * S (upT ((p : Rat) / (q : Rat)) ((n : Rat) / (d : Rat))) M = S (fun k => riV (fun _ => 1) (luU q n) (luD p q d) k M) M
  have : ∀ m, (p : Rat) / (q : Rat) * S (upT ((p : Rat) / (q : Rat)) ((n : Rat) / (d : Rat))) m = S (fun k => riV (fun _ => 1) (luU q n) (luD p q d) k M) m := fun m => by
    induction m with
    | zero => show (p : Rat) / (q : Rat) * 0 = 0; grind
    | succ m ih =>
      show (p : Rat) / (q : Rat) * (S (upT ((p : Rat) / (q : Rat)) ((n : Rat) / (d : Rat))) m + upT ((p : Rat) / (q : Rat)) ((n : Rat) / (d : Rat)) m) = S (fun k => riV (fun _ => 1) (luU q n) (luD p q d) k M) m + riV (fun _ => 1) (luU q n) (luD p q d) m M
      rw [← ih, lu_val h m M]; grind
  exact this M
structure LwLog (L : Rat → Nat → Rat) (x : Rat) (B : Nat) (o : Int × Int) : Prop where
  le : o.1 ≤ o.2
  ab : Abs o (264 * Q B)
  wd : o.2 - o.1 ≤ 132 * (2 * (B : Int) + 14)
  iv : Iv B o (L x)
theorem lwLog_of {L : Rat → Nat → Rat} (hL : Lns L) {n d : Int} {B : Nat} (hn : 0 < n) (hd : 0 < d) (hB : 16 ≤ B) {n' d' c : Int} {N N2 : Nat} (h : Bal n d n' d' c) (c1 : -65 ≤ c) (c2 : c ≤ 65) (hN : IsStop (lnT n' d' B) N) (hN2 : IsStop (lnT 2 1 B) N2) : LwLog L ((n : Rat) / (d : Rat)) B (lnOf (doneI (lnT n' d' B) N) (doneI (lnT 2 1 B) N2) c) := by
  obtain ⟨b1, b2, b3⟩ := log_bound (k := c) h.1 hB hN hN2 65 c1 c2
  obtain ⟨l, il, iv⟩ := log_has hn hd h B N N2
  have q := Q_pos B
  refine ⟨b1, b2.mono (by omega), by omega, ?_⟩
  have nr : (0 : Rat) < (n : Rat) := by exact_mod_cast hn
  have dr : (0 : Rat) < (d : Rat) := by exact_mod_cast hd
  exact iv.congr ((hL _ (rdiv_pos nr dr)).uniq il)
structure LgP2 (x : Nat → Rat) (B : Nat) (l u : Int) : Prop where
  le : l ≤ u
  wd : u - l ≤ 20000000 * ((B : Int) * (B : Int)) + 180000000
  ab : Abs (l, u) (120000 * Q B)
  iv : Iv B (l, u) x
theorem lgam_ok2 {n d : Int} {g lp x l1 l2 : Nat → Rat} {B : Nat} {a o1 o2 o : Int × Int} (h : StIn n d) (hB0 : 40 ≤ B) (hB : B ≤ 1000) (ha : GaV g B a) (ls : LsIn a B o1 o2 l1 l2) (hp : IsLog lp (fun _ => (stP n d (stN n d) : Rat) / (stQ d (stN n d) : Rat))) (io : Iv B o lp) (k1 : LbOk B o1) (k2 : LbOk B o2) (k3 : LbOk B o) (hx : IsLog x (gmV n d g)) (hgp : ∃ c : Rat, 0 < c ∧ ∃ N : Nat, ∀ M, N ≤ M → c ≤ g M) {L : Rat → Nat → Rat} (hL : Lns L) : LgP2 x B (o1.1 + o.1) (o2.2 + o.2) := by
  have pr := lgam_ok h hB0 hB ha ls hp io k1 k2 k3 hx hgp hL
  have q := Q_pos B
  have big := QB_big hB0 hB
  have BB := Int.mul_nonneg (show (0 : Int) ≤ (B : Int) by omega) (show (0 : Int) ≤ (B : Int) by omega)
  have a0 : 0 < a.1 := by have := ha.lo; omega
  have al := ha.le
  have twice : a.2 ≤ 2 * a.1 := by
    have m := Int.mul_le_mul_of_nonneg_right big (show 0 ≤ a.2 by omega)
    have r := ha.rel
    have s : 16 * (a.2 - a.1) ≤ a.2 := by
      refine Int.le_of_mul_le_mul_right (a := Q B) ?_ (by omega)
      have r1 : 16 * (a.2 - a.1) * Q B = 16 * ((a.2 - a.1) * Q B) := by grind
      have r2 : 16 * (10000000 * ((B : Int) * (B : Int))) * a.2 = 16 * (10000000 * ((B : Int) * (B : Int)) * a.2) := by grind
      have r3 : Q B * a.2 = a.2 * Q B := Int.mul_comm _ _
      omega
    omega
  have w := ls_wide ls (C := 20000000 * ((B : Int) * (B : Int))) (by
    have m1 := Int.mul_le_mul_of_nonneg_left twice (show 0 ≤ 10000000 * ((B : Int) * (B : Int)) by omega)
    have r := ha.rel
    have r2 : 10000000 * ((B : Int) * (B : Int)) * (2 * a.1) = 20000000 * ((B : Int) * (B : Int)) * a.1 := by grind
    omega)
  have w1 := k1.wd
  have w2 := k2.wd
  have w3 := k3.wd
  obtain ⟨x1, x2, x3, x4⟩ := k1.ab
  obtain ⟨y1, y2, y3, y4⟩ := k2.ab
  obtain ⟨z1, z2, z3, z4⟩ := k3.ab
  exact ⟨pr.le, by omega, ⟨by show _ ≤ o1.1 + o.1; omega, by show o1.1 + o.1 ≤ _; omega, by show _ ≤ o2.2 + o.2; omega, by show o2.2 + o.2 ≤ _; omega⟩, pr.iv⟩
def luY (p q n d : Int) (B : Nat) (o g : Int × Int) : Int × Int := addI (subI (ofI n d B) (scaleI o p q)) g
def luW (B : Nat) : Int := 20000000 * ((B : Int) * (B : Int)) + 200000000
theorem luY_ok {L : Rat → Nat → Rat} {p q n d : Int} {B : Nat} {o : Int × Int} {l u : Int} {X : Nat → Rat} (h : LwIn p q n d B) (ho : LwLog L ((n : Rat) / (d : Rat)) B o) (hg : LgP2 X B l u) : (luY p q n d B o (l, u)).1 ≤ (luY p q n d B o (l, u)).2 ∧ (luY p q n d B o (l, u)).2 - (luY p q n d B o (l, u)).1 ≤ luW B ∧ Abs (luY p q n d B o (l, u)) (147500 * Q B) ∧ Iv B (luY p q n d B o (l, u)) (lwY L ((p : Rat) / (q : Rat)) ((n : Rat) / (d : Rat)) X) := by
  have q0 := h.q0
  have p0 := h.p0
  have d0 := h.d0
  have b0 := h.b0
  have b1 := h.b1
  have Qp := Q_pos B
  have ol := ofI_le (n := n) d0 B
  have ow := ofI_wide (n := n) d0 B
  have oa : Abs (ofI n d B) (1002 * Q B) := ofI_abs d0 B (by
      have := Int.mul_nonneg (show 0 ≤ n from Int.le_of_lt h.n0) (show 0 ≤ Q B by omega)
      have := Int.mul_nonneg (show 0 ≤ 1002 * Q B by omega) (show 0 ≤ d by omega)
      omega) (by
      have m := Int.mul_le_mul_of_nonneg_right (show n ≤ 1002 * d from Int.le_of_lt (lu_x h).1) (show 0 ≤ Q B by omega)
      have r : 1002 * d * Q B = 1002 * Q B * d := by grind
      omega)
  have sl := scaleI_le (a := o) (n := p) (d := q) ho.le q0 (by omega)
  have sw := scaleI_wide (a := o) (n := p) (d := q) (c := 100 * (o.2 - o.1)) q0 (by
    have m := Int.mul_le_mul_of_nonneg_left h.pq (show 0 ≤ o.2 - o.1 by have := ho.le; omega)
    have r : (o.2 - o.1) * (100 * q) = 100 * (o.2 - o.1) * q := by grind
    omega)
  obtain ⟨a1, a2, a3, a4⟩ := ho.ab
  have sa : Abs (scaleI o p q) (26400 * Q B) := by
    have pq := h.pq
    have t1 := abs_mul (x := o.1) (y := p) (m := 264 * Q B) (n := 100 * q) a1 a2 (by omega) pq
    have t2 := abs_mul (x := o.2) (y := p) (m := 264 * Q B) (n := 100 * q) a3 a4 (by omega) pq
    have r : 264 * Q B * (100 * q) = 26400 * Q B * q := by grind
    rw [r] at t1 t2
    have r1 := round_abs q0 t1.1 t1.2
    have r2 := round_abs q0 t2.1 t2.2
    exact ⟨r1.1, r1.2.1, r2.2.2.1, r2.2.2.2⟩
  have gl := hg.le
  have gw := hg.wd
  have wd := ho.wd
  obtain ⟨x1, x2, x3, x4⟩ := oa
  obtain ⟨y1, y2, y3, y4⟩ := sa
  obtain ⟨z1, z2, z3, z4⟩ := hg.ab
  simp only [] at z1 z2 z3 z4
  have e1 : (luY p q n d B o (l, u)).1 = (ofI n d B).1 - (scaleI o p q).2 + l := rfl
  have e2 : (luY p q n d B o (l, u)).2 = (ofI n d B).2 - (scaleI o p q).1 + u := rfl
  refine ⟨by omega, ?_, ⟨by omega, by omega, by omega, by omega⟩, ?_⟩
  · unfold luW
    omega
  · have i1 := Iv.of B (n := n) (d := d) d0
    have i2 := ho.iv.scale (n := p) (d := q) (by omega) q0
    exact Has.of_eq ((i1.sub i2).add hg.iv) fun M => rfl
theorem mulle {a b c d : Int} (h1 : a ≤ b) (h2 : c ≤ d) (h3 : 0 ≤ c) (h4 : 0 ≤ b) : a * c ≤ b * d := Int.mul_le_mul h1 h2 h3 h4
theorem lu_exD {B t : Nat} (h0 : 40 ≤ B) (h1 : B ≤ 400) (ht : t ≤ 26) : 2 * exD B (luW B) t ≤ Q B ∧ exD B (luW B) t ≤ 1000000000000000 := by
  have qt := Q_mono ht
  have e26 : Q 26 = 67108864 := rfl
  have q0 := Q_pos t
  have go : ∀ (b β k : Int), (B : Int) ≤ b → (B : Int) / 8 + 2 ≤ β → 0 ≤ β → exD B (luW B) t ≤ β * (2 * (20000000 * (b * b) + 200000000) + 536870912) + 402653184 := fun b β k hb hβ hβ0 => by
    have bb := mulle hb hb (by omega) (by omega)
    have m := mulle hβ (show 2 * luW B + 8 * Q t ≤ 2 * (20000000 * (b * b) + 200000000) + 536870912 by unfold luW; omega) (by
      have := Int.mul_nonneg (show (0 : Int) ≤ (B : Int) by omega) (show (0 : Int) ≤ (B : Int) by omega)
      unfold luW; omega) hβ0
    unfold exD
    omega
  by_cases c1 : B ≤ 40
  · have g := go 40 7 0 (by omega) (by omega) (by omega)
    have q := Q_mono h0
    have e : Q 40 = 1099511627776 := rfl
    omega
  · by_cases c2 : B ≤ 47
    · have g := go 47 7 0 (by omega) (by omega) (by omega)
      have q := Q_mono (show 41 ≤ B by omega)
      have e : Q 41 = 2199023255552 := rfl
      omega
    · by_cases c3 : B ≤ 63
      · have g := go 63 9 0 (by omega) (by omega) (by omega)
        have q := Q_mono (show 48 ≤ B by omega)
        have e : Q 48 = 281474976710656 := rfl
        omega
      · have g := go 400 52 0 (by omega) (by omega) (by omega)
        have q := Q_mono (show 60 ≤ B by omega)
        have e : Q 60 = 1152921504606846976 := rfl
        omega
def luE (p q n d : Int) (B : Nat) (o g : Int × Int) (t N : Nat) : Int × Int := sqI B (doneI (expT B (downI (luY p q n d B o g) t)) N) t
def luHi (s e : Int × Int) (B : Nat) : Int := if dvHi s.1 s.2 e.1 e.2 B ≤ Q B then dvHi s.1 s.2 e.1 e.2 B else Q B
structure LwPr (x : Nat → Rat) (B : Nat) (l u : Int) : Prop where
  lo : 0 ≤ l
  le : l ≤ u
  hi : u ≤ Q B
  wd : u - l ≤ Q 89
  iv : Iv B (l, u) x
theorem iv_le_one {B : Nat} {a : Int × Int} {x : Nat → Rat} (h : Iv B a x) (k : LeN x (fun _ => 1)) : a.1 ≤ Q B := leN_le h k (LeN.of_le 0 fun M _ => by
  have q := Qr_pos B
  have : (Q B : Rat) / (Q B : Rat) = 1 := by rw [Rat.div_def, Rat.mul_inv_cancel _ (by grind)]
  rw [this]; exact Rat.le_refl)
theorem Iv.capL {B : Nat} {a : Int × Int} {x : Nat → Rat} (h : Iv B a x) (k : LeN x (fun _ => 1)) : Iv B (a.1, if a.2 ≤ Q B then a.2 else Q B) x := by
  split
  · exact h
  · intro e he
    obtain ⟨N, hN⟩ := h e he
    obtain ⟨N0, hx⟩ := k e he
    refine ⟨N + N0, fun M hM => ?_⟩
    have g := (hN M (by omega)).1
    have g2 := hx M (by omega)
    have q := Qr_pos B
    have e1 : (Q B : Rat) / (Q B : Rat) = 1 := by rw [Rat.div_def, Rat.mul_inv_cancel _ (by grind)]
    simp only []
    rw [e1]
    constructor <;> grind
theorem part_ok {B : Nat} {s e : Int × Int} {x : Nat → Rat} {C D : Int} (hB : 40 ≤ B) (s0 : 0 ≤ s.1) (sl : s.1 ≤ s.2) (e0 : 0 < e.1) (el : e.1 ≤ e.2) (hC : 0 ≤ C) (hD : 0 ≤ D) (hC2 : C ≤ 100000000000) (hD2 : D ≤ 1000000000000000) (hDq : D ≤ Q B) (hs : (s.2 - s.1) * Q B ≤ C * s.2) (he : (e.2 - e.1) * Q B ≤ D * e.2) (iv : Iv B (dvLo s.1 s.2 e.1 e.2 B, dvHi s.1 s.2 e.1 e.2 B) x) (h1 : LeN x (fun _ => 1)) : LwPr x B (dvLo s.1 s.2 e.1 e.2 B) (luHi s e B) := by
  have q := Q_pos B
  have q40 := Q_mono hB
  have e40 : Q 40 = 1099511627776 := rfl
  obtain ⟨d1, d2⟩ := dv_pos (b := B) s0 sl e0 el
  have cap := iv.capL h1
  have le := cap.le
  have l1 := iv_le_one iv h1
  have l0 : 0 ≤ dvLo s.1 s.2 e.1 e.2 B := by rw [d1]; exact Int.ediv_nonneg (Int.mul_nonneg s0 (by omega)) (by omega)
  have hi : luHi s e B ≤ Q B := by unfold luHi; split <;> omega
  refine ⟨l0, le, hi, ?_, cap⟩
  by_cases c : B ≤ 89
  · have := Q_mono c
    omega
  · have r := dv_rel (q := Q B) (C := C) (D := D) (by omega) s0 hC hD (by omega) hDq e0 el hs sl he d1 d2
    have hh : luHi s e B ≤ dvHi s.1 s.2 e.1 e.2 B := by unfold luHi; split <;> omega
    simp only [] at l1 le
    generalize dvLo s.1 s.2 e.1 e.2 B = lo at *
    generalize dvHi s.1 s.2 e.1 e.2 B = up at *
    have q90 := Q_mono (show 60 ≤ B by omega)
    have e60 : Q 60 = 1152921504606846976 := rfl
    have e89 : Q 89 = 618970019642690137449562112 := by decide +kernel
    by_cases u0 : up ≤ 0
    · omega
    · have m := Int.mul_le_mul_of_nonneg_right (show 2 * (C + D) ≤ Q B by omega) (show 0 ≤ up by omega)
      have r1 : (up - lo) * Q B = up * Q B - lo * Q B := by grind
      have r2 : 2 * (C + D) * up = 2 * ((C + D) * up) := by grind
      have r3 : Q B * up = up * Q B := Int.mul_comm _ _
      have k1 : up ≤ 2 * lo + 4 := by
        refine Int.le_of_mul_le_mul_right (a := Q B) ?_ (by omega)
        have r4 : (2 * lo + 4) * Q B = 2 * (lo * Q B) + 4 * Q B := by grind
        omega
      have k2 := Int.mul_le_mul_of_nonneg_left (show up ≤ 3 * Q B by omega) (show 0 ≤ C + D by omega)
      have k3 : up - lo ≤ 3 * (C + D) + 2 := by
        refine Int.le_of_mul_le_mul_right (a := Q B) ?_ (by omega)
        have r4 : (3 * (C + D) + 2) * Q B = (C + D) * (3 * Q B) + 2 * Q B := by grind
        omega
      omega
theorem lw_ok {L : Rat → Nat → Rat} (hL : Lns L) {p q n d : Int} {B t N NS : Nat} {o : Int × Int} {l u : Int} {X g : Nat → Rat} (h : LwIn p q n d B) (ig : IsGam L ((p : Rat) / (q : Rat)) g) (hX : IsLog X (fun M => (p : Rat) / (q : Rat) * g M)) (ho : LwLog L ((n : Rat) / (d : Rat)) B o) (hg : LgP2 X B l u) (ht : t ≤ 26) (hA : Abs (downI (luY p q n d B o (l, u)) t) (Q (B - 8))) (hN : IsStop (expT B (downI (luY p q n d B o (l, u)) t)) N) (hS : NS ≤ 70000) (hS2 : IsRise (luT p q n d B) (luN n d) NS) :
    0 < (luE p q n d B o (l, u) t N).1 ∧ (luE p q n d B o (l, u) t N).1 ≤ (luE p q n d B o (l, u) t N).2 ∧ 0 ≤ (luSer p q n d B NS).1 ∧ (luSer p q n d B NS).1 ≤ (luSer p q n d B NS).2 ∧ LwPr (lw L ((p : Rat) / (q : Rat)) ((n : Rat) / (d : Rat)) g) B (dvLo (luSer p q n d B NS).1 (luSer p q n d B NS).2 (luE p q n d B o (l, u) t N).1 (luE p q n d B o (l, u) t N).2 B) (luHi (luSer p q n d B NS) (luE p q n d B o (l, u) t N) B) := by
  have b0 := h.b0
  have b1 := h.b1
  have qB := Q_pos B
  have pr : (0 : Rat) < (p : Rat) := by exact_mod_cast h.p0
  have qr : (0 : Rat) < (q : Rat) := by exact_mod_cast h.q0
  have nr : (0 : Rat) < (n : Rat) := by exact_mod_cast h.n0
  have dr : (0 : Rat) < (d : Rat) := by exact_mod_cast h.d0
  have a0 := rdiv_pos pr qr
  have x0 := rdiv_pos nr dr
  obtain ⟨s1, s2, s3⟩ := se_ok (lu_ok h) NS
  obtain ⟨y1, y2, y3, y4⟩ := luY_ok h ho hg
  obtain ⟨D1, D2⟩ := lu_exD b0 b1 ht
  obtain ⟨e1, e2, e3, e4, e5⟩ := exq_ok (t := t) (N := N) (by omega) y4 (lwY_nonneg hL a0 x0 ig hX) y2 hA hN D1
  have D0 : 0 ≤ exD B (luW B) t := by
    have := Q_pos t
    have := Int.mul_nonneg (show (0 : Int) ≤ (B : Int) by omega) (show (0 : Int) ≤ (B : Int) by omega)
    unfold exD luW
    have := Int.mul_nonneg (show 0 ≤ (B : Int) / 8 + 2 by omega) (show 0 ≤ 2 * (20000000 * ((B : Int) * (B : Int)) + 200000000) + 8 * Q t by omega)
    omega
  have si := lu_has h hS2
  have sl0 : 0 ≤ (luSer p q n d B NS).1 := by
    have : Q B ≤ (luSer p q n d B NS).1 := s1
    omega
  have ee : (luE p q n d B o (l, u) t N) = sqI B (doneI (expT B (downI (luY p q n d B o (l, u)) t)) N) t := rfl
  have es : luSer p q n d B NS = riseI (riT (Q B, Q B) (luU q n) (luD p q d)) NS := rfl
  rw [← ee] at e1 e2 e3 e4 e5
  rw [← es] at s1 s2 s3
  have dv := (Iv.dv si e5 sl0 (by omega)).congr (lw_quot hL a0 x0 ig hX)
  refine ⟨by omega, e2, sl0, s2, part_ok (C := (1 + 2 * (NS : Int)) * ((NS : Int) + 2) + 9) (D := exD B (luW B) t) b0 sl0 s2 (by omega) e2 ?_ D0 ?_ D2 (by omega) s3 e4 dv (lw_one x0 ig)⟩
  · have := Int.mul_nonneg (show 0 ≤ 1 + 2 * (NS : Int) by omega) (show 0 ≤ (NS : Int) + 2 by omega)
    omega
  · have := mulle (show 1 + 2 * (NS : Int) ≤ 140001 by omega) (show (NS : Int) + 2 ≤ 70002 by omega) (by omega) (by omega)
    omega
theorem lw_farI {L : Rat → Nat → Rat} (hL : Lns L) {p q n d : Int} {B : Nat} {g : Nat → Rat} (p0 : 0 < p) (q0 : 0 < q) (d0 : 0 < d) (hf : d * (2 * ((B : Int) + p / q + 1)) ≤ n) (hB : 1 ≤ B) (ig : IsGam L ((p : Rat) / (q : Rat)) g) : LwPr (lw L ((p : Rat) / (q : Rat)) ((n : Rat) / (d : Rat)) g) B (Q B - 1) (Q B) := by
  have pr : (0 : Rat) < (p : Rat) := by exact_mod_cast p0
  have qr : (0 : Rat) < (q : Rat) := by exact_mod_cast q0
  have dr : (0 : Rat) < (d : Rat) := by exact_mod_cast d0
  have a0 := rdiv_pos pr qr
  have Qp := Q_pos B
  have QR := Qr_pos B
  obtain ⟨f, hf0⟩ : ∃ f : Nat, p / q = (f : Int) := ⟨(p / q).toNat, by have := Int.ediv_nonneg (Int.le_of_lt p0) (Int.le_of_lt q0); omega⟩
  have af : (p : Rat) / (q : Rat) < (f : Rat) + 1 := by
    have k := dv_floor2 p q0
    rw [hf0] at k
    have c : (p : Rat) < (((f : Int) + 1) * q : Int) := by exact_mod_cast k
    rw [Rat.intCast_mul, Rat.intCast_add] at c
    have c1 : ((1 : Int) : Rat) = 1 := rfl
    have c2 : ((f : Int) : Rat) = (f : Rat) := rfl
    rw [c1, c2] at c
    refine Rat.lt_of_mul_lt_mul_right (c := (q : Rat)) ?_ (Rat.le_of_lt qr)
    rw [rdm qr]; exact c
  have xf : 2 * ((B : Rat) + (f : Rat) + 1) ≤ (n : Rat) / (d : Rat) := by
    refine qle_div dr ?_
    have c := cast_le hf
    rw [hf0, Rat.intCast_mul, Rat.intCast_mul, Rat.intCast_add, Rat.intCast_add] at c
    have c1 : ((1 : Int) : Rat) = 1 := rfl
    have c2 : ((f : Int) : Rat) = (f : Rat) := rfl
    have c3 : ((B : Int) : Rat) = (B : Rat) := rfl
    have c4 : ((2 : Int) : Rat) = 2 := rfl
    rw [c1, c2, c3, c4] at c
    grind
  obtain ⟨a, ha⟩ : ∃ a, a = (p : Rat) / (q : Rat) := ⟨_, rfl⟩
  obtain ⟨x, hx⟩ : ∃ x, x = (n : Rat) / (d : Rat) := ⟨_, rfl⟩
  rw [← ha] at a0 af ig ⊢
  rw [← hx] at xf ⊢
  have f0 : (0 : Rat) ≤ (f : Rat) := by exact_mod_cast Nat.zero_le f
  have B0 : (1 : Rat) ≤ (B : Rat) := by exact_mod_cast hB
  have x1 : 1 ≤ x := by grind
  have x0 : 0 < x := by grind
  have each : ∀ k : Nat, k ≤ B → 2 * (Q k : Rat) ≤ x * upT a x k := fun k => by
    induction k with
    | zero =>
      intro _
      have e := upT_zero a0 x
      have u0 := upT_nonneg a0 (Rat.le_of_lt x0) 0
      have m := Rat.mul_le_mul_of_nonneg_right (show 2 * a ≤ x by grind) u0
      have q00 : ((Q 0 : Int) : Rat) = 1 := rfl
      rw [q00]
      grind
    | succ k ih =>
      intro hk
      have i := ih (by omega)
      have e := upT_succ a0 x k
      have u0 := upT_nonneg a0 (Rat.le_of_lt x0) (k + 1)
      have kb : (k : Rat) + 1 ≤ (B : Rat) := by exact_mod_cast hk
      have m := Rat.mul_le_mul_of_nonneg_right (show 2 * (a + ((k : Rat) + 1)) ≤ x by grind) u0
      have e2 : ((Q (k + 1) : Int) : Rat) = 2 * (Q k : Rat) := by
        have : Q (k + 1) = 2 * Q k := rfl
        rw [this, Rat.intCast_mul]; rfl
      rw [e2]
      have r : 2 * (a + ((k : Rat) + 1)) * upT a x (k + 1) = 2 * ((a + ((k : Rat) + 1)) * upT a x (k + 1)) := by grind
      rw [r, e] at m
      grind
  have low := lw_far hL (k := (Q B : Rat)) a0 x1 (by grind) QR (B + 1) (fun M hM => by
    have s : ∀ j : Nat, upT a x B ≤ uS a x (B + 1 + j) := fun j => by
      induction j with
      | zero =>
        have := uS_nonneg a0 (Rat.le_of_lt x0) B
        show upT a x B ≤ uS a x (B + 1)
        rw [uS_succ]; grind
      | succ j ih =>
        have := upT_nonneg a0 (Rat.le_of_lt x0) (B + 1 + j)
        show upT a x B ≤ uS a x (B + 1 + j + 1)
        rw [uS_succ]; grind
    obtain ⟨j, rfl⟩ : ∃ j, M = B + 1 + j := ⟨M - (B + 1), by omega⟩
    have m := Rat.mul_le_mul_of_nonneg_left (s j) (Rat.le_of_lt x0)
    exact Rat.le_trans (each B (Nat.le_refl _)) m) ig
  have up := lw_one x0 ig
  have q1 := Q_mono hB
  have e1 : Q 1 = 2 := rfl
  have q89 := Q_pos 89
  refine ⟨by omega, by omega, by omega, by omega, ?_⟩
  intro e he
  obtain ⟨N1, k1⟩ := low e he
  obtain ⟨N2, k2⟩ := up e he
  refine ⟨N1 + N2, fun M hM => ?_⟩
  have c1 := k1 M (by omega)
  have c2 := k2 M (by omega)
  simp only [] at c1 c2 ⊢
  have s : ((Q B - 1 : Int) : Rat) / (Q B : Rat) = 1 - 1 / (Q B : Rat) := by
    rw [Rat.intCast_sub]
    have c1 : ((1 : Int) : Rat) = 1 := rfl
    rw [c1, Rat.div_def, Rat.div_def]
    have := Rat.mul_inv_cancel (Q B : Rat) (by grind)
    grind
  have s2 : (Q B : Rat) / (Q B : Rat) = 1 := by rw [Rat.div_def, Rat.mul_inv_cancel _ (by grind)]
  rw [s, s2]
  constructor <;> grind
end Go.Proofs.Ytgmnknmjainabab
namespace Go.Proofs.Ytgmnknmjainabab
open Go
section
variable {Pg : Program} {ops : Array Oper} {Q : Exit → Act → World → Prop} {md : Region.Mode} {S : Nat → World → Prop}
def AnyS (Pg : Program) (md : Region.Mode) (ops : Array Oper) (Q : Exit → Act → World → Prop) (S : Nat → World → Prop) : Nat → Array Bool → Act → World → Prop
  | 0, listed, a, w => Region.ready md ops listed = [] ∧ Q .normal a w
  | fuel + 1, listed, a, w =>
    (Region.ready md ops listed = [] → Q .normal a w) ∧
    ∀ i ∈ Region.ready md ops listed, wpOp Pg ops Q i (fun a' w' => S i w' ∧ AnyS Pg md ops Q S fuel (listed.setIfInBounds i true) a' w') a w
theorem AnyS.any : ∀ (fuel : Nat) (listed : Array Bool) (a : Act) (w : World), AnyS Pg md ops Q S fuel listed a w → wpAny Pg md ops Q fuel listed a w
  | 0, _, _, _, h => h
  | fuel + 1, _, _, _, h => ⟨h.1, fun i hi => wpOp_mono (fun a' w' h' => AnyS.any fuel _ a' w' h'.2) (h.2 i hi)⟩
theorem AnyS.first {i : Nat} {oi : Oper} {v : Value} {T : World → Prop} (hi : ops[i]? = some oi) (hsel : ∀ (j : Nat) (o : Oper) cs b, ops[j]? = some o → o.op ≠ .select cs b)
    (hQ : ∀ c a w, Q (.panic c) (a.put oi.dst v) w → Q (.panic c) a w) (hi' : ∀ w, T w → S i w) :
    ∀ (fuel : Nat) (listed : Array Bool) (a : Act) (w : World), (∀ j, listed.getD j true = false → waits md ops j i = true ∨ ∀ w, S j w → T w) →
      (∀ j oj, ops[j]? = some oj → j ≠ i → listed.getD j true = false → (∀ e ∈ oj.after, Region.binds md e = true → e.on ≠ i) → oi.apart ops oj = true) →
      i ∈ Region.ready md ops listed → YieldsIf Pg ops T oi v a → T w → S i w →
      AnyS Pg md ops Q S fuel (listed.setIfInBounds i true) (a.put oi.dst v) w → AnyS Pg md ops Q S (fuel + 1) listed a w := by
  intro fuel
  induction fuel with
  | zero =>
    intro listed a w hT _ hr hy hT' hS H
    refine ⟨fun h => (by rw [h] at hr; cases hr), fun j hj => ?_⟩
    by_cases hji : j = i
    · subst hji; exact hy.wpOp hi hT' ⟨hS, H⟩
    · have := ready_mono hj hji
      rw [H.1] at this
      cases this
  | succ fuel ih =>
    intro listed a w hT hfree hr hy hT' hS H
    refine ⟨fun h => (by rw [h] at hr; cases hr), fun j hj => ?_⟩
    by_cases hji : j = i
    · subst hji; exact hy.wpOp hi hT' ⟨hS, H⟩
    · have hjT : ∀ w, S j w → T w := by
        rcases hT j (mem_ready.1 hj).1 with h | h
        · exact absurd hj (fun hj => waits_not h hr hj)
        · exact h
      have h1 := H.2 j (ready_mono hj hji)
      obtain ⟨hjun, oj, hoj, hall⟩ := mem_ready.1 hj
      have hnot : ∀ e ∈ oj.after, Region.binds md e = true → e.on ≠ i := fun e he hb heq => by
        have h1 := hall e he hb
        have h0 := (mem_ready.1 hr).1
        rw [heq] at h1
        rcases Nat.lt_or_ge i listed.size with h' | h'
        · simp [h'] at h0 h1; rw [h0] at h1; cases h1
        · simp [Array.getElem?_eq_none h'] at h1
      have h2 := wpOp_putIf hoj (hfree j oj hoj hji hjun hnot) (fun cs b => hsel i oi cs b hi) (fun cs b => hsel j oj cs b hoj) hQ hy h1
      have hfree' : ∀ k ok, ops[k]? = some ok → k ≠ i → (listed.setIfInBounds j true).getD k true = false →
          (∀ e ∈ ok.after, Region.binds md e = true → e.on ≠ i) → oi.apart ops ok = true := fun k ok hk hki hun hno => by
        refine hfree k ok hk hki ?_ hno
        by_cases hjk : j = k
        · subst hjk; exact hjun
        · rw [getD_set_ne true hjk] at hun; exact hun
      have hT2 : ∀ k, (listed.setIfInBounds j true).getD k true = false → waits md ops k i = true ∨ ∀ w, S k w → T w := fun k hk => by
        refine hT k ?_
        by_cases hjk : j = k
        · subst hjk; exact hjun
        · rw [getD_set_ne true hjk] at hk; exact hk
      refine wpOp_mono (fun a' w' h3 => ⟨h3.2.1, ih (listed.setIfInBounds j true) a' w' hT2 hfree' (ready_mono hr (Ne.symm hji)) h3.1 (hjT w' h3.2.1) (hi' _ (hjT w' h3.2.1)) ?_⟩) h2
      rw [Array.setIfInBounds_comm _ _ hji]
      exact h3.2.2
theorem AnyS.take {i : Nat} {oi : Oper} {v : Value} {T : World → Prop} {fuel : Nat} {listed : Array Bool} {a : Act} {w : World} (hi : ops[i]? = some oi)
    (hs : Region.noSelect ops = true) (hf : Region.free md ops listed i = true) (hr : (Region.ready md ops listed).contains i = true)
    (hQ : ∀ c a w, Q (.panic c) (a.put oi.dst v) w → Q (.panic c) a w) (k m : Nat) (hk : ∀ j, listed.getD j true = false → j < k ∨ k + m ≤ j → ∀ w, S j w → T w) (hlate : (List.range m).all (fun j => waits md ops (k + j) i) = true)
    (hi' : ∀ w, T w → S i w) (hy : YieldsIf Pg ops T oi v a) (hTw : T w)
    (h : AnyS Pg md ops Q S fuel (listed.setIfInBounds i true) (a.put oi.dst v) w) : AnyS Pg md ops Q S (fuel + 1) listed a w :=
  AnyS.first hi (Region.noSelect_spec hs) hQ hi' fuel listed a w (fun j hj => by
    by_cases h1 : j < k ∨ k + m ≤ j
    · exact Or.inr (hk j hj h1)
    · refine Or.inl ?_
      have := (List.all_eq_true.1 hlate) (j - k) (List.mem_range.2 (by omega))
      have e : k + (j - k) = j := by omega
      rw [e] at this
      exact this) (Region.free_spec hi hf) (by simpa using hr) hy hTw (hi' _ hTw) h
theorem AnyS.one {i : Nat} {o : Oper} {fuel : Nat} {listed : Array Bool} {a : Act} {w : World} (hr : Region.ready md ops listed = [i]) (ho : ops[i]? = some o)
    (h : ∀ K' : Act → World → Prop, Shut (∀ a w, S i w → (S i w → AnyS Pg md ops Q S fuel (listed.setIfInBounds i true) a w) → K' a w) → if Region.wanted o (yielded ops a.tmps) = true then Oper.wp Pg o a w K' Q else K' (a.put o.dst undef) w) :
    AnyS Pg md ops Q S (fuel + 1) listed a w :=
  ⟨fun h0 => absurd (hr ▸ h0) (by simp), fun j hj => by
    rw [hr] at hj
    have hj' : j = i := by simpa using hj
    subst hj'
    exact wpOp_step ho (fun K' hK => h K' (fun a w hS hW => hK a w ⟨hS, hW hS⟩))⟩
theorem AnyS.last {l : Nat} {o : Oper} {fuel : Nat} {listed : Array Bool} {a : Act} {w : World} (hr : Region.ready md ops listed = [l]) (ho : ops[l]? = some o)
    (hd : Region.ready md ops (listed.setIfInBounds l true) = []) (hSl : ∀ w, S l w)
    (h : ∀ K' : Act → World → Prop, Shut (∀ a w, Q .normal a w → K' a w) → if Region.wanted o (yielded ops a.tmps) = true then Oper.wp Pg o a w K' Q else K' (a.put o.dst undef) w) :
    AnyS Pg md ops Q S (fuel + 1) listed a w :=
  ⟨fun h0 => absurd (hr ▸ h0) (by simp), fun j hj => by
    rw [hr] at hj
    have hj' : j = l := by simpa using hj
    subst hj'
    refine wpOp_step ho (fun K' hK => h K' (fun a w hW => hK a w ⟨hSl w, ?_⟩))
    cases fuel with
    | zero => exact ⟨hd, hW⟩
    | succ fuel => exact ⟨fun _ => hW, by rw [hd]; simp⟩⟩
theorem AnyS.start {id : Nat} {a : Act} {w : World} (hm : Pg.follows .mixedOrders = true)
    (h : AnyS Pg .any ops Q S ops.size (Array.replicate ops.size false) a w.drew) : (Code.region id ops true).wp Pg Q a w :=
  wp_region_any hm (AnyS.any _ _ _ _ h)
end
end Go.Proofs.Ytgmnknmjainabab
namespace Go.Proofs.Ytgmnknmjainabab
open Go.RowKit
attribute [local go_sem ↓] Go.wp_at_zero Go.wp_at_succ
structure VnC (w : World) (B : Nat) (x : Nm) : Prop where
  c : NmC w B x
  fz : ∀ o, w.frozen? ⟨B, o, none⟩ = false
theorem VnC.lt {w : World} {B : Nat} {x : Nm} (h : VnC w B x) : B < w.heap.size := h.c.lt
theorem VnC.below {w w' : World} {B : Nat} {x : Nm} (h : VnC w B x) (hb : Below w.heap.size w w') : VnC w' B x :=
  ⟨h.c.below hb, fun o => (hb.frozen (p := ⟨B, o, none⟩) h.lt).trans (h.fz o)⟩
abbrev put2w (w : World) (B : Nat) (x : Nm) : World := (w.setCell ⟨B, 0, none⟩ (.bool x.neg)).setCell ⟨B, 1, none⟩ (.slice x.a x.n x.cap)
theorem VnC.put {w : World} {B : Nat} {x : Nm} (h : VnC w B x) (y : Nm) : VnC (put2w w B y) B y := ⟨put_nm2 h.c y, put_fz2 h.fz _ _⟩
theorem VnC.off {w : World} {B B' : Nat} {x : Nm} (h : VnC w B x) (hne : B ≠ B') (y : Nm) : VnC (put2w w B' y) B x := ⟨h.c.off hne _ _, put_fz2 h.fz _ _⟩
theorem IntAt.putv {w : World} {neg : Bool} {a : Option Addr} {n cap k : Nat} {z : Int} (h : IntAt w neg a n cap k z) {B : Nat} {x : Nm} (hx : VnC w B x) (y : Nm) : IntAt (put2w w B y) neg a n cap k z := h.put2 hx.c.c0 hx.c.c1 _ _
theorem NoC.offv {w : World} {B B' : Nat} (h : NoC w B) (hne : B ≠ B') (y : Nm) : NoC (put2w w B' y) B := by
  obtain ⟨q0, q1, q2, q3, q4, q5⟩ := h
  exact ⟨by simp [go_sem, q0, hne, Ne.symm hne], by simp [go_sem, q1, hne, Ne.symm hne], by simp [go_sem, q2, hne, Ne.symm hne], by simp [go_sem, q3, hne, Ne.symm hne], by simp [go_sem, q4, hne, Ne.symm hne], put_fz2 q5 _ _⟩
theorem vnc_new (w : World) (x : Nm) (T : TypeId) : VnC (w.alloc (.cells #[.bool x.neg, .slice x.a x.n x.cap] T)) w.heap.size x := ⟨⟨by simp, by simp⟩, fun o => by simp [go_sem]⟩
structure RaSt (w wr : World) (B : Nat) (X : Nm) (p q : Int) (k : Nat) (v : Int) : Prop where
  a : RaC wr w.heap.size p q
  x : VnC wr B X
  i : IntAt wr X.neg X.a X.n X.cap k v
  no : NoC wr (w.heap.size + 1)
  be : Below w.heap.size w wr
  l : w.heap.size + 1 < B
theorem RaSt.below {w wr wr' : World} {B : Nat} {X : Nm} {p q : Int} {k : Nat} {v : Int} (h : RaSt w wr B X p q k v) (hb : Below wr.heap.size wr wr') : RaSt w wr' B X p q k v :=
  ⟨h.a.below hb, h.x.below hb, h.i.below hb, h.no.below hb, bthen h.be hb, h.l⟩
theorem RaC.offv {w : World} {B B' : Nat} {p q : Int} (h : RaC w B p q) (hne : B ≠ B') (y : Nm) : RaC (put2w w B' y) B p q := by
  obtain ⟨q0, q1⟩ := h
  constructor <;> simp [go_sem, q0, q1, hne, Ne.symm hne]
theorem RaSt.put {w wr : World} {B : Nat} {X Y : Nm} {p q : Int} {k k' : Nat} {v v' : Int} (h : RaSt w wr B X p q k v) (hy : IntAt wr Y.neg Y.a Y.n Y.cap k' v') : RaSt w (put2w wr B Y) B Y p q k' v' :=
  ⟨h.a.offv (by have := h.l; omega) Y, h.x.put Y, hy.putv h.x Y, h.no.offv (by have := h.l; omega) Y, set2 h.be (by have := h.l; omega) _ _, h.l⟩
end Go.Proofs.Ytgmnknmjainabab
namespace Go.Proofs.Ytgmnknmjainabab
open Go.RowKit
attribute [local go_sem ↓] Go.wp_at_zero Go.wp_at_succ
structure StSt (w wr : World) (BX BY : Nat) (X Y : Nm) (k : Nat) (p q : Int) : Prop where
  x : VnC wr BX X
  y : VnC wr BY Y
  ix : IntAt wr X.neg X.a X.n X.cap k p
  iy : IntAt wr Y.neg Y.a Y.n Y.cap k q
  n1 : NoI wr w.heap.size
  n2 : NoI wr (w.heap.size + 1)
  be : Below w.heap.size w wr
  l1 : w.heap.size + 1 < BX
  l2 : w.heap.size + 1 < BY
  ne : BX ≠ BY
theorem StSt.below {w wr wr' : World} {BX BY : Nat} {X Y : Nm} {k : Nat} {p q : Int} (h : StSt w wr BX BY X Y k p q) (hb : Below wr.heap.size wr wr') : StSt w wr' BX BY X Y k p q :=
  ⟨h.x.below hb, h.y.below hb, h.ix.below hb, h.iy.below hb, h.n1.below hb, h.n2.below hb, bthen h.be hb, h.l1, h.l2, h.ne⟩
theorem NoI.offs {w : World} {B B' : Nat} (h : NoI w B) (hne : B ≠ B') (y : Nm) : NoI (put2w w B' y) B := by
  obtain ⟨q0, q1, q2⟩ := h
  exact ⟨by simp [go_sem, q0, hne, Ne.symm hne], by simp [go_sem, q1, hne, Ne.symm hne], put_fz2 q2 _ _⟩
theorem StSt.put {w wr : World} {BX BY : Nat} {X Y X' Y' : Nm} {k k' : Nat} {p q p' q' : Int} (h : StSt w wr BX BY X Y k p q) (hx : IntAt wr X'.neg X'.a X'.n X'.cap k' p') (hy : IntAt wr Y'.neg Y'.a Y'.n Y'.cap k' q') : StSt w (put2w (put2w wr BX X') BY Y') BX BY X' Y' k' p' q' :=
  have x1 := h.x.put X'
  have y1 := h.y.off (Ne.symm h.ne) X'
  ⟨x1.off h.ne Y', y1.put Y', (hx.putv h.x X').putv y1 Y', (hy.putv h.x X').putv y1 Y', (h.n1.offs (by have := h.l1; omega) X').offs (by have := h.l2; omega) Y', (h.n2.offs (by have := h.l1; omega) X').offs (by have := h.l2; omega) Y', set2 (set2 h.be (by have := h.l1; omega) _ _) (by have := h.l2; omega) _ _, h.l1, h.l2, h.ne⟩
theorem st_end {w wr : World} {BX BY : Nat} {X Y : Nm} {k : Nat} {p q : Int} (h : StSt w wr BX BY X Y k p q) : IntAt (put2w (put2w wr w.heap.size X) (w.heap.size + 1) Y) X.neg X.a X.n X.cap k p ∧ IntAt (put2w (put2w wr w.heap.size X) (w.heap.size + 1) Y) Y.neg Y.a Y.n Y.cap k q ∧ Below w.heap.size w (put2w (put2w wr w.heap.size X) (w.heap.size + 1) Y) := by
  have n2 := h.n2.offs (B' := w.heap.size) (by omega) X
  obtain ⟨a0, a1, af⟩ := h.n1
  obtain ⟨b0, b1, bf⟩ := n2
  exact ⟨(h.ix.put2 a0 a1 _ _).put2 b0 b1 _ _, (h.iy.put2 a0 a1 _ _).put2 b0 b1 _ _, set2 (set2 h.be (Nat.le_refl _) _ _) (Nat.le_succ _) _ _⟩
set_option maxRecDepth 100000 in
set_option maxHeartbeats 6000000 in
theorem steps_int (w : World) (n d : Int) (h : StIn n d) (hn : n ≤ 4611686018427387904) :
    Calls Try.prog 96 #[.int .i64 n, .int .i64 d] w (fun r w' => ∃ X Y : Nm, r = .returned (.tuple #[.int .i64 (n - (stN n d : Int) * d), .agg #[.bool X.neg, .slice X.a X.n X.cap], .agg #[.bool Y.neg, .slice Y.a Y.n Y.cap]]) ∧ IntAt w' X.neg X.a X.n X.cap (4 * stN n d + 4) (stP n d (stN n d)) ∧ IntAt w' Y.neg Y.a Y.n Y.cap (4 * stN n d + 4) (stQ d (stN n d)) ∧ Below w.heap.size w w') := by
  obtain ⟨W, hW⟩ : ∃ W, W = (w.alloc (.cells #[.bool false, .slice none 0 0] 26)).alloc (.cells #[.bool false, .slice none 0 0] 26) := ⟨_, rfl⟩
  have hBW : Below w.heap.size w W := by rw [hW]; exact bl2 _ _ _
  have R1 : NoI W w.heap.size := by rw [hW]; exact (noi_new w _).below (bl1 _ _)
  have R2 : NoI W (w.heap.size + 1) := by rw [hW]; exact ⟨by simp [go_sem], by simp [go_sem], fun o => by simp [go_sem]⟩
  have d0 := h.d0
  have dd := h.dd
  have k200 := h.rest.2.2
  have H := hide h
  clear h
  go_enter Try.func96, Try.ntmps96
  go_wp2_with fail
  rw [← hW]
  clear hW
  refine (numOf_int 1 _ (by decide) (by decide)).mono ?_
  rintro r' w1 ⟨neg1, a1, n1, c1, rfl, hint1, hb1⟩
  replace R1 := R1.below hb1
  replace R2 := R2.below hb1
  replace hBW := bthen hBW hb1
  clear hb1
  go_wp2_with fail
  refine (numOf_int 1 _ (by decide) (by decide)).mono ?_
  rintro r' w2 ⟨neg2, a2, n2, c2, rfl, hint2, hb2⟩
  replace R1 := R1.below hb2
  replace R2 := R2.below hb2
  replace hBW := bthen hBW hb2
  replace hint1 := hint1.below hb2
  clear hb2
  have lR := R2.lt
  obtain ⟨V1, hV1⟩ : ∃ V1, V1 = (w2.alloc (.cells #[.bool neg1, .slice a1 n1 c1] 26)).alloc (.cells #[.bool neg2, .slice a2 n2 c2] 26) := ⟨_, rfl⟩
  have bV1 : Below w2.heap.size w2 V1 := by rw [hV1]; exact bl2 _ _ _
  have st0 : StSt w V1 w2.heap.size (w2.heap.size + 1) ⟨neg1, a1, n1, c1⟩ ⟨neg2, a2, n2, c2⟩ (4 * 0 + 4) (stP n d 0) (stQ d 0) := ⟨by rw [hV1]; exact (vnc_new w2 ⟨neg1, a1, n1, c1⟩ _).below (bl1 _ _), by rw [hV1]; exact ⟨⟨by simp [go_sem], by simp [go_sem]⟩, fun o => by simp [go_sem]⟩, hint1.below bV1, hint2.below bV1, R1.below bV1, R2.below bV1, bthen hBW bV1, lR, by omega, by omega⟩
  go_wp2_with fail
  rw [← hV1]
  clear hV1 bV1 hint1 hint2 R1 R2 hBW
  obtain ⟨BX, hBX⟩ : ∃ B, B = w2.heap.size := ⟨_, rfl⟩
  obtain ⟨BY, hBY⟩ : ∃ B', B' = w2.heap.size + 1 := ⟨_, rfl⟩
  rw [← hBY, ← hBX] at st0 ⊢
  clear hBX hBY lR
  go_loopw [0] (fun nn wr => ∃ (i : Nat) (X Y : Nm), nn = .int .i64 (n - (i : Int) * d) ∧ i ≤ stN n d ∧ StSt w wr BX BY X Y (4 * i + 4) (stP n d i) (stQ d i)) (fun nn _ => (intOf nn).toNat)
  case atStart => exact ⟨0, _, _, by simp, Nat.zero_le _, st0⟩
  case round =>
    obtain ⟨i, X, Y, rfl, hi, st⟩ := hrel
    clear st0
    have p0 := (st_at (unhide H) hi).1
    have id0 := Int.mul_nonneg (show (0 : Int) ≤ (i : Int) by omega) (show 0 ≤ d by omega)
    by_cases hin : i < stN n d
    · have hin1 : d < n - (i : Int) * d := (st_at (unhide H) hi).2 hin
      have HX := hide st.x
      have HY := hide st.y
      have HI := hide st.ix
      have HJ := hide st.iy
      have HST := hide st
      have HE1 := hide (show IntKind.i64.wrap (n - (i : Int) * d - d) = n - (i : Int) * d - d from i64_id _ (by omega) (by omega))
      have HR := hide (show -9223372036854775808 ≤ n - (i : Int) * d - d ∧ n - (i : Int) * d - d ≤ 9223372036854775807 from ⟨by omega, by omega⟩)
      clear st
      go_wp2_with fail
      have hD0 : Below wr.heap.size wr wr.drew := (Below.refl _ _).drew
      have HK7 := hide (show ∀ w', Below wr.heap.size wr w' → (w'.cell? ⟨BX, 0, none⟩ = some (.bool X.neg) ∧ w'.cell? ⟨BX, 1, none⟩ = some (.slice X.a X.n X.cap)) from fun w' hB => ⟨((unhide HX).below hB).c.c0, ((unhide HX).below hB).c.c1⟩)
      have HK8 := hide (show ∀ w', Below wr.heap.size wr w' → (w'.cell? ⟨BY, 0, none⟩ = some (.bool Y.neg) ∧ w'.cell? ⟨BY, 1, none⟩ = some (.slice Y.a Y.n Y.cap)) from fun w' hB => ⟨((unhide HY).below hB).c.c0, ((unhide HY).below hB).c.c1⟩)
      refine AnyS.start (S := fun j w' => (j = 6 ∨ j = 7 ∨ j = 10 ∨ j = 11 ∨ (w'.cell? ⟨BX, 0, none⟩ = some (.bool X.neg) ∧ w'.cell? ⟨BX, 1, none⟩ = some (.slice X.a X.n X.cap))) ∧ (j = 11 ∨ (w'.cell? ⟨BY, 0, none⟩ = some (.bool Y.neg) ∧ w'.cell? ⟨BY, 1, none⟩ = some (.slice Y.a Y.n Y.cap)))) (by kernel_rfl) ?_
      refine AnyS.take (i := 6) (oi := { dst := some 23, op := Go.Op.load 26 (Go.Operand.tmp 8), type := 26, pos := "gamma.go:37", after := #[], guard := none }) (v := .agg #[.bool Y.neg, .slice Y.a Y.n Y.cap]) (T := fun w' => w'.cell? ⟨BY, 0, none⟩ = some (.bool Y.neg) ∧ w'.cell? ⟨BY, 1, none⟩ = some (.slice Y.a Y.n Y.cap)) rfl (by kernel_rfl) (by kernel_rfl) (by kernel_rfl) (fun _ _ _ h => h) 11 1 (fun j hl hj w h => h.2.elim (fun e => absurd e (by omega)) id) (by kernel_rfl) (fun w h => ⟨Or.inl rfl, Or.inr h⟩) (Or.inl ⟨by rfl, fun w hSw => ?_⟩) (unhide HK8 _ hD0) ?_
      · obtain ⟨s0, s1⟩ := hSw; go_simp
      try simp only [Act.put, List.setIfInBounds_toArray, List.set_cons_zero, List.set_cons_succ]
      refine AnyS.take (i := 7) (oi := { dst := some 24, op := Go.Op.move (Go.Operand.tmp 1), type := 3, pos := "gamma.go:37", after := #[], guard := none }) (v := .int .i64 d) (T := fun w' => w'.cell? ⟨BY, 0, none⟩ = some (.bool Y.neg) ∧ w'.cell? ⟨BY, 1, none⟩ = some (.slice Y.a Y.n Y.cap)) rfl (by kernel_rfl) (by kernel_rfl) (by kernel_rfl) (fun _ _ _ h => h) 11 1 (fun j hl hj w h => h.2.elim (fun e => absurd e (by omega)) id) (by kernel_rfl) (fun w h => ⟨Or.inr (Or.inl rfl), Or.inr h⟩) (Or.inl ⟨by rfl, fun w hSw => ?_⟩) (unhide HK8 _ hD0) ?_
      · go_simp
      try simp only [Act.put, List.setIfInBounds_toArray, List.set_cons_zero, List.set_cons_succ]
      refine AnyS.take (i := 0) (oi := { dst := some 17, op := Go.Op.load 26 (Go.Operand.tmp 7), type := 26, pos := "gamma.go:37", after := #[], guard := none }) (v := .agg #[.bool X.neg, .slice X.a X.n X.cap]) (T := fun w' => (w'.cell? ⟨BX, 0, none⟩ = some (.bool X.neg) ∧ w'.cell? ⟨BX, 1, none⟩ = some (.slice X.a X.n X.cap)) ∧ (w'.cell? ⟨BY, 0, none⟩ = some (.bool Y.neg) ∧ w'.cell? ⟨BY, 1, none⟩ = some (.slice Y.a Y.n Y.cap))) rfl (by kernel_rfl) (by kernel_rfl) (by kernel_rfl) (fun _ _ _ h => h) 10 2 (fun j hl hj w h => ⟨h.1.elim (fun e => absurd hl (by rw [e]; decide)) (fun h => h.elim (fun e => absurd hl (by rw [e]; decide)) (fun h => h.elim (fun e => absurd e (by omega)) (fun h => h.elim (fun e => absurd e (by omega)) id))), h.2.elim (fun e => absurd e (by omega)) id⟩) (by kernel_rfl) (fun w h => ⟨Or.inr (Or.inr (Or.inr (Or.inr h.1))), Or.inr h.2⟩) (Or.inl ⟨by rfl, fun w hSw => ?_⟩) ⟨unhide HK7 _ hD0, unhide HK8 _ hD0⟩ ?_
      · obtain ⟨⟨s0, s1⟩, _⟩ := hSw; go_simp
      try simp only [Act.put, List.setIfInBounds_toArray, List.set_cons_zero, List.set_cons_succ]
      refine AnyS.take (i := 1) (oi := { dst := some 18, op := Go.Op.move (Go.Operand.tmp 0), type := 3, pos := "gamma.go:37", after := #[], guard := none }) (v := .int .i64 (n - (i : Int) * d)) (T := fun w' => (w'.cell? ⟨BX, 0, none⟩ = some (.bool X.neg) ∧ w'.cell? ⟨BX, 1, none⟩ = some (.slice X.a X.n X.cap)) ∧ (w'.cell? ⟨BY, 0, none⟩ = some (.bool Y.neg) ∧ w'.cell? ⟨BY, 1, none⟩ = some (.slice Y.a Y.n Y.cap))) rfl (by kernel_rfl) (by kernel_rfl) (by kernel_rfl) (fun _ _ _ h => h) 10 2 (fun j hl hj w h => ⟨h.1.elim (fun e => absurd hl (by rw [e]; decide)) (fun h => h.elim (fun e => absurd hl (by rw [e]; decide)) (fun h => h.elim (fun e => absurd e (by omega)) (fun h => h.elim (fun e => absurd e (by omega)) id))), h.2.elim (fun e => absurd e (by omega)) id⟩) (by kernel_rfl) (fun w h => ⟨Or.inr (Or.inr (Or.inr (Or.inr h.1))), Or.inr h.2⟩) (Or.inl ⟨by rfl, fun w hSw => ?_⟩) ⟨unhide HK7 _ hD0, unhide HK8 _ hD0⟩ ?_
      · go_simp
      try simp only [Act.put, List.setIfInBounds_toArray, List.set_cons_zero, List.set_cons_succ]
      refine AnyS.take (i := 2) (oi := { dst := some 19, op := Go.Op.move (Go.Operand.tmp 1), type := 3, pos := "gamma.go:37", after := #[], guard := none }) (v := .int .i64 d) (T := fun w' => (w'.cell? ⟨BX, 0, none⟩ = some (.bool X.neg) ∧ w'.cell? ⟨BX, 1, none⟩ = some (.slice X.a X.n X.cap)) ∧ (w'.cell? ⟨BY, 0, none⟩ = some (.bool Y.neg) ∧ w'.cell? ⟨BY, 1, none⟩ = some (.slice Y.a Y.n Y.cap))) rfl (by kernel_rfl) (by kernel_rfl) (by kernel_rfl) (fun _ _ _ h => h) 10 2 (fun j hl hj w h => ⟨h.1.elim (fun e => absurd hl (by rw [e]; decide)) (fun h => h.elim (fun e => absurd hl (by rw [e]; decide)) (fun h => h.elim (fun e => absurd e (by omega)) (fun h => h.elim (fun e => absurd e (by omega)) id))), h.2.elim (fun e => absurd e (by omega)) id⟩) (by kernel_rfl) (fun w h => ⟨Or.inr (Or.inr (Or.inr (Or.inr h.1))), Or.inr h.2⟩) (Or.inl ⟨by rfl, fun w hSw => ?_⟩) ⟨unhide HK7 _ hD0, unhide HK8 _ hD0⟩ ?_
      · go_simp
      try simp only [Act.put, List.setIfInBounds_toArray, List.set_cons_zero, List.set_cons_succ]
      refine AnyS.take (i := 3) (oi := { dst := some 20, op := Go.Op.binOp Go.BinOp.sub 3 (Go.Operand.tmp 18) (Go.Operand.tmp 19) 3, type := 3, pos := "gamma.go:37", after := #[{ on := 1, ground := Go.Ground.data }, { on := 2, ground := Go.Ground.data }], guard := none }) (v := .int .i64 (n - (i : Int) * d - d)) (T := fun w' => (w'.cell? ⟨BX, 0, none⟩ = some (.bool X.neg) ∧ w'.cell? ⟨BX, 1, none⟩ = some (.slice X.a X.n X.cap)) ∧ (w'.cell? ⟨BY, 0, none⟩ = some (.bool Y.neg) ∧ w'.cell? ⟨BY, 1, none⟩ = some (.slice Y.a Y.n Y.cap))) rfl (by kernel_rfl) (by kernel_rfl) (by kernel_rfl) (fun _ _ _ h => h) 10 2 (fun j hl hj w h => ⟨h.1.elim (fun e => absurd hl (by rw [e]; decide)) (fun h => h.elim (fun e => absurd hl (by rw [e]; decide)) (fun h => h.elim (fun e => absurd e (by omega)) (fun h => h.elim (fun e => absurd e (by omega)) id))), h.2.elim (fun e => absurd e (by omega)) id⟩) (by kernel_rfl) (fun w h => ⟨Or.inr (Or.inr (Or.inr (Or.inr h.1))), Or.inr h.2⟩) (Or.inl ⟨by rfl, fun w hSw => ?_⟩) ⟨unhide HK7 _ hD0, unhide HK8 _ hD0⟩ ?_
      · go_simp; rw [unhide HE1]
      try simp only [Act.put, List.setIfInBounds_toArray, List.set_cons_zero, List.set_cons_succ]
      refine AnyS.one (i := 4) (o := { dst := some 21, op := Go.Op.call { callee := Go.Callee.value (Go.Operand.func 48), args := #[Go.Operand.tmp 20], argTypes := #[3] }, type := 26, pos := "gamma.go:37", after := #[{ on := 3, ground := Go.Ground.data }], guard := none }) (by kernel_rfl) rfl (fun Kc hKc => ?_)
      go_simp
      refine (numOf_int (n - (i : Int) * d - d) _ (unhide HR).1 (unhide HR).2).mono ?_
      rintro r' w1 ⟨neg1, a1, n1, c1, rfl, hint1, hb1⟩
      have hD1 := bthen hD0 hb1
      clear hb1
      go_wp2_with fail
      refine hKc.out _ _ ⟨Or.inr (Or.inr (Or.inr (Or.inr (unhide HK7 _ hD1)))), Or.inr (unhide HK8 _ hD1)⟩ (fun _ => ?_)
      clear hKc Kc
      try simp only [Act.put, List.setIfInBounds_toArray, List.set_cons_zero, List.set_cons_succ]
      refine AnyS.one (i := 5) (o := { dst := some 22, op := Go.Op.call { callee := Go.Callee.value (Go.Operand.func 84), args := #[Go.Operand.tmp 17, Go.Operand.tmp 21], argTypes := #[26, 26] }, type := 26, pos := "gamma.go:37", after := #[{ on := 0, ground := Go.Ground.data }, { on := 4, ground := Go.Ground.data }, { on := 4, ground := Go.Ground.chain }], guard := none }) (by kernel_rfl) rfl (fun Kc hKc => ?_)
      go_simp
      refine (mul_int _ _ _ _ _ _ _ _ (4 * i + 4) 4 (stP n d i) (n - (i : Int) * d - d) _ ((unhide HI).below hD1) hint1 (by omega) (by omega)).mono ?_
      rintro r' w2 ⟨neg2, a2, n2, c2, rfl, hint2, hb2⟩
      have hD2 := bthen hD1 hb2
      clear hb2 hint1
      go_wp2_with fail
      refine hKc.out _ _ ⟨Or.inr (Or.inr (Or.inr (Or.inr (unhide HK7 _ hD2)))), Or.inr (unhide HK8 _ hD2)⟩ (fun _ => ?_)
      clear hKc Kc
      try simp only [Act.put, List.setIfInBounds_toArray, List.set_cons_zero, List.set_cons_succ]
      refine AnyS.one (i := 8) (o := { dst := some 25, op := Go.Op.call { callee := Go.Callee.value (Go.Operand.func 48), args := #[Go.Operand.tmp 24], argTypes := #[3] }, type := 26, pos := "gamma.go:37", after := #[{ on := 7, ground := Go.Ground.data }, { on := 5, ground := Go.Ground.chain }], guard := none }) (by kernel_rfl) rfl (fun Kc hKc => ?_)
      go_simp
      refine (numOf_int d _ (by omega) (by omega)).mono ?_
      rintro r' w3 ⟨neg3, a3, n3, c3, rfl, hint3, hb3⟩
      have hD3 := bthen hD2 hb3
      replace hint2 := hint2.below hb3
      clear hb3
      go_wp2_with fail
      refine hKc.out _ _ ⟨Or.inr (Or.inr (Or.inr (Or.inr (unhide HK7 _ hD3)))), Or.inr (unhide HK8 _ hD3)⟩ (fun _ => ?_)
      clear hKc Kc
      try simp only [Act.put, List.setIfInBounds_toArray, List.set_cons_zero, List.set_cons_succ]
      refine AnyS.one (i := 9) (o := { dst := some 26, op := Go.Op.call { callee := Go.Callee.value (Go.Operand.func 84), args := #[Go.Operand.tmp 23, Go.Operand.tmp 25], argTypes := #[26, 26] }, type := 26, pos := "gamma.go:37", after := #[{ on := 6, ground := Go.Ground.data }, { on := 8, ground := Go.Ground.data }, { on := 8, ground := Go.Ground.chain }], guard := none }) (by kernel_rfl) rfl (fun Kc hKc => ?_)
      go_simp
      refine (mul_int _ _ _ _ _ _ _ _ (4 * i + 4) 4 (stQ d i) d _ ((unhide HJ).below hD3) hint3 (by omega) (by omega)).mono ?_
      rintro r' w4 ⟨neg4, a4, n4, c4, rfl, hint4, hb4⟩
      have hD4 := bthen hD3 hb4
      replace hint2 := hint2.below hb4
      clear hb4 hint3
      go_wp2_with fail
      refine hKc.out _ _ ⟨Or.inr (Or.inr (Or.inr (Or.inr (unhide HK7 _ hD4)))), Or.inr (unhide HK8 _ hD4)⟩ (fun _ => ?_)
      clear hKc Kc
      try simp only [Act.put, List.setIfInBounds_toArray, List.set_cons_zero, List.set_cons_succ]
      have VX := (unhide HX).below hD4
      have VY := (unhide HY).below hD4
      have lX := VX.lt
      have lY := VY.lt
      have VY2 : VnC (put2w w4 BX ⟨neg2, a2, n2, c2⟩) BY Y := VY.off (Ne.symm (unhide HST).ne) ⟨neg2, a2, n2, c2⟩
      unfold put2w at VY2
      obtain ⟨⟨z0, z1⟩, zf⟩ := VX
      refine AnyS.one (i := 10) (o := { dst := none, op := Go.Op.store 26 (Go.Operand.tmp 7) (Go.Operand.tmp 22), type := 0, pos := "gamma.go:37", after := #[{ on := 5, ground := Go.Ground.data }, { on := 9, ground := Go.Ground.chain }, { on := 0, ground := Go.Ground.phase }, { on := 1, ground := Go.Ground.phase }, { on := 2, ground := Go.Ground.phase }, { on := 3, ground := Go.Ground.phase }, { on := 4, ground := Go.Ground.phase }, { on := 5, ground := Go.Ground.phase }, { on := 6, ground := Go.Ground.textOnly Go.Departure.lateStores }, { on := 7, ground := Go.Ground.textOnly Go.Departure.lateStores }, { on := 8, ground := Go.Ground.textOnly Go.Departure.lateStoresUnsure }, { on := 9, ground := Go.Ground.textOnly Go.Departure.lateStoresUnsure }], guard := none }) (by kernel_rfl) rfl (fun Kc hKc => ?_)
      go_simp
      refine hKc.out _ _ ⟨Or.inr (Or.inr (Or.inl rfl)), Or.inr ⟨VY2.c.c0, VY2.c.c1⟩⟩ (fun _ => ?_)
      clear hKc Kc z0 z1 zf
      try simp only [Act.put, List.setIfInBounds_toArray, List.set_cons_zero, List.set_cons_succ]
      have lY2 := VY2.lt
      obtain ⟨⟨z0, z1⟩, zf⟩ := VY2
      refine AnyS.last (o := { dst := none, op := Go.Op.store 26 (Go.Operand.tmp 8) (Go.Operand.tmp 26), type := 0, pos := "gamma.go:37", after := #[{ on := 9, ground := Go.Ground.data }, { on := 10, ground := Go.Ground.chain }, { on := 0, ground := Go.Ground.phase }, { on := 1, ground := Go.Ground.phase }, { on := 2, ground := Go.Ground.phase }, { on := 3, ground := Go.Ground.phase }, { on := 4, ground := Go.Ground.phase }, { on := 5, ground := Go.Ground.phase }, { on := 6, ground := Go.Ground.phase }, { on := 7, ground := Go.Ground.phase }, { on := 8, ground := Go.Ground.phase }, { on := 9, ground := Go.Ground.phase }, { on := 10, ground := Go.Ground.phase }], guard := none }) (by kernel_rfl) rfl (by kernel_rfl) (fun _ => ⟨Or.inr (Or.inr (Or.inr (Or.inl rfl))), Or.inl rfl⟩) (fun Kc hKc => ?_)
      go_simp
      refine hKc.out _ _ ?_
      clear hKc Kc z0 z1 zf HK7 HK8
      have stn := ((unhide HST).below hD4).put (X' := ⟨neg2, a2, n2, c2⟩) (Y' := ⟨neg4, a4, n4, c4⟩) hint2 hint4
      unfold put2w at stn
      have e1 : stP n d i * (n - (i : Int) * d - d) = stP n d (i + 1) := by
        show _ = stP n d i * (n - ((i : Int) + 1) * d)
        congr 1; grind
      have e2 : stQ d i * d = stQ d (i + 1) := rfl
      have e3 : n - (i : Int) * d - d = n - ((i + 1 : Nat) : Int) * d := by
        have : ((i + 1 : Nat) : Int) = (i : Int) + 1 := by omega
        rw [this]; grind
      rw [e1, e2, show 4 * i + 4 + 4 = 4 * (i + 1) + 4 by omega] at stn
      have E3 := hide e3
      clear e1 e2 e3
      go_wp2_with fail
      go_roundw
      case rel => exact ⟨i + 1, _, _, congrArg _ (unhide E3), by omega, stn⟩
      case measure => simp [intOf]; omega
    · have hin1 : ¬ d < n - (i : Int) * d := by
        have := (unhide H).rest.2.1
        have e : i = stN n d := by omega
        rw [e]; omega
      have hik : i = stN n d := by omega
      subst hik
      have lX := st.x.lt
      have lY := st.y.lt
      have q1 := st.n1
      have q2 := st.n2
      have l1 := st.l1
      have l2 := st.l2
      have lq1 := q1.lt
      have lq2 := q2.lt
      have HST := hide st
      obtain ⟨⟨x0, x1⟩, xf⟩ := st.x
      obtain ⟨⟨y0, y1⟩, yf⟩ := st.y
      obtain ⟨q10, q11, q1f⟩ := q1
      obtain ⟨q20, q21, q2f⟩ := q2
      clear st
      have m1 : w.heap.size ≠ BX := by omega
      have m2 : w.heap.size ≠ BY := by omega
      have m3 : w.heap.size + 1 ≠ BX := by omega
      have m4 : w.heap.size + 1 ≠ BY := by omega
      go_wp2_with fail
      have HE := st_end (unhide HST)
      unfold put2w at HE
      go_region
      all_goals
        go_wp2_with fail
        refine bodyPost_ret (v := .tuple #[.int .i64 (n - (stN n d : Int) * d), .agg #[.bool X.neg, .slice X.a X.n X.cap], .agg #[.bool Y.neg, .slice Y.a Y.n Y.cap]]) (by simp [results, Try.results96, go_sem, q10, q11, q20, q21]) rfl ⟨X, Y, rfl, ?_, ?_, ?_⟩
        · exact HE.1.below (Below.refl _ _).drew
        · exact HE.2.1.below (Below.refl _ _).drew
        · exact HE.2.2.drew
end Go.Proofs.Ytgmnknmjainabab
