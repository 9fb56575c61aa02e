/-
  Texts PurI, ExpI, ExpW, LogI, LowI, NearI, NearJ, DivA: what they hold is told in the last text.
-/
import Derived.Test.YtgmnknmjainababK10
set_option linter.unnecessarySimpa false
set_option linter.unusedSimpArgs false
set_option linter.unusedVariables false
namespace Go.Proofs.Ytgmnknmjainabab
open Ex
theorem least4 (a b c d : Int) : leastZ (pr4 a b c d) 3 ≤ a ∧ leastZ (pr4 a b c d) 3 ≤ b ∧ leastZ (pr4 a b c d) 3 ≤ c ∧ leastZ (pr4 a b c d) 3 ≤ d ∧ (leastZ (pr4 a b c d) 3 = a ∨ leastZ (pr4 a b c d) 3 = b ∨ leastZ (pr4 a b c d) 3 = c ∨ leastZ (pr4 a b c d) 3 = d) := by
  simp only [leastZ, pr4]; simp; repeat' split
  all_goals omega
theorem greatest4 (a b c d : Int) : a ≤ mostZ (pr4 a b c d) 3 ∧ b ≤ mostZ (pr4 a b c d) 3 ∧ c ≤ mostZ (pr4 a b c d) 3 ∧ d ≤ mostZ (pr4 a b c d) 3 ∧ (mostZ (pr4 a b c d) 3 = a ∨ mostZ (pr4 a b c d) 3 = b ∨ mostZ (pr4 a b c d) 3 = c ∨ mostZ (pr4 a b c d) 3 = d) := by
  simp only [mostZ, pr4]; simp; repeat' split
  all_goals omega
def mulI (B : Nat) (a b : Int × Int) : Int × Int := (leastZ (pr4 (a.1 * b.1) (a.1 * b.2) (a.2 * b.1) (a.2 * b.2)) 3 / Q B, -(-(mostZ (pr4 (a.1 * b.1) (a.1 * b.2) (a.2 * b.1) (a.2 * b.2)) 3) / Q B))
def addI (a b : Int × Int) : Int × Int := (a.1 + b.1, a.2 + b.2)
def subI (a b : Int × Int) : Int × Int := (a.1 - b.2, a.2 - b.1)
def scaleI (a : Int × Int) (n d : Int) : Int × Int := (a.1 * n / d, -(-(a.2 * n) / d))
def timesI (a : Int × Int) (n : Int) : Int × Int := (a.1 * n, a.2 * n)
def reachI (a : Int × Int) : Int := maxZ a.2 (-a.1)
def ofI (n d : Int) (B : Nat) : Int × Int := (n * Q B / d, -(-(n * Q B) / d))
def downI (a : Int × Int) (t : Nat) : Int × Int := (a.1 / Q t, -(-a.2 / Q t))
def sumI (f : Nat → Int × Int) : Nat → Int × Int
  | 0 => f 0
  | n + 1 => addI (sumI f n) (f (n + 1))
def IsStop (f : Nat → Int × Int) (N : Nat) : Prop := reachI (f N) ≤ 1 ∧ ∀ n, n < N → 1 < reachI (f n)
def doneI (f : Nat → Int × Int) (N : Nat) : Int × Int := addI (sumI f N) (-reachI (f N), reachI (f N))
def sqI (B : Nat) (a : Int × Int) : Nat → Int × Int
  | 0 => a
  | t + 1 => mulI B (sqI B a t) (sqI B a t)
def Abs (a : Int × Int) (m : Int) : Prop := -m ≤ a.1 ∧ a.1 ≤ m ∧ -m ≤ a.2 ∧ a.2 ≤ m
theorem reach_abs {a : Int × Int} (h : a.1 ≤ a.2) : Abs a (reachI a) := by
  unfold Abs reachI maxZ; split <;> omega
theorem abs_reach {a : Int × Int} {m : Int} (h : Abs a m) : reachI a ≤ m := by
  obtain ⟨h1, h2, h3, h4⟩ := h
  unfold reachI maxZ; split <;> omega
theorem Abs.nonneg {a : Int × Int} {m : Int} (h : Abs a m) : 0 ≤ m := by obtain ⟨h1, h2, h3, h4⟩ := h; omega
theorem Abs.mono {a : Int × Int} {m n : Int} (h : Abs a m) (k : m ≤ n) : Abs a n := by obtain ⟨h1, h2, h3, h4⟩ := h; exact ⟨by omega, by omega, by omega, by omega⟩
theorem Abs.add {a b : Int × Int} {m n : Int} (h : Abs a m) (k : Abs b n) : Abs (addI a b) (m + n) := by
  obtain ⟨h1, h2, h3, h4⟩ := h
  obtain ⟨k1, k2, k3, k4⟩ := k
  refine ⟨?_, ?_, ?_, ?_⟩ <;> simp only [addI] <;> omega
theorem abs_mul {x y m n : Int} (h1 : -m ≤ x) (h2 : x ≤ m) (k1 : -n ≤ y) (k2 : y ≤ n) : -(m * n) ≤ x * y ∧ x * y ≤ m * n := by
  have p1 := Int.mul_nonneg (show 0 ≤ m - x by omega) (show 0 ≤ n + y by omega)
  have p2 := Int.mul_nonneg (show 0 ≤ m + x by omega) (show 0 ≤ n - y by omega)
  have p3 := Int.mul_nonneg (show 0 ≤ m - x by omega) (show 0 ≤ n - y by omega)
  have p4 := Int.mul_nonneg (show 0 ≤ m + x by omega) (show 0 ≤ n + y by omega)
  constructor <;> grind
theorem round_abs {x m q : Int} (hq : 0 < q) (h1 : -(m * q) ≤ x) (h2 : x ≤ m * q) : -m ≤ x / q ∧ x / q ≤ m ∧ -m ≤ -(-x / q) ∧ -(-x / q) ≤ m := by
  have a1 : -m ≤ x / q := by rw [Int.le_ediv_iff_mul_le hq, Int.neg_mul]; exact h1
  have a2 : -m ≤ -x / q := by rw [Int.le_ediv_iff_mul_le hq, Int.neg_mul]; omega
  have a3 := flo_le x q hq
  have a4 := ceil_ge x q hq
  refine ⟨a1, ?_, ?_, by omega⟩
  · refine Int.not_lt.1 fun hn => ?_
    have := Int.mul_le_mul_of_nonneg_right (show m + 1 ≤ x / q by omega) (show 0 ≤ q by omega)
    rw [Int.add_mul] at this; omega
  · refine Int.not_lt.1 fun hn => ?_
    have := Int.mul_le_mul_of_nonneg_right (show -(-x / q) ≤ -m - 1 by omega) (show 0 ≤ q by omega)
    have e : (-m - 1) * q = -(m * q) - q := by grind
    rw [e] at this; omega
theorem mulI_abs {B : Nat} {a b : Int × Int} {m n p : Int} (h : Abs a m) (k : Abs b n) (hp : m * n ≤ p * Q B) : Abs (mulI B a b) p := by
  obtain ⟨h1, h2, h3, h4⟩ := h
  obtain ⟨k1, k2, k3, k4⟩ := k
  have q := Q_pos B
  have c1 := abs_mul h1 h2 k1 k2
  have c2 := abs_mul h1 h2 k3 k4
  have c3 := abs_mul h3 h4 k1 k2
  have c4 := abs_mul h3 h4 k3 k4
  have l := (least4 (a.1 * b.1) (a.1 * b.2) (a.2 * b.1) (a.2 * b.2)).2.2.2.2
  have g := (greatest4 (a.1 * b.1) (a.1 * b.2) (a.2 * b.1) (a.2 * b.2)).2.2.2.2
  have r1 := round_abs (x := leastZ (pr4 (a.1 * b.1) (a.1 * b.2) (a.2 * b.1) (a.2 * b.2)) 3) (m := p) (show 0 < Q B by omega) (by omega) (by omega)
  have r2 := round_abs (x := mostZ (pr4 (a.1 * b.1) (a.1 * b.2) (a.2 * b.1) (a.2 * b.2)) 3) (m := p) (show 0 < Q B by omega) (by omega) (by omega)
  exact ⟨r1.1, r1.2.1, r2.2.2.1, r2.2.2.2⟩
theorem mulI_le (B : Nat) {a b : Int × Int} : (mulI B a b).1 ≤ (mulI B a b).2 := by
  have q := Q_pos B
  have l := least4 (a.1 * b.1) (a.1 * b.2) (a.2 * b.1) (a.2 * b.2)
  have g := greatest4 (a.1 * b.1) (a.1 * b.2) (a.2 * b.1) (a.2 * b.2)
  simp only [mulI]
  have a1 := flo_le (leastZ (pr4 (a.1 * b.1) (a.1 * b.2) (a.2 * b.1) (a.2 * b.2)) 3) (Q B) (by omega)
  have a2 := ceil_ge (mostZ (pr4 (a.1 * b.1) (a.1 * b.2) (a.2 * b.1) (a.2 * b.2)) 3) (Q B) (by omega)
  refine Int.not_lt.1 fun hn => ?_
  have := Int.mul_lt_mul_of_pos_right hn (show 0 < Q B by omega)
  omega
theorem scaleI_abs {a : Int × Int} {m n d : Int} (h : Abs a m) (hd : 0 < d) (hn : 0 ≤ n) (hnd : n ≤ d) : Abs (scaleI a n d) m := by
  have m0 := h.nonneg
  obtain ⟨h1, h2, h3, h4⟩ := h
  have p := Int.mul_nonneg m0 (show 0 ≤ d - n by omega)
  have c1 := abs_mul h1 h2 (show -n ≤ n by omega) (Int.le_refl n)
  have c2 := abs_mul h3 h4 (show -n ≤ n by omega) (Int.le_refl n)
  rw [Int.mul_sub] at p
  have r1 := round_abs (x := a.1 * n) (m := m) hd (by omega) (by omega)
  have r2 := round_abs (x := a.2 * n) (m := m) hd (by omega) (by omega)
  exact ⟨r1.1, r1.2.1, r2.2.2.1, r2.2.2.2⟩
theorem scaleI_le {a : Int × Int} {n d : Int} (h : a.1 ≤ a.2) (hd : 0 < d) (hn : 0 ≤ n) : (scaleI a n d).1 ≤ (scaleI a n d).2 := by
  simp only [scaleI]
  have a1 := flo_le (a.1 * n) d hd
  have a2 := ceil_ge (a.2 * n) d hd
  have a3 := Int.mul_le_mul_of_nonneg_right h hn
  refine Int.not_lt.1 fun hn => ?_
  have := Int.mul_lt_mul_of_pos_right hn hd
  omega
theorem corner_wide {x y x' y' a1 a2 b1 b2 m n : Int} (hx : x = a1 ∨ x = a2) (hy : y = b1 ∨ y = b2) (hx' : x' = a1 ∨ x' = a2) (hy' : y' = b1 ∨ y' = b2)
    (ha : a1 ≤ a2) (hb : b1 ≤ b2) (h1 : -m ≤ a1) (h2 : a1 ≤ m) (h3 : -m ≤ a2) (h4 : a2 ≤ m) (k1 : -n ≤ b1) (k2 : b1 ≤ n) (k3 : -n ≤ b2) (k4 : b2 ≤ n) :
    x * y - x' * y' ≤ m * (b2 - b1) + n * (a2 - a1) := by
  have e : x * y - x' * y' = x * (y - y') + (x - x') * y' := by grind
  rw [e]
  have c1 : -m ≤ x ∧ x ≤ m := by rcases hx with h | h <;> subst h <;> exact ⟨by assumption, by assumption⟩
  have c2 : -n ≤ y' ∧ y' ≤ n := by rcases hy' with h | h <;> subst h <;> exact ⟨by assumption, by assumption⟩
  have d1 : -(b2 - b1) ≤ y - y' ∧ y - y' ≤ b2 - b1 := by rcases hy with h | h <;> rcases hy' with h' | h' <;> omega
  have d2 : -(a2 - a1) ≤ x - x' ∧ x - x' ≤ a2 - a1 := by rcases hx with h | h <;> rcases hx' with h' | h' <;> omega
  have g1 := (abs_mul c1.1 c1.2 d1.1 d1.2).2
  have g2 := (abs_mul d2.1 d2.2 c2.1 c2.2).2
  rw [Int.mul_comm n]
  omega
theorem div_wide {x y q c : Int} (hq : 0 < q) (h : x - y ≤ c * q) : -(-x / q) - y / q ≤ c + 1 := by
  have a1 := ceil_lt x q hq
  have a2 := flo_gt y q hq
  refine Int.not_lt.1 fun hn => ?_
  have := Int.mul_le_mul_of_nonneg_right (show c + 2 ≤ -(-x / q) - y / q by omega) (show 0 ≤ q by omega)
  rw [Int.sub_mul, Int.add_mul] at this
  omega
theorem mulI_wide {B : Nat} {a b : Int × Int} {m n c : Int} (h : Abs a m) (k : Abs b n) (ha : a.1 ≤ a.2) (hb : b.1 ≤ b.2) (hc : m * (b.2 - b.1) + n * (a.2 - a.1) ≤ c * Q B) : (mulI B a b).2 - (mulI B a b).1 ≤ c + 1 := by
  obtain ⟨h1, h2, h3, h4⟩ := h
  obtain ⟨k1, k2, k3, k4⟩ := k
  have q := Q_pos B
  have l := (least4 (a.1 * b.1) (a.1 * b.2) (a.2 * b.1) (a.2 * b.2)).2.2.2.2
  have g := (greatest4 (a.1 * b.1) (a.1 * b.2) (a.2 * b.1) (a.2 * b.2)).2.2.2.2
  refine div_wide (show 0 < Q B by omega) (Int.le_trans ?_ hc)
  have key := fun x y x' y' (hx : x = a.1 ∨ x = a.2) (hy : y = b.1 ∨ y = b.2) (hx' : x' = a.1 ∨ x' = a.2) (hy' : y' = b.1 ∨ y' = b.2) => corner_wide hx hy hx' hy' ha hb h1 h2 h3 h4 k1 k2 k3 k4
  rcases g with g | g | g | g <;> rcases l with l | l | l | l <;> rw [g, l] <;> exact key _ _ _ _ (by simp) (by simp) (by simp) (by simp)
theorem scaleI_wide {a : Int × Int} {n d c : Int} (hd : 0 < d) (h : (a.2 - a.1) * n ≤ c * d) : (scaleI a n d).2 - (scaleI a n d).1 ≤ c + 1 := by
  refine div_wide hd ?_
  rw [← Int.sub_mul]; exact h
def Iv (B : Nat) (a : Int × Int) (x : Nat → Rat) : Prop := Has ((a.1 : Rat) / (Q B : Rat)) ((a.2 : Rat) / (Q B : Rat)) x
theorem Qr_pos (B : Nat) : (0 : Rat) < (Q B : Rat) := by exact_mod_cast (show (0 : Int) < Q B by have := Q_pos B; omega)
theorem rle_div {a b c : Rat} (hc : 0 < c) (h : a * c ≤ b) : a ≤ b / c := by
  have e := rdm (a := b) hc
  generalize b / c = q at *
  refine Rat.not_lt.1 fun hn => ?_
  have := Rat.mul_pos hc (show 0 < a - q by grind)
  grind
theorem rdiv_le {a b c : Rat} (hc : 0 < c) (h : a ≤ b * c) : a / c ≤ b := by
  have e := rdm (a := a) hc
  generalize a / c = q at *
  refine Rat.not_lt.1 fun hn => ?_
  have := Rat.mul_pos hc (show 0 < q - b by grind)
  grind
theorem cast_le {a b : Int} (h : a ≤ b) : (a : Rat) ≤ (b : Rat) := by exact_mod_cast h
theorem mul_lo {L u v q : Int} (hq : 0 < q) (h : L * q ≤ u * v) : (L : Rat) / (q : Rat) ≤ (u : Rat) / (q : Rat) * ((v : Rat) / (q : Rat)) := by
  have q0 : (0 : Rat) < (q : Rat) := by exact_mod_cast hq
  have e1 := rdm (a := (u : Rat)) q0
  have e2 := rdm (a := (v : Rat)) q0
  have h1 := cast_le h
  rw [Rat.intCast_mul, Rat.intCast_mul] at h1
  refine rdiv_le q0 ?_
  generalize (u : Rat) / (q : Rat) = U at *
  generalize (v : Rat) / (q : Rat) = V at *
  rw [← e1, ← e2] at h1
  refine Rat.not_lt.1 fun hn => ?_
  have := Rat.mul_pos (show 0 < (L : Rat) - U * V * (q : Rat) by grind) q0
  grind
theorem mul_hi {L u v q : Int} (hq : 0 < q) (h : u * v ≤ L * q) : (u : Rat) / (q : Rat) * ((v : Rat) / (q : Rat)) ≤ (L : Rat) / (q : Rat) := by
  have q0 : (0 : Rat) < (q : Rat) := by exact_mod_cast hq
  have e1 := rdm (a := (u : Rat)) q0
  have e2 := rdm (a := (v : Rat)) q0
  have h1 := cast_le h
  rw [Rat.intCast_mul, Rat.intCast_mul] at h1
  refine rle_div q0 ?_
  generalize (u : Rat) / (q : Rat) = U at *
  generalize (v : Rat) / (q : Rat) = V at *
  rw [← e1, ← e2] at h1
  refine Rat.not_lt.1 fun hn => ?_
  have := Rat.mul_pos (show 0 < U * V * (q : Rat) - (L : Rat) by grind) q0
  grind
theorem Iv.mul {B : Nat} {a b : Int × Int} {x y : Nat → Rat} (h : Iv B a x) (k : Iv B b y) : Iv B (mulI B a b) (fun M => x M * y M) := by
  have q0 : 0 < Q B := by have := Q_pos B; omega
  have l := least4 (a.1 * b.1) (a.1 * b.2) (a.2 * b.1) (a.2 * b.2)
  have g := greatest4 (a.1 * b.1) (a.1 * b.2) (a.2 * b.1) (a.2 * b.2)
  have fl := flo_le (leastZ (pr4 (a.1 * b.1) (a.1 * b.2) (a.2 * b.1) (a.2 * b.2)) 3) (Q B) q0
  have ce := ceil_ge (mostZ (pr4 (a.1 * b.1) (a.1 * b.2) (a.2 * b.1) (a.2 * b.2)) 3) (Q B) q0
  exact Has.mul h k (mul_lo q0 (Int.le_trans fl l.1)) (mul_lo q0 (Int.le_trans fl l.2.1)) (mul_lo q0 (Int.le_trans fl l.2.2.1)) (mul_lo q0 (Int.le_trans fl l.2.2.2.1)) (mul_hi q0 (Int.le_trans g.1 ce)) (mul_hi q0 (Int.le_trans g.2.1 ce)) (mul_hi q0 (Int.le_trans g.2.2.1 ce)) (mul_hi q0 (Int.le_trans g.2.2.2.1 ce))
theorem rdiv_add (a b c : Rat) : (a + b) / c = a / c + b / c := by rw [Rat.div_def, Rat.div_def, Rat.div_def, Rat.add_mul]
theorem rdiv_sub (a b c : Rat) : (a - b) / c = a / c - b / c := by rw [Rat.sub_eq_add_neg, Rat.div_def, Rat.add_mul, Rat.neg_mul, Rat.div_def, Rat.div_def, ← Rat.sub_eq_add_neg]
theorem Iv.add {B : Nat} {a b : Int × Int} {x y : Nat → Rat} (h : Iv B a x) (k : Iv B b y) : Iv B (addI a b) (fun M => x M + y M) := by
  have := Has.add h k
  rw [← rdiv_add, ← rdiv_add, ← Rat.intCast_add, ← Rat.intCast_add] at this
  exact this
theorem Iv.sub {B : Nat} {a b : Int × Int} {x y : Nat → Rat} (h : Iv B a x) (k : Iv B b y) : Iv B (subI a b) (fun M => x M - y M) := by
  have := Has.sub h k
  rw [← rdiv_sub, ← rdiv_sub, ← Rat.intCast_sub, ← Rat.intCast_sub] at this
  exact this
theorem Iv.times {B : Nat} {a : Int × Int} {x : Nat → Rat} (h : Iv B a x) (n : Nat) : Iv B (timesI a n) (fun M => (n : Rat) * x M) := by
  have := Has.scale h (c := (n : Rat)) (by exact_mod_cast Nat.zero_le n)
  have e : ∀ z : Int, (n : Rat) * ((z : Rat) / (Q B : Rat)) = ((z * (n : Int) : Int) : Rat) / (Q B : Rat) := fun z => by
    rw [Rat.intCast_mul, Rat.div_def, Rat.div_def, ← Rat.mul_assoc, Rat.mul_comm (n : Rat)]; rfl
  rw [e, e] at this
  exact this
theorem frac_lo {L u n d q : Int} (hd : 0 < d) (hq : 0 < q) (h : L * d ≤ u * n) : (L : Rat) / (q : Rat) ≤ (n : Rat) / (d : Rat) * ((u : Rat) / (q : Rat)) := by
  have q0 : (0 : Rat) < (q : Rat) := by exact_mod_cast hq
  have d0 : (0 : Rat) < (d : Rat) := by exact_mod_cast hd
  have e1 := rdm (a := (u : Rat)) q0
  have e2 := rdm (a := (n : Rat)) d0
  have h1 := cast_le h
  rw [Rat.intCast_mul, Rat.intCast_mul] at h1
  refine rdiv_le q0 ?_
  generalize (u : Rat) / (q : Rat) = U at *
  generalize (n : Rat) / (d : Rat) = V at *
  rw [← e1, ← e2] at h1
  refine Rat.not_lt.1 fun hn => ?_
  have := Rat.mul_pos (show 0 < (L : Rat) - V * U * (q : Rat) by grind) d0
  grind
theorem frac_hi {L u n d q : Int} (hd : 0 < d) (hq : 0 < q) (h : u * n ≤ L * d) : (n : Rat) / (d : Rat) * ((u : Rat) / (q : Rat)) ≤ (L : Rat) / (q : Rat) := by
  have q0 : (0 : Rat) < (q : Rat) := by exact_mod_cast hq
  have d0 : (0 : Rat) < (d : Rat) := by exact_mod_cast hd
  have e1 := rdm (a := (u : Rat)) q0
  have e2 := rdm (a := (n : Rat)) d0
  have h1 := cast_le h
  rw [Rat.intCast_mul, Rat.intCast_mul] at h1
  refine rle_div q0 ?_
  generalize (u : Rat) / (q : Rat) = U at *
  generalize (n : Rat) / (d : Rat) = V at *
  rw [← e1, ← e2] at h1
  refine Rat.not_lt.1 fun hn => ?_
  have := Rat.mul_pos (show 0 < V * U * (q : Rat) - (L : Rat) by grind) d0
  grind
theorem Iv.scale {B : Nat} {a : Int × Int} {x : Nat → Rat} (h : Iv B a x) {n d : Int} (hn : 0 ≤ n) (hd : 0 < d) : Iv B (scaleI a n d) (fun M => (n : Rat) / (d : Rat) * x M) := by
  have q0 : 0 < Q B := by have := Q_pos B; omega
  have d0 : (0 : Rat) < (d : Rat) := by exact_mod_cast hd
  have n0 : (0 : Rat) ≤ (n : Rat) := by exact_mod_cast hn
  have c0 : 0 ≤ (n : Rat) / (d : Rat) := rle_div d0 (by grind)
  exact (Has.scale h c0).mono (frac_lo hd q0 (flo_le (a.1 * n) d hd)) (frac_hi hd q0 (ceil_ge (a.2 * n) d hd))
theorem Iv.of (B : Nat) {n d : Int} (hd : 0 < d) : Iv B (ofI n d B) (fun _ => (n : Rat) / (d : Rat)) := by
  have q0 : 0 < Q B := by have := Q_pos B; omega
  have qr := Qr_pos B
  have e : (n : Rat) / (d : Rat) * ((Q B : Rat) / (Q B : Rat)) = (n : Rat) / (d : Rat) := by
    rw [Rat.div_def (Q B : Rat), Rat.mul_inv_cancel _ (by grind), Rat.mul_one]
  have l := frac_lo hd q0 (L := (ofI n d B).1) (u := Q B) (n := n) (by rw [Int.mul_comm (Q B)]; exact flo_le (n * Q B) d hd)
  have g := frac_hi hd q0 (L := (ofI n d B).2) (u := Q B) (n := n) (by rw [Int.mul_comm (Q B)]; exact ceil_ge (n * Q B) d hd)
  rw [e] at l g
  exact Has.const l g
theorem Iv.to {B m : Nat} {a : Int × Int} {x : Nat → Rat} (h : Iv (B + m) a x) : Iv B (downI a m) x := by
  have q := Qr_pos B
  have qm := Qr_pos m
  have e : (Q (B + m) : Rat) = (Q B : Rat) * (Q m : Rat) := by rw [Q_add, Rat.intCast_mul]
  have f1 := flo_le a.1 (Q m) (by have := Q_pos m; omega)
  have f2 := ceil_ge a.2 (Q m) (by have := Q_pos m; omega)
  have q2 : 0 < (Q B : Rat) * (Q m : Rat) := Rat.mul_pos q qm
  unfold Iv at h
  rw [e] at h
  refine Has.mono h ?_ ?_
  · have g : (((downI a m).1 * Q m : Int) : Rat) ≤ ((a.1 : Int) : Rat) := cast_le f1
    rw [Rat.intCast_mul] at g
    refine rle_div q2 ?_
    have ea := rdm (a := ((downI a m).1 : Rat)) q
    generalize ((downI a m).1 : Rat) / (Q B : Rat) = U at *
    generalize ((downI a m).1 : Rat) = L at *
    rw [← ea] at g
    grind
  · have g : ((a.2 : Int) : Rat) ≤ (((downI a m).2 * Q m : Int) : Rat) := cast_le f2
    rw [Rat.intCast_mul] at g
    refine rdiv_le q2 ?_
    have ea := rdm (a := ((downI a m).2 : Rat)) q
    generalize ((downI a m).2 : Rat) / (Q B : Rat) = U at *
    generalize ((downI a m).2 : Rat) = L at *
    rw [← ea] at g
    grind
theorem Iv.down {B : Nat} {a : Int × Int} {x : Nat → Rat} (h : Iv B a x) (t : Nat) : Iv B (downI a t) (fun M => x M / (Q t : Rat)) := by
  have qt : 0 < Q t := by have := Q_pos t; omega
  have := h.scale (n := 1) (d := Q t) (by omega) qt
  have e : scaleI a 1 (Q t) = downI a t := by simp [scaleI, downI]
  rw [e] at this
  refine Has.of_eq this fun M => ?_
  rw [Rat.div_def, Rat.div_def, Rat.mul_comm]
  simp
theorem Iv.touch {B C : Nat} {a b : Int × Int} {x : Nat → Rat} (h : Iv B a x) (k : Iv C b x) : a.1 * Q C ≤ b.2 * Q B := by
  have q := Qr_pos B
  have q' := Qr_pos C
  have t := Has.touch h k
  have e1 := rdm (a := (a.1 : Rat)) q
  have e2 := rdm (a := (b.2 : Rat)) q'
  have : ((a.1 * Q C : Int) : Rat) ≤ ((b.2 * Q B : Int) : Rat) := by
    rw [Rat.intCast_mul, Rat.intCast_mul]
    generalize (a.1 : Rat) / (Q B : Rat) = U at *
    generalize (b.2 : Rat) / (Q C : Rat) = V at *
    rw [← e1, ← e2]
    have := Rat.mul_nonneg (Rat.mul_nonneg (show 0 ≤ V - U by grind) (Rat.le_of_lt q)) (Rat.le_of_lt q')
    grind
  exact_mod_cast this
theorem Iv.touch_le {B : Nat} {a b : Int × Int} {x y z : Nat → Rat} (h : Iv B a x) (k : Iv B b y) (hz : Null z) (N0 : Nat) (hxy : ∀ M, N0 ≤ M → x M ≤ y M + z M) : a.1 ≤ b.2 := by
  have q := Qr_pos B
  have t := Has.touch_le h k hz N0 hxy
  have e1 := rdm (a := (a.1 : Rat)) q
  have e2 := rdm (a := (b.2 : Rat)) q
  have : ((a.1 : Int) : Rat) ≤ ((b.2 : Int) : Rat) := by
    generalize (a.1 : Rat) / (Q B : Rat) = U at *
    generalize (b.2 : Rat) / (Q B : Rat) = V at *
    rw [← e1, ← e2]
    have := Rat.mul_nonneg (show 0 ≤ V - U by grind) (Rat.le_of_lt q)
    grind
  exact_mod_cast this
theorem Iv.congr {B : Nat} {a : Int × Int} {x y : Nat → Rat} (h : Iv B a x) (k : Null (fun M => y M - x M)) : Iv B a y := Has.congr h k
end Go.Proofs.Ytgmnknmjainabab
namespace Go.Proofs.Ytgmnknmjainabab
open Ex
theorem Q_step {B s : Nat} (hs : s ≤ B) (n : Nat) : Q (B - s * n) * Q (B - s) ≤ Q (B - s * (n + 1)) * Q B := by
  rw [← Q_add, ← Q_add]
  refine Q_mono ?_
  rw [Nat.mul_add, Nat.mul_one]
  generalize s * n = k
  omega
theorem exists_least {p : Nat → Prop} {K : Nat} (h : p K) : ∃ N, N ≤ K ∧ p N ∧ ∀ n, n < N → ¬ p n := by
  induction K using Nat.strongRecOn with
  | ind K ih =>
    by_cases hk : ∃ m, m < K ∧ p m
    · obtain ⟨m, hm, hp⟩ := hk
      obtain ⟨N, h1, h2⟩ := ih m hm hp
      exact ⟨N, by omega, h2⟩
    · exact ⟨K, Nat.le_refl _, h, fun n hn hp => hk ⟨n, hn, hp⟩⟩
theorem stop_ex {B s : Nat} {f : Nat → Int × Int} (hs : 1 ≤ s) (h : ∀ n, Abs (f n) (Q (B - s * n))) : ∃ N, N ≤ B / s + 1 ∧ IsStop f N := by
  have h1 : reachI (f (B / s + 1)) ≤ 1 := by
    have := abs_reach (h (B / s + 1))
    have e : B - s * (B / s + 1) = 0 := by
      have := Nat.lt_mul_div_succ B (show 0 < s by omega)
      omega
    rw [e] at this; simp [Q] at this; exact this
  obtain ⟨N, n1, n2, n3⟩ := exists_least (p := fun n => reachI (f n) ≤ 1) h1
  exact ⟨N, n1, n2, fun n hn => by have := n3 n hn; simp at this; omega⟩
theorem half_step {B s N n : Nat} {f : Nat → Int × Int} (hs : 1 ≤ s) (h : ∀ n, Abs (f n) (Q (B - s * n))) (hN : IsStop f N) (hn : n < N) : 2 * Q (B - s * (n + 1)) ≤ Q (B - s * n) := by
  have h1 := hN.2 n hn
  have h2 := abs_reach (h n)
  have h3 : 1 ≤ B - s * n := by
    refine Nat.pos_of_ne_zero fun e => ?_
    rw [e] at h2; simp [Q] at h2; omega
  have e : 2 * Q (B - s * (n + 1)) = Q (B - s * (n + 1) + 1) := rfl
  rw [e]
  refine Q_mono ?_
  rw [Nat.mul_add, Nat.mul_one]
  generalize s * n = k at *
  omega
theorem sum_abs2 {B s N : Nat} {f : Nat → Int × Int} (hs : 1 ≤ s) (h : ∀ n, Abs (f n) (Q (B - s * n))) (hN : IsStop f N) (n : Nat) (hn : n ≤ N) : Abs (sumI f n) (2 * Q B - Q (B - s * n)) := by
  induction n with
  | zero => simp only [sumI]; exact (h 0).mono (by simp; omega)
  | succ n ih =>
    have h1 := (ih (by omega)).add (h (n + 1))
    have h2 := half_step hs h hN (show n < N by omega)
    simp only [sumI]
    exact h1.mono (by omega)
theorem sum_abs1 {B s N : Nat} {f : Nat → Int × Int} (hs : 1 ≤ s) (h : ∀ n, Abs (f n) (Q (B - s * n))) (hN : IsStop f N) (n : Nat) (hn : n + 1 ≤ N) : Abs (sumI f (n + 1)) (Q B + 2 * Q (B - s) - Q (B - s * (n + 1))) := by
  induction n with
  | zero =>
    simp only [sumI]
    have := (h 0).add (h 1)
    refine this.mono ?_
    simp; omega
  | succ n ih =>
    have h1 := (ih (by omega)).add (h (n + 1 + 1))
    have h2 := half_step hs h hN (show n + 1 < N by omega)
    have e : sumI f (n + 1 + 1) = addI (sumI f (n + 1)) (f (n + 1 + 1)) := rfl
    rw [e]
    exact h1.mono (by omega)
theorem reach_pair {a : Int × Int} (h : a.1 ≤ a.2) : 0 ≤ reachI a := (reach_abs h).nonneg
theorem done_abs2 {B s N : Nat} {f : Nat → Int × Int} (hs : 1 ≤ s) (hle : ∀ n, (f n).1 ≤ (f n).2) (h : ∀ n, Abs (f n) (Q (B - s * n))) (hN : IsStop f N) : Abs (doneI f N) (2 * Q B) := by
  have h1 := sum_abs2 hs h hN N (Nat.le_refl _)
  have h2 : Abs (-reachI (f N), reachI (f N)) (Q (B - s * N)) := by
    have := abs_reach (h N)
    have := reach_pair (hle N)
    exact ⟨by simp; omega, by simp; omega, by simp; omega, by simp; omega⟩
  exact (h1.add h2).mono (by omega)
theorem done_abs1 {B s N : Nat} {f : Nat → Int × Int} (hs : 1 ≤ s) (hle : ∀ n, (f n).1 ≤ (f n).2) (h : ∀ n, Abs (f n) (Q (B - s * n))) (hN : IsStop f N) (h1N : 1 ≤ N) : Abs (doneI f N) (Q B + 2 * Q (B - s)) := by
  obtain ⟨n, rfl⟩ : ∃ n, N = n + 1 := ⟨N - 1, by omega⟩
  have h1 := sum_abs1 hs h hN n (Nat.le_refl _)
  have h2 : Abs (-reachI (f (n + 1)), reachI (f (n + 1))) (Q (B - s * (n + 1))) := by
    have := abs_reach (h (n + 1))
    have := reach_pair (hle (n + 1))
    exact ⟨by simp; omega, by simp; omega, by simp; omega, by simp; omega⟩
  exact (h1.add h2).mono (by omega)
theorem sum_le {f : Nat → Int × Int} (hle : ∀ n, (f n).1 ≤ (f n).2) (n : Nat) : (sumI f n).1 ≤ (sumI f n).2 := by
  induction n with
  | zero => exact hle 0
  | succ n ih => simp only [sumI, addI]; have := hle (n + 1); omega
theorem done_le {f : Nat → Int × Int} (hle : ∀ n, (f n).1 ≤ (f n).2) (n : Nat) : (doneI f n).1 ≤ (doneI f n).2 := by
  have h1 := sum_le hle n
  have h2 := reach_pair (hle n)
  simp only [doneI, addI]; omega
theorem sum_wide {f : Nat → Int × Int} {W : Int} (hw : ∀ n, (f n).2 - (f n).1 ≤ W) (n : Nat) : (sumI f n).2 - (sumI f n).1 ≤ ((n : Int) + 1) * W := by
  induction n with
  | zero => simp only [sumI]; have := hw 0; simp; omega
  | succ n ih =>
    simp only [sumI, addI]
    have := hw (n + 1)
    have e : (((n + 1 : Nat) : Int) + 1) * W = ((n : Int) + 1) * W + W := by
      have : (((n + 1 : Nat) : Int) + 1) = ((n : Int) + 1) + 1 := by omega
      rw [this, Int.add_mul, Int.one_mul]
    omega
theorem done_wide {f : Nat → Int × Int} {W : Int} {N : Nat} (hw : ∀ n, (f n).2 - (f n).1 ≤ W) (hN : IsStop f N) : (doneI f N).2 - (doneI f N).1 ≤ ((N : Int) + 1) * W + 2 := by
  have h1 := sum_wide hw N
  have h2 := hN.1
  simp only [doneI, addI]; omega
theorem S_rest {g : Nat → Rat} {N : Nat} {b : Rat} (hb : AB (g N) b) (hh : ∀ n c, N ≤ n → AB (g n) c → AB (g (n + 1)) (c / 2)) (i : Nat) : AB (g (N + i)) (b * q2 i) ∧ AB (S g (N + 1 + i) - S g (N + 1)) (b * (1 - q2 i)) := by
  induction i with
  | zero => simp only [Nat.add_zero, q2]; exact ⟨hb.mono (by grind), by constructor <;> grind⟩
  | succ i ih =>
    obtain ⟨h1, h2⟩ := ih
    have h3 := hh (N + i) _ (by omega) h1
    have e1 : q2 (i + 1) = q2 i / 2 := rfl
    have e2 : S g (N + 1 + (i + 1)) = S g (N + 1 + i) + g (N + 1 + i) := rfl
    have e3 : N + 1 + i = N + (i + 1) := by omega
    refine ⟨h3.mono (by rw [e1]; grind), ?_⟩
    rw [e2, e1]
    have h4 := h2.add h3
    rw [show N + i + 1 = N + 1 + i by omega] at h4
    have e4 : S g (N + 1 + i) - S g (N + 1) + g (N + 1 + i) = S g (N + 1 + i) + g (N + 1 + i) - S g (N + 1) := by grind
    rw [e4] at h4
    exact h4.mono (by grind)
theorem done_has {B N : Nat} {f : Nat → Int × Int} {g : Nat → Nat → Rat} (hle : ∀ n, (f n).1 ≤ (f n).2) (h : ∀ n, n ≤ N → Iv B (f n) (fun M => g n M)) (M0 : Nat) (hh : ∀ M, M0 ≤ M → ∀ n b, N ≤ n → AB (g n M) b → AB (g (n + 1) M) (b / 2)) : Iv B (doneI f N) (fun M => S (fun k => g k M) M) := by
  have h1 : ∀ n, n ≤ N → Iv B (sumI f n) (fun M => S (fun k => g k M) (n + 1)) := fun n hn => by
    induction n with
    | zero => exact Has.of_eq (h 0 (by omega)) fun M => by simp only [S]; grind
    | succ n ih => exact Has.of_eq ((ih (by omega)).add (h (n + 1) hn)) fun M => by simp only [S]
  have h2 := h1 N (Nat.le_refl _)
  have h3 : Iv B (-reachI (f N), reachI (f N)) (fun M => S (fun k => g k M) M - S (fun k => g k M) (N + 1)) := by
    have hr := reach_abs (hle N)
    have q := Qr_pos B
    have k1 := h N (Nat.le_refl _)
    intro e he
    obtain ⟨N1, k2⟩ := k1 e he
    refine ⟨N1 + M0 + N + 1, fun M hM => ?_⟩
    obtain ⟨a1, a2⟩ := k2 M (by omega)
    have l1 : ((-reachI (f N) : Int) : Rat) / (Q B : Rat) ≤ ((f N).1 : Rat) / (Q B : Rat) := rdiv_le q (by rw [rdm q]; exact cast_le hr.1)
    have l2 : ((f N).2 : Rat) / (Q B : Rat) ≤ ((reachI (f N) : Int) : Rat) / (Q B : Rat) := rdiv_le q (by rw [rdm q]; exact cast_le hr.2.2.2)
    have l3 : ((-reachI (f N) : Int) : Rat) / (Q B : Rat) = -(((reachI (f N) : Int) : Rat) / (Q B : Rat)) := by
      rw [Rat.intCast_neg, Rat.div_def, Rat.div_def, Rat.neg_mul]
    have hb : AB (g N M) (((reachI (f N) : Int) : Rat) / (Q B : Rat) + e) := by constructor <;> grind
    obtain ⟨i, rfl⟩ : ∃ i, M = N + 1 + i := ⟨M - (N + 1), by omega⟩
    have s := (S_rest (g := fun k => g k (N + 1 + i)) hb (fun n c hn hc => hh _ (by omega) n c hn hc) i).2
    have p := q2_pos i
    have nn := hb.nonneg
    have s' := s.mono (b := ((reachI (f N) : Int) : Rat) / (Q B : Rat) + e) (by
      have := Rat.mul_nonneg nn (Rat.le_of_lt p)
      grind)
    obtain ⟨s1, s2⟩ := s'
    simp only []
    rw [l3]
    constructor <;> grind
  exact Has.of_eq (h2.add h3) fun M => by grind
def expT (B : Nat) (sm : Int × Int) : Nat → Int × Int
  | 0 => (Q B, Q B)
  | n + 1 => scaleI (mulI B (expT B sm n) sm) 1 ((n : Int) + 1)
theorem expT_le (B : Nat) (sm : Int × Int) (n : Nat) : (expT B sm n).1 ≤ (expT B sm n).2 := by
  cases n with
  | zero => exact Int.le_refl _
  | succ n => exact scaleI_le (mulI_le B) (by omega) (by omega)
theorem expT_abs {B : Nat} {sm : Int × Int} (hB : 8 ≤ B) (hs : Abs sm (Q (B - 8))) (n : Nat) : Abs (expT B sm n) (Q (B - 8 * n)) := by
  induction n with
  | zero => have := Q_pos B; exact ⟨by simp [expT]; omega, by simp [expT], by simp [expT]; omega, by simp [expT]⟩
  | succ n ih => exact scaleI_abs (mulI_abs ih hs (Q_step hB n)) (by omega) (by omega) (by omega)
theorem Q_eight {B : Nat} (hB : 8 ≤ B) : Q B = 256 * Q (B - 8) := by
  have := Q_add 8 (B - 8)
  rw [show 8 + (B - 8) = B by omega] at this
  rw [this]; rfl
theorem expT_wide {B : Nat} {sm : Int × Int} {ws : Int} (hB : 8 ≤ B) (hs : Abs sm (Q (B - 8))) (hsl : sm.1 ≤ sm.2) (hw : sm.2 - sm.1 ≤ ws) (n : Nat) : (expT B sm n).2 - (expT B sm n).1 ≤ 2 * ws + 4 := by
  induction n with
  | zero => simp only [expT]; omega
  | succ n ih =>
    have q := Q_pos (B - 8)
    have e := Q_eight hB
    have m1 : Q (B - 8 * n) ≤ Q B := Q_mono (by omega)
    have p1 := Int.mul_le_mul m1 hw (by omega) (by omega)
    have p2 := Int.mul_le_mul_of_nonneg_left ih (show 0 ≤ Q (B - 8) by omega)
    have hc : Q (B - 8 * n) * (sm.2 - sm.1) + Q (B - 8) * ((expT B sm n).2 - (expT B sm n).1) ≤ (ws + (2 * ws + 4 + 255) / 256) * Q B := by
      have e2 : (ws + (2 * ws + 4 + 255) / 256) * Q B = Q B * ws + Q (B - 8) * (256 * ((2 * ws + 4 + 255) / 256)) := by
        rw [Int.add_mul, Int.mul_comm ws]; congr 1; rw [e]; grind
      rw [e2]
      have := Int.mul_le_mul_of_nonneg_left (show 2 * ws + 4 ≤ 256 * ((2 * ws + 4 + 255) / 256) by omega) (show 0 ≤ Q (B - 8) by omega)
      omega
    have h1 := mulI_wide (expT_abs hB hs n) hs (expT_le B sm n) hsl hc
    have hn : (0 : Int) < (n : Int) + 1 := by omega
    have hp := Int.mul_nonneg (show 0 ≤ ws + (2 * ws + 4 + 255) / 256 + 1 by omega) (show 0 ≤ (n : Int) by omega)
    have h2 := scaleI_wide (a := mulI B (expT B sm n) sm) (n := 1) (d := (n : Int) + 1) (c := ws + (2 * ws + 4 + 255) / 256 + 1) hn (by
      rw [Int.mul_one, Int.mul_add, Int.mul_one]; omega)
    simp only [expT]
    omega
theorem expT_has {B : Nat} {sm : Int × Int} {x : Nat → Rat} (h : Iv B sm x) (n : Nat) : Iv B (expT B sm n) (fun M => tm (x M) n) := by
  induction n with
  | zero =>
    have q := Qr_pos B
    have e : (Q B : Rat) / (Q B : Rat) = 1 := by rw [Rat.div_def, Rat.mul_inv_cancel _ (by grind)]
    show Has ((Q B : Rat) / (Q B : Rat)) ((Q B : Rat) / (Q B : Rat)) _
    rw [e]
    exact Has.const (c := 1) Rat.le_refl Rat.le_refl
  | succ n ih =>
    have := (ih.mul h).scale (n := 1) (d := (n : Int) + 1) (by omega) (by omega)
    refine Has.of_eq this fun M => ?_
    have e : (((n : Int) + 1 : Int) : Rat) = (n : Rat) + 1 := by rw [Rat.intCast_add]; rfl
    rw [e]
    simp only [tm]
    have hp := pos1 n
    rw [Rat.div_def, Rat.div_def]
    simp
    grind
theorem tm_half {x b : Rat} (hx : AB x (1 / 2)) (n : Nat) (h : AB (tm x n) b) : AB (tm x (n + 1)) (b / 2) := by
  have e := tm_succ x n
  have hp := pos1 n
  have g := hx.mul h
  rw [← e] at g
  have e3 : tm x (n + 1) = ((n : Rat) + 1) * tm x (n + 1) / ((n : Rat) + 1) := by grind
  rw [e3]
  refine rdiv_AB hp (g.mono ?_)
  have hn : (0 : Rat) ≤ (n : Rat) := by exact_mod_cast Nat.zero_le n
  have := Rat.mul_nonneg hn h.nonneg
  grind
theorem Iv.little {B : Nat} {a : Int × Int} {x : Nat → Rat} (h : Iv B a x) {m : Int} (ha : Abs a m) (hm : 4 * m ≤ Q B) : ∃ N, ∀ M, N ≤ M → AB (x M) (1 / 2) := by
  have q := Qr_pos B
  obtain ⟨N, h1⟩ := h (1 / 4) (by grind)
  refine ⟨N, fun M hM => ?_⟩
  have := h1 M hM
  have l1 : -(1 / 4 : Rat) ≤ (a.1 : Rat) / (Q B : Rat) := rle_div q (by
    have : ((-(Q B) : Int) : Rat) ≤ ((4 * a.1 : Int) : Rat) := cast_le (by have := ha.1; omega)
    rw [Rat.intCast_neg, Rat.intCast_mul] at this
    have e4 : ((4 : Int) : Rat) = 4 := rfl
    rw [e4] at this
    grind)
  have l2 : (a.2 : Rat) / (Q B : Rat) ≤ (1 / 4 : Rat) := rdiv_le q (by
    have : ((4 * a.2 : Int) : Rat) ≤ ((Q B : Int) : Rat) := cast_le (by have := ha.2.2.2; omega)
    rw [Rat.intCast_mul] at this
    have e4 : ((4 : Int) : Rat) = 4 := rfl
    rw [e4] at this
    grind)
  constructor <;> grind
theorem expSum_has {B N : Nat} {sm : Int × Int} {x : Nat → Rat} (hB : 8 ≤ B) (h : Iv B sm x) (hs : Abs sm (Q (B - 8))) : Iv B (doneI (expT B sm) N) (Ev x) := by
  obtain ⟨M0, h0⟩ := h.little hs (by have := Q_eight hB; have := Q_pos (B - 8); omega)
  exact done_has (expT_le B sm) (fun n _ => expT_has h n) M0 (fun M hM n b _ hb => tm_half (h0 M hM) n hb)
def sqv (y : Nat → Rat) : Nat → Nat → Rat
  | 0 => y
  | t + 1 => fun M => sqv y t M * sqv y t M
theorem sqI_has {B : Nat} {a : Int × Int} {y : Nat → Rat} (h : Iv B a y) (t : Nat) : Iv B (sqI B a t) (sqv y t) := by
  induction t with
  | zero => exact h
  | succ t ih => exact ih.mul ih
theorem sqv_null {x : Nat → Rat} (h : Bdd x) (t : Nat) : Null (fun M => sqv (Ev x) t M - Ev (fun M => (Q t : Rat) * x M) M) := by
  have hb : ∀ t, Bdd (fun M => (Q t : Rat) * x M) := fun t => (Bdd.const _).mul h
  induction t with
  | zero =>
    have e : (fun M => (Q 0 : Rat) * x M) = x := funext fun M => by simp [Q]
    rw [e]
    exact null_zero.of_eq fun M => by simp only [sqv]; grind
  | succ t ih =>
    have b1 := Ev_bdd (hb t)
    have b2 : Bdd (sqv (Ev x) t) := b1.of_null (ih.neg.of_eq fun M => by grind)
    have n1 := ih.bmul (b1.add b2)
    have n2 := Ev_add (hb t) (hb t)
    have e : (fun M => (Q t : Rat) * x M + (Q t : Rat) * x M) = fun M => (Q (t + 1) : Rat) * x M := funext fun M => by
      have : (Q (t + 1) : Rat) = 2 * (Q t : Rat) := by
        have : Q (t + 1) = 2 * Q t := rfl
        rw [this, Rat.intCast_mul]; rfl
      rw [this]; grind
    rw [e] at n2
    refine (n1.add n2).of_eq fun M => ?_
    simp only [sqv]
    grind
theorem exp_has {B N t : Nat} {a : Int × Int} {x : Nat → Rat} (hB : 8 ≤ B) (h : Iv B a x) (hs : Abs (downI a t) (Q (B - 8))) : Iv B (sqI B (doneI (expT B (downI a t)) N) t) (Ev x) := by
  have hx := Has.bdd h
  have h1 := sqI_has (expSum_has (N := N) hB (h.down t) hs) t
  have hb : Bdd (fun M => x M / (Q t : Rat)) := Has.bdd (h.down t)
  have n1 := sqv_null hb t
  have q := Qr_pos t
  have e : (fun M => (Q t : Rat) * (x M / (Q t : Rat))) = x := funext fun M => by
    rw [Rat.mul_comm]; exact rdm q
  rw [e] at n1
  exact h1.congr (n1.neg.of_eq fun M => by grind)
end Go.Proofs.Ytgmnknmjainabab
namespace Go.Proofs.Ytgmnknmjainabab
open Ex
def eb (i : Nat) : Nat := if i ≤ 10 then 12 else 12 * 2 ^ (i - 10)
def cI : Nat → Int
  | 0 => 66048
  | i + 1 => cI i * cI i / 65536 + 1
theorem Q_16 {B : Nat} (hB : 16 ≤ B) : Q B = 65536 * Q (B - 16) ∧ Q (B - 8) = 256 * Q (B - 16) := by
  have h1 := Q_add 16 (B - 16)
  have h2 := Q_add 8 (B - 16)
  rw [show 16 + (B - 16) = B by omega] at h1
  rw [show 8 + (B - 16) = B - 8 by omega] at h2
  exact ⟨by rw [h1]; rfl, by rw [h2]; rfl⟩
theorem sq_abs0 {B : Nat} {d : Int × Int} (hB : 16 ≤ B) (h : Abs d (Q B + 2 * Q (B - 8))) (i : Nat) : Abs (sqI B d i) (cI i * Q (B - 16)) := by
  obtain ⟨e1, e2⟩ := Q_16 hB
  induction i with
  | zero => exact h.mono (by simp only [cI]; omega)
  | succ i ih =>
    refine mulI_abs ih ih ?_
    rw [e1]
    have q := Q_pos (B - 16)
    have h1 : cI i * cI i ≤ cI (i + 1) * 65536 := by simp only [cI]; omega
    have h2 := Int.mul_nonneg (show 0 ≤ Q (B - 16) by omega) (show 0 ≤ Q (B - 16) by omega)
    have h3 := Int.mul_le_mul_of_nonneg_right h1 h2
    generalize Q (B - 16) = r at *
    have e3 : cI i * r * (cI i * r) = cI i * cI i * (r * r) := by grind
    have e4 : cI (i + 1) * r * (65536 * r) = cI (i + 1) * 65536 * (r * r) := by grind
    rw [e3, e4]; exact h3
theorem cI_le : ∀ i, i < 11 → cI i ≤ 268435456 := by decide
theorem sq_abs {B : Nat} {d : Int × Int} (hB : 16 ≤ B) (h : Abs d (Q B + 2 * Q (B - 8))) (i : Nat) : Abs (sqI B d i) (Q (B + eb i)) := by
  by_cases hi : i ≤ 10
  · refine (sq_abs0 hB h i).mono ?_
    have e : eb i = 12 := by simp [eb, hi]
    have e2 : Q (B + 12) = 268435456 * Q (B - 16) := by
      have := Q_add 28 (B - 16)
      rw [show 28 + (B - 16) = B + 12 by omega] at this
      rw [this]; rfl
    rw [e, e2]
    exact Int.mul_le_mul_of_nonneg_right (cI_le i (by omega)) (by have := Q_pos (B - 16); omega)
  · obtain ⟨j, rfl⟩ : ∃ j, i = 10 + j := ⟨i - 10, by omega⟩
    clear hi
    have key : Abs (sqI B d (10 + j)) (Q (B + 12 * 2 ^ j)) := by
      induction j with
      | zero =>
        refine (sq_abs0 hB h 10).mono ?_
        have e2 : Q (B + 12 * 2 ^ 0) = 268435456 * Q (B - 16) := by
          have := Q_add 28 (B - 16)
          rw [show 28 + (B - 16) = B + 12 * 2 ^ 0 by omega] at this
          rw [this]; rfl
        rw [e2]
        exact Int.mul_le_mul_of_nonneg_right (cI_le 10 (by omega)) (by have := Q_pos (B - 16); omega)
      | succ j ih =>
        refine mulI_abs ih ih ?_
        rw [← Q_add, ← Q_add]
        refine Q_mono ?_
        rw [Nat.pow_succ]; omega
    by_cases hj : j = 0
    · subst hj; exact key
    · have : eb (10 + j) = 12 * 2 ^ j := by
        unfold eb; rw [if_neg (by omega)]; congr 2; omega
      rw [this]; exact key
def wb : Nat → Nat
  | 0 => 0
  | i + 1 => wb i + eb i + 2
theorem sq_wide {B : Nat} {d : Int × Int} (hB : 16 ≤ B) (h : Abs d (Q B + 2 * Q (B - 8))) (hd : d.1 ≤ d.2) (i : Nat) : (sqI B d i).1 ≤ (sqI B d i).2 ∧ (sqI B d i).2 - (sqI B d i).1 + 1 ≤ (d.2 - d.1 + 1) * Q (wb i) := by
  induction i with
  | zero => simp only [sqI, wb, Q]; omega
  | succ i ih =>
    obtain ⟨h1, h2⟩ := ih
    refine ⟨mulI_le B, ?_⟩
    have ha := sq_abs hB h i
    obtain ⟨W, hW⟩ : ∃ W, W = (sqI B d i).2 - (sqI B d i).1 := ⟨_, rfl⟩
    rw [← hW] at h2
    have h3 := mulI_wide (B := B) (c := 2 * Q (eb i) * W) ha ha h1 h1 (by
      rw [← hW, Q_add]
      generalize Q B = q
      generalize Q (eb i) = r
      have : q * r * W + q * r * W = 2 * r * W * q := by grind
      omega)
    have e : Q (wb (i + 1)) = Q (wb i) * (4 * Q (eb i)) := by
      have : wb (i + 1) = wb i + (eb i + 2) := by simp only [wb]; omega
      rw [this, Q_add]
      congr 1
      have := Q_add (eb i) 2
      rw [this, Int.mul_comm]; rfl
    rw [e]
    have q1 := Q_pos (eb i)
    have p := Int.mul_le_mul_of_nonneg_right h2 (show 0 ≤ 4 * Q (eb i) by omega)
    rw [← Int.mul_assoc]
    refine Int.le_trans ?_ p
    have w0 : 0 ≤ W := by omega
    have p2 := Int.mul_nonneg w0 (show 0 ≤ Q (eb i) by omega)
    show (mulI B (sqI B d i) (sqI B d i)).2 - (mulI B (sqI B d i) (sqI B d i)).1 + 1 ≤ _
    have e5 : (W + 1) * (4 * Q (eb i)) = 4 * (W * Q (eb i)) + 4 * Q (eb i) := by grind
    have e6 : 2 * Q (eb i) * W = 2 * (W * Q (eb i)) := by grind
    rw [e5]; rw [e6] at h3
    omega
theorem eb_mono {i j : Nat} (h : i ≤ j) : eb i ≤ eb j := by
  unfold eb
  split
  · split
    · omega
    · have := Nat.pow_le_pow_right (show 0 < 2 by omega) (show 0 ≤ j - 10 by omega); simp at this; omega
  · split
    · omega
    · have := Nat.pow_le_pow_right (show 0 < 2 by omega) (show i - 10 ≤ j - 10 by omega); omega
theorem exp_bound {B N t : Nat} {a : Int × Int} {ws : Int} (hB : 16 ≤ B) (hs : Abs (downI a t) (Q (B - 8))) (ha : a.1 ≤ a.2) (hw : a.2 - a.1 ≤ ws * Q t) (hN : IsStop (expT B (downI a t)) N) :
    (sqI B (doneI (expT B (downI a t)) N) t).1 ≤ (sqI B (doneI (expT B (downI a t)) N) t).2 ∧ Abs (sqI B (doneI (expT B (downI a t)) N) t) (Q (B + eb t)) ∧ N ≤ B / 8 + 1 ∧
    (sqI B (doneI (expT B (downI a t)) N) t).2 - (sqI B (doneI (expT B (downI a t)) N) t).1 ≤ (((N : Int) + 1) * (2 * ws + 6) + 3) * Q (wb t) := by
  have q := Q_pos t
  have hsl : (downI a t).1 ≤ (downI a t).2 := by
    have := scaleI_le (a := a) (n := 1) (d := Q t) ha (by omega) (by omega)
    simpa [scaleI, downI] using this
  have hsw : (downI a t).2 - (downI a t).1 ≤ ws + 1 := div_wide (by omega) hw
  have hT := expT_abs (by omega) hs
  have h1N : 1 ≤ N := by
    refine Nat.pos_of_ne_zero fun e => ?_
    have := hN.1
    rw [e] at this
    have h2 : reachI (expT B (downI a t) 0) = Q B := by
      show maxZ (Q B) (-Q B) = Q B
      have := Q_pos B
      unfold maxZ; rw [if_neg (by omega)]
    rw [h2] at this
    have := Q_mono hB
    have : Q 16 = 65536 := rfl
    omega
  have hd := done_abs1 (s := 8) (by omega) (expT_le B (downI a t)) hT hN h1N
  have hdl := done_le (expT_le B (downI a t)) N
  have hdw := done_wide (expT_wide (by omega) hs hsl hsw) hN
  obtain ⟨g1, g2⟩ := sq_wide hB hd hdl t
  have hle : N ≤ B / 8 + 1 := by
    obtain ⟨N', n1, n2⟩ := stop_ex (s := 8) (by omega) hT
    refine Nat.le_trans (Nat.not_lt.1 fun hlt => ?_) n1
    have := hN.2 N' hlt
    have := n2.1
    omega
  refine ⟨g1, sq_abs hB hd t, hle, ?_⟩
  have q2 := Q_pos (wb t)
  have e : 2 * (ws + 1) + 4 = 2 * ws + 6 := by omega
  rw [e] at hdw
  have := Int.mul_le_mul_of_nonneg_right (show (doneI (expT B (downI a t)) N).2 - (doneI (expT B (downI a t)) N).1 + 1 ≤ ((N : Int) + 1) * (2 * ws + 6) + 3 by omega) (show 0 ≤ Q (wb t) by omega)
  omega
end Go.Proofs.Ytgmnknmjainabab
namespace Go.Proofs.Ytgmnknmjainabab
open Ex
def logT (B : Nat) (z sq : Int × Int) : Nat → Int × Int
  | 0 => z
  | n + 1 => scaleI (mulI B (logT B z sq n) sq) (2 * (n : Int) + 1) (2 * (n : Int) + 3)
theorem ofI_le {n d : Int} (hd : 0 < d) (B : Nat) : (ofI n d B).1 ≤ (ofI n d B).2 := by
  have := scaleI_le (a := (n * Q B, n * Q B)) (n := 1) (Int.le_refl _) hd (by omega)
  simpa [scaleI, ofI] using this
theorem ofI_wide {n d : Int} (hd : 0 < d) (B : Nat) : (ofI n d B).2 - (ofI n d B).1 ≤ 1 := by
  have := div_wide (x := n * Q B) (y := n * Q B) (c := 0) hd (by omega)
  simpa [ofI] using this
theorem ofI_abs {n d m : Int} (hd : 0 < d) (B : Nat) (h1 : -(m * d) ≤ n * Q B) (h2 : n * Q B ≤ m * d) : Abs (ofI n d B) m := by
  have := round_abs hd h1 h2
  exact ⟨this.1, this.2.1, this.2.2.1, this.2.2.2⟩
theorem logT_le {B : Nat} {z sq : Int × Int} (hz : z.1 ≤ z.2) (n : Nat) : (logT B z sq n).1 ≤ (logT B z sq n).2 := by
  cases n with
  | zero => exact hz
  | succ n => exact scaleI_le (mulI_le B) (by omega) (by omega)
theorem logT_abs {B : Nat} {z sq : Int × Int} (hB : 3 ≤ B) (hz : Abs z (Q B)) (hs : Abs sq (Q (B - 3))) (n : Nat) : Abs (logT B z sq n) (Q (B - 3 * n)) := by
  induction n with
  | zero => exact hz
  | succ n ih => exact scaleI_abs (mulI_abs ih hs (Q_step hB n)) (by omega) (by omega) (by omega)
theorem Q_three {B : Nat} (hB : 3 ≤ B) : Q B = 8 * Q (B - 3) := by
  have := Q_add 3 (B - 3)
  rw [show 3 + (B - 3) = B by omega] at this
  rw [this]; rfl
theorem logT_wide {B : Nat} {z sq : Int × Int} (hB : 3 ≤ B) (hz : Abs z (Q B)) (hs : Abs sq (Q (B - 3))) (hzl : z.1 ≤ z.2) (hsl : sq.1 ≤ sq.2) (hzw : z.2 - z.1 ≤ 1) (hsw : sq.2 - sq.1 ≤ 2) (n : Nat) : (logT B z sq n).2 - (logT B z sq n).1 ≤ 6 := by
  induction n with
  | zero => simp only [logT]; omega
  | succ n ih =>
    have q := Q_pos (B - 3)
    have e := Q_three hB
    have m1 : Q (B - 3 * n) ≤ Q B := Q_mono (by omega)
    have p1 := Int.mul_le_mul m1 hsw (by omega) (by omega)
    have p2 := Int.mul_le_mul_of_nonneg_left ih (show 0 ≤ Q (B - 3) by omega)
    have h1 := mulI_wide (B := B) (c := 3) (logT_abs hB hz hs n) hs (logT_le hzl n) hsl (by omega)
    have h2 := scaleI_wide (a := mulI B (logT B z sq n) sq) (n := 2 * (n : Int) + 1) (d := 2 * (n : Int) + 3) (c := 4) (by omega) (by
      have := Int.mul_le_mul_of_nonneg_right (show (mulI B (logT B z sq n) sq).2 - (mulI B (logT B z sq n) sq).1 ≤ 4 by omega) (show 0 ≤ 2 * (n : Int) + 1 by omega)
      omega)
    simp only [logT]
    omega
theorem logT_has {B : Nat} {a sq : Int × Int} {z : Rat} (h : Iv B a (fun _ => z)) (hs : Iv B sq (fun _ => z * z)) (n : Nat) : Iv B (logT B a sq n) (fun _ => pw z (2 * n + 1) / (2 * (n : Rat) + 1)) := by
  induction n with
  | zero =>
    refine Has.of_eq h fun M => ?_
    simp [pw]
    grind
  | succ n ih =>
    have := (ih.mul hs).scale (n := 2 * (n : Int) + 1) (d := 2 * (n : Int) + 3) (by omega) (by omega)
    refine Has.of_eq this fun M => ?_
    have e1 : ((2 * (n : Int) + 1 : Int) : Rat) = 2 * (n : Rat) + 1 := by rw [Rat.intCast_add, Rat.intCast_mul]; rfl
    have e2 : ((2 * (n : Int) + 3 : Int) : Rat) = 2 * (n : Rat) + 3 := by rw [Rat.intCast_add, Rat.intCast_mul]; rfl
    have e3 : ((n + 1 : Nat) : Rat) = (n : Rat) + 1 := by simp
    have e4 : pw z (2 * (n + 1) + 1) = z * (z * pw z (2 * n + 1)) := rfl
    rw [e1, e2, e3, e4]
    have hn : (0 : Rat) ≤ (n : Rat) := by exact_mod_cast Nat.zero_le n
    generalize pw z (2 * n + 1) = p
    have d1 : (2 * (n : Rat) + 1) ≠ 0 := by grind
    have d2 : (2 * (n : Rat) + 3) ≠ 0 := by grind
    have d3 : 2 * ((n : Rat) + 1) + 1 = 2 * (n : Rat) + 3 := by grind
    rw [d3]
    generalize 2 * (n : Rat) + 1 = u at *
    generalize 2 * (n : Rat) + 3 = v at *
    grind
theorem odd_half {z b : Rat} (hz : AB z (1 / 2)) (n : Nat) (h : AB (pw z (2 * n + 1) / (2 * (n : Rat) + 1)) b) : AB (pw z (2 * (n + 1) + 1) / (2 * ((n + 1 : Nat) : Rat) + 1)) (b / 2) := by
  have hn : (0 : Rat) ≤ (n : Rat) := by exact_mod_cast Nat.zero_le n
  have e3 : ((n + 1 : Nat) : Rat) = (n : Rat) + 1 := by simp
  have e4 : pw z (2 * (n + 1) + 1) = z * (z * pw z (2 * n + 1)) := rfl
  have e5 := rdm (a := pw z (2 * n + 1)) (show (0 : Rat) < 2 * (n : Rat) + 1 by grind)
  rw [e3, e4]
  refine rdiv_AB (by grind) ?_
  generalize pw z (2 * n + 1) / (2 * (n : Rat) + 1) = t at *
  rw [← e5]
  have h1 : AB (2 * (n : Rat) + 1) (2 * (n : Rat) + 1) := by constructor <;> grind
  have g := (hz.mul (hz.mul (h.mul h1)))
  refine g.mono ?_
  have := Rat.mul_nonneg hn h.nonneg
  have := h.nonneg
  grind
structure NearOne (n d : Int) : Prop where
  hn : 0 < n
  hd : 0 < d
  h1 : 3 * (n - d) ≤ n + d
  h2 : 3 * (d - n) ≤ n + d
def zI (n d : Int) (B : Nat) : Int × Int := ofI (n - d) (n + d) B
def lnT (n d : Int) (B : Nat) : Nat → Int × Int := logT B (zI n d B) (mulI B (zI n d B) (zI n d B))
def zR (n d : Int) : Rat := ((n - d : Int) : Rat) / ((n + d : Int) : Rat)
theorem zI_abs {n d : Int} (h : NearOne n d) (B : Nat) : Abs (zI n d B) (Q B / 3 + 1) := by
  obtain ⟨h0, h0', h1, h2⟩ := h
  have q := Q_pos B
  have g1 := Int.mul_le_mul_of_nonneg_right h1 (show 0 ≤ Q B by omega)
  have g2 := Int.mul_le_mul_of_nonneg_right h2 (show 0 ≤ Q B by omega)
  have g3 := Int.mul_le_mul_of_nonneg_right (show Q B ≤ 3 * (Q B / 3 + 1) by omega) (show 0 ≤ n + d by omega)
  have e1 : 3 * (Q B / 3 + 1) * (n + d) = 3 * ((Q B / 3 + 1) * (n + d)) := Int.mul_assoc _ _ _
  have e2 : 3 * (n - d) * Q B = 3 * ((n - d) * Q B) := Int.mul_assoc _ _ _
  have e3 : 3 * (d - n) * Q B = -(3 * ((n - d) * Q B)) := by grind
  have e4 : (n + d) * Q B = Q B * (n + d) := Int.mul_comm _ _
  exact ofI_abs (by omega) B (by omega) (by omega)
theorem sq_small {q : Int} (hq : 65536 ≤ q) : (q / 3 + 1) * (q / 3 + 1) * 8 ≤ q * q := by
  have h1 : 3 * (q / 3 + 1) ≤ q + 3 := by omega
  have h2 := Int.mul_le_mul h1 h1 (by omega) (by omega)
  have h3 := Int.mul_le_mul_of_nonneg_right hq (show 0 ≤ q by omega)
  grind
theorem sqI_abs {n d : Int} (h : NearOne n d) {B : Nat} (hB : 16 ≤ B) : Abs (mulI B (zI n d B) (zI n d B)) (Q (B - 3)) := by
  refine mulI_abs (zI_abs h B) (zI_abs h B) ?_
  have e := Q_three (show 3 ≤ B by omega)
  have h1 := Q_mono hB
  have h2 : Q 16 = 65536 := rfl
  have h3 := sq_small (q := Q B) (by omega)
  have e2 : Q B * Q B = 8 * (Q (B - 3) * Q B) := by rw [e]; grind
  omega
theorem zI_absB {n d : Int} (h : NearOne n d) {B : Nat} (hB : 16 ≤ B) : Abs (zI n d B) (Q B) := (zI_abs h B).mono (by
  have h1 := Q_mono hB
  have h2 : Q 16 = 65536 := rfl
  omega)
theorem sqI_wide {n d : Int} (h : NearOne n d) {B : Nat} (hB : 16 ≤ B) : (mulI B (zI n d B) (zI n d B)).2 - (mulI B (zI n d B) (zI n d B)).1 ≤ 2 := by
  have hd : 0 < n + d := by have := h.hn; have := h.hd; omega
  have l := ofI_le (n := n - d) hd B
  have w := ofI_wide (n := n - d) hd B
  have h1 := Q_mono hB
  have h2 : Q 16 = 65536 := rfl
  have p := Int.mul_le_mul_of_nonneg_left w (show 0 ≤ Q B / 3 + 1 by omega)
  exact mulI_wide (c := 1) (zI_abs h B) (zI_abs h B) l l (by
    show (Q B / 3 + 1) * ((ofI (n - d) (n + d) B).2 - (ofI (n - d) (n + d) B).1) + (Q B / 3 + 1) * ((ofI (n - d) (n + d) B).2 - (ofI (n - d) (n + d) B).1) ≤ 1 * Q B
    omega)
theorem lnT_abs {n d : Int} (h : NearOne n d) {B : Nat} (hB : 16 ≤ B) (k : Nat) : Abs (lnT n d B k) (Q (B - 3 * k)) := logT_abs (by omega) (zI_absB h hB) (sqI_abs h hB) k
theorem lnT_le {n d : Int} (h : NearOne n d) (B k : Nat) : (lnT n d B k).1 ≤ (lnT n d B k).2 := logT_le (ofI_le (by have := h.hn; have := h.hd; omega) B) k
theorem lnT_wide {n d : Int} (h : NearOne n d) {B : Nat} (hB : 16 ≤ B) (k : Nat) : (lnT n d B k).2 - (lnT n d B k).1 ≤ 6 :=
  logT_wide (by omega) (zI_absB h hB) (sqI_abs h hB) (ofI_le (by have := h.hn; have := h.hd; omega) B) (mulI_le B) (ofI_wide (by have := h.hn; have := h.hd; omega) B) (sqI_wide h hB) k
theorem ln_bound {n d : Int} (h : NearOne n d) {B N : Nat} (hB : 16 ≤ B) (hN : IsStop (lnT n d B) N) :
    (doneI (lnT n d B) N).1 ≤ (doneI (lnT n d B) N).2 ∧ Abs (doneI (lnT n d B) N) (2 * Q B) ∧ N ≤ B / 3 + 1 ∧ (doneI (lnT n d B) N).2 - (doneI (lnT n d B) N).1 ≤ ((N : Int) + 1) * 6 + 2 := by
  refine ⟨done_le (lnT_le h B) N, done_abs2 (s := 3) (by omega) (lnT_le h B) (lnT_abs h hB) hN, ?_, done_wide (lnT_wide h hB) hN⟩
  obtain ⟨N', n1, n2⟩ := stop_ex (s := 3) (by omega) (lnT_abs h hB)
  refine Nat.le_trans (Nat.not_lt.1 fun hlt => ?_) n1
  have := hN.2 N' hlt
  have := n2.1
  omega
theorem zR_AB {n d : Int} (h : NearOne n d) : AB (zR n d) (1 / 2) := by
  obtain ⟨h0, h0', h1, h2⟩ := h
  have hp : (0 : Rat) < ((n + d : Int) : Rat) := by exact_mod_cast (show 0 < n + d by omega)
  refine rdiv_AB hp ?_
  have g1 : ((3 * (n - d) : Int) : Rat) ≤ ((n + d : Int) : Rat) := cast_le h1
  have g2 : ((-(3 * (n - d)) : Int) : Rat) ≤ ((n + d : Int) : Rat) := cast_le (by omega)
  rw [Rat.intCast_neg] at g2
  rw [Rat.intCast_mul] at g1 g2
  have e : ((3 : Int) : Rat) = 3 := rfl
  rw [e] at g1 g2
  constructor <;> grind
theorem ln_has {n d : Int} (h : NearOne n d) (B N : Nat) : Iv B (doneI (lnT n d B) N) (fun M => Az (zR n d) M) := by
  have hz : Iv B (zI n d B) (fun _ => zR n d) := Iv.of B (by have := h.hn; have := h.hd; omega)
  exact done_has (lnT_le h B) (fun k _ => logT_has hz (hz.mul hz) k) 0 (fun M _ k b _ hb => odd_half (zR_AB h) k hb)
theorem ln_isLog {n d : Int} (h : NearOne n d) : IsLog (fun M => 2 * Az (zR n d) M) (fun _ => (n : Rat) / (d : Rat)) := by
  refine isLog_Az (z := fun _ => zR n d) 0 (fun _ _ => zR_AB h) (fun M _ => ?_)
  obtain ⟨h0, h0', h1, h2⟩ := h
  have hp : (0 : Rat) < ((n + d : Int) : Rat) := by exact_mod_cast (show 0 < n + d by omega)
  have hd : (0 : Rat) < (d : Rat) := by exact_mod_cast h0'
  have e1 := rdm (a := ((n - d : Int) : Rat)) hp
  have e2 := rdm (a := (n : Rat)) hd
  show (n : Rat) / (d : Rat) * (1 - zR n d) = 1 + zR n d
  unfold zR
  generalize ((n - d : Int) : Rat) / ((n + d : Int) : Rat) = z at *
  generalize (n : Rat) / (d : Rat) = r at *
  rw [Rat.intCast_sub, Rat.intCast_add] at e1
  rw [Rat.intCast_add] at hp
  have e3 : z * (r * d + d) = r * d - d := by rw [e2]; exact e1
  have e4 : (d : Rat) * (r * (1 - z) - (1 + z)) = 0 := by grind
  rcases Rat.mul_eq_zero.1 e4 with h | h
  · grind
  · grind
theorem pw_Q (k : Nat) : pw 2 k = (Q k : Rat) := by
  induction k with
  | zero => rfl
  | succ k ih =>
    have e : Q (k + 1) = 2 * Q k := rfl
    rw [e, Rat.intCast_mul]
    simp only [pw, ih]; rfl
def lnOf (a b : Int × Int) (k : Int) : Int × Int := if k < 0 then subI (timesI a 2) (timesI (timesI b 2) (-k)) else addI (timesI a 2) (timesI (timesI b 2) k)
def Bal (n d n' d' k : Int) : Prop := NearOne n' d' ∧ (0 ≤ k → n * d' = n' * d * Q k.toNat) ∧ (k < 0 → n * d' * Q (-k).toNat = n' * d)
theorem near2 : NearOne 2 1 := ⟨by omega, by omega, by omega, by omega⟩
theorem log_has {n d n' d' k : Int} (hn : 0 < n) (hd : 0 < d) (h : Bal n d n' d' k) (B N N2 : Nat) :
    ∃ l, IsLog l (fun _ => (n : Rat) / (d : Rat)) ∧ Iv B (lnOf (doneI (lnT n' d' B) N) (doneI (lnT 2 1 B) N2) k) l := by
  obtain ⟨h1, h2, h3⟩ := h
  have d0 : (0 : Rat) < (d : Rat) := by exact_mod_cast hd
  have d0' : (0 : Rat) < (d' : Rat) := by exact_mod_cast h1.hd
  have a1 := (ln_has h1 B N).times 2
  have a2 := (ln_has near2 B N2).times 2
  have l1 := ln_isLog h1
  have l2 := ln_isLog near2
  have e2 : ((2 : Nat) : Rat) = 2 := rfl
  have e21 : (fun _ : Nat => ((2 : Int) : Rat) / ((1 : Int) : Rat)) = fun _ => (2 : Rat) := funext fun _ => by
    have : ((2 : Int) : Rat) / ((1 : Int) : Rat) = 2 := by
      have e := rdm (a := ((2 : Int) : Rat)) (show (0 : Rat) < ((1 : Int) : Rat) by decide)
      have e1 : ((1 : Int) : Rat) = 1 := rfl
      have e3 : ((2 : Int) : Rat) = 2 := rfl
      rw [e1, e3] at e ⊢
      grind
    exact this
  rw [e21] at l2
  rw [e2] at a1 a2
  by_cases hk : k < 0
  · obtain ⟨j, rfl⟩ : ∃ j : Nat, k = -(j : Int) := ⟨(-k).toNat, by omega⟩
    have hq := h3 hk
    have ej : (-(-(j : Int))).toNat = j := by omega
    rw [ej] at hq
    have qj := Qr_pos j
    have l3 := (l2.times j).neg (s := fun _ => 1 / (Q j : Rat)) (Bdd.const _) 0 (fun M _ => by rw [pw_Q]; exact rdm qj)
    refine ⟨_, (l1.add l3).congr_r (null_zero.of_eq fun M => ?_), ?_⟩
    · show (n' : Rat) / (d' : Rat) * (1 / (Q j : Rat)) - (n : Rat) / (d : Rat) = 0
      have hq2 : ((n * d' * Q j : Int) : Rat) = ((n' * d : Int) : Rat) := by rw [hq]
      rw [Rat.intCast_mul, Rat.intCast_mul, Rat.intCast_mul] at hq2
      have f1 := rdm (a := (n' : Rat)) d0'
      have f2 := rdm (a := (n : Rat)) d0
      have f3 := rdm (a := (1 : Rat)) qj
      generalize (n' : Rat) / (d' : Rat) = r' at *
      generalize (n : Rat) / (d : Rat) = r at *
      generalize 1 / (Q j : Rat) = i at *
      rw [← f1, ← f2] at hq2
      have f4 : (d : Rat) * ((d' : Rat) * (r * (Q j : Rat) - r')) = 0 := by grind
      have f5 : r * (Q j : Rat) = r' := by
        rcases Rat.mul_eq_zero.1 f4 with h | h
        · grind
        · rcases Rat.mul_eq_zero.1 h with h | h
          · grind
          · grind
      rw [← f5]
      have : r * (Q j : Rat) * i - r = r * (i * (Q j : Rat)) - r := by grind
      rw [this, f3]; grind
    · unfold lnOf
      rw [if_pos hk]
      have := a1.sub (a2.times j)
      rw [show -(-(j : Int)) = (j : Int) by omega]
      refine Has.of_eq this fun M => ?_
      grind
  · obtain ⟨j, rfl⟩ : ∃ j : Nat, k = (j : Int) := ⟨k.toNat, by omega⟩
    have hq := h2 (by omega)
    have ej : ((j : Int)).toNat = j := by omega
    rw [ej] at hq
    have l3 := l2.times j
    refine ⟨_, (l1.add l3).congr_r (null_zero.of_eq fun M => ?_), ?_⟩
    · show (n' : Rat) / (d' : Rat) * pw 2 j - (n : Rat) / (d : Rat) = 0
      rw [pw_Q]
      have hq2 : ((n * d' : Int) : Rat) = ((n' * d * Q j : Int) : Rat) := by rw [hq]
      rw [Rat.intCast_mul, Rat.intCast_mul, Rat.intCast_mul] at hq2
      have f1 := rdm (a := (n' : Rat)) d0'
      have f2 := rdm (a := (n : Rat)) d0
      generalize (n' : Rat) / (d' : Rat) = r' at *
      generalize (n : Rat) / (d : Rat) = r at *
      rw [← f1, ← f2] at hq2
      have f4 : (d : Rat) * ((d' : Rat) * (r' * (Q j : Rat) - r)) = 0 := by grind
      rcases Rat.mul_eq_zero.1 f4 with h | h
      · grind
      · rcases Rat.mul_eq_zero.1 h with h | h
        · grind
        · exact h
    · unfold lnOf
      rw [if_neg hk]
      exact a1.add (a2.times j)
theorem log_bound {n' d' k : Int} (h : NearOne n' d') {B N N2 : Nat} (hB : 16 ≤ B) (hN : IsStop (lnT n' d' B) N) (hN2 : IsStop (lnT 2 1 B) N2) (K : Int) (hk1 : -K ≤ k) (hk2 : k ≤ K) :
    let o := lnOf (doneI (lnT n' d' B) N) (doneI (lnT 2 1 B) N2) k
    o.1 ≤ o.2 ∧ Abs o ((K + 1) * (4 * Q B)) ∧ o.2 - o.1 ≤ (K + 1) * (2 * (((B : Int) / 3 + 2) * 6 + 2)) := by
  obtain ⟨a1, a2, a3, a4⟩ := ln_bound h hB hN
  obtain ⟨b1, b2, b3, b4⟩ := ln_bound near2 hB hN2
  intro o
  have q := Q_pos B
  obtain ⟨W, hW⟩ : ∃ W : Int, W = ((B : Int) / 3 + 2) * 6 + 2 := ⟨_, rfl⟩
  have a5 : (doneI (lnT n' d' B) N).2 - (doneI (lnT n' d' B) N).1 ≤ W := by omega
  have b5 : (doneI (lnT 2 1 B) N2).2 - (doneI (lnT 2 1 B) N2).1 ≤ W := by omega
  rw [← hW]
  have ho : o = lnOf (doneI (lnT n' d' B) N) (doneI (lnT 2 1 B) N2) k := rfl
  clear_value o
  subst ho
  generalize doneI (lnT n' d' B) N = x at *
  generalize doneI (lnT 2 1 B) N2 = y at *
  obtain ⟨x1, x2, x3, x4⟩ := a2
  obtain ⟨y1, y2, y3, y4⟩ := b2
  clear a3 a4 b3 b4
  have hK : 0 ≤ K := by omega
  have eK : (K + 1) * (4 * Q B) = K * (4 * Q B) + 4 * Q B := by rw [Int.add_mul, Int.one_mul]
  have eW : (K + 1) * (2 * W) = K * (2 * W) + 2 * W := by rw [Int.add_mul, Int.one_mul]
  rw [eK, eW]
  have hj : ∀ j : Int, 0 ≤ j → j ≤ K → y.1 * 2 * j ≤ y.2 * 2 * j ∧ -(K * (4 * Q B)) ≤ y.1 * 2 * j ∧ y.1 * 2 * j ≤ K * (4 * Q B) ∧ -(K * (4 * Q B)) ≤ y.2 * 2 * j ∧ y.2 * 2 * j ≤ K * (4 * Q B) ∧ y.2 * 2 * j - y.1 * 2 * j ≤ K * (2 * W) := fun j j0 jK => by
    have c1 := abs_mul (x := y.1 * 2) (m := 4 * Q B) (by omega) (by omega) (show -K ≤ j by omega) jK
    have c2 := abs_mul (x := y.2 * 2) (m := 4 * Q B) (by omega) (by omega) (show -K ≤ j by omega) jK
    have c3 := Int.mul_le_mul_of_nonneg_right (show y.1 * 2 ≤ y.2 * 2 by omega) j0
    have c4 := Int.mul_le_mul (show y.2 * 2 - y.1 * 2 ≤ 2 * W by omega) jK j0 (by omega)
    rw [Int.sub_mul] at c4
    have e1 : 4 * Q B * K = K * (4 * Q B) := Int.mul_comm _ _
    have e2 : 2 * W * K = K * (2 * W) := Int.mul_comm _ _
    omega
  unfold lnOf
  split
  · obtain ⟨c1, c2, c3, c4, c5, c6⟩ := hj (-k) (by omega) (by omega)
    simp only [subI, timesI, Abs]
    omega
  · obtain ⟨c1, c2, c3, c4, c5, c6⟩ := hj k (by omega) (by omega)
    simp only [addI, timesI, Abs]
    omega
end Go.Proofs.Ytgmnknmjainabab
namespace Go.Proofs.Ytgmnknmjainabab
open Ex
theorem Iv.mono {B : Nat} {a b : Int × Int} {x : Nat → Rat} (h : Iv B a x) (h1 : b.1 ≤ a.1) (h2 : a.2 ≤ b.2) : Iv B b x := by
  have q := Qr_pos B
  exact Has.mono h (rdiv_le q (by rw [rdm q]; exact cast_le h1)) (rdiv_le q (by rw [rdm q]; exact cast_le h2))
end Go.Proofs.Ytgmnknmjainabab
namespace Go.Proofs.Ytgmnknmjainabab
open Ex
namespace Ex
theorem Bdd.half {l : Nat → Rat} (h : Bdd l) : Bdd (fun M => l M / 2) := by
  obtain ⟨K, N, k0, hk⟩ := h
  exact ⟨K, N, k0, fun M hM => by obtain ⟨h1, h2⟩ := hk M hM; constructor <;> grind⟩
end Ex
structure RInv (B : Nat) (l : Nat → Rat) (i : Nat) (a : Int × Int) : Prop where
  has : Iv B a (Ev (fun M => l M / (Q i : Rat)))
  lo : Q B ≤ a.1
  le : a.1 ≤ a.2
  hi : (a.2 - Q B - 2) * Q i ≤ Q B
theorem Bdd.over {l : Nat → Rat} (h : Bdd l) (i : Nat) : Bdd (fun M => l M / (Q i : Rat)) := by
  obtain ⟨K, N, k0, hk⟩ := h
  have q := Qr_pos i
  refine ⟨K, N, k0, fun M hM => rdiv_AB q ((hk M hM).mono ?_)⟩
  have h1 : ((1 : Int) : Rat) ≤ (Q i : Rat) := cast_le (by have := Q_pos i; omega)
  have e1 : ((1 : Int) : Rat) = 1 := rfl
  rw [e1] at h1
  have := Rat.mul_nonneg (show 0 ≤ (Q i : Rat) - 1 by grind) k0
  grind
end Go.Proofs.Ytgmnknmjainabab
namespace Go.Proofs.Ytgmnknmjainabab
open Ex
theorem bal_isLog {n d n' d' k : Int} {l1 l2 : Nat → Rat} (hd : 0 < d) (h : Bal n d n' d' k) (i1 : IsLog l1 (fun _ => (n' : Rat) / (d' : Rat))) (i2 : IsLog l2 (fun _ => (2 : Rat))) :
    IsLog (fun M => l1 M + (k : Rat) * l2 M) (fun _ => (n : Rat) / (d : Rat)) := by
  obtain ⟨h1, h2, h3⟩ := h
  have d0 : (0 : Rat) < (d : Rat) := by exact_mod_cast hd
  have d0' : (0 : Rat) < (d' : Rat) := by exact_mod_cast h1.hd
  by_cases hk : k < 0
  · obtain ⟨j, rfl⟩ : ∃ j : Nat, k = -(j : Int) := ⟨(-k).toNat, by omega⟩
    have hq := h3 hk
    have ej : (-(-(j : Int))).toNat = j := by omega
    rw [ej] at hq
    have qj := Qr_pos j
    have l3 := (i2.times j).neg (s := fun _ => 1 / (Q j : Rat)) (Bdd.const _) 0 (fun M _ => by rw [pw_Q]; exact rdm qj)
    refine ((i1.add l3).congr_r (null_zero.of_eq fun M => ?_)).congr (null_zero.of_eq fun M => ?_)
    · show (n' : Rat) / (d' : Rat) * (1 / (Q j : Rat)) - (n : Rat) / (d : Rat) = 0
      have hq2 : ((n * d' * Q j : Int) : Rat) = ((n' * d : Int) : Rat) := by rw [hq]
      rw [Rat.intCast_mul, Rat.intCast_mul, Rat.intCast_mul] at hq2
      have f1 := rdm (a := (n' : Rat)) d0'
      have f2 := rdm (a := (n : Rat)) d0
      have f3 := rdm (a := (1 : Rat)) qj
      generalize (n' : Rat) / (d' : Rat) = r' at *
      generalize (n : Rat) / (d : Rat) = r at *
      generalize 1 / (Q j : Rat) = i at *
      rw [← f1, ← f2] at hq2
      have f4 : (d : Rat) * ((d' : Rat) * (r * (Q j : Rat) - r')) = 0 := by grind
      have f5 : r * (Q j : Rat) = r' := by
        rcases Rat.mul_eq_zero.1 f4 with h | h
        · grind
        · rcases Rat.mul_eq_zero.1 h with h | h
          · grind
          · grind
      rw [← f5]
      have : r * (Q j : Rat) * i - r = r * (i * (Q j : Rat)) - r := by grind
      rw [this, f3]; grind
    · have e : ((-(j : Int) : Int) : Rat) = -(j : Rat) := by rw [Rat.intCast_neg]; rfl
      rw [e]; grind
  · obtain ⟨j, rfl⟩ : ∃ j : Nat, k = (j : Int) := ⟨k.toNat, by omega⟩
    have hq := h2 (by omega)
    have ej : ((j : Int)).toNat = j := by omega
    rw [ej] at hq
    have l3 := i2.times j
    refine (i1.add l3).congr_r (null_zero.of_eq fun M => ?_)
    show (n' : Rat) / (d' : Rat) * pw 2 j - (n : Rat) / (d : Rat) = 0
    rw [pw_Q]
    have hq2 : ((n * d' : Int) : Rat) = ((n' * d * Q j : Int) : Rat) := by rw [hq]
    rw [Rat.intCast_mul, Rat.intCast_mul, Rat.intCast_mul] at hq2
    have f1 := rdm (a := (n' : Rat)) d0'
    have f2 := rdm (a := (n : Rat)) d0
    generalize (n' : Rat) / (d' : Rat) = r' at *
    generalize (n : Rat) / (d : Rat) = r at *
    rw [← f1, ← f2] at hq2
    have f4 : (d : Rat) * ((d' : Rat) * (r' * (Q j : Rat) - r)) = 0 := by grind
    rcases Rat.mul_eq_zero.1 f4 with h | h
    · grind
    · rcases Rat.mul_eq_zero.1 h with h | h
      · grind
      · exact h
end Go.Proofs.Ytgmnknmjainabab
namespace Go.Proofs.Ytgmnknmjainabab
open Go.RowKit
attribute [local go_sem ↓] Go.wp_at_zero Go.wp_at_succ
theorem ceil_any (neg neg2 : Bool) (a c : Option Addr) (n m cap cap2 k k2 : Nat) (x y : Int) (w : World) (h1 : IntAt w neg a n cap k x) (h2 : IntAt w neg2 c m cap2 k2 y) (hk : k ≤ 800000000) (hy : 0 < y) :
    Calls Try.prog 114 #[.agg #[.bool neg, .slice a n cap], .agg #[.bool neg2, .slice c m cap2]] w (FloorAns w k (-(-x / y))) :=
  ceil_core neg neg2 a c n m cap cap2 k k2 x y w h1 h2 hk (fun w' neg' a' n' cap' g1 g2 => floor_any neg' neg2 a' c n' m cap' cap2 k k2 (-x) y w' g1 g2 (by omega) hy)
end Go.Proofs.Ytgmnknmjainabab
