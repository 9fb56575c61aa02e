/-
  Texts Base, ExpM, HasM, ExpS, ErfM, SmlM, ExL: what they hold is told in the last text.
-/
import Derived.WalkKit
set_option linter.unnecessarySimpa false
set_option linter.unusedSimpArgs false
set_option linter.unusedVariables false
namespace Go.Proofs.Ytgmnknmjainabab
open Go.RowKit
def P : Nat → Int
  | 0 => 1
  | n + 1 => 65536 * P n
theorem P_pos (n : Nat) : 1 ≤ P n := by
  induction n with
  | zero => simp [P]
  | succ n ih => simp only [P]; omega
theorem P_add (m n : Nat) : P (m + n) = P m * P n := by
  induction n with
  | zero => simp [P]
  | succ n ih => rw [Nat.add_succ]; simp only [P]; rw [ih, Int.mul_left_comm]
theorem P_mono {m n : Nat} (h : m ≤ n) : P m ≤ P n := by
  induction n with
  | zero => have : m = 0 := by omega
            subst this; exact Int.le_refl _
  | succ n ih =>
    by_cases hm : m = n + 1
    · subst hm; exact Int.le_refl _
    · have := ih (by omega)
      have := P_pos n
      simp only [P]; omega
def V (d : Nat → Int) : Nat → Int
  | 0 => 0
  | n + 1 => V d n + d n * P n
def Dgs (d : Nat → Int) : Prop := ∀ j, 0 ≤ d j ∧ d j < 65536
theorem V_nonneg {d : Nat → Int} (h : Dgs d) (n : Nat) : 0 ≤ V d n := by
  induction n with
  | zero => simp [V]
  | succ n ih =>
    simp only [V]
    have := Int.mul_nonneg (h n).1 (Int.le_of_lt (Int.lt_of_lt_of_le (by decide) (P_pos n)))
    omega
theorem V_lt {d : Nat → Int} (h : Dgs d) (n : Nat) : V d n < P n := by
  induction n with
  | zero => simp [V, P]
  | succ n ih =>
    simp only [V, P]
    have h1 : d n * P n ≤ 65535 * P n := Int.mul_le_mul_of_nonneg_right (by have := (h n).2; omega) (by have := P_pos n; omega)
    omega
theorem V_congr {d e : Nat → Int} (n : Nat) (h : ∀ j, j < n → d j = e j) : V d n = V e n := by
  induction n with
  | zero => rfl
  | succ n ih => simp only [V]; rw [ih (fun j hj => h j (by omega)), h n (by omega)]
structure Dig (w : World) (a : Option Addr) (n cap : Nat) (d : Nat → Int) : Prop where
  at_ : 0 < n → ∃ b off, a = some ⟨b, off, none⟩ ∧ b < w.heap.size ∧ ∀ j, j < n → w.cell? ⟨b, off + j, none⟩ = some (.int .u16 (d j))
  dgs : Dgs d
  le : n ≤ cap
  room : n ≤ 70368744177664
theorem Dig.below {w w' : World} {a : Option Addr} {n cap : Nat} {d : Nat → Int} (h : Dig w a n cap d) (hb : Below w.heap.size w w') : Dig w' a n cap d :=
  ⟨fun hn => by
    obtain ⟨b, off, h1, h2, h3⟩ := h.at_ hn
    exact ⟨b, off, h1, Nat.lt_of_lt_of_le h2 hb.size, fun j hj => (hb.cell (p := ⟨b, off + j, none⟩) h2).trans (h3 j hj)⟩, h.dgs, h.le, h.room⟩
theorem hide {p : Prop} (h : p) : Hid p := h
theorem unhide {p : Prop} (h : Hid p) : p := h
def lenOf : Value → Nat
  | .slice _ n _ => n
  | _ => 0
def rightB (neg : Bool) (n : Nat) (d : Nat → Int) : Bool := if n = 0 then !neg else d (n - 1) != 0
theorem bl1 (w : World) (o1 : Obj) : Below w.heap.size w (w.alloc o1) := (Below.refl _ _).alloc (Nat.le_refl _) _
theorem bl2 (w : World) (o1 o2 : Obj) : Below w.heap.size w ((w.alloc o1).alloc o2) := (bl1 w o1).alloc (by simp) _
theorem bl3 (w : World) (o1 o2 o3 : Obj) : Below w.heap.size w (((w.alloc o1).alloc o2).alloc o3) := (bl2 w o1 o2).alloc (by simp; omega) _
theorem bl4 (w : World) (o1 o2 o3 o4 : Obj) : Below w.heap.size w ((((w.alloc o1).alloc o2).alloc o3).alloc o4) := (bl3 w o1 o2 o3).alloc (by simp; omega) _
theorem bthen {w w1 w2 : World} (h : Below w.heap.size w w1) (k : Below w1.heap.size w1 w2) : Below w.heap.size w w2 := h.trans (k.mono h.size)
def Q : Nat → Int
  | 0 => 1
  | n + 1 => 2 * Q n
def blenF : Nat → Int → Int
  | 0, _ => 0
  | f + 1, x => if x ≤ 0 then 0 else 1 + blenF f (x / 2)
def lenZ (n : Nat) (d : Nat → Int) : Int := if n = 0 then 0 else 16 * ((n : Int) - 1) + blenF 16 (d (n - 1))
theorem blenF_bd (f : Nat) (x : Int) : 0 ≤ blenF f x ∧ blenF f x ≤ f := by
  induction f generalizing x with
  | zero => simp [blenF]
  | succ f ih => simp only [blenF]; have := ih (x / 2); split <;> omega
def trimN (d : Nat → Int) : Nat → Nat
  | 0 => 0
  | n + 1 => if d n = 0 then trimN d n else n + 1
theorem trimN_le (d : Nat → Int) (n : Nat) : trimN d n ≤ n := by
  induction n with
  | zero => simp [trimN]
  | succ n ih => simp only [trimN]; split <;> omega
theorem trimN_V (d : Nat → Int) (n : Nat) : V d (trimN d n) = V d n := by
  induction n with
  | zero => simp [trimN]
  | succ n ih =>
    simp only [trimN]; split
    · rename_i h; rw [ih]; simp [V, h]
    · rfl
theorem trimN_top (d : Nat → Int) (n : Nat) : trimN d n = 0 ∨ d (trimN d n - 1) ≠ 0 := by
  induction n with
  | zero => simp [trimN]
  | succ n ih =>
    simp only [trimN]; split
    · exact ih
    · rename_i h; right; simpa using h
theorem trimN_idem {d : Nat → Int} {n : Nat} (h : n = 0 ∨ d (n - 1) ≠ 0) : trimN d n = n := by
  cases n with
  | zero => rfl
  | succ n => simp only [trimN]; rw [if_neg]; simpa using h
def sgn (neg : Bool) (x : Int) : Int := if neg then -x else x
theorem Dig.take {w : World} {a : Option Addr} {n cap : Nat} {d : Nat → Int} (h : Dig w a n cap d) {m : Nat} (hm : m ≤ n) : Dig w a m cap d :=
  ⟨fun hm0 => by
    obtain ⟨b, off, h1, h2, h3⟩ := h.at_ (by omega)
    exact ⟨b, off, h1, h2, fun j hj => h3 j (by omega)⟩, h.dgs, Nat.le_trans hm h.le, Nat.le_trans hm h.room⟩
def IntAt (w : World) (neg : Bool) (a : Option Addr) (n cap : Nat) (k : Nat) (z : Int) : Prop :=
  ∃ d, Dig w a n cap d ∧ (n = 0 ∨ d (n - 1) ≠ 0) ∧ (n = 0 → neg = false) ∧ n ≤ k ∧ z = sgn neg (V d n)
theorem IntAt.below {w w' : World} {neg : Bool} {a : Option Addr} {n cap k : Nat} {z : Int} (h : IntAt w neg a n cap k z) (hb : Below w.heap.size w w') : IntAt w' neg a n cap k z := by
  obtain ⟨d, h2, h3⟩ := h
  exact ⟨d, h2.below hb, h3⟩
theorem IntAt.mono {w : World} {neg : Bool} {a : Option Addr} {n cap k k' : Nat} {z : Int} (h : IntAt w neg a n cap k z) (hk : k ≤ k') : IntAt w neg a n cap k' z := by
  obtain ⟨d, h2, h3, h4, h5, h6⟩ := h
  exact ⟨d, h2, h3, h4, by omega, h6⟩
theorem Dig.store {w : World} {a : Option Addr} {n cap : Nat} {d : Nat → Int} (h : Dig w a n cap d) {p : Addr} {v : Value} (hp : w.cell? p = some v) (hv : ∀ x, v ≠ .int .u16 x) (u : Value) : Dig (w.setCell p u) a n cap d :=
  ⟨fun hn => by
    obtain ⟨b, off, h1, h2, h3⟩ := h.at_ hn
    refine ⟨b, off, h1, by simpa [World.setCell] using h2, fun j hj => ?_⟩
    have h4 := h3 j hj
    rw [World.cell?_setCell_other]
    · exact h4
    · intro e
      rw [← e, hp] at h4
      exact hv _ (Option.some.inj h4), h.dgs, h.le, h.room⟩
theorem IntAt.store {w : World} {neg : Bool} {a : Option Addr} {n cap k : Nat} {z : Int} (h : IntAt w neg a n cap k z) {p : Addr} {v : Value} (hp : w.cell? p = some v) (hv : ∀ x, v ≠ .int .u16 x) (u : Value) : IntAt (w.setCell p u) neg a n cap k z := by
  obtain ⟨d, h2, h3⟩ := h
  exact ⟨d, h2.store hp hv u, h3⟩
theorem IntAt.put2 {w : World} {neg : Bool} {a : Option Addr} {n cap k : Nat} {z : Int} (h : IntAt w neg a n cap k z) {B : Nat} {x0 : Bool} {y0 : Option Addr} {y1 y2 : Nat} (h0 : w.cell? ⟨B, 0, none⟩ = some (.bool x0))
    (h1 : w.cell? ⟨B, 1, none⟩ = some (.slice y0 y1 y2)) (u0 u1 : Value) : IntAt ((w.setCell ⟨B, 0, none⟩ u0).setCell ⟨B, 1, none⟩ u1) neg a n cap k z := by
  have hne : (⟨B, 0, none⟩ : Addr) ≠ ⟨B, 1, none⟩ := by simp
  have h2 : (w.setCell ⟨B, 0, none⟩ u0).cell? ⟨B, 1, none⟩ = some (.slice y0 y1 y2) := (World.cell?_setCell_other _ _ _ _ hne).trans h1
  exact (h.store h0 (fun _ e => by cases e) u0).store h2 (fun _ e => by cases e) u1
theorem bcell {W w1 : World} (hb : Below W.heap.size W w1) : (∀ b o, b < W.heap.size → w1.cell? ⟨b, o, none⟩ = W.cell? ⟨b, o, none⟩) ∧ (∀ b o, b < W.heap.size → w1.frozen? ⟨b, o, none⟩ = W.frozen? ⟨b, o, none⟩) :=
  ⟨fun b o h => hb.cell (p := ⟨b, o, none⟩) h, fun b o h => hb.frozen (p := ⟨b, o, none⟩) h⟩
theorem near {W w1 : World} (H : Nat) (hH : H ≤ W.heap.size) (hb : Below W.heap.size W w1) : H ≤ w1.heap.size ∧ (∀ b o, b + 1 ≤ H → w1.cell? ⟨b, o, none⟩ = W.cell? ⟨b, o, none⟩) ∧ (∀ b o, b + 1 ≤ H → w1.frozen? ⟨b, o, none⟩ = W.frozen? ⟨b, o, none⟩) :=
  ⟨Nat.le_trans hH hb.size, fun b o h => hb.cell (p := ⟨b, o, none⟩) (Nat.lt_of_lt_of_le h hH), fun b o h => hb.frozen (p := ⟨b, o, none⟩) (Nat.lt_of_lt_of_le h hH)⟩
end Go.Proofs.Ytgmnknmjainabab
namespace Go.Proofs.Ytgmnknmjainabab.Ex
def S (f : Nat → Rat) : Nat → Rat
  | 0 => 0
  | n + 1 => S f n + f n
theorem S_add (f g : Nat → Rat) (n : Nat) : S (fun i => f i + g i) n = S f n + S g n := by
  induction n with
  | zero => simp [S]; try grind
  | succ n ih => simp only [S, ih]; grind
theorem S_mul (c : Rat) (f : Nat → Rat) (n : Nat) : S (fun i => c * f i) n = c * S f n := by
  induction n with
  | zero => simp [S]; try grind
  | succ n ih => simp only [S, ih]; grind
theorem S_congr {f g : Nat → Rat} (n : Nat) (h : ∀ i, i < n → f i = g i) : S f n = S g n := by
  induction n with
  | zero => rfl
  | succ n ih => simp only [S]; rw [ih (fun i hi => h i (by omega)), h n (by omega)]
theorem S_first (f : Nat → Rat) (n : Nat) : S f (n + 1) = f 0 + S (fun i => f (i + 1)) n := by
  induction n with
  | zero => simp [S]; grind
  | succ n ih => rw [S, ih]; simp only [S]; grind
def tm (x : Rat) : Nat → Rat
  | 0 => 1
  | n + 1 => tm x n * x / ((n : Rat) + 1)
theorem pos1 (n : Nat) : (0 : Rat) < (n : Rat) + 1 := by
  have : (0:Rat) ≤ (n : Rat) := by exact_mod_cast Nat.zero_le n
  grind
theorem tm_succ (x : Rat) (n : Nat) : ((n : Rat) + 1) * tm x (n + 1) = x * tm x n := by
  simp only [tm]
  have := pos1 n
  grind
def cv (a b : Nat → Rat) (n : Nat) : Rat := S (fun i => a i * b (n - i)) (n + 1)
theorem cv_tm (x y : Rat) (n : Nat) : cv (tm x) (tm y) n = tm (x + y) n := by
  induction n with
  | zero => simp [cv, S, tm]; grind
  | succ n ih =>
    have h := pos1 n
    have h1 : ((n : Rat) + 1) * cv (tm x) (tm y) (n + 1) = (x + y) * cv (tm x) (tm y) n := by
      have e1 : ((n : Rat) + 1) * cv (tm x) (tm y) (n + 1) = S (fun i => (i : Rat) * tm x i * tm y (n + 1 - i) + tm x i * ((n + 1 - i : Nat) : Rat) * tm y (n + 1 - i)) (n + 2) := by
        unfold cv
        rw [← S_mul]
        refine S_congr _ fun i hi => ?_
        have : ((n : Rat) + 1) = (i : Rat) + ((n + 1 - i : Nat) : Rat) := by
          have : (n + 1 : Nat) = i + (n + 1 - i) := by omega
          have := congrArg (fun k : Nat => (k : Rat)) this
          simp at this
          grind
        rw [this]; grind
      rw [e1, S_add]
      have e2 : S (fun i => (i : Rat) * tm x i * tm y (n + 1 - i)) (n + 2) = x * cv (tm x) (tm y) n := by
        rw [S_first]
        simp
        rw [Rat.zero_add]
        unfold cv
        rw [← S_mul]
        refine S_congr _ fun i hi => ?_
        have := tm_succ x i
        grind
      have e3 : S (fun i => tm x i * ((n + 1 - i : Nat) : Rat) * tm y (n + 1 - i)) (n + 2) = y * cv (tm x) (tm y) n := by
        rw [S]
        simp
        rw [Rat.add_zero]
        unfold cv
        rw [← S_mul]
        refine S_congr _ fun i hi => ?_
        have e : n + 1 - i = (n - i) + 1 := by omega
        rw [e]
        have := tm_succ y (n - i)
        simp
        grind
      rw [e2, e3]; grind
    have h2 := tm_succ (x + y) n
    rw [ih] at h1
    have : ((n : Rat) + 1) * cv (tm x) (tm y) (n + 1) = ((n : Rat) + 1) * tm (x + y) (n + 1) := by rw [h1, h2]
    have hz : ((n : Rat) + 1) ≠ 0 := by grind
    have h5 : ((n : Rat) + 1) * (cv (tm x) (tm y) (n + 1) - tm (x + y) (n + 1)) = 0 := by grind
    rcases Rat.mul_eq_zero.1 h5 with h6 | h6
    · exact absurd h6 hz
    · grind
def E (x : Rat) (M : Nat) : Rat := S (tm x) M
theorem E_add (x y : Rat) (M : Nat) : E (x + y) M = S (fun i => tm x i * E y (M - i)) M := by
  induction M with
  | zero => rfl
  | succ M ih =>
    have h1 : E (x + y) (M + 1) = E (x + y) M + tm (x + y) M := rfl
    rw [h1, ih, ← cv_tm]
    have h2 : S (fun i => tm x i * E y (M + 1 - i)) (M + 1) = S (fun i => tm x i * E y (M - i) + tm x i * tm y (M - i)) (M + 1) := by
      refine S_congr _ fun i hi => ?_
      have e : M + 1 - i = (M - i) + 1 := by omega
      have e2 : E y ((M - i) + 1) = E y (M - i) + tm y (M - i) := rfl
      rw [e, e2]; grind
    rw [h2, S_add]
    have h3 : S (fun i => tm x i * E y (M - i)) (M + 1) = S (fun i => tm x i * E y (M - i)) M := by
      simp only [S]
      have : M - M = 0 := by omega
      rw [this]
      have : E y 0 = 0 := rfl
      rw [this]; grind
    rw [h3]; rfl
theorem E_diff (x y : Rat) (M : Nat) : E x M * E y M - E (x + y) M = S (fun i => tm x i * (E y M - E y (M - i))) M := by
  rw [E_add]
  have h1 : E x M * E y M = S (fun i => E y M * tm x i) M := by rw [S_mul]; unfold E; grind
  rw [h1]
  have h2 : S (fun i => E y M * tm x i) M = S (fun i => tm x i * (E y M - E y (M - i))) M + S (fun i => tm x i * E y (M - i)) M := by
    rw [← S_add]
    refine S_congr _ fun i hi => ?_
    grind
  rw [h2]; grind
def AB (t b : Rat) : Prop := -b ≤ t ∧ t ≤ b
theorem AB.nonneg {t b : Rat} (h : AB t b) : 0 ≤ b := by obtain ⟨h1, h2⟩ := h; grind
theorem AB.mul {s t a b : Rat} (h : AB s a) (k : AB t b) : AB (s * t) (a * b) := by
  obtain ⟨h1, h2⟩ := h
  obtain ⟨k1, k2⟩ := k
  have p1 := Rat.mul_nonneg (show 0 ≤ a - s by grind) (show 0 ≤ b + t by grind)
  have p2 := Rat.mul_nonneg (show 0 ≤ a + s by grind) (show 0 ≤ b - t by grind)
  have p3 := Rat.mul_nonneg (show 0 ≤ a - s by grind) (show 0 ≤ b - t by grind)
  have p4 := Rat.mul_nonneg (show 0 ≤ a + s by grind) (show 0 ≤ b + t by grind)
  constructor <;> grind
theorem AB.add {s t a b : Rat} (h : AB s a) (k : AB t b) : AB (s + t) (a + b) := by
  obtain ⟨h1, h2⟩ := h
  obtain ⟨k1, k2⟩ := k
  constructor <;> grind
theorem AB.mono {s a b : Rat} (h : AB s a) (k : a ≤ b) : AB s b := by
  obtain ⟨h1, h2⟩ := h
  constructor <;> grind
theorem AB.neg {s a : Rat} (h : AB s a) : AB (-s) a := by
  obtain ⟨h1, h2⟩ := h
  constructor <;> grind
theorem S_AB {f g : Nat → Rat} (n : Nat) (h : ∀ i, i < n → AB (f i) (g i)) : AB (S f n) (S g n) := by
  induction n with
  | zero => simp only [S]; constructor <;> grind
  | succ n ih => simp only [S]; exact (ih (fun i hi => h i (by omega))).add (h n (by omega))
def q4 : Nat → Rat
  | 0 => 1
  | n + 1 => q4 n / 4
theorem q4_pos (n : Nat) : 0 < q4 n := by
  induction n with
  | zero => simp only [q4]; grind
  | succ n ih => simp only [q4]; grind
theorem q4_add (a b : Nat) : q4 (a + b) = q4 a * q4 b := by
  induction b with
  | zero => simp only [q4, Nat.add_zero]; grind
  | succ b ih => rw [← Nat.add_assoc]; simp only [q4, ih]; grind
theorem E_sub (y : Rat) (K : Rat) (hK : ∀ i, AB (tm y i) (K * q4 i)) (a i : Nat) : AB (E y (a + i) - E y a) (2 * K * (q4 a - q4 (a + i))) := by
  induction i with
  | zero => simp only [Nat.add_zero]; constructor <;> grind
  | succ i ih =>
    have e : E y (a + (i + 1)) = E y (a + i) + tm y (a + i) := rfl
    have e2 : q4 (a + (i + 1)) = q4 (a + i) / 4 := rfl
    rw [e, e2]
    have h := hK (a + i)
    have hn := h.nonneg
    have := ih.add h
    have h3 : E y (a + i) + tm y (a + i) - E y a = E y (a + i) - E y a + tm y (a + i) := by grind
    rw [h3]
    refine this.mono ?_
    grind
theorem S_const (c : Rat) (n : Nat) : S (fun _ => c) n = n * c := by
  induction n with
  | zero => simp [S]
  | succ n ih =>
    simp only [S, ih]
    have : ((n + 1 : Nat) : Rat) = (n : Rat) + 1 := by simp
    rw [this]; grind
theorem E_mul (x y K L : Rat) (hK : ∀ i, AB (tm x i) (K * q4 i)) (hL : ∀ i, AB (tm y i) (L * q4 i)) (M : Nat) : AB (E x M * E y M - E (x + y) M) (M * (2 * K * L * q4 M)) := by
  rw [E_diff, ← S_const]
  refine S_AB _ fun i hi => ?_
  have h1 := E_sub y L hL (M - i) i
  rw [show M - i + i = M by omega] at h1
  have h2 := (hK i).mul h1
  refine h2.mono ?_
  have e : q4 M = q4 i * q4 (M - i) := by rw [← q4_add]; congr 1; omega
  have hL0 := (hL M).nonneg
  have hK0 := (hK M).nonneg
  have p := q4_pos M
  have pK : 0 ≤ K := by
    have := (hK 0).nonneg
    simp only [q4] at this; grind
  have pL : 0 ≤ L := by
    have := (hL 0).nonneg
    simp only [q4] at this; grind
  have p5 := Rat.mul_nonneg (Rat.mul_nonneg pK pL) (Rat.mul_nonneg (Rat.le_of_lt (q4_pos i)) (Rat.le_of_lt p))
  rw [e] at p5 ⊢
  grind
theorem tm_step (x : Rat) (n : Nat) (c : Rat) (hx : AB (4 * x) ((n : Rat) + 1)) (h : AB (tm x n) (c * q4 n)) : AB (tm x (n + 1)) (c * q4 (n + 1)) := by
  have hp := pos1 n
  have e := tm_succ x n
  have h2 := hx.mul h
  have q := q4_pos n
  have e2 : q4 (n + 1) = q4 n / 4 := rfl
  rw [e2]
  have h3 : 4 * x * tm x n = 4 * ((n : Rat) + 1) * tm x (n + 1) := by grind
  rw [h3] at h2
  obtain ⟨g1, g2⟩ := h2
  constructor
  · refine Rat.not_lt.1 fun hn => ?_
    have := Rat.mul_pos hp (show 0 < -(c * (q4 n / 4)) - tm x (n + 1) by grind)
    grind
  · refine Rat.not_lt.1 fun hn => ?_
    have := Rat.mul_pos hp (show 0 < tm x (n + 1) - c * (q4 n / 4) by grind)
    grind
theorem AB.self (t : Rat) : ∃ b, AB t b := by
  by_cases h : 0 ≤ t
  · exact ⟨t, by constructor <;> grind⟩
  · exact ⟨-t, by constructor <;> grind⟩
theorem tm_upto (x : Rat) (n : Nat) : ∃ K, 0 ≤ K ∧ ∀ i, i ≤ n → AB (tm x i) (K * q4 i) := by
  induction n with
  | zero => exact ⟨1, by grind, fun i hi => by
      have : i = 0 := by omega
      subst this
      simp only [tm, q4]; constructor <;> grind⟩
  | succ n ih =>
    obtain ⟨K, h0, h⟩ := ih
    obtain ⟨b, hb⟩ := AB.self (tm x (n + 1))
    have q := q4_pos (n + 1)
    have hb0 := hb.nonneg
    have hq : b / q4 (n + 1) * q4 (n + 1) = b := by grind
    have hd : 0 ≤ b / q4 (n + 1) := by
      refine Rat.not_lt.1 fun hn => ?_
      have := Rat.mul_pos q (show 0 < -(b / q4 (n + 1)) by grind)
      grind
    refine ⟨K + b / q4 (n + 1), by grind, fun i hi => ?_⟩
    have qi := q4_pos i
    by_cases hin : i = n + 1
    · subst hin
      refine hb.mono ?_
      have := Rat.mul_nonneg h0 (Rat.le_of_lt q)
      grind
    · refine (h i (by omega)).mono ?_
      have := Rat.mul_nonneg hd (Rat.le_of_lt qi)
      grind
theorem rat_nat (x : Rat) : ∃ n : Nat, AB x (n : Rat) := by
  refine ⟨x.floor.natAbs + 1, ?_⟩
  have h1 := Rat.lt_floor_add_one x
  have h2 := Rat.floor_le x
  have h3 : ((x.floor + 1 : Int) : Rat) ≤ ((x.floor.natAbs + 1 : Nat) : Rat) := by
    have : x.floor + 1 ≤ ((x.floor.natAbs + 1 : Nat) : Int) := by omega
    exact_mod_cast this
  have h4 : -((x.floor.natAbs + 1 : Nat) : Rat) ≤ (x.floor : Rat) := by
    have : (0 : Int) ≤ x.floor + ((x.floor.natAbs + 1 : Nat) : Int) := by omega
    have h5 : (0 : Rat) ≤ ((x.floor + ((x.floor.natAbs + 1 : Nat) : Int) : Int) : Rat) := by exact_mod_cast this
    have h6 : ((x.floor + ((x.floor.natAbs + 1 : Nat) : Int) : Int) : Rat) = (x.floor : Rat) + ((x.floor.natAbs + 1 : Nat) : Rat) := by rw [Rat.intCast_add]; rfl
    grind
  constructor <;> grind
theorem tm_bd (x : Rat) : ∃ K, 0 ≤ K ∧ ∀ i, AB (tm x i) (K * q4 i) := by
  obtain ⟨n, hn⟩ := rat_nat (4 * x)
  obtain ⟨K, h0, h⟩ := tm_upto x n
  refine ⟨K, h0, fun i => ?_⟩
  by_cases hi : i ≤ n
  · exact h i hi
  · obtain ⟨j, rfl⟩ : ∃ j, i = n + j := ⟨i - n, by omega⟩
    clear hi
    induction j with
    | zero => exact h n (Nat.le_refl _)
    | succ j ih =>
      refine tm_step x (n + j) K (hn.mono ?_) ih
      have h1 : ((n + j : Nat) : Rat) = (n : Rat) + j := by simp
      have h2 : (0 : Rat) ≤ (j : Rat) := by exact_mod_cast Nat.zero_le j
      rw [h1]; grind
def Near (f g : Nat → Rat) : Prop := ∃ K, 0 ≤ K ∧ ∀ M : Nat, AB (f M - g M) (K * (M * q4 M))
theorem near_bd (M : Nat) : 0 ≤ (M : Rat) * q4 M := Rat.mul_nonneg (by exact_mod_cast Nat.zero_le M) (Rat.le_of_lt (q4_pos M))
theorem Near.refl (f : Nat → Rat) : Near f f := ⟨0, by grind, fun M => by constructor <;> grind⟩
theorem Near.symm {f g : Nat → Rat} (h : Near f g) : Near g f := by
  obtain ⟨K, h0, h⟩ := h
  refine ⟨K, h0, fun M => ?_⟩
  have := (h M).neg
  have e : -(f M - g M) = g M - f M := by grind
  rw [e] at this; exact this
theorem Near.trans {f g h : Nat → Rat} (h1 : Near f g) (h2 : Near g h) : Near f h := by
  obtain ⟨K, k0, h1⟩ := h1
  obtain ⟨L, l0, h2⟩ := h2
  refine ⟨K + L, by grind, fun M => ?_⟩
  have := (h1 M).add (h2 M)
  have e : f M - g M + (g M - h M) = f M - h M := by grind
  rw [e] at this
  refine this.mono ?_
  grind
def Bd (f : Nat → Rat) : Prop := ∃ K, ∀ M, AB (f M) K
theorem Bd.mul {f g : Nat → Rat} (h1 : Bd f) (h2 : Bd g) : Bd (fun M => f M * g M) := by
  obtain ⟨K, h1⟩ := h1
  obtain ⟨L, h2⟩ := h2
  exact ⟨K * L, fun M => (h1 M).mul (h2 M)⟩
theorem Near.mul {f f' g g' : Nat → Rat} (h1 : Near f f') (h2 : Near g g') (b1 : Bd f) (b2 : Bd g') : Near (fun M => f M * g M) (fun M => f' M * g' M) := by
  obtain ⟨K, k0, h1⟩ := h1
  obtain ⟨L, l0, h2⟩ := h2
  obtain ⟨A, b1⟩ := b1
  obtain ⟨B, b2⟩ := b2
  have a0 := (b1 0).nonneg
  have b0 := (b2 0).nonneg
  refine ⟨A * L + K * B, ?_, fun M => ?_⟩
  · have := Rat.mul_nonneg a0 l0
    have := Rat.mul_nonneg k0 b0
    grind
  · have e : f M * g M - f' M * g' M = f M * (g M - g' M) + (f M - f' M) * g' M := by grind
    show AB (f M * g M - f' M * g' M) _
    rw [e]
    refine (((b1 M).mul (h2 M)).add ((h1 M).mul (b2 M))).mono ?_
    grind
def sq (f : Nat → Rat) : Nat → Nat → Rat
  | 0 => f
  | t + 1 => fun M => sq f t M * sq f t M
def two : Nat → Rat
  | 0 => 1
  | t + 1 => 2 * two t
theorem nat_q4 (M : Nat) : (M : Rat) * ((M : Rat) + 1) * q4 M ≤ 1 := by
  induction M with
  | zero => simp only [q4]; grind
  | succ M ih =>
    have e : ((M + 1 : Nat) : Rat) = (M : Rat) + 1 := by simp
    have e2 : q4 (M + 1) = q4 M / 4 := rfl
    have q := q4_pos M
    have hM : (0 : Rat) ≤ (M : Rat) := by exact_mod_cast Nat.zero_le M
    rw [e, e2]
    rcases Nat.eq_zero_or_pos M with h | h
    · subst h
      simp only [q4]; grind
    · have h1 : (1 : Rat) ≤ (M : Rat) := by exact_mod_cast h
      have p := Rat.mul_nonneg (Rat.mul_nonneg (show 0 ≤ (M : Rat) + 1 by grind) (show 0 ≤ 3 * (M : Rat) - 2 by grind)) (Rat.le_of_lt q)
      grind
theorem Near.le {f g : Nat → Rat} (h : Near f g) {a b : Rat} {N : Nat} (h1 : ∀ M, N ≤ M → a ≤ f M) (h2 : ∀ M, N ≤ M → g M ≤ b) : a ≤ b := by
  obtain ⟨K, k0, h⟩ := h
  refine Rat.not_lt.1 fun hlt => ?_
  have hd : 0 < a - b := by grind
  obtain ⟨n, hn1, hn2⟩ := rat_nat (K / (a - b))
  have hKn : K ≤ (a - b) * n := by
    have e : K / (a - b) * (a - b) = K := by grind
    have := Rat.mul_nonneg (show 0 ≤ (n : Rat) - K / (a - b) by grind) (Rat.le_of_lt hd)
    grind
  obtain ⟨M, hM⟩ : ∃ M : Nat, M = N + n + 1 := ⟨_, rfl⟩
  have g1 := h1 M (by omega)
  have g2 := h2 M (by omega)
  obtain ⟨g3, g4⟩ := h M
  have q := q4_pos M
  have u := nat_q4 M
  have hMn : (n : Rat) + 1 ≤ (M : Rat) := by
    have : n + 1 ≤ M := by omega
    have h5 : ((n + 1 : Nat) : Rat) ≤ (M : Rat) := by exact_mod_cast this
    have h6 : ((n + 1 : Nat) : Rat) = (n : Rat) + 1 := by simp
    rw [h6] at h5; exact h5
  have hn0 : (0 : Rat) ≤ (n : Rat) := by exact_mod_cast Nat.zero_le n
  have hMq := near_bd M
  have s1 := Rat.mul_nonneg (show 0 ≤ (a - b) * n - K by grind) hMq
  have s2 := Rat.mul_nonneg (show 0 ≤ (M : Rat) - n by grind) hMq
  have s3 := Rat.mul_nonneg (Rat.le_of_lt hd) s2
  have s4 := Rat.mul_nonneg (Rat.le_of_lt hd) (show 0 ≤ 1 - (M : Rat) * ((M : Rat) + 1) * q4 M by grind)
  have s5 := Rat.mul_pos hd (show 0 < (M : Rat) * q4 M from Rat.mul_pos (by grind) q)
  grind
theorem tm_nonneg {x : Rat} (h : 0 ≤ x) (n : Nat) : 0 ≤ tm x n := by
  induction n with
  | zero => simp only [tm]; grind
  | succ n ih =>
    have e := tm_succ x n
    have hp := pos1 n
    refine Rat.not_lt.1 fun hn => ?_
    have h1 := Rat.mul_pos hp (show 0 < -tm x (n + 1) by grind)
    have h2 := Rat.mul_nonneg h ih
    grind
theorem E_one {x : Rat} (h : 0 ≤ x) {M : Nat} (hM : 1 ≤ M) : 1 ≤ E x M := by
  obtain ⟨n, rfl⟩ : ∃ n, M = n + 1 := ⟨M - 1, by omega⟩
  clear hM
  induction n with
  | zero => simp only [E, S, tm]; grind
  | succ n ih =>
    have e : E x (n + 1 + 1) = E x (n + 1) + tm x (n + 1) := rfl
    have := tm_nonneg h (n + 1)
    rw [e]; grind
end Go.Proofs.Ytgmnknmjainabab.Ex
namespace Go.Proofs.Ytgmnknmjainabab.Ex
def Null (f : Nat → Rat) : Prop := ∀ e : Rat, 0 < e → ∃ N : Nat, ∀ M, N ≤ M → AB (f M) e
def Has (a b : Rat) (x : Nat → Rat) : Prop := ∀ e : Rat, 0 < e → ∃ N : Nat, ∀ M, N ≤ M → a - e ≤ x M ∧ x M ≤ b + e
def Bdd (f : Nat → Rat) : Prop := ∃ K N, 0 ≤ K ∧ ∀ M : Nat, N ≤ M → AB (f M) K
theorem AB.sub {s t a b : Rat} (h : AB s a) (k : AB t b) : AB (s - t) (a + b) := by
  obtain ⟨h1, h2⟩ := h
  obtain ⟨k1, k2⟩ := k
  constructor <;> grind
theorem AB.zero {b : Rat} (h : 0 ≤ b) : AB 0 b := by constructor <;> grind
theorem rdm {a b : Rat} (h : 0 < b) : a / b * b = a := Rat.div_mul_cancel (by grind)
theorem rdiv_pos {a b : Rat} (ha : 0 < a) (hb : 0 < b) : 0 < a / b := by
  refine Rat.not_le.1 fun hn => ?_
  have h1 := Rat.mul_nonneg (show 0 ≤ -(a / b) by grind) (Rat.le_of_lt hb)
  have h2 := rdm (a := a) hb
  generalize a / b = q at *
  grind
theorem null_zero : Null (fun _ => 0) := fun e he => ⟨0, fun M _ => AB.zero (Rat.le_of_lt he)⟩
theorem Null.add {f g : Nat → Rat} (h : Null f) (k : Null g) : Null (fun M => f M + g M) := fun e he => by
  obtain ⟨N1, h1⟩ := h (e / 2) (by grind)
  obtain ⟨N2, h2⟩ := k (e / 2) (by grind)
  exact ⟨N1 + N2, fun M hM => ((h1 M (by omega)).add (h2 M (by omega))).mono (by grind)⟩
theorem Null.neg {f : Nat → Rat} (h : Null f) : Null (fun M => -f M) := fun e he => by
  obtain ⟨N1, h1⟩ := h e he
  exact ⟨N1, fun M hM => (h1 M hM).neg⟩
theorem Null.sub {f g : Nat → Rat} (h : Null f) (k : Null g) : Null (fun M => f M - g M) := fun e he => by
  obtain ⟨N1, h1⟩ := h (e / 2) (by grind)
  obtain ⟨N2, h2⟩ := k (e / 2) (by grind)
  exact ⟨N1 + N2, fun M hM => ((h1 M (by omega)).sub (h2 M (by omega))).mono (by grind)⟩
theorem Null.bmul {f g : Nat → Rat} (h : Null f) (k : Bdd g) : Null (fun M => f M * g M) := fun e he => by
  obtain ⟨K, N2, k0, h2⟩ := k
  have hp : 0 < K + 1 := by grind
  have h3 := rdm (a := e) hp
  have h4 := rdiv_pos he hp
  obtain ⟨N1, h1⟩ := h (e / (K + 1)) h4
  generalize e / (K + 1) = q at *
  refine ⟨N1 + N2, fun M hM => ((h1 M (by omega)).mul (h2 M (by omega))).mono ?_⟩
  grind
theorem Null.of_eq {f g : Nat → Rat} (h : Null f) (e : ∀ M, g M = f M) : Null g := by
  have : g = f := funext e
  rw [this]; exact h
theorem Null.of_eq_from {f g : Nat → Rat} (h : Null f) (N : Nat) (e : ∀ M, N ≤ M → g M = f M) : Null g := fun d hd => by
  obtain ⟨N1, h1⟩ := h d hd
  exact ⟨N + N1, fun M hM => by rw [e M (by omega)]; exact h1 M (by omega)⟩
theorem Null.of_le {f g : Nat → Rat} (h : Null f) (N : Nat) (e : ∀ M, N ≤ M → AB (g M) (f M)) : Null g := fun d hd => by
  obtain ⟨N1, h1⟩ := h d hd
  exact ⟨N + N1, fun M hM => (e M (by omega)).mono (h1 M (by omega)).2⟩
theorem Null.bdd {f : Nat → Rat} (h : Null f) : Bdd f := by
  obtain ⟨N, h1⟩ := h 1 (by grind)
  exact ⟨1, N, by grind, h1⟩
theorem null_q4 (K : Rat) (k0 : 0 ≤ K) : Null (fun M => K * ((M : Rat) * q4 M)) := fun e he => by
  obtain ⟨n, hn1, hn2⟩ := rat_nat (K / e)
  refine ⟨n + 1, fun M hM => ?_⟩
  have hM0 : (0 : Rat) ≤ (M : Rat) := by exact_mod_cast Nat.zero_le M
  have hMn : (n : Rat) ≤ (M : Rat) := by exact_mod_cast (show n ≤ M by omega)
  have u := nat_q4 M
  have q := near_bd M
  have e1 : K / e * e = K := by grind
  have s1 := Rat.mul_nonneg (show 0 ≤ (M : Rat) - K / e by grind) (Rat.le_of_lt he)
  have s2 := Rat.mul_nonneg (show 0 ≤ (M : Rat) * e - K by grind) q
  have s3 := Rat.mul_nonneg (Rat.le_of_lt he) (show 0 ≤ 1 - (M : Rat) * ((M : Rat) + 1) * q4 M by grind)
  have s4 := Rat.mul_nonneg (Rat.le_of_lt he) q
  have s5 := Rat.mul_nonneg k0 q
  constructor <;> grind
theorem Near.null {f g : Nat → Rat} (h : Near f g) : Null (fun M => f M - g M) := by
  obtain ⟨K, k0, h⟩ := h
  exact (null_q4 K k0).of_le 0 (fun M _ => h M)
theorem Bdd.add {f g : Nat → Rat} (h : Bdd f) (k : Bdd g) : Bdd (fun M => f M + g M) := by
  obtain ⟨K, N, k0, h⟩ := h
  obtain ⟨L, N', l0, k⟩ := k
  exact ⟨K + L, N + N', by grind, fun M hM => (h M (by omega)).add (k M (by omega))⟩
theorem Bdd.neg {f : Nat → Rat} (h : Bdd f) : Bdd (fun M => -f M) := by
  obtain ⟨K, N, k0, h⟩ := h
  exact ⟨K, N, k0, fun M hM => (h M hM).neg⟩
theorem Bdd.sub {f g : Nat → Rat} (h : Bdd f) (k : Bdd g) : Bdd (fun M => f M - g M) := by
  obtain ⟨K, N, k0, h⟩ := h
  obtain ⟨L, N', l0, k⟩ := k
  exact ⟨K + L, N + N', by grind, fun M hM => (h M (by omega)).sub (k M (by omega))⟩
theorem Bdd.mul {f g : Nat → Rat} (h : Bdd f) (k : Bdd g) : Bdd (fun M => f M * g M) := by
  obtain ⟨K, N, k0, h⟩ := h
  obtain ⟨L, N', l0, k⟩ := k
  exact ⟨K * L, N + N', Rat.mul_nonneg k0 l0, fun M hM => (h M (by omega)).mul (k M (by omega))⟩
theorem Bdd.const (c : Rat) : Bdd (fun _ => c) := by
  obtain ⟨b, hb⟩ := AB.self c
  exact ⟨b, 0, hb.nonneg, fun _ _ => hb⟩
theorem Bdd.of_le {f : Nat → Rat} (K : Rat) (N : Nat) (h : ∀ M, N ≤ M → AB (f M) K) : Bdd f := ⟨K, N, (h N (Nat.le_refl _)).nonneg, h⟩
theorem Has.le {a b : Rat} {x : Nat → Rat} (h : Has a b x) : a ≤ b := by
  refine Rat.not_lt.1 fun hn => ?_
  obtain ⟨N, h1⟩ := h ((a - b) / 4) (by grind)
  have := h1 N (Nat.le_refl _)
  grind
theorem Has.touch {a b c d : Rat} {x : Nat → Rat} (h : Has a b x) (k : Has c d x) : a ≤ d := by
  refine Rat.not_lt.1 fun hn => ?_
  obtain ⟨N, h1⟩ := h ((a - d) / 4) (by grind)
  obtain ⟨N', h2⟩ := k ((a - d) / 4) (by grind)
  have := h1 (N + N') (by omega)
  have := h2 (N + N') (by omega)
  grind
theorem Has.touch_le {a b c d : Rat} {x y z : Nat → Rat} (h : Has a b x) (k : Has c d y) (hz : Null z) (N0 : Nat) (hxy : ∀ M, N0 ≤ M → x M ≤ y M + z M) : a ≤ d := by
  refine Rat.not_lt.1 fun hn => ?_
  obtain ⟨N, h1⟩ := h ((a - d) / 4) (by grind)
  obtain ⟨N', h2⟩ := k ((a - d) / 4) (by grind)
  obtain ⟨N2, h3⟩ := hz ((a - d) / 4) (by grind)
  have := h1 (N + N' + N0 + N2) (by omega)
  have := h2 (N + N' + N0 + N2) (by omega)
  have := hxy (N + N' + N0 + N2) (by omega)
  have := (h3 (N + N' + N0 + N2) (by omega)).2
  grind
theorem Has.mono {a b a' b' : Rat} {x : Nat → Rat} (h : Has a b x) (h1 : a' ≤ a) (h2 : b ≤ b') : Has a' b' x := fun e he => by
  obtain ⟨N, h⟩ := h e he
  exact ⟨N, fun M hM => by have := h M hM; constructor <;> grind⟩
theorem Has.congr {a b : Rat} {x y : Nat → Rat} (h : Has a b x) (k : Null (fun M => y M - x M)) : Has a b y := fun e he => by
  obtain ⟨N, h⟩ := h (e / 2) (by grind)
  obtain ⟨N', k⟩ := k (e / 2) (by grind)
  refine ⟨N + N', fun M hM => ?_⟩
  have := h M (by omega)
  obtain ⟨k1, k2⟩ := k M (by omega)
  constructor <;> grind
theorem Has.bdd {a b : Rat} {x : Nat → Rat} (h : Has a b x) : Bdd x := by
  obtain ⟨N, h1⟩ := h 1 (by grind)
  obtain ⟨p, hp⟩ := AB.self a
  obtain ⟨q, hq⟩ := AB.self b
  have := hp.nonneg
  have := hq.nonneg
  refine ⟨p + q + 1, N, by grind, fun M hM => ?_⟩
  have := h1 M hM
  obtain ⟨_, _⟩ := hp
  obtain ⟨_, _⟩ := hq
  constructor <;> grind
theorem Has.const {a b c : Rat} (h1 : a ≤ c) (h2 : c ≤ b) : Has a b (fun _ => c) := fun e he => ⟨0, fun M _ => by constructor <;> grind⟩
theorem Has.of_from {a b : Rat} {x : Nat → Rat} (N : Nat) (h : ∀ M, N ≤ M → a ≤ x M ∧ x M ≤ b) : Has a b x := fun e he => ⟨N, fun M hM => by have := h M hM; constructor <;> grind⟩
theorem Has.add {a b c d : Rat} {x y : Nat → Rat} (h : Has a b x) (k : Has c d y) : Has (a + c) (b + d) (fun M => x M + y M) := fun e he => by
  obtain ⟨N, h⟩ := h (e / 2) (by grind)
  obtain ⟨N', k⟩ := k (e / 2) (by grind)
  refine ⟨N + N', fun M hM => ?_⟩
  have := h M (by omega)
  have := k M (by omega)
  constructor <;> grind
theorem Has.neg {a b : Rat} {x : Nat → Rat} (h : Has a b x) : Has (-b) (-a) (fun M => -x M) := fun e he => by
  obtain ⟨N, h⟩ := h e he
  refine ⟨N, fun M hM => ?_⟩
  have := h M hM
  constructor <;> grind
theorem Has.sub {a b c d : Rat} {x y : Nat → Rat} (h : Has a b x) (k : Has c d y) : Has (a - d) (b - c) (fun M => x M - y M) := fun e he => by
  obtain ⟨N, h⟩ := h (e / 2) (by grind)
  obtain ⟨N', k⟩ := k (e / 2) (by grind)
  refine ⟨N + N', fun M hM => ?_⟩
  have := h M (by omega)
  have := k M (by omega)
  constructor <;> grind
theorem clamp {a b x e : Rat} (hab : a ≤ b) (he : 0 ≤ e) (h1 : a - e ≤ x) (h2 : x ≤ b + e) : ∃ x0, a ≤ x0 ∧ x0 ≤ b ∧ AB (x - x0) e := by
  by_cases h : x < a
  · exact ⟨a, by grind, hab, by constructor <;> grind⟩
  · by_cases h' : b < x
    · exact ⟨b, hab, by grind, by constructor <;> grind⟩
    · exact ⟨x, by grind, by grind, by constructor <;> grind⟩
theorem corner {a b c d L U x y : Rat} (hx1 : a ≤ x) (hx2 : x ≤ b) (hy1 : c ≤ y) (hy2 : y ≤ d)
    (l1 : L ≤ a * c) (l2 : L ≤ a * d) (l3 : L ≤ b * c) (l4 : L ≤ b * d) (u1 : a * c ≤ U) (u2 : a * d ≤ U) (u3 : b * c ≤ U) (u4 : b * d ≤ U) : L ≤ x * y ∧ x * y ≤ U := by
  have p1 := Rat.mul_nonneg (show 0 ≤ x - a by grind) (show 0 ≤ y - c by grind)
  have p2 := Rat.mul_nonneg (show 0 ≤ x - a by grind) (show 0 ≤ d - y by grind)
  have p3 := Rat.mul_nonneg (show 0 ≤ b - x by grind) (show 0 ≤ y - c by grind)
  have p4 := Rat.mul_nonneg (show 0 ≤ b - x by grind) (show 0 ≤ d - y by grind)
  rcases Rat.le_total (a := 0) (b := y) with hy | hy
  · have g1 := Rat.mul_nonneg (show 0 ≤ x - a by grind) hy
    have g2 := Rat.mul_nonneg (show 0 ≤ b - x by grind) hy
    rcases Rat.le_total (a := 0) (b := a) with ha | ha
    · have := Rat.mul_nonneg ha (show 0 ≤ y - c by grind)
      rcases Rat.le_total (a := 0) (b := b) with hb | hb
      · have := Rat.mul_nonneg hb (show 0 ≤ d - y by grind); constructor <;> grind
      · have := Rat.mul_nonneg (show 0 ≤ -b by grind) (show 0 ≤ y - c by grind); constructor <;> grind
    · have := Rat.mul_nonneg (show 0 ≤ -a by grind) (show 0 ≤ d - y by grind)
      rcases Rat.le_total (a := 0) (b := b) with hb | hb
      · have := Rat.mul_nonneg hb (show 0 ≤ d - y by grind); constructor <;> grind
      · have := Rat.mul_nonneg (show 0 ≤ -b by grind) (show 0 ≤ y - c by grind); constructor <;> grind
  · have g1 := Rat.mul_nonneg (show 0 ≤ x - a by grind) (show 0 ≤ -y by grind)
    have g2 := Rat.mul_nonneg (show 0 ≤ b - x by grind) (show 0 ≤ -y by grind)
    rcases Rat.le_total (a := 0) (b := a) with ha | ha
    · have := Rat.mul_nonneg ha (show 0 ≤ d - y by grind)
      rcases Rat.le_total (a := 0) (b := b) with hb | hb
      · have := Rat.mul_nonneg hb (show 0 ≤ y - c by grind); constructor <;> grind
      · have := Rat.mul_nonneg (show 0 ≤ -b by grind) (show 0 ≤ d - y by grind); constructor <;> grind
    · have := Rat.mul_nonneg (show 0 ≤ -a by grind) (show 0 ≤ y - c by grind)
      rcases Rat.le_total (a := 0) (b := b) with hb | hb
      · have := Rat.mul_nonneg hb (show 0 ≤ y - c by grind); constructor <;> grind
      · have := Rat.mul_nonneg (show 0 ≤ -b by grind) (show 0 ≤ d - y by grind); constructor <;> grind
theorem AB.between {c d y p q : Rat} (hp : AB c p) (hq : AB d q) (h1 : c ≤ y) (h2 : y ≤ d) : AB y (p + q) := by
  have := hp.nonneg
  have := hq.nonneg
  obtain ⟨_, _⟩ := hp
  obtain ⟨_, _⟩ := hq
  constructor <;> grind
theorem Has.mul {a b c d L U : Rat} {x y : Nat → Rat} (h : Has a b x) (k : Has c d y)
    (l1 : L ≤ a * c) (l2 : L ≤ a * d) (l3 : L ≤ b * c) (l4 : L ≤ b * d) (u1 : a * c ≤ U) (u2 : a * d ≤ U) (u3 : b * c ≤ U) (u4 : b * d ≤ U) : Has L U (fun M => x M * y M) := fun e he => by
  obtain ⟨R, N0, r0, hR⟩ := h.bdd
  obtain ⟨p, hp1⟩ := AB.self c
  obtain ⟨q, hq1⟩ := AB.self d
  have p0 := hp1.nonneg
  have q0 := hq1.nonneg
  have hp : 0 < R + (p + q) + 1 := by grind
  have hd := rdiv_pos he hp
  have hab := h.le
  have hcd := k.le
  obtain ⟨N, h⟩ := h _ hd
  obtain ⟨N', k⟩ := k _ hd
  refine ⟨N + N' + N0, fun M hM => ?_⟩
  have h1 := h M (by omega)
  have k1 := k M (by omega)
  have hr := hR M (by omega)
  have hδ := rdm (a := e) hp
  generalize e / (R + (p + q) + 1) = δ at *
  obtain ⟨x0, a1, a2, a3⟩ := clamp hab (Rat.le_of_lt hd) h1.1 h1.2
  obtain ⟨y0, b1, b2, b3⟩ := clamp hcd (Rat.le_of_lt hd) k1.1 k1.2
  have hc := corner a1 a2 b1 b2 l1 l2 l3 l4 u1 u2 u3 u4
  have g := (hr.mul b3).add (a3.mul (AB.between hp1 hq1 b1 b2))
  have e1 : x M * (y M - y0) + (x M - x0) * y0 = x M * y M - x0 * y0 := by grind
  rw [e1] at g
  obtain ⟨g1, g2⟩ := g
  show L - e ≤ x M * y M ∧ x M * y M ≤ U + e
  generalize x M * y M = X at *
  generalize x0 * y0 = Y at *
  constructor <;> grind
theorem Has.scale {a b c : Rat} {x : Nat → Rat} (h : Has a b x) (hc : 0 ≤ c) : Has (c * a) (c * b) (fun M => c * x M) := by
  have hab := h.le
  have := Rat.mul_nonneg hc (show 0 ≤ b - a by grind)
  exact Has.mul (Has.const (Rat.le_refl) (Rat.le_refl) (c := c)) h (by grind) (by grind) (by grind) (by grind) (by grind) (by grind) (by grind) (by grind)
theorem Has.of_eq {a b : Rat} {x y : Nat → Rat} (h : Has a b x) (e : ∀ M, y M = x M) : Has a b y := by
  have : y = x := funext e
  rw [this]; exact h
end Go.Proofs.Ytgmnknmjainabab.Ex
namespace Go.Proofs.Ytgmnknmjainabab.Ex
theorem tm_AB {x R : Rat} (h : AB x R) (n : Nat) : AB (tm x n) (tm R n) := by
  induction n with
  | zero => simp only [tm]; constructor <;> grind
  | succ n ih =>
    have hp := pos1 n
    have g := ih.mul h
    have e1 := tm_succ x n
    have e2 := tm_succ R n
    have e3 : tm x n * x = ((n : Rat) + 1) * tm x (n + 1) := by grind
    have e4 : tm R n * R = ((n : Rat) + 1) * tm R (n + 1) := by grind
    rw [e3, e4] at g
    obtain ⟨g1, g2⟩ := g
    generalize (n : Rat) + 1 = m at *
    constructor
    · refine Rat.not_lt.1 fun hn => ?_
      have := Rat.mul_pos hp (show 0 < -tm R (n + 1) - tm x (n + 1) by grind)
      grind
    · refine Rat.not_lt.1 fun hn => ?_
      have := Rat.mul_pos hp (show 0 < tm x (n + 1) - tm R (n + 1) by grind)
      grind
theorem tm_unif (R : Rat) : ∃ K, 0 ≤ K ∧ ∀ x, AB x R → ∀ i, AB (tm x i) (K * q4 i) := by
  obtain ⟨K, k0, h⟩ := tm_bd R
  exact ⟨K, k0, fun x hx i => (tm_AB hx i).mono (h i).2⟩
theorem E_unif (R : Rat) : ∃ K, 0 ≤ K ∧ ∀ M x y, AB x R → AB y R → AB (E x M * E y M - E (x + y) M) (K * ((M : Rat) * q4 M)) := by
  obtain ⟨K, k0, h⟩ := tm_unif R
  refine ⟨2 * K * K, ?_, fun M x y hx hy => (E_mul x y K K (h x hx) (h y hy) M).mono (by grind)⟩
  have := Rat.mul_nonneg k0 k0; grind
theorem E_bound (R : Rat) : ∃ K, 0 ≤ K ∧ ∀ M x, AB x R → AB (E x M) K := by
  obtain ⟨K, k0, h⟩ := tm_unif R
  refine ⟨2 * K, by grind, fun M x hx => ?_⟩
  have := E_sub x K (h x hx) 0 M
  have e : E x 0 = 0 := rfl
  rw [Nat.zero_add, e] at this
  have e1 : E x M - 0 = E x M := by grind
  rw [e1] at this
  refine this.mono ?_
  have := q4_pos M
  have := Rat.mul_nonneg k0 (Rat.le_of_lt this)
  simp only [q4]
  grind
theorem tm_zero (n : Nat) : tm 0 (n + 1) = 0 := by
  have := tm_succ 0 n
  have hp := pos1 n
  have h5 : ((n : Rat) + 1) * tm 0 (n + 1) = 0 := by grind
  rcases Rat.mul_eq_zero.1 h5 with h6 | h6
  · grind
  · exact h6
theorem E_zero (M : Nat) : E 0 (M + 1) = 1 := by
  induction M with
  | zero => simp only [E, S, tm]; grind
  | succ M ih =>
    have e : E 0 (M + 1 + 1) = E 0 (M + 1) + tm 0 (M + 1) := rfl
    rw [e, ih, tm_zero]; grind
theorem sq_nonneg (x : Rat) : 0 ≤ x * x := by
  rcases Rat.le_total (a := 0) (b := x) with h | h
  · exact Rat.mul_nonneg h h
  · have := Rat.mul_nonneg (show 0 ≤ -x by grind) (show 0 ≤ -x by grind); grind
theorem E_low (R : Rat) : ∃ c, 0 < c ∧ ∃ N, ∀ M, N ≤ M → ∀ x, AB x R → c ≤ E x M := by
  obtain ⟨K, k0, hK⟩ := E_unif R
  obtain ⟨L, l0, hL⟩ := E_bound R
  have hp : 0 < 4 * (L + 1) := by grind
  have hc := rdiv_pos (show (0 : Rat) < 1 by grind) hp
  have hcL := rdm (a := 1) hp
  refine ⟨_, hc, ?_⟩
  generalize 1 / (4 * (L + 1)) = c at *
  obtain ⟨N, hN⟩ := null_q4 K k0 c hc
  refine ⟨N + 1, fun M hM x hx => ?_⟩
  obtain ⟨n1, n2⟩ : AB (K * ((M : Rat) * q4 M)) c := hN M (by omega)
  have hx2 : AB (x / 2) R := by obtain ⟨a, b⟩ := hx; constructor <;> grind
  have h1 := hK M (x / 2) (x / 2) hx2 hx2
  rw [show x / 2 + x / 2 = x by grind] at h1
  have h2 := hK M x (-x) hx hx.neg
  rw [show x + -x = 0 by grind] at h2
  obtain ⟨m, rfl⟩ : ∃ m, M = m + 1 := ⟨M - 1, by omega⟩
  rw [E_zero] at h2
  have h3 := hL (m + 1) (-x) hx.neg
  have h4 := sq_nonneg (E (x / 2) (m + 1))
  obtain ⟨a1, a2⟩ := h1
  obtain ⟨b1, b2⟩ := h2
  generalize K * (((m + 1 : Nat) : Rat) * q4 (m + 1)) = η at *
  generalize E (x / 2) (m + 1) * E (x / 2) (m + 1) = s at *
  refine Rat.not_lt.1 fun hn => ?_
  have h5 : AB (E x (m + 1)) c := by constructor <;> grind
  have h6 := h5.mul h3
  obtain ⟨c1, c2⟩ := h6
  generalize E x (m + 1) * E (-x) (m + 1) = t at *
  have : c * L ≤ 1 / 4 := by grind
  have : c ≤ 1 / 4 := by
    have := Rat.mul_nonneg (Rat.le_of_lt hc) l0
    grind
  grind
theorem tm_little {h b : Rat} (hb : AB h b) (h4 : b ≤ 1 / 4) (k : Nat) : AB (tm h (k + 1)) (b * q4 k) := by
  have b0 := hb.nonneg
  induction k with
  | zero => simp only [tm, q4]; obtain ⟨_, _⟩ := hb; simp; constructor <;> grind
  | succ k ih =>
    have e := tm_succ h (k + 1)
    have hp := pos1 (k + 1)
    have hp1 : (1 : Rat) ≤ ((k + 1 : Nat) : Rat) + 1 := by
      have : (0 : Rat) ≤ ((k + 1 : Nat) : Rat) := by exact_mod_cast Nat.zero_le (k + 1)
      grind
    have g := hb.mul ih
    rw [← e] at g
    have q := q4_pos k
    have e2 : q4 (k + 1) = q4 k / 4 := rfl
    rw [e2]
    generalize ((k + 1 : Nat) : Rat) + 1 = m at *
    have g2 : AB (m * tm h (k + 1 + 1)) (b * (q4 k / 4)) := by
      refine g.mono ?_
      have := Rat.mul_nonneg (Rat.mul_nonneg b0 (Rat.le_of_lt q)) (show 0 ≤ 1 / 4 - b by grind)
      grind
    obtain ⟨g3, g4⟩ := g2
    have hn := Rat.mul_nonneg b0 (Rat.le_of_lt q)
    generalize b * (q4 k / 4) = r at *
    have hr : 0 ≤ r := by grind
    constructor
    · refine Rat.not_lt.1 fun hn => ?_
      have := Rat.mul_nonneg (show 0 ≤ m - 1 by grind) (show 0 ≤ -r - tm h (k + 1 + 1) by grind)
      have := Rat.mul_nonneg (show 0 ≤ m - 1 by grind) hr
      grind
    · refine Rat.not_lt.1 fun hn => ?_
      have := Rat.mul_nonneg (show 0 ≤ m - 1 by grind) (show 0 ≤ tm h (k + 1 + 1) - r by grind)
      have := Rat.mul_nonneg (show 0 ≤ m - 1 by grind) hr
      grind
theorem E_little1 {h b : Rat} (hb : AB h b) (h4 : b ≤ 1 / 4) (M : Nat) : AB (E h (M + 1) - 1) (2 * b * (1 - q4 M)) := by
  have b0 := hb.nonneg
  induction M with
  | zero => simp only [E, S, tm, q4]; constructor <;> grind
  | succ M ih =>
    have e : E h (M + 1 + 1) = E h (M + 1) + tm h (M + 1) := rfl
    have g := ih.add (tm_little hb h4 M)
    rw [e]
    have e2 : q4 (M + 1) = q4 M / 4 := rfl
    have q := Rat.mul_nonneg b0 (Rat.le_of_lt (q4_pos M))
    have e3 : E h (M + 1) - 1 + tm h (M + 1) = E h (M + 1) + tm h (M + 1) - 1 := by grind
    rw [e3] at g
    rw [e2]
    exact g.mono (by grind)
theorem E_little {h b : Rat} (hb : AB h b) (h4 : b ≤ 1 / 4) {M : Nat} (hM : 1 ≤ M) : AB (E h M - 1) (2 * b) := by
  obtain ⟨m, rfl⟩ : ∃ m, M = m + 1 := ⟨M - 1, by omega⟩
  refine (E_little1 hb h4 m).mono ?_
  have q := Rat.mul_nonneg hb.nonneg (Rat.le_of_lt (q4_pos m))
  grind
theorem E_little2a {h b : Rat} (hb : AB h b) (h4 : b ≤ 1 / 4) (M : Nat) : AB (E h (M + 2) - 1 - h) (2 * (b * b) * (1 - q4 M)) := by
  have b0 := hb.nonneg
  have bb := Rat.mul_nonneg b0 b0
  induction M with
  | zero =>
    have : E h 2 = 1 + h := by simp [E, S, tm]; grind
    rw [this]; simp only [q4]; constructor <;> grind
  | succ M ih =>
    have e : E h (M + 1 + 2) = E h (M + 2) + tm h (M + 2) := rfl
    have hp := pos1 (M + 1)
    have g0 : AB (tm h (M + 2)) (b * b * q4 M) := by
      have e := tm_succ h (M + 1)
      have hp1 : (1 : Rat) ≤ ((M + 1 : Nat) : Rat) + 1 := by
        have : (0 : Rat) ≤ ((M + 1 : Nat) : Rat) := by exact_mod_cast Nat.zero_le (M + 1)
        grind
      have g := hb.mul (tm_little hb h4 M)
      rw [← e] at g
      have hr := Rat.mul_nonneg bb (Rat.le_of_lt (q4_pos M))
      rw [show b * (b * q4 M) = b * b * q4 M by grind] at g
      obtain ⟨g3, g4⟩ := g
      generalize ((M + 1 : Nat) : Rat) + 1 = m at *
      generalize b * b * q4 M = r at *
      rw [show M + 1 + 1 = M + 2 by omega] at *
      constructor
      · refine Rat.not_lt.1 fun hn => ?_
        have := Rat.mul_nonneg (show 0 ≤ m - 1 by grind) (show 0 ≤ -r - tm h (M + 2) by grind)
        have := Rat.mul_nonneg (show 0 ≤ m - 1 by grind) hr
        grind
      · refine Rat.not_lt.1 fun hn => ?_
        have := Rat.mul_nonneg (show 0 ≤ m - 1 by grind) (show 0 ≤ tm h (M + 2) - r by grind)
        have := Rat.mul_nonneg (show 0 ≤ m - 1 by grind) hr
        grind
    have g := ih.add g0
    rw [e]
    have e2 : q4 (M + 1) = q4 M / 4 := rfl
    have q := Rat.mul_nonneg bb (Rat.le_of_lt (q4_pos M))
    have e3 : E h (M + 2) - 1 - h + tm h (M + 2) = E h (M + 2) + tm h (M + 2) - 1 - h := by grind
    rw [e3] at g
    rw [e2]
    exact g.mono (by grind)
theorem E_little2 {h b : Rat} (hb : AB h b) (h4 : b ≤ 1 / 4) {M : Nat} (hM : 2 ≤ M) : AB (E h M - 1 - h) (2 * (b * b)) := by
  obtain ⟨m, rfl⟩ : ∃ m, M = m + 2 := ⟨M - 2, by omega⟩
  refine (E_little2a hb h4 m).mono ?_
  have q := Rat.mul_nonneg (Rat.mul_nonneg hb.nonneg hb.nonneg) (Rat.le_of_lt (q4_pos m))
  grind
def Ev (x : Nat → Rat) (M : Nat) : Rat := E (x M) M
theorem Ev_bdd {x : Nat → Rat} (h : Bdd x) : Bdd (Ev x) := by
  obtain ⟨R, N, r0, h⟩ := h
  obtain ⟨K, k0, hK⟩ := E_bound R
  exact ⟨K, N, k0, fun M hM => hK M _ (h M hM)⟩
theorem Ev_add {x y : Nat → Rat} (hx : Bdd x) (hy : Bdd y) : Null (fun M => Ev x M * Ev y M - Ev (fun M => x M + y M) M) := by
  obtain ⟨R, N, r0, hx⟩ := hx
  obtain ⟨R', N', r0', hy⟩ := hy
  obtain ⟨K, k0, hK⟩ := E_unif (R + R')
  exact (null_q4 K k0).of_le (N + N') fun M hM => hK M _ _ ((hx M (by omega)).mono (by grind)) ((hy M (by omega)).mono (by grind))
theorem Ev_low {x : Nat → Rat} (hx : Bdd x) : ∃ c, 0 < c ∧ ∃ N, ∀ M, N ≤ M → c ≤ Ev x M := by
  obtain ⟨R, N, r0, hx⟩ := hx
  obtain ⟨c, hc, N', h⟩ := E_low R
  exact ⟨c, hc, N + N', fun M hM => h M (by omega) _ (hx M (by omega))⟩
theorem Ev_null {h : Nat → Rat} (hn : Null h) : Null (fun M => Ev h M - 1) := fun e he => by
  obtain ⟨N, h1⟩ := hn (1 / 4) (by grind)
  obtain ⟨N', h2⟩ := hn (e / 2) (by grind)
  refine ⟨N + N' + 1, fun M hM => ?_⟩
  rcases Rat.le_total (a := e / 2) (b := 1 / 4) with hc | hc
  · exact (E_little (h2 M (by omega)) hc (by omega)).mono (by grind)
  · exact (E_little (h1 M (by omega)) (by grind) (by omega)).mono (by grind)
theorem Ev_congr {x y : Nat → Rat} (hx : Bdd x) (hy : Bdd y) (h : Null (fun M => x M - y M)) : Null (fun M => Ev x M - Ev y M) := by
  have h1 := Ev_add hy (hx.sub hy)
  have h2 := (Ev_null h).bmul (Ev_bdd hy)
  have e : (fun M => y M + (x M - y M)) = x := funext fun M => by grind
  rw [e] at h1
  refine (h2.sub h1).of_eq fun M => ?_
  grind
theorem Ev_inv {x : Nat → Rat} (hx : Bdd x) : Null (fun M => Ev x M * Ev (fun M => -x M) M - 1) := by
  have h1 := Ev_add hx hx.neg
  refine h1.of_eq_from 1 fun M hM => ?_
  obtain ⟨m, rfl⟩ : ∃ m, M = m + 1 := ⟨M - 1, by omega⟩
  have : Ev (fun M => x M + -x M) (m + 1) = 1 := by
    show E (x (m + 1) + -x (m + 1)) (m + 1) = 1
    rw [show x (m + 1) + -x (m + 1) = 0 by grind, E_zero]
  rw [this]
theorem Ev_mono {x y z : Nat → Rat} (hx : Bdd x) (hy : Bdd y) (hz : Null z) (N0 : Nat) (h : ∀ M, N0 ≤ M → x M ≤ y M + z M) : ∃ v, Null v ∧ ∃ N, ∀ M, N ≤ M → Ev x M ≤ Ev y M + v M := by
  have b1 : Bdd (fun M => y M + z M) := hy.add hz.bdd
  have n1 := Ev_congr b1 hy (hz.of_eq fun M => by grind)
  have n2 := Ev_add hx (b1.sub hx)
  have e : (fun M => x M + (y M + z M - x M)) = fun M => y M + z M := funext fun M => by grind
  rw [e] at n2
  obtain ⟨c, hc, N1, hl⟩ := Ev_low hx
  refine ⟨_, n1.add n2, N0 + N1 + 1, fun M hM => ?_⟩
  have h1 := E_one (show 0 ≤ y M + z M - x M by have := h M (by omega); grind) (show 1 ≤ M by omega)
  have h2 := hl M (by omega)
  have h3 := Rat.mul_nonneg (show 0 ≤ Ev x M by grind) (show 0 ≤ Ev (fun M => y M + z M - x M) M - 1 by have : Ev (fun M => y M + z M - x M) M = E (y M + z M - x M) M := rfl; rw [this]; grind)
  grind
theorem E_one1 {x : Rat} (h : 0 ≤ x) {M : Nat} (hM : 2 ≤ M) : 1 + x ≤ E x M := by
  obtain ⟨m, rfl⟩ : ∃ m, M = m + 2 := ⟨M - 2, by omega⟩
  clear hM
  induction m with
  | zero => simp [E, S, tm]; grind
  | succ m ih =>
    have e1 : E x (m + 1 + 2) = E x (m + 2) + tm x (m + 2) := rfl
    have := tm_nonneg h (m + 2)
    grind
theorem Ev_back {x y z : Nat → Rat} (hx : Bdd x) (hy : Bdd y) (hz : Null z) (N0 : Nat) (h : ∀ M, N0 ≤ M → Ev x M ≤ Ev y M + z M) (e : Rat) (he : 0 < e) : ∃ N, ∀ M, N ≤ M → x M ≤ y M + e := by
  obtain ⟨R, N1, r0, hx⟩ := hx
  obtain ⟨R', N2, r0', hy⟩ := hy
  obtain ⟨K, k0, hK⟩ := E_unif (R + R' + R + R' + e)
  obtain ⟨c, hc, N3, hl⟩ := E_low (R + R' + R + R' + e)
  have hce := Rat.mul_pos hc he
  obtain ⟨N4, hn⟩ := null_q4 K k0 (c * e / 4) (by grind)
  obtain ⟨N5, hz⟩ := hz (c * e / 4) (by grind)
  refine ⟨N0 + N1 + N2 + N3 + N4 + N5 + 2, fun M hM => ?_⟩
  refine Rat.not_lt.1 fun hlt => ?_
  have a1 := hx M (by omega)
  have a2 := hy M (by omega)
  have a3 := h M (by omega)
  obtain ⟨a4, a5⟩ : AB (K * ((M : Rat) * q4 M)) (c * e / 4) := hn M (by omega)
  obtain ⟨a6, a7⟩ := hz M (by omega)
  have hye : AB (y M + e) (R + R' + R + R' + e) := by obtain ⟨_, _⟩ := a2; constructor <;> grind
  have hu : AB (x M - (y M + e)) (R + R' + R + R' + e) := by obtain ⟨_, _⟩ := a2; obtain ⟨_, _⟩ := a1; constructor <;> grind
  have hy' : AB (y M) (R + R' + R + R' + e) := a2.mono (by grind)
  have he' : AB e (R + R' + R + R' + e) := by constructor <;> grind
  obtain ⟨b1, b2⟩ := hK M _ _ hye hu
  obtain ⟨b3, b4⟩ := hK M _ _ hy' he'
  rw [show y M + e + (x M - (y M + e)) = x M by grind] at b1 b2
  have l1 := hl M (by omega) _ hye
  have l2 := hl M (by omega) _ hy'
  have o1 := E_one (show 0 ≤ x M - (y M + e) by grind) (show 1 ≤ M by omega)
  have o2 := E_one1 (Rat.le_of_lt he) (show 2 ≤ M by omega)
  have p1 := Rat.mul_nonneg (show 0 ≤ E (y M + e) M by grind) (show 0 ≤ E (x M - (y M + e)) M - 1 by grind)
  have p2 := Rat.mul_nonneg (show 0 ≤ E (y M) M by grind) (show 0 ≤ E e M - (1 + e) by grind)
  have p3 := Rat.mul_nonneg (show 0 ≤ E (y M) M - c by grind) (Rat.le_of_lt he)
  have a3' : E (x M) M ≤ E (y M) M + z M := a3
  generalize E (x M) M = X at *
  generalize E (y M) M = Y at *
  generalize K * ((M : Rat) * q4 M) = η at *
  grind
end Go.Proofs.Ytgmnknmjainabab.Ex
namespace Go.Proofs.Ytgmnknmjainabab.Ex
def eT (x : Rat) : Nat → Rat
  | 0 => x
  | n + 1 => 2 * (x * x) / (2 * ((n : Rat) + 1) + 1) * eT x n
def eD (x : Rat) : Nat → Rat
  | 0 => 1
  | n + 1 => 2 * x * eT x n
end Go.Proofs.Ytgmnknmjainabab.Ex
namespace Go.Proofs.Ytgmnknmjainabab.Ex
def LeN (f g : Nat → Rat) : Prop := ∀ e : Rat, 0 < e → ∃ N : Nat, ∀ M, N ≤ M → f M ≤ g M + e
theorem LeN.refl (f : Nat → Rat) : LeN f f := fun e he => ⟨0, fun M _ => by grind⟩
theorem LeN.trans {f g h : Nat → Rat} (a : LeN f g) (b : LeN g h) : LeN f h := fun e he => by
  obtain ⟨N1, h1⟩ := a (e / 2) (by grind)
  obtain ⟨N2, h2⟩ := b (e / 2) (by grind)
  exact ⟨N1 + N2, fun M hM => by have := h1 M (by omega); have := h2 M (by omega); grind⟩
theorem LeN.of_le {f g : Nat → Rat} (N : Nat) (h : ∀ M, N ≤ M → f M ≤ g M) : LeN f g := fun e he => ⟨N, fun M hM => by have := h M hM; grind⟩
theorem LeN.of_null {f g z : Nat → Rat} (hz : Null z) (N : Nat) (h : ∀ M, N ≤ M → f M ≤ g M + z M) : LeN f g := fun e he => by
  obtain ⟨N1, h1⟩ := hz e he
  exact ⟨N + N1, fun M hM => by have := h M (by omega); have := (h1 M (by omega)).2; grind⟩
theorem LeN.null {f g : Nat → Rat} (h : LeN f g) : ∃ z, Null z ∧ ∀ M, f M ≤ g M + z M := by
  refine ⟨fun M => if f M ≤ g M then 0 else f M - g M, fun e he => ?_, fun M => ?_⟩
  · obtain ⟨N, hN⟩ := h e he
    refine ⟨N, fun M hM => ?_⟩
    have := hN M hM
    simp only []
    split <;> constructor <;> grind
  · simp only []; split <;> grind
theorem LeN.add {f g f' g' : Nat → Rat} (a : LeN f g) (b : LeN f' g') : LeN (fun M => f M + f' M) (fun M => g M + g' M) := fun e he => by
  obtain ⟨N1, h1⟩ := a (e / 2) (by grind)
  obtain ⟨N2, h2⟩ := b (e / 2) (by grind)
  exact ⟨N1 + N2, fun M hM => by have := h1 M (by omega); have := h2 M (by omega); grind⟩
theorem LeN.eq {f g : Nat → Rat} (h : LeN f g) (k : LeN g f) : Null (fun M => f M - g M) := fun e he => by
  obtain ⟨N1, h1⟩ := h e he
  obtain ⟨N2, h2⟩ := k e he
  exact ⟨N1 + N2, fun M hM => by have := h1 M (by omega); have := h2 M (by omega); constructor <;> grind⟩
theorem Null.leN {f g : Nat → Rat} (h : Null (fun M => f M - g M)) : LeN f g := fun e he => by
  obtain ⟨N, hN⟩ := h e he
  exact ⟨N, fun M hM => by have := (hN M hM).2; grind⟩
theorem Null.symm {f g : Nat → Rat} (h : Null (fun M => f M - g M)) : Null (fun M => g M - f M) := h.neg.of_eq fun M => by grind
theorem LeN.lim {f g : Nat → Rat} {C : Rat} (hC : 0 ≤ C) (h : ∀ n : Nat, LeN f (fun M => g M + C * (1 / ((n : Rat) + 1)))) : LeN f g := fun e he => by
  obtain ⟨n, hn⟩ := rat_nat (2 * C / e)
  have k := h n
  obtain ⟨N, hN⟩ := k (e / 2) (by grind)
  refine ⟨N, fun M hM => ?_⟩
  have h1 := hN M hM
  have n0 : (0 : Rat) < (n : Rat) + 1 := pos1 n
  have h2 : C * (1 / ((n : Rat) + 1)) ≤ e / 2 := by
    have um : 1 / ((n : Rat) + 1) * ((n : Rat) + 1) = 1 := rdm n0
    have u0 : (0 : Rat) < 1 / ((n : Rat) + 1) := rdiv_pos (by grind) n0
    have ce : 2 * C / e * e = 2 * C := rdm he
    have h3 := Rat.mul_le_mul_of_nonneg_right hn.2 (Rat.le_of_lt he)
    rw [ce] at h3
    have h4 := Rat.mul_le_mul_of_nonneg_right (show 2 * C ≤ ((n : Rat) + 1) * e by grind) (Rat.le_of_lt u0)
    have e5 : ((n : Rat) + 1) * e * (1 / ((n : Rat) + 1)) = (1 / ((n : Rat) + 1) * ((n : Rat) + 1)) * e := by grind
    rw [e5, um] at h4
    grind
  simp only [] at h1
  grind
theorem descend {f : Rat → Nat → Rat} {a b C D : Rat} (hab : a ≤ b) (hC : 0 ≤ C) (hD : 0 < D)
    (step : ∀ x h, a ≤ x → 0 < h → h ≤ D → x + h ≤ b → ∃ z, Null z ∧ ∃ N : Nat, ∀ M, N ≤ M → f (x + h) M ≤ f x M + C * (h * h) + z M) : LeN (f b) (f a) := by
  by_cases heq : a = b
  · subst heq; exact LeN.refl _
  have hlt : 0 < b - a := by grind
  refine LeN.lim (C := C * ((b - a) * (b - a))) (Rat.mul_nonneg hC (Rat.mul_nonneg (Rat.le_of_lt hlt) (Rat.le_of_lt hlt))) fun n0 => ?_
  obtain ⟨m, hm⟩ := rat_nat ((b - a) / D)
  obtain ⟨n, hn⟩ : ∃ n, n = n0 + m := ⟨_, rfl⟩
  have n0p : (0 : Rat) < (n : Rat) + 1 := pos1 n
  obtain ⟨h, hh⟩ : ∃ h, h = (b - a) / ((n : Rat) + 1) := ⟨_, rfl⟩
  have hmul : h * ((n : Rat) + 1) = b - a := by rw [hh]; exact rdm n0p
  have h0 : 0 < h := by rw [hh]; exact rdiv_pos hlt n0p
  have mn : (m : Rat) ≤ (n : Rat) := by exact_mod_cast (show m ≤ n by omega)
  have nn : (n0 : Rat) ≤ (n : Rat) := by exact_mod_cast (show n0 ≤ n by omega)
  have hD2 : h ≤ D := by
    have e1 : (b - a) / D * D = b - a := rdm hD
    have h1 := Rat.mul_le_mul_of_nonneg_right hm.2 (Rat.le_of_lt hD)
    rw [e1] at h1
    refine Rat.le_of_mul_le_mul_right (c := (n : Rat) + 1) ?_ n0p
    rw [hmul]
    have := Rat.mul_le_mul_of_nonneg_right mn (Rat.le_of_lt hD)
    grind
  have go : ∀ i : Nat, i ≤ n + 1 → ∃ z, Null z ∧ ∃ N : Nat, ∀ M, N ≤ M → f (a + (i : Rat) * h) M ≤ f a M + (i : Rat) * (C * (h * h)) + z M := by
    intro i
    induction i with
    | zero =>
      intro _
      refine ⟨_, null_zero, 0, fun M _ => ?_⟩
      have e : a + ((0 : Nat) : Rat) * h = a := by grind
      rw [e]; grind
    | succ i ih =>
      intro hi
      obtain ⟨z1, hz1, N1, k1⟩ := ih (by omega)
      have i0 : (0 : Rat) ≤ (i : Rat) := by exact_mod_cast Nat.zero_le i
      have i1 : (i : Rat) + 1 ≤ (n : Rat) + 1 := by exact_mod_cast hi
      have p0 := Rat.mul_nonneg i0 (Rat.le_of_lt h0)
      have p1 := Rat.mul_le_mul_of_nonneg_right i1 (Rat.le_of_lt h0)
      have ec : ((i + 1 : Nat) : Rat) = (i : Rat) + 1 := by push_cast; rfl
      have e1 : a + (i : Rat) * h + h = a + ((i + 1 : Nat) : Rat) * h := by rw [ec]; grind
      obtain ⟨z2, hz2, N2, k2⟩ := step (a + (i : Rat) * h) h (by grind) h0 hD2 (by grind)
      rw [e1] at k2
      refine ⟨_, hz1.add hz2, N1 + N2, fun M hM => ?_⟩
      have a1 := k1 M (by omega)
      have a2 := k2 M (by omega)
      rw [ec] at a2 ⊢
      grind
  obtain ⟨z, hz, N, k⟩ := go (n + 1) (Nat.le_refl _)
  have ec : ((n + 1 : Nat) : Rat) = (n : Rat) + 1 := by push_cast; rfl
  have e : a + ((n + 1 : Nat) : Rat) * h = b := by rw [ec]; grind
  rw [e, ec] at k
  refine LeN.of_null hz N fun M hM => ?_
  have k1 := k M hM
  have n1p : (0 : Rat) < (n0 : Rat) + 1 := pos1 n0
  have um : 1 / ((n0 : Rat) + 1) * ((n0 : Rat) + 1) = 1 := rdm n1p
  have u0 : (0 : Rat) < 1 / ((n0 : Rat) + 1) := rdiv_pos (by grind) n1p
  have hb : ((n : Rat) + 1) * (C * (h * h)) ≤ C * ((b - a) * (b - a)) * (1 / ((n0 : Rat) + 1)) := by
    have e2 : ((n : Rat) + 1) * (C * (h * h)) = C * (b - a) * h := by rw [← hmul]; grind
    rw [e2]
    have hu : h ≤ (b - a) * (1 / ((n0 : Rat) + 1)) := by
      refine Rat.le_of_mul_le_mul_right (c := (n0 : Rat) + 1) ?_ n1p
      have e3 : (b - a) * (1 / ((n0 : Rat) + 1)) * ((n0 : Rat) + 1) = (b - a) * (1 / ((n0 : Rat) + 1) * ((n0 : Rat) + 1)) := by grind
      rw [e3, um]
      have := Rat.mul_le_mul_of_nonneg_left nn (Rat.le_of_lt h0)
      grind
    have := Rat.mul_le_mul_of_nonneg_left hu (Rat.mul_nonneg hC (Rat.le_of_lt hlt))
    grind
  grind
end Go.Proofs.Ytgmnknmjainabab.Ex
namespace Go.Proofs.Ytgmnknmjainabab.Ex
def ex (c : Rat) (M : Nat) : Rat := Ev (fun _ => c) M
theorem ex_add (a b : Rat) : Null (fun M => ex a M * ex b M - ex (a + b) M) := Ev_add (Bdd.const a) (Bdd.const b)
theorem ex_bdd (a : Rat) : Bdd (ex a) := Ev_bdd (Bdd.const a)
theorem ex_mono {a b : Rat} (h : a ≤ b) : LeN (ex a) (ex b) := by
  obtain ⟨v, hv, N, k⟩ := Ev_mono (x := fun _ => a) (y := fun _ => b) (Bdd.const a) (Bdd.const b) null_zero 0 (fun M _ => by grind)
  exact LeN.of_null hv N k
end Go.Proofs.Ytgmnknmjainabab.Ex
