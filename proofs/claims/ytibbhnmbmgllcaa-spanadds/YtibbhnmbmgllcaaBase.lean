/-
  Plain arithmetic of digits to the base of 65536, and what it means that a slice of a Go program holds them; no statement of the seat is proved here.
-/
import Derived.WalkKit
namespace Go.Proofs.Ytibbhnmbmgllcaa
set_option linter.unusedVariables false
set_option linter.unusedSimpArgs false
set_option linter.unnecessarySimpa false
open Go.RowKit

/-- 65536 to the power of n. -/
def P : Nat → Int
  | 0 => 1
  | n + 1 => 65536 * P n

theorem P_pos (n : Nat) : 1 ≤ P n := by
  induction n with
  | zero => simp [P]
  | succ n ih => simp only [P]; omega

theorem P_add (m n : Nat) : P (m + n) = P m * P n := by
  induction n with
  | zero => simp [P]
  | succ n ih => rw [Nat.add_succ]; simp only [P]; rw [ih, Int.mul_left_comm]

theorem P_mono {m n : Nat} (h : m ≤ n) : P m ≤ P n := by
  induction n with
  | zero => have : m = 0 := by omega
            subst this; exact Int.le_refl _
  | succ n ih =>
    by_cases hm : m = n + 1
    · subst hm; exact Int.le_refl _
    · have := ih (by omega)
      have := P_pos n
      simp only [P]; omega

/-- What the first n digits are. -/
def V (d : Nat → Int) : Nat → Int
  | 0 => 0
  | n + 1 => V d n + d n * P n

/-- Digits. -/
def Dgs (d : Nat → Int) : Prop := ∀ j, 0 ≤ d j ∧ d j < 65536

theorem V_nonneg {d : Nat → Int} (h : Dgs d) (n : Nat) : 0 ≤ V d n := by
  induction n with
  | zero => simp [V]
  | succ n ih =>
    simp only [V]
    have := Int.mul_nonneg (h n).1 (Int.le_of_lt (Int.lt_of_lt_of_le (by decide) (P_pos n)))
    omega

theorem V_lt {d : Nat → Int} (h : Dgs d) (n : Nat) : V d n < P n := by
  induction n with
  | zero => simp [V, P]
  | succ n ih =>
    simp only [V, P]
    have h1 : d n * P n ≤ 65535 * P n := Int.mul_le_mul_of_nonneg_right (by have := (h n).2; omega) (by have := P_pos n; omega)
    omega

theorem V_congr {d e : Nat → Int} (n : Nat) (h : ∀ j, j < n → d j = e j) : V d n = V e n := by
  induction n with
  | zero => rfl
  | succ n ih => simp only [V]; rw [ih (fun j hj => h j (by omega)), h n (by omega)]

/-- The slice value '.slice a n cap' holds the digits d 0 .. d (n - 1) in memory. -/
structure Dig (w : World) (a : Option Addr) (n cap : Nat) (d : Nat → Int) : Prop where
  at_ : 0 < n → ∃ b off, a = some ⟨b, off, none⟩ ∧ b < w.heap.size ∧ ∀ j, j < n → w.cell? ⟨b, off + j, none⟩ = some (.int .u16 (d j))
  dgs : Dgs d
  le : n ≤ cap
  room : n ≤ 70368744177664

theorem Dig.below {w w' : World} {a : Option Addr} {n cap : Nat} {d : Nat → Int} (h : Dig w a n cap d) (hb : Below w.heap.size w w') : Dig w' a n cap d :=
  ⟨fun hn => by
    obtain ⟨b, off, h1, h2, h3⟩ := h.at_ hn
    exact ⟨b, off, h1, Nat.lt_of_lt_of_le h2 hb.size, fun j hj => (hb.cell (p := ⟨b, off + j, none⟩) h2).trans (h3 j hj)⟩, h.dgs, h.le, h.room⟩

theorem hide {p : Prop} (h : p) : Hid p := h
theorem unhide {p : Prop} (h : Hid p) : p := h

/-- How long a slice is: for a measure. -/
def lenOf : Value → Nat
  | .slice _ n _ => n
  | _ => 0

/-- num.IsRight. -/
def rightB (neg : Bool) (n : Nat) (d : Nat → Int) : Bool := if n = 0 then !neg else d (n - 1) != 0

theorem bl1 (w : World) (o1 : Obj) : Below w.heap.size w (w.alloc o1) := (Below.refl _ _).alloc (Nat.le_refl _) _
theorem bl2 (w : World) (o1 o2 : Obj) : Below w.heap.size w ((w.alloc o1).alloc o2) := (bl1 w o1).alloc (by simp) _
theorem bl3 (w : World) (o1 o2 o3 : Obj) : Below w.heap.size w (((w.alloc o1).alloc o2).alloc o3) := (bl2 w o1 o2).alloc (by simp; omega) _
theorem bl4 (w : World) (o1 o2 o3 o4 : Obj) : Below w.heap.size w ((((w.alloc o1).alloc o2).alloc o3).alloc o4) := (bl3 w o1 o2 o3).alloc (by simp; omega) _
/-- One step behind another. -/
theorem bthen {w w1 w2 : World} (h : Below w.heap.size w w1) (k : Below w1.heap.size w1 w2) : Below w.heap.size w w2 := h.trans (k.mono h.size)

/-- 2 to the power of n. -/
def Q : Nat → Int
  | 0 => 1
  | n + 1 => 2 * Q n

/-- How many bits a digit has. -/
def blenF : Nat → Int → Int
  | 0, _ => 0
  | f + 1, x => if x ≤ 0 then 0 else 1 + blenF f (x / 2)
/-- num.Len. -/
def lenZ (n : Nat) (d : Nat → Int) : Int := if n = 0 then 0 else 16 * ((n : Int) - 1) + blenF 16 (d (n - 1))

theorem blenF_bd (f : Nat) (x : Int) : 0 ≤ blenF f x ∧ blenF f x ≤ f := by
  induction f generalizing x with
  | zero => simp [blenF]
  | succ f ih => simp only [blenF]; have := ih (x / 2); split <;> omega

/-- num.trimmed. -/
def trimN (d : Nat → Int) : Nat → Nat
  | 0 => 0
  | n + 1 => if d n = 0 then trimN d n else n + 1

theorem trimN_le (d : Nat → Int) (n : Nat) : trimN d n ≤ n := by
  induction n with
  | zero => simp [trimN]
  | succ n ih => simp only [trimN]; split <;> omega
theorem trimN_V (d : Nat → Int) (n : Nat) : V d (trimN d n) = V d n := by
  induction n with
  | zero => simp [trimN]
  | succ n ih =>
    simp only [trimN]; split
    · rename_i h; rw [ih]; simp [V, h]
    · rfl
theorem trimN_top (d : Nat → Int) (n : Nat) : trimN d n = 0 ∨ d (trimN d n - 1) ≠ 0 := by
  induction n with
  | zero => simp [trimN]
  | succ n ih =>
    simp only [trimN]; split
    · exact ih
    · rename_i h; right; simpa using h
theorem trimN_idem {d : Nat → Int} {n : Nat} (h : n = 0 ∨ d (n - 1) ≠ 0) : trimN d n = n := by
  cases n with
  | zero => rfl
  | succ n => simp only [trimN]; rw [if_neg]; simpa using h

/-- A number, by its sign and its digits. -/
def sgn (neg : Bool) (x : Int) : Int := if neg then -x else x

theorem Dig.take {w : World} {a : Option Addr} {n cap : Nat} {d : Nat → Int} (h : Dig w a n cap d) {m : Nat} (hm : m ≤ n) : Dig w a m cap d :=
  ⟨fun hm0 => by
    obtain ⟨b, off, h1, h2, h3⟩ := h.at_ (by omega)
    exact ⟨b, off, h1, h2, fun j hj => h3 j (by omega)⟩, h.dgs, Nat.le_trans hm h.le, Nat.le_trans hm h.room⟩

/-- The sign and the slice hold the number z, in at most k digits, as a right num.Int does. -/
def IntAt (w : World) (neg : Bool) (a : Option Addr) (n cap : Nat) (k : Nat) (z : Int) : Prop :=
  ∃ d, Dig w a n cap d ∧ (n = 0 ∨ d (n - 1) ≠ 0) ∧ (n = 0 → neg = false) ∧ n ≤ k ∧ z = sgn neg (V d n)

theorem IntAt.below {w w' : World} {neg : Bool} {a : Option Addr} {n cap k : Nat} {z : Int} (h : IntAt w neg a n cap k z) (hb : Below w.heap.size w w') : IntAt w' neg a n cap k z := by
  obtain ⟨d, h2, h3⟩ := h
  exact ⟨d, h2.below hb, h3⟩
theorem IntAt.mono {w : World} {neg : Bool} {a : Option Addr} {n cap k k' : Nat} {z : Int} (h : IntAt w neg a n cap k z) (hk : k ≤ k') : IntAt w neg a n cap k' z := by
  obtain ⟨d, h2, h3, h4, h5, h6⟩ := h
  exact ⟨d, h2, h3, h4, by omega, h6⟩

/-- A store into a cell that holds no digit leaves the digits alone. -/
theorem Dig.store {w : World} {a : Option Addr} {n cap : Nat} {d : Nat → Int} (h : Dig w a n cap d) {p : Addr} {v : Value} (hp : w.cell? p = some v) (hv : ∀ x, v ≠ .int .u16 x) (u : Value) : Dig (w.setCell p u) a n cap d :=
  ⟨fun hn => by
    obtain ⟨b, off, h1, h2, h3⟩ := h.at_ hn
    refine ⟨b, off, h1, by simpa [World.setCell] using h2, fun j hj => ?_⟩
    have h4 := h3 j hj
    rw [World.cell?_setCell_other]
    · exact h4
    · intro e
      rw [← e, hp] at h4
      exact hv _ (Option.some.inj h4), h.dgs, h.le, h.room⟩
theorem IntAt.store {w : World} {neg : Bool} {a : Option Addr} {n cap k : Nat} {z : Int} (h : IntAt w neg a n cap k z) {p : Addr} {v : Value} (hp : w.cell? p = some v) (hv : ∀ x, v ≠ .int .u16 x) (u : Value) : IntAt (w.setCell p u) neg a n cap k z := by
  obtain ⟨d, h2, h3⟩ := h
  exact ⟨d, h2.store hp hv u, h3⟩
/-- A num.Int that is stored into a variable of its own. -/
theorem IntAt.put2 {w : World} {neg : Bool} {a : Option Addr} {n cap k : Nat} {z : Int} (h : IntAt w neg a n cap k z) {B : Nat} {x0 : Bool} {y0 : Option Addr} {y1 y2 : Nat} (h0 : w.cell? ⟨B, 0, none⟩ = some (.bool x0))
    (h1 : w.cell? ⟨B, 1, none⟩ = some (.slice y0 y1 y2)) (u0 u1 : Value) : IntAt ((w.setCell ⟨B, 0, none⟩ u0).setCell ⟨B, 1, none⟩ u1) neg a n cap k z := by
  have hne : (⟨B, 0, none⟩ : Addr) ≠ ⟨B, 1, none⟩ := by simp
  have h2 : (w.setCell ⟨B, 0, none⟩ u0).cell? ⟨B, 1, none⟩ = some (.slice y0 y1 y2) := (World.cell?_setCell_other _ _ _ _ hne).trans h1
  exact (h.store h0 (fun _ e => by cases e) u0).store h2 (fun _ e => by cases e) u1

/-- Behind a call that leaves old memory alone: cells and marks read as before. -/
theorem bcell {W w1 : World} (hb : Below W.heap.size W w1) : (∀ b o, b < W.heap.size → w1.cell? ⟨b, o, none⟩ = W.cell? ⟨b, o, none⟩) ∧ (∀ b o, b < W.heap.size → w1.frozen? ⟨b, o, none⟩ = W.frozen? ⟨b, o, none⟩) :=
  ⟨fun b o h => hb.cell (p := ⟨b, o, none⟩) h, fun b o h => hb.frozen (p := ⟨b, o, none⟩) h⟩

/-- The same, of the blocks below a number. -/
theorem near {W w1 : World} (H : Nat) (hH : H ≤ W.heap.size) (hb : Below W.heap.size W w1) : H ≤ w1.heap.size ∧ (∀ b o, b + 1 ≤ H → w1.cell? ⟨b, o, none⟩ = W.cell? ⟨b, o, none⟩) ∧ (∀ b o, b + 1 ≤ H → w1.frozen? ⟨b, o, none⟩ = W.frozen? ⟨b, o, none⟩) :=
  ⟨Nat.le_trans hH hb.size, fun b o h => hb.cell (p := ⟨b, o, none⟩) (Nat.lt_of_lt_of_le h hH), fun b o h => hb.frozen (p := ⟨b, o, none⟩) (Nat.lt_of_lt_of_le h hH)⟩
end Go.Proofs.Ytibbhnmbmgllcaa
