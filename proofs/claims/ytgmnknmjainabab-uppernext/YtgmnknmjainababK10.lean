/-
  Texts Rfb, NearK, Rai, Ways, DivM, RootW, Two, Over, OverN, MasM, MasI, RisM, ErfM, SmlM, ExL, GamA: what they hold is told in the last text.
-/
import Derived.Test.YtgmnknmjainababK09
set_option linter.unnecessarySimpa false
set_option linter.unusedSimpArgs false
set_option linter.unusedVariables false
namespace Go.Proofs.Ytgmnknmjainabab
open Go.RowKit
attribute [local go_sem ↓] Go.wp_at_zero Go.wp_at_succ
def byI (a : Int × Int) (n d : Int) : Int × Int := (leastZ (pr (a.1 * n) (a.2 * n)) 1 / d, -(-(mostZ (pr (a.1 * n) (a.2 * n)) 1) / d))
theorem byI_nonneg {a : Int × Int} {n d : Int} (ha : a.1 ≤ a.2) (hn : 0 ≤ n) : byI a n d = scaleI a n d := by
  have h := Int.mul_le_mul_of_nonneg_right ha hn
  have e1 : leastZ (pr (a.1 * n) (a.2 * n)) 1 = a.1 * n := by
    simp only [leastZ, pr]; simp; omega
  have e2 : mostZ (pr (a.1 * n) (a.2 * n)) 1 = a.2 * n := by
    simp only [mostZ, pr]; simp; omega
  unfold byI scaleI
  rw [e1, e2]
end Go.Proofs.Ytgmnknmjainabab
namespace Go.Proofs.Ytgmnknmjainabab
open Ex
theorem Iv.le {B : Nat} {a : Int × Int} {x : Nat → Rat} (h : Iv B a x) : a.1 ≤ a.2 :=
  Int.le_of_mul_le_mul_right (h.touch h) (by have := Q_pos B; omega)
theorem Iv.neg {B : Nat} {a : Int × Int} {x : Nat → Rat} (h : Iv B a x) : Iv B (-a.2, -a.1) (fun M => -x M) := by
  have q := Qr_pos B
  intro e he
  obtain ⟨N, hN⟩ := h e he
  refine ⟨N, fun M hM => ?_⟩
  obtain ⟨g1, g2⟩ := hN M hM
  have e1 : ((-a.2 : Int) : Rat) / (Q B : Rat) = -((a.2 : Rat) / (Q B : Rat)) := by rw [Rat.intCast_neg, Rat.div_def, Rat.div_def, Rat.neg_mul]
  have e2 : ((-a.1 : Int) : Rat) / (Q B : Rat) = -((a.1 : Rat) / (Q B : Rat)) := by rw [Rat.intCast_neg, Rat.div_def, Rat.div_def, Rat.neg_mul]
  simp only []
  rw [e1, e2]
  constructor <;> grind
theorem byI_neg {a : Int × Int} {n d : Int} (ha : a.1 ≤ a.2) (hn : n < 0) : byI a n d = scaleI (-a.2, -a.1) (-n) d := by
  have h := Int.mul_le_mul_of_nonpos_right ha (show n ≤ 0 by omega)
  have e1 : leastZ (pr (a.1 * n) (a.2 * n)) 1 = a.2 * n := by
    simp only [leastZ, pr]; simp; omega
  have e2 : mostZ (pr (a.1 * n) (a.2 * n)) 1 = a.1 * n := by
    simp only [mostZ, pr]; simp; omega
  unfold byI scaleI
  rw [e1, e2]
  simp only []
  rw [show -a.2 * -n = a.2 * n by grind, show -a.1 * -n = a.1 * n by grind]
theorem Iv.by_ {B : Nat} {a : Int × Int} {x : Nat → Rat} (h : Iv B a x) (n : Int) {d : Int} (hd : 0 < d) : Iv B (byI a n d) (fun M => (n : Rat) / (d : Rat) * x M) := by
  by_cases hn : n < 0
  · rw [byI_neg h.le hn]
    refine (h.neg.scale (n := -n) (by omega) hd).congr (null_zero.of_eq fun M => ?_)
    have e : ((-n : Int) : Rat) / (d : Rat) = -((n : Rat) / (d : Rat)) := by rw [Rat.intCast_neg, Rat.div_def, Rat.div_def, Rat.neg_mul]
    rw [e]; grind
  · rw [byI_nonneg h.le (by omega)]
    exact h.scale (by omega) hd
theorem Abs.sub {a b : Int × Int} {m n : Int} (h : Abs a m) (k : Abs b n) : Abs (subI a b) (m + n) := by
  obtain ⟨h1, h2, h3, h4⟩ := h
  obtain ⟨k1, k2, k3, k4⟩ := k
  exact ⟨by unfold subI; simp only []; omega, by unfold subI; simp only []; omega, by unfold subI; simp only []; omega, by unfold subI; simp only []; omega⟩
theorem bal_of {n d n' d' : Int} {i j : Nat} (hn : 0 < n) (hd : 0 < d) (hn' : n' = n * Q j) (hd' : d' = d * Q i) (h1 : d' ≤ n') (h2 : n' < 2 * d') (h0 : j = 0 ∨ i = 0) : Bal n d n' d' ((i : Int) - (j : Int)) := by
  have qi := Q_pos i
  have qj := Q_pos j
  have p1 : 0 < n' := by rw [hn']; exact Int.mul_pos hn (by omega)
  have p2 : 0 < d' := by rw [hd']; exact Int.mul_pos hd (by omega)
  have e0 : Q 0 = 1 := rfl
  refine ⟨⟨p1, p2, by omega, by omega⟩, fun h => ?_, fun h => ?_⟩
  · have hj : j = 0 := by omega
    subst hj
    rw [show ((i : Int) - ((0 : Nat) : Int)).toNat = i by omega, hn', hd', e0, Int.mul_one, Int.mul_assoc]
  · have hi : i = 0 := by omega
    subst hi
    rw [show (-(((0 : Nat) : Int) - (j : Int))).toNat = j by omega, hn', hd', e0, Int.mul_one]; grind
theorem isLog_two : Ex.IsLog (fun M => 2 * Ex.Az (zR 2 1) M) (fun _ => (2 : Rat)) := by
  have h := ln_isLog (n := 2) (d := 1) ⟨by omega, by omega, by omega, by omega⟩
  refine h.congr_r (Ex.null_zero.of_eq fun M => ?_)
  have e : ((2 : Int) : Rat) / ((1 : Int) : Rat) = 2 := by decide +kernel
  rw [e]; grind
end Go.Proofs.Ytgmnknmjainabab
namespace Go.Proofs.Ytgmnknmjainabab
open Go.RowKit
attribute [local go_sem ↓] Go.wp_at_zero Go.wp_at_succ
theorem put_nm2 {w : World} {B : Nat} {z : Nm} (h : NmC w B z) (x : Nm) : NmC ((w.setCell ⟨B, 0, none⟩ (.bool x.neg)).setCell ⟨B, 1, none⟩ (.slice x.a x.n x.cap)) B x := by
  obtain ⟨q0, q1⟩ := h
  constructor <;> simp [go_sem, q0, q1]
theorem put_fz2 {w : World} {B B' : Nat} (h : ∀ o, w.frozen? ⟨B, o, none⟩ = false) (u0 u1 : Value) : ∀ o, ((w.setCell ⟨B', 0, none⟩ u0).setCell ⟨B', 1, none⟩ u1).frozen? ⟨B, o, none⟩ = false := fun o => by rw [frozen_set', frozen_set']; exact h o
theorem NmC.off {w : World} {B B' : Nat} {x : Nm} (h : NmC w B x) (hne : B ≠ B') (u0 u1 : Value) : NmC ((w.setCell ⟨B', 0, none⟩ u0).setCell ⟨B', 1, none⟩ u1) B x := by
  obtain ⟨q0, q1⟩ := h
  constructor <;> simp [go_sem, q0, q1, hne, Ne.symm hne]
theorem NoI.off {w : World} {B B' : Nat} (h : NoI w B) (hne : B ≠ B') (u0 u1 : Value) : NoI ((w.setCell ⟨B', 0, none⟩ u0).setCell ⟨B', 1, none⟩ u1) B := by
  obtain ⟨q0, q1, q2⟩ := h
  exact ⟨by simp [go_sem, q0, hne, Ne.symm hne], by simp [go_sem, q1, hne, Ne.symm hne], put_fz2 q2 _ _⟩
structure RaiSt (w wr : World) (B : Nat) (a : Int) (k j e : Nat) (X Y : Nm) : Prop where
  je : j * e ≤ k
  e1 : 1 ≤ e
  e2 : e ≤ 2 * k + 1
  x : NmC wr B X
  y : NmC wr (B + 1) Y
  fx : ∀ o, wr.frozen? ⟨B, o, none⟩ = false
  fy : ∀ o, wr.frozen? ⟨B + 1, o, none⟩ = false
  ix : IntAt wr X.neg X.a X.n X.cap (4 * (k - j * e) + 4) (a ^ (k - j * e))
  iy : IntAt wr Y.neg Y.a Y.n Y.cap (4 * e) (a ^ e)
  no : NoI wr w.heap.size
  be : Below w.heap.size w wr
  lo : w.heap.size < B
theorem RaiSt.below {w wr wr' : World} {B : Nat} {a : Int} {k j e : Nat} {X Y : Nm} (h : RaiSt w wr B a k j e X Y) (hb : Below wr.heap.size wr wr') : RaiSt w wr' B a k j e X Y :=
  ⟨h.je, h.e1, h.e2, h.x.below hb, h.y.below hb, fun o => (hb.frozen (p := ⟨B, o, none⟩) h.x.lt).trans (h.fx o), fun o => (hb.frozen (p := ⟨B + 1, o, none⟩) h.y.lt).trans (h.fy o), h.ix.below hb, h.iy.below hb, h.no.below hb, bthen h.be hb, h.lo⟩
end Go.Proofs.Ytgmnknmjainabab
namespace Go.Proofs.Ytgmnknmjainabab
open Go.RowKit
attribute [local go_sem ↓] Go.wp_at_zero Go.wp_at_succ
structure LwC (w : World) (B : Nat) (k p q r s : Int) : Prop where
  c0 : w.cell? ⟨B, 0, none⟩ = some (.int .i64 k)
  c1 : w.cell? ⟨B, 1, none⟩ = some (.int .i64 p)
  c2 : w.cell? ⟨B, 2, none⟩ = some (.int .i64 q)
  c3 : w.cell? ⟨B, 3, none⟩ = some (.int .i64 r)
  c4 : w.cell? ⟨B, 4, none⟩ = some (.int .i64 s)
theorem LwC.lt {w : World} {B : Nat} {k p q r s : Int} (h : LwC w B k p q r s) : B < w.heap.size := World.block_lt_of_cell? w ⟨B, 0, none⟩ h.c0
theorem LwC.below {w w' : World} {B : Nat} {k p q r s : Int} (h : LwC w B k p q r s) (hb : Below w.heap.size w w') : LwC w' B k p q r s :=
  ⟨(hb.cell (p := ⟨B, 0, none⟩) h.lt).trans h.c0, (hb.cell (p := ⟨B, 1, none⟩) h.lt).trans h.c1, (hb.cell (p := ⟨B, 2, none⟩) h.lt).trans h.c2, (hb.cell (p := ⟨B, 3, none⟩) h.lt).trans h.c3, (hb.cell (p := ⟨B, 4, none⟩) h.lt).trans h.c4⟩
theorem LwC.off {w : World} {B B' : Nat} {k p q r s : Int} (h : LwC w B k p q r s) (hne : B ≠ B') (u0 u1 : Value) : LwC ((w.setCell ⟨B', 0, none⟩ u0).setCell ⟨B', 1, none⟩ u1) B k p q r s := by
  obtain ⟨q0, q1, q2, q3, q4⟩ := h
  constructor <;> simp [go_sem, q0, q1, q2, q3, q4, hne, Ne.symm hne]
end Go.Proofs.Ytgmnknmjainabab
namespace Go.Proofs.Ytgmnknmjainabab
open Go.RowKit
theorem div_le_div_pos {a p q : Int} (hp : 0 < p) (hpq : p ≤ q) (ha : 0 ≤ a) : a / q ≤ a / p := by
  have hq : 0 < q := by omega
  have h0 : 0 ≤ a / q := Int.ediv_nonneg ha (by omega)
  rw [Int.le_ediv_iff_mul_le hp]
  have h1 := Int.ediv_mul_le a (show q ≠ 0 by omega)
  have h2 := Int.mul_le_mul_of_nonneg_left hpq h0
  omega
theorem div_le_div_neg {a p q : Int} (hp : 0 < p) (hpq : p ≤ q) (ha : a ≤ 0) : a / p ≤ a / q := by
  have hq : 0 < q := by omega
  have h0 : a / p ≤ 0 := by
    have := Int.ediv_le_ediv hp ha
    simpa using this
  rw [Int.le_ediv_iff_mul_le hq]
  have h1 := Int.ediv_mul_le a (show p ≠ 0 by omega)
  have h2 := Int.mul_le_mul_of_nonneg_left hpq (show 0 ≤ -(a / p) by omega)
  rw [Int.neg_mul, Int.neg_mul] at h2
  omega
theorem over_least {l h p q : Int} (hlh : l ≤ h) (hp : 0 < p) (hpq : p ≤ q) :
    leastZ (pr4 (l / p) (l / q) (h / p) (h / q)) 3 = if l < 0 then l / p else l / q := by
  have m1 : l / p ≤ h / p := Int.ediv_le_ediv hp hlh
  have m2 : l / q ≤ h / q := Int.ediv_le_ediv (by omega) hlh
  have d1 : 0 ≤ l → l / q ≤ l / p := div_le_div_pos hp hpq
  have d2 : l ≤ 0 → l / p ≤ l / q := div_le_div_neg hp hpq
  have d3 : 0 ≤ h → h / q ≤ h / p := div_le_div_pos hp hpq
  have d4 : h ≤ 0 → h / p ≤ h / q := div_le_div_neg hp hpq
  simp only [leastZ, pr4]
  simp
  generalize l / p = A at *
  generalize l / q = B at *
  generalize h / p = C at *
  generalize h / q = D at *
  split <;> split <;> split <;> split <;> omega
theorem over_most {l h p q : Int} (hlh : l ≤ h) (hp : 0 < p) (hpq : p ≤ q) :
    mostZ (pr4 (-(-l / p)) (-(-l / q)) (-(-h / p)) (-(-h / q))) 3 = if h < 0 then -(-h / q) else -(-h / p) := by
  have m1 : -h / p ≤ -l / p := Int.ediv_le_ediv hp (by omega)
  have m2 : -h / q ≤ -l / q := Int.ediv_le_ediv (by omega) (by omega)
  have d1 : 0 ≤ -l → -l / q ≤ -l / p := div_le_div_pos hp hpq
  have d2 : -l ≤ 0 → -l / p ≤ -l / q := div_le_div_neg hp hpq
  have d3 : 0 ≤ -h → -h / q ≤ -h / p := div_le_div_pos hp hpq
  have d4 : -h ≤ 0 → -h / p ≤ -h / q := div_le_div_neg hp hpq
  simp only [mostZ, pr4]
  simp
  generalize -l / p = A at *
  generalize -l / q = B at *
  generalize -h / p = C at *
  generalize -h / q = D at *
  split <;> split <;> split <;> split <;> omega
def rtN : Nat → Nat
  | 0 => 0
  | n + 1 => if (rtN n + 1) * (rtN n + 1) ≤ n + 1 then rtN n + 1 else rtN n
def rtZ (x : Int) : Int := (rtN x.toNat : Int)
theorem rtN_spec (n : Nat) : rtN n * rtN n ≤ n ∧ n < (rtN n + 1) * (rtN n + 1) := by
  induction n with
  | zero => simp [rtN]
  | succ n ih =>
    unfold rtN
    split
    · rename_i h
      refine ⟨h, ?_⟩
      have e : (rtN n + 1 + 1) * (rtN n + 1 + 1) = (rtN n + 1) * (rtN n + 1) + 2 * (rtN n + 1) + 1 := by
        rw [Nat.add_mul, Nat.mul_add]; omega
      omega
    · rename_i h
      exact ⟨by omega, by omega⟩
theorem rtZ_nonneg (x : Int) : 0 ≤ rtZ x := by unfold rtZ; omega
theorem rtZ_sq {x : Int} (h : 0 ≤ x) : rtZ x * rtZ x ≤ x ∧ x < (rtZ x + 1) * (rtZ x + 1) := by
  obtain ⟨h1, h2⟩ := rtN_spec x.toNat
  unfold rtZ
  have h3 : ((rtN x.toNat * rtN x.toNat : Nat) : Int) ≤ (x.toNat : Int) := by exact_mod_cast h1
  have h4 : (x.toNat : Int) < (((rtN x.toNat + 1) * (rtN x.toNat + 1) : Nat) : Int) := by exact_mod_cast h2
  rw [Int.toNat_of_nonneg h] at h3 h4
  push_cast at h3 h4
  exact ⟨h3, h4⟩
theorem RootOf.eq {x z : Int} (h : RootOf x z) : z = rtZ x := by
  obtain ⟨h1, h2, h3⟩ := h
  rcases Int.lt_or_le 0 x with hx | hx
  · obtain ⟨h4, h5⟩ := rtZ_sq (x := x) (by omega)
    exact root_uniq h1 (rtZ_nonneg x) (h3 hx).1 (h3 hx).2 h4 h5
  · rw [h2 hx]; unfold rtZ; rw [show x.toNat = 0 by omega]; rfl
end Go.Proofs.Ytgmnknmjainabab
namespace Go.Proofs.Ytgmnknmjainabab
open Go.RowKit
attribute [local go_sem ↓] Go.wp_at_zero Go.wp_at_succ
theorem cell_put2 {w : World} {B B' o : Nat} {v : Option Value} (h : w.cell? ⟨B, o, none⟩ = v) (hne : B ≠ B') (u0 u1 : Value) : ((w.setCell ⟨B', 0, none⟩ u0).setCell ⟨B', 1, none⟩ u1).cell? ⟨B, o, none⟩ = v := by
  have ne : ∀ i : Nat, (⟨B', i, none⟩ : Addr) ≠ ⟨B, o, none⟩ := fun i e => hne (by injection e with e1; exact e1.symm)
  rw [World.cell?_setCell_other _ _ _ _ (ne 1), World.cell?_setCell_other _ _ _ _ (ne 0)]
  exact h
theorem cell_put5' {w : World} {B B' o : Nat} {v : Option Value} (h : w.cell? ⟨B, o, none⟩ = v) (hne : B ≠ B') (u0 u1 u2 u3 u4 : Value) :
    (((((w.setCell ⟨B', 0, none⟩ u0).setCell ⟨B', 1, none⟩ u1).setCell ⟨B', 2, none⟩ u2).setCell ⟨B', 3, none⟩ u3).setCell ⟨B', 4, none⟩ u4).cell? ⟨B, o, none⟩ = v := by
  have ne : ∀ i : Nat, (⟨B', i, none⟩ : Addr) ≠ ⟨B, o, none⟩ := fun i e => hne (by injection e with e1; exact e1.symm)
  rw [World.cell?_setCell_other _ _ _ _ (ne 4), World.cell?_setCell_other _ _ _ _ (ne 3), World.cell?_setCell_other _ _ _ _ (ne 2), World.cell?_setCell_other _ _ _ _ (ne 1), World.cell?_setCell_other _ _ _ _ (ne 0)]
  exact h
theorem SpC.put2 {w : World} {B B' : Nat} {s : Sp} (h : SpC w B s) (hne : B ≠ B') (u0 u1 : Value) : SpC ((w.setCell ⟨B', 0, none⟩ u0).setCell ⟨B', 1, none⟩ u1) B s :=
  ⟨cell_put2 h.c0 hne _ _, cell_put2 h.c1 hne _ _, cell_put2 h.c2 hne _ _, cell_put2 h.c3 hne _ _, cell_put2 h.c4 hne _ _⟩
theorem NmC.put2 {w : World} {B B' : Nat} {x : Nm} (h : NmC w B x) (hne : B ≠ B') (u0 u1 : Value) : NmC ((w.setCell ⟨B', 0, none⟩ u0).setCell ⟨B', 1, none⟩ u1) B x :=
  ⟨cell_put2 h.c0 hne _ _, cell_put2 h.c1 hne _ _⟩
theorem NoC.put2 {w : World} {B B' : Nat} (h : NoC w B) (hne : B ≠ B') (u0 u1 : Value) : NoC ((w.setCell ⟨B', 0, none⟩ u0).setCell ⟨B', 1, none⟩ u1) B := by
  obtain ⟨q0, q1, q2, q3, q4, q5⟩ := h
  exact ⟨cell_put2 q0 hne _ _, cell_put2 q1 hne _ _, cell_put2 q2 hne _ _, cell_put2 q3 hne _ _, cell_put2 q4 hne _ _, fun o => by rw [frozen_set', frozen_set']; exact q5 o⟩
theorem SpAt.put2 {w : World} {s : Sp} {k : Nat} {lo hi : Int} (h : SpAt w s k lo hi) {B : Nat} {x0 : Bool} {y0 : Option Addr} {y1 y2 : Nat} (h0 : w.cell? ⟨B, 0, none⟩ = some (.bool x0)) (h1 : w.cell? ⟨B, 1, none⟩ = some (.slice y0 y1 y2)) (u0 u1 : Value) :
    SpAt ((w.setCell ⟨B, 0, none⟩ u0).setCell ⟨B, 1, none⟩ u1) s k lo hi := ⟨h.lo.put2 h0 h1 _ _, h.hi.put2 h0 h1 _ _⟩
end Go.Proofs.Ytgmnknmjainabab
namespace Go.Proofs.Ytgmnknmjainabab
open Go.RowKit
theorem hs1 (w : World) (o1 : Obj) : (w.alloc o1).heap.size = w.heap.size + 1 := by simp
variable {W w2 : World} {k1 k2 : Nat} {z1 z2 : Int} {x y : Nm} {T : TypeId}
end Go.Proofs.Ytgmnknmjainabab
namespace Go.Proofs.Ytgmnknmjainabab
open Go.RowKit
attribute [local go_sem ↓] Go.wp_at_zero Go.wp_at_succ
def ovLo (l h p q : Int) : Int := if l < 0 then l / p else l / q
def ovHi (l h p q : Int) : Int := if h < 0 then -(-h / q) else -(-h / p)
structure OVs (w wr : World) (s t : Sp) (k k1 k2 BL CL BM CM : Nat) (xL yL xM yM : Nm) (lo' hi' l h m n : Int) : Prop where
  A : SpC wr w.heap.size s
  G : SpC wr (w.heap.size + 1) t
  R : NoC wr (w.heap.size + 1 + 1)
  XL : NmC wr BL xL
  YL : NmC wr CL yL
  XM : NmC wr BM xM
  YM : NmC wr CM yM
  il : IntAt wr xL.neg xL.a xL.n xL.cap k1 l
  ih : IntAt wr yL.neg yL.a yL.n yL.cap k1 h
  im : IntAt wr xM.neg xM.a xM.n xM.cap k2 m
  jn : IntAt wr yM.neg yM.a yM.n yM.cap k2 n
  ht : SpAt wr t k lo' hi'
  fM : ∀ o, wr.frozen? ⟨BM, o, none⟩ = false
  fN : ∀ o, wr.frozen? ⟨CM, o, none⟩ = false
  hB : Below w.heap.size w wr
variable {w wr w' : World} {s t : Sp} {k k1 k2 BL CL BM CM : Nat} {xL yL xM yM : Nm} {lo' hi' l h m n : Int}
theorem OVs.below (D : OVs w wr s t k k1 k2 BL CL BM CM xL yL xM yM lo' hi' l h m n) (hb : Below wr.heap.size wr w') : OVs w w' s t k k1 k2 BL CL BM CM xL yL xM yM lo' hi' l h m n :=
  ⟨D.A.below hb, D.G.below hb, D.R.below hb, D.XL.below hb, D.YL.below hb, D.XM.below hb, D.YM.below hb, D.il.below hb, D.ih.below hb, D.im.below hb, D.jn.below hb, D.ht.below hb, fun o => (hb.frozen (p := ⟨BM, o, none⟩) D.XM.lt).trans (D.fM o), fun o => (hb.frozen (p := ⟨CM, o, none⟩) D.YM.lt).trans (D.fN o), bthen D.hB hb⟩
end Go.Proofs.Ytgmnknmjainabab
namespace Go.Proofs.Ytgmnknmjainabab
open Go.RowKit
attribute [local go_sem ↓] Go.wp_at_zero Go.wp_at_succ
def dvLo (lo hi lo' hi' : Int) (b : Nat) : Int := if hi' < 0 then ovLo (-hi * Q b) (-lo * Q b) (-hi') (-lo') else ovLo (lo * Q b) (hi * Q b) lo' hi'
def dvHi (lo hi lo' hi' : Int) (b : Nat) : Int := if hi' < 0 then ovHi (-hi * Q b) (-lo * Q b) (-hi') (-lo') else ovHi (lo * Q b) (hi * Q b) lo' hi'
end Go.Proofs.Ytgmnknmjainabab
namespace Go.Proofs.Ytgmnknmjainabab
open Ex
namespace Ex
theorem lin_le {L y c d a t : Rat} (h1 : L * c ≤ a) (h2 : L * d ≤ a) (g1 : c - t ≤ y) (g2 : y ≤ d + t) (k : Rat) (k1 : L ≤ k) (k2 : -L ≤ k) (ht : 0 ≤ t) : L * y ≤ a + k * t := by
  by_cases hL : 0 ≤ L
  · have := Rat.mul_nonneg hL (show 0 ≤ d + t - y by grind)
    have := Rat.mul_nonneg (show 0 ≤ k - L by grind) ht
    grind
  · have := Rat.mul_nonneg (show 0 ≤ -L by grind) (show 0 ≤ y - (c - t) by grind)
    have := Rat.mul_nonneg (show 0 ≤ k + L by grind) ht
    grind
theorem Has.div {a b c d L U : Rat} {x y : Nat → Rat} (h : Has a b x) (k : Has c d y) (hc : 0 < c) (h1 : L * c ≤ a) (h2 : L * d ≤ a) (h3 : b ≤ U * c) (h4 : b ≤ U * d) : Has L U (fun M => x M / y M) := fun e he => by
  obtain ⟨m, m0, m1, m2, m3, m4⟩ : ∃ m : Rat, 0 < m ∧ L ≤ m ∧ -L ≤ m ∧ U ≤ m ∧ -U ≤ m := by
    refine ⟨1 + (if 0 ≤ L then L else -L) + (if 0 ≤ U then U else -U), ?_, ?_, ?_, ?_, ?_⟩ <;> split <;> split <;> grind
  have m5 : (0 : Rat) < 2 * (1 + m) := by grind
  have hec : 0 < e * c := Rat.mul_pos he hc
  obtain ⟨t, t0, t1, t2⟩ : ∃ t : Rat, 0 < t ∧ 2 * t ≤ c ∧ t * (2 * (1 + m)) ≤ e * c := by
    have f := rdm (a := e * c) m5
    have f0 := rdiv_pos hec m5
    by_cases hh : e * c / (2 * (1 + m)) ≤ c / 2
    · exact ⟨e * c / (2 * (1 + m)), f0, by grind, by grind⟩
    · refine ⟨c / 2, by grind, by grind, ?_⟩
      have := Rat.mul_nonneg (show 0 ≤ e * c / (2 * (1 + m)) - c / 2 by grind) (show 0 ≤ 2 * (1 + m) by grind)
      grind
  obtain ⟨N1, g1⟩ := h t t0
  obtain ⟨N2, g2⟩ := k t t0
  refine ⟨N1 + N2, fun M hM => ?_⟩
  obtain ⟨p1, p2⟩ := g1 M (by omega)
  obtain ⟨q1, q2⟩ := g2 M (by omega)
  have y0 : 0 < y M := by grind
  have ey : e * c ≤ 2 * (e * y M) := by
    have := Rat.mul_nonneg (Rat.le_of_lt he) (show 0 ≤ 2 * y M - c by grind)
    grind
  constructor
  · refine rle_div y0 ?_
    have := lin_le h1 h2 q1 q2 m m1 m2 (Rat.le_of_lt t0)
    grind
  · refine rdiv_le y0 ?_
    have := lin_le (L := -U) (a := -b) (by grind) (by grind) q1 q2 m (by grind) (by grind) (Rat.le_of_lt t0)
    grind
end Ex
theorem Iv.div {B : Nat} {s t : Int × Int} {x y : Nat → Rat} (h : Iv B s x) (k : Iv B t y) (h0 : 0 < t.1) {lo hi : Int} (h1 : lo * t.1 ≤ s.1 * Q B) (h2 : lo * t.2 ≤ s.1 * Q B) (h3 : s.2 * Q B ≤ hi * t.1) (h4 : s.2 * Q B ≤ hi * t.2) : Iv B (lo, hi) (fun M => x M / y M) := by
  have q := Qr_pos B
  have t0 : (0 : Rat) < (t.1 : Rat) := by exact_mod_cast h0
  have key : ∀ {u v z : Int}, u * v ≤ z * Q B → (u : Rat) / (Q B : Rat) * ((v : Rat) / (Q B : Rat)) ≤ (z : Rat) / (Q B : Rat) := fun {u v z} hh => mul_hi (by have := Q_pos B; omega) hh
  have key2 : ∀ {u v z : Int}, z * Q B ≤ u * v → (z : Rat) / (Q B : Rat) ≤ (u : Rat) / (Q B : Rat) * ((v : Rat) / (Q B : Rat)) := fun {u v z} hh => mul_lo (by have := Q_pos B; omega) hh
  exact Has.div h k (rdiv_pos t0 q) (key h1) (key h2) (key2 h3) (key2 h4)
theorem dv_pos {lo hi lo' hi' : Int} {b : Nat} (h0 : 0 ≤ lo) (h1 : lo ≤ hi) (h2 : 0 < lo') (h3 : lo' ≤ hi') : dvLo lo hi lo' hi' b = lo * Q b / hi' ∧ dvHi lo hi lo' hi' b = -(-(hi * Q b) / lo') := by
  have q := Q_pos b
  have p1 := Int.mul_nonneg h0 (show 0 ≤ Q b by omega)
  have p2 := Int.mul_nonneg (show 0 ≤ hi by omega) (show 0 ≤ Q b by omega)
  unfold dvLo dvHi ovLo ovHi
  rw [if_neg (by omega), if_neg (by omega), if_neg (by omega), if_neg (by omega)]
  exact ⟨rfl, rfl⟩
theorem dv_ceil (a : Int) {d : Int} (hd : 0 < d) : a ≤ -(-a / d) * d := by
  have := Int.ediv_mul_le (-a) (show d ≠ 0 by omega)
  rw [Int.neg_mul]; omega
theorem dv_floor (a : Int) {d : Int} (hd : 0 < d) : a / d * d ≤ a := Int.ediv_mul_le a (by omega)
theorem Iv.dv {B : Nat} {s t : Int × Int} {x y : Nat → Rat} (h : Iv B s x) (k : Iv B t y) (hs : 0 ≤ s.1) (h0 : 0 < t.1) : Iv B (dvLo s.1 s.2 t.1 t.2 B, dvHi s.1 s.2 t.1 t.2 B) (fun M => x M / y M) := by
  have hs2 := h.le
  have ht2 := k.le
  have q := Q_pos B
  obtain ⟨e1, e2⟩ := dv_pos (b := B) hs hs2 h0 ht2
  rw [e1, e2]
  have p1 := Int.mul_nonneg hs (show 0 ≤ Q B by omega)
  have l0 : 0 ≤ s.1 * Q B / t.2 := Int.ediv_nonneg p1 (by omega)
  have f1 := dv_floor (s.1 * Q B) (show 0 < t.2 by omega)
  have f2 := dv_ceil (s.2 * Q B) h0
  have p2 := Int.mul_nonneg (show 0 ≤ s.2 by omega) (show 0 ≤ Q B by omega)
  have u0 : 0 ≤ -(-(s.2 * Q B) / t.1) := by
    have : -(s.2 * Q B) / t.1 ≤ 0 := Int.ediv_nonpos_of_nonpos_of_neg (by omega) h0
    omega
  have g1 := Int.mul_le_mul_of_nonneg_left ht2 l0
  have g2 := Int.mul_le_mul_of_nonneg_left ht2 u0
  exact h.div k h0 (by omega) f1 f2 (by omega)
end Go.Proofs.Ytgmnknmjainabab
namespace Go.Proofs.Ytgmnknmjainabab
open Ex
theorem mulI_nonneg {B : Nat} {a b : Int × Int} (ha : 0 ≤ a.1) (ha2 : 0 ≤ a.2) (hb : 0 ≤ b.1) (hb2 : 0 ≤ b.2) : 0 ≤ (mulI B a b).1 := by
  have q := Q_pos B
  obtain ⟨_, _, _, _, h⟩ := least4 (a.1 * b.1) (a.1 * b.2) (a.2 * b.1) (a.2 * b.2)
  have p1 := Int.mul_nonneg ha hb
  have p2 := Int.mul_nonneg ha hb2
  have p3 := Int.mul_nonneg ha2 hb
  have p4 := Int.mul_nonneg ha2 hb2
  exact Int.ediv_nonneg (by omega) (by omega)
theorem expT_nonneg {B : Nat} {sm : Int × Int} (h : 0 ≤ sm.1) (h2 : sm.1 ≤ sm.2) (n : Nat) : 0 ≤ (expT B sm n).1 := by
  induction n with
  | zero => have := Q_pos B; show 0 ≤ Q B; omega
  | succ n ih =>
    have hl := expT_le B sm n
    have h3 := mulI_nonneg (B := B) (a := expT B sm n) (b := sm) ih (by omega) h (by omega)
    show 0 ≤ (scaleI (mulI B (expT B sm n) sm) 1 ((n : Int) + 1)).1
    unfold scaleI
    exact Int.ediv_nonneg (by omega) (by omega)
theorem sumI_low {B : Nat} {sm : Int × Int} (h : 0 ≤ sm.1) (h2 : sm.1 ≤ sm.2) (n : Nat) : Q B ≤ (sumI (expT B sm) n).1 := by
  induction n with
  | zero => exact Int.le_refl _
  | succ n ih =>
    have := expT_nonneg (B := B) h h2 (n + 1)
    show Q B ≤ (addI (sumI (expT B sm) n) (expT B sm (n + 1))).1
    unfold addI
    simp only []
    omega
theorem done_low {B N : Nat} {sm : Int × Int} (h : 0 ≤ sm.1) (h2 : sm.1 ≤ sm.2) (hN : IsStop (expT B sm) N) : Q B - 1 ≤ (doneI (expT B sm) N).1 := by
  have h3 := sumI_low (B := B) h h2 N
  have h4 := hN.1
  unfold doneI addI
  simp only []
  omega
theorem sq_low {B : Nat} {d : Int × Int} (hd : d.1 ≤ d.2) (t : Nat) (hq : Q t ≤ Q B) (h : Q B - 1 ≤ d.1) : Q B - Q t ≤ (sqI B d t).1 ∧ (sqI B d t).1 ≤ (sqI B d t).2 := by
  have q := Q_pos B
  induction t with
  | zero => exact ⟨h, hd⟩
  | succ t ih =>
    have e : Q (t + 1) = 2 * Q t := rfl
    have qt := Q_pos t
    obtain ⟨i1, i2⟩ := ih (by omega)
    refine ⟨?_, mulI_le B⟩
    show Q B - Q (t + 1) ≤ (mulI B (sqI B d t) (sqI B d t)).1
    generalize sqI B d t = a at *
    obtain ⟨_, _, _, _, hh⟩ := least4 (a.1 * a.1) (a.1 * a.2) (a.2 * a.1) (a.2 * a.2)
    have c0 : 0 ≤ a.1 := by omega
    have m1 := Int.mul_le_mul_of_nonneg_left i2 c0
    have m2 := Int.mul_le_mul_of_nonneg_right i2 c0
    have m3 := Int.mul_le_mul i2 i2 c0 (by omega)
    have m4 := Int.mul_le_mul i1 i1 (by omega) c0
    have e2 : (Q B - Q t) * (Q B - Q t) = (Q B - 2 * Q t) * Q B + Q t * Q t := by grind
    have m5 := Int.mul_nonneg (show 0 ≤ Q t by omega) (show 0 ≤ Q t by omega)
    have m6 : (Q B - Q (t + 1)) * Q B ≤ leastZ (pr4 (a.1 * a.1) (a.1 * a.2) (a.2 * a.1) (a.2 * a.2)) 3 := by rw [e]; omega
    exact Int.le_ediv_of_mul_le (by omega) m6
theorem one_iv (B : Nat) : Iv B (Q B, Q B) (fun _ => 1) := by
  have h := (Iv.of B (n := 1) (d := 1) (by decide))
  have e : ofI 1 1 B = (Q B, Q B) := by unfold ofI; simp only [Int.ediv_one, Int.neg_neg, Int.one_mul]
  rw [e] at h
  have e2 : ((1 : Int) : Rat) / ((1 : Int) : Rat) = 1 := by decide +kernel
  rw [e2] at h
  exact h
theorem Iv.cap {B : Nat} {a : Int × Int} {x : Nat → Rat} (h : Iv B a x) (N0 : Nat) (hx : ∀ M, N0 ≤ M → x M ≤ 1) : Iv B (a.1, if a.2 ≤ Q B then a.2 else Q B) x := by
  split
  · exact h
  · intro e he
    obtain ⟨N, hN⟩ := h e he
    refine ⟨N + N0, fun M hM => ?_⟩
    have g := (hN M (by omega)).1
    have g2 := hx M (by omega)
    have q := Qr_pos B
    have e1 : (Q B : Rat) / (Q B : Rat) = 1 := by rw [Rat.div_def, Rat.mul_inv_cancel _ (by grind)]
    simp only []
    rw [e1]
    constructor <;> grind
namespace Ex
end Ex
theorem rat_nonneg {p q : Int} (hp : 0 ≤ p) (hq : 0 < q) : (0 : Rat) ≤ (p : Rat) / (q : Rat) := by
  have q0 : (0 : Rat) < (q : Rat) := by exact_mod_cast hq
  have p0 : (0 : Rat) ≤ (p : Rat) := by exact_mod_cast hp
  refine rle_div q0 ?_
  grind
end Go.Proofs.Ytgmnknmjainabab
namespace Go.Proofs.Ytgmnknmjainabab
open Ex
def riT (a : Int × Int) (u d : Nat → Int) : Nat → Int × Int
  | 0 => a
  | n + 1 => scaleI (riT a u d n) (u (n + 1)) (d (n + 1))
def IsRise (f : Nat → Int × Int) (turn N : Nat) : Prop := turn ≤ N ∧ (f N).2 ≤ 3 ∧ ∀ j, j < N → j < turn ∨ 3 < (f j).2
def riseI (f : Nat → Int × Int) (N : Nat) : Int × Int := addI (sumI f N) (0, 9)
structure RiOk (u d : Nat → Int) : Prop where
  u0 : ∀ n, 0 ≤ u n
  d0 : ∀ n, 0 < d n
theorem riT_le {a : Int × Int} {u d : Nat → Int} (h : RiOk u d) (ha : a.1 ≤ a.2) (n : Nat) : (riT a u d n).1 ≤ (riT a u d n).2 := by
  induction n with
  | zero => exact ha
  | succ n ih => exact scaleI_le ih (h.d0 _) (h.u0 _)
theorem riT_nonneg {a : Int × Int} {u d : Nat → Int} (h : RiOk u d) (ha : 0 ≤ a.1) (n : Nat) : 0 ≤ (riT a u d n).1 := by
  induction n with
  | zero => exact ha
  | succ n ih => exact Int.ediv_nonneg (Int.mul_nonneg ih (h.u0 _)) (by have := h.d0 (n + 1); omega)
theorem dv_floor2 (a : Int) {d : Int} (hd : 0 < d) : a < (a / d + 1) * d := Int.lt_ediv_add_one_mul_self _ hd
theorem fall34 {x u d : Int} (hd : 0 < d) (hx : 0 ≤ x) (h : 4 * u ≤ 3 * d) : 4 * -(-(x * u) / d) ≤ 3 * x + 3 := by
  have h1 := Int.mul_le_mul_of_nonneg_left h hx
  have h2 := dv_floor2 (-(x * u)) hd
  refine Int.not_lt.1 fun hn => ?_
  obtain ⟨c, hc⟩ : ∃ c, c = -(-(x * u) / d) := ⟨_, rfl⟩
  have h3 : (c - 1) * d < x * u := by
    have e : (-(x * u) / d + 1) * d = -((c - 1) * d) := by rw [hc]; grind
    omega
  rw [← hc] at hn
  have h4 := Int.mul_le_mul_of_nonneg_right (show 3 * x + 4 ≤ 4 * c by omega) (show 0 ≤ d by omega)
  have e1 : (3 * x + 4) * d = 3 * x * d + 4 * d := by grind
  have e2 : 4 * c * d = 4 * ((c - 1) * d) + 4 * d := by grind
  have e3 : x * (4 * u) = 4 * (x * u) := by grind
  have e4 : x * (3 * d) = 3 * x * d := by grind
  omega
theorem rise_steps {g : Nat → Int} (h : ∀ j, 4 * g (j + 1) ≤ 3 * g j + 3) : ∀ (H j : Nat), g j - 3 < Q H → ∃ i, i ≤ j + 3 * H ∧ j ≤ i ∧ g i ≤ 3 := by
  intro H
  induction H with
  | zero =>
    intro j hj
    have e : Q 0 = 1 := rfl
    exact ⟨j, by omega, Nat.le_refl _, by omega⟩
  | succ H ih =>
    intro j hj
    have e : Q (H + 1) = 2 * Q H := rfl
    have q := Q_pos H
    have h1 := h j
    have h2 := h (j + 1)
    have h3 := h (j + 2)
    obtain ⟨i, i1, i2, i3⟩ := ih (j + 3) (by rw [show j + 3 = j + 2 + 1 by omega]; rw [show j + 2 = j + 1 + 1 by omega] at *; omega)
    exact ⟨i, by omega, by omega, i3⟩
theorem rise_ex {a : Int × Int} {u d : Nat → Int} {turn H : Nat} (h : RiOk u d) (ha : 0 ≤ a.1) (hl : a.1 ≤ a.2) (h34 : ∀ n, turn ≤ n → 4 * u (n + 1) ≤ 3 * d (n + 1)) (hH : (riT a u d turn).2 - 3 < Q H) : ∃ N, N ≤ turn + 3 * H ∧ IsRise (riT a u d) turn N := by
  have hg : ∀ j, 4 * (riT a u d (turn + (j + 1))).2 ≤ 3 * (riT a u d (turn + j)).2 + 3 := fun j => by
    have h0 := riT_nonneg h ha (turn + j)
    have h1 := riT_le h hl (turn + j)
    exact fall34 (x := (riT a u d (turn + j)).2) (h.d0 (turn + j + 1)) (by omega) (h34 (turn + j) (by omega))
  obtain ⟨i, i1, i2, i3⟩ := rise_steps hg H 0 hH
  obtain ⟨N, n1, n2, n3⟩ := exists_least (p := fun N => turn ≤ N ∧ (riT a u d N).2 ≤ 3) (K := turn + i) ⟨by omega, i3⟩
  refine ⟨N, by omega, n2.1, n2.2, fun j hj => ?_⟩
  have := n3 j hj
  by_cases ht : j < turn
  · exact Or.inl ht
  · exact Or.inr (Int.not_le.1 fun hh => this ⟨by omega, hh⟩)
def riV (x : Nat → Rat) (u d : Nat → Int) : Nat → Nat → Rat
  | 0, M => x M
  | n + 1, M => (u (n + 1) : Rat) / (d (n + 1) : Rat) * riV x u d n M
theorem riT_has {B : Nat} {a : Int × Int} {x : Nat → Rat} {u d : Nat → Int} (h : RiOk u d) (hx : Iv B a x) (n : Nat) : Iv B (riT a u d n) (fun M => riV x u d n M) := by
  induction n with
  | zero => exact hx
  | succ n ih => exact ih.scale (h.u0 _) (h.d0 _)
theorem riV_nonneg {x : Nat → Rat} {u d : Nat → Int} (h : RiOk u d) {M : Nat} (hx : 0 ≤ x M) (n : Nat) : 0 ≤ riV x u d n M := by
  induction n with
  | zero => exact hx
  | succ n ih =>
    have h1 := rat_nonneg (h.u0 (n + 1)) (h.d0 (n + 1))
    exact Rat.mul_nonneg h1 ih
theorem riV_fall {x : Nat → Rat} {u d : Nat → Int} (h : RiOk u d) {M : Nat} (hx : 0 ≤ x M) {n : Nat} (h34 : 4 * u (n + 1) ≤ 3 * d (n + 1)) : 4 * riV x u d (n + 1) M ≤ 3 * riV x u d n M := by
  have h0 := riV_nonneg h hx n
  have d0 : (0 : Rat) < (d (n + 1) : Rat) := by exact_mod_cast h.d0 (n + 1)
  have h1 : (u (n + 1) : Rat) / (d (n + 1) : Rat) ≤ 3 / 4 := by
    refine rdiv_le d0 ?_
    have := cast_le h34
    rw [Rat.intCast_mul, Rat.intCast_mul, show ((4 : Int) : Rat) = 4 from rfl, show ((3 : Int) : Rat) = 3 from rfl] at this
    grind
  have h2 := Rat.mul_nonneg (show 0 ≤ 3 / 4 - (u (n + 1) : Rat) / (d (n + 1) : Rat) by grind) h0
  show 4 * ((u (n + 1) : Rat) / (d (n + 1) : Rat) * riV x u d n M) ≤ _
  grind
theorem rise_has {B N : Nat} {f : Nat → Int × Int} {g : Nat → Nat → Rat} (h : ∀ n, Iv B (f n) (fun M => g n M)) (hN : (f N).2 ≤ 3) (M0 : Nat) (h0 : ∀ M, M0 ≤ M → ∀ n, 0 ≤ g n M) (hh : ∀ M, M0 ≤ M → ∀ n, N ≤ n → 4 * g (n + 1) M ≤ 3 * g n M) : Iv B (riseI f N) (fun M => S (fun k => g k M) M) := by
  have hs : ∀ n, Iv B (sumI f n) (fun M => S (fun k => g k M) (n + 1)) := fun n => by
    induction n with
    | zero =>
      refine (h 0).congr (null_zero.of_eq fun M => ?_)
      show S (fun k => g k M) 1 - g 0 M = 0
      have e : S (fun k => g k M) 1 = 0 + g 0 M := rfl
      rw [e]; grind
    | succ n ih => exact ih.add (h (n + 1))
  have ht : ∀ M, M0 ≤ M → ∀ i, 0 ≤ S (fun k => g k M) (N + 1 + i) - S (fun k => g k M) (N + 1) ∧ S (fun k => g k M) (N + 1 + i) - S (fun k => g k M) (N + 1) + 3 * g (N + i) M ≤ 3 * g N M := fun M hM i => by
    induction i with
    | zero => constructor <;> (show _ ≤ _; simp only [Nat.add_zero]; grind)
    | succ i ih =>
      have e : S (fun k => g k M) (N + 1 + (i + 1)) = S (fun k => g k M) (N + 1 + i) + g (N + 1 + i) M := rfl
      have h1 := h0 M hM (N + 1 + i)
      have h2 := hh M hM (N + i) (by omega)
      rw [show N + i + 1 = N + 1 + i by omega] at h2
      rw [e, show N + (i + 1) = N + 1 + i by omega]
      constructor <;> grind
  have q := Qr_pos B
  intro e he
  obtain ⟨N1, g1⟩ := hs N (e / 4) (by grind)
  obtain ⟨N2, g2⟩ := h N (e / 4) (by grind)
  refine ⟨M0 + N1 + N2 + N + 1, fun M hM => ?_⟩
  obtain ⟨a1, a2⟩ := g1 M (by omega)
  obtain ⟨b1, b2⟩ := g2 M (by omega)
  obtain ⟨t1, t2⟩ := ht M (by omega) (M - (N + 1))
  have t3 := h0 M (by omega) (N + (M - (N + 1)))
  rw [show N + 1 + (M - (N + 1)) = M by omega] at t1 t2
  have c2 : ((f N).2 : Rat) / (Q B : Rat) ≤ ((3 : Int) : Rat) / (Q B : Rat) := rdiv_le q (by rw [rdm q]; exact cast_le hN)
  have e1 : (((riseI f N).1 : Int) : Rat) / (Q B : Rat) = ((sumI f N).1 : Rat) / (Q B : Rat) := by
    unfold riseI addI; simp only []; rw [Int.add_zero]
  have e2 : (((riseI f N).2 : Int) : Rat) / (Q B : Rat) = ((sumI f N).2 : Rat) / (Q B : Rat) + 3 * (((3 : Int) : Rat) / (Q B : Rat)) := by
    unfold riseI addI; simp only []
    rw [Rat.intCast_add, rdiv_add]
    congr 1
    have e9 : ((9 : Int) : Rat) = 3 * ((3 : Int) : Rat) := by decide +kernel
    rw [e9, Rat.div_def, Rat.div_def, Rat.mul_assoc]
  simp only [] at a1 a2 b1 b2
  rw [e1, e2]
  constructor <;> grind
def riS (x : Nat → Rat) (u d : Nat → Int) (M : Nat) : Rat := S (fun k => riV x u d k M) M
theorem rising_has {B N turn : Nat} {a : Int × Int} {x : Nat → Rat} {u d : Nat → Int} (h : RiOk u d) (hx : Iv B a x) (M0 : Nat) (hx0 : ∀ M, M0 ≤ M → 0 ≤ x M) (h34 : ∀ n, turn ≤ n → 4 * u (n + 1) ≤ 3 * d (n + 1)) (hN : IsRise (riT a u d) turn N) : Iv B (riseI (riT a u d) N) (riS x u d) :=
  rise_has (fun n => riT_has h hx n) hN.2.1 M0 (fun M hM n => riV_nonneg h (hx0 M hM) n) (fun M hM n hn => riV_fall h (hx0 M hM) (h34 n (Nat.le_trans hN.1 hn)))
theorem riT_wide {a : Int × Int} {u d : Nat → Int} (h : RiOk u d) (ha : 0 ≤ a.1) (hl : a.1 ≤ a.2) (h0 : 0 < a.2) {D : Int} (hD : a.2 - a.1 ≤ D) (hmono : ∀ n, d (n + 1) ≤ u (n + 1) → a.2 ≤ (riT a u d n).2) (n : Nat) :
    ((riT a u d n).2 - (riT a u d n).1) * a.2 ≤ (D + 2 * n) * (if a.2 ≤ (riT a u d n).2 then (riT a u d n).2 else a.2) := by
  have D0 : 0 ≤ D := by omega
  induction n with
  | zero =>
    show (a.2 - a.1) * a.2 ≤ (D + 2 * ((0 : Nat) : Int)) * (if a.2 ≤ a.2 then a.2 else a.2)
    rw [if_pos (Int.le_refl _)]
    exact Int.mul_le_mul_of_nonneg_right (by omega) (by omega)
  | succ n ih =>
    have hd := h.d0 (n + 1)
    have hu := h.u0 (n + 1)
    have n1 := riT_nonneg h ha n
    have n2 := riT_le h hl n
    have hmn := hmono n
    show ((scaleI (riT a u d n) (u (n + 1)) (d (n + 1))).2 - (scaleI (riT a u d n) (u (n + 1)) (d (n + 1))).1) * a.2 ≤ (D + 2 * ((n + 1 : Nat) : Int)) * (if a.2 ≤ (scaleI (riT a u d n) (u (n + 1)) (d (n + 1))).2 then (scaleI (riT a u d n) (u (n + 1)) (d (n + 1))).2 else a.2)
    generalize riT a u d n = t at *
    generalize u (n + 1) = U at *
    generalize d (n + 1) = V at *
    obtain ⟨hi, ehi⟩ : ∃ hi, hi = (scaleI t U V).2 := ⟨_, rfl⟩
    obtain ⟨lo, elo⟩ : ∃ lo, lo = (scaleI t U V).1 := ⟨_, rfl⟩
    rw [← ehi, ← elo]
    have c1 : t.2 * U ≤ hi * V := by rw [ehi]; exact dv_ceil (t.2 * U) hd
    have c2 : (hi - 1) * V < t.2 * U := by
      have h2 := dv_floor2 (-(t.2 * U)) hd
      have e : (-(t.2 * U) / V + 1) * V = -((hi - 1) * V) := by rw [ehi]; unfold scaleI; grind
      omega
    have c3 : t.1 * U < (lo + 1) * V := by rw [elo]; exact dv_floor2 (t.1 * U) hd
    have tw : (hi - lo - 2) * V ≤ (t.2 - t.1) * U := by
      have e1 : (hi - lo - 2) * V = (hi - 1) * V - (lo + 1) * V := by grind
      have e2 : (t.2 - t.1) * U = t.2 * U - t.1 * U := by grind
      omega
    have m1 := Int.mul_le_mul_of_nonneg_right tw (show 0 ≤ a.2 by omega)
    have m2 := Int.mul_le_mul_of_nonneg_right ih hu
    have C0 : 0 ≤ D + 2 * (n : Int) := by omega
    refine Int.le_of_mul_le_mul_right (a := V) ?_ hd
    have e3 : (hi - lo) * a.2 * V = (hi - lo - 2) * V * a.2 + 2 * a.2 * V := by grind
    have e4 : (t.2 - t.1) * U * a.2 = (t.2 - t.1) * a.2 * U := by grind
    have cN : (D + 2 * ((n + 1 : Nat) : Int)) = (D + 2 * (n : Int)) + 2 := by omega
    rw [cN]
    by_cases ht : a.2 ≤ t.2
    · rw [if_pos ht] at m2
      have m3 := Int.mul_le_mul_of_nonneg_left c1 C0
      have e5 : (D + 2 * (n : Int)) * t.2 * U = (D + 2 * (n : Int)) * (t.2 * U) := by grind
      by_cases hh : a.2 ≤ hi
      · rw [if_pos hh]
        have m4 := Int.mul_le_mul_of_nonneg_right hh (show 0 ≤ V by omega)
        have e6 : (D + 2 * (n : Int) + 2) * hi * V = (D + 2 * (n : Int)) * (hi * V) + 2 * (hi * V) := by grind
        have e7 : 2 * a.2 * V = 2 * (a.2 * V) := by grind
        omega
      · rw [if_neg hh]
        have m4 := Int.mul_le_mul_of_nonneg_right (show hi ≤ a.2 by omega) (show 0 ≤ V by omega)
        have m5 := Int.mul_le_mul_of_nonneg_left m4 C0
        have e6 : (D + 2 * (n : Int) + 2) * a.2 * V = (D + 2 * (n : Int)) * (a.2 * V) + 2 * (a.2 * V) := by grind
        have e7 : 2 * a.2 * V = 2 * (a.2 * V) := by grind
        omega
    · rw [if_neg ht] at m2
      have hUV : U ≤ V := by
        refine Int.not_lt.1 fun hlt => ?_
        exact ht (hmn (by omega))
      have m4 := Int.mul_le_mul_of_nonneg_left hUV (show 0 ≤ (D + 2 * (n : Int)) * a.2 from Int.mul_nonneg C0 (by omega))
      have hge : a.2 ≤ (if a.2 ≤ hi then hi else a.2) := by split <;> omega
      have m5 := Int.mul_le_mul_of_nonneg_left hge (show 0 ≤ D + 2 * (n : Int) + 2 by omega)
      have m6 := Int.mul_le_mul_of_nonneg_right m5 (show 0 ≤ V by omega)
      have e6 : (D + 2 * (n : Int) + 2) * a.2 * V = (D + 2 * (n : Int)) * a.2 * V + 2 * a.2 * V := by grind
      omega
end Go.Proofs.Ytgmnknmjainabab
namespace Go.Proofs.Ytgmnknmjainabab.Ex
def eT (x : Rat) : Nat → Rat
  | 0 => x
  | n + 1 => 2 * (x * x) / (2 * ((n : Rat) + 1) + 1) * eT x n
def eD (x : Rat) : Nat → Rat
  | 0 => 1
  | n + 1 => 2 * x * eT x n
end Go.Proofs.Ytgmnknmjainabab.Ex
namespace Go.Proofs.Ytgmnknmjainabab.Ex
def LeN (f g : Nat → Rat) : Prop := ∀ e : Rat, 0 < e → ∃ N : Nat, ∀ M, N ≤ M → f M ≤ g M + e
theorem LeN.refl (f : Nat → Rat) : LeN f f := fun e he => ⟨0, fun M _ => by grind⟩
theorem LeN.trans {f g h : Nat → Rat} (a : LeN f g) (b : LeN g h) : LeN f h := fun e he => by
  obtain ⟨N1, h1⟩ := a (e / 2) (by grind)
  obtain ⟨N2, h2⟩ := b (e / 2) (by grind)
  exact ⟨N1 + N2, fun M hM => by have := h1 M (by omega); have := h2 M (by omega); grind⟩
theorem LeN.of_le {f g : Nat → Rat} (N : Nat) (h : ∀ M, N ≤ M → f M ≤ g M) : LeN f g := fun e he => ⟨N, fun M hM => by have := h M hM; grind⟩
theorem LeN.of_null {f g z : Nat → Rat} (hz : Null z) (N : Nat) (h : ∀ M, N ≤ M → f M ≤ g M + z M) : LeN f g := fun e he => by
  obtain ⟨N1, h1⟩ := hz e he
  exact ⟨N + N1, fun M hM => by have := h M (by omega); have := (h1 M (by omega)).2; grind⟩
theorem LeN.null {f g : Nat → Rat} (h : LeN f g) : ∃ z, Null z ∧ ∀ M, f M ≤ g M + z M := by
  refine ⟨fun M => if f M ≤ g M then 0 else f M - g M, fun e he => ?_, fun M => ?_⟩
  · obtain ⟨N, hN⟩ := h e he
    refine ⟨N, fun M hM => ?_⟩
    have := hN M hM
    simp only []
    split <;> constructor <;> grind
  · simp only []; split <;> grind
theorem LeN.add {f g f' g' : Nat → Rat} (a : LeN f g) (b : LeN f' g') : LeN (fun M => f M + f' M) (fun M => g M + g' M) := fun e he => by
  obtain ⟨N1, h1⟩ := a (e / 2) (by grind)
  obtain ⟨N2, h2⟩ := b (e / 2) (by grind)
  exact ⟨N1 + N2, fun M hM => by have := h1 M (by omega); have := h2 M (by omega); grind⟩
theorem LeN.eq {f g : Nat → Rat} (h : LeN f g) (k : LeN g f) : Null (fun M => f M - g M) := fun e he => by
  obtain ⟨N1, h1⟩ := h e he
  obtain ⟨N2, h2⟩ := k e he
  exact ⟨N1 + N2, fun M hM => by have := h1 M (by omega); have := h2 M (by omega); constructor <;> grind⟩
theorem Null.leN {f g : Nat → Rat} (h : Null (fun M => f M - g M)) : LeN f g := fun e he => by
  obtain ⟨N, hN⟩ := h e he
  exact ⟨N, fun M hM => by have := (hN M hM).2; grind⟩
theorem Null.symm {f g : Nat → Rat} (h : Null (fun M => f M - g M)) : Null (fun M => g M - f M) := h.neg.of_eq fun M => by grind
theorem LeN.lim {f g : Nat → Rat} {C : Rat} (hC : 0 ≤ C) (h : ∀ n : Nat, LeN f (fun M => g M + C * (1 / ((n : Rat) + 1)))) : LeN f g := fun e he => by
  obtain ⟨n, hn⟩ := rat_nat (2 * C / e)
  have k := h n
  obtain ⟨N, hN⟩ := k (e / 2) (by grind)
  refine ⟨N, fun M hM => ?_⟩
  have h1 := hN M hM
  have n0 : (0 : Rat) < (n : Rat) + 1 := pos1 n
  have h2 : C * (1 / ((n : Rat) + 1)) ≤ e / 2 := by
    have um : 1 / ((n : Rat) + 1) * ((n : Rat) + 1) = 1 := rdm n0
    have u0 : (0 : Rat) < 1 / ((n : Rat) + 1) := rdiv_pos (by grind) n0
    have ce : 2 * C / e * e = 2 * C := rdm he
    have h3 := Rat.mul_le_mul_of_nonneg_right hn.2 (Rat.le_of_lt he)
    rw [ce] at h3
    have h4 := Rat.mul_le_mul_of_nonneg_right (show 2 * C ≤ ((n : Rat) + 1) * e by grind) (Rat.le_of_lt u0)
    have e5 : ((n : Rat) + 1) * e * (1 / ((n : Rat) + 1)) = (1 / ((n : Rat) + 1) * ((n : Rat) + 1)) * e := by grind
    rw [e5, um] at h4
    grind
  simp only [] at h1
  grind
theorem descend {f : Rat → Nat → Rat} {a b C D : Rat} (hab : a ≤ b) (hC : 0 ≤ C) (hD : 0 < D)
    (step : ∀ x h, a ≤ x → 0 < h → h ≤ D → x + h ≤ b → ∃ z, Null z ∧ ∃ N : Nat, ∀ M, N ≤ M → f (x + h) M ≤ f x M + C * (h * h) + z M) : LeN (f b) (f a) := by
  by_cases heq : a = b
  · subst heq; exact LeN.refl _
  have hlt : 0 < b - a := by grind
  refine LeN.lim (C := C * ((b - a) * (b - a))) (Rat.mul_nonneg hC (Rat.mul_nonneg (Rat.le_of_lt hlt) (Rat.le_of_lt hlt))) fun n0 => ?_
  obtain ⟨m, hm⟩ := rat_nat ((b - a) / D)
  obtain ⟨n, hn⟩ : ∃ n, n = n0 + m := ⟨_, rfl⟩
  have n0p : (0 : Rat) < (n : Rat) + 1 := pos1 n
  obtain ⟨h, hh⟩ : ∃ h, h = (b - a) / ((n : Rat) + 1) := ⟨_, rfl⟩
  have hmul : h * ((n : Rat) + 1) = b - a := by rw [hh]; exact rdm n0p
  have h0 : 0 < h := by rw [hh]; exact rdiv_pos hlt n0p
  have mn : (m : Rat) ≤ (n : Rat) := by exact_mod_cast (show m ≤ n by omega)
  have nn : (n0 : Rat) ≤ (n : Rat) := by exact_mod_cast (show n0 ≤ n by omega)
  have hD2 : h ≤ D := by
    have e1 : (b - a) / D * D = b - a := rdm hD
    have h1 := Rat.mul_le_mul_of_nonneg_right hm.2 (Rat.le_of_lt hD)
    rw [e1] at h1
    refine Rat.le_of_mul_le_mul_right (c := (n : Rat) + 1) ?_ n0p
    rw [hmul]
    have := Rat.mul_le_mul_of_nonneg_right mn (Rat.le_of_lt hD)
    grind
  have go : ∀ i : Nat, i ≤ n + 1 → ∃ z, Null z ∧ ∃ N : Nat, ∀ M, N ≤ M → f (a + (i : Rat) * h) M ≤ f a M + (i : Rat) * (C * (h * h)) + z M := by
    intro i
    induction i with
    | zero =>
      intro _
      refine ⟨_, null_zero, 0, fun M _ => ?_⟩
      have e : a + ((0 : Nat) : Rat) * h = a := by grind
      rw [e]; grind
    | succ i ih =>
      intro hi
      obtain ⟨z1, hz1, N1, k1⟩ := ih (by omega)
      have i0 : (0 : Rat) ≤ (i : Rat) := by exact_mod_cast Nat.zero_le i
      have i1 : (i : Rat) + 1 ≤ (n : Rat) + 1 := by exact_mod_cast hi
      have p0 := Rat.mul_nonneg i0 (Rat.le_of_lt h0)
      have p1 := Rat.mul_le_mul_of_nonneg_right i1 (Rat.le_of_lt h0)
      have ec : ((i + 1 : Nat) : Rat) = (i : Rat) + 1 := by push_cast; rfl
      have e1 : a + (i : Rat) * h + h = a + ((i + 1 : Nat) : Rat) * h := by rw [ec]; grind
      obtain ⟨z2, hz2, N2, k2⟩ := step (a + (i : Rat) * h) h (by grind) h0 hD2 (by grind)
      rw [e1] at k2
      refine ⟨_, hz1.add hz2, N1 + N2, fun M hM => ?_⟩
      have a1 := k1 M (by omega)
      have a2 := k2 M (by omega)
      rw [ec] at a2 ⊢
      grind
  obtain ⟨z, hz, N, k⟩ := go (n + 1) (Nat.le_refl _)
  have ec : ((n + 1 : Nat) : Rat) = (n : Rat) + 1 := by push_cast; rfl
  have e : a + ((n + 1 : Nat) : Rat) * h = b := by rw [ec]; grind
  rw [e, ec] at k
  refine LeN.of_null hz N fun M hM => ?_
  have k1 := k M hM
  have n1p : (0 : Rat) < (n0 : Rat) + 1 := pos1 n0
  have um : 1 / ((n0 : Rat) + 1) * ((n0 : Rat) + 1) = 1 := rdm n1p
  have u0 : (0 : Rat) < 1 / ((n0 : Rat) + 1) := rdiv_pos (by grind) n1p
  have hb : ((n : Rat) + 1) * (C * (h * h)) ≤ C * ((b - a) * (b - a)) * (1 / ((n0 : Rat) + 1)) := by
    have e2 : ((n : Rat) + 1) * (C * (h * h)) = C * (b - a) * h := by rw [← hmul]; grind
    rw [e2]
    have hu : h ≤ (b - a) * (1 / ((n0 : Rat) + 1)) := by
      refine Rat.le_of_mul_le_mul_right (c := (n0 : Rat) + 1) ?_ n1p
      have e3 : (b - a) * (1 / ((n0 : Rat) + 1)) * ((n0 : Rat) + 1) = (b - a) * (1 / ((n0 : Rat) + 1) * ((n0 : Rat) + 1)) := by grind
      rw [e3, um]
      have := Rat.mul_le_mul_of_nonneg_left nn (Rat.le_of_lt h0)
      grind
    have := Rat.mul_le_mul_of_nonneg_left hu (Rat.mul_nonneg hC (Rat.le_of_lt hlt))
    grind
  grind
end Go.Proofs.Ytgmnknmjainabab.Ex
namespace Go.Proofs.Ytgmnknmjainabab.Ex
def ex (c : Rat) (M : Nat) : Rat := Ev (fun _ => c) M
theorem ex_add (a b : Rat) : Null (fun M => ex a M * ex b M - ex (a + b) M) := Ev_add (Bdd.const a) (Bdd.const b)
theorem ex_bdd (a : Rat) : Bdd (ex a) := Ev_bdd (Bdd.const a)
theorem ex_mono {a b : Rat} (h : a ≤ b) : LeN (ex a) (ex b) := by
  obtain ⟨v, hv, N, k⟩ := Ev_mono (x := fun _ => a) (y := fun _ => b) (Bdd.const a) (Bdd.const b) null_zero 0 (fun M _ => by grind)
  exact LeN.of_null hv N k
end Go.Proofs.Ytgmnknmjainabab.Ex
namespace Go.Proofs.Ytgmnknmjainabab.Ex
def Nn (f : Nat → Rat) : Prop := ∃ N : Nat, ∀ M, N ≤ M → 0 ≤ f M
theorem Nn.mul {f g : Nat → Rat} (h : Nn f) (k : Nn g) : Nn (fun M => f M * g M) := by
  obtain ⟨N1, h1⟩ := h
  obtain ⟨N2, h2⟩ := k
  exact ⟨N1 + N2, fun M hM => Rat.mul_nonneg (h1 M (by omega)) (h2 M (by omega))⟩
theorem Nn.add {f g : Nat → Rat} (h : Nn f) (k : Nn g) : Nn (fun M => f M + g M) := by
  obtain ⟨N1, h1⟩ := h
  obtain ⟨N2, h2⟩ := k
  exact ⟨N1 + N2, fun M hM => by have := h1 M (by omega); have := h2 M (by omega); grind⟩
theorem Nn.const {c : Rat} (h : 0 ≤ c) : Nn (fun _ => c) := ⟨0, fun _ _ => h⟩
theorem Ev_nn {x : Nat → Rat} (h : Bdd x) : Nn (Ev x) := by
  obtain ⟨c, c0, N, k⟩ := Ev_low h
  exact ⟨N, fun M hM => Rat.le_trans (Rat.le_of_lt c0) (k M hM)⟩
theorem ex_nn (a : Rat) : Nn (ex a) := Ev_nn (Bdd.const a)
theorem LeN.bmul {f g k : Nat → Rat} (h : LeN f g) (hk : Bdd k) (hn : Nn k) : LeN (fun M => f M * k M) (fun M => g M * k M) := by
  obtain ⟨z, hz, kz⟩ := h.null
  obtain ⟨N, hN⟩ := hn
  refine LeN.of_null (hz.bmul hk) N fun M hM => ?_
  have := Rat.mul_le_mul_of_nonneg_right (kz M) (hN M hM)
  grind
theorem LeN.cmul {f g : Nat → Rat} (h : LeN f g) {c : Rat} (hc : 0 ≤ c) : LeN (fun M => c * f M) (fun M => c * g M) := by
  obtain ⟨z, hz, kz⟩ := h.null
  refine LeN.of_null (hz.bmul (Bdd.const c)) 0 fun M _ => ?_
  have := Rat.mul_le_mul_of_nonneg_left (kz M) hc
  grind
theorem LeN.of_eqN {f g : Nat → Rat} (h : Null (fun M => f M - g M)) : LeN f g := h.leN
theorem LeN.mul {f g f' g' : Nat → Rat} (h : LeN f g) (h' : LeN f' g') (b : Bdd f') (n : Nn f') (b2 : Bdd g) (n2 : Nn g) : LeN (fun M => f M * f' M) (fun M => g M * g' M) :=
  (h.bmul b n).trans ((LeN.of_le 0 fun M _ => by show g M * f' M ≤ f' M * g M; grind).trans ((h'.bmul b2 n2).trans (LeN.of_le 0 fun M _ => by show g' M * g M ≤ g M * g' M; grind)))
theorem qle_div {a b c : Rat} (hc : 0 < c) (h : a * c ≤ b) : a ≤ b / c := Rat.le_of_mul_le_mul_right (by rw [rdm hc]; exact h) hc
theorem qdiv_le {a b c : Rat} (hc : 0 < c) (h : a ≤ b * c) : a / c ≤ b := Rat.le_of_mul_le_mul_right (by rw [rdm hc]; exact h) hc
theorem rat_cancel {c a b : Rat} (hc : 0 < c) (h : c * a = c * b) : a = b := Rat.le_antisymm (Rat.le_of_mul_le_mul_left (by rw [h]; exact Rat.le_refl) hc) (Rat.le_of_mul_le_mul_left (by rw [h]; exact Rat.le_refl) hc)
def upT (a x : Rat) : Nat → Rat
  | 0 => 1 / a
  | n + 1 => x / (a + ((n : Rat) + 1)) * upT a x n
theorem un_pos {a : Rat} (ha : 0 < a) (n : Nat) : 0 < a + ((n : Rat) + 1) := by have := pos1 n; grind
theorem upT_zero {a : Rat} (ha : 0 < a) (x : Rat) : a * upT a x 0 = 1 := by
  have := rdm (a := 1) ha
  show a * (1 / a) = 1
  grind
theorem upT_succ {a : Rat} (ha : 0 < a) (x : Rat) (n : Nat) : (a + ((n : Rat) + 1)) * upT a x (n + 1) = x * upT a x n := by
  have e := rdm (a := x) (un_pos ha n)
  show (a + ((n : Rat) + 1)) * (x / (a + ((n : Rat) + 1)) * upT a x n) = _
  have : (a + ((n : Rat) + 1)) * (x / (a + ((n : Rat) + 1)) * upT a x n) = x / (a + ((n : Rat) + 1)) * (a + ((n : Rat) + 1)) * upT a x n := by grind
  rw [this, e]
theorem upT_nonneg {a x : Rat} (ha : 0 < a) (h : 0 ≤ x) (n : Nat) : 0 ≤ upT a x n := by
  induction n with
  | zero => exact qle_div ha (by grind)
  | succ n ih => exact Rat.mul_nonneg (qle_div (un_pos ha n) (by grind)) ih
theorem upT_next {a : Rat} (ha : 0 < a) (x : Rat) (n : Nat) : a * upT a x (n + 1) = x * upT (a + 1) x n := by
  induction n with
  | zero =>
    have e1 := upT_succ ha x 0
    have e2 := upT_zero ha x
    have e3 := upT_zero (show 0 < a + 1 by grind) x
    refine rat_cancel (show 0 < a + 1 by grind) ?_
    have c : ((0 : Nat) : Rat) = 0 := rfl
    rw [c] at e1
    have k1 : (a + 1) * (a * upT a x (0 + 1)) = a * ((a + (0 + 1)) * upT a x (0 + 1)) := by grind
    have k2 : (a + 1) * (x * upT (a + 1) x 0) = x * ((a + 1) * upT (a + 1) x 0) := by grind
    rw [k1, k2, e1, e3]
    have k3 : a * (x * upT a x 0) = x * (a * upT a x 0) := by grind
    rw [k3, e2]
  | succ n ih =>
    have e1 := upT_succ ha x (n + 1)
    have e2 := upT_succ (show 0 < a + 1 by grind) x n
    have c : ((n + 1 : Nat) : Rat) = (n : Rat) + 1 := by push_cast; rfl
    rw [c] at e1
    refine rat_cancel (show 0 < a + ((n : Rat) + 1 + 1) by have := pos1 n; grind) ?_
    have k1 : (a + ((n : Rat) + 1 + 1)) * (a * upT a x (n + 1 + 1)) = a * ((a + ((n : Rat) + 1 + 1)) * upT a x (n + 1 + 1)) := by grind
    have k2 : (a + ((n : Rat) + 1 + 1)) * (x * upT (a + 1) x (n + 1)) = x * ((a + 1 + ((n : Rat) + 1)) * upT (a + 1) x (n + 1)) := by grind
    rw [k1, k2, e1, e2, ← ih]
    grind
def uS (a x : Rat) (M : Nat) : Rat := S (upT a x) M
theorem uS_succ (a x : Rat) (M : Nat) : uS a x (M + 1) = uS a x M + upT a x M := rfl
theorem uS_nonneg {a x : Rat} (ha : 0 < a) (h : 0 ≤ x) (M : Nat) : 0 ≤ uS a x M := by
  induction M with
  | zero => show (0 : Rat) ≤ 0; grind
  | succ n ih => have := upT_nonneg ha h n; rw [uS_succ]; grind
theorem uS_first {a x : Rat} (ha : 0 < a) (h : 0 ≤ x) (M : Nat) : 1 / a ≤ uS a x (M + 1) := by
  induction M with
  | zero => show 1 / a ≤ 0 + 1 / a; grind
  | succ n ih => have := upT_nonneg ha h (n + 1); rw [uS_succ]; grind
theorem uS_next {a : Rat} (ha : 0 < a) (x : Rat) (M : Nat) : a * uS a x (M + 1) = 1 + x * uS (a + 1) x M := by
  induction M with
  | zero =>
    have := upT_zero ha x
    show a * (0 + upT a x 0) = 1 + x * 0
    grind
  | succ n ih =>
    have := upT_next ha x n
    rw [uS_succ a x (n + 1), uS_succ (a + 1) x n]
    grind
theorem upT_tan {a x u : Rat} (ha : 0 < a) (hx : 0 ≤ x) (hu : -1 ≤ u) (n : Nat) : upT a x n + (n : Rat) * u * upT a x n ≤ upT a (x * (1 + u)) n := by
  induction n with
  | zero =>
    have c : ((0 : Nat) : Rat) = 0 := rfl
    show 1 / a + ((0 : Nat) : Rat) * u * (1 / a) ≤ 1 / a
    rw [c]; grind
  | succ n ih =>
    have e1 := upT_succ ha x n
    have e2 := upT_succ ha (x * (1 + u)) n
    have c : ((n + 1 : Nat) : Rat) = (n : Rat) + 1 := by push_cast; rfl
    have y0 := Rat.mul_nonneg hx (show 0 ≤ 1 + u by grind)
    have m := Rat.mul_le_mul_of_nonneg_left ih y0
    have p := un_pos ha n
    refine Rat.le_of_mul_le_mul_left (c := a + ((n : Rat) + 1)) ?_ p
    rw [e2, c]
    have k : (a + ((n : Rat) + 1)) * (upT a x (n + 1) + ((n : Rat) + 1) * u * upT a x (n + 1)) = (1 + ((n : Rat) + 1) * u) * ((a + ((n : Rat) + 1)) * upT a x (n + 1)) := by grind
    rw [k, e1]
    have n0 : (0 : Rat) ≤ (n : Rat) := by exact_mod_cast Nat.zero_le n
    have q := Rat.mul_nonneg (Rat.mul_nonneg n0 (sq_nonneg u)) (Rat.mul_nonneg hx (upT_nonneg ha hx n))
    grind
theorem uS_tan {a x u : Rat} (ha : 0 < a) (hx : 0 ≤ x) (hu : -1 ≤ u) (M : Nat) : uS a x (M + 1) + u * (1 + x * uS a x M - a * uS a x (M + 1)) ≤ uS a (x * (1 + u)) (M + 1) := by
  induction M with
  | zero =>
    have e := upT_zero ha x
    have e2 : upT a (x * (1 + u)) 0 = upT a x 0 := rfl
    show 0 + upT a x 0 + u * (1 + x * 0 - a * (0 + upT a x 0)) ≤ 0 + upT a (x * (1 + u)) 0
    rw [e2]
    have : a * (0 + upT a x 0) = 1 := by rw [← e]; grind
    rw [this]; grind
  | succ n ih =>
    have t := upT_tan ha hx hu (n + 1)
    have e1 := upT_succ ha x n
    have c : ((n + 1 : Nat) : Rat) = (n : Rat) + 1 := by push_cast; rfl
    rw [c] at t
    rw [uS_succ a x (n + 1), uS_succ a (x * (1 + u)) (n + 1)]
    have e3 : uS a x (n + 1) = uS a x n + upT a x n := rfl
    have k : ((n : Rat) + 1) * u * upT a x (n + 1) = u * (x * upT a x n) - u * (a * upT a x (n + 1)) := by rw [← e1]; grind
    rw [k] at t
    rw [e3] at ih ⊢
    grind
theorem uS_mono {a x y : Rat} (ha : 0 < a) (hx : 0 ≤ x) (hxy : x ≤ y) (M : Nat) : uS a x M ≤ uS a y M := by
  have t : ∀ n, upT a x n ≤ upT a y n := by
    intro n
    induction n with
    | zero => exact Rat.le_refl
    | succ n ih =>
      have e1 := upT_succ ha x n
      have e2 := upT_succ ha y n
      refine Rat.le_of_mul_le_mul_left (c := a + ((n : Rat) + 1)) ?_ (un_pos ha n)
      rw [e1, e2]
      exact Rat.le_trans (Rat.mul_le_mul_of_nonneg_left ih hx) (Rat.mul_le_mul_of_nonneg_right hxy (upT_nonneg ha (by grind) n))
  induction M with
  | zero => exact Rat.le_refl
  | succ n ih => have := t n; rw [uS_succ, uS_succ]; grind
theorem upT_tm {a x : Rat} (ha : 0 < a) (hx : 0 ≤ x) (n : Nat) : a * upT a x n ≤ tm x n := by
  induction n with
  | zero => rw [upT_zero ha]; exact Rat.le_refl
  | succ n ih =>
    have e1 := upT_succ ha x n
    have e2 := tm_succ x n
    have p := pos1 n
    have q := Rat.mul_nonneg (Rat.mul_nonneg (Rat.le_of_lt ha) (Rat.le_of_lt ha)) (upT_nonneg ha hx (n + 1))
    refine Rat.le_of_mul_le_mul_left (c := (n : Rat) + 1) ?_ p
    have m := Rat.mul_le_mul_of_nonneg_left ih hx
    have k : ((n : Rat) + 1) * (a * upT a x (n + 1)) = a * ((a + ((n : Rat) + 1)) * upT a x (n + 1)) - a * a * upT a x (n + 1) := by grind
    rw [k, e1, e2]
    grind
theorem upT_null {a x : Rat} (ha : 0 < a) (hx : 0 ≤ x) : Null (upT a x) := by
  obtain ⟨K, k0, hK⟩ := tm_bd x
  have h1 : Null (fun M => K / a * ((M : Rat) * q4 M)) := null_q4 (K / a) (qle_div ha (by grind))
  refine h1.of_le 1 fun M hM => ?_
  have a1 := upT_tm ha hx M
  have a2 := (hK M).2
  have a3 := upT_nonneg ha hx M
  have m1 : (1 : Rat) ≤ (M : Rat) := by exact_mod_cast hM
  have q := q4_pos M
  have d := rdm (a := K) ha
  have m2 := Rat.mul_le_mul_of_nonneg_left m1 (Rat.mul_nonneg k0 (Rat.le_of_lt q))
  have key : upT a x M ≤ K / a * ((M : Rat) * q4 M) := by
    refine Rat.le_of_mul_le_mul_left (c := a) ?_ ha
    have k : a * (K / a * ((M : Rat) * q4 M)) = K / a * a * ((M : Rat) * q4 M) := by grind
    rw [k, d]
    grind
  exact ⟨by grind, key⟩
theorem uS_bdd {a x : Rat} (ha : 0 < a) (hx : 0 ≤ x) : ∃ K, 0 ≤ K ∧ ∀ M, uS a x M ≤ K := by
  obtain ⟨K, k0, hK⟩ := E_bound x
  refine ⟨K / a, qle_div ha (by grind), fun M => ?_⟩
  have h := (hK M x ⟨by grind, Rat.le_refl⟩).2
  have s : a * uS a x M ≤ E x M := by
    induction M with
    | zero => show a * 0 ≤ 0; grind
    | succ n ih =>
      have t := upT_tm ha hx n
      have h' := (hK n x ⟨by grind, Rat.le_refl⟩).2
      have i := ih h'
      have e : E x (n + 1) = E x n + tm x n := rfl
      rw [uS_succ, e]
      grind
  refine Rat.le_of_mul_le_mul_left (c := a) ?_ ha
  have d := rdm (a := K) ha
  grind
theorem uS_Bdd {a x : Rat} (ha : 0 < a) (hx : 0 ≤ x) : Bdd (uS a x) := by
  obtain ⟨K, k0, hK⟩ := uS_bdd ha hx
  exact Bdd.of_le K 0 fun M _ => ⟨by have := uS_nonneg ha hx M; grind, hK M⟩
end Go.Proofs.Ytgmnknmjainabab.Ex
