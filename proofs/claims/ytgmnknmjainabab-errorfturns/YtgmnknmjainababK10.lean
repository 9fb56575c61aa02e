/-
  What Whole, tail, small of package tailsureref answer, and that they leave old memory alone.
  How far the sums of the logarithm near 1 reach; spans times a ratio of either sign; how a quotient is brought between 1 and 2. Plain arithmetic: no statement of the seat is proved here.
  In how many ways a number comes (law.ways), and that it leaves old memory alone.
  Least and most of quotients of numbers between ends, and roots of whole numbers, down and up: plain arithmetic.
  What wide.Root answers of a right span that has nothing below 0, and that it leaves old memory alone.
  Two variables of numbers in memory that are made in one statement, wherever they came to lie.
  What tailsureref.Over answers of right spans, the second one more than 0, and that it leaves old memory alone.
  What tailsureref.Over answers of right spans, the second one less than 0; and both ways together; and that it leaves old memory alone.
  Choosing; quotients of numbers that are told by sequences; a power over a factorial, over a power of e. Plain arithmetic: no statement of the seat is proved here.
  How great a power of e is made at least; how wide a quotient by it; what is not below 0 and not more than 1. Plain arithmetic: no statement of the seat is proved here.
  Sums of what is nowhere below 0, and soon at most three quarters of the one ahead of it: where they end, what they have, how wide they are. Plain arithmetic: no statement of the seat is proved here.
  The error function, up to what is the same of all: where the number is more it is not less. Plain arithmetic: no statement of the seat is proved here.
-/
import Derived.Test.YtgmnknmjainababK09
namespace Go.Proofs.Ytgmnknmjainabab
set_option linter.unusedVariables false
set_option linter.unusedSimpArgs false
set_option linter.unnecessarySimpa false
open Go.RowKit
attribute [local go_sem ↓] Go.wp_at_zero Go.wp_at_succ

set_option maxRecDepth 100000 in
set_option maxHeartbeats 2000000 in
theorem refWhole (w : World) (n : Int) (b : Nat) (hb : b ≤ 100000) (h0 : -9223372036854775808 ≤ n) (h1 : n ≤ 9223372036854775807) :
    Calls Try.prog 17 #[.int .i64 n, .int .i64 b] w (SpanAns w b (b / 16 + 18) (n * Q b) (n * Q b)) := by
  have R := noc_new w 36
  go_enter Try.func17, Try.ntmps17
  go_wp2_with fail
  refine (numOf_int n _ h0 h1).mono ?_
  rintro r' w1 ⟨neg1, a1, n1, c1, rfl, hint1, hb1⟩
  replace R := R.below hb1
  have hB : Below w.heap.size w w1 := bthen (bl1 _ _) hb1
  clear hb1
  go_wp2_with fail
  refine (numOf_int 1 _ (by decide) (by decide)).mono ?_
  rintro r' w2 ⟨neg2, a2, n2, c2, rfl, hint2, hb2⟩
  replace R := R.below hb2
  replace hB := bthen hB hb2
  replace hint1 := hint1.below hb2
  clear hb2
  go_wp2_with fail
  refine (refRatio_core _ _ _ _ _ _ _ _ 4 4 b n 1 _ hint1 hint2 (by omega) (by omega) hb (by decide) (fun neg' a' n' cap' w' p1 p2 => floor_any _ _ _ _ _ _ _ _ _ 4 _ _ w' p1 p2 (by omega) (by decide))).mono ?_
  rintro r' w3 ⟨u, rfl, hub, hup, hb3⟩
  have e1 : n * Q b / 1 = n * Q b := Int.ediv_one _
  have e2 : -(-(n * Q b) / 1) = n * Q b := by rw [Int.ediv_one]; omega
  rw [e1, e2] at hup
  obtain ⟨q0, q1, q2, q3, q4, q5⟩ := R.below hb3
  replace hB := bthen hB hb3
  have HU := hide hub
  clear hub e1 e2
  go_wp2_with fail
  refine bodyPost_ret (v := .agg #[.bool u.ln, .slice u.la u.lN u.lc, .bool u.hn, .slice u.ha u.hN u.hc, .int .i64 u.bits]) (by simp [results, Try.results17, go_sem, q0, q1, q2, q3, q4]) rfl ⟨u, rfl, unhide HU, ?_, ?_⟩
  · exact SpAt.put5 (hup.mono (by omega)) q0 q1 q2 q3 q4 _ _ _ _ _
  · exact set5 hB (Nat.le_refl _) _ _ _ _ _

theorem cmp3 (x y : Int) : (cmpInt x y = -1 ∧ x < y) ∨ (cmpInt x y = 0 ∧ x = y) ∨ (cmpInt x y = 1 ∧ y < x) := by
  unfold cmpInt; split
  · exact Or.inl ⟨rfl, by assumption⟩
  · split
    · exact Or.inr (Or.inr ⟨rfl, by assumption⟩)
    · exact Or.inr (Or.inl ⟨rfl, by omega⟩)

end Go.Proofs.Ytgmnknmjainabab

namespace Go.Proofs.Ytgmnknmjainabab
set_option linter.unusedVariables false
open Ex

theorem Iv.le {B : Nat} {a : Int × Int} {x : Nat → Rat} (h : Iv B a x) : a.1 ≤ a.2 :=
  Int.le_of_mul_le_mul_right (h.touch h) (by have := Q_pos B; omega)
theorem Iv.neg {B : Nat} {a : Int × Int} {x : Nat → Rat} (h : Iv B a x) : Iv B (-a.2, -a.1) (fun M => -x M) := by
  have q := Qr_pos B
  intro e he
  obtain ⟨N, hN⟩ := h e he
  refine ⟨N, fun M hM => ?_⟩
  obtain ⟨g1, g2⟩ := hN M hM
  have e1 : ((-a.2 : Int) : Rat) / (Q B : Rat) = -((a.2 : Rat) / (Q B : Rat)) := by rw [Rat.intCast_neg, Rat.div_def, Rat.div_def, Rat.neg_mul]
  have e2 : ((-a.1 : Int) : Rat) / (Q B : Rat) = -((a.1 : Rat) / (Q B : Rat)) := by rw [Rat.intCast_neg, Rat.div_def, Rat.div_def, Rat.neg_mul]
  simp only []
  rw [e1, e2]
  constructor <;> grind
theorem Abs.sub {a b : Int × Int} {m n : Int} (h : Abs a m) (k : Abs b n) : Abs (subI a b) (m + n) := by
  obtain ⟨h1, h2, h3, h4⟩ := h
  obtain ⟨k1, k2, k3, k4⟩ := k
  exact ⟨by unfold subI; simp only []; omega, by unfold subI; simp only []; omega, by unfold subI; simp only []; omega, by unfold subI; simp only []; omega⟩
end Go.Proofs.Ytgmnknmjainabab

namespace Go.Proofs.Ytgmnknmjainabab
set_option linter.unusedVariables false
set_option linter.unusedSimpArgs false
set_option linter.unnecessarySimpa false
open Go.RowKit
attribute [local go_sem ↓] Go.wp_at_zero Go.wp_at_succ

/-- A law in a block. -/
structure LwC (w : World) (B : Nat) (k p q r s : Int) : Prop where
  c0 : w.cell? ⟨B, 0, none⟩ = some (.int .i64 k)
  c1 : w.cell? ⟨B, 1, none⟩ = some (.int .i64 p)
  c2 : w.cell? ⟨B, 2, none⟩ = some (.int .i64 q)
  c3 : w.cell? ⟨B, 3, none⟩ = some (.int .i64 r)
  c4 : w.cell? ⟨B, 4, none⟩ = some (.int .i64 s)
theorem LwC.lt {w : World} {B : Nat} {k p q r s : Int} (h : LwC w B k p q r s) : B < w.heap.size := World.block_lt_of_cell? w ⟨B, 0, none⟩ h.c0
theorem LwC.below {w w' : World} {B : Nat} {k p q r s : Int} (h : LwC w B k p q r s) (hb : Below w.heap.size w w') : LwC w' B k p q r s :=
  ⟨(hb.cell (p := ⟨B, 0, none⟩) h.lt).trans h.c0, (hb.cell (p := ⟨B, 1, none⟩) h.lt).trans h.c1, (hb.cell (p := ⟨B, 2, none⟩) h.lt).trans h.c2, (hb.cell (p := ⟨B, 3, none⟩) h.lt).trans h.c3, (hb.cell (p := ⟨B, 4, none⟩) h.lt).trans h.c4⟩
theorem LwC.off {w : World} {B B' : Nat} {k p q r s : Int} (h : LwC w B k p q r s) (hne : B ≠ B') (u0 u1 : Value) : LwC ((w.setCell ⟨B', 0, none⟩ u0).setCell ⟨B', 1, none⟩ u1) B k p q r s := by
  obtain ⟨q0, q1, q2, q3, q4⟩ := h
  constructor <;> simp [go_sem, q0, q1, q2, q3, q4, hne, Ne.symm hne]
end Go.Proofs.Ytgmnknmjainabab

namespace Go.Proofs.Ytgmnknmjainabab
set_option linter.unusedVariables false
set_option linter.unusedSimpArgs false
set_option linter.unnecessarySimpa false
open Go.RowKit

theorem div_le_div_pos {a p q : Int} (hp : 0 < p) (hpq : p ≤ q) (ha : 0 ≤ a) : a / q ≤ a / p := by
  have hq : 0 < q := by omega
  have h0 : 0 ≤ a / q := Int.ediv_nonneg ha (by omega)
  rw [Int.le_ediv_iff_mul_le hp]
  have h1 := Int.ediv_mul_le a (show q ≠ 0 by omega)
  have h2 := Int.mul_le_mul_of_nonneg_left hpq h0
  omega
theorem div_le_div_neg {a p q : Int} (hp : 0 < p) (hpq : p ≤ q) (ha : a ≤ 0) : a / p ≤ a / q := by
  have hq : 0 < q := by omega
  have h0 : a / p ≤ 0 := by
    have := Int.ediv_le_ediv hp ha
    simpa using this
  rw [Int.le_ediv_iff_mul_le hq]
  have h1 := Int.ediv_mul_le a (show p ≠ 0 by omega)
  have h2 := Int.mul_le_mul_of_nonneg_left hpq (show 0 ≤ -(a / p) by omega)
  rw [Int.neg_mul, Int.neg_mul] at h2
  omega
theorem over_least {l h p q : Int} (hlh : l ≤ h) (hp : 0 < p) (hpq : p ≤ q) :
    leastZ (pr4 (l / p) (l / q) (h / p) (h / q)) 3 = if l < 0 then l / p else l / q := by
  have m1 : l / p ≤ h / p := Int.ediv_le_ediv hp hlh
  have m2 : l / q ≤ h / q := Int.ediv_le_ediv (by omega) hlh
  have d1 : 0 ≤ l → l / q ≤ l / p := div_le_div_pos hp hpq
  have d2 : l ≤ 0 → l / p ≤ l / q := div_le_div_neg hp hpq
  have d3 : 0 ≤ h → h / q ≤ h / p := div_le_div_pos hp hpq
  have d4 : h ≤ 0 → h / p ≤ h / q := div_le_div_neg hp hpq
  simp only [leastZ, pr4]
  simp
  generalize l / p = A at *
  generalize l / q = B at *
  generalize h / p = C at *
  generalize h / q = D at *
  split <;> split <;> split <;> split <;> omega
theorem over_most {l h p q : Int} (hlh : l ≤ h) (hp : 0 < p) (hpq : p ≤ q) :
    mostZ (pr4 (-(-l / p)) (-(-l / q)) (-(-h / p)) (-(-h / q))) 3 = if h < 0 then -(-h / q) else -(-h / p) := by
  have m1 : -h / p ≤ -l / p := Int.ediv_le_ediv hp (by omega)
  have m2 : -h / q ≤ -l / q := Int.ediv_le_ediv (by omega) (by omega)
  have d1 : 0 ≤ -l → -l / q ≤ -l / p := div_le_div_pos hp hpq
  have d2 : -l ≤ 0 → -l / p ≤ -l / q := div_le_div_neg hp hpq
  have d3 : 0 ≤ -h → -h / q ≤ -h / p := div_le_div_pos hp hpq
  have d4 : -h ≤ 0 → -h / p ≤ -h / q := div_le_div_neg hp hpq
  simp only [mostZ, pr4]
  simp
  generalize -l / p = A at *
  generalize -l / q = B at *
  generalize -h / p = C at *
  generalize -h / q = D at *
  split <;> split <;> split <;> split <;> omega
theorem sq_ltt {x y : Int} (hx : 0 ≤ x) (h : x * x < y * y) (hy : 0 ≤ y) : x < y := by
  rcases Int.lt_or_le x y with h5 | h5
  · exact h5
  · have := Int.mul_le_mul h5 h5 hy hx; omega
/-- The root of a whole number, down. -/
def rtN : Nat → Nat
  | 0 => 0
  | n + 1 => if (rtN n + 1) * (rtN n + 1) ≤ n + 1 then rtN n + 1 else rtN n
def rtZ (x : Int) : Int := (rtN x.toNat : Int)
theorem rtN_spec (n : Nat) : rtN n * rtN n ≤ n ∧ n < (rtN n + 1) * (rtN n + 1) := by
  induction n with
  | zero => simp [rtN]
  | succ n ih =>
    unfold rtN
    split
    · rename_i h
      refine ⟨h, ?_⟩
      have e : (rtN n + 1 + 1) * (rtN n + 1 + 1) = (rtN n + 1) * (rtN n + 1) + 2 * (rtN n + 1) + 1 := by
        rw [Nat.add_mul, Nat.mul_add]; omega
      omega
    · rename_i h
      exact ⟨by omega, by omega⟩
theorem rtZ_nonneg (x : Int) : 0 ≤ rtZ x := by unfold rtZ; omega
theorem rtZ_sq {x : Int} (h : 0 ≤ x) : rtZ x * rtZ x ≤ x ∧ x < (rtZ x + 1) * (rtZ x + 1) := by
  obtain ⟨h1, h2⟩ := rtN_spec x.toNat
  unfold rtZ
  have h3 : ((rtN x.toNat * rtN x.toNat : Nat) : Int) ≤ (x.toNat : Int) := by exact_mod_cast h1
  have h4 : (x.toNat : Int) < (((rtN x.toNat + 1) * (rtN x.toNat + 1) : Nat) : Int) := by exact_mod_cast h2
  rw [Int.toNat_of_nonneg h] at h3 h4
  push_cast at h3 h4
  exact ⟨h3, h4⟩
theorem RootOf.eq {x z : Int} (h : RootOf x z) : z = rtZ x := by
  obtain ⟨h1, h2, h3⟩ := h
  rcases Int.lt_or_le 0 x with hx | hx
  · obtain ⟨h4, h5⟩ := rtZ_sq (x := x) (by omega)
    exact root_uniq h1 (rtZ_nonneg x) (h3 hx).1 (h3 hx).2 h4 h5
  · rw [h2 hx]; unfold rtZ; rw [show x.toNat = 0 by omega]; rfl
/-- The root, up. -/
def rtU (x : Int) : Int := if rtZ x * rtZ x < x then rtZ x + 1 else rtZ x
theorem rtZ_le_rtU {x y : Int} (h : x ≤ y) (h0 : 0 ≤ x) : rtZ x ≤ rtU y := by
  obtain ⟨h1, h2⟩ := rtZ_sq h0
  obtain ⟨h3, h4⟩ := rtZ_sq (x := y) (by omega)
  have h5 : rtZ x < rtZ y + 1 := sq_ltt (rtZ_nonneg x) (by omega) (by have := rtZ_nonneg y; omega)
  unfold rtU
  split <;> omega
theorem rtU_sq {x : Int} (h : 0 ≤ x) : x ≤ rtU x * rtU x := by
  obtain ⟨h3, h4⟩ := rtZ_sq h
  unfold rtU
  split <;> omega

theorem root_rt (neg : Bool) (a : Option Addr) (n cap k : Nat) (x : Int) (w : World) (h1 : IntAt w neg a n cap k x) (hk : k ≤ 100000000) :
    Calls Try.prog 162 #[.agg #[.bool neg, .slice a n cap]] w (IntAns w (k + 10) (rtZ x)) :=
  (root_int neg a n cap k x w h1 hk).mono fun r w' ⟨z, hz, h⟩ => by rw [← hz.eq]; exact h
end Go.Proofs.Ytgmnknmjainabab

namespace Go.Proofs.Ytgmnknmjainabab
set_option linter.unusedVariables false
set_option linter.unusedSimpArgs false
set_option linter.unnecessarySimpa false
open Go.RowKit
attribute [local go_sem ↓] Go.wp_at_zero Go.wp_at_succ

theorem cell_put2 {w : World} {B B' o : Nat} {v : Option Value} (h : w.cell? ⟨B, o, none⟩ = v) (hne : B ≠ B') (u0 u1 : Value) : ((w.setCell ⟨B', 0, none⟩ u0).setCell ⟨B', 1, none⟩ u1).cell? ⟨B, o, none⟩ = v := by
  have ne : ∀ i : Nat, (⟨B', i, none⟩ : Addr) ≠ ⟨B, o, none⟩ := fun i e => hne (by injection e with e1; exact e1.symm)
  rw [World.cell?_setCell_other _ _ _ _ (ne 1), World.cell?_setCell_other _ _ _ _ (ne 0)]
  exact h
theorem cell_put5' {w : World} {B B' o : Nat} {v : Option Value} (h : w.cell? ⟨B, o, none⟩ = v) (hne : B ≠ B') (u0 u1 u2 u3 u4 : Value) :
    (((((w.setCell ⟨B', 0, none⟩ u0).setCell ⟨B', 1, none⟩ u1).setCell ⟨B', 2, none⟩ u2).setCell ⟨B', 3, none⟩ u3).setCell ⟨B', 4, none⟩ u4).cell? ⟨B, o, none⟩ = v := by
  have ne : ∀ i : Nat, (⟨B', i, none⟩ : Addr) ≠ ⟨B, o, none⟩ := fun i e => hne (by injection e with e1; exact e1.symm)
  rw [World.cell?_setCell_other _ _ _ _ (ne 4), World.cell?_setCell_other _ _ _ _ (ne 3), World.cell?_setCell_other _ _ _ _ (ne 2), World.cell?_setCell_other _ _ _ _ (ne 1), World.cell?_setCell_other _ _ _ _ (ne 0)]
  exact h
theorem SpC.put2 {w : World} {B B' : Nat} {s : Sp} (h : SpC w B s) (hne : B ≠ B') (u0 u1 : Value) : SpC ((w.setCell ⟨B', 0, none⟩ u0).setCell ⟨B', 1, none⟩ u1) B s :=
  ⟨cell_put2 h.c0 hne _ _, cell_put2 h.c1 hne _ _, cell_put2 h.c2 hne _ _, cell_put2 h.c3 hne _ _, cell_put2 h.c4 hne _ _⟩
theorem NmC.put2 {w : World} {B B' : Nat} {x : Nm} (h : NmC w B x) (hne : B ≠ B') (u0 u1 : Value) : NmC ((w.setCell ⟨B', 0, none⟩ u0).setCell ⟨B', 1, none⟩ u1) B x :=
  ⟨cell_put2 h.c0 hne _ _, cell_put2 h.c1 hne _ _⟩
theorem NoC.put2 {w : World} {B B' : Nat} (h : NoC w B) (hne : B ≠ B') (u0 u1 : Value) : NoC ((w.setCell ⟨B', 0, none⟩ u0).setCell ⟨B', 1, none⟩ u1) B := by
  obtain ⟨q0, q1, q2, q3, q4, q5⟩ := h
  exact ⟨cell_put2 q0 hne _ _, cell_put2 q1 hne _ _, cell_put2 q2 hne _ _, cell_put2 q3 hne _ _, cell_put2 q4 hne _ _, fun o => by rw [frozen_set', frozen_set']; exact q5 o⟩
theorem SpAt.put2 {w : World} {s : Sp} {k : Nat} {lo hi : Int} (h : SpAt w s k lo hi) {B : Nat} {x0 : Bool} {y0 : Option Addr} {y1 y2 : Nat} (h0 : w.cell? ⟨B, 0, none⟩ = some (.bool x0)) (h1 : w.cell? ⟨B, 1, none⟩ = some (.slice y0 y1 y2)) (u0 u1 : Value) :
    SpAt ((w.setCell ⟨B, 0, none⟩ u0).setCell ⟨B, 1, none⟩ u1) s k lo hi := ⟨h.lo.put2 h0 h1 _ _, h.hi.put2 h0 h1 _ _⟩
theorem cmp_lt_dec (x y : Int) : decide (cmpInt x y < 0) = decide (x < y) := by unfold cmpInt; split <;> (try split) <;> simp <;> omega

set_option maxRecDepth 100000 in
set_option maxHeartbeats 4000000 in
theorem wideRoot_int (w : World) (s : Sp) (k b : Nat) (lo hi : Int) (hs : SpAt w s k lo hi) (hk : k ≤ 30000000) (hb : b ≤ 1000000) (hbits : s.bits = b) :
    Calls Try.prog 134 #[.agg #[.bool s.ln, .slice s.la s.lN s.lc, .bool s.hn, .slice s.ha s.hN s.hc, .int .i64 s.bits]] w (SpanAns w b (b / 16 + k + 20) (rtZ (lo * Q b)) (rtU (hi * Q b))) := by
  have HBT := hide hbits
  clear hbits
  obtain ⟨W, hW⟩ : ∃ W, W = (w.alloc (.cells #[.bool s.ln, .slice s.la s.lN s.lc, .bool s.hn, .slice s.ha s.hN s.hc, .int .i64 s.bits] 28)).alloc (.cells #[.bool false, .slice none 0 0, .bool false, .slice none 0 0, .int .i64 0] 28) := ⟨_, rfl⟩
  have hBW : Below w.heap.size w W := by rw [hW]; exact bl2 _ _ _
  have A : SpC W w.heap.size s := by rw [hW]; exact ⟨by simp [go_sem], by simp [go_sem], by simp [go_sem], by simp [go_sem], by simp [go_sem]⟩
  have R : NoC W (w.heap.size + 1) := by rw [hW]; exact ⟨by simp [go_sem], by simp [go_sem], by simp [go_sem], by simp [go_sem], by simp [go_sem], fun o => by simp [go_sem]⟩
  replace hs := hs.below hBW
  go_enter Try.func134, Try.ntmps134
  go_wp2_with fail
  rw [← hW]
  clear hW
  rw [unhide HBT]
  refine (up_int _ _ _ _ b k hi _ hs.hi (by omega) (by omega)).mono ?_
  rintro r w1 ⟨neg1, a1, n1, c1, rfl, hint1, hb1⟩
  replace hBW := bthen hBW hb1
  replace A := A.below hb1
  replace R := R.below hb1
  replace hs := hs.below hb1
  clear hb1
  obtain ⟨x1, hx1⟩ : ∃ x : Nm, x = ⟨neg1, a1, n1, c1⟩ := ⟨_, rfl⟩
  obtain ⟨W1, hW1⟩ : ∃ W', W' = w1.alloc (.cells #[.bool neg1, .slice a1 n1 c1] 26) := ⟨_, rfl⟩
  have hc1 : Below w1.heap.size w1 W1 := by rw [hW1]; exact bl1 _ _
  have X1 : NmC W1 w1.heap.size ⟨neg1, a1, n1, c1⟩ := by rw [hW1]; exact nmc_new w1 ⟨neg1, a1, n1, c1⟩ _
  have nR1 : w1.heap.size ≠ w.heap.size + 1 := Nat.ne_of_gt R.lt
  obtain ⟨u0, u1⟩ := X1
  have X1 : NmC W1 w1.heap.size ⟨neg1, a1, n1, c1⟩ := ⟨u0, u1⟩
  have lX1 := X1.lt
  go_wp2_with fail
  rw [← hW1]
  clear hW1 u0 u1 lX1 hx1 x1
  replace hBW := bthen hBW hc1
  replace A := A.below hc1
  replace R := R.below hc1
  replace hs := hs.below hc1
  replace hint1 := hint1.below hc1
  clear hc1
  refine (root_rt _ _ _ _ _ (hi * Q b) _ hint1 (by omega)).mono ?_
  rintro r w2 ⟨neg2, a2, n2, c2, rfl, hint2, hb2⟩
  replace hBW := bthen hBW hb2
  replace A := A.below hb2
  replace R := R.below hb2
  replace hs := hs.below hb2
  replace hint1 := hint1.below hb2
  replace X1 := X1.below hb2
  clear hb2
  obtain ⟨W2, hW2⟩ : ∃ W', W' = w2.alloc (.cells #[.bool neg2, .slice a2 n2 c2] 26) := ⟨_, rfl⟩
  have hc2 : Below w2.heap.size w2 W2 := by rw [hW2]; exact bl1 _ _
  have X2 : NmC W2 w2.heap.size ⟨neg2, a2, n2, c2⟩ := by rw [hW2]; exact nmc_new w2 ⟨neg2, a2, n2, c2⟩ _
  have F2 : ∀ o, W2.frozen? ⟨w2.heap.size, o, none⟩ = false := by intro o; rw [hW2]; simp [go_sem]
  have n12 : w1.heap.size ≠ w2.heap.size := Nat.ne_of_lt X1.lt
  have nR2 : w2.heap.size ≠ w.heap.size + 1 := Nat.ne_of_gt R.lt
  have nR2' : w.heap.size + 1 ≠ w2.heap.size := Nat.ne_of_lt R.lt
  have nAR : w.heap.size ≠ w.heap.size + 1 := Nat.ne_of_lt (Nat.lt_succ_self _)
  have nA : w.heap.size ≠ w2.heap.size := Nat.ne_of_lt A.lt
  have hwB : w.heap.size ≤ w2.heap.size := Nat.le_of_lt A.lt
  replace hBW := bthen hBW hc2
  replace A := A.below hc2
  replace R := R.below hc2
  replace hs := hs.below hc2
  replace hint1 := hide (hint1.below hc2)
  replace hint2 := hide (hint2.below hc2)
  replace X1 := X1.below hc2
  clear hc2
  go_wp2_with fail
  rw [← hW2]
  clear hW2
  have HK3 := hide (show ∀ w', Below W2.heap.size W2 w' → (w'.cell? ⟨w1.heap.size, 0, none⟩ = some (.bool (Nm.mk neg1 a1 n1 c1).neg) ∧ w'.cell? ⟨w1.heap.size, 1, none⟩ = some (.slice (Nm.mk neg1 a1 n1 c1).a (Nm.mk neg1 a1 n1 c1).n (Nm.mk neg1 a1 n1 c1).cap) ∧ w'.cell? ⟨w2.heap.size, 0, none⟩ = some (.bool (Nm.mk neg2 a2 n2 c2).neg) ∧ w'.cell? ⟨w2.heap.size, 1, none⟩ = some (.slice (Nm.mk neg2 a2 n2 c2).a (Nm.mk neg2 a2 n2 c2).n (Nm.mk neg2 a2 n2 c2).cap)) from fun w' hB => ⟨(X1.below hB).c0, (X1.below hB).c1, (X2.below hB).c0, (X2.below hB).c1⟩)
  have l1 := X1.lt
  have l2 := X2.lt
  obtain ⟨v0, v1, v2, v3⟩ := unhide HK3 _ (Below.refl _ _)
  go_wp2_with fail
  go_cut [17] (fun p wx => p = .bool (decide (rtZ (hi * Q b) * rtZ (hi * Q b) < (hi * Q b))) ∧ Below W2.heap.size W2 wx)
  case first =>
    go_region_held3 (fun w' => w'.cell? ⟨w1.heap.size, 0, none⟩ = some (.bool (Nm.mk neg1 a1 n1 c1).neg) ∧ w'.cell? ⟨w1.heap.size, 1, none⟩ = some (.slice (Nm.mk neg1 a1 n1 c1).a (Nm.mk neg1 a1 n1 c1).n (Nm.mk neg1 a1 n1 c1).cap) ∧ w'.cell? ⟨w2.heap.size, 0, none⟩ = some (.bool (Nm.mk neg2 a2 n2 c2).neg) ∧ w'.cell? ⟨w2.heap.size, 1, none⟩ = some (.slice (Nm.mk neg2 a2 n2 c2).a (Nm.mk neg2 a2 n2 c2).n (Nm.mk neg2 a2 n2 c2).cap)) (exact unhide HK3 _ (by (repeat' (first | with_reducible exact hB4 | with_reducible exact hB3 | with_reducible exact Below.refl _ _ | with_reducible refine Below.drew ?_ | with_reducible refine balloc ?_ _)) <;> fail))
      (first
        | (go_at_call 24; have hq := hB3; refine (cmp_int _ _ _ _ _ _ _ _ _ _ (rtZ (hi * Q b) * rtZ (hi * Q b)) (hi * Q b) _ (hint3.below (by (repeat' (first | with_reducible exact Below.refl _ _ | with_reducible refine Below.drew ?_ | with_reducible refine balloc ?_ _)) <;> fail)) ((unhide hint1).below (by (repeat' (first | with_reducible exact hB3 | with_reducible exact Below.refl _ _ | with_reducible refine Below.drew ?_ | with_reducible refine balloc ?_ _)) <;> fail))).mono ?_; rintro r w4 ⟨rfl, hb4⟩; have hB4 := bthen hB3 hb4)
        | (go_at_call 84; refine (mul_int _ _ _ _ _ _ _ _ _ _ (rtZ (hi * Q b)) (rtZ (hi * Q b)) _ ((unhide hint2).below (by (repeat' (first | with_reducible exact Below.refl _ _ | with_reducible refine Below.drew ?_ | with_reducible refine balloc ?_ _)) <;> fail)) ((unhide hint2).below (by (repeat' (first | with_reducible exact Below.refl _ _ | with_reducible refine Below.drew ?_ | with_reducible refine balloc ?_ _)) <;> fail)) (by omega) (by omega)).mono ?_; rintro r w3 ⟨neg3, a3, n3, c3, rfl, hint3, hb3⟩; have hB3 : Below W2.heap.size W2 w3 := bthen (by (repeat' (first | with_reducible exact Below.refl _ _ | with_reducible refine Below.drew ?_ | with_reducible refine balloc ?_ _)) <;> fail) hb3))
    all_goals
      go_wp2_with fail
      go_meet
      refine ⟨?_, (by (repeat' (first | with_reducible exact hB4 | with_reducible exact Below.refl _ _ | with_reducible refine Below.drew ?_ | with_reducible refine balloc ?_ _)) <;> fail)⟩
      congr 1
      exact cmp_lt_dec _ _
  case rest =>
  obtain ⟨rfl, hbl⟩ := hcut
  replace A := A.below hbl
  replace R := R.below hbl
  replace hs := hs.below hbl
  replace F2 : ∀ o, wc.frozen? ⟨w2.heap.size, o, none⟩ = false := fun o => (hbl.frozen (p := ⟨w2.heap.size, o, none⟩) X2.lt).trans (F2 o)
  replace X2 := X2.below hbl
  replace hint2 := hide ((unhide hint2).below hbl)
  replace hBW := bthen hBW hbl
  clear hint1 X1 hbl
  clear v0 v1 v2 v3 HK3 l1 l2
  go_upto_if 17 with fail
  go_cut [18] (fun _ wx => ∃ x : Nm, NmC wx w2.heap.size x ∧ IntAt wx x.neg x.a x.n x.cap (b / 16 + k + 20) (rtU (hi * Q b)) ∧ SpC wx w.heap.size s ∧ NoC wx (w.heap.size + 1) ∧ SpAt wx s k lo hi ∧ Below w.heap.size w wx)
  case first =>
    have l2 := X2.lt
    have HX2 := hide X2
    obtain ⟨v2, v3⟩ := X2
    by_cases hlt : rtZ (hi * Q b) * rtZ (hi * Q b) < (hi * Q b)
    · have hd : decide (rtZ (hi * Q b) * rtZ (hi * Q b) < (hi * Q b)) = true := decide_eq_true hlt
      have HU := hide (show rtU (hi * Q b) = rtZ (hi * Q b) + 1 by unfold rtU; rw [if_pos hlt])
      clear hlt
      rw [hd]
      go_wp2_with fail
      go_region_with
        (first
          | (go_at_call 86; have hq := hb5; refine (add_int _ _ _ _ _ _ _ _ _ 4 (rtZ (hi * Q b)) 1 _ ((unhide hint2).below hB5) hint5 (by omega) (by omega)).mono ?_; rintro r w6 ⟨neg6, a6, n6, c6, rfl, hint6, hb6⟩; have hB6 := bthen hB5 hb6; have F6 : ∀ o, w6.frozen? ⟨w2.heap.size, o, none⟩ = false := (fun o => (hB6.frozen (p := ⟨w2.heap.size, o, none⟩) l2).trans (F2 o)); have l6 := Nat.lt_of_lt_of_le l2 hB6.size; obtain ⟨v7, v8⟩ := (unhide HX2).below hB6)
          | (go_at_call 48; refine (numOf_int 1 _ (by decide) (by decide)).mono ?_; rintro r w5 ⟨neg5, a5, n5, c5, rfl, hint5, hb5⟩; have hB5 : Below wc.heap.size wc w5 := bthen (by (repeat' (first | with_reducible exact Below.refl _ _ | with_reducible refine Below.drew ?_ | with_reducible refine balloc ?_ _)) <;> fail) hb5; have l5 := hB5.size; obtain ⟨v5, v6⟩ := (unhide HX2).below hB5))
      all_goals
        go_wp2_with fail
        go_meet
        rw [unhide HU]
        exact ⟨⟨neg6, a6, n6, c6⟩, ⟨by simp [go_sem, v7, v8], by simp [go_sem, v7, v8]⟩, (hint6.put2 v7 v8 _ _).mono (by omega), (A.below hB6).put2 nA _ _, (R.below hB6).put2 nR2' _ _, (hs.below hB6).put2 v7 v8 _ _, set2 (bthen hBW hB6) hwB _ _⟩
    · have hd : decide (rtZ (hi * Q b) * rtZ (hi * Q b) < (hi * Q b)) = false := decide_eq_false hlt
      have HU := hide (show rtU (hi * Q b) = rtZ (hi * Q b) by unfold rtU; rw [if_neg hlt])
      clear hlt
      rw [hd]
      go_wp2_with fail
      go_meet
      rw [unhide HU]
      exact ⟨⟨neg2, a2, n2, c2⟩, ⟨v2, v3⟩, (unhide hint2).mono (by omega), A, R, hs, hBW⟩
  case rest =>
  obtain ⟨x, X2, hint, A, R, hs, hBW⟩ := hcut
  clear F2 hint2
  have HK5 := hide (show ∀ w', Below wc.heap.size wc w' → (w'.cell? ⟨w.heap.size, 0, none⟩ = some (.bool s.ln) ∧ w'.cell? ⟨w.heap.size, 1, none⟩ = some (.slice s.la s.lN s.lc) ∧ w'.cell? ⟨w.heap.size, 2, none⟩ = some (.bool s.hn) ∧ w'.cell? ⟨w.heap.size, 3, none⟩ = some (.slice s.ha s.hN s.hc) ∧ w'.cell? ⟨w.heap.size, 4, none⟩ = some (.int .i64 (b : Int)) ∧ w'.cell? ⟨w2.heap.size, 0, none⟩ = some (.bool x.neg) ∧ w'.cell? ⟨w2.heap.size, 1, none⟩ = some (.slice x.a x.n x.cap)) from fun w' hB => ⟨(A.below hB).c0, (A.below hB).c1, (A.below hB).c2, (A.below hB).c3, by rw [← unhide HBT]; exact (A.below hB).c4, (X2.below hB).c0, (X2.below hB).c1⟩)
  have HK5s := hide (show ∀ w' u0 u1 u2 u3 u4, Below wc.heap.size wc w' → ((((((w'.setCell ⟨w.heap.size + 1, 0, none⟩ u0).setCell ⟨w.heap.size + 1, 1, none⟩ u1).setCell ⟨w.heap.size + 1, 2, none⟩ u2).setCell ⟨w.heap.size + 1, 3, none⟩ u3).setCell ⟨w.heap.size + 1, 4, none⟩ u4).cell? ⟨w.heap.size, 0, none⟩ = some (.bool s.ln) ∧ (((((w'.setCell ⟨w.heap.size + 1, 0, none⟩ u0).setCell ⟨w.heap.size + 1, 1, none⟩ u1).setCell ⟨w.heap.size + 1, 2, none⟩ u2).setCell ⟨w.heap.size + 1, 3, none⟩ u3).setCell ⟨w.heap.size + 1, 4, none⟩ u4).cell? ⟨w.heap.size, 1, none⟩ = some (.slice s.la s.lN s.lc) ∧ (((((w'.setCell ⟨w.heap.size + 1, 0, none⟩ u0).setCell ⟨w.heap.size + 1, 1, none⟩ u1).setCell ⟨w.heap.size + 1, 2, none⟩ u2).setCell ⟨w.heap.size + 1, 3, none⟩ u3).setCell ⟨w.heap.size + 1, 4, none⟩ u4).cell? ⟨w.heap.size, 2, none⟩ = some (.bool s.hn) ∧ (((((w'.setCell ⟨w.heap.size + 1, 0, none⟩ u0).setCell ⟨w.heap.size + 1, 1, none⟩ u1).setCell ⟨w.heap.size + 1, 2, none⟩ u2).setCell ⟨w.heap.size + 1, 3, none⟩ u3).setCell ⟨w.heap.size + 1, 4, none⟩ u4).cell? ⟨w.heap.size, 3, none⟩ = some (.slice s.ha s.hN s.hc) ∧ (((((w'.setCell ⟨w.heap.size + 1, 0, none⟩ u0).setCell ⟨w.heap.size + 1, 1, none⟩ u1).setCell ⟨w.heap.size + 1, 2, none⟩ u2).setCell ⟨w.heap.size + 1, 3, none⟩ u3).setCell ⟨w.heap.size + 1, 4, none⟩ u4).cell? ⟨w.heap.size, 4, none⟩ = some (.int .i64 (b : Int)) ∧ (((((w'.setCell ⟨w.heap.size + 1, 0, none⟩ u0).setCell ⟨w.heap.size + 1, 1, none⟩ u1).setCell ⟨w.heap.size + 1, 2, none⟩ u2).setCell ⟨w.heap.size + 1, 3, none⟩ u3).setCell ⟨w.heap.size + 1, 4, none⟩ u4).cell? ⟨w2.heap.size, 0, none⟩ = some (.bool x.neg) ∧ (((((w'.setCell ⟨w.heap.size + 1, 0, none⟩ u0).setCell ⟨w.heap.size + 1, 1, none⟩ u1).setCell ⟨w.heap.size + 1, 2, none⟩ u2).setCell ⟨w.heap.size + 1, 3, none⟩ u3).setCell ⟨w.heap.size + 1, 4, none⟩ u4).cell? ⟨w2.heap.size, 1, none⟩ = some (.slice x.a x.n x.cap)) from fun w' u0 u1 u2 u3 u4 hB => ⟨cell_put5' (A.below hB).c0 nAR _ _ _ _ _, cell_put5' (A.below hB).c1 nAR _ _ _ _ _, cell_put5' (A.below hB).c2 nAR _ _ _ _ _, cell_put5' (A.below hB).c3 nAR _ _ _ _ _, cell_put5' (by rw [← unhide HBT]; exact (A.below hB).c4) nAR _ _ _ _ _, cell_put5' (X2.below hB).c0 nR2 _ _ _ _ _, cell_put5' (X2.below hB).c1 nR2 _ _ _ _ _⟩)
  have lA := A.lt
  have lX := X2.lt
  have lR := R.lt
  replace hint := hide hint
  replace hs := hide hs
  obtain ⟨x0, x1, x2, x3, x4, v2, v3⟩ := unhide HK5 _ (Below.refl _ _)
  go_wp2_with fail
  go_region_held3 (fun w' => w'.cell? ⟨w.heap.size, 0, none⟩ = some (.bool s.ln) ∧ w'.cell? ⟨w.heap.size, 1, none⟩ = some (.slice s.la s.lN s.lc) ∧ w'.cell? ⟨w.heap.size, 2, none⟩ = some (.bool s.hn) ∧ w'.cell? ⟨w.heap.size, 3, none⟩ = some (.slice s.ha s.hN s.hc) ∧ w'.cell? ⟨w.heap.size, 4, none⟩ = some (.int .i64 (b : Int)) ∧ w'.cell? ⟨w2.heap.size, 0, none⟩ = some (.bool x.neg) ∧ w'.cell? ⟨w2.heap.size, 1, none⟩ = some (.slice x.a x.n x.cap)) (first | exact unhide HK5 _ (by first | with_reducible exact hB8 | with_reducible exact hB7 | with_reducible exact (Below.refl _ _).drew | with_reducible exact Below.refl _ _) | exact unhide HK5s _ _ _ _ _ _ hB8)
    (first
      | (go_at_call 162; have hq := hB7; refine (root_rt _ _ _ _ _ (lo * Q b) _ hint7 (by omega)).mono ?_; rintro r w8 ⟨neg8, a8, n8, c8, rfl, hint8, hb8⟩; have hB8 := bthen hB7 hb8; have R8 := R.below hB8; have l8 := R8.lt; obtain ⟨q0, q1, q2, q3, q4, q5⟩ := R8; obtain ⟨y0, y1, y2, y3, y4, y5, y6⟩ := unhide HK5 _ hB8)
      | (go_at_call 113; refine (up_int _ _ _ _ b k lo _ ((unhide hs).lo.below (by (repeat' (first | with_reducible exact Below.refl _ _ | with_reducible refine Below.drew ?_ | with_reducible refine balloc ?_ _)) <;> fail)) (by omega) (by omega)).mono ?_; rintro r w7 ⟨neg7, a7, n7, c7, rfl, hint7, hb7⟩; have hB7 : Below wc.heap.size wc w7 := bthen (by (repeat' (first | with_reducible exact Below.refl _ _ | with_reducible refine Below.drew ?_ | with_reducible refine balloc ?_ _)) <;> fail) hb7))
  all_goals
    go_wp2_with fail
    refine bodyPost_ret (v := .agg #[.bool neg8, .slice a8 n8 c8, .bool x.neg, .slice x.a x.n x.cap, .int .i64 b]) (by simp [results, Try.results134, go_sem, l8, q0, q1, q2, q3, q4]) rfl ⟨⟨neg8, a8, n8, c8, x.neg, x.a, x.n, x.cap, b⟩, rfl, rfl, ?_, ?_⟩
    · exact SpAt.put5 ⟨hint8.mono (by omega), (unhide hint).below hB8⟩ q0 q1 q2 q3 q4 _ _ _ _ _
    · exact set5 (bthen hBW hB8) (by omega) _ _ _ _ _
end Go.Proofs.Ytgmnknmjainabab

namespace Go.Proofs.Ytgmnknmjainabab
set_option linter.unusedVariables false
set_option linter.unusedSimpArgs false
set_option linter.unnecessarySimpa false
open Go.RowKit

theorem hs1 (w : World) (o1 : Obj) : (w.alloc o1).heap.size = w.heap.size + 1 := by simp
variable {W w2 : World} {k1 k2 : Nat} {z1 z2 : Int} {x y : Nm} {T : TypeId}
end Go.Proofs.Ytgmnknmjainabab

namespace Go.Proofs.Ytgmnknmjainabab
set_option linter.unusedVariables false
set_option linter.unusedSimpArgs false
set_option linter.unnecessarySimpa false
open Go.RowKit
attribute [local go_sem ↓] Go.wp_at_zero Go.wp_at_succ

/-- The ends of the quotients of what is from l to h over what is from p to q, p more than 0. -/
def ovLo (l h p q : Int) : Int := if l < 0 then l / p else l / q
def ovHi (l h p q : Int) : Int := if h < 0 then -(-h / q) else -(-h / p)

/-- What stands of tailsureref.Over behind its variables l, h (at BL, CL) and lo, hi (at BM, CM). -/
structure OVs (w wr : World) (s t : Sp) (k k1 k2 BL CL BM CM : Nat) (xL yL xM yM : Nm) (lo' hi' l h m n : Int) : Prop where
  A : SpC wr w.heap.size s
  G : SpC wr (w.heap.size + 1) t
  R : NoC wr (w.heap.size + 1 + 1)
  XL : NmC wr BL xL
  YL : NmC wr CL yL
  XM : NmC wr BM xM
  YM : NmC wr CM yM
  il : IntAt wr xL.neg xL.a xL.n xL.cap k1 l
  ih : IntAt wr yL.neg yL.a yL.n yL.cap k1 h
  im : IntAt wr xM.neg xM.a xM.n xM.cap k2 m
  jn : IntAt wr yM.neg yM.a yM.n yM.cap k2 n
  ht : SpAt wr t k lo' hi'
  fM : ∀ o, wr.frozen? ⟨BM, o, none⟩ = false
  fN : ∀ o, wr.frozen? ⟨CM, o, none⟩ = false
  hB : Below w.heap.size w wr
variable {w wr w' : World} {s t : Sp} {k k1 k2 BL CL BM CM : Nat} {xL yL xM yM : Nm} {lo' hi' l h m n : Int}
theorem OVs.below (D : OVs w wr s t k k1 k2 BL CL BM CM xL yL xM yM lo' hi' l h m n) (hb : Below wr.heap.size wr w') : OVs w w' s t k k1 k2 BL CL BM CM xL yL xM yM lo' hi' l h m n :=
  ⟨D.A.below hb, D.G.below hb, D.R.below hb, D.XL.below hb, D.YL.below hb, D.XM.below hb, D.YM.below hb, D.il.below hb, D.ih.below hb, D.im.below hb, D.jn.below hb, D.ht.below hb, fun o => (hb.frozen (p := ⟨BM, o, none⟩) D.XM.lt).trans (D.fM o), fun o => (hb.frozen (p := ⟨CM, o, none⟩) D.YM.lt).trans (D.fN o), bthen D.hB hb⟩
end Go.Proofs.Ytgmnknmjainabab

namespace Go.Proofs.Ytgmnknmjainabab
set_option linter.unusedVariables false
set_option linter.unusedSimpArgs false
set_option linter.unnecessarySimpa false
open Go.RowKit
attribute [local go_sem ↓] Go.wp_at_zero Go.wp_at_succ

/-- The ends of the quotients of two spans, the second one without 0. -/
def dvLo (lo hi lo' hi' : Int) (b : Nat) : Int := if hi' < 0 then ovLo (-hi * Q b) (-lo * Q b) (-hi') (-lo') else ovLo (lo * Q b) (hi * Q b) lo' hi'
def dvHi (lo hi lo' hi' : Int) (b : Nat) : Int := if hi' < 0 then ovHi (-hi * Q b) (-lo * Q b) (-hi') (-lo') else ovHi (lo * Q b) (hi * Q b) lo' hi'

end Go.Proofs.Ytgmnknmjainabab

namespace Go.Proofs.Ytgmnknmjainabab
set_option linter.unusedVariables false
open Ex

namespace Ex
theorem lin_le {L y c d a t : Rat} (h1 : L * c ≤ a) (h2 : L * d ≤ a) (g1 : c - t ≤ y) (g2 : y ≤ d + t) (k : Rat) (k1 : L ≤ k) (k2 : -L ≤ k) (ht : 0 ≤ t) : L * y ≤ a + k * t := by
  by_cases hL : 0 ≤ L
  · have := Rat.mul_nonneg hL (show 0 ≤ d + t - y by grind)
    have := Rat.mul_nonneg (show 0 ≤ k - L by grind) ht
    grind
  · have := Rat.mul_nonneg (show 0 ≤ -L by grind) (show 0 ≤ y - (c - t) by grind)
    have := Rat.mul_nonneg (show 0 ≤ k + L by grind) ht
    grind
theorem Has.div {a b c d L U : Rat} {x y : Nat → Rat} (h : Has a b x) (k : Has c d y) (hc : 0 < c) (h1 : L * c ≤ a) (h2 : L * d ≤ a) (h3 : b ≤ U * c) (h4 : b ≤ U * d) : Has L U (fun M => x M / y M) := fun e he => by
  obtain ⟨m, m0, m1, m2, m3, m4⟩ : ∃ m : Rat, 0 < m ∧ L ≤ m ∧ -L ≤ m ∧ U ≤ m ∧ -U ≤ m := by
    refine ⟨1 + (if 0 ≤ L then L else -L) + (if 0 ≤ U then U else -U), ?_, ?_, ?_, ?_, ?_⟩ <;> split <;> split <;> grind
  have m5 : (0 : Rat) < 2 * (1 + m) := by grind
  have hec : 0 < e * c := Rat.mul_pos he hc
  obtain ⟨t, t0, t1, t2⟩ : ∃ t : Rat, 0 < t ∧ 2 * t ≤ c ∧ t * (2 * (1 + m)) ≤ e * c := by
    have f := rdm (a := e * c) m5
    have f0 := rdiv_pos hec m5
    by_cases hh : e * c / (2 * (1 + m)) ≤ c / 2
    · exact ⟨e * c / (2 * (1 + m)), f0, by grind, by grind⟩
    · refine ⟨c / 2, by grind, by grind, ?_⟩
      have := Rat.mul_nonneg (show 0 ≤ e * c / (2 * (1 + m)) - c / 2 by grind) (show 0 ≤ 2 * (1 + m) by grind)
      grind
  obtain ⟨N1, g1⟩ := h t t0
  obtain ⟨N2, g2⟩ := k t t0
  refine ⟨N1 + N2, fun M hM => ?_⟩
  obtain ⟨p1, p2⟩ := g1 M (by omega)
  obtain ⟨q1, q2⟩ := g2 M (by omega)
  have y0 : 0 < y M := by grind
  have ey : e * c ≤ 2 * (e * y M) := by
    have := Rat.mul_nonneg (Rat.le_of_lt he) (show 0 ≤ 2 * y M - c by grind)
    grind
  constructor
  · refine rle_div y0 ?_
    have := lin_le h1 h2 q1 q2 m m1 m2 (Rat.le_of_lt t0)
    grind
  · refine rdiv_le y0 ?_
    have := lin_le (L := -U) (a := -b) (by grind) (by grind) q1 q2 m (by grind) (by grind) (Rat.le_of_lt t0)
    grind
end Ex
theorem Iv.div {B : Nat} {s t : Int × Int} {x y : Nat → Rat} (h : Iv B s x) (k : Iv B t y) (h0 : 0 < t.1) {lo hi : Int} (h1 : lo * t.1 ≤ s.1 * Q B) (h2 : lo * t.2 ≤ s.1 * Q B) (h3 : s.2 * Q B ≤ hi * t.1) (h4 : s.2 * Q B ≤ hi * t.2) : Iv B (lo, hi) (fun M => x M / y M) := by
  have q := Qr_pos B
  have t0 : (0 : Rat) < (t.1 : Rat) := by exact_mod_cast h0
  have key : ∀ {u v z : Int}, u * v ≤ z * Q B → (u : Rat) / (Q B : Rat) * ((v : Rat) / (Q B : Rat)) ≤ (z : Rat) / (Q B : Rat) := fun {u v z} hh => mul_hi (by have := Q_pos B; omega) hh
  have key2 : ∀ {u v z : Int}, z * Q B ≤ u * v → (z : Rat) / (Q B : Rat) ≤ (u : Rat) / (Q B : Rat) * ((v : Rat) / (Q B : Rat)) := fun {u v z} hh => mul_lo (by have := Q_pos B; omega) hh
  exact Has.div h k (rdiv_pos t0 q) (key h1) (key h2) (key2 h3) (key2 h4)
/-- A quotient of what is not below 0 and what is more than 0. -/
theorem dv_pos {lo hi lo' hi' : Int} {b : Nat} (h0 : 0 ≤ lo) (h1 : lo ≤ hi) (h2 : 0 < lo') (h3 : lo' ≤ hi') : dvLo lo hi lo' hi' b = lo * Q b / hi' ∧ dvHi lo hi lo' hi' b = -(-(hi * Q b) / lo') := by
  have q := Q_pos b
  have p1 := Int.mul_nonneg h0 (show 0 ≤ Q b by omega)
  have p2 := Int.mul_nonneg (show 0 ≤ hi by omega) (show 0 ≤ Q b by omega)
  unfold dvLo dvHi ovLo ovHi
  rw [if_neg (by omega), if_neg (by omega), if_neg (by omega), if_neg (by omega)]
  exact ⟨rfl, rfl⟩
theorem dv_ceil (a : Int) {d : Int} (hd : 0 < d) : a ≤ -(-a / d) * d := by
  have := Int.ediv_mul_le (-a) (show d ≠ 0 by omega)
  rw [Int.neg_mul]; omega
theorem dv_floor (a : Int) {d : Int} (hd : 0 < d) : a / d * d ≤ a := Int.ediv_mul_le a (by omega)
theorem Iv.dv {B : Nat} {s t : Int × Int} {x y : Nat → Rat} (h : Iv B s x) (k : Iv B t y) (hs : 0 ≤ s.1) (h0 : 0 < t.1) : Iv B (dvLo s.1 s.2 t.1 t.2 B, dvHi s.1 s.2 t.1 t.2 B) (fun M => x M / y M) := by
  have hs2 := h.le
  have ht2 := k.le
  have q := Q_pos B
  obtain ⟨e1, e2⟩ := dv_pos (b := B) hs hs2 h0 ht2
  rw [e1, e2]
  have p1 := Int.mul_nonneg hs (show 0 ≤ Q B by omega)
  have l0 : 0 ≤ s.1 * Q B / t.2 := Int.ediv_nonneg p1 (by omega)
  have f1 := dv_floor (s.1 * Q B) (show 0 < t.2 by omega)
  have f2 := dv_ceil (s.2 * Q B) h0
  have p2 := Int.mul_nonneg (show 0 ≤ s.2 by omega) (show 0 ≤ Q B by omega)
  have u0 : 0 ≤ -(-(s.2 * Q B) / t.1) := by
    have : -(s.2 * Q B) / t.1 ≤ 0 := Int.ediv_nonpos_of_nonpos_of_neg (by omega) h0
    omega
  have g1 := Int.mul_le_mul_of_nonneg_left ht2 l0
  have g2 := Int.mul_le_mul_of_nonneg_left ht2 u0
  exact h.div k h0 (by omega) f1 f2 (by omega)
end Go.Proofs.Ytgmnknmjainabab

namespace Go.Proofs.Ytgmnknmjainabab
set_option linter.unusedVariables false
open Ex

theorem mulI_nonneg {B : Nat} {a b : Int × Int} (ha : 0 ≤ a.1) (ha2 : 0 ≤ a.2) (hb : 0 ≤ b.1) (hb2 : 0 ≤ b.2) : 0 ≤ (mulI B a b).1 := by
  have q := Q_pos B
  obtain ⟨_, _, _, _, h⟩ := least4 (a.1 * b.1) (a.1 * b.2) (a.2 * b.1) (a.2 * b.2)
  have p1 := Int.mul_nonneg ha hb
  have p2 := Int.mul_nonneg ha hb2
  have p3 := Int.mul_nonneg ha2 hb
  have p4 := Int.mul_nonneg ha2 hb2
  exact Int.ediv_nonneg (by omega) (by omega)
theorem expT_nonneg {B : Nat} {sm : Int × Int} (h : 0 ≤ sm.1) (h2 : sm.1 ≤ sm.2) (n : Nat) : 0 ≤ (expT B sm n).1 := by
  induction n with
  | zero => have := Q_pos B; show 0 ≤ Q B; omega
  | succ n ih =>
    have hl := expT_le B sm n
    have h3 := mulI_nonneg (B := B) (a := expT B sm n) (b := sm) ih (by omega) h (by omega)
    show 0 ≤ (scaleI (mulI B (expT B sm n) sm) 1 ((n : Int) + 1)).1
    unfold scaleI
    exact Int.ediv_nonneg (by omega) (by omega)
theorem sumI_low {B : Nat} {sm : Int × Int} (h : 0 ≤ sm.1) (h2 : sm.1 ≤ sm.2) (n : Nat) : Q B ≤ (sumI (expT B sm) n).1 := by
  induction n with
  | zero => exact Int.le_refl _
  | succ n ih =>
    have := expT_nonneg (B := B) h h2 (n + 1)
    show Q B ≤ (addI (sumI (expT B sm) n) (expT B sm (n + 1))).1
    unfold addI
    simp only []
    omega
theorem done_low {B N : Nat} {sm : Int × Int} (h : 0 ≤ sm.1) (h2 : sm.1 ≤ sm.2) (hN : IsStop (expT B sm) N) : Q B - 1 ≤ (doneI (expT B sm) N).1 := by
  have h3 := sumI_low (B := B) h h2 N
  have h4 := hN.1
  unfold doneI addI
  simp only []
  omega
theorem sq_low {B : Nat} {d : Int × Int} (hd : d.1 ≤ d.2) (t : Nat) (hq : Q t ≤ Q B) (h : Q B - 1 ≤ d.1) : Q B - Q t ≤ (sqI B d t).1 ∧ (sqI B d t).1 ≤ (sqI B d t).2 := by
  have q := Q_pos B
  induction t with
  | zero => exact ⟨h, hd⟩
  | succ t ih =>
    have e : Q (t + 1) = 2 * Q t := rfl
    have qt := Q_pos t
    obtain ⟨i1, i2⟩ := ih (by omega)
    refine ⟨?_, mulI_le B⟩
    show Q B - Q (t + 1) ≤ (mulI B (sqI B d t) (sqI B d t)).1
    generalize sqI B d t = a at *
    obtain ⟨_, _, _, _, hh⟩ := least4 (a.1 * a.1) (a.1 * a.2) (a.2 * a.1) (a.2 * a.2)
    have c0 : 0 ≤ a.1 := by omega
    have m1 := Int.mul_le_mul_of_nonneg_left i2 c0
    have m2 := Int.mul_le_mul_of_nonneg_right i2 c0
    have m3 := Int.mul_le_mul i2 i2 c0 (by omega)
    have m4 := Int.mul_le_mul i1 i1 (by omega) c0
    have e2 : (Q B - Q t) * (Q B - Q t) = (Q B - 2 * Q t) * Q B + Q t * Q t := by grind
    have m5 := Int.mul_nonneg (show 0 ≤ Q t by omega) (show 0 ≤ Q t by omega)
    have m6 : (Q B - Q (t + 1)) * Q B ≤ leastZ (pr4 (a.1 * a.1) (a.1 * a.2) (a.2 * a.1) (a.2 * a.2)) 3 := by rw [e]; omega
    exact Int.le_ediv_of_mul_le (by omega) m6
/-- What wide.Exp makes of what is not below 0 is more than a half. -/
theorem exp_low {B N t : Nat} {a : Int × Int} (ha : 0 ≤ a.1) (hl : a.1 ≤ a.2) (ht : t ≤ 17) (hB : 40 ≤ B) (hN : IsStop (expT B (downI a t)) N) : Q B + 1 ≤ 2 * (sqI B (doneI (expT B (downI a t)) N) t).1 := by
  have q := Q_pos t
  have hs : 0 ≤ (downI a t).1 := Int.ediv_nonneg ha (by omega)
  have hsl : (downI a t).1 ≤ (downI a t).2 := by
    have := scaleI_le (a := a) (n := 1) (d := Q t) hl (by omega) (by omega)
    simpa [scaleI, downI] using this
  have h1 := done_low hs hsl hN
  have h2 := sq_low (B := B) (done_le (expT_le B (downI a t)) N) t (Q_mono (by omega)) h1
  have h3 := Q_mono (show t ≤ 17 by omega)
  have h4 := Q_mono (show 40 ≤ B by omega)
  have e1 : Q 17 = 131072 := rfl
  have e2 : Q 40 = 1099511627776 := rfl
  omega
theorem one_iv (B : Nat) : Iv B (Q B, Q B) (fun _ => 1) := by
  have h := (Iv.of B (n := 1) (d := 1) (by decide))
  have e : ofI 1 1 B = (Q B, Q B) := by unfold ofI; simp only [Int.ediv_one, Int.neg_neg, Int.one_mul]
  rw [e] at h
  have e2 : ((1 : Int) : Rat) / ((1 : Int) : Rat) = 1 := by decide +kernel
  rw [e2] at h
  exact h
/-- A span of a number that is not more than 1, without what is. -/
theorem Iv.cap {B : Nat} {a : Int × Int} {x : Nat → Rat} (h : Iv B a x) (N0 : Nat) (hx : ∀ M, N0 ≤ M → x M ≤ 1) : Iv B (a.1, if a.2 ≤ Q B then a.2 else Q B) x := by
  split
  · exact h
  · intro e he
    obtain ⟨N, hN⟩ := h e he
    refine ⟨N + N0, fun M hM => ?_⟩
    have g := (hN M (by omega)).1
    have g2 := hx M (by omega)
    have q := Qr_pos B
    have e1 : (Q B : Rat) / (Q B : Rat) = 1 := by rw [Rat.div_def, Rat.mul_inv_cancel _ (by grind)]
    simp only []
    rw [e1]
    constructor <;> grind
namespace Ex
end Ex
theorem rat_nonneg {p q : Int} (hp : 0 ≤ p) (hq : 0 < q) : (0 : Rat) ≤ (p : Rat) / (q : Rat) := by
  have q0 : (0 : Rat) < (q : Rat) := by exact_mod_cast hq
  have p0 : (0 : Rat) ≤ (p : Rat) := by exact_mod_cast hp
  refine rle_div q0 ?_
  grind
end Go.Proofs.Ytgmnknmjainabab

namespace Go.Proofs.Ytgmnknmjainabab
set_option linter.unusedVariables false
open Ex

/-- The numbers of wide.rising's sum. -/
def riT (a : Int × Int) (u d : Nat → Int) : Nat → Int × Int
  | 0 => a
  | n + 1 => scaleI (riT a u d n) (u (n + 1)) (d (n + 1))
/-- Where it ends. -/
def IsRise (f : Nat → Int × Int) (turn N : Nat) : Prop := turn ≤ N ∧ (f N).2 ≤ 3 ∧ ∀ j, j < N → j < turn ∨ 3 < (f j).2
/-- And what comes of it. -/
def riseI (f : Nat → Int × Int) (N : Nat) : Int × Int := addI (sumI f N) (0, 9)
/-- Numbers from 0 on, over numbers more than 0. -/
structure RiOk (u d : Nat → Int) : Prop where
  u0 : ∀ n, 0 ≤ u n
  d0 : ∀ n, 0 < d n
theorem riT_le {a : Int × Int} {u d : Nat → Int} (h : RiOk u d) (ha : a.1 ≤ a.2) (n : Nat) : (riT a u d n).1 ≤ (riT a u d n).2 := by
  induction n with
  | zero => exact ha
  | succ n ih => exact scaleI_le ih (h.d0 _) (h.u0 _)
theorem riT_nonneg {a : Int × Int} {u d : Nat → Int} (h : RiOk u d) (ha : 0 ≤ a.1) (n : Nat) : 0 ≤ (riT a u d n).1 := by
  induction n with
  | zero => exact ha
  | succ n ih => exact Int.ediv_nonneg (Int.mul_nonneg ih (h.u0 _)) (by have := h.d0 (n + 1); omega)
theorem dv_floor2 (a : Int) {d : Int} (hd : 0 < d) : a < (a / d + 1) * d := Int.lt_ediv_add_one_mul_self _ hd
/-- Three quarters, rounded up. -/
theorem fall34 {x u d : Int} (hd : 0 < d) (hx : 0 ≤ x) (h : 4 * u ≤ 3 * d) : 4 * -(-(x * u) / d) ≤ 3 * x + 3 := by
  have h1 := Int.mul_le_mul_of_nonneg_left h hx
  have h2 := dv_floor2 (-(x * u)) hd
  refine Int.not_lt.1 fun hn => ?_
  obtain ⟨c, hc⟩ : ∃ c, c = -(-(x * u) / d) := ⟨_, rfl⟩
  have h3 : (c - 1) * d < x * u := by
    have e : (-(x * u) / d + 1) * d = -((c - 1) * d) := by rw [hc]; grind
    omega
  rw [← hc] at hn
  have h4 := Int.mul_le_mul_of_nonneg_right (show 3 * x + 4 ≤ 4 * c by omega) (show 0 ≤ d by omega)
  have e1 : (3 * x + 4) * d = 3 * x * d + 4 * d := by grind
  have e2 : 4 * c * d = 4 * ((c - 1) * d) + 4 * d := by grind
  have e3 : x * (4 * u) = 4 * (x * u) := by grind
  have e4 : x * (3 * d) = 3 * x * d := by grind
  omega
theorem rise_steps {g : Nat → Int} (h : ∀ j, 4 * g (j + 1) ≤ 3 * g j + 3) : ∀ (H j : Nat), g j - 3 < Q H → ∃ i, i ≤ j + 3 * H ∧ j ≤ i ∧ g i ≤ 3 := by
  intro H
  induction H with
  | zero =>
    intro j hj
    have e : Q 0 = 1 := rfl
    exact ⟨j, by omega, Nat.le_refl _, by omega⟩
  | succ H ih =>
    intro j hj
    have e : Q (H + 1) = 2 * Q H := rfl
    have q := Q_pos H
    have h1 := h j
    have h2 := h (j + 1)
    have h3 := h (j + 2)
    obtain ⟨i, i1, i2, i3⟩ := ih (j + 3) (by rw [show j + 3 = j + 2 + 1 by omega]; rw [show j + 2 = j + 1 + 1 by omega] at *; omega)
    exact ⟨i, by omega, by omega, i3⟩
theorem rise_ex {a : Int × Int} {u d : Nat → Int} {turn H : Nat} (h : RiOk u d) (ha : 0 ≤ a.1) (hl : a.1 ≤ a.2) (h34 : ∀ n, turn ≤ n → 4 * u (n + 1) ≤ 3 * d (n + 1)) (hH : (riT a u d turn).2 - 3 < Q H) : ∃ N, N ≤ turn + 3 * H ∧ IsRise (riT a u d) turn N := by
  have hg : ∀ j, 4 * (riT a u d (turn + (j + 1))).2 ≤ 3 * (riT a u d (turn + j)).2 + 3 := fun j => by
    have h0 := riT_nonneg h ha (turn + j)
    have h1 := riT_le h hl (turn + j)
    exact fall34 (x := (riT a u d (turn + j)).2) (h.d0 (turn + j + 1)) (by omega) (h34 (turn + j) (by omega))
  obtain ⟨i, i1, i2, i3⟩ := rise_steps hg H 0 hH
  obtain ⟨N, n1, n2, n3⟩ := exists_least (p := fun N => turn ≤ N ∧ (riT a u d N).2 ≤ 3) (K := turn + i) ⟨by omega, i3⟩
  refine ⟨N, by omega, n2.1, n2.2, fun j hj => ?_⟩
  have := n3 j hj
  by_cases ht : j < turn
  · exact Or.inl ht
  · exact Or.inr (Int.not_le.1 fun hh => this ⟨by omega, hh⟩)
/-- The numbers themselves. -/
def riV (x : Nat → Rat) (u d : Nat → Int) : Nat → Nat → Rat
  | 0, M => x M
  | n + 1, M => (u (n + 1) : Rat) / (d (n + 1) : Rat) * riV x u d n M
theorem riT_has {B : Nat} {a : Int × Int} {x : Nat → Rat} {u d : Nat → Int} (h : RiOk u d) (hx : Iv B a x) (n : Nat) : Iv B (riT a u d n) (fun M => riV x u d n M) := by
  induction n with
  | zero => exact hx
  | succ n ih => exact ih.scale (h.u0 _) (h.d0 _)
theorem riV_nonneg {x : Nat → Rat} {u d : Nat → Int} (h : RiOk u d) {M : Nat} (hx : 0 ≤ x M) (n : Nat) : 0 ≤ riV x u d n M := by
  induction n with
  | zero => exact hx
  | succ n ih =>
    have h1 := rat_nonneg (h.u0 (n + 1)) (h.d0 (n + 1))
    exact Rat.mul_nonneg h1 ih
theorem riV_fall {x : Nat → Rat} {u d : Nat → Int} (h : RiOk u d) {M : Nat} (hx : 0 ≤ x M) {n : Nat} (h34 : 4 * u (n + 1) ≤ 3 * d (n + 1)) : 4 * riV x u d (n + 1) M ≤ 3 * riV x u d n M := by
  have h0 := riV_nonneg h hx n
  have d0 : (0 : Rat) < (d (n + 1) : Rat) := by exact_mod_cast h.d0 (n + 1)
  have h1 : (u (n + 1) : Rat) / (d (n + 1) : Rat) ≤ 3 / 4 := by
    refine rdiv_le d0 ?_
    have := cast_le h34
    rw [Rat.intCast_mul, Rat.intCast_mul, show ((4 : Int) : Rat) = 4 from rfl, show ((3 : Int) : Rat) = 3 from rfl] at this
    grind
  have h2 := Rat.mul_nonneg (show 0 ≤ 3 / 4 - (u (n + 1) : Rat) / (d (n + 1) : Rat) by grind) h0
  show 4 * ((u (n + 1) : Rat) / (d (n + 1) : Rat) * riV x u d n M) ≤ _
  grind
/-- What wide.rising makes has the whole sum. -/
theorem rise_has {B N : Nat} {f : Nat → Int × Int} {g : Nat → Nat → Rat} (h : ∀ n, Iv B (f n) (fun M => g n M)) (hN : (f N).2 ≤ 3) (M0 : Nat) (h0 : ∀ M, M0 ≤ M → ∀ n, 0 ≤ g n M) (hh : ∀ M, M0 ≤ M → ∀ n, N ≤ n → 4 * g (n + 1) M ≤ 3 * g n M) : Iv B (riseI f N) (fun M => S (fun k => g k M) M) := by
  have hs : ∀ n, Iv B (sumI f n) (fun M => S (fun k => g k M) (n + 1)) := fun n => by
    induction n with
    | zero =>
      refine (h 0).congr (null_zero.of_eq fun M => ?_)
      show S (fun k => g k M) 1 - g 0 M = 0
      have e : S (fun k => g k M) 1 = 0 + g 0 M := rfl
      rw [e]; grind
    | succ n ih => exact ih.add (h (n + 1))
  have ht : ∀ M, M0 ≤ M → ∀ i, 0 ≤ S (fun k => g k M) (N + 1 + i) - S (fun k => g k M) (N + 1) ∧ S (fun k => g k M) (N + 1 + i) - S (fun k => g k M) (N + 1) + 3 * g (N + i) M ≤ 3 * g N M := fun M hM i => by
    induction i with
    | zero => constructor <;> (show _ ≤ _; simp only [Nat.add_zero]; grind)
    | succ i ih =>
      have e : S (fun k => g k M) (N + 1 + (i + 1)) = S (fun k => g k M) (N + 1 + i) + g (N + 1 + i) M := rfl
      have h1 := h0 M hM (N + 1 + i)
      have h2 := hh M hM (N + i) (by omega)
      rw [show N + i + 1 = N + 1 + i by omega] at h2
      rw [e, show N + (i + 1) = N + 1 + i by omega]
      constructor <;> grind
  have q := Qr_pos B
  intro e he
  obtain ⟨N1, g1⟩ := hs N (e / 4) (by grind)
  obtain ⟨N2, g2⟩ := h N (e / 4) (by grind)
  refine ⟨M0 + N1 + N2 + N + 1, fun M hM => ?_⟩
  obtain ⟨a1, a2⟩ := g1 M (by omega)
  obtain ⟨b1, b2⟩ := g2 M (by omega)
  obtain ⟨t1, t2⟩ := ht M (by omega) (M - (N + 1))
  have t3 := h0 M (by omega) (N + (M - (N + 1)))
  rw [show N + 1 + (M - (N + 1)) = M by omega] at t1 t2
  have c2 : ((f N).2 : Rat) / (Q B : Rat) ≤ ((3 : Int) : Rat) / (Q B : Rat) := rdiv_le q (by rw [rdm q]; exact cast_le hN)
  have e1 : (((riseI f N).1 : Int) : Rat) / (Q B : Rat) = ((sumI f N).1 : Rat) / (Q B : Rat) := by
    unfold riseI addI; simp only []; rw [Int.add_zero]
  have e2 : (((riseI f N).2 : Int) : Rat) / (Q B : Rat) = ((sumI f N).2 : Rat) / (Q B : Rat) + 3 * (((3 : Int) : Rat) / (Q B : Rat)) := by
    unfold riseI addI; simp only []
    rw [Rat.intCast_add, rdiv_add]
    congr 1
    have e9 : ((9 : Int) : Rat) = 3 * ((3 : Int) : Rat) := by decide +kernel
    rw [e9, Rat.div_def, Rat.div_def, Rat.mul_assoc]
  simp only [] at a1 a2 b1 b2
  rw [e1, e2]
  constructor <;> grind
/-- The whole sum. -/
def riS (x : Nat → Rat) (u d : Nat → Int) (M : Nat) : Rat := S (fun k => riV x u d k M) M
theorem rising_has {B N turn : Nat} {a : Int × Int} {x : Nat → Rat} {u d : Nat → Int} (h : RiOk u d) (hx : Iv B a x) (M0 : Nat) (hx0 : ∀ M, M0 ≤ M → 0 ≤ x M) (h34 : ∀ n, turn ≤ n → 4 * u (n + 1) ≤ 3 * d (n + 1)) (hN : IsRise (riT a u d) turn N) : Iv B (riseI (riT a u d) N) (riS x u d) :=
  rise_has (fun n => riT_has h hx n) hN.2.1 M0 (fun M hM n => riV_nonneg h (hx0 M hM) n) (fun M hM n hn => riV_fall h (hx0 M hM) (h34 n (Nat.le_trans hN.1 hn)))
end Go.Proofs.Ytgmnknmjainabab

namespace Go.Proofs.Ytgmnknmjainabab.Ex
set_option linter.unusedVariables false

/-- The numbers of the series: x, that times 2 x^2 over 3, and so on. -/
def eT (x : Rat) : Nat → Rat
  | 0 => x
  | n + 1 => 2 * (x * x) / (2 * ((n : Rat) + 1) + 1) * eT x n
/-- How fast each grows. -/
def eD (x : Rat) : Nat → Rat
  | 0 => 1
  | n + 1 => 2 * x * eT x n
theorem odd_pos (n : Nat) : (0 : Rat) < 2 * ((n : Rat) + 1) + 1 := by have := pos1 n; grind
theorem eT_succ (x : Rat) (n : Nat) : (2 * ((n : Rat) + 1) + 1) * eT x (n + 1) = 2 * (x * x) * eT x n := by
  have h := odd_pos n
  show (2 * ((n : Rat) + 1) + 1) * (2 * (x * x) / (2 * ((n : Rat) + 1) + 1) * eT x n) = _
  have e := rdm (a := 2 * (x * x)) h
  have : (2 * ((n : Rat) + 1) + 1) * (2 * (x * x) / (2 * ((n : Rat) + 1) + 1) * eT x n) = (2 * (x * x) / (2 * ((n : Rat) + 1) + 1) * (2 * ((n : Rat) + 1) + 1)) * eT x n := by grind
  rw [this, e]
theorem eT_nonneg {x : Rat} (h : 0 ≤ x) (n : Nat) : 0 ≤ eT x n := by
  induction n with
  | zero => exact h
  | succ n ih =>
    have h1 := odd_pos n
    have h2 := eT_succ x n
    have h3 := Rat.mul_nonneg (Rat.mul_nonneg h h) ih
    refine Rat.le_of_mul_le_mul_left (c := 2 * ((n : Rat) + 1) + 1) ?_ h1
    grind
theorem eD_mul (x : Rat) (n : Nat) : eD x n * x = (2 * (n : Rat) + 1) * eT x n := by
  cases n with
  | zero => show 1 * x = (2 * ((0 : Nat) : Rat) + 1) * x; grind
  | succ n =>
    have h := eT_succ x n
    show 2 * x * eT x n * x = (2 * ((n + 1 : Nat) : Rat) + 1) * eT x (n + 1)
    have e : ((n + 1 : Nat) : Rat) = (n : Rat) + 1 := by push_cast; rfl
    rw [e]; grind
theorem eD_nonneg {x : Rat} (h : 0 ≤ x) (n : Nat) : 0 ≤ eD x n := by
  cases n with
  | zero => show (0 : Rat) ≤ 1; grind
  | succ n => exact Rat.mul_nonneg (Rat.mul_nonneg (by grind) h) (eT_nonneg h n)
theorem eT_grow {x h : Rat} (hx : 0 ≤ x) (hh : 0 ≤ h) (n : Nat) : eT x n + h * eD x n ≤ eT (x + h) n := by
  induction n with
  | zero => show x + h * 1 ≤ x + h; grind
  | succ n ih =>
    have p := odd_pos n
    have t0 := eT_nonneg hx n
    have d0 := eD_nonneg hx n
    have e1 := eT_succ x n
    have e2 := eT_succ (x + h) n
    have e3 := eD_mul x n
    have s1 : x * x + 2 * (x * h) ≤ (x + h) * (x + h) := by have := Rat.mul_nonneg hh hh; grind
    have q0 := Rat.mul_nonneg hx hx
    have q1 := Rat.mul_nonneg hx hh
    have y0 : 0 ≤ (x + h) * (x + h) := by have := Rat.mul_nonneg hh hh; grind
    have m1 := Rat.mul_le_mul_of_nonneg_left ih y0
    have u0 : 0 ≤ eT x n + h * eD x n := by have := Rat.mul_nonneg hh d0; grind
    have m2 := Rat.mul_le_mul_of_nonneg_right s1 u0
    refine Rat.le_of_mul_le_mul_left (c := 2 * ((n : Rat) + 1) + 1) ?_ p
    show (2 * ((n : Rat) + 1) + 1) * (eT x (n + 1) + h * (2 * x * eT x n)) ≤ _
    rw [e2]
    -- what is left: 2 (x x + 2 x h) (T + h D) is at least it
    have k1 := Rat.mul_nonneg q1 (Rat.mul_nonneg hh d0)
    have k2 : x * x * (h * eD x n) = h * x * ((2 * (n : Rat) + 1) * eT x n) := by rw [← e3]; grind
    have k3 : (x * x + 2 * (x * h)) * (eT x n + h * eD x n) = x * x * eT x n + x * x * (h * eD x n) + 2 * (x * h) * eT x n + 2 * (x * h * (h * eD x n)) := by grind
    rw [k3, k2] at m2
    have k4 : (2 * ((n : Rat) + 1) + 1) * (eT x (n + 1) + h * (2 * x * eT x n)) = 2 * (x * x) * eT x n + (2 * ((n : Rat) + 1) + 1) * (h * (2 * x * eT x n)) := by rw [← e1]; grind
    rw [k4]
    grind
/-- The series. -/
def eS (x : Rat) (M : Nat) : Rat := S (eT x) M
theorem eS_nonneg {x : Rat} (h : 0 ≤ x) (M : Nat) : 0 ≤ eS x M := by
  induction M with
  | zero => show (0 : Rat) ≤ 0; grind
  | succ n ih => have := eT_nonneg h n; show 0 ≤ eS x n + eT x n; grind
theorem eS_grow {x h : Rat} (hx : 0 ≤ x) (hh : 0 ≤ h) (M : Nat) : eS x (M + 1) + h * (1 + 2 * x * eS x M) ≤ eS (x + h) (M + 1) := by
  induction M with
  | zero => show (0 + x) + h * (1 + 2 * x * 0) ≤ 0 + (x + h); grind
  | succ n ih =>
    have g := eT_grow hx hh (n + 1)
    show eS x (n + 1) + eT x (n + 1) + h * (1 + 2 * x * (eS x n + eT x n)) ≤ eS (x + h) (n + 1) + eT (x + h) (n + 1)
    have e : eD x (n + 1) = 2 * x * eT x n := rfl
    rw [e] at g
    grind
theorem eT_mono {x y : Rat} (hx : 0 ≤ x) (hxy : x ≤ y) (n : Nat) : eT x n ≤ eT y n := by
  have h := eT_grow hx (show 0 ≤ y - x by grind) n
  have d := Rat.mul_nonneg (show 0 ≤ y - x by grind) (eD_nonneg hx n)
  rw [show x + (y - x) = y by grind] at h
  grind
theorem eS_mono {x y : Rat} (hx : 0 ≤ x) (hxy : x ≤ y) (M : Nat) : eS x M ≤ eS y M := by
  induction M with
  | zero => show (0 : Rat) ≤ 0; grind
  | succ n ih => have := eT_mono hx hxy n; show eS x n + eT x n ≤ eS y n + eT y n; grind
theorem eT_tm {x : Rat} (hx : 0 ≤ x) (n : Nat) : eT x n ≤ x * tm (x * x) n := by
  induction n with
  | zero => show x ≤ x * 1; grind
  | succ n ih =>
    have p := odd_pos n
    have p1 := pos1 n
    have e1 := eT_succ x n
    have e2 := tm_succ (x * x) n
    have q := Rat.mul_nonneg hx hx
    have m := Rat.mul_le_mul_of_nonneg_left ih q
    have t := tm_nonneg q (n + 1)
    have xt := Rat.mul_nonneg hx t
    refine Rat.le_of_mul_le_mul_left (c := 2 * ((n : Rat) + 1) + 1) ?_ p
    rw [e1]
    have k : x * ((n : Rat) + 1) * tm (x * x) (n + 1) = x * (x * x * tm (x * x) n) := by rw [← e2]; grind
    grind
theorem eT_null {x : Rat} (hx : 0 ≤ x) : Null (fun M => eT x M) := by
  obtain ⟨K, k0, hK⟩ := tm_bd (x * x)
  refine Null.of_le (f := fun M => x * K * ((M : Rat) * q4 M)) (null_q4 (x * K) (Rat.mul_nonneg hx k0)) 1 fun M hM => ?_
  have h0 := eT_nonneg hx M
  have h1 := eT_tm hx M
  have h2 := (hK M).2
  have h3 := Rat.mul_le_mul_of_nonneg_left h2 hx
  have hm : (1 : Rat) ≤ (M : Rat) := by exact_mod_cast hM
  have h4 := Rat.mul_nonneg (Rat.mul_nonneg (Rat.mul_nonneg hx k0) (Rat.le_of_lt (q4_pos M))) (show 0 ≤ (M : Rat) - 1 by grind)
  constructor <;> grind
theorem eS_bdd {x : Rat} (hx : 0 ≤ x) : ∃ K, 0 ≤ K ∧ ∀ M, eS x M ≤ K := by
  obtain ⟨K, k0, hK⟩ := E_bound (x * x)
  have q := Rat.mul_nonneg hx hx
  refine ⟨x * K, Rat.mul_nonneg hx k0, fun M => ?_⟩
  have h1 : eS x M ≤ x * E (x * x) M := by
    induction M with
    | zero => show (0 : Rat) ≤ x * 0; grind
    | succ n ih =>
      have := eT_tm hx n
      show eS x n + eT x n ≤ x * (E (x * x) n + tm (x * x) n)
      grind
  have h2 := (hK M (x * x) ⟨by grind, by grind⟩).2
  have h3 := Rat.mul_le_mul_of_nonneg_left h2 hx
  grind
/-- The series over e to the power of x^2. -/
def eF (x : Rat) (M : Nat) : Rat := eS x M * Ev (fun _ => -(x * x)) M
theorem eF_key {x h Y K s t q : Rat} (hx : 0 ≤ x) (hh : 0 < h) (hY : x + h ≤ Y) (sx : 0 ≤ s) (sK : s ≤ K) (h1 : h ≤ 1) (ht : t = h * (2 * x + h)) (t0 : 0 ≤ t) (t4 : t ≤ 1 / 4) (h3 : 2 * (h * (K * (1 + 8 * ((2 * Y + 1) * (2 * Y + 1))))) ≤ 1) (q0 : 1 - t - 2 * (t * t) ≤ q) : s ≤ (s + h * (1 + 2 * x * s)) * q := by
  have A0 : 0 ≤ 2 * Y + 1 := by grind
  have tt2 : t * t ≤ 1 / 16 := by have := Rat.mul_le_mul_of_nonneg_left t4 t0; grind
  have p0 : 0 ≤ s + h * (1 + 2 * x * s) := by
    have := Rat.mul_nonneg (Rat.le_of_lt hh) (show 0 ≤ 1 + 2 * x * s by have := Rat.mul_nonneg hx sx; grind)
    grind
  have p1 := Rat.mul_le_mul_of_nonneg_left q0 p0
  refine Rat.le_trans ?_ p1
  obtain ⟨a, ha⟩ : ∃ a, a = 2 * x + h := ⟨_, rfl⟩
  have a0 : 0 ≤ a := by grind
  have aA : a ≤ 2 * Y + 1 := by grind
  rw [← ha] at ht
  have r1 : (s + h * (1 + 2 * x * s)) * (1 - t - 2 * (t * t)) - s = h * ((1 - t - 2 * (t * t)) - h * (s * (1 + 2 * (a * a) + 2 * x * (a + 2 * (t * a))))) := by
    rw [ht, ha]; grind
  have xa : 2 * x ≤ a := by grind
  have b1 : a * a ≤ (2 * Y + 1) * (2 * Y + 1) := Rat.le_trans (Rat.mul_le_mul_of_nonneg_left aA a0) (Rat.mul_le_mul_of_nonneg_right aA A0)
  have b2 : 2 * x * a ≤ a * a := Rat.mul_le_mul_of_nonneg_right xa a0
  have b3 : 2 * x * a * t ≤ a * a * (1 / 4) := Rat.le_trans (Rat.mul_le_mul_of_nonneg_right b2 t0) (Rat.mul_le_mul_of_nonneg_left t4 (Rat.mul_nonneg a0 a0))
  have aa := Rat.mul_nonneg a0 a0
  have B : 1 + 2 * (a * a) + 2 * x * (a + 2 * (t * a)) ≤ 1 + 8 * ((2 * Y + 1) * (2 * Y + 1)) := by
    have e : 2 * x * (a + 2 * (t * a)) = 2 * x * a + 2 * (2 * x * a * t) := by grind
    rw [e]
    generalize (2 * Y + 1) * (2 * Y + 1) = YY at *
    generalize a * a = AA at *
    generalize 2 * x * a * t = u1 at *
    generalize 2 * x * a = u2 at *
    clear r1 p1 p0 h3 ht
    grind
  have b4 := Rat.mul_le_mul_of_nonneg_left B sx
  have b5 : s * (1 + 8 * ((2 * Y + 1) * (2 * Y + 1))) ≤ K * (1 + 8 * ((2 * Y + 1) * (2 * Y + 1))) := Rat.mul_le_mul_of_nonneg_right sK (by have := Rat.mul_nonneg A0 A0; grind)
  have b6 := Rat.mul_le_mul_of_nonneg_left (Rat.le_trans b4 b5) (Rat.le_of_lt hh)
  have b7 : 0 ≤ (1 - t - 2 * (t * t)) - h * (s * (1 + 2 * (a * a) + 2 * x * (a + 2 * (t * a)))) := by
    generalize h * (s * (1 + 2 * (a * a) + 2 * x * (a + 2 * (t * a)))) = u1 at *
    generalize h * (K * (1 + 8 * ((2 * Y + 1) * (2 * Y + 1)))) = u2 at *
    generalize t * t = u3 at *
    clear r1 p1 p0 ht b1 b2 b3 b4 b5 B
    grind
  have b8 := Rat.mul_nonneg (Rat.le_of_lt hh) b7
  rw [← r1] at b8
  grind
/-- A little more is not less. -/
theorem eF_step {x h Y K : Rat} (hx : 0 ≤ x) (hh : 0 < h) (hY : x + h ≤ Y) (hK : 0 ≤ K) (hS : ∀ M, eS x M ≤ K) (h1 : h ≤ 1) (h2 : 4 * (h * (2 * Y + 1)) ≤ 1) (h3 : 2 * (h * (K * (1 + 8 * ((2 * Y + 1) * (2 * Y + 1))))) ≤ 1) : ∃ z, Null z ∧ ∃ N, ∀ M, N ≤ M → eF x M ≤ eF (x + h) M + z M := by
  obtain ⟨t, ht⟩ : ∃ t, t = h * (2 * x + h) := ⟨_, rfl⟩
  have a0 : 0 ≤ 2 * x + h := by grind
  have t0 : 0 ≤ t := by rw [ht]; exact Rat.mul_nonneg (Rat.le_of_lt hh) a0
  have ta : t ≤ h * (2 * Y + 1) := by rw [ht]; exact Rat.mul_le_mul_of_nonneg_left (by grind) (Rat.le_of_lt hh)
  have t4 : t ≤ 1 / 4 := by grind
  have sqe : -((x + h) * (x + h)) = -(x * x) + -t := by rw [ht]; grind
  have hadd := Ev_add (x := fun _ => -(x * x)) (y := fun _ => -t) (Bdd.const _) (Bdd.const _)
  have eb : Bdd (eS (x + h)) := by
    obtain ⟨K2, k2, hk2⟩ := eS_bdd (x := x + h) (by grind)
    exact Bdd.of_le K2 0 fun M _ => ⟨by have := eS_nonneg (x := x + h) (by grind) M; grind, hk2 M⟩
  have hz1 := hadd.bmul eb
  obtain ⟨c, c0, N0, hc⟩ := Ev_low (x := fun _ => -(x * x)) (Bdd.const _)
  have evb := Ev_bdd (x := fun _ => -(x * x)) (Bdd.const _)
  -- what is left out of the series' growth
  have hT := (eT_null hx)
  have hz2 : Null (fun M => eT x (M - 1)) := fun e he => by
    obtain ⟨N, hN⟩ := hT e he
    exact ⟨N + 1, fun M hM => hN (M - 1) (by omega)⟩
  have hz3 := (hz2.bmul (Bdd.const (2 * x * h))).bmul evb
  refine ⟨_, hz3.add hz1, N0 + 2, fun M hM => ?_⟩
  have hc' := hc M (by omega)
  have e1 : eF (x + h) M = eS (x + h) M * Ev (fun _ => -(x * x) + -t) M := by unfold eF; rw [sqe]
  obtain ⟨m, rfl⟩ : ∃ m, M = m + 1 := ⟨M - 1, by omega⟩
  have g := eS_grow hx (Rat.le_of_lt hh) m
  have e2 : eS x (m + 1) = eS x m + eT x m := rfl
  have sx := eS_nonneg hx (m + 1)
  have sK := hS (m + 1)
  have lit := (E_little2 (h := -t) (b := t) ⟨by grind, by grind⟩ t4 (M := m + 1) (by omega)).1
  have lit2 := (E_little2 (h := -t) (b := t) ⟨by grind, by grind⟩ t4 (M := m + 1) (by omega)).2
  have e3 : Ev (fun _ => -t) (m + 1) = E (-t) (m + 1) := rfl
  have T0 := eT_nonneg hx m
  simp only [Nat.add_sub_cancel] at *
  rw [e1]
  unfold eF
  generalize Ev (fun _ => -(x * x)) (m + 1) = v at *
  generalize Ev (fun _ => -(x * x) + -t) (m + 1) = vt at *
  rw [e3]
  generalize E (-t) (m + 1) = q at *
  generalize eS (x + h) (m + 1) = s' at *
  obtain ⟨s, hs⟩ : ∃ s, s = eS x (m + 1) := ⟨_, rfl⟩
  have e4 : eS x m = s - eT x m := by rw [hs]; grind
  rw [e4, ← hs] at g
  rw [← hs] at sx sK ⊢
  generalize eT x m = T at *
  -- s ≤ (s + h (1 + 2 x s)) q
  have q0 : 1 - t - 2 * (t * t) ≤ q := by grind
  have tt : t * t ≤ t * (h * (2 * Y + 1)) := Rat.mul_le_mul_of_nonneg_left ta t0
  have A0 : 0 ≤ 2 * Y + 1 := by grind
  have tt2 : t * t ≤ 1 / 16 := by
    have := Rat.mul_le_mul_of_nonneg_left t4 t0; grind
  have q1 : 0 ≤ q := by grind
  have key : s ≤ (s + h * (1 + 2 * x * s)) * q := eF_key hx hh hY sx sK h1 ht t0 t4 h3 q0
  have v0 : 0 ≤ v := by grind
  have k1 := Rat.mul_le_mul_of_nonneg_right key v0
  -- with the growth of the series
  have g2 : s + h * (1 + 2 * x * s) ≤ s' + T * (2 * x * h) := by grind
  have vq := Rat.mul_nonneg v0 q1
  have k2 := Rat.mul_le_mul_of_nonneg_right g2 vq
  have qle : q ≤ 1 := by
    have u := lit2
    have tt3 : t * t ≤ t * (1 / 4) := Rat.mul_le_mul_of_nonneg_left t4 t0
    grind
  have w0 := Rat.mul_nonneg (Rat.mul_nonneg (Rat.mul_nonneg hx (Rat.le_of_lt hh)) T0) v0
  have w1 := Rat.mul_le_mul_of_nonneg_left qle w0
  have r1 : (s + h * (1 + 2 * x * s)) * q * v = (s + h * (1 + 2 * x * s)) * (v * q) := by grind
  have r2 : (s' + T * (2 * x * h)) * (v * q) = s' * (v * q) + 2 * (x * h * T * v * q) := by grind
  rw [r1] at k1
  rw [r2] at k2
  have r3 : T * (2 * x * h) * v = 2 * (x * h * T * v * 1) := by grind
  have r4 : (v * q - vt) * s' = s' * (v * q) - s' * vt := by grind
  show s * v ≤ s' * vt + (T * (2 * x * h) * v + (v * q - vt) * s')
  rw [r3, r4]
  generalize s' * (v * q) = g1 at *
  generalize x * h * T * v * q = g2 at *
  generalize x * h * T * v * 1 = g3 at *
  generalize (s + h * (1 + 2 * x * s)) * (v * q) = g4 at *
  generalize s * v = g5 at *
  generalize s' * vt = g6 at *
  clear key r1 r2 r3 r4 g hz1 hz2 hz3 hadd
  grind
/-- The error function is not less where the number is more. -/
theorem eF_mono {x y : Rat} (hx : 0 ≤ x) (hxy : x ≤ y) : ∃ z, Null z ∧ ∃ N, ∀ M, N ≤ M → eF x M ≤ eF y M + z M := by
  by_cases heq : x = y
  · subst heq
    exact ⟨_, null_zero, 0, fun M _ => by grind⟩
  have hlt : 0 < y - x := by grind
  have hy : 0 ≤ y := by grind
  obtain ⟨K, k0, hK⟩ := eS_bdd hy
  obtain ⟨C, hC⟩ : ∃ C, C = (y - x) * (1 + 4 * (2 * y + 1) + 2 * (K * (1 + 8 * ((2 * y + 1) * (2 * y + 1))))) := ⟨_, rfl⟩
  obtain ⟨n, hn⟩ := rat_nat C
  have n0 : (0 : Rat) < (n : Rat) + 1 := pos1 n
  obtain ⟨h, hh⟩ : ∃ h, h = (y - x) / ((n : Rat) + 1) := ⟨_, rfl⟩
  have hm : h * ((n : Rat) + 1) = y - x := by rw [hh]; exact rdm n0
  have h0 : 0 < h := by rw [hh]; exact rdiv_pos hlt n0
  have A0 : 0 ≤ 2 * y + 1 := by grind
  have AA := Rat.mul_nonneg A0 A0
  have P0 : 0 ≤ K * (1 + 8 * ((2 * y + 1) * (2 * y + 1))) := Rat.mul_nonneg k0 (by grind)
  have hc : h * (1 + 4 * (2 * y + 1) + 2 * (K * (1 + 8 * ((2 * y + 1) * (2 * y + 1))))) ≤ 1 := by
    have h2 := hn.2
    refine Rat.le_of_mul_le_mul_left (c := (n : Rat) + 1) ?_ n0
    have e : ((n : Rat) + 1) * (h * (1 + 4 * (2 * y + 1) + 2 * (K * (1 + 8 * ((2 * y + 1) * (2 * y + 1)))))) = C := by rw [hC, ← hm]; grind
    rw [e]; grind
  have c1 := Rat.mul_nonneg (Rat.le_of_lt h0) A0
  have c2 := Rat.mul_nonneg (Rat.le_of_lt h0) P0
  have hs : h * (1 + 4 * (2 * y + 1) + 2 * (K * (1 + 8 * ((2 * y + 1) * (2 * y + 1))))) = h + 4 * (h * (2 * y + 1)) + 2 * (h * (K * (1 + 8 * ((2 * y + 1) * (2 * y + 1))))) := by grind
  rw [hs] at hc
  have step : ∀ i : Nat, i ≤ n + 1 → ∃ z, Null z ∧ ∃ N, ∀ M, N ≤ M → eF x M ≤ eF (x + (i : Rat) * h) M + z M := by
    intro i
    induction i with
    | zero =>
      intro _
      refine ⟨_, null_zero, 0, fun M _ => ?_⟩
      have e : x + ((0 : Nat) : Rat) * h = x := by grind
      rw [e]; grind
    | succ i ih =>
      intro hi
      obtain ⟨z1, hz1, N1, h1⟩ := ih (by omega)
      have i0 : (0 : Rat) ≤ (i : Rat) := by exact_mod_cast Nat.zero_le i
      have i1 : (i : Rat) + 1 ≤ (n : Rat) + 1 := by exact_mod_cast hi
      have p0 := Rat.mul_nonneg i0 (Rat.le_of_lt h0)
      have p1 := Rat.mul_le_mul_of_nonneg_right i1 (Rat.le_of_lt h0)
      have e1 : x + (i : Rat) * h + h = x + ((i + 1 : Nat) : Rat) * h := by
        have : ((i + 1 : Nat) : Rat) = (i : Rat) + 1 := by push_cast; rfl
        rw [this]; grind
      have hy2 : x + (i : Rat) * h + h ≤ y := by grind
      obtain ⟨z2, hz2, N2, h2⟩ := eF_step (x := x + (i : Rat) * h) (h := h) (Y := y) (K := K) (by grind) h0 hy2 k0 (fun M => Rat.le_trans (eS_mono (by grind) (by grind) M) (hK M)) (by grind) (by grind) (by grind)
      rw [e1] at h2
      refine ⟨_, hz1.add hz2, N1 + N2, fun M hM => ?_⟩
      have a := h1 M (by omega)
      have b := h2 M (by omega)
      grind
  obtain ⟨z, hz, N, h9⟩ := step (n + 1) (Nat.le_refl _)
  have e : x + ((n + 1 : Nat) : Rat) * h = y := by
    have : ((n + 1 : Nat) : Rat) = (n : Rat) + 1 := by push_cast; rfl
    rw [this]; grind
  rw [e] at h9
  exact ⟨z, hz, N, h9⟩
end Go.Proofs.Ytgmnknmjainabab.Ex
