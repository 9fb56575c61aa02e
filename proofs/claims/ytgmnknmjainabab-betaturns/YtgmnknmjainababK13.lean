/-
  Texts Ways, DivM, RootW, Two, Over, OverN, MasM, MasI, RisM, DivB, DivC: what they hold is told in the last text.
-/
import Derived.Test.YtgmnknmjainababK12
set_option linter.unnecessarySimpa false
set_option linter.unusedSimpArgs false
set_option linter.unusedVariables false
namespace Go.Proofs.Ytgmnknmjainabab
open Go.RowKit
attribute [local go_sem ↓] Go.wp_at_zero Go.wp_at_succ
structure LwC (w : World) (B : Nat) (k p q r s : Int) : Prop where
  c0 : w.cell? ⟨B, 0, none⟩ = some (.int .i64 k)
  c1 : w.cell? ⟨B, 1, none⟩ = some (.int .i64 p)
  c2 : w.cell? ⟨B, 2, none⟩ = some (.int .i64 q)
  c3 : w.cell? ⟨B, 3, none⟩ = some (.int .i64 r)
  c4 : w.cell? ⟨B, 4, none⟩ = some (.int .i64 s)
theorem LwC.lt {w : World} {B : Nat} {k p q r s : Int} (h : LwC w B k p q r s) : B < w.heap.size := World.block_lt_of_cell? w ⟨B, 0, none⟩ h.c0
theorem LwC.below {w w' : World} {B : Nat} {k p q r s : Int} (h : LwC w B k p q r s) (hb : Below w.heap.size w w') : LwC w' B k p q r s :=
  ⟨(hb.cell (p := ⟨B, 0, none⟩) h.lt).trans h.c0, (hb.cell (p := ⟨B, 1, none⟩) h.lt).trans h.c1, (hb.cell (p := ⟨B, 2, none⟩) h.lt).trans h.c2, (hb.cell (p := ⟨B, 3, none⟩) h.lt).trans h.c3, (hb.cell (p := ⟨B, 4, none⟩) h.lt).trans h.c4⟩
theorem LwC.off {w : World} {B B' : Nat} {k p q r s : Int} (h : LwC w B k p q r s) (hne : B ≠ B') (u0 u1 : Value) : LwC ((w.setCell ⟨B', 0, none⟩ u0).setCell ⟨B', 1, none⟩ u1) B k p q r s := by
  obtain ⟨q0, q1, q2, q3, q4⟩ := h
  constructor <;> simp [go_sem, q0, q1, q2, q3, q4, hne, Ne.symm hne]
end Go.Proofs.Ytgmnknmjainabab
namespace Go.Proofs.Ytgmnknmjainabab
open Go.RowKit
theorem div_le_div_pos {a p q : Int} (hp : 0 < p) (hpq : p ≤ q) (ha : 0 ≤ a) : a / q ≤ a / p := by
  have hq : 0 < q := by omega
  have h0 : 0 ≤ a / q := Int.ediv_nonneg ha (by omega)
  rw [Int.le_ediv_iff_mul_le hp]
  have h1 := Int.ediv_mul_le a (show q ≠ 0 by omega)
  have h2 := Int.mul_le_mul_of_nonneg_left hpq h0
  omega
theorem div_le_div_neg {a p q : Int} (hp : 0 < p) (hpq : p ≤ q) (ha : a ≤ 0) : a / p ≤ a / q := by
  have hq : 0 < q := by omega
  have h0 : a / p ≤ 0 := by
    have := Int.ediv_le_ediv hp ha
    simpa using this
  rw [Int.le_ediv_iff_mul_le hq]
  have h1 := Int.ediv_mul_le a (show p ≠ 0 by omega)
  have h2 := Int.mul_le_mul_of_nonneg_left hpq (show 0 ≤ -(a / p) by omega)
  rw [Int.neg_mul, Int.neg_mul] at h2
  omega
theorem over_least {l h p q : Int} (hlh : l ≤ h) (hp : 0 < p) (hpq : p ≤ q) :
    leastZ (pr4 (l / p) (l / q) (h / p) (h / q)) 3 = if l < 0 then l / p else l / q := by
  have m1 : l / p ≤ h / p := Int.ediv_le_ediv hp hlh
  have m2 : l / q ≤ h / q := Int.ediv_le_ediv (by omega) hlh
  have d1 : 0 ≤ l → l / q ≤ l / p := div_le_div_pos hp hpq
  have d2 : l ≤ 0 → l / p ≤ l / q := div_le_div_neg hp hpq
  have d3 : 0 ≤ h → h / q ≤ h / p := div_le_div_pos hp hpq
  have d4 : h ≤ 0 → h / p ≤ h / q := div_le_div_neg hp hpq
  simp only [leastZ, pr4]
  simp
  generalize l / p = A at *
  generalize l / q = B at *
  generalize h / p = C at *
  generalize h / q = D at *
  split <;> split <;> split <;> split <;> omega
theorem over_most {l h p q : Int} (hlh : l ≤ h) (hp : 0 < p) (hpq : p ≤ q) :
    mostZ (pr4 (-(-l / p)) (-(-l / q)) (-(-h / p)) (-(-h / q))) 3 = if h < 0 then -(-h / q) else -(-h / p) := by
  have m1 : -h / p ≤ -l / p := Int.ediv_le_ediv hp (by omega)
  have m2 : -h / q ≤ -l / q := Int.ediv_le_ediv (by omega) (by omega)
  have d1 : 0 ≤ -l → -l / q ≤ -l / p := div_le_div_pos hp hpq
  have d2 : -l ≤ 0 → -l / p ≤ -l / q := div_le_div_neg hp hpq
  have d3 : 0 ≤ -h → -h / q ≤ -h / p := div_le_div_pos hp hpq
  have d4 : -h ≤ 0 → -h / p ≤ -h / q := div_le_div_neg hp hpq
  simp only [mostZ, pr4]
  simp
  generalize -l / p = A at *
  generalize -l / q = B at *
  generalize -h / p = C at *
  generalize -h / q = D at *
  split <;> split <;> split <;> split <;> omega
def rtN : Nat → Nat
  | 0 => 0
  | n + 1 => if (rtN n + 1) * (rtN n + 1) ≤ n + 1 then rtN n + 1 else rtN n
def rtZ (x : Int) : Int := (rtN x.toNat : Int)
theorem rtN_spec (n : Nat) : rtN n * rtN n ≤ n ∧ n < (rtN n + 1) * (rtN n + 1) := by
  induction n with
  | zero => simp [rtN]
  | succ n ih =>
    unfold rtN
    split
    · rename_i h
      refine ⟨h, ?_⟩
      have e : (rtN n + 1 + 1) * (rtN n + 1 + 1) = (rtN n + 1) * (rtN n + 1) + 2 * (rtN n + 1) + 1 := by
        rw [Nat.add_mul, Nat.mul_add]; omega
      omega
    · rename_i h
      exact ⟨by omega, by omega⟩
theorem rtZ_nonneg (x : Int) : 0 ≤ rtZ x := by unfold rtZ; omega
theorem rtZ_sq {x : Int} (h : 0 ≤ x) : rtZ x * rtZ x ≤ x ∧ x < (rtZ x + 1) * (rtZ x + 1) := by
  obtain ⟨h1, h2⟩ := rtN_spec x.toNat
  unfold rtZ
  have h3 : ((rtN x.toNat * rtN x.toNat : Nat) : Int) ≤ (x.toNat : Int) := by exact_mod_cast h1
  have h4 : (x.toNat : Int) < (((rtN x.toNat + 1) * (rtN x.toNat + 1) : Nat) : Int) := by exact_mod_cast h2
  rw [Int.toNat_of_nonneg h] at h3 h4
  push_cast at h3 h4
  exact ⟨h3, h4⟩
theorem RootOf.eq {x z : Int} (h : RootOf x z) : z = rtZ x := by
  obtain ⟨h1, h2, h3⟩ := h
  rcases Int.lt_or_le 0 x with hx | hx
  · obtain ⟨h4, h5⟩ := rtZ_sq (x := x) (by omega)
    exact root_uniq h1 (rtZ_nonneg x) (h3 hx).1 (h3 hx).2 h4 h5
  · rw [h2 hx]; unfold rtZ; rw [show x.toNat = 0 by omega]; rfl
end Go.Proofs.Ytgmnknmjainabab
namespace Go.Proofs.Ytgmnknmjainabab
open Go.RowKit
attribute [local go_sem ↓] Go.wp_at_zero Go.wp_at_succ
theorem cell_put2 {w : World} {B B' o : Nat} {v : Option Value} (h : w.cell? ⟨B, o, none⟩ = v) (hne : B ≠ B') (u0 u1 : Value) : ((w.setCell ⟨B', 0, none⟩ u0).setCell ⟨B', 1, none⟩ u1).cell? ⟨B, o, none⟩ = v := by
  have ne : ∀ i : Nat, (⟨B', i, none⟩ : Addr) ≠ ⟨B, o, none⟩ := fun i e => hne (by injection e with e1; exact e1.symm)
  rw [World.cell?_setCell_other _ _ _ _ (ne 1), World.cell?_setCell_other _ _ _ _ (ne 0)]
  exact h
theorem cell_put5' {w : World} {B B' o : Nat} {v : Option Value} (h : w.cell? ⟨B, o, none⟩ = v) (hne : B ≠ B') (u0 u1 u2 u3 u4 : Value) :
    (((((w.setCell ⟨B', 0, none⟩ u0).setCell ⟨B', 1, none⟩ u1).setCell ⟨B', 2, none⟩ u2).setCell ⟨B', 3, none⟩ u3).setCell ⟨B', 4, none⟩ u4).cell? ⟨B, o, none⟩ = v := by
  have ne : ∀ i : Nat, (⟨B', i, none⟩ : Addr) ≠ ⟨B, o, none⟩ := fun i e => hne (by injection e with e1; exact e1.symm)
  rw [World.cell?_setCell_other _ _ _ _ (ne 4), World.cell?_setCell_other _ _ _ _ (ne 3), World.cell?_setCell_other _ _ _ _ (ne 2), World.cell?_setCell_other _ _ _ _ (ne 1), World.cell?_setCell_other _ _ _ _ (ne 0)]
  exact h
theorem SpC.put2 {w : World} {B B' : Nat} {s : Sp} (h : SpC w B s) (hne : B ≠ B') (u0 u1 : Value) : SpC ((w.setCell ⟨B', 0, none⟩ u0).setCell ⟨B', 1, none⟩ u1) B s :=
  ⟨cell_put2 h.c0 hne _ _, cell_put2 h.c1 hne _ _, cell_put2 h.c2 hne _ _, cell_put2 h.c3 hne _ _, cell_put2 h.c4 hne _ _⟩
theorem NmC.put2 {w : World} {B B' : Nat} {x : Nm} (h : NmC w B x) (hne : B ≠ B') (u0 u1 : Value) : NmC ((w.setCell ⟨B', 0, none⟩ u0).setCell ⟨B', 1, none⟩ u1) B x :=
  ⟨cell_put2 h.c0 hne _ _, cell_put2 h.c1 hne _ _⟩
theorem NoC.put2 {w : World} {B B' : Nat} (h : NoC w B) (hne : B ≠ B') (u0 u1 : Value) : NoC ((w.setCell ⟨B', 0, none⟩ u0).setCell ⟨B', 1, none⟩ u1) B := by
  obtain ⟨q0, q1, q2, q3, q4, q5⟩ := h
  exact ⟨cell_put2 q0 hne _ _, cell_put2 q1 hne _ _, cell_put2 q2 hne _ _, cell_put2 q3 hne _ _, cell_put2 q4 hne _ _, fun o => by rw [frozen_set', frozen_set']; exact q5 o⟩
theorem SpAt.put2 {w : World} {s : Sp} {k : Nat} {lo hi : Int} (h : SpAt w s k lo hi) {B : Nat} {x0 : Bool} {y0 : Option Addr} {y1 y2 : Nat} (h0 : w.cell? ⟨B, 0, none⟩ = some (.bool x0)) (h1 : w.cell? ⟨B, 1, none⟩ = some (.slice y0 y1 y2)) (u0 u1 : Value) :
    SpAt ((w.setCell ⟨B, 0, none⟩ u0).setCell ⟨B, 1, none⟩ u1) s k lo hi := ⟨h.lo.put2 h0 h1 _ _, h.hi.put2 h0 h1 _ _⟩
end Go.Proofs.Ytgmnknmjainabab
namespace Go.Proofs.Ytgmnknmjainabab
open Go.RowKit
theorem hs1 (w : World) (o1 : Obj) : (w.alloc o1).heap.size = w.heap.size + 1 := by simp
variable {W w2 : World} {k1 k2 : Nat} {z1 z2 : Int} {x y : Nm} {T : TypeId}
end Go.Proofs.Ytgmnknmjainabab
namespace Go.Proofs.Ytgmnknmjainabab
open Go.RowKit
attribute [local go_sem ↓] Go.wp_at_zero Go.wp_at_succ
def ovLo (l h p q : Int) : Int := if l < 0 then l / p else l / q
def ovHi (l h p q : Int) : Int := if h < 0 then -(-h / q) else -(-h / p)
structure OVs (w wr : World) (s t : Sp) (k k1 k2 BL CL BM CM : Nat) (xL yL xM yM : Nm) (lo' hi' l h m n : Int) : Prop where
  A : SpC wr w.heap.size s
  G : SpC wr (w.heap.size + 1) t
  R : NoC wr (w.heap.size + 1 + 1)
  XL : NmC wr BL xL
  YL : NmC wr CL yL
  XM : NmC wr BM xM
  YM : NmC wr CM yM
  il : IntAt wr xL.neg xL.a xL.n xL.cap k1 l
  ih : IntAt wr yL.neg yL.a yL.n yL.cap k1 h
  im : IntAt wr xM.neg xM.a xM.n xM.cap k2 m
  jn : IntAt wr yM.neg yM.a yM.n yM.cap k2 n
  ht : SpAt wr t k lo' hi'
  fM : ∀ o, wr.frozen? ⟨BM, o, none⟩ = false
  fN : ∀ o, wr.frozen? ⟨CM, o, none⟩ = false
  hB : Below w.heap.size w wr
variable {w wr w' : World} {s t : Sp} {k k1 k2 BL CL BM CM : Nat} {xL yL xM yM : Nm} {lo' hi' l h m n : Int}
theorem OVs.below (D : OVs w wr s t k k1 k2 BL CL BM CM xL yL xM yM lo' hi' l h m n) (hb : Below wr.heap.size wr w') : OVs w w' s t k k1 k2 BL CL BM CM xL yL xM yM lo' hi' l h m n :=
  ⟨D.A.below hb, D.G.below hb, D.R.below hb, D.XL.below hb, D.YL.below hb, D.XM.below hb, D.YM.below hb, D.il.below hb, D.ih.below hb, D.im.below hb, D.jn.below hb, D.ht.below hb, fun o => (hb.frozen (p := ⟨BM, o, none⟩) D.XM.lt).trans (D.fM o), fun o => (hb.frozen (p := ⟨CM, o, none⟩) D.YM.lt).trans (D.fN o), bthen D.hB hb⟩
end Go.Proofs.Ytgmnknmjainabab
namespace Go.Proofs.Ytgmnknmjainabab
open Go.RowKit
attribute [local go_sem ↓] Go.wp_at_zero Go.wp_at_succ
def dvLo (lo hi lo' hi' : Int) (b : Nat) : Int := if hi' < 0 then ovLo (-hi * Q b) (-lo * Q b) (-hi') (-lo') else ovLo (lo * Q b) (hi * Q b) lo' hi'
def dvHi (lo hi lo' hi' : Int) (b : Nat) : Int := if hi' < 0 then ovHi (-hi * Q b) (-lo * Q b) (-hi') (-lo') else ovHi (lo * Q b) (hi * Q b) lo' hi'
end Go.Proofs.Ytgmnknmjainabab
namespace Go.Proofs.Ytgmnknmjainabab
open Ex
def fall (n : Int) : Nat → Int
  | 0 => 1
  | k + 1 => fall n k * (n - k)
namespace Ex
theorem lin_le {L y c d a t : Rat} (h1 : L * c ≤ a) (h2 : L * d ≤ a) (g1 : c - t ≤ y) (g2 : y ≤ d + t) (k : Rat) (k1 : L ≤ k) (k2 : -L ≤ k) (ht : 0 ≤ t) : L * y ≤ a + k * t := by
  by_cases hL : 0 ≤ L
  · have := Rat.mul_nonneg hL (show 0 ≤ d + t - y by grind)
    have := Rat.mul_nonneg (show 0 ≤ k - L by grind) ht
    grind
  · have := Rat.mul_nonneg (show 0 ≤ -L by grind) (show 0 ≤ y - (c - t) by grind)
    have := Rat.mul_nonneg (show 0 ≤ k + L by grind) ht
    grind
theorem Has.div {a b c d L U : Rat} {x y : Nat → Rat} (h : Has a b x) (k : Has c d y) (hc : 0 < c) (h1 : L * c ≤ a) (h2 : L * d ≤ a) (h3 : b ≤ U * c) (h4 : b ≤ U * d) : Has L U (fun M => x M / y M) := fun e he => by
  obtain ⟨m, m0, m1, m2, m3, m4⟩ : ∃ m : Rat, 0 < m ∧ L ≤ m ∧ -L ≤ m ∧ U ≤ m ∧ -U ≤ m := by
    refine ⟨1 + (if 0 ≤ L then L else -L) + (if 0 ≤ U then U else -U), ?_, ?_, ?_, ?_, ?_⟩ <;> split <;> split <;> grind
  have m5 : (0 : Rat) < 2 * (1 + m) := by grind
  have hec : 0 < e * c := Rat.mul_pos he hc
  obtain ⟨t, t0, t1, t2⟩ : ∃ t : Rat, 0 < t ∧ 2 * t ≤ c ∧ t * (2 * (1 + m)) ≤ e * c := by
    have f := rdm (a := e * c) m5
    have f0 := rdiv_pos hec m5
    by_cases hh : e * c / (2 * (1 + m)) ≤ c / 2
    · exact ⟨e * c / (2 * (1 + m)), f0, by grind, by grind⟩
    · refine ⟨c / 2, by grind, by grind, ?_⟩
      have := Rat.mul_nonneg (show 0 ≤ e * c / (2 * (1 + m)) - c / 2 by grind) (show 0 ≤ 2 * (1 + m) by grind)
      grind
  obtain ⟨N1, g1⟩ := h t t0
  obtain ⟨N2, g2⟩ := k t t0
  refine ⟨N1 + N2, fun M hM => ?_⟩
  obtain ⟨p1, p2⟩ := g1 M (by omega)
  obtain ⟨q1, q2⟩ := g2 M (by omega)
  have y0 : 0 < y M := by grind
  have ey : e * c ≤ 2 * (e * y M) := by
    have := Rat.mul_nonneg (Rat.le_of_lt he) (show 0 ≤ 2 * y M - c by grind)
    grind
  constructor
  · refine rle_div y0 ?_
    have := lin_le h1 h2 q1 q2 m m1 m2 (Rat.le_of_lt t0)
    grind
  · refine rdiv_le y0 ?_
    have := lin_le (L := -U) (a := -b) (by grind) (by grind) q1 q2 m (by grind) (by grind) (Rat.le_of_lt t0)
    grind
end Ex
theorem Iv.div {B : Nat} {s t : Int × Int} {x y : Nat → Rat} (h : Iv B s x) (k : Iv B t y) (h0 : 0 < t.1) {lo hi : Int} (h1 : lo * t.1 ≤ s.1 * Q B) (h2 : lo * t.2 ≤ s.1 * Q B) (h3 : s.2 * Q B ≤ hi * t.1) (h4 : s.2 * Q B ≤ hi * t.2) : Iv B (lo, hi) (fun M => x M / y M) := by
  have q := Qr_pos B
  have t0 : (0 : Rat) < (t.1 : Rat) := by exact_mod_cast h0
  have key : ∀ {u v z : Int}, u * v ≤ z * Q B → (u : Rat) / (Q B : Rat) * ((v : Rat) / (Q B : Rat)) ≤ (z : Rat) / (Q B : Rat) := fun {u v z} hh => mul_hi (by have := Q_pos B; omega) hh
  have key2 : ∀ {u v z : Int}, z * Q B ≤ u * v → (z : Rat) / (Q B : Rat) ≤ (u : Rat) / (Q B : Rat) * ((v : Rat) / (Q B : Rat)) := fun {u v z} hh => mul_lo (by have := Q_pos B; omega) hh
  exact Has.div h k (rdiv_pos t0 q) (key h1) (key h2) (key2 h3) (key2 h4)
theorem dv_pos {lo hi lo' hi' : Int} {b : Nat} (h0 : 0 ≤ lo) (h1 : lo ≤ hi) (h2 : 0 < lo') (h3 : lo' ≤ hi') : dvLo lo hi lo' hi' b = lo * Q b / hi' ∧ dvHi lo hi lo' hi' b = -(-(hi * Q b) / lo') := by
  have q := Q_pos b
  have p1 := Int.mul_nonneg h0 (show 0 ≤ Q b by omega)
  have p2 := Int.mul_nonneg (show 0 ≤ hi by omega) (show 0 ≤ Q b by omega)
  unfold dvLo dvHi ovLo ovHi
  rw [if_neg (by omega), if_neg (by omega), if_neg (by omega), if_neg (by omega)]
  exact ⟨rfl, rfl⟩
theorem dv_ceil (a : Int) {d : Int} (hd : 0 < d) : a ≤ -(-a / d) * d := by
  have := Int.ediv_mul_le (-a) (show d ≠ 0 by omega)
  rw [Int.neg_mul]; omega
theorem dv_floor (a : Int) {d : Int} (hd : 0 < d) : a / d * d ≤ a := Int.ediv_mul_le a (by omega)
theorem Iv.dv {B : Nat} {s t : Int × Int} {x y : Nat → Rat} (h : Iv B s x) (k : Iv B t y) (hs : 0 ≤ s.1) (h0 : 0 < t.1) : Iv B (dvLo s.1 s.2 t.1 t.2 B, dvHi s.1 s.2 t.1 t.2 B) (fun M => x M / y M) := by
  have hs2 := h.le
  have ht2 := k.le
  have q := Q_pos B
  obtain ⟨e1, e2⟩ := dv_pos (b := B) hs hs2 h0 ht2
  rw [e1, e2]
  have p1 := Int.mul_nonneg hs (show 0 ≤ Q B by omega)
  have l0 : 0 ≤ s.1 * Q B / t.2 := Int.ediv_nonneg p1 (by omega)
  have f1 := dv_floor (s.1 * Q B) (show 0 < t.2 by omega)
  have f2 := dv_ceil (s.2 * Q B) h0
  have p2 := Int.mul_nonneg (show 0 ≤ s.2 by omega) (show 0 ≤ Q B by omega)
  have u0 : 0 ≤ -(-(s.2 * Q B) / t.1) := by
    have : -(s.2 * Q B) / t.1 ≤ 0 := Int.ediv_nonpos_of_nonpos_of_neg (by omega) h0
    omega
  have g1 := Int.mul_le_mul_of_nonneg_left ht2 l0
  have g2 := Int.mul_le_mul_of_nonneg_left ht2 u0
  exact h.div k h0 (by omega) f1 f2 (by omega)
end Go.Proofs.Ytgmnknmjainabab
namespace Go.Proofs.Ytgmnknmjainabab
open Ex
theorem mulI_nonneg {B : Nat} {a b : Int × Int} (ha : 0 ≤ a.1) (ha2 : 0 ≤ a.2) (hb : 0 ≤ b.1) (hb2 : 0 ≤ b.2) : 0 ≤ (mulI B a b).1 := by
  have q := Q_pos B
  obtain ⟨_, _, _, _, h⟩ := least4 (a.1 * b.1) (a.1 * b.2) (a.2 * b.1) (a.2 * b.2)
  have p1 := Int.mul_nonneg ha hb
  have p2 := Int.mul_nonneg ha hb2
  have p3 := Int.mul_nonneg ha2 hb
  have p4 := Int.mul_nonneg ha2 hb2
  exact Int.ediv_nonneg (by omega) (by omega)
theorem expT_nonneg {B : Nat} {sm : Int × Int} (h : 0 ≤ sm.1) (h2 : sm.1 ≤ sm.2) (n : Nat) : 0 ≤ (expT B sm n).1 := by
  induction n with
  | zero => have := Q_pos B; show 0 ≤ Q B; omega
  | succ n ih =>
    have hl := expT_le B sm n
    have h3 := mulI_nonneg (B := B) (a := expT B sm n) (b := sm) ih (by omega) h (by omega)
    show 0 ≤ (scaleI (mulI B (expT B sm n) sm) 1 ((n : Int) + 1)).1
    unfold scaleI
    exact Int.ediv_nonneg (by omega) (by omega)
theorem sumI_low {B : Nat} {sm : Int × Int} (h : 0 ≤ sm.1) (h2 : sm.1 ≤ sm.2) (n : Nat) : Q B ≤ (sumI (expT B sm) n).1 := by
  induction n with
  | zero => exact Int.le_refl _
  | succ n ih =>
    have := expT_nonneg (B := B) h h2 (n + 1)
    show Q B ≤ (addI (sumI (expT B sm) n) (expT B sm (n + 1))).1
    unfold addI
    simp only []
    omega
theorem done_low {B N : Nat} {sm : Int × Int} (h : 0 ≤ sm.1) (h2 : sm.1 ≤ sm.2) (hN : IsStop (expT B sm) N) : Q B - 1 ≤ (doneI (expT B sm) N).1 := by
  have h3 := sumI_low (B := B) h h2 N
  have h4 := hN.1
  unfold doneI addI
  simp only []
  omega
theorem sq_low {B : Nat} {d : Int × Int} (hd : d.1 ≤ d.2) (t : Nat) (hq : Q t ≤ Q B) (h : Q B - 1 ≤ d.1) : Q B - Q t ≤ (sqI B d t).1 ∧ (sqI B d t).1 ≤ (sqI B d t).2 := by
  have q := Q_pos B
  induction t with
  | zero => exact ⟨h, hd⟩
  | succ t ih =>
    have e : Q (t + 1) = 2 * Q t := rfl
    have qt := Q_pos t
    obtain ⟨i1, i2⟩ := ih (by omega)
    refine ⟨?_, mulI_le B⟩
    show Q B - Q (t + 1) ≤ (mulI B (sqI B d t) (sqI B d t)).1
    generalize sqI B d t = a at *
    obtain ⟨_, _, _, _, hh⟩ := least4 (a.1 * a.1) (a.1 * a.2) (a.2 * a.1) (a.2 * a.2)
    have c0 : 0 ≤ a.1 := by omega
    have m1 := Int.mul_le_mul_of_nonneg_left i2 c0
    have m2 := Int.mul_le_mul_of_nonneg_right i2 c0
    have m3 := Int.mul_le_mul i2 i2 c0 (by omega)
    have m4 := Int.mul_le_mul i1 i1 (by omega) c0
    have e2 : (Q B - Q t) * (Q B - Q t) = (Q B - 2 * Q t) * Q B + Q t * Q t := by grind
    have m5 := Int.mul_nonneg (show 0 ≤ Q t by omega) (show 0 ≤ Q t by omega)
    have m6 : (Q B - Q (t + 1)) * Q B ≤ leastZ (pr4 (a.1 * a.1) (a.1 * a.2) (a.2 * a.1) (a.2 * a.2)) 3 := by rw [e]; omega
    exact Int.le_ediv_of_mul_le (by omega) m6
theorem one_iv (B : Nat) : Iv B (Q B, Q B) (fun _ => 1) := by
  have h := (Iv.of B (n := 1) (d := 1) (by decide))
  have e : ofI 1 1 B = (Q B, Q B) := by unfold ofI; simp only [Int.ediv_one, Int.neg_neg, Int.one_mul]
  rw [e] at h
  have e2 : ((1 : Int) : Rat) / ((1 : Int) : Rat) = 1 := by decide +kernel
  rw [e2] at h
  exact h
theorem Iv.cap {B : Nat} {a : Int × Int} {x : Nat → Rat} (h : Iv B a x) (N0 : Nat) (hx : ∀ M, N0 ≤ M → x M ≤ 1) : Iv B (a.1, if a.2 ≤ Q B then a.2 else Q B) x := by
  split
  · exact h
  · intro e he
    obtain ⟨N, hN⟩ := h e he
    refine ⟨N + N0, fun M hM => ?_⟩
    have g := (hN M (by omega)).1
    have g2 := hx M (by omega)
    have q := Qr_pos B
    have e1 : (Q B : Rat) / (Q B : Rat) = 1 := by rw [Rat.div_def, Rat.mul_inv_cancel _ (by grind)]
    simp only []
    rw [e1]
    constructor <;> grind
namespace Ex
end Ex
theorem rat_nonneg {p q : Int} (hp : 0 ≤ p) (hq : 0 < q) : (0 : Rat) ≤ (p : Rat) / (q : Rat) := by
  have q0 : (0 : Rat) < (q : Rat) := by exact_mod_cast hq
  have p0 : (0 : Rat) ≤ (p : Rat) := by exact_mod_cast hp
  refine rle_div q0 ?_
  grind
end Go.Proofs.Ytgmnknmjainabab
namespace Go.Proofs.Ytgmnknmjainabab
open Ex
def riT (a : Int × Int) (u d : Nat → Int) : Nat → Int × Int
  | 0 => a
  | n + 1 => scaleI (riT a u d n) (u (n + 1)) (d (n + 1))
def IsRise (f : Nat → Int × Int) (turn N : Nat) : Prop := turn ≤ N ∧ (f N).2 ≤ 3 ∧ ∀ j, j < N → j < turn ∨ 3 < (f j).2
def riseI (f : Nat → Int × Int) (N : Nat) : Int × Int := addI (sumI f N) (0, 9)
structure RiOk (u d : Nat → Int) : Prop where
  u0 : ∀ n, 0 ≤ u n
  d0 : ∀ n, 0 < d n
theorem riT_le {a : Int × Int} {u d : Nat → Int} (h : RiOk u d) (ha : a.1 ≤ a.2) (n : Nat) : (riT a u d n).1 ≤ (riT a u d n).2 := by
  induction n with
  | zero => exact ha
  | succ n ih => exact scaleI_le ih (h.d0 _) (h.u0 _)
theorem riT_nonneg {a : Int × Int} {u d : Nat → Int} (h : RiOk u d) (ha : 0 ≤ a.1) (n : Nat) : 0 ≤ (riT a u d n).1 := by
  induction n with
  | zero => exact ha
  | succ n ih => exact Int.ediv_nonneg (Int.mul_nonneg ih (h.u0 _)) (by have := h.d0 (n + 1); omega)
theorem dv_floor2 (a : Int) {d : Int} (hd : 0 < d) : a < (a / d + 1) * d := Int.lt_ediv_add_one_mul_self _ hd
theorem fall34 {x u d : Int} (hd : 0 < d) (hx : 0 ≤ x) (h : 4 * u ≤ 3 * d) : 4 * -(-(x * u) / d) ≤ 3 * x + 3 := by
  have h1 := Int.mul_le_mul_of_nonneg_left h hx
  have h2 := dv_floor2 (-(x * u)) hd
  refine Int.not_lt.1 fun hn => ?_
  obtain ⟨c, hc⟩ : ∃ c, c = -(-(x * u) / d) := ⟨_, rfl⟩
  have h3 : (c - 1) * d < x * u := by
    have e : (-(x * u) / d + 1) * d = -((c - 1) * d) := by rw [hc]; grind
    omega
  rw [← hc] at hn
  have h4 := Int.mul_le_mul_of_nonneg_right (show 3 * x + 4 ≤ 4 * c by omega) (show 0 ≤ d by omega)
  have e1 : (3 * x + 4) * d = 3 * x * d + 4 * d := by grind
  have e2 : 4 * c * d = 4 * ((c - 1) * d) + 4 * d := by grind
  have e3 : x * (4 * u) = 4 * (x * u) := by grind
  have e4 : x * (3 * d) = 3 * x * d := by grind
  omega
theorem rise_steps {g : Nat → Int} (h : ∀ j, 4 * g (j + 1) ≤ 3 * g j + 3) : ∀ (H j : Nat), g j - 3 < Q H → ∃ i, i ≤ j + 3 * H ∧ j ≤ i ∧ g i ≤ 3 := by
  intro H
  induction H with
  | zero =>
    intro j hj
    have e : Q 0 = 1 := rfl
    exact ⟨j, by omega, Nat.le_refl _, by omega⟩
  | succ H ih =>
    intro j hj
    have e : Q (H + 1) = 2 * Q H := rfl
    have q := Q_pos H
    have h1 := h j
    have h2 := h (j + 1)
    have h3 := h (j + 2)
    obtain ⟨i, i1, i2, i3⟩ := ih (j + 3) (by rw [show j + 3 = j + 2 + 1 by omega]; rw [show j + 2 = j + 1 + 1 by omega] at *; omega)
    exact ⟨i, by omega, by omega, i3⟩
theorem rise_ex {a : Int × Int} {u d : Nat → Int} {turn H : Nat} (h : RiOk u d) (ha : 0 ≤ a.1) (hl : a.1 ≤ a.2) (h34 : ∀ n, turn ≤ n → 4 * u (n + 1) ≤ 3 * d (n + 1)) (hH : (riT a u d turn).2 - 3 < Q H) : ∃ N, N ≤ turn + 3 * H ∧ IsRise (riT a u d) turn N := by
  have hg : ∀ j, 4 * (riT a u d (turn + (j + 1))).2 ≤ 3 * (riT a u d (turn + j)).2 + 3 := fun j => by
    have h0 := riT_nonneg h ha (turn + j)
    have h1 := riT_le h hl (turn + j)
    exact fall34 (x := (riT a u d (turn + j)).2) (h.d0 (turn + j + 1)) (by omega) (h34 (turn + j) (by omega))
  obtain ⟨i, i1, i2, i3⟩ := rise_steps hg H 0 hH
  obtain ⟨N, n1, n2, n3⟩ := exists_least (p := fun N => turn ≤ N ∧ (riT a u d N).2 ≤ 3) (K := turn + i) ⟨by omega, i3⟩
  refine ⟨N, by omega, n2.1, n2.2, fun j hj => ?_⟩
  have := n3 j hj
  by_cases ht : j < turn
  · exact Or.inl ht
  · exact Or.inr (Int.not_le.1 fun hh => this ⟨by omega, hh⟩)
def riV (x : Nat → Rat) (u d : Nat → Int) : Nat → Nat → Rat
  | 0, M => x M
  | n + 1, M => (u (n + 1) : Rat) / (d (n + 1) : Rat) * riV x u d n M
theorem riT_has {B : Nat} {a : Int × Int} {x : Nat → Rat} {u d : Nat → Int} (h : RiOk u d) (hx : Iv B a x) (n : Nat) : Iv B (riT a u d n) (fun M => riV x u d n M) := by
  induction n with
  | zero => exact hx
  | succ n ih => exact ih.scale (h.u0 _) (h.d0 _)
theorem riV_nonneg {x : Nat → Rat} {u d : Nat → Int} (h : RiOk u d) {M : Nat} (hx : 0 ≤ x M) (n : Nat) : 0 ≤ riV x u d n M := by
  induction n with
  | zero => exact hx
  | succ n ih =>
    have h1 := rat_nonneg (h.u0 (n + 1)) (h.d0 (n + 1))
    exact Rat.mul_nonneg h1 ih
theorem riV_fall {x : Nat → Rat} {u d : Nat → Int} (h : RiOk u d) {M : Nat} (hx : 0 ≤ x M) {n : Nat} (h34 : 4 * u (n + 1) ≤ 3 * d (n + 1)) : 4 * riV x u d (n + 1) M ≤ 3 * riV x u d n M := by
  have h0 := riV_nonneg h hx n
  have d0 : (0 : Rat) < (d (n + 1) : Rat) := by exact_mod_cast h.d0 (n + 1)
  have h1 : (u (n + 1) : Rat) / (d (n + 1) : Rat) ≤ 3 / 4 := by
    refine rdiv_le d0 ?_
    have := cast_le h34
    rw [Rat.intCast_mul, Rat.intCast_mul, show ((4 : Int) : Rat) = 4 from rfl, show ((3 : Int) : Rat) = 3 from rfl] at this
    grind
  have h2 := Rat.mul_nonneg (show 0 ≤ 3 / 4 - (u (n + 1) : Rat) / (d (n + 1) : Rat) by grind) h0
  show 4 * ((u (n + 1) : Rat) / (d (n + 1) : Rat) * riV x u d n M) ≤ _
  grind
theorem rise_has {B N : Nat} {f : Nat → Int × Int} {g : Nat → Nat → Rat} (h : ∀ n, Iv B (f n) (fun M => g n M)) (hN : (f N).2 ≤ 3) (M0 : Nat) (h0 : ∀ M, M0 ≤ M → ∀ n, 0 ≤ g n M) (hh : ∀ M, M0 ≤ M → ∀ n, N ≤ n → 4 * g (n + 1) M ≤ 3 * g n M) : Iv B (riseI f N) (fun M => S (fun k => g k M) M) := by
  have hs : ∀ n, Iv B (sumI f n) (fun M => S (fun k => g k M) (n + 1)) := fun n => by
    induction n with
    | zero =>
      refine (h 0).congr (null_zero.of_eq fun M => ?_)
      show S (fun k => g k M) 1 - g 0 M = 0
      have e : S (fun k => g k M) 1 = 0 + g 0 M := rfl
      rw [e]; grind
    | succ n ih => exact ih.add (h (n + 1))
  have ht : ∀ M, M0 ≤ M → ∀ i, 0 ≤ S (fun k => g k M) (N + 1 + i) - S (fun k => g k M) (N + 1) ∧ S (fun k => g k M) (N + 1 + i) - S (fun k => g k M) (N + 1) + 3 * g (N + i) M ≤ 3 * g N M := fun M hM i => by
    induction i with
    | zero => constructor <;> (show _ ≤ _; simp only [Nat.add_zero]; grind)
    | succ i ih =>
      have e : S (fun k => g k M) (N + 1 + (i + 1)) = S (fun k => g k M) (N + 1 + i) + g (N + 1 + i) M := rfl
      have h1 := h0 M hM (N + 1 + i)
      have h2 := hh M hM (N + i) (by omega)
      rw [show N + i + 1 = N + 1 + i by omega] at h2
      rw [e, show N + (i + 1) = N + 1 + i by omega]
      constructor <;> grind
  have q := Qr_pos B
  intro e he
  obtain ⟨N1, g1⟩ := hs N (e / 4) (by grind)
  obtain ⟨N2, g2⟩ := h N (e / 4) (by grind)
  refine ⟨M0 + N1 + N2 + N + 1, fun M hM => ?_⟩
  obtain ⟨a1, a2⟩ := g1 M (by omega)
  obtain ⟨b1, b2⟩ := g2 M (by omega)
  obtain ⟨t1, t2⟩ := ht M (by omega) (M - (N + 1))
  have t3 := h0 M (by omega) (N + (M - (N + 1)))
  rw [show N + 1 + (M - (N + 1)) = M by omega] at t1 t2
  have c2 : ((f N).2 : Rat) / (Q B : Rat) ≤ ((3 : Int) : Rat) / (Q B : Rat) := rdiv_le q (by rw [rdm q]; exact cast_le hN)
  have e1 : (((riseI f N).1 : Int) : Rat) / (Q B : Rat) = ((sumI f N).1 : Rat) / (Q B : Rat) := by
    unfold riseI addI; simp only []; rw [Int.add_zero]
  have e2 : (((riseI f N).2 : Int) : Rat) / (Q B : Rat) = ((sumI f N).2 : Rat) / (Q B : Rat) + 3 * (((3 : Int) : Rat) / (Q B : Rat)) := by
    unfold riseI addI; simp only []
    rw [Rat.intCast_add, rdiv_add]
    congr 1
    have e9 : ((9 : Int) : Rat) = 3 * ((3 : Int) : Rat) := by decide +kernel
    rw [e9, Rat.div_def, Rat.div_def, Rat.mul_assoc]
  simp only [] at a1 a2 b1 b2
  rw [e1, e2]
  constructor <;> grind
def riS (x : Nat → Rat) (u d : Nat → Int) (M : Nat) : Rat := S (fun k => riV x u d k M) M
theorem rising_has {B N turn : Nat} {a : Int × Int} {x : Nat → Rat} {u d : Nat → Int} (h : RiOk u d) (hx : Iv B a x) (M0 : Nat) (hx0 : ∀ M, M0 ≤ M → 0 ≤ x M) (h34 : ∀ n, turn ≤ n → 4 * u (n + 1) ≤ 3 * d (n + 1)) (hN : IsRise (riT a u d) turn N) : Iv B (riseI (riT a u d) N) (riS x u d) :=
  rise_has (fun n => riT_has h hx n) hN.2.1 M0 (fun M hM n => riV_nonneg h (hx0 M hM) n) (fun M hM n hn => riV_fall h (hx0 M hM) (h34 n (Nat.le_trans hN.1 hn)))
theorem riT_wide {a : Int × Int} {u d : Nat → Int} (h : RiOk u d) (ha : 0 ≤ a.1) (hl : a.1 ≤ a.2) (h0 : 0 < a.2) {D : Int} (hD : a.2 - a.1 ≤ D) (hmono : ∀ n, d (n + 1) ≤ u (n + 1) → a.2 ≤ (riT a u d n).2) (n : Nat) :
    ((riT a u d n).2 - (riT a u d n).1) * a.2 ≤ (D + 2 * n) * (if a.2 ≤ (riT a u d n).2 then (riT a u d n).2 else a.2) := by
  have D0 : 0 ≤ D := by omega
  induction n with
  | zero =>
    show (a.2 - a.1) * a.2 ≤ (D + 2 * ((0 : Nat) : Int)) * (if a.2 ≤ a.2 then a.2 else a.2)
    rw [if_pos (Int.le_refl _)]
    exact Int.mul_le_mul_of_nonneg_right (by omega) (by omega)
  | succ n ih =>
    have hd := h.d0 (n + 1)
    have hu := h.u0 (n + 1)
    have n1 := riT_nonneg h ha n
    have n2 := riT_le h hl n
    have hmn := hmono n
    show ((scaleI (riT a u d n) (u (n + 1)) (d (n + 1))).2 - (scaleI (riT a u d n) (u (n + 1)) (d (n + 1))).1) * a.2 ≤ (D + 2 * ((n + 1 : Nat) : Int)) * (if a.2 ≤ (scaleI (riT a u d n) (u (n + 1)) (d (n + 1))).2 then (scaleI (riT a u d n) (u (n + 1)) (d (n + 1))).2 else a.2)
    generalize riT a u d n = t at *
    generalize u (n + 1) = U at *
    generalize d (n + 1) = V at *
    obtain ⟨hi, ehi⟩ : ∃ hi, hi = (scaleI t U V).2 := ⟨_, rfl⟩
    obtain ⟨lo, elo⟩ : ∃ lo, lo = (scaleI t U V).1 := ⟨_, rfl⟩
    rw [← ehi, ← elo]
    have c1 : t.2 * U ≤ hi * V := by rw [ehi]; exact dv_ceil (t.2 * U) hd
    have c2 : (hi - 1) * V < t.2 * U := by
      have h2 := dv_floor2 (-(t.2 * U)) hd
      have e : (-(t.2 * U) / V + 1) * V = -((hi - 1) * V) := by rw [ehi]; unfold scaleI; grind
      omega
    have c3 : t.1 * U < (lo + 1) * V := by rw [elo]; exact dv_floor2 (t.1 * U) hd
    have tw : (hi - lo - 2) * V ≤ (t.2 - t.1) * U := by
      have e1 : (hi - lo - 2) * V = (hi - 1) * V - (lo + 1) * V := by grind
      have e2 : (t.2 - t.1) * U = t.2 * U - t.1 * U := by grind
      omega
    have m1 := Int.mul_le_mul_of_nonneg_right tw (show 0 ≤ a.2 by omega)
    have m2 := Int.mul_le_mul_of_nonneg_right ih hu
    have C0 : 0 ≤ D + 2 * (n : Int) := by omega
    refine Int.le_of_mul_le_mul_right (a := V) ?_ hd
    have e3 : (hi - lo) * a.2 * V = (hi - lo - 2) * V * a.2 + 2 * a.2 * V := by grind
    have e4 : (t.2 - t.1) * U * a.2 = (t.2 - t.1) * a.2 * U := by grind
    have cN : (D + 2 * ((n + 1 : Nat) : Int)) = (D + 2 * (n : Int)) + 2 := by omega
    rw [cN]
    by_cases ht : a.2 ≤ t.2
    · rw [if_pos ht] at m2
      have m3 := Int.mul_le_mul_of_nonneg_left c1 C0
      have e5 : (D + 2 * (n : Int)) * t.2 * U = (D + 2 * (n : Int)) * (t.2 * U) := by grind
      by_cases hh : a.2 ≤ hi
      · rw [if_pos hh]
        have m4 := Int.mul_le_mul_of_nonneg_right hh (show 0 ≤ V by omega)
        have e6 : (D + 2 * (n : Int) + 2) * hi * V = (D + 2 * (n : Int)) * (hi * V) + 2 * (hi * V) := by grind
        have e7 : 2 * a.2 * V = 2 * (a.2 * V) := by grind
        omega
      · rw [if_neg hh]
        have m4 := Int.mul_le_mul_of_nonneg_right (show hi ≤ a.2 by omega) (show 0 ≤ V by omega)
        have m5 := Int.mul_le_mul_of_nonneg_left m4 C0
        have e6 : (D + 2 * (n : Int) + 2) * a.2 * V = (D + 2 * (n : Int)) * (a.2 * V) + 2 * (a.2 * V) := by grind
        have e7 : 2 * a.2 * V = 2 * (a.2 * V) := by grind
        omega
    · rw [if_neg ht] at m2
      have hUV : U ≤ V := by
        refine Int.not_lt.1 fun hlt => ?_
        exact ht (hmn (by omega))
      have m4 := Int.mul_le_mul_of_nonneg_left hUV (show 0 ≤ (D + 2 * (n : Int)) * a.2 from Int.mul_nonneg C0 (by omega))
      have hge : a.2 ≤ (if a.2 ≤ hi then hi else a.2) := by split <;> omega
      have m5 := Int.mul_le_mul_of_nonneg_left hge (show 0 ≤ D + 2 * (n : Int) + 2 by omega)
      have m6 := Int.mul_le_mul_of_nonneg_right m5 (show 0 ≤ V by omega)
      have e6 : (D + 2 * (n : Int) + 2) * a.2 * V = (D + 2 * (n : Int)) * a.2 * V + 2 * a.2 * V := by grind
      omega
end Go.Proofs.Ytgmnknmjainabab
namespace Go.Proofs.Ytgmnknmjainabab
open Go.RowKit
attribute [local go_sem ↓] Go.wp_at_zero Go.wp_at_succ
set_option maxRecDepth 100000 in
set_option maxHeartbeats 2000000 in
theorem div1_int (neg neg2 : Bool) (a c : Option Addr) (n m cap cap2 k k2 b B : Nat) (x y : Int) (w : World) (h1 : IntAt w neg a n cap k x) (h2 : IntAt w neg2 c m cap2 k2 y) (hk : k ≤ 300000000) (hb : b ≤ 1000000) (hy : 0 < y) (hc : w.cell? ⟨B, 4, none⟩ = some (.int .i64 b)) :
    Calls Try.prog 157 #[.agg #[.bool neg, .slice a n cap], .agg #[.bool neg2, .slice c m cap2], .pointer (some ⟨B, 0, none⟩)] w (IntAns w (b / 16 + k + 9) (x * Q b / y)) := by
  have lB : B < w.heap.size := World.block_lt_of_cell? w ⟨B, 4, none⟩ hc
  have ne1 : w.heap.size ≠ w.heap.size + 1 + 1 := by omega
  have ne2 : w.heap.size + 1 + 1 ≠ w.heap.size := by omega
  obtain ⟨W, hW⟩ : ∃ W, W = ((w.alloc (.cells #[.bool neg, .slice a n cap] 26)).alloc (.cells #[.bool neg2, .slice c m cap2] 26)).alloc (.cells #[.bool false, .slice none 0 0] 26) := ⟨_, rfl⟩
  have hBW : Below w.heap.size w W := by rw [hW]; exact bl3 _ _ _ _
  have A : NmC W w.heap.size ⟨neg, a, n, cap⟩ := by rw [hW]; exact ⟨by simp [go_sem], by simp [go_sem]⟩
  have G : NmC W (w.heap.size + 1) ⟨neg2, c, m, cap2⟩ := by rw [hW]; exact ⟨by simp [go_sem], by simp [go_sem]⟩
  have R : NoI W (w.heap.size + 1 + 1) := by rw [hW]; exact ⟨by simp [go_sem], by simp [go_sem], fun o => by simp [go_sem]⟩
  have hcW := (hBW.cell (p := ⟨B, 4, none⟩) lB).trans hc
  have lBW := Nat.lt_of_lt_of_le lB hBW.size
  have HX := hide (h1.below hBW)
  have HY := hide (h2.below hBW)
  have hB0 : Below W.heap.size W W.drew := (Below.refl _ _).drew
  have lR := R.lt
  have nB : B ≠ w.heap.size + 1 + 1 := by omega
  have nB' : w.heap.size + 1 + 1 ≠ B := by omega
  have HK := hide (show ∀ w', Below W.heap.size W w' → (w'.cell? ⟨w.heap.size, 0, none⟩ = some (.bool neg) ∧ w'.cell? ⟨w.heap.size, 1, none⟩ = some (.slice a n cap) ∧ w'.cell? ⟨w.heap.size + 1, 0, none⟩ = some (.bool neg2) ∧ w'.cell? ⟨w.heap.size + 1, 1, none⟩ = some (.slice c m cap2) ∧ w'.cell? ⟨B, 4, none⟩ = some (.int .i64 b)) from fun w' hB => ⟨(A.below hB).c0, (A.below hB).c1, (G.below hB).c0, (G.below hB).c1, (hB.cell (p := ⟨B, 4, none⟩) lBW).trans hcW⟩)
  go_enter Try.func157, Try.ntmps157
  go_wp2
  rw [← hW]
  clear hW
  obtain ⟨i0, i1, i2, i3, i4⟩ := unhide HK _ (Below.refl _ _)
  go_region_held3 (fun w' => w'.cell? ⟨w.heap.size, 0, none⟩ = some (.bool neg) ∧ w'.cell? ⟨w.heap.size, 1, none⟩ = some (.slice a n cap) ∧ w'.cell? ⟨w.heap.size + 1, 0, none⟩ = some (.bool neg2) ∧ w'.cell? ⟨w.heap.size + 1, 1, none⟩ = some (.slice c m cap2) ∧ w'.cell? ⟨B, 4, none⟩ = some (.int .i64 b)) (first | exact unhide HK _ (by first | with_reducible exact hB0 | with_reducible exact hB2 | with_reducible exact hB1) | go_keep)
    (first
      | (go_at_call 113; refine (up_int _ _ _ _ b k x _ ((unhide HX).below hB0) (by omega) (by omega)).mono ?_; rintro r w1 ⟨neg1, a1, n1, c1, rfl, hint1, hb1⟩; have hB1 := bthen hB0 hb1)
      | (go_at_call 105; refine (floor_any _ _ _ _ _ _ _ _ (b / 16 + k + 1) k2 (x * Q b) y _ hint1 ((unhide HY).below hB1) (by omega) hy).mono ?_; rintro r w2 ⟨neg3, a3, n3, c3, rfl, hint3, hb2⟩; have hB2 := bthen hB1 hb2; obtain ⟨q0, q1, q2⟩ := R.below hB2; obtain ⟨d0, d1, d2, d3, d4⟩ := unhide HK _ hB2))
  clear i0 i1 i2 i3 i4
  go_wp2
  refine bodyPost_ret (v := .agg #[.bool neg3, .slice a3 n3 c3]) (by simp [results, Try.results157, go_sem, q0, q1]) rfl ⟨neg3, a3, n3, c3, rfl, (hint3.put2 q0 q1 _ _).mono (by omega), ?_⟩
  exact set2 (bthen hBW hB2) (by omega) _ _
set_option maxRecDepth 100000 in
set_option maxHeartbeats 2000000 in
theorem div2_int (neg neg2 : Bool) (a c : Option Addr) (n m cap cap2 k k2 b B : Nat) (x y : Int) (w : World) (h1 : IntAt w neg a n cap k x) (h2 : IntAt w neg2 c m cap2 k2 y) (hk : k ≤ 300000000) (hb : b ≤ 1000000) (hy : 0 < y) (hc : w.cell? ⟨B, 4, none⟩ = some (.int .i64 b)) :
    Calls Try.prog 158 #[.agg #[.bool neg, .slice a n cap], .agg #[.bool neg2, .slice c m cap2], .pointer (some ⟨B, 0, none⟩)] w (IntAns w (b / 16 + k + 9) (-(-(x * Q b) / y))) := by
  have lB : B < w.heap.size := World.block_lt_of_cell? w ⟨B, 4, none⟩ hc
  have ne1 : w.heap.size ≠ w.heap.size + 1 + 1 := by omega
  have ne2 : w.heap.size + 1 + 1 ≠ w.heap.size := by omega
  obtain ⟨W, hW⟩ : ∃ W, W = ((w.alloc (.cells #[.bool neg, .slice a n cap] 26)).alloc (.cells #[.bool neg2, .slice c m cap2] 26)).alloc (.cells #[.bool false, .slice none 0 0] 26) := ⟨_, rfl⟩
  have hBW : Below w.heap.size w W := by rw [hW]; exact bl3 _ _ _ _
  have A : NmC W w.heap.size ⟨neg, a, n, cap⟩ := by rw [hW]; exact ⟨by simp [go_sem], by simp [go_sem]⟩
  have G : NmC W (w.heap.size + 1) ⟨neg2, c, m, cap2⟩ := by rw [hW]; exact ⟨by simp [go_sem], by simp [go_sem]⟩
  have R : NoI W (w.heap.size + 1 + 1) := by rw [hW]; exact ⟨by simp [go_sem], by simp [go_sem], fun o => by simp [go_sem]⟩
  have hcW := (hBW.cell (p := ⟨B, 4, none⟩) lB).trans hc
  have lBW := Nat.lt_of_lt_of_le lB hBW.size
  have HX := hide (h1.below hBW)
  have HY := hide (h2.below hBW)
  have hB0 : Below W.heap.size W W.drew := (Below.refl _ _).drew
  have lR := R.lt
  have nB : B ≠ w.heap.size + 1 + 1 := by omega
  have nB' : w.heap.size + 1 + 1 ≠ B := by omega
  have HK := hide (show ∀ w', Below W.heap.size W w' → (w'.cell? ⟨w.heap.size, 0, none⟩ = some (.bool neg) ∧ w'.cell? ⟨w.heap.size, 1, none⟩ = some (.slice a n cap) ∧ w'.cell? ⟨w.heap.size + 1, 0, none⟩ = some (.bool neg2) ∧ w'.cell? ⟨w.heap.size + 1, 1, none⟩ = some (.slice c m cap2) ∧ w'.cell? ⟨B, 4, none⟩ = some (.int .i64 b)) from fun w' hB => ⟨(A.below hB).c0, (A.below hB).c1, (G.below hB).c0, (G.below hB).c1, (hB.cell (p := ⟨B, 4, none⟩) lBW).trans hcW⟩)
  go_enter Try.func158, Try.ntmps158
  go_wp2
  rw [← hW]
  clear hW
  obtain ⟨i0, i1, i2, i3, i4⟩ := unhide HK _ (Below.refl _ _)
  go_region_held3 (fun w' => w'.cell? ⟨w.heap.size, 0, none⟩ = some (.bool neg) ∧ w'.cell? ⟨w.heap.size, 1, none⟩ = some (.slice a n cap) ∧ w'.cell? ⟨w.heap.size + 1, 0, none⟩ = some (.bool neg2) ∧ w'.cell? ⟨w.heap.size + 1, 1, none⟩ = some (.slice c m cap2) ∧ w'.cell? ⟨B, 4, none⟩ = some (.int .i64 b)) (first | exact unhide HK _ (by first | with_reducible exact hB0 | with_reducible exact hB2 | with_reducible exact hB1) | go_keep)
    (first
      | (go_at_call 113; refine (up_int _ _ _ _ b k x _ ((unhide HX).below hB0) (by omega) (by omega)).mono ?_; rintro r w1 ⟨neg1, a1, n1, c1, rfl, hint1, hb1⟩; have hB1 := bthen hB0 hb1)
      | (go_at_call 114; refine (ceil_any _ _ _ _ _ _ _ _ (b / 16 + k + 1) k2 (x * Q b) y _ hint1 ((unhide HY).below hB1) (by omega) hy).mono ?_; rintro r w2 ⟨neg3, a3, n3, c3, rfl, hint3, hb2⟩; have hB2 := bthen hB1 hb2; obtain ⟨q0, q1, q2⟩ := R.below hB2; obtain ⟨d0, d1, d2, d3, d4⟩ := unhide HK _ hB2))
  clear i0 i1 i2 i3 i4
  go_wp2
  refine bodyPost_ret (v := .agg #[.bool neg3, .slice a3 n3 c3]) (by simp [results, Try.results158, go_sem, q0, q1]) rfl ⟨neg3, a3, n3, c3, rfl, (hint3.put2 q0 q1 _ _).mono (by omega), ?_⟩
  exact set2 (bthen hBW hB2) (by omega) _ _
set_option maxRecDepth 100000 in
set_option maxHeartbeats 2000000 in
theorem corners_div1 (w : World) (s t : Sp) (k b B : Nat) (lo hi lo' hi' : Int) (hs : SpAt w s k lo hi) (ht : SpAt w t k lo' hi') (hk : k ≤ 300000000) (hb : b ≤ 1000000) (hp : 0 < lo') (hp2 : 0 < hi') (hc : w.cell? ⟨B, 4, none⟩ = some (.int .i64 b)) :
    Calls Try.prog 115 #[.agg #[.bool s.ln, .slice s.la s.lN s.lc, .bool s.hn, .slice s.ha s.hN s.hc, .int .i64 s.bits], .agg #[.bool t.ln, .slice t.la t.lN t.lc, .bool t.hn, .slice t.ha t.hN t.hc, .int .i64 t.bits], .func (.func 157) #[] #[.pointer (some ⟨B, 0, none⟩)]] w fun r w' =>
      ∃ B' f, r = .returned (.slice (some ⟨B', 0, none⟩) 4 4) ∧ Nums w' B' 4 (b / 16 + k + 9) f (pr4 (lo * Q b / lo') (lo * Q b / hi') (hi * Q b / lo') (hi * Q b / hi')) ∧ Below w.heap.size w w' := by
  have lB : B < w.heap.size := World.block_lt_of_cell? w ⟨B, 4, none⟩ hc
  obtain ⟨W, hW⟩ : ∃ W, W = (w.alloc (.cells #[.bool s.ln, .slice s.la s.lN s.lc, .bool s.hn, .slice s.ha s.hN s.hc, .int .i64 s.bits] 28)).alloc (.cells #[.bool t.ln, .slice t.la t.lN t.lc, .bool t.hn, .slice t.ha t.hN t.hc, .int .i64 t.bits] 28) := ⟨_, rfl⟩
  have hBW : Below w.heap.size w W := by rw [hW]; exact bl2 _ _ _
  have a0 : SpC W w.heap.size s := by rw [hW]; exact ⟨by simp [go_sem], by simp [go_sem], by simp [go_sem], by simp [go_sem], by simp [go_sem]⟩
  have g0 : SpC W (w.heap.size + 1) t := by rw [hW]; exact ⟨by simp [go_sem], by simp [go_sem], by simp [go_sem], by simp [go_sem], by simp [go_sem]⟩
  have hcW := (hBW.cell (p := ⟨B, 4, none⟩) lB).trans hc
  have lBW := Nat.lt_of_lt_of_le lB hBW.size
  have HS := hide (hs.below hBW)
  have HT := hide (ht.below hBW)
  have hB0 : Below W.heap.size W W.drew := (Below.refl _ _).drew
  have HKB := hide (show ∀ w', Below W.heap.size W w' → w'.cell? ⟨B, 4, none⟩ = some (.int .i64 b) from fun w' hB => (hB.cell (p := ⟨B, 4, none⟩) lBW).trans hcW)
  have HK := hide (show ∀ w', Below W.heap.size W w' → (w'.cell? ⟨w.heap.size, 0, none⟩ = some (.bool s.ln) ∧ w'.cell? ⟨w.heap.size, 1, none⟩ = some (.slice s.la s.lN s.lc) ∧ w'.cell? ⟨w.heap.size, 2, none⟩ = some (.bool s.hn) ∧ w'.cell? ⟨w.heap.size, 3, none⟩ = some (.slice s.ha s.hN s.hc) ∧ w'.cell? ⟨w.heap.size + 1, 0, none⟩ = some (.bool t.ln) ∧ w'.cell? ⟨w.heap.size + 1, 1, none⟩ = some (.slice t.la t.lN t.lc) ∧ w'.cell? ⟨w.heap.size + 1, 2, none⟩ = some (.bool t.hn) ∧ w'.cell? ⟨w.heap.size + 1, 3, none⟩ = some (.slice t.ha t.hN t.hc)) from fun w' hB => by
    obtain ⟨x0, x1, x2, x3, x4⟩ := a0.below hB
    obtain ⟨y0, y1, y2, y3, y4⟩ := g0.below hB
    exact ⟨x0, x1, x2, x3, y0, y1, y2, y3⟩)
  go_enter Try.func115, Try.ntmps115
  go_wp2
  obtain ⟨x0, x1, x2, x3, x4⟩ := a0
  obtain ⟨y0, y1, y2, y3, y4⟩ := g0
  rw [← hW]
  clear hW
  go_region_held3 (fun w' => w'.cell? ⟨w.heap.size, 0, none⟩ = some (.bool s.ln) ∧ w'.cell? ⟨w.heap.size, 1, none⟩ = some (.slice s.la s.lN s.lc) ∧ w'.cell? ⟨w.heap.size, 2, none⟩ = some (.bool s.hn) ∧ w'.cell? ⟨w.heap.size, 3, none⟩ = some (.slice s.ha s.hN s.hc) ∧ w'.cell? ⟨w.heap.size + 1, 0, none⟩ = some (.bool t.ln) ∧ w'.cell? ⟨w.heap.size + 1, 1, none⟩ = some (.slice t.la t.lN t.lc) ∧ w'.cell? ⟨w.heap.size + 1, 2, none⟩ = some (.bool t.hn) ∧ w'.cell? ⟨w.heap.size + 1, 3, none⟩ = some (.slice t.ha t.hN t.hc)) (exact unhide HK _ (by first | with_reducible exact hB0 | with_reducible exact balloc hB4 _ | with_reducible exact hB4 | with_reducible exact hB3 | with_reducible exact hB2 | with_reducible exact hB1))
    (first
      | (go_at_call 157; have hq := hB3; refine (div1_int _ _ _ _ _ _ _ _ k k b B hi hi' _ ((unhide HS).hi.below hB3) ((unhide HT).hi.below hB3) hk hb hp2 (unhide HKB _ hB3)).mono ?_; rintro r w4 ⟨neg4, a4, n4, c4, rfl, hint4, hb4⟩; replace hint1 := hint1.below hb4; replace hint2 := hint2.below hb4; replace hint3 := hint3.below hb4; have hB4 := bthen hB3 hb4)
      | (go_at_call 157; have hq := hB2; refine (div1_int _ _ _ _ _ _ _ _ k k b B hi lo' _ ((unhide HS).hi.below hB2) ((unhide HT).lo.below hB2) hk hb hp (unhide HKB _ hB2)).mono ?_; rintro r w3 ⟨neg3, a3, n3, c3, rfl, hint3, hb3⟩; replace hint1 := hint1.below hb3; replace hint2 := hint2.below hb3; have hB3 := bthen hB2 hb3)
      | (go_at_call 157; have hq := hB1; refine (div1_int _ _ _ _ _ _ _ _ k k b B lo hi' _ ((unhide HS).lo.below hB1) ((unhide HT).hi.below hB1) hk hb hp2 (unhide HKB _ hB1)).mono ?_; rintro r w2 ⟨neg2, a2, n2, c2, rfl, hint2, hb2⟩; replace hint1 := hint1.below hb2; have hB2 := bthen hB1 hb2)
      | (go_at_call 157; have hq := hB0; refine (div1_int _ _ _ _ _ _ _ _ k k b B lo lo' _ ((unhide HS).lo.below hB0) ((unhide HT).lo.below hB0) hk hb hp (unhide HKB _ hB0)).mono ?_; rintro r w1 ⟨neg1, a1, n1, c1, rfl, hint1, hb1⟩; have hB1 := bthen hB0 hb1))
  go_wp2
  go_ret
  exact ⟨w4.heap.size, pr4 ⟨neg1, a1, n1, c1⟩ ⟨neg2, a2, n2, c2⟩ ⟨neg3, a3, n3, c3⟩ ⟨neg4, a4, n4, c4⟩, rfl, nums4 w4 _ rfl ⟨neg1, a1, n1, c1⟩ ⟨neg2, a2, n2, c2⟩ ⟨neg3, a3, n3, c3⟩ ⟨neg4, a4, n4, c4⟩ _ _ _ _ _ _ hint1 hint2 hint3 hint4, bthen hBW (balloc hB4 _)⟩
set_option maxRecDepth 100000 in
set_option maxHeartbeats 2000000 in
theorem corners_div2 (w : World) (s t : Sp) (k b B : Nat) (lo hi lo' hi' : Int) (hs : SpAt w s k lo hi) (ht : SpAt w t k lo' hi') (hk : k ≤ 300000000) (hb : b ≤ 1000000) (hp : 0 < lo') (hp2 : 0 < hi') (hc : w.cell? ⟨B, 4, none⟩ = some (.int .i64 b)) :
    Calls Try.prog 115 #[.agg #[.bool s.ln, .slice s.la s.lN s.lc, .bool s.hn, .slice s.ha s.hN s.hc, .int .i64 s.bits], .agg #[.bool t.ln, .slice t.la t.lN t.lc, .bool t.hn, .slice t.ha t.hN t.hc, .int .i64 t.bits], .func (.func 158) #[] #[.pointer (some ⟨B, 0, none⟩)]] w fun r w' =>
      ∃ B' f, r = .returned (.slice (some ⟨B', 0, none⟩) 4 4) ∧ Nums w' B' 4 (b / 16 + k + 9) f (pr4 (-(-(lo * Q b) / lo')) (-(-(lo * Q b) / hi')) (-(-(hi * Q b) / lo')) (-(-(hi * Q b) / hi'))) ∧ Below w.heap.size w w' := by
  have lB : B < w.heap.size := World.block_lt_of_cell? w ⟨B, 4, none⟩ hc
  obtain ⟨W, hW⟩ : ∃ W, W = (w.alloc (.cells #[.bool s.ln, .slice s.la s.lN s.lc, .bool s.hn, .slice s.ha s.hN s.hc, .int .i64 s.bits] 28)).alloc (.cells #[.bool t.ln, .slice t.la t.lN t.lc, .bool t.hn, .slice t.ha t.hN t.hc, .int .i64 t.bits] 28) := ⟨_, rfl⟩
  have hBW : Below w.heap.size w W := by rw [hW]; exact bl2 _ _ _
  have a0 : SpC W w.heap.size s := by rw [hW]; exact ⟨by simp [go_sem], by simp [go_sem], by simp [go_sem], by simp [go_sem], by simp [go_sem]⟩
  have g0 : SpC W (w.heap.size + 1) t := by rw [hW]; exact ⟨by simp [go_sem], by simp [go_sem], by simp [go_sem], by simp [go_sem], by simp [go_sem]⟩
  have hcW := (hBW.cell (p := ⟨B, 4, none⟩) lB).trans hc
  have lBW := Nat.lt_of_lt_of_le lB hBW.size
  have HS := hide (hs.below hBW)
  have HT := hide (ht.below hBW)
  have hB0 : Below W.heap.size W W.drew := (Below.refl _ _).drew
  have HKB := hide (show ∀ w', Below W.heap.size W w' → w'.cell? ⟨B, 4, none⟩ = some (.int .i64 b) from fun w' hB => (hB.cell (p := ⟨B, 4, none⟩) lBW).trans hcW)
  have HK := hide (show ∀ w', Below W.heap.size W w' → (w'.cell? ⟨w.heap.size, 0, none⟩ = some (.bool s.ln) ∧ w'.cell? ⟨w.heap.size, 1, none⟩ = some (.slice s.la s.lN s.lc) ∧ w'.cell? ⟨w.heap.size, 2, none⟩ = some (.bool s.hn) ∧ w'.cell? ⟨w.heap.size, 3, none⟩ = some (.slice s.ha s.hN s.hc) ∧ w'.cell? ⟨w.heap.size + 1, 0, none⟩ = some (.bool t.ln) ∧ w'.cell? ⟨w.heap.size + 1, 1, none⟩ = some (.slice t.la t.lN t.lc) ∧ w'.cell? ⟨w.heap.size + 1, 2, none⟩ = some (.bool t.hn) ∧ w'.cell? ⟨w.heap.size + 1, 3, none⟩ = some (.slice t.ha t.hN t.hc)) from fun w' hB => by
    obtain ⟨x0, x1, x2, x3, x4⟩ := a0.below hB
    obtain ⟨y0, y1, y2, y3, y4⟩ := g0.below hB
    exact ⟨x0, x1, x2, x3, y0, y1, y2, y3⟩)
  go_enter Try.func115, Try.ntmps115
  go_wp2
  obtain ⟨x0, x1, x2, x3, x4⟩ := a0
  obtain ⟨y0, y1, y2, y3, y4⟩ := g0
  rw [← hW]
  clear hW
  go_region_held3 (fun w' => w'.cell? ⟨w.heap.size, 0, none⟩ = some (.bool s.ln) ∧ w'.cell? ⟨w.heap.size, 1, none⟩ = some (.slice s.la s.lN s.lc) ∧ w'.cell? ⟨w.heap.size, 2, none⟩ = some (.bool s.hn) ∧ w'.cell? ⟨w.heap.size, 3, none⟩ = some (.slice s.ha s.hN s.hc) ∧ w'.cell? ⟨w.heap.size + 1, 0, none⟩ = some (.bool t.ln) ∧ w'.cell? ⟨w.heap.size + 1, 1, none⟩ = some (.slice t.la t.lN t.lc) ∧ w'.cell? ⟨w.heap.size + 1, 2, none⟩ = some (.bool t.hn) ∧ w'.cell? ⟨w.heap.size + 1, 3, none⟩ = some (.slice t.ha t.hN t.hc)) (exact unhide HK _ (by first | with_reducible exact hB0 | with_reducible exact balloc hB4 _ | with_reducible exact hB4 | with_reducible exact hB3 | with_reducible exact hB2 | with_reducible exact hB1))
    (first
      | (go_at_call 158; have hq := hB3; refine (div2_int _ _ _ _ _ _ _ _ k k b B hi hi' _ ((unhide HS).hi.below hB3) ((unhide HT).hi.below hB3) hk hb hp2 (unhide HKB _ hB3)).mono ?_; rintro r w4 ⟨neg4, a4, n4, c4, rfl, hint4, hb4⟩; replace hint1 := hint1.below hb4; replace hint2 := hint2.below hb4; replace hint3 := hint3.below hb4; have hB4 := bthen hB3 hb4)
      | (go_at_call 158; have hq := hB2; refine (div2_int _ _ _ _ _ _ _ _ k k b B hi lo' _ ((unhide HS).hi.below hB2) ((unhide HT).lo.below hB2) hk hb hp (unhide HKB _ hB2)).mono ?_; rintro r w3 ⟨neg3, a3, n3, c3, rfl, hint3, hb3⟩; replace hint1 := hint1.below hb3; replace hint2 := hint2.below hb3; have hB3 := bthen hB2 hb3)
      | (go_at_call 158; have hq := hB1; refine (div2_int _ _ _ _ _ _ _ _ k k b B lo hi' _ ((unhide HS).lo.below hB1) ((unhide HT).hi.below hB1) hk hb hp2 (unhide HKB _ hB1)).mono ?_; rintro r w2 ⟨neg2, a2, n2, c2, rfl, hint2, hb2⟩; replace hint1 := hint1.below hb2; have hB2 := bthen hB1 hb2)
      | (go_at_call 158; have hq := hB0; refine (div2_int _ _ _ _ _ _ _ _ k k b B lo lo' _ ((unhide HS).lo.below hB0) ((unhide HT).lo.below hB0) hk hb hp (unhide HKB _ hB0)).mono ?_; rintro r w1 ⟨neg1, a1, n1, c1, rfl, hint1, hb1⟩; have hB1 := bthen hB0 hb1))
  go_wp2
  go_ret
  exact ⟨w4.heap.size, pr4 ⟨neg1, a1, n1, c1⟩ ⟨neg2, a2, n2, c2⟩ ⟨neg3, a3, n3, c3⟩ ⟨neg4, a4, n4, c4⟩, rfl, nums4 w4 _ rfl ⟨neg1, a1, n1, c1⟩ ⟨neg2, a2, n2, c2⟩ ⟨neg3, a3, n3, c3⟩ ⟨neg4, a4, n4, c4⟩ _ _ _ _ _ _ hint1 hint2 hint3 hint4, bthen hBW (balloc hB4 _)⟩
end Go.Proofs.Ytgmnknmjainabab
namespace Go.Proofs.Ytgmnknmjainabab
open Go.RowKit
attribute [local go_sem ↓] Go.wp_at_zero Go.wp_at_succ
set_option maxRecDepth 100000 in
set_option maxHeartbeats 2000000 in
theorem wideDiv_pos (w : World) (s t : Sp) (k b : Nat) (lo hi lo' hi' : Int) (hs : SpAt w s k lo hi) (ht : SpAt w t k lo' hi') (hk : k ≤ 300000000) (hb : b ≤ 1000000) (hbits : s.bits = b) (hp : 0 < lo') (hp2 : 0 < hi') :
    Calls Try.prog 130 #[.agg #[.bool s.ln, .slice s.la s.lN s.lc, .bool s.hn, .slice s.ha s.hN s.hc, .int .i64 s.bits], .agg #[.bool t.ln, .slice t.la t.lN t.lc, .bool t.hn, .slice t.ha t.hN t.hc, .int .i64 t.bits]] w (SpanAns w b (b / 16 + k + 10) (leastZ (pr4 (lo * Q b / lo') (lo * Q b / hi') (hi * Q b / lo') (hi * Q b / hi')) 3) (mostZ (pr4 (-(-(lo * Q b) / lo')) (-(-(lo * Q b) / hi')) (-(-(hi * Q b) / lo')) (-(-(hi * Q b) / hi'))) 3)) := by
  have HBT := hide hbits
  have t1 : ¬ cmpInt hi' 0 < 0 := by unfold cmpInt; rw [if_neg (by omega)]; split <;> omega
  clear hbits
  obtain ⟨W, hW⟩ : ∃ W, W = ((w.alloc (.cells #[.bool s.ln, .slice s.la s.lN s.lc, .bool s.hn, .slice s.ha s.hN s.hc, .int .i64 s.bits] 28)).alloc (.cells #[.bool t.ln, .slice t.la t.lN t.lc, .bool t.hn, .slice t.ha t.hN t.hc, .int .i64 t.bits] 28)).alloc (.cells #[.bool false, .slice none 0 0, .bool false, .slice none 0 0, .int .i64 0] 28) := ⟨_, rfl⟩
  have hBW : Below w.heap.size w W := by rw [hW]; exact bl3 _ _ _ _
  have A : SpC W w.heap.size s := by rw [hW]; exact ⟨by simp [go_sem], by simp [go_sem], by simp [go_sem], by simp [go_sem], by simp [go_sem]⟩
  have G : SpC W (w.heap.size + 1) t := by rw [hW]; exact ⟨by simp [go_sem], by simp [go_sem], by simp [go_sem], by simp [go_sem], by simp [go_sem]⟩
  have R : NoC W (w.heap.size + 1 + 1) := by rw [hW]; exact ⟨by simp [go_sem], by simp [go_sem], by simp [go_sem], by simp [go_sem], by simp [go_sem], fun o => by simp [go_sem]⟩
  replace hs := hs.below hBW
  replace ht := ht.below hBW
  go_enter Try.func130, Try.ntmps130
  go_wp2_with fail
  rw [← hW]
  clear hW
  refine (sign_int _ _ _ _ k hi' _ ht.hi).mono ?_
  rintro r w0 ⟨rfl, hb0⟩
  replace hBW := bthen hBW hb0
  replace A := A.below hb0
  replace G := G.below hb0
  replace R := R.below hb0
  replace hs := hs.below hb0
  replace ht := ht.below hb0
  clear hb0
  have lA := A.lt
  have lG := G.lt
  obtain ⟨x0, x1, x2, x3, x4⟩ := A
  obtain ⟨y0, y1, y2, y3, y4⟩ := G
  have A : SpC w0 w.heap.size s := ⟨x0, x1, x2, x3, x4⟩
  have G : SpC w0 (w.heap.size + 1) t := ⟨y0, y1, y2, y3, y4⟩
  go_wp2_with fail
  clear lA lG x0 x1 x2 x3 x4 y0 y1 y2 y3 y4
  refine (corners_div1 _ s t k b w.heap.size lo hi lo' hi' hs ht hk hb hp hp2 (by rw [← unhide HBT]; exact A.c4)).mono ?_
  rintro r w1 ⟨B1, f1, rfl, hN1, hb1⟩
  replace hBW := bthen hBW hb1
  replace A := A.below hb1
  replace G := G.below hb1
  replace R := R.below hb1
  replace hs := hs.below hb1
  replace ht := ht.below hb1
  clear hb1
  go_wp2_with fail
  refine (leastw_int _ 3 _ (b / 16 + k + 9) f1 _ _ hN1 (by omega) (by omega)).mono ?_
  rintro r w2 ⟨neg2, a2, n2, c2, rfl, hint2, hb2⟩
  replace hBW := bthen hBW hb2
  replace A := A.below hb2
  replace G := G.below hb2
  replace R := R.below hb2
  replace hs := hs.below hb2
  replace ht := ht.below hb2
  clear hb2 hN1
  obtain ⟨W2, hW2⟩ : ∃ W', W' = w2.alloc (.cells #[.bool neg2, .slice a2 n2 c2] 26) := ⟨_, rfl⟩
  have hc2 : Below w2.heap.size w2 W2 := by rw [hW2]; exact bl1 _ _
  have X2 : NmC W2 w2.heap.size ⟨neg2, a2, n2, c2⟩ := by rw [hW2]; exact nmc_new w2 ⟨neg2, a2, n2, c2⟩ _
  have lA := A.lt
  have lG := G.lt
  obtain ⟨x0, x1, x2, x3, x4⟩ := A
  obtain ⟨y0, y1, y2, y3, y4⟩ := G
  have A : SpC w2 w.heap.size s := ⟨x0, x1, x2, x3, x4⟩
  have G : SpC w2 (w.heap.size + 1) t := ⟨y0, y1, y2, y3, y4⟩
  go_wp2_with fail
  rw [← hW2]
  clear hW2
  clear lA lG x0 x1 x2 x3 x4 y0 y1 y2 y3 y4
  have nR2 : w2.heap.size ≠ w.heap.size + 1 + 1 := Nat.ne_of_gt R.lt
  replace hBW := bthen hBW hc2
  replace A := A.below hc2
  replace G := G.below hc2
  replace R := R.below hc2
  replace hs := hs.below hc2
  replace ht := ht.below hc2
  replace hint2 := hint2.below hc2
  clear hc2
  refine (corners_div2 _ s t k b w.heap.size lo hi lo' hi' hs ht hk hb hp hp2 (by rw [← unhide HBT]; exact A.c4)).mono ?_
  rintro r w3 ⟨B3, f3, rfl, hN3, hb3⟩
  replace hBW := bthen hBW hb3
  replace A := A.below hb3
  replace R := R.below hb3
  replace hint2 := hint2.below hb3
  replace X2 := X2.below hb3
  clear hb3
  go_wp2_with fail
  refine (most_int _ 3 _ (b / 16 + k + 9) f3 _ _ hN3 (by omega) (by omega)).mono ?_
  rintro r w4 ⟨neg4, a4, n4, c4, rfl, hint4, hb4⟩
  replace hBW := bthen hBW hb4
  replace A := A.below hb4
  replace R := R.below hb4
  replace hint2 := hint2.below hb4
  replace X2 := X2.below hb4
  clear hb4 hN3
  have lA := A.lt
  have lX := X2.lt
  have lR := R.lt
  have nR2' : w.heap.size + 1 + 1 ≠ w2.heap.size := fun e9 => nR2 e9.symm
  have nR4 : w4.heap.size ≠ w.heap.size + 1 + 1 := Nat.ne_of_gt lR
  have nR4' : w.heap.size + 1 + 1 ≠ w4.heap.size := Nat.ne_of_lt lR
  have nX4 : w2.heap.size ≠ w4.heap.size := Nat.ne_of_lt lX
  obtain ⟨x0, x1, x2, x3, x4⟩ := A
  obtain ⟨z0, z1⟩ := X2
  obtain ⟨q0, q1, q2, q3, q4, q5⟩ := R
  go_wp2_with fail
  refine bodyPost_ret (v := .agg #[.bool neg2, .slice a2 n2 c2, .bool neg4, .slice a4 n4 c4, .int .i64 s.bits]) (by simp [results, Try.results130, go_sem, lR, q0, q1, q2, q3, q4]) rfl ⟨⟨neg2, a2, n2, c2, neg4, a4, n4, c4, s.bits⟩, rfl, unhide HBT, ?_, ?_⟩
  · first | with_reducible exact SpAt.put5 ⟨(hint2.below (bl1 _ _)).mono (by omega), (hint4.below (bl1 _ _)).mono (by omega)⟩ (by simp [go_sem, lR, q0]) (by simp [go_sem, lR, q1]) (by simp [go_sem, lR, q2]) (by simp [go_sem, lR, q3]) (by simp [go_sem, lR, q4]) _ _ _ _ _ | with_reducible exact SpAt.below (SpAt.put5 ⟨hint2.mono (by omega), hint4.mono (by omega)⟩ q0 q1 q2 q3 q4 _ _ _ _ _) (bl1 _ _)
  · first | with_reducible exact set5 (balloc hBW _) (by omega) _ _ _ _ _ | with_reducible exact balloc (set5 hBW (by omega) _ _ _ _ _) _
end Go.Proofs.Ytgmnknmjainabab
