/-
  What By of package tailsureref answers, and that it leaves old memory alone.
  How far the sums of the logarithm near 1 reach; spans times a ratio of either sign; how a quotient is brought between 1 and 2. Plain arithmetic: no statement of the seat is proved here.
  The power of e of a span that has a number told by a sequence; how far the logarithm of a ratio from 1/16 to 16 is from 0; each ratio more than 0 has a logarithm; roots of ratios. Plain arithmetic: no statement of the seat is proved here.
  Ratios to the power of ratios: by e's powers of a logarithm, and where they are ratios themselves. Plain arithmetic: no statement of the seat is proved here.
  A region that draws its order and ends in a store that overwrites what the region has read: a load may be taken first where the store waits for it. No statement of the seat is proved here.
  What power.exact answers, and that it leaves old memory alone.
-/
import Derived.Deep.RegionHeld3
import Derived.Test.YtgmnknmjainabaaK11
namespace Go.Proofs.Ytgmnknmjainabaa
set_option linter.unusedVariables false
set_option linter.unusedSimpArgs false
set_option linter.unnecessarySimpa false
open Go.RowKit
attribute [local go_sem ↓] Go.wp_at_zero Go.wp_at_succ

/-- One times a number of any sign, over another one. -/
def byI (a : Int × Int) (n d : Int) : Int × Int := (leastZ (pr (a.1 * n) (a.2 * n)) 1 / d, -(-(mostZ (pr (a.1 * n) (a.2 * n)) 1) / d))
theorem byI_nonneg {a : Int × Int} {n d : Int} (ha : a.1 ≤ a.2) (hn : 0 ≤ n) : byI a n d = scaleI a n d := by
  have h := Int.mul_le_mul_of_nonneg_right ha hn
  have e1 : leastZ (pr (a.1 * n) (a.2 * n)) 1 = a.1 * n := by
    simp only [leastZ, pr]; simp; omega
  have e2 : mostZ (pr (a.1 * n) (a.2 * n)) 1 = a.2 * n := by
    simp only [mostZ, pr]; simp; omega
  unfold byI scaleI
  rw [e1, e2]

set_option maxRecDepth 100000 in
set_option maxHeartbeats 4000000 in
theorem refBy (w : World) (s : Sp) (x y : Nm) (k k1 k2 b : Nat) (a : Int × Int) (n d : Int) (hs : SpAt w s k a.1 a.2) (hx : IntAt w x.neg x.a x.n x.cap k1 n) (hy : IntAt w y.neg y.a y.n y.cap k2 d) (hk : k ≤ 100000000) (hk1 : k1 ≤ 100000000) (hk2 : k2 ≤ 100000000) (hd : 0 < d) (hbits : s.bits = (b : Int)) :
    Calls Try.prog 64 #[.agg #[.bool s.ln, .slice s.la s.lN s.lc, .bool s.hn, .slice s.ha s.hN s.hc, .int .i64 s.bits], .agg #[.bool x.neg, .slice x.a x.n x.cap], .agg #[.bool y.neg, .slice y.a y.n y.cap]] w (SpanAns w b (k + k1 + 9) (byI a n d).1 (byI a n d).2) := by
  obtain ⟨W, hW⟩ : ∃ W, W = (((w.alloc (.cells #[.bool s.ln, .slice s.la s.lN s.lc, .bool s.hn, .slice s.ha s.hN s.hc, .int .i64 s.bits] 38)).alloc (.cells #[.bool x.neg, .slice x.a x.n x.cap] 24)).alloc (.cells #[.bool y.neg, .slice y.a y.n y.cap] 24)).alloc (.cells #[.bool false, .slice none 0 0, .bool false, .slice none 0 0, .int .i64 0] 38) := ⟨_, rfl⟩
  have hBW : Below w.heap.size w W := by rw [hW]; exact bl4 _ _ _ _ _
  have A : SpC W w.heap.size s := by rw [hW]; exact ⟨by simp [go_sem], by simp [go_sem], by simp [go_sem], by simp [go_sem], by simp [go_sem]⟩
  have X : NmC W (w.heap.size + 1) x := by rw [hW]; exact ⟨by simp [go_sem], by simp [go_sem]⟩
  have Y : NmC W (w.heap.size + 1 + 1) y := by rw [hW]; exact ⟨by simp [go_sem], by simp [go_sem]⟩
  have R : NoC W (w.heap.size + 1 + 1 + 1) := by rw [hW]; exact ⟨by simp [go_sem], by simp [go_sem], by simp [go_sem], by simp [go_sem], by simp [go_sem], fun o => by simp [go_sem]⟩
  have HS := hide (hs.below hBW)
  have HX := hide (hx.below hBW)
  have HY := hide (hy.below hBW)
  have HB := hide hbits
  have HK := hide (show ∀ w', Below W.heap.size W w' → (w'.cell? ⟨w.heap.size, 0, none⟩ = some (.bool s.ln) ∧ w'.cell? ⟨w.heap.size, 1, none⟩ = some (.slice s.la s.lN s.lc) ∧ w'.cell? ⟨w.heap.size, 2, none⟩ = some (.bool s.hn) ∧ w'.cell? ⟨w.heap.size, 3, none⟩ = some (.slice s.ha s.hN s.hc) ∧ w'.cell? ⟨w.heap.size + 1, 0, none⟩ = some (.bool x.neg) ∧ w'.cell? ⟨w.heap.size + 1, 1, none⟩ = some (.slice x.a x.n x.cap)) from fun w' hB => ⟨(A.below hB).c0, (A.below hB).c1, (A.below hB).c2, (A.below hB).c3, (X.below hB).c0, (X.below hB).c1⟩)
  clear hs hx hy hbits
  go_enter Try.func64, Try.ntmps64
  go_wp2
  rw [← hW]
  clear hW
  obtain ⟨x0, x1, x2, x3, x4, x5⟩ := unhide HK _ (Below.refl _ _)
  have hB0 : Below W.heap.size W W.drew := (Below.refl _ _).drew
  go_region_held3 (fun w' => w'.cell? ⟨w.heap.size, 0, none⟩ = some (.bool s.ln) ∧ w'.cell? ⟨w.heap.size, 1, none⟩ = some (.slice s.la s.lN s.lc) ∧ w'.cell? ⟨w.heap.size, 2, none⟩ = some (.bool s.hn) ∧ w'.cell? ⟨w.heap.size, 3, none⟩ = some (.slice s.ha s.hN s.hc) ∧ w'.cell? ⟨w.heap.size + 1, 0, none⟩ = some (.bool x.neg) ∧ w'.cell? ⟨w.heap.size + 1, 1, none⟩ = some (.slice x.a x.n x.cap)) (exact unhide HK _ (by first | with_reducible exact hB0 | with_reducible exact balloc hB2 _ | with_reducible exact hB2 | with_reducible exact hB1))
    (first
      | (go_at_call 52; have hq := hB1; refine (mul_int _ _ _ _ _ _ _ _ k k1 a.2 n _ ((unhide HS).hi.below hB1) ((unhide HX).below hB1) (by omega) (by omega)).mono ?_; rintro r w2 ⟨neg2, a2, n2, c2, rfl, hint2, hb2⟩; have hint1 := hint1.below hb2; have hB2 := bthen hB1 hb2)
      | (go_at_call 52; refine (mul_int _ _ _ _ _ _ _ _ k k1 a.1 n _ ((unhide HS).lo.below hB0) ((unhide HX).below hB0) (by omega) (by omega)).mono ?_; rintro r w1 ⟨neg1, a1, n1, c1, rfl, hint1, hb1⟩; have hB1 := bthen hB0 hb1))
  obtain ⟨w5, hw5⟩ : ∃ w5, w5 = w2.alloc (.cells #[.bool neg1, .slice a1 n1 c1, .bool neg2, .slice a2 n2 c2] 24) := ⟨_, rfl⟩
  have hB5 : Below W.heap.size W w5 := by rw [hw5]; exact balloc hB2 _
  have hN : Nums w5 w2.heap.size 2 (k + k1) (pr ⟨neg1, a1, n1, c1⟩ ⟨neg2, a2, n2, c2⟩) (pr (a.1 * n) (a.2 * n)) := by rw [hw5]; exact nums2' w2 _ rfl ⟨neg1, a1, n1, c1⟩ ⟨neg2, a2, n2, c2⟩ _ _ _ _ hint1 hint2
  have R5 := R.below hB5
  have hl1 := R5.lt
  have A5 := A.below hB5
  have Y5 := Y.below hB5
  have HY5 := hide ((unhide HY).below hB5)
  have lA := A5.lt
  have lY := Y5.lt
  have HK1 := hide (show ∀ w', Below w5.heap.size w5 w' → (w'.cell? ⟨w.heap.size + 1 + 1, 0, none⟩ = some (.bool y.neg) ∧ w'.cell? ⟨w.heap.size + 1 + 1, 1, none⟩ = some (.slice y.a y.n y.cap) ∧ w'.cell? ⟨w.heap.size, 4, none⟩ = some (.int .i64 s.bits)) from fun w' hB => ⟨(Y5.below hB).c0, (Y5.below hB).c1, (A5.below hB).c4⟩)
  have hD0 : Below w5.heap.size w5 w5.drew := (Below.refl _ _).drew
  clear x0 x1 x2 x3 x4 x5 hb1 hb2 hint1 hint2 hB1 hB2 hB0 HK HS HX HY A X Y R
  go_wp2
  rw [← hw5]
  clear hw5
  obtain ⟨x0, x1, x2⟩ := unhide HK1 _ (Below.refl _ _)
  have n1 : w.heap.size + 1 + 1 + 1 ≠ w.heap.size + 1 + 1 := by omega
  have n2 : w.heap.size + 1 + 1 ≠ w.heap.size + 1 + 1 + 1 := by omega
  have n3 : w.heap.size + 1 + 1 + 1 ≠ w.heap.size := by omega
  have n4 : w.heap.size ≠ w.heap.size + 1 + 1 + 1 := by omega
  go_region_held3 (fun w' => w'.cell? ⟨w.heap.size + 1 + 1, 0, none⟩ = some (.bool y.neg) ∧ w'.cell? ⟨w.heap.size + 1 + 1, 1, none⟩ = some (.slice y.a y.n y.cap) ∧ w'.cell? ⟨w.heap.size, 4, none⟩ = some (.int .i64 s.bits)) (first | exact unhide HK1 _ (by first | with_reducible exact hD0 | with_reducible exact hD4 | with_reducible exact hD3 | with_reducible exact hD2 | with_reducible exact hD1) | go_keep)
    (first
      | (go_at_call 100; have hq := hD3; refine (refUp_any _ _ _ _ _ _ _ _ (k + k1) k2 _ d _ hint8 ((unhide HY5).below hD3) (by omega) (by omega) hd).mono ?_; rintro r w9 ⟨neg9, a9, n9, c9, rfl, hint9, hb9⟩; have hint7 := (hint7.below hb8).below hb9; have hD4 := bthen hD3 hb9; obtain ⟨q0, q1, q2, q3, q4, q5⟩ := R5.below hD4; obtain ⟨y0, y1, y2⟩ := unhide HK1 _ hD4)
      | (go_at_call 92; have hq := hD2; refine (greatest_int _ 1 _ (k + k1) _ _ _ (hN.below hD2) (by omega)).mono ?_; rintro r w8 ⟨neg8, a8, n8, c8, rfl, hint8, hb8⟩; have hD3 := bthen hD2 hb8)
      | (go_at_call 99; have hq := hD1; refine (refDown_any _ _ _ _ _ _ _ _ (k + k1) k2 _ d _ hint6 ((unhide HY5).below hD1) (by omega) (by omega) hd).mono ?_; rintro r w7 ⟨neg7, a7, n7, c7, rfl, hint7, hb7⟩; have hD2 := bthen hD1 hb7)
      | (go_at_call 91; refine (least_int _ 1 _ (k + k1) _ _ _ (hN.below hD0) (by omega)).mono ?_; rintro r w6 ⟨neg6, a6, n6, c6, rfl, hint6, hb6⟩; have hD1 := bthen hD0 hb6))
  all_goals
    go_wp2_with fail
    refine bodyPost_ret (v := .agg #[.bool neg7, .slice a7 n7 c7, .bool neg9, .slice a9 n9 c9, .int .i64 s.bits]) (by simp [results, Try.results64, go_sem, q0, q1, q2, q3, q4]) rfl ⟨⟨neg7, a7, n7, c7, neg9, a9, n9, c9, s.bits⟩, rfl, unhide HB, ?_, ?_⟩
    · exact SpAt.put5 ⟨hint7.mono (by omega), hint9.mono (by omega)⟩ q0 q1 q2 q3 q4 _ _ _ _ _
    · exact set5 (bthen (bthen hBW hB5) hD4) (by omega) _ _ _ _ _
end Go.Proofs.Ytgmnknmjainabaa

namespace Go.Proofs.Ytgmnknmjainabaa
set_option linter.unusedVariables false
open Ex

theorem Iv.le {B : Nat} {a : Int × Int} {x : Nat → Rat} (h : Iv B a x) : a.1 ≤ a.2 :=
  Int.le_of_mul_le_mul_right (h.touch h) (by have := Q_pos B; omega)
theorem Iv.neg {B : Nat} {a : Int × Int} {x : Nat → Rat} (h : Iv B a x) : Iv B (-a.2, -a.1) (fun M => -x M) := by
  have q := Qr_pos B
  intro e he
  obtain ⟨N, hN⟩ := h e he
  refine ⟨N, fun M hM => ?_⟩
  obtain ⟨g1, g2⟩ := hN M hM
  have e1 : ((-a.2 : Int) : Rat) / (Q B : Rat) = -((a.2 : Rat) / (Q B : Rat)) := by rw [Rat.intCast_neg, Rat.div_def, Rat.div_def, Rat.neg_mul]
  have e2 : ((-a.1 : Int) : Rat) / (Q B : Rat) = -((a.1 : Rat) / (Q B : Rat)) := by rw [Rat.intCast_neg, Rat.div_def, Rat.div_def, Rat.neg_mul]
  simp only []
  rw [e1, e2]
  constructor <;> grind
theorem byI_neg {a : Int × Int} {n d : Int} (ha : a.1 ≤ a.2) (hn : n < 0) : byI a n d = scaleI (-a.2, -a.1) (-n) d := by
  have h := Int.mul_le_mul_of_nonpos_right ha (show n ≤ 0 by omega)
  have e1 : leastZ (pr (a.1 * n) (a.2 * n)) 1 = a.2 * n := by
    simp only [leastZ, pr]; simp; omega
  have e2 : mostZ (pr (a.1 * n) (a.2 * n)) 1 = a.1 * n := by
    simp only [mostZ, pr]; simp; omega
  unfold byI scaleI
  rw [e1, e2]
  simp only []
  rw [show -a.2 * -n = a.2 * n by grind, show -a.1 * -n = a.1 * n by grind]
theorem Iv.by_ {B : Nat} {a : Int × Int} {x : Nat → Rat} (h : Iv B a x) (n : Int) {d : Int} (hd : 0 < d) : Iv B (byI a n d) (fun M => (n : Rat) / (d : Rat) * x M) := by
  by_cases hn : n < 0
  · rw [byI_neg h.le hn]
    refine (h.neg.scale (n := -n) (by omega) hd).congr (null_zero.of_eq fun M => ?_)
    have e : ((-n : Int) : Rat) / (d : Rat) = -((n : Rat) / (d : Rat)) := by rw [Rat.intCast_neg, Rat.div_def, Rat.div_def, Rat.neg_mul]
    rw [e]; grind
  · rw [byI_nonneg h.le (by omega)]
    exact h.scale (by omega) hd
theorem byI_abs {a : Int × Int} {m p n d c : Int} (h : Abs a m) (hd : 0 < d) (h1 : -c ≤ n) (h2 : n ≤ c) (hp : m * c ≤ p * d) : Abs (byI a n d) p := by
  obtain ⟨g1, g2, g3, g4⟩ := h
  obtain ⟨k1, k2⟩ := abs_mul g1 g2 h1 h2
  obtain ⟨k3, k4⟩ := abs_mul g3 g4 h1 h2
  have f1 : leastZ (pr (a.1 * n) (a.2 * n)) 1 = a.1 * n ∨ leastZ (pr (a.1 * n) (a.2 * n)) 1 = a.2 * n := by
    simp only [leastZ, pr]; simp; omega
  have f2 : mostZ (pr (a.1 * n) (a.2 * n)) 1 = a.1 * n ∨ mostZ (pr (a.1 * n) (a.2 * n)) 1 = a.2 * n := by
    simp only [mostZ, pr]; simp; omega
  have r1 := round_abs (x := leastZ (pr (a.1 * n) (a.2 * n)) 1) (m := p) hd (by omega) (by omega)
  have r2 := round_abs (x := mostZ (pr (a.1 * n) (a.2 * n)) 1) (m := p) hd (by omega) (by omega)
  exact ⟨r1.1, r1.2.1, r2.2.2.1, r2.2.2.2⟩
theorem byI_le {a : Int × Int} {n d : Int} (ha : a.1 ≤ a.2) (hd : 0 < d) : (byI a n d).1 ≤ (byI a n d).2 := by
  by_cases hn : n < 0
  · rw [byI_neg ha hn]; exact scaleI_le (by simp only []; omega) hd (by omega)
  · rw [byI_nonneg ha (by omega)]; exact scaleI_le ha hd (by omega)

theorem half_div (p : Int) (n : Nat) : 2 * (p / Q (n + 1)) ≤ p / Q n ∧ p / Q n ≤ 2 * (p / Q (n + 1)) + 1 := by
  have q := Q_pos n
  have e : p / Q (n + 1) = p / Q n / 2 := by
    rw [show Q (n + 1) = Q n * 2 by show 2 * Q n = _; omega, ← Int.ediv_ediv_of_nonneg (by omega)]
  rw [e]; omega
theorem npT_fall {B : Nat} {z : Int × Int} {p : Int} (h : Abs z p) (hp : 4 * p ≤ Q B) (n : Nat) : Abs (npT B z n) (p / Q n + 2) := by
  have p0 := h.nonneg
  induction n with
  | zero =>
    have e : Q 0 = 1 := rfl
    rw [e, Int.ediv_one]; exact h.mono (by omega)
  | succ n ih =>
    obtain ⟨h1, h2⟩ := half_div p n
    have x0 : 0 ≤ p / Q n := Int.ediv_nonneg p0 (by have := Q_pos n; omega)
    refine mulI_abs ih h ?_
    have g1 := Int.mul_le_mul_of_nonneg_left hp (show 0 ≤ p / Q n + 2 by omega)
    have g2 := Int.mul_le_mul_of_nonneg_right (show p / Q n + 2 ≤ 4 * (p / Q (n + 1) + 2) by omega) (show 0 ≤ Q B by have := Q_pos B; omega)
    have e1 : (p / Q n + 2) * (4 * p) = 4 * ((p / Q n + 2) * p) := by grind
    have e2 : 4 * (p / Q (n + 1) + 2) * Q B = 4 * ((p / Q (n + 1) + 2) * Q B) := by grind
    omega
theorem Abs.sub {a b : Int × Int} {m n : Int} (h : Abs a m) (k : Abs b n) : Abs (subI a b) (m + n) := by
  obtain ⟨h1, h2, h3, h4⟩ := h
  obtain ⟨k1, k2, k3, k4⟩ := k
  exact ⟨by unfold subI; simp only []; omega, by unfold subI; simp only []; omega, by unfold subI; simp only []; omega, by unfold subI; simp only []; omega⟩
theorem nsT_fall {B : Nat} {z : Int × Int} {p : Int} (h : Abs z p) (hp : 4 * p ≤ Q B) (n : Nat) : Abs (nsT B z n) (2 * p - p / Q n + 2 * n) := by
  induction n with
  | zero =>
    have e : Q 0 = 1 := rfl
    rw [e, Int.ediv_one]; exact h.mono (by omega)
  | succ n ih =>
    obtain ⟨h1, h2⟩ := half_div p n
    have hs := scaleI_abs (n := 1) (d := (n : Int) + 2) (npT_fall h hp (n + 1)) (by omega) (by omega) (by omega)
    unfold nsT
    split
    · exact (ih.sub hs).mono (by omega)
    · exact (ih.add hs).mono (by omega)
theorem Q_lin (B : Nat) (h : 20 ≤ B) : 1024 * (B : Int) + 4096 ≤ Q B := by
  obtain ⟨j, rfl⟩ : ∃ j, B = 20 + j := ⟨B - 20, by omega⟩
  clear h
  induction j with
  | zero => have e : Q (20 + 0) = 1048576 := rfl
            rw [e]; omega
  | succ j ih =>
    have e : Q (20 + (j + 1)) = 2 * Q (20 + j) := rfl
    rw [e]; omega
theorem scale256 (a : Int × Int) : scaleI a 256 1 = (256 * a.1, 256 * a.2) := by
  unfold scaleI
  simp only [Int.ediv_one, Int.neg_neg]
  rw [Int.mul_comm, Int.mul_comm a.2]
/-- The logarithm by eight roots is less than 3. -/
theorem rootLog_abs {B N i : Nat} {l : Nat → Rat} {a : Int × Int} (hB : 20 ≤ B) (h : RInv B l i a) (q8 : Q i = 256) (hN : N ≤ B + 20) : Abs (scaleI (addI (nsT B (a.1 - Q B, a.2 - Q B) N) (-2, 2)) 256 1) (3 * Q B) := by
  obtain ⟨h1, h2, h3, h4⟩ := h
  have qB : Q B = 256 * Q (B - 8) := by
    have := Q_add (B - 8) 8
    rw [show B - 8 + 8 = B by omega] at this
    have e : Q 8 = 256 := rfl
    rw [this, e, Int.mul_comm]
  have q8' : 4096 ≤ Q (B - 8) := by have := Q_mono (show 12 ≤ B - 8 by omega); have e : Q 12 = 4096 := rfl; omega
  rw [q8] at h4
  have hz : Abs (a.1 - Q B, a.2 - Q B) (Q (B - 8) + 2) := ⟨by simp only []; omega, by simp only []; omega, by simp only []; omega, by simp only []; omega⟩
  obtain ⟨f1, f2, f3, f4⟩ := nsT_fall (B := B) hz (by omega) N
  have hx : 0 ≤ (Q (B - 8) + 2) / Q N := Int.ediv_nonneg (by omega) (by have := Q_pos N; omega)
  have hl := Q_lin B hB
  rw [scale256]
  unfold addI
  exact ⟨by simp only []; omega, by simp only []; omega, by simp only []; omega, by simp only []; omega⟩
theorem downI_abs {a : Int × Int} {m p : Int} (t : Nat) (h : Abs a m) (hp : m ≤ p * Q t) : Abs (downI a t) p := by
  obtain ⟨g1, g2, g3, g4⟩ := h
  have q := Q_pos t
  have r1 := round_abs (x := a.1) (m := p) (q := Q t) (by omega) (by omega) (by omega)
  have r2 := round_abs (x := a.2) (m := p) (q := Q t) (by omega) (by omega) (by omega)
  exact ⟨r1.1, r1.2.1, r2.2.2.1, r2.2.2.2⟩
/-- The quotient between 1 and 2, and by how many twos it was brought there: first upwards j times, then i times. -/
theorem bal_of {n d n' d' : Int} {i j : Nat} (hn : 0 < n) (hd : 0 < d) (hn' : n' = n * Q j) (hd' : d' = d * Q i) (h1 : d' ≤ n') (h2 : n' < 2 * d') (h0 : j = 0 ∨ i = 0) : Bal n d n' d' ((i : Int) - (j : Int)) := by
  have qi := Q_pos i
  have qj := Q_pos j
  have p1 : 0 < n' := by rw [hn']; exact Int.mul_pos hn (by omega)
  have p2 : 0 < d' := by rw [hd']; exact Int.mul_pos hd (by omega)
  have e0 : Q 0 = 1 := rfl
  refine ⟨⟨p1, p2, by omega, by omega⟩, fun h => ?_, fun h => ?_⟩
  · have hj : j = 0 := by omega
    subst hj
    rw [show ((i : Int) - ((0 : Nat) : Int)).toNat = i by omega, hn', hd', e0, Int.mul_one, Int.mul_assoc]
  · have hi : i = 0 := by omega
    subst hi
    rw [show (-(((0 : Nat) : Int) - (j : Int))).toNat = j by omega, hn', hd', e0, Int.mul_one]; grind
theorem steps_lo {n d : Int} {j J : Nat} (hn : 0 < n) (h : n * Q j < d) (hJ : d ≤ n * Q J) : j < J := by
  refine Nat.lt_of_not_le fun hn' => ?_
  have := Int.mul_le_mul_of_nonneg_left (Q_mono hn') (show 0 ≤ n by omega)
  omega
theorem isLog_two : Ex.IsLog (fun M => 2 * Ex.Az (zR 2 1) M) (fun _ => (2 : Rat)) := by
  have h := ln_isLog (n := 2) (d := 1) ⟨by omega, by omega, by omega, by omega⟩
  refine h.congr_r (Ex.null_zero.of_eq fun M => ?_)
  have e : ((2 : Int) : Rat) / ((1 : Int) : Rat) = 2 := by decide +kernel
  rw [e]; grind
end Go.Proofs.Ytgmnknmjainabaa

namespace Go.Proofs.Ytgmnknmjainabaa
set_option linter.unusedVariables false
open Ex

namespace Ex
theorem low_null {c : Rat} {x : Nat → Rat} (h : ∀ e, 0 < e → ∃ N, ∀ M, N ≤ M → c - e ≤ x M) : ∃ z, Null z ∧ ∀ M, c ≤ x M + z M := by
  refine ⟨fun M => if c ≤ x M then 0 else c - x M, fun e he => ?_, fun M => ?_⟩
  · obtain ⟨N, hN⟩ := h e he
    refine ⟨N, fun M hM => ?_⟩
    have := hN M hM
    show AB (if c ≤ x M then 0 else c - x M) e
    split
    · constructor <;> grind
    · constructor <;> grind
  · show c ≤ x M + (if c ≤ x M then 0 else c - x M)
    split <;> grind
theorem high_null {c : Rat} {x : Nat → Rat} (h : ∀ e, 0 < e → ∃ N, ∀ M, N ≤ M → x M ≤ c + e) : ∃ z, Null z ∧ ∀ M, x M ≤ c + z M := by
  obtain ⟨z, h1, h2⟩ := low_null (c := -c) (x := fun M => -x M) (fun e he => by
    obtain ⟨N, hN⟩ := h e he
    exact ⟨N, fun M hM => by have := hN M hM; grind⟩)
  exact ⟨z, h1, fun M => by have := h2 M; grind⟩
end Ex
theorem expOf_has2 {B : Nat} {s u v : Int × Int} {x : Nat → Rat} (hb : Bdd x) (h : Iv B s x) (hu : Iv B u (Ev (fun _ => (s.1 : Rat) / (Q B : Rat)))) (hv : Iv B v (Ev (fun _ => (s.2 : Rat) / (Q B : Rat)))) : Iv B (u.1, v.2) (Ev x) := by
  obtain ⟨z, hz, h1⟩ := low_null (c := (s.1 : Rat) / (Q B : Rat)) (x := x) (fun e he => by
    obtain ⟨N, hN⟩ := h e he
    exact ⟨N, fun M hM => (hN M hM).1⟩)
  obtain ⟨z', hz', h2⟩ := high_null (c := (s.2 : Rat) / (Q B : Rat)) (x := x) (fun e he => by
    obtain ⟨N, hN⟩ := h e he
    exact ⟨N, fun M hM => (hN M hM).2⟩)
  obtain ⟨m, hm, N, h3⟩ := Ev_mono (Bdd.const ((s.1 : Rat) / (Q B : Rat))) hb hz 0 (fun M _ => h1 M)
  obtain ⟨n, hn, N', h4⟩ := Ev_mono hb (Bdd.const ((s.2 : Rat) / (Q B : Rat))) hz' 0 (fun M _ => h2 M)
  exact has_between hu hv hm hn N h3 N' h4
end Go.Proofs.Ytgmnknmjainabaa

namespace Go.Proofs.Ytgmnknmjainabaa
set_option linter.unusedVariables false
open Ex

theorem dbl {b : Int} (m : Nat) : ∀ {a : Int}, 0 < a → a ≤ b → b - a ≤ (m : Int) → ∃ i, a * Q i ≤ b ∧ b < 2 * (a * Q i) := by
  have e0 : Q 0 = 1 := rfl
  induction m with
  | zero =>
    intro a h1 h2 h3
    exact ⟨0, by rw [e0]; omega, by rw [e0]; omega⟩
  | succ m ih =>
    intro a h1 h2 h3
    by_cases h : b < 2 * a
    · exact ⟨0, by rw [e0]; omega, by rw [e0]; omega⟩
    · obtain ⟨i, g1, g2⟩ := ih (a := 2 * a) (by omega) (by omega) (by omega)
      have e : a * Q (i + 1) = 2 * a * Q i := by show a * (2 * Q i) = _; grind
      exact ⟨i + 1, by rw [e]; exact g1, by rw [e]; exact g2⟩
theorem bal_ex {n d : Int} (hn : 0 < n) (hd : 0 < d) : ∃ n' d' k, Bal n d n' d' k := by
  have e0 : Q 0 = 1 := rfl
  by_cases h : d ≤ n
  · obtain ⟨i, h1, h2⟩ := dbl (n - d).toNat hd h (by omega)
    exact ⟨n, _, _, bal_of (j := 0) (i := i) hn hd (by rw [e0]; omega) rfl h1 h2 (Or.inl rfl)⟩
  · obtain ⟨i, h1, h2⟩ := dbl (d - n).toNat hn (Int.le_of_lt (Int.not_le.1 h)) (by omega)
    by_cases h3 : n * Q i = d
    · exact ⟨_, d, _, bal_of (j := i) (i := 0) hn hd rfl (by rw [e0]; omega) (by omega) (by omega) (Or.inr rfl)⟩
    · have e : n * Q (i + 1) = 2 * (n * Q i) := by show n * (2 * Q i) = _; grind
      exact ⟨_, d, _, bal_of (j := i + 1) (i := 0) hn hd rfl (by rw [e0]; omega) (by omega) (by omega) (Or.inr rfl)⟩
theorem log_ex {n d : Int} (hn : 0 < n) (hd : 0 < d) : ∃ l, IsLog l (fun _ => (n : Rat) / (d : Rat)) := by
  obtain ⟨n', d', k, h⟩ := bal_ex hn hd
  exact ⟨_, bal_isLog hd h (ln_isLog h.1) isLog_two⟩

theorem E3 (j : Nat) : (16 : Rat) ≤ E 3 (5 + j) := by
  induction j with
  | zero => decide +kernel
  | succ j ih =>
    have e : E 3 (5 + (j + 1)) = E 3 (5 + j) + tm 3 (5 + j) := rfl
    have := tm_nonneg (show (0 : Rat) ≤ 3 by decide) (5 + j)
    rw [e]; grind
theorem rat_le {p q c : Int} (hq : 0 < q) (h : p ≤ c * q) : (p : Rat) / (q : Rat) ≤ (c : Rat) := by
  have q0 : (0 : Rat) < (q : Rat) := by exact_mod_cast hq
  refine rdiv_le q0 ?_
  have := cast_le h
  rw [Rat.intCast_mul] at this
  exact this
theorem log_hi {l : Nat → Rat} {p q : Int} (h : IsLog l (fun _ => (p : Rat) / (q : Rat))) (hq : 0 < q) (hpq : p ≤ 16 * q) (e : Rat) (he : 0 < e) : ∃ N, ∀ M, N ≤ M → l M ≤ 3 + e := by
  have h16 : (p : Rat) / (q : Rat) ≤ 16 := rat_le hq hpq
  refine Ev_back (y := fun _ => 3) h.1 (Bdd.const 3) h.2 5 (fun M hM => ?_) e he
  obtain ⟨j, rfl⟩ : ∃ j, M = 5 + j := ⟨M - 5, by omega⟩
  have := E3 j
  show Ev l (5 + j) ≤ E 3 (5 + j) + (Ev l (5 + j) - (p : Rat) / (q : Rat))
  grind
theorem frac_inv {p q : Int} (hp : 0 < p) (hq : 0 < q) : (q : Rat) / (p : Rat) * ((p : Rat) / (q : Rat)) = 1 := by
  have p0 : (0 : Rat) < (p : Rat) := by exact_mod_cast hp
  have q0 : (0 : Rat) < (q : Rat) := by exact_mod_cast hq
  have e1 := rdm (a := (q : Rat)) p0
  have e2 := rdm (a := (p : Rat)) q0
  generalize (q : Rat) / (p : Rat) = u at *
  generalize (p : Rat) / (q : Rat) = v at *
  have : (u * v - 1) * (q : Rat) = 0 := by grind
  rcases Rat.mul_eq_zero.1 this with h | h <;> grind
theorem IsLog.inv {l : Nat → Rat} {p q : Int} (hp : 0 < p) (hq : 0 < q) (h : IsLog l (fun _ => (p : Rat) / (q : Rat))) : IsLog (fun M => -l M) (fun _ => (q : Rat) / (p : Rat)) :=
  h.neg (Bdd.const _) 0 (fun M _ => frac_inv hp hq)
theorem three_iv (B : Nat) : Iv B (3 * Q B, 3 * Q B) (fun _ => 3) := by
  have h := (Iv.of B (n := 3) (d := 1) (by decide))
  have e : ofI 3 1 B = (3 * Q B, 3 * Q B) := by unfold ofI; simp only [Int.ediv_one, Int.neg_neg]
  rw [e] at h
  have e2 : ((3 : Int) : Rat) / ((1 : Int) : Rat) = 3 := by decide +kernel
  rw [e2] at h
  exact h
/-- A span that has the logarithm of a ratio from 1/16 to 16. -/
theorem log_span {B : Nat} {a : Int × Int} {l : Nat → Rat} {p q W : Int} (h : IsLog l (fun _ => (p : Rat) / (q : Rat))) (hp : 0 < p) (hq : 0 < q) (h1 : p ≤ 16 * q) (h2 : q ≤ 16 * p) (hi : Iv B a l) (hw : a.2 - a.1 ≤ W) : Abs a (3 * Q B + W) := by
  obtain ⟨z, hz, g1⟩ := high_null (c := 3) (x := l) (log_hi h hq h1)
  obtain ⟨z', hz', g2⟩ := high_null (c := 3) (x := fun M => -l M) (log_hi (IsLog.inv hp hq h) hp h2)
  have t1 := hi.touch_le (three_iv B) hz 0 (fun M _ => g1 M)
  have t2 := hi.neg.touch_le (three_iv B) hz' 0 (fun M _ => g2 M)
  have := hi.le
  simp only [] at t1 t2
  exact ⟨by omega, by omega, by omega, by omega⟩

theorem pw_frac {n d : Int} (hd : 0 < d) (K : Nat) : pw ((n : Rat) / (d : Rat)) K = ((n ^ K : Int) : Rat) / ((d ^ K : Int) : Rat) := by
  have d0 : (0 : Rat) < (d : Rat) := by exact_mod_cast hd
  induction K with
  | zero =>
    have e1 : pw ((n : Rat) / (d : Rat)) 0 = 1 := rfl
    rw [e1, Int.pow_zero, Int.pow_zero]; decide +kernel
  | succ K ih =>
    have e1 : pw ((n : Rat) / (d : Rat)) (K + 1) = (n : Rat) / (d : Rat) * pw ((n : Rat) / (d : Rat)) K := rfl
    have dk : (0 : Int) < d ^ K := Int.pow_pos hd
    have dk0 : (0 : Rat) < ((d ^ K : Int) : Rat) := by exact_mod_cast dk
    rw [e1, ih, Int.pow_succ, Int.pow_succ, Rat.intCast_mul, Rat.intCast_mul]
    have f1 := rdm (a := (n : Rat)) d0
    have f2 := rdm (a := ((n ^ K : Int) : Rat)) dk0
    have f3 := rdm (a := ((n ^ K : Int) : Rat) * (n : Rat)) (show (0 : Rat) < ((d ^ K : Int) : Rat) * (d : Rat) from Rat.mul_pos dk0 d0)
    generalize (n : Rat) / (d : Rat) = u at *
    generalize ((n ^ K : Int) : Rat) / ((d ^ K : Int) : Rat) = v at *
    generalize ((n ^ K : Int) : Rat) * (n : Rat) / (((d ^ K : Int) : Rat) * (d : Rat)) = t at *
    have : (u * v - t) * (((d ^ K : Int) : Rat) * (d : Rat)) = 0 := by grind
    rcases Rat.mul_eq_zero.1 this with h | h
    · grind
    · have := Rat.mul_pos dk0 d0
      grind
theorem frac_eq {a b c d : Int} (hb : 0 < b) (hd : 0 < d) (h : a * d = c * b) : (a : Rat) / (b : Rat) = (c : Rat) / (d : Rat) := by
  have b0 : (0 : Rat) < (b : Rat) := by exact_mod_cast hb
  have d0 : (0 : Rat) < (d : Rat) := by exact_mod_cast hd
  have f1 := rdm (a := (a : Rat)) b0
  have f2 := rdm (a := (c : Rat)) d0
  have f3 : ((a * d : Int) : Rat) = ((c * b : Int) : Rat) := by rw [h]
  rw [Rat.intCast_mul, Rat.intCast_mul] at f3
  generalize (a : Rat) / (b : Rat) = u at *
  generalize (c : Rat) / (d : Rat) = v at *
  have : (u - v) * ((b : Rat) * (d : Rat)) = 0 := by grind
  rcases Rat.mul_eq_zero.1 this with g | g
  · grind
  · have := Rat.mul_pos b0 d0
    grind
/-- A ratio whose root is a ratio: its power by a ratio is a power of the root. -/
theorem root_log {l : Nat → Rat} {p q n d kn kd c : Int} {j : Nat} (hl : IsLog l (fun _ => (p : Rat) / (q : Rat))) (hq : 0 < q) (hn : 0 < n) (hd : 0 < d) (hj : 0 < j) (hkd : 0 < kd) (hr : n ^ j * q = p * d ^ j) (hk : kn * (j : Int) = c * kd) :
    ∃ m, IsLog m (fun _ => (n : Rat) / (d : Rat)) ∧ Null (fun M => (c : Rat) * m M - (kn : Rat) / (kd : Rat) * l M) := by
  obtain ⟨m, hm⟩ := log_ex hn hd
  have dj : (0 : Int) < d ^ j := Int.pow_pos hd
  have h1 := hm.times j
  have e1 : (fun M => pw ((fun _ => (n : Rat) / (d : Rat)) M) j) = fun (_ : Nat) => (p : Rat) / (q : Rat) := funext fun M => by
    show pw ((n : Rat) / (d : Rat)) j = _
    rw [pw_frac hd]
    exact frac_eq dj hq hr
  rw [e1] at h1
  have h2 := h1.uniq hl
  have e2 : (kn : Rat) / (kd : Rat) = (c : Rat) / (j : Rat) := frac_eq (b := kd) (d := (j : Int)) hkd (by omega) hk
  have j0 : (0 : Rat) < (j : Rat) := by exact_mod_cast hj
  refine ⟨m, hm, (h2.bmul (Bdd.const ((c : Rat) / (j : Rat)))).of_eq fun M => ?_⟩
  rw [e2]
  have f := rdm (a := (c : Rat)) j0
  show (c : Rat) * m M - (c : Rat) / (j : Rat) * l M = ((j : Rat) * m M - l M) * ((c : Rat) / (j : Rat))
  generalize (c : Rat) / (j : Rat) = u at *
  rw [← f]; grind
theorem root_up {l : Nat → Rat} {p q n d kn kd : Int} {j K : Nat} (hl : IsLog l (fun _ => (p : Rat) / (q : Rat))) (hq : 0 < q) (hn : 0 < n) (hd : 0 < d) (hj : 0 < j) (hkd : 0 < kd) (hr : n ^ j * q = p * d ^ j) (hk : kn * (j : Int) = (K : Int) * kd) :
    IsLog (fun M => (kn : Rat) / (kd : Rat) * l M) (fun _ => ((n ^ K : Int) : Rat) / ((d ^ K : Int) : Rat)) := by
  obtain ⟨m, hm, h⟩ := root_log hl hq hn hd hj hkd hr hk
  have h1 := hm.times K
  have e1 : (fun M => pw ((fun _ => (n : Rat) / (d : Rat)) M) K) = fun (_ : Nat) => ((n ^ K : Int) : Rat) / ((d ^ K : Int) : Rat) := funext fun M => pw_frac hd K
  rw [e1] at h1
  exact h1.congr h
theorem root_down {l : Nat → Rat} {p q n d kn kd : Int} {j K : Nat} (hl : IsLog l (fun _ => (p : Rat) / (q : Rat))) (hq : 0 < q) (hn : 0 < n) (hd : 0 < d) (hj : 0 < j) (hkd : 0 < kd) (hr : n ^ j * q = p * d ^ j) (hk : kn * (j : Int) = -(K : Int) * kd) :
    IsLog (fun M => (kn : Rat) / (kd : Rat) * l M) (fun _ => ((d ^ K : Int) : Rat) / ((n ^ K : Int) : Rat)) := by
  obtain ⟨m, hm, h⟩ := root_log hl hq hn hd hj hkd hr hk
  have h1 := hm.times K
  have e1 : (fun M => pw ((fun _ => (n : Rat) / (d : Rat)) M) K) = fun (_ : Nat) => ((n ^ K : Int) : Rat) / ((d ^ K : Int) : Rat) := funext fun M => pw_frac hd K
  rw [e1] at h1
  refine (IsLog.inv (Int.pow_pos hn) (Int.pow_pos hd) h1).congr (h.of_eq fun M => ?_)
  have e : ((-(K : Int) : Int) : Rat) = -(K : Rat) := by rw [Rat.intCast_neg]; rfl
  rw [e]; grind
/-- How great a power is whose root is known. -/
theorem pow_bound {n d j K : Nat} (hj : 0 < j) (h : n ^ j ≤ 16 * d ^ j) (hK : K ≤ 100 * j) : n ^ K ≤ 16 ^ 100 * d ^ K := by
  refine Nat.not_lt.1 fun hlt => ?_
  have h1 : (16 ^ 100 * d ^ K) ^ j < (n ^ K) ^ j := Nat.pow_lt_pow_left hlt (by omega)
  have h2 : (n ^ K) ^ j = (n ^ j) ^ K := by rw [← Nat.pow_mul, ← Nat.pow_mul, Nat.mul_comm]
  have h3 : (n ^ j) ^ K ≤ (16 * d ^ j) ^ K := Nat.pow_le_pow_left h K
  have h4 : (16 * d ^ j) ^ K = 16 ^ K * (d ^ K) ^ j := by rw [Nat.mul_pow, ← Nat.pow_mul, ← Nat.pow_mul, Nat.mul_comm j K]
  have h5 : 16 ^ K ≤ (16 ^ 100) ^ j := by rw [← Nat.pow_mul]; exact Nat.pow_le_pow_right (by decide) hK
  have h6 : (16 ^ 100 * d ^ K) ^ j = (16 ^ 100) ^ j * (d ^ K) ^ j := Nat.mul_pow _ _ _
  have h7 := Nat.mul_le_mul_right ((d ^ K) ^ j) h5
  omega
end Go.Proofs.Ytgmnknmjainabaa

namespace Go.Proofs.Ytgmnknmjainabaa
set_option linter.unusedVariables false
open Go

section
variable {Pg : Program} {ops : Array Oper} {Q : Exit → Act → World → Prop} {md : Region.Mode} {S : World → Prop} {l : Nat}

/-- Whatever order is picked from here on, and S holds behind every operation but the one of number l. -/
def AnyL (Pg : Program) (md : Region.Mode) (ops : Array Oper) (Q : Exit → Act → World → Prop) (S : World → Prop) (l : Nat) : Nat → Array Bool → Act → World → Prop
  | 0, listed, a, w => Region.ready md ops listed = [] ∧ Q .normal a w
  | fuel + 1, listed, a, w =>
    (Region.ready md ops listed = [] → Q .normal a w) ∧
    ∀ i ∈ Region.ready md ops listed, wpOp Pg ops Q i (fun a' w' => (i ≠ l → S w') ∧ AnyL Pg md ops Q S l fuel (listed.setIfInBounds i true) a' w') a w

theorem AnyL.any : ∀ (fuel : Nat) (listed : Array Bool) (a : Act) (w : World), AnyL Pg md ops Q S l fuel listed a w → wpAny Pg md ops Q fuel listed a w
  | 0, _, _, _, h => h
  | fuel + 1, _, _, _, h => ⟨h.1, fun i hi => wpOp_mono (fun a' w' h' => AnyL.any fuel _ a' w' h'.2) (h.2 i hi)⟩

/-- Number l waits for number i. -/
def waits (md : Region.Mode) (ops : Array Oper) (l i : Nat) : Bool :=
  match ops[l]? with
  | some o => o.after.any (fun e => Region.binds md e && e.on == i)
  | none => false

theorem waits_not {i : Nat} {listed : Array Bool} (hw : waits md ops l i = true) (hi : i ∈ Region.ready md ops listed) (hl : l ∈ Region.ready md ops listed) : False := by
  obtain ⟨_, ol, hol, hall⟩ := mem_ready.1 hl
  obtain ⟨h0, oi, hoi, _⟩ := mem_ready.1 hi
  unfold waits at hw
  rw [hol] at hw
  simp only [Array.any_eq_true'] at hw
  obtain ⟨e, he, h2⟩ := hw
  simp only [Bool.and_eq_true, beq_iff_eq] at h2
  have h1 := hall e he h2.1
  rw [h2.2] at h1
  rcases Nat.lt_or_ge i listed.size with h' | h'
  · simp [h'] at h0 h1; rw [h0] at h1; cases h1
  · simp [Array.getElem?_eq_none h'] at h1

theorem AnyL.first {i : Nat} {oi : Oper} {v : Value} (hi : ops[i]? = some oi) (hsel : ∀ (j : Nat) (o : Oper) cs b, ops[j]? = some o → o.op ≠ .select cs b)
    (hQ : ∀ c a w, Q (.panic c) (a.put oi.dst v) w → Q (.panic c) a w) (hwt : waits md ops l i = true) :
    ∀ (fuel : Nat) (listed : Array Bool) (a : Act) (w : World),
      (∀ j oj, ops[j]? = some oj → j ≠ i → listed.getD j true = false → (∀ e ∈ oj.after, Region.binds md e = true → e.on ≠ i) → oi.apart ops oj = true) →
      i ∈ Region.ready md ops listed → YieldsIf Pg ops S oi v a → S w →
      AnyL Pg md ops Q S l fuel (listed.setIfInBounds i true) (a.put oi.dst v) w → AnyL Pg md ops Q S l (fuel + 1) listed a w := by
  intro fuel
  induction fuel with
  | zero =>
    intro listed a w _ hr hy hS H
    refine ⟨fun h => (by rw [h] at hr; cases hr), fun j hj => ?_⟩
    by_cases hji : j = i
    · subst hji; exact hy.wpOp hi hS ⟨fun _ => hS, H⟩
    · have := ready_mono hj hji
      rw [H.1] at this
      cases this
  | succ fuel ih =>
    intro listed a w hfree hr hy hS H
    refine ⟨fun h => (by rw [h] at hr; cases hr), fun j hj => ?_⟩
    by_cases hji : j = i
    · subst hji; exact hy.wpOp hi hS ⟨fun _ => hS, H⟩
    · have hjl : j ≠ l := fun h => waits_not hwt hr (h ▸ hj)
      have h1 := H.2 j (ready_mono hj hji)
      obtain ⟨hjun, oj, hoj, hall⟩ := mem_ready.1 hj
      have hnot : ∀ e ∈ oj.after, Region.binds md e = true → e.on ≠ i := fun e he hb heq => by
        have h1 := hall e he hb
        have h0 := (mem_ready.1 hr).1
        rw [heq] at h1
        rcases Nat.lt_or_ge i listed.size with h' | h'
        · simp [h'] at h0 h1; rw [h0] at h1; cases h1
        · simp [Array.getElem?_eq_none h'] at h1
      have h2 := wpOp_putIf hoj (hfree j oj hoj hji hjun hnot) (fun cs b => hsel i oi cs b hi) (fun cs b => hsel j oj cs b hoj) hQ hy h1
      have hfree' : ∀ k ok, ops[k]? = some ok → k ≠ i → (listed.setIfInBounds j true).getD k true = false →
          (∀ e ∈ ok.after, Region.binds md e = true → e.on ≠ i) → oi.apart ops ok = true := fun k ok hk hki hun hno => by
        refine hfree k ok hk hki ?_ hno
        by_cases hjk : j = k
        · subst hjk; exact hjun
        · rw [getD_set_ne true hjk] at hun; exact hun
      refine wpOp_mono (fun a' w' h3 => ⟨fun _ => h3.2.1 hjl, ih (listed.setIfInBounds j true) a' w' hfree' (ready_mono hr (Ne.symm hji)) h3.1 (h3.2.1 hjl) ?_⟩) h2
      rw [Array.setIfInBounds_comm _ _ hji]
      exact h3.2.2

/-- Take number i first: it yields v in every world that meets S. -/
theorem AnyL.take {i : Nat} {oi : Oper} {v : Value} {fuel : Nat} {listed : Array Bool} {a : Act} {w : World} (hi : ops[i]? = some oi)
    (hs : Region.noSelect ops = true) (hf : Region.free md ops listed i = true) (hr : (Region.ready md ops listed).contains i = true) (hwt : waits md ops l i = true)
    (hQ : ∀ c a w, Q (.panic c) (a.put oi.dst v) w → Q (.panic c) a w) (hy : YieldsIf Pg ops S oi v a) (hS : S w)
    (h : AnyL Pg md ops Q S l fuel (listed.setIfInBounds i true) (a.put oi.dst v) w) : AnyL Pg md ops Q S l (fuel + 1) listed a w :=
  AnyL.first hi (Region.noSelect_spec hs) hQ hwt fuel listed a w (Region.free_spec hi hf) (by simpa using hr) hy hS h

/-- Just number i may come up, and it is not l. -/
theorem AnyL.one {i : Nat} {o : Oper} {fuel : Nat} {listed : Array Bool} {a : Act} {w : World} (hr : Region.ready md ops listed = [i]) (ho : ops[i]? = some o)
    (h : ∀ K' : Act → World → Prop, Shut (∀ a w, S w → (S w → AnyL Pg md ops Q S l fuel (listed.setIfInBounds i true) a w) → K' a w) → if Region.wanted o (yielded ops a.tmps) = true then Oper.wp Pg o a w K' Q else K' (a.put o.dst undef) w) :
    AnyL Pg md ops Q S l (fuel + 1) listed a w :=
  ⟨fun h0 => absurd (hr ▸ h0) (by simp), fun j hj => by
    rw [hr] at hj
    have hj' : j = i := by simpa using hj
    subst hj'
    exact wpOp_step ho (fun K' hK => h K' (fun a w hS hW => hK a w ⟨fun _ => hS, hW hS⟩))⟩

/-- Number l is the last. -/
theorem AnyL.last {o : Oper} {fuel : Nat} {listed : Array Bool} {a : Act} {w : World} (hr : Region.ready md ops listed = [l]) (ho : ops[l]? = some o)
    (hd : Region.ready md ops (listed.setIfInBounds l true) = [])
    (h : ∀ K' : Act → World → Prop, Shut (∀ a w, Q .normal a w → K' a w) → if Region.wanted o (yielded ops a.tmps) = true then Oper.wp Pg o a w K' Q else K' (a.put o.dst undef) w) :
    AnyL Pg md ops Q S l (fuel + 1) listed a w :=
  ⟨fun h0 => absurd (hr ▸ h0) (by simp), fun j hj => by
    rw [hr] at hj
    have hj' : j = l := by simpa using hj
    subst hj'
    refine wpOp_step ho (fun K' hK => h K' (fun a w hW => hK a w ⟨fun h => absurd rfl h, ?_⟩))
    cases fuel with
    | zero => exact ⟨hd, hW⟩
    | succ fuel => exact ⟨fun _ => hW, by rw [hd]; simp⟩⟩

theorem AnyL.start {id : Nat} {a : Act} {w : World} (hm : Pg.follows .mixedOrders = true) (hS : S w.drew)
    (h : S w.drew → AnyL Pg .any ops Q S l ops.size (Array.replicate ops.size false) a w.drew) : (Code.region id ops true).wp Pg Q a w :=
  wp_region_any hm (AnyL.any _ _ _ _ (h hS))
end
end Go.Proofs.Ytgmnknmjainabaa

namespace Go.Proofs.Ytgmnknmjainabaa
set_option linter.unusedVariables false
set_option linter.unusedSimpArgs false
set_option linter.unnecessarySimpa false
open Go.RowKit
attribute [local go_sem ↓] Go.wp_at_zero Go.wp_at_succ

open Ex in
/-- N over D is p over q to the power of kn over kd. -/
structure PowEx (p q kn kd N D : Int) : Prop where
  n0 : 0 < N
  d0 : 0 < D
  log : ∀ l, IsLog l (fun _ => (p : Rat) / (q : Rat)) → IsLog (fun M => (kn : Rat) / (kd : Rat) * l M) (fun _ => (N : Rat) / (D : Rat))
  le : N ≤ 16 ^ 100 * D
theorem LowOf.pos {p q p1 q1 : Int} (h : LowOf p q p1 q1) (hp : 0 < p) : 0 < p1 := by
  obtain ⟨g, g0, rfl, rfl⟩ := h
  exact Int.pos_of_mul_pos_right hp (by omega)
theorem LowOf.pos2 {p q p1 q1 : Int} (h : LowOf p q p1 q1) (hq : 0 < q) : 0 < q1 := by
  obtain ⟨g, g0, rfl, rfl⟩ := h
  exact Int.pos_of_mul_pos_right hq (by omega)
theorem LowOf.le {p q p1 q1 c : Int} (h : LowOf p q p1 q1) (hc : p ≤ c * q) : p1 ≤ c * q1 := by
  obtain ⟨g, g0, rfl, rfl⟩ := h
  have e : c * (g * q1) = g * (c * q1) := by grind
  rw [e] at hc
  exact Int.le_of_mul_le_mul_left hc g0
theorem LowOf.le2 {p q p1 q1 c : Int} (h : LowOf p q p1 q1) (hc : q ≤ c * p) : q1 ≤ c * p1 := by
  obtain ⟨g, g0, rfl, rfl⟩ := h
  have e : c * (g * p1) = g * (c * p1) := by grind
  rw [e] at hc
  exact Int.le_of_mul_le_mul_left hc g0
theorem LowOf.ge {p q p1 q1 c : Int} (h : LowOf p q p1 q1) (hc : -(c * q) ≤ p) : -(c * q1) ≤ p1 := by
  obtain ⟨g, g0, rfl, rfl⟩ := h
  have e : -(c * (g * q1)) = g * -(c * q1) := by grind
  rw [e] at hc
  exact Int.le_of_mul_le_mul_left hc g0
theorem LowOf.small {p q p1 q1 : Int} (h : LowOf p q p1 q1) (hp : 0 < p) : p1 ≤ p := by
  have h1 := h.pos hp
  obtain ⟨g, g0, rfl, rfl⟩ := h
  have := Int.mul_le_mul_of_nonneg_right (show 1 ≤ g by omega) (show 0 ≤ p1 by omega)
  omega
theorem LowOf.small2 {p q p1 q1 : Int} (h : LowOf p q p1 q1) (hq : 0 < q) : q1 ≤ q := by
  have h1 := h.pos2 hq
  obtain ⟨g, g0, rfl, rfl⟩ := h
  have := Int.mul_le_mul_of_nonneg_right (show 1 ≤ g by omega) (show 0 ≤ q1 by omega)
  omega
theorem exact_up {p q p1 q1 kn kd kd1 : Int} {n d j K : Nat} (hp : 0 < p) (hq : 0 < q) (hkd : 0 < kd) (l1 : LowOf p q p1 q1) (l2 : LowOf kn kd (K : Int) kd1) (hj : kd1 = (j : Int)) (hn : ((n ^ j : Nat) : Int) = p1) (hd : ((d ^ j : Nat) : Int) = q1) (hn1 : 1 ≤ n) (hd1 : 1 ≤ d) (h16 : p ≤ 16 * q) (h100 : kn ≤ 100 * kd) : PowEx p q kn kd ((n : Int) ^ K) ((d : Int) ^ K) := by
  have j0 : 0 < j := by have := l2.pos2 hkd; omega
  have hle : n ^ j ≤ 16 * d ^ j := by have := l1.le h16; omega
  have hK : K ≤ 100 * j := by have := l2.le h100; omega
  refine ⟨Int.pow_pos (by omega), Int.pow_pos (by omega), fun l hl => ?_, ?_⟩
  · refine root_up hl hq (by omega) (by omega) j0 hkd ?_ ?_
    · rw [← Int.natCast_pow, ← Int.natCast_pow, hn, hd]
      obtain ⟨g, g0, e1, e2⟩ := l1
      rw [e1, e2]; grind
    · obtain ⟨g, g0, e1, e2⟩ := l2
      rw [e1, e2, ← hj]; grind
  · have h := pow_bound j0 hle hK
    have h2 : ((n ^ K : Nat) : Int) ≤ ((16 ^ 100 * d ^ K : Nat) : Int) := by omega
    rw [Int.natCast_mul, Int.natCast_pow, Int.natCast_pow, Int.natCast_pow] at h2
    exact h2
theorem exact_down {p q p1 q1 kn kd kd1 : Int} {n d j K : Nat} (hp : 0 < p) (hq : 0 < q) (hkd : 0 < kd) (l1 : LowOf p q p1 q1) (l2 : LowOf kn kd (-(K : Int)) kd1) (hj : kd1 = (j : Int)) (hn : ((n ^ j : Nat) : Int) = p1) (hd : ((d ^ j : Nat) : Int) = q1) (hn1 : 1 ≤ n) (hd1 : 1 ≤ d) (h16 : q ≤ 16 * p) (h100 : -(100 * kd) ≤ kn) : PowEx p q kn kd ((d : Int) ^ K) ((n : Int) ^ K) := by
  have j0 : 0 < j := by have := l2.pos2 hkd; omega
  have hle : d ^ j ≤ 16 * n ^ j := by have := l1.le2 h16; omega
  have hK : K ≤ 100 * j := by have := l2.ge h100; omega
  refine ⟨Int.pow_pos (by omega), Int.pow_pos (by omega), fun l hl => ?_, ?_⟩
  · refine root_down hl hq (by omega) (by omega) j0 hkd ?_ ?_
    · rw [← Int.natCast_pow, ← Int.natCast_pow, hn, hd]
      obtain ⟨g, g0, e1, e2⟩ := l1
      rw [e1, e2]; grind
    · obtain ⟨g, g0, e1, e2⟩ := l2
      rw [e1, e2, ← hj]; grind
  · have h := pow_bound j0 hle hK
    have h2 : ((d ^ K : Nat) : Int) ≤ ((16 ^ 100 * n ^ K : Nat) : Int) := by omega
    rw [Int.natCast_mul, Int.natCast_pow, Int.natCast_pow, Int.natCast_pow] at h2
    exact h2
theorem Q400 : ((16 : Int) ^ 100) = Q 400 := by decide +kernel
theorem ofI_fit {N D : Int} (b : Nat) (hb : b ≤ 120) (hN : 0 < N) (hD : 0 < D) (h : N ≤ 16 ^ 100 * D) : 0 ≤ (ofI N D b).1 ∧ (ofI N D b).2 < P 250 := by
  have q := Q_pos b
  refine ⟨Int.ediv_nonneg (Int.mul_nonneg (by omega) (by omega)) (by omega), ?_⟩
  have h1 := Int.mul_le_mul_of_nonneg_right h (show 0 ≤ Q b by omega)
  have e : (16 : Int) ^ 100 * D * Q b = Q (400 + b) * D := by rw [Q400, Q_add]; grind
  rw [e] at h1
  have h2 : -(Q (400 + b)) ≤ -(N * Q b) / D := Int.le_ediv_of_mul_le hD (by rw [Int.neg_mul]; omega)
  have h3 : (ofI N D b).2 = -(-(N * Q b) / D) := rfl
  have h4 := Q_mono (show 400 + b + 1 ≤ 16 * 250 by omega)
  have h5 : Q (400 + b + 1) = 2 * Q (400 + b) := rfl
  have h6 := Q_pos (400 + b)
  rw [h3, ← Q_P]
  omega
/-- power.exact's two ratios and its answer's place. -/
structure ExS (w wr : World) (p q kn kd : Int) : Prop where
  r : RaC wr w.heap.size p q
  fr : ∀ o, wr.frozen? ⟨w.heap.size, o, none⟩ = false
  k : RaC wr (w.heap.size + 1) kn kd
  fk : ∀ o, wr.frozen? ⟨w.heap.size + 1, o, none⟩ = false
  no : NoC wr (w.heap.size + 1 + 1)
  be : Below w.heap.size w wr
theorem ExS.below {w wr wr' : World} {p q kn kd : Int} (h : ExS w wr p q kn kd) (hb : Below wr.heap.size wr wr') : ExS w wr' p q kn kd :=
  ⟨h.r.below hb, fun o => (hb.frozen (p := ⟨w.heap.size, o, none⟩) h.r.lt).trans (h.fr o), h.k.below hb, fun o => (hb.frozen (p := ⟨w.heap.size + 1, o, none⟩) h.k.lt).trans (h.fk o), h.no.below hb, bthen h.be hb⟩
theorem rac_put {w : World} {B : Nat} {p q : Int} (h : RaC w B p q) (p' q' : Int) : RaC ((w.setCell ⟨B, 0, none⟩ (.int .i64 p')).setCell ⟨B, 1, none⟩ (.int .i64 q')) B p' q' := by
  obtain ⟨q0, q1⟩ := h
  constructor <;> simp [go_sem, q0, q1]
theorem RaC.off {w : World} {B B' : Nat} {p q : Int} (h : RaC w B p q) (hne : B ≠ B') (u0 u1 : Value) : RaC ((w.setCell ⟨B', 0, none⟩ u0).setCell ⟨B', 1, none⟩ u1) B p q := by
  obtain ⟨q0, q1⟩ := h
  constructor <;> simp [go_sem, q0, q1, hne, Ne.symm hne]
theorem NoC.offR {w : World} {B B' : Nat} (h : NoC w B) (hne : B ≠ B') (u0 u1 : Value) : NoC ((w.setCell ⟨B', 0, none⟩ u0).setCell ⟨B', 1, none⟩ u1) B := by
  obtain ⟨q0, q1, q2, q3, q4, q5⟩ := h
  exact ⟨by simp [go_sem, q0, hne, Ne.symm hne], by simp [go_sem, q1, hne, Ne.symm hne], by simp [go_sem, q2, hne, Ne.symm hne], by simp [go_sem, q3, hne, Ne.symm hne], by simp [go_sem, q4, hne, Ne.symm hne], put_fz2 q5 _ _⟩
theorem ExS.putR {w wr : World} {p q kn kd : Int} (h : ExS w wr p q kn kd) (p' q' : Int) : ExS w ((wr.setCell ⟨w.heap.size, 0, none⟩ (.int .i64 p')).setCell ⟨w.heap.size, 1, none⟩ (.int .i64 q')) p' q' kn kd :=
  ⟨rac_put h.r p' q', put_fz2 h.fr _ _, h.k.off (by omega) _ _, put_fz2 h.fk _ _, h.no.offR (by omega) _ _, set2 h.be (Nat.le_refl _) _ _⟩
theorem ExS.putK {w wr : World} {p q kn kd : Int} (h : ExS w wr p q kn kd) (p' q' : Int) : ExS w ((wr.setCell ⟨w.heap.size + 1, 0, none⟩ (.int .i64 p')).setCell ⟨w.heap.size + 1, 1, none⟩ (.int .i64 q')) p q p' q' :=
  ⟨h.r.off (by omega) _ _, put_fz2 h.fr _ _, rac_put h.k p' q', put_fz2 h.fk _ _, h.no.offR (by omega) _ _, set2 h.be (Nat.le_succ _) _ _⟩
theorem ExS.putK0 {w wr : World} {p q kn kd : Int} (h : ExS w wr p q kn kd) (p' : Int) : ExS w (wr.setCell ⟨w.heap.size + 1, 0, none⟩ (.int .i64 p')) p q p' kd := by
  obtain ⟨⟨a0, a1⟩, fr, ⟨b0, b1⟩, fk, ⟨q0, q1, q2, q3, q4, q5⟩, be⟩ := h
  exact ⟨⟨by simp [go_sem, a0], by simp [go_sem, a1]⟩, fun o => by rw [frozen_set']; exact fr o, ⟨by simp [go_sem, b0], by simp [go_sem, b1]⟩, fun o => by rw [frozen_set']; exact fk o, ⟨by simp [go_sem, q0], by simp [go_sem, q1], by simp [go_sem, q2], by simp [go_sem, q3], by simp [go_sem, q4], fun o => by rw [frozen_set']; exact q5 o⟩, be.setCell (p := ⟨w.heap.size + 1, 0, none⟩) (Nat.le_succ _) _⟩
theorem ExS.drew {w wr : World} {p q kn kd : Int} (h : ExS w wr p q kn kd) : ExS w wr.drew p q kn kd := h.below (Below.refl _ _).drew

set_option maxRecDepth 100000 in
set_option maxHeartbeats 4000000 in
theorem exact_any (p q kn kd : Int) (b : Nat) (w : World) (hr : rok p q) (hrk : rok kn kd) (hb : b ≤ 120) (hp : 0 < p) (h16a : p ≤ 16 * q) (h16b : q ≤ 16 * p) (h100a : -(100 * kd) ≤ kn) (h100b : kn ≤ 100 * kd) :
    Calls Try.prog 119 #[.agg #[.int .i64 p, .int .i64 q], .agg #[.int .i64 kn, .int .i64 kd], .int .i64 b] w fun r w' => ∃ (ok : Bool) (s : Sp), r = .returned (.tuple #[.agg #[.bool s.ln, .slice s.la s.lN s.lc, .bool s.hn, .slice s.ha s.hN s.hc, .int .i64 s.bits], .bool ok]) ∧ (ok = true → ∃ N D : Int, PowEx p q kn kd N D ∧ s.bits = (b : Int) ∧ SpAt w' s 250 (ofI N D b).1 (ofI N D b).2) ∧ Below w.heap.size w w' := by
  obtain ⟨W, hW⟩ : ∃ W, W = ((w.alloc (.cells #[.int .i64 p, .int .i64 q] 28)).alloc (.cells #[.int .i64 kn, .int .i64 kd] 28)).alloc (.cells #[.bool false, .slice none 0 0, .bool false, .slice none 0 0, .int .i64 0] 26) := ⟨_, rfl⟩
  have st : ExS w W p q kn kd := by
    rw [hW]
    exact ⟨⟨by simp [go_sem], by simp [go_sem]⟩, fun o => by simp [go_sem], ⟨by simp [go_sem], by simp [go_sem]⟩, fun o => by simp [go_sem], ⟨by simp [go_sem], by simp [go_sem], by simp [go_sem], by simp [go_sem], by simp [go_sem], fun o => by simp [go_sem]⟩, bl3 _ _ _ _⟩
  have HR := hide hr
  have HRK := hide hrk
  have hq : 0 < q := by have := hr.2.2.1; omega
  have hkd : 0 < kd := by have := hrk.2.2.1; omega
  have H16 := hide (And.intro h16a h16b)
  have H100 := hide (And.intro h100a h100b)
  clear h16a h16b h100a h100b hr hrk
  go_enter Try.func119, Try.ntmps119
  go_wp2
  rw [← hW]
  clear hW
  have HSK := hide (show ∀ w', ExS w w' p q kn kd → (w'.cell? ⟨w.heap.size + 1, 0, none⟩ = some (.int .i64 kn) ∧ w'.cell? ⟨w.heap.size + 1, 1, none⟩ = some (.int .i64 kd)) from fun w' h => ⟨h.k.c0, h.k.c1⟩)
  refine AnyL.start (S := fun w' => w'.cell? ⟨w.heap.size + 1, 0, none⟩ = some (.int .i64 kn) ∧ w'.cell? ⟨w.heap.size + 1, 1, none⟩ = some (.int .i64 kd)) (l := 5) (by kernel_rfl) (unhide HSK _ st.drew) (fun hHeld => ?_)
  replace st := st.drew
  refine AnyL.take (i := 2) (oi := { dst := some 14, op := Go.Op.load 28 (Go.Operand.tmp 4), type := 28, pos := "exact.go:10", after := #[], guard := none }) (v := .agg #[.int .i64 kn, .int .i64 kd]) rfl (by kernel_rfl) (by kernel_rfl) (by kernel_rfl) (by kernel_rfl) (fun _ _ _ h => h) (Or.inl ⟨by rfl, fun w hSw => ?_⟩) hHeld ?_
  · obtain ⟨s0, s1⟩ := hSw; go_simp
  try simp only [Act.put, List.setIfInBounds_toArray, List.set_cons_zero, List.set_cons_succ]
  have lr := st.r.lt
  obtain ⟨x0, x1⟩ := st.r
  refine AnyL.one (i := 0) (o := { dst := some 12, op := Go.Op.load 28 (Go.Operand.tmp 3), type := 28, pos := "exact.go:10", after := #[], guard := none }) (by kernel_rfl) rfl (fun K hK => ?_)
  go_simp
  refine hK.out _ _ hHeld (fun hHeld => ?_)
  clear hK K x0 x1 lr
  try simp only [Act.put, List.setIfInBounds_toArray, List.set_cons_zero, List.set_cons_succ]
  refine AnyL.one (i := 1) (o := { dst := some 13, op := Go.Op.call { callee := Go.Callee.value (Go.Operand.func 143), args := #[Go.Operand.tmp 12], argTypes := #[28] }, type := 28, pos := "exact.go:10", after := #[{ on := 0, ground := Go.Ground.data }], guard := none }) (by kernel_rfl) rfl (fun K hK => ?_)
  go_simp
  refine (lowest_any p q _ (unhide HR)).mono ?_
  rintro r' w1 ⟨p1, q1, rfl, hlow1, hb1⟩
  replace st := st.below hb1
  have HL1 := hide hlow1
  clear hb1 hlow1
  go_wp2_with fail
  refine hK.out _ _ (unhide HSK _ st) (fun hHeld => ?_)
  clear hK K
  try simp only [Act.put, List.setIfInBounds_toArray, List.set_cons_zero, List.set_cons_succ]
  refine AnyL.one (i := 3) (o := { dst := some 15, op := Go.Op.call { callee := Go.Callee.value (Go.Operand.func 143), args := #[Go.Operand.tmp 14], argTypes := #[28] }, type := 28, pos := "exact.go:10", after := #[{ on := 2, ground := Go.Ground.data }, { on := 1, ground := Go.Ground.chain }], guard := none }) (by kernel_rfl) rfl (fun K hK => ?_)
  go_simp
  refine (lowest_any kn kd _ (unhide HRK)).mono ?_
  rintro r' w2 ⟨kn1, kd1, rfl, hlow2, hb2⟩
  replace st := st.below hb2
  have HL2 := hide hlow2
  clear hb2 hlow2
  go_wp2_with fail
  refine hK.out _ _ (unhide HSK _ st) (fun hHeld => ?_)
  clear hK K
  try simp only [Act.put, List.setIfInBounds_toArray, List.set_cons_zero, List.set_cons_succ]
  have lr := st.r.lt
  have fr := st.fr
  obtain ⟨x0, x1⟩ := st.r
  refine AnyL.one (i := 4) (o := { dst := none, op := Go.Op.store 28 (Go.Operand.tmp 3) (Go.Operand.tmp 13), type := 0, pos := "exact.go:10", after := #[{ on := 1, ground := Go.Ground.data }, { on := 3, ground := Go.Ground.chain }, { on := 0, ground := Go.Ground.phase }, { on := 1, ground := Go.Ground.phase }, { on := 2, ground := Go.Ground.textOnly Go.Departure.lateStores }, { on := 3, ground := Go.Ground.textOnly Go.Departure.lateStoresUnsure }], guard := none }) (by kernel_rfl) rfl (fun K hK => ?_)
  go_simp
  refine hK.out _ _ ⟨(st.putR p1 q1).k.c0, (st.putR p1 q1).k.c1⟩ (fun hHeld => ?_)
  clear hK K x0 x1 fr lr
  replace st := st.putR p1 q1
  try simp only [Act.put, List.setIfInBounds_toArray, List.set_cons_zero, List.set_cons_succ]
  have lk := st.k.lt
  have fk := st.fk
  obtain ⟨x0, x1⟩ := st.k
  refine AnyL.last (o := { dst := none, op := Go.Op.store 28 (Go.Operand.tmp 4) (Go.Operand.tmp 15), type := 0, pos := "exact.go:10", after := #[{ on := 3, ground := Go.Ground.data }, { on := 4, ground := Go.Ground.chain }, { on := 0, ground := Go.Ground.phase }, { on := 1, ground := Go.Ground.phase }, { on := 2, ground := Go.Ground.phase }, { on := 3, ground := Go.Ground.phase }, { on := 4, ground := Go.Ground.phase }], guard := none }) (by kernel_rfl) rfl (by kernel_rfl) (fun K hK => ?_)
  go_simp
  refine hK.out _ _ ?_
  clear hK K x0 x1 fk lk
  replace st := st.putK kn1 kd1
  obtain ⟨V, hV⟩ : ∃ V, V = ((((w2.setCell ⟨w.heap.size, 0, none⟩ (.int .i64 p1)).setCell ⟨w.heap.size, 1, none⟩ (.int .i64 q1)).setCell ⟨w.heap.size + 1, 0, none⟩ (.int .i64 kn1)).setCell ⟨w.heap.size + 1, 1, none⟩ (.int .i64 kd1)) := ⟨_, rfl⟩
  rw [← hV] at st ⊢
  clear hV hHeld HSK
  have p0 := (unhide HL1).pos hp
  have p2 := (unhide HL1).small hp
  have p3 := (unhide HR).2.1
  have q0 := (unhide HL1).pos2 hq
  have q2 := (unhide HL1).small2 hq
  have q3 := (unhide HR).2.2.2
  have k0 := (unhide HL2).pos2 hkd
  have k2 := (unhide HL2).small2 hkd
  have k3 := (unhide HRK).2.2.2
  have k4 := (unhide HL2).le (unhide H100).2
  have k5 := (unhide HL2).ge (unhide H100).1
  obtain ⟨np, hnp⟩ : ∃ np : Nat, p1 = (np : Int) := ⟨p1.toNat, by omega⟩
  obtain ⟨nq, hnq⟩ : ∃ nq : Nat, q1 = (nq : Int) := ⟨q1.toNat, by omega⟩
  obtain ⟨j, hj⟩ : ∃ j : Nat, kd1 = (j : Int) := ⟨kd1.toNat, by omega⟩
  subst hnp hnq hj
  have lr := st.r.lt
  have lk := st.k.lt
  obtain ⟨x0, x1⟩ := st.r
  obtain ⟨y0, y1⟩ := st.k
  go_wp2_with fail
  refine (rootOf_int np j _ (by omega) (by omega) (by omega) (by omega)).mono ?_
  rintro r' w3 ⟨n, ok1, rfl, n1, n2, hn, hb3⟩
  replace st := st.below hb3
  have HN := hide hn
  clear hb3 hn x0 x1 y0 y1 lr lk
  have lr := st.r.lt
  have lk := st.k.lt
  obtain ⟨x0, x1⟩ := st.r
  obtain ⟨y0, y1⟩ := st.k
  go_wp2_with fail
  refine (rootOf_int nq j _ (by omega) (by omega) (by omega) (by omega)).mono ?_
  rintro r' w4 ⟨d, ok2, rfl, d1, d2, hd, hb4⟩
  replace st := st.below hb4
  have HD := hide hd
  clear hb4 hd x0 x1 y0 y1 lr lk
  have lr := st.r.lt
  have lk := st.k.lt
  have lR := st.no.lt
  have HST := hide st
  by_cases ho : ok1 = true ∧ ok2 = true
  · obtain ⟨rfl, rfl⟩ := ho
    have HN2 := hide (show ((n ^ j : Nat) : Int) = (np : Int) by rw [unhide HN rfl])
    have HD2 := hide (show ((d ^ j : Nat) : Int) = (nq : Int) by rw [unhide HD rfl])
    obtain ⟨y0, y1⟩ := st.k
    by_cases hneg : kn1 < 0
    · obtain ⟨K, hK⟩ : ∃ K : Nat, kn1 = -(K : Int) := ⟨(-kn1).toNat, by omega⟩
      have HKN := hide hK
      have fk := (unhide HST).fk
      have hwn : IntKind.i64.wrap (-kn1) = (K : Int) := (i64_id _ (by omega) (by omega)).trans (by omega)
      have HWN := hide hwn
      have HWM := hide (show -kn1 = (K : Int) by omega)
      have HE := hide (exact_down hp hq hkd (unhide HL1) (by rw [← hK]; exact unhide HL2) rfl (unhide HN2) (unhide HD2) n1 d1 (unhide H16).2 (unhide H100).1)
      have hKb : K ≤ 102400 := by omega
      clear hwn hK
      go_wp2_with fail
      go_region
      all_goals
        try rw [unhide HWN]
        try rw [unhide HWM]
        obtain ⟨WW, hWW⟩ : ∃ WW, WW = (w4.setCell ⟨w.heap.size + 1, 0, none⟩ (.int .i64 (K : Int))).drew := ⟨_, rfl⟩
        have st : ExS w WW (np : Int) (nq : Int) (K : Int) (j : Int) := by rw [hWW]; exact ((unhide HST).putK0 (K : Int)).drew
        rw [← hWW]
        clear hWW y0 y1 fk hneg
        have lk := st.k.lt
        have lR := st.no.lt
        have y0 := st.k.c0
        have HKr := hide (show ∀ w', Below WW.heap.size WW w' → w'.cell? ⟨w.heap.size + 1, 0, none⟩ = some (.int .i64 (K : Int)) from fun w' hB => (st.k.below hB).c0)
        have hD0 : Below WW.heap.size WW WW.drew := (Below.refl _ _).drew
        have R := st.no
        have hBr := st.be
        have n12 : w.heap.size + 1 ≠ w.heap.size + 1 + 1 := by omega
        have n21 : w.heap.size + 1 + 1 ≠ w.heap.size + 1 := by omega
        clear st
        go_wp2_with fail
        go_region_held3 (fun w' => w'.cell? ⟨w.heap.size + 1, 0, none⟩ = some (.int .i64 (K : Int))) (first | exact unhide HKr _ (by first | with_reducible exact hD0 | with_reducible exact hD3 | with_reducible exact hD2 | with_reducible exact hD1) | go_keep)
          (first
            | (go_at_call 71; have hqq := hD2; refine (wideOf_any _ _ _ _ _ _ _ _ (4 * K + 4) (4 * K + 4) b ((d : Int) ^ K) ((n : Int) ^ K) _ hint1 hint2 (by omega) (by omega) (unhide HE).d0).mono ?_; rintro r' w7 ⟨u, rfl, hub, hup, hb7⟩; have hD3 := bthen hD2 hb7; obtain ⟨q0, q1, q2, q3, q4, q5⟩ := R.below hD3; have HUB := hide hub; clear hub; have y1 := unhide HKr _ hD3)
            | (go_at_call 145; have hqq := hD1; refine (raised_int (n : Int) K _ (by omega) (by omega) (by omega)).mono ?_; rintro r' w6 ⟨neg6, a6, n6, c6, rfl, hint2, hb6⟩; have hD2 := bthen hD1 hb6; replace hint1 := hint1.below hb6)
            | (go_at_call 145; refine (raised_int (d : Int) K _ (by omega) (by omega) (by omega)).mono ?_; rintro r' w5 ⟨neg5, a5, n5, c5, rfl, hint1, hb5⟩; have hD1 := bthen hD0 hb5))
        all_goals
          have hf := ofI_fit b hb (unhide HE).n0 (unhide HE).d0 (unhide HE).le
          have hup2 : SpAt w7 u 250 (ofI ((d : Int) ^ K) ((n : Int) ^ K) b).1 (ofI ((d : Int) ^ K) ((n : Int) ^ K) b).2 := SpAt.fits hup (ofI_le (unhide HE).d0 b) (by have := P_pos 250; omega) hf.2
          go_wp2_with fail
          refine bodyPost_ret (v := .tuple #[.agg #[.bool u.ln, .slice u.la u.lN u.lc, .bool u.hn, .slice u.ha u.hN u.hc, .int .i64 u.bits], .bool true]) (by simp [results, Try.results119, go_sem, q0, q1, q2, q3, q4]) rfl ⟨true, u, rfl, fun _ => ⟨_, _, unhide HE, unhide HUB, ?_⟩, ?_⟩
          · exact SpAt.put5 hup2 q0 q1 q2 q3 q4 _ _ _ _ _
          · exact set5 (bthen hBr hD3) (by omega) _ _ _ _ _
    · obtain ⟨K, hK⟩ : ∃ K : Nat, kn1 = (K : Int) := ⟨kn1.toNat, by omega⟩
      subst hK
      have HE := hide (exact_up hp hq hkd (unhide HL1) (unhide HL2) rfl (unhide HN2) (unhide HD2) n1 d1 (unhide H16).1 (unhide H100).2)
      have hKb : K ≤ 102400 := by omega
      clear y0 y1 lr lk lR
      obtain ⟨WW, hWW⟩ : ∃ WW, WW = w4 := ⟨_, rfl⟩
      subst hWW
      have lk := st.k.lt
      have lR := st.no.lt
      have y0 := st.k.c0
      have HKr := hide (show ∀ w', Below WW.heap.size WW w' → w'.cell? ⟨w.heap.size + 1, 0, none⟩ = some (.int .i64 (K : Int)) from fun w' hB => (st.k.below hB).c0)
      have hD0 : Below WW.heap.size WW WW.drew := (Below.refl _ _).drew
      have R := st.no
      have hBr := st.be
      have n12 : w.heap.size + 1 ≠ w.heap.size + 1 + 1 := by omega
      have n21 : w.heap.size + 1 + 1 ≠ w.heap.size + 1 := by omega
      clear st
      go_wp2_with fail
      go_region_held3 (fun w' => w'.cell? ⟨w.heap.size + 1, 0, none⟩ = some (.int .i64 (K : Int))) (first | exact unhide HKr _ (by first | with_reducible exact hD0 | with_reducible exact hD3 | with_reducible exact hD2 | with_reducible exact hD1) | go_keep)
        (first
          | (go_at_call 71; have hqq := hD2; refine (wideOf_any _ _ _ _ _ _ _ _ (4 * K + 4) (4 * K + 4) b ((n : Int) ^ K) ((d : Int) ^ K) _ hint1 hint2 (by omega) (by omega) (unhide HE).d0).mono ?_; rintro r' w7 ⟨u, rfl, hub, hup, hb7⟩; have hD3 := bthen hD2 hb7; obtain ⟨q0, q1, q2, q3, q4, q5⟩ := R.below hD3; have HUB := hide hub; clear hub; have y1 := unhide HKr _ hD3)
          | (go_at_call 145; have hqq := hD1; refine (raised_int (d : Int) K _ (by omega) (by omega) (by omega)).mono ?_; rintro r' w6 ⟨neg6, a6, n6, c6, rfl, hint2, hb6⟩; have hD2 := bthen hD1 hb6; replace hint1 := hint1.below hb6)
          | (go_at_call 145; refine (raised_int (n : Int) K _ (by omega) (by omega) (by omega)).mono ?_; rintro r' w5 ⟨neg5, a5, n5, c5, rfl, hint1, hb5⟩; have hD1 := bthen hD0 hb5))
      all_goals
        have hf := ofI_fit b hb (unhide HE).n0 (unhide HE).d0 (unhide HE).le
        have hup2 : SpAt w7 u 250 (ofI ((n : Int) ^ K) ((d : Int) ^ K) b).1 (ofI ((n : Int) ^ K) ((d : Int) ^ K) b).2 := SpAt.fits hup (ofI_le (unhide HE).d0 b) (by have := P_pos 250; omega) hf.2
        go_wp2_with fail
        refine bodyPost_ret (v := .tuple #[.agg #[.bool u.ln, .slice u.la u.lN u.lc, .bool u.hn, .slice u.ha u.hN u.hc, .int .i64 u.bits], .bool true]) (by simp [results, Try.results119, go_sem, q0, q1, q2, q3, q4]) rfl ⟨true, u, rfl, fun _ => ⟨_, _, unhide HE, unhide HUB, ?_⟩, ?_⟩
        · exact SpAt.put5 hup2 q0 q1 q2 q3 q4 _ _ _ _ _
        · exact set5 (bthen hBr hD3) (by omega) _ _ _ _ _
  · obtain ⟨q0, q1, q2, q3, q4, q5⟩ := st.no
    have hB := (unhide HST).be
    cases ok1
    · go_wp2_with fail
      refine bodyPost_ret (v := .tuple #[.agg #[.bool false, .slice none 0 0, .bool false, .slice none 0 0, .int .i64 0], .bool false]) (by simp [results, Try.results119, go_sem, q0, q1, q2, q3, q4]) rfl ⟨false, ⟨false, none, 0, 0, false, none, 0, 0, 0⟩, rfl, fun h => Bool.noConfusion h, ?_⟩
      exact set5 hB (by omega) _ _ _ _ _
    · cases ok2
      · go_wp2_with fail
        refine bodyPost_ret (v := .tuple #[.agg #[.bool false, .slice none 0 0, .bool false, .slice none 0 0, .int .i64 0], .bool false]) (by simp [results, Try.results119, go_sem, q0, q1, q2, q3, q4]) rfl ⟨false, ⟨false, none, 0, 0, false, none, 0, 0, 0⟩, rfl, fun h => Bool.noConfusion h, ?_⟩
        exact set5 hB (by omega) _ _ _ _ _
      · exact absurd ⟨rfl, rfl⟩ ho
end Go.Proofs.Ytgmnknmjainabaa
