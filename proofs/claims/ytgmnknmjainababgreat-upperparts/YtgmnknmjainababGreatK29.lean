/-
  Texts Lwb, Lwg, Upa: what they hold is told in the last text.
-/
import Derived.Test.YtgmnknmjainababGreatK28
set_option linter.unnecessarySimpa false
set_option linter.unusedSimpArgs false
set_option linter.unusedVariables false
namespace Go.Proofs.YtgmnknmjainababGreat
open Go.RowKit
attribute [local go_sem ↓] Go.wp_at_zero Go.wp_at_succ
open Ex
set_option maxRecDepth 100000 in
set_option maxHeartbeats 8000000 in
theorem lower_zero (L : Rat → Nat → Rat) (hL : Lns L) (w : World) (x y : Nm) (p q n d : Int) (b : Nat) (g X : Nat → Rat) (hx : IntAt w x.neg x.a x.n x.cap 4 n) (hy : IntAt w y.neg y.a y.n y.cap 4 d) (h : LwAr p q n d b) (h0 : n = 0) :
    Calls Tryz.prog 132 #[.agg #[.int .i64 p, .int .i64 q], .agg #[.bool x.neg, .slice x.a x.n x.cap], .agg #[.bool y.neg, .slice y.a y.n y.cap], .int .i64 b] w (fun r w' => ∃ lo hi, LwPr (lwX L p q n d g) b lo hi ∧ SpanAns w b 30 lo hi r w') := by
  obtain ⟨W, hW⟩ : ∃ W, W = (((w.alloc (.cells #[.int .i64 p, .int .i64 q] 23)).alloc (.cells #[.bool x.neg, .slice x.a x.n x.cap] 26)).alloc (.cells #[.bool y.neg, .slice y.a y.n y.cap] 26)).alloc (.cells #[.bool false, .slice none 0 0, .bool false, .slice none 0 0, .int .i64 0] 28) := ⟨_, rfl⟩
  have hBW : Below w.heap.size w W := by rw [hW]; exact bl4 _ _ _ _ _
  have A : RaC W (w.heap.size) p q := by rw [hW]; exact ⟨by simp [go_sem], by simp [go_sem]⟩
  have X0 : NmC W (w.heap.size + 1) x := by rw [hW]; exact ⟨by simp [go_sem], by simp [go_sem]⟩
  have Y0 : NmC W (w.heap.size + 1 + 1) y := by rw [hW]; exact ⟨by simp [go_sem], by simp [go_sem]⟩
  have R : NoC W (w.heap.size + 1 + 1 + 1) := by rw [hW]; exact ⟨by simp [go_sem], by simp [go_sem], by simp [go_sem], by simp [go_sem], by simp [go_sem], fun o => by simp [go_sem]⟩
  have HX := hide (hx.below hBW)
  have HY := hide (hy.below hBW)
  have fX0 := X0.c0
  have fX1 := X0.c1
  have lX := X0.lt
  clear hx hy
  have d0 := h.d0
  have b1 := h.b1
  have HC0 := hide (show cmpInt n 0 = 0 by rw [h0]; rfl)
  have HV := hide (show LwPr (lwX L p q n d g) b 0 0 by
    have q := Q_pos b
    have q2 := Q_pos 89
    refine ⟨Int.le_refl _, Int.le_refl _, by omega, by omega, ?_⟩
    unfold lwX
    rw [if_pos h0]
    have e : ((0 : Int) : Rat) / (Q b : Rat) = 0 := by rw [show ((0 : Int) : Rat) = 0 from rfl, Rat.div_def, Rat.zero_mul]
    exact Has.const (by rw [e]; exact Rat.le_refl) (by rw [e]; exact Rat.le_refl))
  have HZ := hide (show n * Q b / d = 0 ∧ -(-(n * Q b) / d) = 0 by rw [h0, Int.zero_mul]; simp)
  clear h h0 hL
  go_enter Tryz.func132, Tryz.ntmps132
  go_wp2_with fail
  rw [← hW]
  clear hW fX0 fX1 lX
  refine (sign_int _ _ _ _ _ n _ (unhide HX)).mono ?_
  rintro r w1 ⟨rfl, hb1⟩
  rw [unhide HC0]
  replace A := A.below hb1
  replace X0 := X0.below hb1
  replace Y0 := Y0.below hb1
  replace R := R.below hb1
  replace HX := hide ((unhide HX).below hb1)
  replace HY := hide ((unhide HY).below hb1)
  replace hBW := bthen hBW hb1
  clear hb1
  obtain ⟨x0, x1⟩ := X0
  obtain ⟨y0, y1⟩ := Y0
  have lR := R.lt
  have lX := NmC.lt ⟨x0, x1⟩
  have lY := NmC.lt ⟨y0, y1⟩
  go_wp2_with fail
  refine (wideOf_any _ _ _ _ _ _ _ _ 4 4 b n d _ (unhide HX) (unhide HY) (by omega) (by omega) d0).mono ?_
  rintro r w2 ⟨t, rfl, htb, htp, hb2⟩
  rw [(unhide HZ).1, (unhide HZ).2] at htp
  have HT := hide htb
  replace hBW := bthen hBW hb2
  obtain ⟨q0, q1, q2, q3, q4, q5⟩ := R.below hb2
  have lR2 := R.lt
  clear htb hb2 x0 x1 y0 y1
  have fit := htp.fits (K := 30) (Int.le_refl _) (by have := P_pos 30; omega) (P_pos 30)
  go_wp2_with fail
  refine bodyPost_ret (v := .agg #[.bool t.ln, .slice t.la t.lN t.lc, .bool t.hn, .slice t.ha t.hN t.hc, .int .i64 t.bits]) (by simp [results, Tryz.results132, go_sem, q0, q1, q2, q3, q4]) rfl ⟨_, _, unhide HV, t, rfl, unhide HT, ?_, ?_⟩
  · exact SpAt.put5 fit q0 q1 q2 q3 q4 _ _ _ _ _
  · exact set5 hBW (by omega) _ _ _ _ _
set_option maxRecDepth 100000 in
set_option maxHeartbeats 8000000 in
theorem lower_far (L : Rat → Nat → Rat) (hL : Lns L) (w : World) (x y : Nm) (p q n d : Int) (b : Nat) (g X : Nat → Rat) (hx : IntAt w x.neg x.a x.n x.cap 4 n) (hy : IntAt w y.neg y.a y.n y.cap 4 d) (h : LwAr p q n d b) (h0 : 0 < n) (hf : d * (2 * ((b : Int) + p / q + 1)) ≤ n) (ig : IsGam L ((p : Rat) / (q : Rat)) g) :
    Calls Tryz.prog 132 #[.agg #[.int .i64 p, .int .i64 q], .agg #[.bool x.neg, .slice x.a x.n x.cap], .agg #[.bool y.neg, .slice y.a y.n y.cap], .int .i64 b] w (fun r w' => ∃ lo hi, LwPr (lwX L p q n d g) b lo hi ∧ SpanAns w b 30 lo hi r w') := by
  obtain ⟨W, hW⟩ : ∃ W, W = (((w.alloc (.cells #[.int .i64 p, .int .i64 q] 23)).alloc (.cells #[.bool x.neg, .slice x.a x.n x.cap] 26)).alloc (.cells #[.bool y.neg, .slice y.a y.n y.cap] 26)).alloc (.cells #[.bool false, .slice none 0 0, .bool false, .slice none 0 0, .int .i64 0] 28) := ⟨_, rfl⟩
  have hBW : Below w.heap.size w W := by rw [hW]; exact bl4 _ _ _ _ _
  have A : RaC W (w.heap.size) p q := by rw [hW]; exact ⟨by simp [go_sem], by simp [go_sem]⟩
  have X0 : NmC W (w.heap.size + 1) x := by rw [hW]; exact ⟨by simp [go_sem], by simp [go_sem]⟩
  have Y0 : NmC W (w.heap.size + 1 + 1) y := by rw [hW]; exact ⟨by simp [go_sem], by simp [go_sem]⟩
  have R : NoC W (w.heap.size + 1 + 1 + 1) := by rw [hW]; exact ⟨by simp [go_sem], by simp [go_sem], by simp [go_sem], by simp [go_sem], by simp [go_sem], fun o => by simp [go_sem]⟩
  have HX := hide (hx.below hBW)
  have HY := hide (hy.below hBW)
  have fX0 := X0.c0
  have fX1 := X0.c1
  have lX := X0.lt
  clear hx hy
  have d0 := h.d0
  have b0 := h.b0
  have b1 := h.b1
  have HC0 := hide (show cmpInt n 0 = 1 by unfold cmpInt; rw [if_neg (by omega), if_pos (by omega)])
  have HPQ := hide (show 0 < p ∧ 0 < q ∧ p ≤ 1152921504606846976 by have := h.p0; have := h.q0; have := h.pq; have := h.qq; exact ⟨h.p0, h.q0, by omega⟩)
  have HFB := hide (show -9223372036854775808 ≤ 2 * ((b : Int) + p / q + 1) ∧ 2 * ((b : Int) + p / q + 1) ≤ 9223372036854775807 by
    have := Int.ediv_nonneg (Int.le_of_lt h.p0) (Int.le_of_lt h.q0)
    have : p / q ≤ 100 := Int.ediv_le_of_le_mul h.q0 h.pq
    have := h.b1
    exact ⟨by omega, by omega⟩)
  have HV := hide (show LwPr (lwX L p q n d g) b (Q b - 1) (Q b) by
    unfold lwX
    rw [if_neg (by omega)]
    exact lw_farI hL h.p0 h.q0 d0 hf (by omega) ig)
  have HFT := hide (lw_fit (unhide HV) b1)
  obtain ⟨cc, hc0, hc1⟩ : ∃ cc : Int, 0 ≤ cc ∧ cmpInt n (d * (2 * ((b : Int) + p / q + 1))) = cc := ⟨_, by unfold cmpInt; split; omega; split <;> omega, rfl⟩
  have HC := hide hc1
  clear h h0 hf hL ig hc1
  go_enter Tryz.func132, Tryz.ntmps132
  go_wp2_with fail
  rw [← hW]
  clear hW fX0 fX1 lX
  refine (sign_int _ _ _ _ _ n _ (unhide HX)).mono ?_
  rintro r w1 ⟨rfl, hb1⟩
  rw [unhide HC0]
  replace A := A.below hb1
  replace X0 := X0.below hb1
  replace Y0 := Y0.below hb1
  replace R := R.below hb1
  replace HX := hide ((unhide HX).below hb1)
  replace HY := hide ((unhide HY).below hb1)
  replace hBW := bthen hBW hb1
  clear hb1
  have lA := A.lt
  have lX := X0.lt
  have lY := Y0.lt
  have lR := R.lt
  have HK := hide (show ∀ w', Below w1.heap.size w1 w' → (w'.cell? ⟨w.heap.size, 0, none⟩ = some (.int .i64 p) ∧ w'.cell? ⟨w.heap.size, 1, none⟩ = some (.int .i64 q) ∧ w'.cell? ⟨w.heap.size + 1, 0, none⟩ = some (.bool x.neg) ∧ w'.cell? ⟨w.heap.size + 1, 1, none⟩ = some (.slice x.a x.n x.cap) ∧ w'.cell? ⟨w.heap.size + 1 + 1, 0, none⟩ = some (.bool y.neg) ∧ w'.cell? ⟨w.heap.size + 1 + 1, 1, none⟩ = some (.slice y.a y.n y.cap)) from fun w' hB => ⟨(A.below hB).c0, (A.below hB).c1, (X0.below hB).c0, (X0.below hB).c1, (Y0.below hB).c0, (Y0.below hB).c1⟩)
  have hB0 : Below w1.heap.size w1 w1.drew := (Below.refl _ _).drew
  go_wp2_with fail
  obtain ⟨x0, x1, x2, x3, x4, x5⟩ := unhide HK _ (Below.refl _ _)
  go_region_held3 (fun w' => w'.cell? ⟨w.heap.size, 0, none⟩ = some (.int .i64 p) ∧ w'.cell? ⟨w.heap.size, 1, none⟩ = some (.int .i64 q) ∧ w'.cell? ⟨w.heap.size + 1, 0, none⟩ = some (.bool x.neg) ∧ w'.cell? ⟨w.heap.size + 1, 1, none⟩ = some (.slice x.a x.n x.cap) ∧ w'.cell? ⟨w.heap.size + 1 + 1, 0, none⟩ = some (.bool y.neg) ∧ w'.cell? ⟨w.heap.size + 1 + 1, 1, none⟩ = some (.slice y.a y.n y.cap)) (first | exact unhide HK _ (by first | with_reducible exact hB0 | with_reducible exact hB4 | with_reducible exact hB3 | with_reducible exact hB2 | with_reducible exact hB1) | go_keep)
    (first
      | (go_at_call 46; have hq := hB3; refine (cmp_int _ _ _ _ _ _ _ _ 4 (4 + 4) n (d * (2 * ((b : Int) + p / q + 1))) _ ((unhide HX).below hB3) hint3).mono ?_; rintro r w5 ⟨rfl, hb5⟩; rw [unhide HC]; have hB4 := bthen hB3 hb5; have i0 := unhide HK _ hB4)
      | (go_at_call 66; have hq := hB2; refine (mul_int _ _ _ _ _ _ _ _ 4 4 d (2 * ((b : Int) + p / q + 1)) _ ((unhide HY).below hB2) hint2 (by omega) (by omega)).mono ?_; rintro r w4 ⟨neg3, a3, n3, c3, rfl, hint3, hb4⟩; have hB3 := bthen hB2 hb4)
      | (go_at_call 43; have hq := hB1; refine (numOf_int (2 * ((b : Int) + p / q + 1)) _ (unhide HFB).1 (unhide HFB).2).mono ?_; rintro r w3 ⟨neg2, a2, n2, c2, rfl, hint2, hb3⟩; have hB2 := bthen hB1 hb3)
      | (go_at_call 171; refine (fromHere_int _ p q b (unhide HPQ).1 (unhide HPQ).2.1 (unhide HPQ).2.2 (by omega)).mono ?_; rintro r w2 ⟨rfl, hb2⟩; have hB1 := bthen hB0 hb2))
  all_goals
    have R3 := R.below hB4
    replace hBW := bthen hBW hB4
    have lR3 := R3.lt
    clear x0 x1 x2 x3 x4 x5 i0 hint2 hint3
    go_wp2_with fail
    refine (nearlyOne_int _ b (by omega)).mono ?_
    rintro r w6 ⟨t, rfl, htb, htp, hb6⟩
    obtain ⟨q0, q1, q2, q3, q4, q5⟩ := R3.below hb6
    replace hBW := bthen hBW hb6
    have HT := hide htb
    clear htb
    have fit := htp.fits (K := 30) (unhide HFT).1 (unhide HFT).2.1 (unhide HFT).2.2
    go_wp2_with fail
    refine bodyPost_ret (v := .agg #[.bool t.ln, .slice t.la t.lN t.lc, .bool t.hn, .slice t.ha t.hN t.hc, .int .i64 t.bits]) (by simp [results, Tryz.results132, go_sem, q0, q1, q2, q3, q4]) rfl ⟨_, _, unhide HV, t, rfl, unhide HT, ?_, ?_⟩
    · exact SpAt.put5 fit q0 q1 q2 q3 q4 _ _ _ _ _
    · exact set5 hBW (by omega) _ _ _ _ _
set_option maxRecDepth 100000 in
set_option maxHeartbeats 8000000 in
theorem lower_near (L : Rat → Nat → Rat) (hL : Lns L) (w : World) (x y : Nm) (p q n d : Int) (b : Nat) (g X : Nat → Rat) (hx : IntAt w x.neg x.a x.n x.cap 4 n) (hy : IntAt w y.neg y.a y.n y.cap 4 d) (h : LwIn p q n d b) (ig : IsGam L ((p : Rat) / (q : Rat)) g) (hX : IsLog X (fun M => (p : Rat) / (q : Rat) * g M)) (hLG : ∀ w', Calls Tryz.prog 61 #[.int .i64 (p + q), .int .i64 q, .int .i64 b] w' (fun r w'' => ∃ lo hi, LgP2 X b lo hi ∧ SpanAns w' b 521 lo hi r w'')) :
    Calls Tryz.prog 132 #[.agg #[.int .i64 p, .int .i64 q], .agg #[.bool x.neg, .slice x.a x.n x.cap], .agg #[.bool y.neg, .slice y.a y.n y.cap], .int .i64 b] w (fun r w' => ∃ lo hi, LwPr (lwX L p q n d g) b lo hi ∧ SpanAns w b 30 lo hi r w') := by
  obtain ⟨W, hW⟩ : ∃ W, W = (((w.alloc (.cells #[.int .i64 p, .int .i64 q] 23)).alloc (.cells #[.bool x.neg, .slice x.a x.n x.cap] 26)).alloc (.cells #[.bool y.neg, .slice y.a y.n y.cap] 26)).alloc (.cells #[.bool false, .slice none 0 0, .bool false, .slice none 0 0, .int .i64 0] 28) := ⟨_, rfl⟩
  have hBW : Below w.heap.size w W := by rw [hW]; exact bl4 _ _ _ _ _
  have A : RaC W (w.heap.size) p q := by rw [hW]; exact ⟨by simp [go_sem], by simp [go_sem]⟩
  have X0 : NmC W (w.heap.size + 1) x := by rw [hW]; exact ⟨by simp [go_sem], by simp [go_sem]⟩
  have Y0 : NmC W (w.heap.size + 1 + 1) y := by rw [hW]; exact ⟨by simp [go_sem], by simp [go_sem]⟩
  have R : NoC W (w.heap.size + 1 + 1 + 1) := by rw [hW]; exact ⟨by simp [go_sem], by simp [go_sem], by simp [go_sem], by simp [go_sem], by simp [go_sem], fun o => by simp [go_sem]⟩
  have HX := hide (hx.below hBW)
  have HY := hide (hy.below hBW)
  have fX0 := X0.c0
  have fX1 := X0.c1
  have lX := X0.lt
  clear hx hy
  have d0 := h.d0
  have q0' := h.q0
  have p0' := h.p0
  have n0' := h.n0
  have b0 := h.b0
  have b1 := h.b1
  have HC0 := hide (show cmpInt n 0 = 1 by unfold cmpInt; rw [if_neg (by omega), if_pos (by omega)])
  have HPQ := hide (show 0 < p ∧ 0 < q ∧ p ≤ 1152921504606846976 by have := h.p0; have := h.q0; have := h.pq; have := h.qq; exact ⟨h.p0, h.q0, by omega⟩)
  have HFB := hide (show -9223372036854775808 ≤ 2 * ((b : Int) + p / q + 1) ∧ 2 * ((b : Int) + p / q + 1) ≤ 9223372036854775807 by
    have := Int.ediv_nonneg (Int.le_of_lt h.p0) (Int.le_of_lt h.q0)
    have : p / q ≤ 100 := Int.ediv_le_of_le_mul h.q0 h.pq
    have := h.b1
    exact ⟨by omega, by omega⟩)
  have HC := hide (show cmpInt n (d * (2 * ((b : Int) + p / q + 1))) = -1 by unfold cmpInt; rw [if_pos h.nx])
  have H := hide h
  have HL := hide hL
  have HG := hide (And.intro ig hX)
  have HLG := hide hLG
  have hq2 : q ≤ 1048576 := h.qq
  have hp2 : p ≤ 104857600 := by have := h.pq; omega
  obtain ⟨NS, hNS, hNS2⟩ := lu_set h
  have xx := lu_x h
  have hTN := xx.2.2
  have PK : Q 20461 < P 1300 := by
    rw [← Q_P]
    have h1 := Q_mono (show 20461 + 1 ≤ 16 * 1300 by omega)
    have g2 : ∀ j, Q (j + 1) = 2 * Q j := fun _ => rfl
    rw [g2] at h1
    have := Q_pos 20461
    generalize Q 20461 = z at *
    omega
  have HQB := hide (show -P 1300 < Q b ∧ Q b < P 1300 by
    have := Q_pos b
    have := Q_mono (show b ≤ 20461 by omega)
    have := P_pos 1300
    exact ⟨by omega, by omega⟩)
  have HTF := hide (show ∀ j, j ≤ NS → -P 1300 < (luT p q n d b j).1 ∧ (luT p q n d b j).2 < P 1300 from fun j _ => by
    have e : 0 ≤ (luT p q n d b j).1 := (se_each (lu_ok h) j).1
    have u := lu_hi h j
    have := P_pos 1300
    exact ⟨by omega, by omega⟩)
  have HTS := hide (show ∀ j, j ≤ NS → -P 1300 < (sumI (luT p q n d b) j).1 ∧ (sumI (luT p q n d b) j).2 < P 1300 from fun j hj => by
    have u := lu_fit h j (by omega)
    have l : Q b ≤ (sumI (luT p q n d b) j).1 := (se_wideS (lu_ok h) j).2.2
    have := Q_pos b
    have := P_pos 1300
    exact ⟨by omega, by omega⟩)
  have HTL := hide (fun j => show (luT p q n d b j).1 ≤ (luT p q n d b j).2 from (se_each (lu_ok h) j).2)
  have HT0 := hide (fun j => show 0 ≤ (luT p q n d b j).1 from (se_each (lu_ok h) j).1)
  have HM := hide hNS2
  have HZ := hide (show 2 * n / d = (luN n d : Int) ∧ 0 ≤ 2 * n / d ∧ 2 * n / d < P 1 ∧ -P 1 < 2 * n / d by
    have p1 : P 1 = 65536 := rfl
    have := xx.2.1
    exact ⟨by omega, by omega, by omega, by omega⟩)
  have HQ4 := hide (show Q (b + 4) < P 500 by
    rw [← Q_P]
    have h1 := Q_mono (show b + 4 + 1 ≤ 16 * 500 by omega)
    have h2 : Q (b + 4 + 1) = 2 * Q (b + 4) := rfl
    have := Q_pos (b + 4)
    omega)
  clear h hL ig hX hLG hNS2 PK xx
  go_enter Tryz.func132, Tryz.ntmps132
  go_wp2_with fail
  rw [← hW]
  clear hW fX0 fX1 lX
  refine (sign_int _ _ _ _ _ n _ (unhide HX)).mono ?_
  rintro r w1 ⟨rfl, hb1⟩
  rw [unhide HC0]
  replace A := A.below hb1
  replace X0 := X0.below hb1
  replace Y0 := Y0.below hb1
  replace R := R.below hb1
  replace HX := hide ((unhide HX).below hb1)
  replace HY := hide ((unhide HY).below hb1)
  replace hBW := bthen hBW hb1
  clear hb1
  have lA := A.lt
  have lX := X0.lt
  have lY := Y0.lt
  have lR := R.lt
  have HK := hide (show ∀ w', Below w1.heap.size w1 w' → (w'.cell? ⟨w.heap.size, 0, none⟩ = some (.int .i64 p) ∧ w'.cell? ⟨w.heap.size, 1, none⟩ = some (.int .i64 q) ∧ w'.cell? ⟨w.heap.size + 1, 0, none⟩ = some (.bool x.neg) ∧ w'.cell? ⟨w.heap.size + 1, 1, none⟩ = some (.slice x.a x.n x.cap) ∧ w'.cell? ⟨w.heap.size + 1 + 1, 0, none⟩ = some (.bool y.neg) ∧ w'.cell? ⟨w.heap.size + 1 + 1, 1, none⟩ = some (.slice y.a y.n y.cap)) from fun w' hB => ⟨(A.below hB).c0, (A.below hB).c1, (X0.below hB).c0, (X0.below hB).c1, (Y0.below hB).c0, (Y0.below hB).c1⟩)
  have hB0 : Below w1.heap.size w1 w1.drew := (Below.refl _ _).drew
  go_wp2_with fail
  obtain ⟨x0, x1, x2, x3, x4, x5⟩ := unhide HK _ (Below.refl _ _)
  go_region_held3 (fun w' => w'.cell? ⟨w.heap.size, 0, none⟩ = some (.int .i64 p) ∧ w'.cell? ⟨w.heap.size, 1, none⟩ = some (.int .i64 q) ∧ w'.cell? ⟨w.heap.size + 1, 0, none⟩ = some (.bool x.neg) ∧ w'.cell? ⟨w.heap.size + 1, 1, none⟩ = some (.slice x.a x.n x.cap) ∧ w'.cell? ⟨w.heap.size + 1 + 1, 0, none⟩ = some (.bool y.neg) ∧ w'.cell? ⟨w.heap.size + 1 + 1, 1, none⟩ = some (.slice y.a y.n y.cap)) (first | exact unhide HK _ (by first | with_reducible exact hB0 | with_reducible exact hB4 | with_reducible exact hB3 | with_reducible exact hB2 | with_reducible exact hB1) | go_keep)
    (first
      | (go_at_call 46; have hq := hB3; refine (cmp_int _ _ _ _ _ _ _ _ 4 (4 + 4) n (d * (2 * ((b : Int) + p / q + 1))) _ ((unhide HX).below hB3) hint3).mono ?_; rintro r w5 ⟨rfl, hb5⟩; rw [unhide HC]; have hB4 := bthen hB3 hb5; have i0 := unhide HK _ hB4)
      | (go_at_call 66; have hq := hB2; refine (mul_int _ _ _ _ _ _ _ _ 4 4 d (2 * ((b : Int) + p / q + 1)) _ ((unhide HY).below hB2) hint2 (by omega) (by omega)).mono ?_; rintro r w4 ⟨neg3, a3, n3, c3, rfl, hint3, hb4⟩; have hB3 := bthen hB2 hb4)
      | (go_at_call 43; have hq := hB1; refine (numOf_int (2 * ((b : Int) + p / q + 1)) _ (unhide HFB).1 (unhide HFB).2).mono ?_; rintro r w3 ⟨neg2, a2, n2, c2, rfl, hint2, hb3⟩; have hB2 := bthen hB1 hb3)
      | (go_at_call 171; refine (fromHere_int _ p q b (unhide HPQ).1 (unhide HPQ).2.1 (unhide HPQ).2.2 (by omega)).mono ?_; rintro r w2 ⟨rfl, hb2⟩; have hB1 := bthen hB0 hb2))
  all_goals
    replace A := A.below hB4
    replace X0 := X0.below hB4
    replace Y0 := Y0.below hB4
    replace R := R.below hB4
    replace HX := hide ((unhide HX).below hB4)
    replace HY := hide ((unhide HY).below hB4)
    replace hBW := bthen hBW hB4
    clear x0 x1 x2 x3 x4 x5 i0 hint2 hint3 lA lX lY lR
    have lA := A.lt
    have lX := X0.lt
    have lY := Y0.lt
    have lR := R.lt
    have HKU := hide (show ∀ w', Below w5.heap.size w5 w' → (w'.cell? ⟨w.heap.size, 0, none⟩ = some (.int .i64 p) ∧ w'.cell? ⟨w.heap.size, 1, none⟩ = some (.int .i64 q) ∧ w'.cell? ⟨w.heap.size + 1, 0, none⟩ = some (.bool x.neg) ∧ w'.cell? ⟨w.heap.size + 1, 1, none⟩ = some (.slice x.a x.n x.cap) ∧ w'.cell? ⟨w.heap.size + 1 + 1, 0, none⟩ = some (.bool y.neg) ∧ w'.cell? ⟨w.heap.size + 1 + 1, 1, none⟩ = some (.slice y.a y.n y.cap)) from fun w' hB => ⟨(A.below hB).c0, (A.below hB).c1, (X0.below hB).c0, (X0.below hB).c1, (Y0.below hB).c0, (Y0.below hB).c1⟩)
    go_wp2_with fail
    go_cut [9] (fun p wx => ∃ (B : Nat) (u : Nm), p = .pointer (some ⟨B, 0, none⟩) ∧ w5.heap.size ≤ B ∧ NmC wx B u ∧ IntAt wx u.neg u.a u.n u.cap 8 (n * q) ∧ Below w5.heap.size w5 wx)
    case first =>
      go_region_held3 (fun w' => w'.cell? ⟨w.heap.size, 0, none⟩ = some (.int .i64 p) ∧ w'.cell? ⟨w.heap.size, 1, none⟩ = some (.int .i64 q) ∧ w'.cell? ⟨w.heap.size + 1, 0, none⟩ = some (.bool x.neg) ∧ w'.cell? ⟨w.heap.size + 1, 1, none⟩ = some (.slice x.a x.n x.cap) ∧ w'.cell? ⟨w.heap.size + 1 + 1, 0, none⟩ = some (.bool y.neg) ∧ w'.cell? ⟨w.heap.size + 1 + 1, 1, none⟩ = some (.slice y.a y.n y.cap)) (exact unhide HKU _ (by repeat' (first | with_reducible exact hBU2 | with_reducible exact hBU1 | with_reducible exact Below.refl _ _ | with_reducible refine Below.drew ?_ | with_reducible refine balloc ?_ _ | with_reducible refine Below.setCell ?_ (by first | exact Nat.le_refl _ | exact hlU1 | exact hlU2) _)))
        (first
          | (go_at_call 66; have hq := hBU1; refine (mul_int _ _ _ _ _ _ _ _ 4 4 n q _ ((unhide HX).below (by first | with_reducible exact hBU1 | with_reducible exact balloc hBU1 _)) (hintU1.below (by first | with_reducible exact Below.refl _ _ | with_reducible exact bl1 _ _)) (by omega) (by omega)).mono ?_; rintro r wU2 ⟨negU2, aU2, nU2, cU2, rfl, hintU2, hbU2⟩; have hCU2 : Below wU1.heap.size wU1 wU2 := (by first | with_reducible exact hbU2 | with_reducible exact bthen (bl1 _ _) hbU2); have hBU2 := bthen hBU1 hCU2; (try with_reducible have gU2 := (noi_new wU1 26).below hbU2); replace hintU1 := hintU1.below hCU2; (try replace gU1 := gU1.below hCU2); have hlU2 := hBU2.size; (try have mU1 := gU1.lt); (try obtain ⟨zU10, zU11, zU1f⟩ := gU1); (try have mU2 := gU2.lt); (try obtain ⟨zU20, zU21, zU2f⟩ := gU2))
          | (go_at_call 43; refine (numOf_int q _ (by omega) (by omega)).mono ?_; rintro r wU1 ⟨negU1, aU1, nU1, cU1, rfl, hintU1, hbU1⟩; have hBU1 : Below w5.heap.size w5 wU1 := (by first | with_reducible exact bthen (Below.refl _ _).drew hbU1 | with_reducible exact bthen (bl1 _ _).drew hbU1); (try with_reducible have gU1 := ((noi_new w5 26).below (Below.refl _ _).drew).below hbU1); have hlU1 := hBU1.size))
      all_goals
        have hfinU : IntAt wU2 negU2 aU2 nU2 cU2 8 (n * q) := hintU2.mono (by omega)
        go_wp2_with fail
        go_meet
        refine ⟨_, ⟨negU2, aU2, nU2, cU2⟩, rfl, ?_, ⟨?_, ?_⟩, ?_, ?_⟩
        · first | exact Nat.le_refl _ | exact hlU1 | exact hlU2
        · simp [go_sem, *]
        · simp [go_sem, *]
        · first | with_reducible exact hfinU.put2 zU20 zU21 _ _ | with_reducible exact hfinU.put2 zU10 zU11 _ _ | with_reducible exact hfinU.below (bl1 _ _)
        · repeat' (first | with_reducible exact hBU2 | with_reducible exact hBU1 | with_reducible exact Below.refl _ _ | with_reducible refine Below.drew ?_ | with_reducible refine balloc ?_ _ | with_reducible refine Below.setCell ?_ (by first | exact Nat.le_refl _ | exact hlU1 | exact hlU2) _)
    case rest =>
    obtain ⟨BU, xU, rfl, hHU, XU, hpU, hblU⟩ := hcut
    obtain ⟨V1, hV1⟩ : ∃ V, V = wc := ⟨_, rfl⟩
    subst hV1
    replace A := A.below hblU
    replace X0 := X0.below hblU
    replace Y0 := Y0.below hblU
    replace R := R.below hblU
    replace HX := hide ((unhide HX).below hblU)
    replace HY := hide ((unhide HY).below hblU)
    replace hBW := bthen hBW hblU
    clear HKU lA lX lY lR hHU
    have HPU := hide hpU
    clear hpU
    have lA := A.lt
    have lX := X0.lt
    have lY := Y0.lt
    have lR := R.lt
    have lU := XU.lt
    have HK6 := hide (show ∀ w', Below V1.heap.size V1 w' → (w'.cell? ⟨w.heap.size, 0, none⟩ = some (.int .i64 p) ∧ w'.cell? ⟨w.heap.size, 1, none⟩ = some (.int .i64 q) ∧ w'.cell? ⟨w.heap.size + 1, 0, none⟩ = some (.bool x.neg) ∧ w'.cell? ⟨w.heap.size + 1, 1, none⟩ = some (.slice x.a x.n x.cap) ∧ w'.cell? ⟨w.heap.size + 1 + 1, 0, none⟩ = some (.bool y.neg) ∧ w'.cell? ⟨w.heap.size + 1 + 1, 1, none⟩ = some (.slice y.a y.n y.cap)) from fun w' hB => ⟨(A.below hB).c0, (A.below hB).c1, (X0.below hB).c0, (X0.below hB).c1, (Y0.below hB).c0, (Y0.below hB).c1⟩)
    have hE0 : Below V1.heap.size V1 V1.drew := (Below.refl _ _).drew
    go_wp2_with fail
    obtain ⟨x0, x1, x2, x3, x4, x5⟩ := unhide HK6 _ (Below.refl _ _)
    go_region_held3 (fun w' => w'.cell? ⟨w.heap.size, 0, none⟩ = some (.int .i64 p) ∧ w'.cell? ⟨w.heap.size, 1, none⟩ = some (.int .i64 q) ∧ w'.cell? ⟨w.heap.size + 1, 0, none⟩ = some (.bool x.neg) ∧ w'.cell? ⟨w.heap.size + 1, 1, none⟩ = some (.slice x.a x.n x.cap) ∧ w'.cell? ⟨w.heap.size + 1 + 1, 0, none⟩ = some (.bool y.neg) ∧ w'.cell? ⟨w.heap.size + 1 + 1, 1, none⟩ = some (.slice y.a y.n y.cap)) (first | exact unhide HK6 _ (by first | with_reducible exact hE0 | with_reducible exact hE3 | with_reducible exact hE2 | with_reducible exact hE1) | go_keep)
      (first
        | (go_at_call 158; have hq := hE2; refine (small_one _ _ _ _ (2 * n / d) _ (hint7.fits (unhide HZ).2.2.2 (unhide HZ).2.2.1) (unhide HZ).2.1).mono ?_; rintro r w8 ⟨rfl, hb8⟩; rw [(unhide HZ).1]; have hE3 := bthen hE2 hb8; have i0 := unhide HK6 _ hE3)
        | (go_at_call 119; have hq := hE1; refine (floor_any _ _ _ _ _ _ _ _ 5 4 (2 * n) d _ hint6 ((unhide HY).below hE1) (by omega) d0).mono ?_; rintro r w7 ⟨neg7, a7, n7, c7, rfl, hint7, hb7⟩; have hE2 := bthen hE1 hb7)
        | (go_at_call 95; refine (up_one _ _ _ _ 4 n _ ((unhide HX).below hE0) (by omega)).mono ?_; rintro r w6 ⟨neg6, a6, n6, c6, rfl, hint6, hb6⟩; have hE1 := bthen hE0 hb6))
    all_goals
      replace A := A.below hE3
      replace X0 := X0.below hE3
      replace Y0 := Y0.below hE3
      replace R := R.below hE3
      replace HX := hide ((unhide HX).below hE3)
      replace HY := hide ((unhide HY).below hE3)
      replace hBW := bthen hBW hE3
      replace XU := XU.below hE3
      replace HPU := hide ((unhide HPU).below hE3)
      clear x0 x1 x2 x3 x4 x5 i0 hint6 hint7 lA lX lY lR lU HK6
      have lA := A.lt
      have lX := X0.lt
      have lY := Y0.lt
      have lR := R.lt
      have lU := XU.lt
      go_wp2_with fail
      refine (one_int _ b (by omega)).mono ?_
      rintro r w9 ⟨v9, rfl, hvb9, hvp9, hb9⟩
      rw [show 1 * Q b / 1 = Q b by rw [Int.ediv_one, Int.one_mul], show -(-(1 * Q b) / 1) = Q b by rw [Int.ediv_one, Int.one_mul, Int.neg_neg]] at hvp9
      have HV9 := hide hvb9
      have HP9 := hide (hvp9.fits (K := 1300) (Int.le_refl _) (unhide HQB).1 (unhide HQB).2)
      replace A := A.below hb9
      replace X0 := X0.below hb9
      replace Y0 := Y0.below hb9
      replace R := R.below hb9
      replace HX := hide ((unhide HX).below hb9)
      replace HY := hide ((unhide HY).below hb9)
      replace hBW := bthen hBW hb9
      replace XU := XU.below hb9
      replace HPU := hide ((unhide HPU).below hb9)
      clear hb9 hvb9 hvp9 lA lX lY lR lU
      have HFN := hide (show ∀ (j : Nat) (u : Sp) w', j < NS → u.bits = (b : Int) → SpAt w' u 1300 (luT p q n d b j).1 (luT p q n d b j).2 → Below w9.heap.size w9 w' → Calls Tryz.prog 172 #[.agg #[.bool u.ln, .slice u.la u.lN u.lc, .bool u.hn, .slice u.ha u.hN u.hc, .int .i64 u.bits], .int .i64 ((j : Int) + 1), .pointer (some ⟨BU, 0, none⟩), .pointer (some ⟨w.heap.size + 1 + 1, 0, none⟩), .pointer (some ⟨w.heap.size, 0, none⟩)] w' (SpanAns w' b 1318 (luT p q n d b (j + 1)).1 (luT p q n d b (j + 1)).2) from fun j u w' hj hub hup hbw => by
        have e := lo1_iv w' BU (w.heap.size + 1 + 1) (w.heap.size) u xU y 1300 8 4 b ((j : Int) + 1) (luT p q n d b j) (n * q) d p q hup ((unhide HPU).below hbw) ((unhide HY).below hbw) (XU.below hbw) (Y0.below hbw) (A.below hbw) (by omega) (by omega) (by omega) hub (Int.mul_nonneg (by omega) (by omega)) (by
          have := mulle (show (j : Int) + 1 ≤ 70001 by omega) hq2 (by omega) (by omega)
          omega) p0' (by omega) d0
        have ec : ((j + 1 : Nat) : Int) = (j : Int) + 1 := by omega
        have e2 : luT p q n d b (j + 1) = scaleI (luT p q n d b j) (n * q) (d * (p + ((j + 1 : Nat) : Int) * q)) := rfl
        rw [e2, ec]
        exact e)
      go_wp2_with fail
      refine (rise_lo _ _ _ (luT p q n d b) (luN n d) NS b 1300 1318 v9 _ (unhide HP9) (unhide HV9) (by omega) (by omega) (by omega) (by omega) (unhide HM) (by omega) (by omega) (unhide HTL) (unhide HT0) (unhide HTF) (unhide HTS) (unhide HFN)).mono ?_
      rintro r w10 ⟨v, rfl, hvb10, hvp10, hb10⟩
      have HV := hide hvb10
      replace A := A.below hb10
      replace X0 := X0.below hb10
      replace Y0 := Y0.below hb10
      replace R := R.below hb10
      replace HX := hide ((unhide HX).below hb10)
      replace HY := hide ((unhide HY).below hb10)
      replace hBW := bthen hBW hb10
      have lR10 := R.lt
      obtain ⟨V2, hV2⟩ : ∃ V, V = w10.alloc (.cells #[.bool v.ln, .slice v.la v.lN v.lc, .bool v.hn, .slice v.ha v.hN v.hc, .int .i64 v.bits] 28) := ⟨_, rfl⟩
      have bV2 : Below w10.heap.size w10 V2 := by rw [hV2]; exact bl1 _ _
      have S2 : SpC V2 w10.heap.size v := by rw [hV2]; exact spc_new w10 v _
      have HPV := hide (show SpAt V2 v 1303 (luSer p q n d b NS).1 (luSer p q n d b NS).2 from hvp10.below bV2)
      clear hvb10 hvp10 hb10 HP9 HV9 HFN HTL HT0 HTF HTS XU HPU
      replace A := A.below bV2
      replace X0 := X0.below bV2
      replace Y0 := Y0.below bV2
      replace R := R.below bV2
      replace HX := hide ((unhide HX).below bV2)
      replace HY := hide ((unhide HY).below bV2)
      replace hBW := bthen hBW bV2
      clear bV2
      have lA := A.lt
      have lX := X0.lt
      have lY := Y0.lt
      have lR := R.lt
      have lS := S2.lt
      have HKP := hide (show ∀ w', Below V2.heap.size V2 w' → (w'.cell? ⟨w.heap.size, 0, none⟩ = some (.int .i64 p) ∧ w'.cell? ⟨w.heap.size, 1, none⟩ = some (.int .i64 q) ∧ w'.cell? ⟨w.heap.size + 1, 0, none⟩ = some (.bool x.neg) ∧ w'.cell? ⟨w.heap.size + 1, 1, none⟩ = some (.slice x.a x.n x.cap) ∧ w'.cell? ⟨w.heap.size + 1 + 1, 0, none⟩ = some (.bool y.neg) ∧ w'.cell? ⟨w.heap.size + 1 + 1, 1, none⟩ = some (.slice y.a y.n y.cap) ∧ w'.cell? ⟨w10.heap.size, 0, none⟩ = some (.bool v.ln) ∧ w'.cell? ⟨w10.heap.size, 1, none⟩ = some (.slice v.la v.lN v.lc) ∧ w'.cell? ⟨w10.heap.size, 2, none⟩ = some (.bool v.hn) ∧ w'.cell? ⟨w10.heap.size, 3, none⟩ = some (.slice v.ha v.hN v.hc) ∧ w'.cell? ⟨w10.heap.size, 4, none⟩ = some (.int .i64 v.bits)) from fun w' hB => ⟨(A.below hB).c0, (A.below hB).c1, (X0.below hB).c0, (X0.below hB).c1, (Y0.below hB).c0, (Y0.below hB).c1, (S2.below hB).c0, (S2.below hB).c1, (S2.below hB).c2, (S2.below hB).c3, (S2.below hB).c4⟩)
      go_wp2_with fail
      rw [← hV2]
      clear hV2
      go_cut [12] (fun pz wx => ∃ (B : Nat) (u : Sp) (o : Int × Int), pz = .pointer (some ⟨B, 0, none⟩) ∧ LwLog L ((n : Rat) / (d : Rat)) b o ∧ V2.heap.size ≤ B ∧ VrC wx B u ∧ SpAt wx u 541 (subI (ofI n d b) (scaleI o p q)).1 (subI (ofI n d b) (scaleI o p q)).2 ∧ u.bits = (b : Int) ∧ Below V2.heap.size V2 wx)
      case first =>
        go_region_held3 (fun w' => w'.cell? ⟨w.heap.size, 0, none⟩ = some (.int .i64 p) ∧ w'.cell? ⟨w.heap.size, 1, none⟩ = some (.int .i64 q) ∧ w'.cell? ⟨w.heap.size + 1, 0, none⟩ = some (.bool x.neg) ∧ w'.cell? ⟨w.heap.size + 1, 1, none⟩ = some (.slice x.a x.n x.cap) ∧ w'.cell? ⟨w.heap.size + 1 + 1, 0, none⟩ = some (.bool y.neg) ∧ w'.cell? ⟨w.heap.size + 1 + 1, 1, none⟩ = some (.slice y.a y.n y.cap) ∧ w'.cell? ⟨w10.heap.size, 0, none⟩ = some (.bool v.ln) ∧ w'.cell? ⟨w10.heap.size, 1, none⟩ = some (.slice v.la v.lN v.lc) ∧ w'.cell? ⟨w10.heap.size, 2, none⟩ = some (.bool v.hn) ∧ w'.cell? ⟨w10.heap.size, 3, none⟩ = some (.slice v.ha v.hN v.hc) ∧ w'.cell? ⟨w10.heap.size, 4, none⟩ = some (.int .i64 v.bits)) (exact unhide HKP _ (by repeat' (first | with_reducible exact hBP4 | with_reducible exact hBP3 | with_reducible exact hBP2 | with_reducible exact hBP1 | with_reducible exact Below.refl _ _ | with_reducible refine Below.drew ?_ | with_reducible refine balloc ?_ _ | with_reducible refine Below.setCell ?_ (by first | exact Nat.le_refl _ | exact hlP1 | exact hlP2 | exact hlP3 | exact hlP4) _)))
          (first
            | (go_at_call 118; have hq := hBP3; refine (sub_iv _ vP1 vP3 540 b (ofI n d b) (scaleI (lnOf (doneI (lnT n' d' b) N1) (doneI (lnT 2 1 b) N2) cc) p q) ((hintP1.below (by first | with_reducible exact Below.refl _ _ | with_reducible exact bl1 _ _)).mono (by omega)) ((hintP3.below (by first | with_reducible exact Below.refl _ _ | with_reducible exact bl1 _ _)).mono (by omega)) (by omega) (unhide HVBP1)).mono ?_; rintro r wP4 ⟨vP4, rfl, hvbP4, hintP4, hbP4⟩; have HVBP4 := hide hvbP4; clear hvbP4; have hCP4 : Below wP3.heap.size wP3 wP4 := (by first | with_reducible exact hbP4 | with_reducible exact bthen (bl1 _ _) hbP4); have hBP4 := bthen hBP3 hCP4; (try with_reducible have gP4 := (noc_new wP3 28).below hbP4); replace hintP1 := hintP1.below hCP4; (try replace gP1 := gP1.below hCP4); (try replace gP2 := gP2.below hCP4); replace hintP3 := hintP3.below hCP4; (try replace gP3 := gP3.below hCP4); have hlP4 := hBP4.size; (try have mP1 := gP1.lt); (try have eP1 := Nat.ne_of_lt mP1); (try have eP1' := Nat.ne_of_gt mP1); (try obtain ⟨zP10, zP11, zP12, zP13, zP14, zP15⟩ := gP1); (try have mP2 := gP2.lt); (try have eP2 := Nat.ne_of_lt mP2); (try have eP2' := Nat.ne_of_gt mP2); (try obtain ⟨zP20, zP21, zP22, zP23, zP24, zP25⟩ := gP2); (try have mP3 := gP3.lt); (try have eP3 := Nat.ne_of_lt mP3); (try have eP3' := Nat.ne_of_gt mP3); (try obtain ⟨zP30, zP31, zP32, zP33, zP34, zP35⟩ := gP3); (try have mP4 := gP4.lt); (try have eP4 := Nat.ne_of_lt mP4); (try have eP4' := Nat.ne_of_gt mP4); (try obtain ⟨zP40, zP41, zP42, zP43, zP44, zP45⟩ := gP4))
            | (go_at_call 144; have hq := hBP2; refine (timesRatio_iv _ vP2 520 b (lnOf (doneI (lnT n' d' b) N1) (doneI (lnT 2 1 b) N2) cc) p q (hintP2.below (by first | with_reducible exact Below.refl _ _ | with_reducible exact bl1 _ _)) (by omega) (unhide HVBP2) (by omega) (by omega) q0' (by omega)).mono ?_; rintro r wP3 ⟨vP3, rfl, hvbP3, hintP3, hbP3⟩; have HVBP3 := hide hvbP3; clear hvbP3; have hCP3 : Below wP2.heap.size wP2 wP3 := (by first | with_reducible exact hbP3 | with_reducible exact bthen (bl1 _ _) hbP3); have hBP3 := bthen hBP2 hCP3; (try with_reducible have gP3 := (noc_new wP2 28).below hbP3); replace hintP1 := hintP1.below hCP3; (try replace gP1 := gP1.below hCP3); (try replace gP2 := gP2.below hCP3); have hlP3 := hBP3.size)
            | (go_at_call 116; have hq := hBP1; refine (wideLog_iv _ x y 4 b 500 n d ((unhide HX).below (by first | with_reducible exact hBP1 | with_reducible exact balloc hBP1 _)) ((unhide HY).below (by first | with_reducible exact hBP1 | with_reducible exact balloc hBP1 _)) (by omega) (by omega) (by omega) (by omega) (by omega) (unhide HQ4) (by omega)).mono ?_; rintro r wP2 ⟨n', d', cc, N1, N2, hbal, hc1, hc2, hN1, hN2, vP2, rfl, hvbP2, hintP2, hbP2⟩; have HVBP2 := hide hvbP2; have HLO := hide (lwLog_of (unhide HL) n0' d0 (by omega) hbal (by omega) (by omega) hN1 hN2); clear hvbP2 hbal hc1 hc2 hN1 hN2; have hCP2 : Below wP1.heap.size wP1 wP2 := (by first | with_reducible exact hbP2 | with_reducible exact bthen (bl1 _ _) hbP2); have hBP2 := bthen hBP1 hCP2; (try with_reducible have gP2 := (noc_new wP1 28).below hbP2); replace hintP1 := hintP1.below hCP2; (try replace gP1 := gP1.below hCP2); have hlP2 := hBP2.size)
            | (go_at_call 140; refine (wideOf_any _ _ _ _ _ _ _ _ 4 4 b n d _ ((unhide HX).below (by first | with_reducible exact (Below.refl _ _).drew | with_reducible exact (bl1 _ _).drew)) ((unhide HY).below (by first | with_reducible exact (Below.refl _ _).drew | with_reducible exact (bl1 _ _).drew)) (by omega) (by omega) d0).mono ?_; rintro r wP1 ⟨vP1, rfl, hvbP1, hintP1, hbP1⟩; have HVBP1 := hide hvbP1; clear hvbP1; have hBP1 : Below V2.heap.size V2 wP1 := (by first | with_reducible exact bthen (Below.refl _ _).drew hbP1 | with_reducible exact bthen (bl1 _ _).drew hbP1); (try with_reducible have gP1 := ((noc_new V2 28).below (Below.refl _ _).drew).below hbP1); have hlP1 := hBP1.size))
        all_goals
          have hfinP : SpAt wP4 vP4 541 (subI (ofI n d b) (scaleI (lnOf (doneI (lnT n' d' b) N1) (doneI (lnT 2 1 b) N2) cc) p q)).1 (subI (ofI n d b) (scaleI (lnOf (doneI (lnT n' d' b) N1) (doneI (lnT 2 1 b) N2) cc) p q)).2 := hintP4
          go_wp2_with fail
          go_meet
          refine ⟨_, vP4, _, rfl, unhide HLO, ?_, ⟨⟨?_, ?_, ?_, ?_, ?_⟩, ?_⟩, ?_, unhide HVBP4, ?_⟩
          · first | exact Nat.le_refl _ | exact hlP1 | exact hlP2 | exact hlP3 | exact hlP4
          · simp [go_sem, *]
          · simp [go_sem, *]
          · simp [go_sem, *]
          · simp [go_sem, *]
          · simp [go_sem, *]
          · intro o; simp [go_sem, *]
          · first | with_reducible exact SpAt.put5 hfinP zP40 zP41 zP42 zP43 zP44 _ _ _ _ _ | with_reducible exact SpAt.put5 hfinP zP30 zP31 zP32 zP33 zP34 _ _ _ _ _ | with_reducible exact SpAt.put5 hfinP zP20 zP21 zP22 zP23 zP24 _ _ _ _ _ | with_reducible exact SpAt.put5 hfinP zP10 zP11 zP12 zP13 zP14 _ _ _ _ _ | with_reducible exact hfinP.below (bl1 _ _)
          · repeat' (first | with_reducible exact hBP4 | with_reducible exact hBP3 | with_reducible exact hBP2 | with_reducible exact hBP1 | with_reducible exact Below.refl _ _ | with_reducible refine Below.drew ?_ | with_reducible refine balloc ?_ _ | with_reducible refine Below.setCell ?_ (by first | exact Nat.le_refl _ | exact hlP1 | exact hlP2 | exact hlP3 | exact hlP4) _)
      case rest =>
      obtain ⟨BP, xP, o, rfl, hLO, hHP, XP, hpP, hxbP, hblP⟩ := hcut
      obtain ⟨V3, hV3⟩ : ∃ V, V = wc := ⟨_, rfl⟩
      subst hV3
      have lRP := Nat.lt_of_lt_of_le lR hHP
      replace A := A.below hblP
      replace X0 := X0.below hblP
      replace Y0 := Y0.below hblP
      replace R := R.below hblP
      replace HX := hide ((unhide HX).below hblP)
      replace HY := hide ((unhide HY).below hblP)
      replace hBW := bthen hBW hblP
      replace S2 := S2.below hblP
      replace HPV := hide ((unhide HPV).below hblP)
      have HPP := hide hpP
      have HPB := hide hxbP
      have HLO := hide hLO
      have XPC := XP.c
      clear hpP hxbP hLO XP HKP lA lX lY lR lS hHP
      have lA := A.lt
      have lX := X0.lt
      have lY := Y0.lt
      have lR := R.lt
      have lS := S2.lt
      have lP := XPC.lt
      have HK9 := hide (show ∀ w', Below V3.heap.size V3 w' → (w'.cell? ⟨w.heap.size, 0, none⟩ = some (.int .i64 p) ∧ w'.cell? ⟨w.heap.size, 1, none⟩ = some (.int .i64 q) ∧ w'.cell? ⟨w.heap.size + 1, 0, none⟩ = some (.bool x.neg) ∧ w'.cell? ⟨w.heap.size + 1, 1, none⟩ = some (.slice x.a x.n x.cap) ∧ w'.cell? ⟨w.heap.size + 1 + 1, 0, none⟩ = some (.bool y.neg) ∧ w'.cell? ⟨w.heap.size + 1 + 1, 1, none⟩ = some (.slice y.a y.n y.cap) ∧ w'.cell? ⟨w10.heap.size, 0, none⟩ = some (.bool v.ln) ∧ w'.cell? ⟨w10.heap.size, 1, none⟩ = some (.slice v.la v.lN v.lc) ∧ w'.cell? ⟨w10.heap.size, 2, none⟩ = some (.bool v.hn) ∧ w'.cell? ⟨w10.heap.size, 3, none⟩ = some (.slice v.ha v.hN v.hc) ∧ w'.cell? ⟨w10.heap.size, 4, none⟩ = some (.int .i64 v.bits) ∧ w'.cell? ⟨BP, 0, none⟩ = some (.bool xP.ln) ∧ w'.cell? ⟨BP, 1, none⟩ = some (.slice xP.la xP.lN xP.lc) ∧ w'.cell? ⟨BP, 2, none⟩ = some (.bool xP.hn) ∧ w'.cell? ⟨BP, 3, none⟩ = some (.slice xP.ha xP.hN xP.hc) ∧ w'.cell? ⟨BP, 4, none⟩ = some (.int .i64 xP.bits)) from fun w' hB => ⟨(A.below hB).c0, (A.below hB).c1, (X0.below hB).c0, (X0.below hB).c1, (Y0.below hB).c0, (Y0.below hB).c1, (S2.below hB).c0, (S2.below hB).c1, (S2.below hB).c2, (S2.below hB).c3, (S2.below hB).c4, (XPC.below hB).c0, (XPC.below hB).c1, (XPC.below hB).c2, (XPC.below hB).c3, (XPC.below hB).c4⟩)
      have hF0 : Below V3.heap.size V3 V3.drew := (Below.refl _ _).drew
      have HPA := hide (show IntKind.i64.wrap (p + q) = p + q from i64_id _ (by omega) (by omega))
      have nR1 : w.heap.size + 1 + 1 + 1 ≠ w10.heap.size := by omega
      have nR2 : w.heap.size + 1 + 1 + 1 ≠ BP := by omega
      have nR3 : w.heap.size + 1 + 1 + 1 ≠ w.heap.size + 1 + 1 := by omega
      have nR4 : w.heap.size + 1 + 1 + 1 ≠ w.heap.size + 1 := by omega
      have nR5 : w.heap.size + 1 + 1 + 1 ≠ w.heap.size := by omega
      have nR6 : w.heap.size + 1 + 1 ≠ w.heap.size := by omega
      go_wp2_with fail
      obtain ⟨x0, x1, x2, x3, x4, x5, x6, x7, x8, x9, x10, x11, x12, x13, x14, x15⟩ := unhide HK9 _ (Below.refl _ _)
      go_region_held3 (fun w' => w'.cell? ⟨w.heap.size, 0, none⟩ = some (.int .i64 p) ∧ w'.cell? ⟨w.heap.size, 1, none⟩ = some (.int .i64 q) ∧ w'.cell? ⟨w.heap.size + 1, 0, none⟩ = some (.bool x.neg) ∧ w'.cell? ⟨w.heap.size + 1, 1, none⟩ = some (.slice x.a x.n x.cap) ∧ w'.cell? ⟨w.heap.size + 1 + 1, 0, none⟩ = some (.bool y.neg) ∧ w'.cell? ⟨w.heap.size + 1 + 1, 1, none⟩ = some (.slice y.a y.n y.cap) ∧ w'.cell? ⟨w10.heap.size, 0, none⟩ = some (.bool v.ln) ∧ w'.cell? ⟨w10.heap.size, 1, none⟩ = some (.slice v.la v.lN v.lc) ∧ w'.cell? ⟨w10.heap.size, 2, none⟩ = some (.bool v.hn) ∧ w'.cell? ⟨w10.heap.size, 3, none⟩ = some (.slice v.ha v.hN v.hc) ∧ w'.cell? ⟨w10.heap.size, 4, none⟩ = some (.int .i64 v.bits) ∧ w'.cell? ⟨BP, 0, none⟩ = some (.bool xP.ln) ∧ w'.cell? ⟨BP, 1, none⟩ = some (.slice xP.la xP.lN xP.lc) ∧ w'.cell? ⟨BP, 2, none⟩ = some (.bool xP.hn) ∧ w'.cell? ⟨BP, 3, none⟩ = some (.slice xP.ha xP.hN xP.hc) ∧ w'.cell? ⟨BP, 4, none⟩ = some (.int .i64 xP.bits)) (first | exact unhide HK9 _ (by first | with_reducible exact hF0 | with_reducible exact hF5 | with_reducible exact hF4 | with_reducible exact hF3 | with_reducible exact hF2 | with_reducible exact hF1) | go_keep)
        (first
          | (go_at_call 145; have hq := hF4; refine (upToOne_int _ f4 _ b _ _ hfp4 (unhide F4) (by omega) (by omega) (by omega)).mono ?_; rintro r g5 ⟨f5, rfl, hfb5, hfp5, hg5⟩; rw [minZ_cap] at hfp5; have F5 := hide hfb5; clear hfb5; have hF5 := bthen hF4 hg5; obtain ⟨q0, q1, q2, q3, q4, q5⟩ := R.below hF5)
          | (go_at_call 146; have hq := hF3; refine (wideDiv_any _ v f3 49300 b (luSer p q n d b NS).1 (luSer p q n d b NS).2 (luE p q n d b o (lg, ug) t NE).1 (luE p q n d b o (lg, ug) t NE).2 (((unhide HPV).below hF3).mono (by omega)) hfp3 (by omega) (by omega) (unhide HV) (unhide HRES).2.2.2.1 (fun hh => absurd hh.1 (Int.not_le.2 (unhide HRES).1)) (unhide HRES).2.1).mono ?_; rintro r g4 ⟨f4, rfl, hfb4, hfp4, hg4⟩; have F4 := hide hfb4; clear hfb4; have hF4 := bthen hF3 hg4)
          | (go_at_call 147; have hq := hF2; refine (wideExp_iv _ f2 49300 b t NE (luY p q n d b o (lg, ug)) l (SpAt.mono (show SpAt _ f2 542 (luY p q n d b o (lg, ug)).1 (luY p q n d b o (lg, ug)).2 from hfp2) (by omega)) (unhide F2) (unhide HYL) (by omega) (by omega) (unhide HE1) (unhide HE2) (by omega) (unhide HE4) (unhide HE5) (unhide HQE) (by omega)).mono ?_; rintro r g3 ⟨f3, rfl, hfb3, hfp3, hg3⟩; clear hfb3; have hF3 := bthen hF2 hg3)
          | (go_at_call 113; have hq := hF1; refine (add_iv _ xP f1 541 b (subI (ofI n d b) (scaleI o p q)) (lg, ug) ((unhide HPP).below hF1) (hfp1.mono (by omega)) (by omega) (unhide HPB)).mono ?_; rintro r g2 ⟨f2, rfl, hfb2, hfp2, hg2⟩; have F2 := hide hfb2; clear hfb2; have hF2 := bthen hF1 hg2)
          | (go_at_call 61; (try rw [unhide HPA]); refine (unhide HLG _).mono ?_; rintro r g1 ⟨lg, ug, hlg, f1, rfl, hfb1, hfp1, hg1⟩; clear hfb1; have hF1 := bthen hF0 hg1; obtain ⟨l, t, NE, e1, e2, e3, e4, e5, e6, e7, e8⟩ := lu_exp (unhide H) (unhide HLO) hlg (unhide HL) (unhide HG).1 (unhide HG).2 hNS (unhide HM); have HE1 := hide e1; have HE2 := hide e2; have HE4 := hide e4; have HE5 := hide e5; have HQE := hide e6; have HYL := hide e7; have HRES := hide e8; clear e1 e2 e4 e5 e6 e7 e8 hlg))
      all_goals
        have fit := SpAt.fits (K := 30) (show SpAt g5 f5 _ (dvLo (luSer p q n d b NS).1 (luSer p q n d b NS).2 (luE p q n d b o (lg, ug) t NE).1 (luE p q n d b o (lg, ug) t NE).2 b) (luHi (luSer p q n d b NS) (luE p q n d b o (lg, ug) t NE) b) from hfp5) (lw_fit (unhide HRES).2.2.2.2 b1).1 (lw_fit (unhide HRES).2.2.2.2 b1).2.1 (lw_fit (unhide HRES).2.2.2.2 b1).2.2
        have HVAL := hide (show LwPr (lwX L p q n d g) b (dvLo (luSer p q n d b NS).1 (luSer p q n d b NS).2 (luE p q n d b o (lg, ug) t NE).1 (luE p q n d b o (lg, ug) t NE).2 b) (luHi (luSer p q n d b NS) (luE p q n d b o (lg, ug) t NE) b) by unfold lwX; rw [if_neg (by omega)]; exact (unhide HRES).2.2.2.2)
        go_wp2_with fail
        refine bodyPost_ret (v := .agg #[.bool f5.ln, .slice f5.la f5.lN f5.lc, .bool f5.hn, .slice f5.ha f5.hN f5.hc, .int .i64 f5.bits]) (by simp [results, Tryz.results132, go_sem, q0, q1, q2, q3, q4]) rfl ⟨_, _, unhide HVAL, f5, rfl, unhide F5, ?_, ?_⟩
        · exact SpAt.put5 fit q0 q1 q2 q3 q4 _ _ _ _ _
        · exact set5 (bthen hBW hF5) (by omega) _ _ _ _ _
end Go.Proofs.YtgmnknmjainababGreat
namespace Go.Proofs.YtgmnknmjainababGreat
open Go.RowKit
attribute [local go_sem ↓] Go.wp_at_zero Go.wp_at_succ
open Ex
set_option maxRecDepth 100000 in
set_option maxHeartbeats 4000000 in
theorem logGamma_iv2 (L : Rat → Nat → Rat) (hL : Lns L) (w : World) (n d : Int) (b : Nat) (g x : Nat → Rat) (h : StIn n d) (hn : n ≤ 4611686018427387904) (hb0 : 40 ≤ b) (hb : b ≤ 1000) (hg : Gam1 L (((n - (stN n d : Int) * d) : Int) / (d : Rat)) g) (hgp : ∃ c : Rat, 0 < c ∧ ∃ N : Nat, ∀ M, N ≤ M → c ≤ g M) (hx : IsLog x (gmV n d g)) :
    Calls Tryz.prog 61 #[.int .i64 n, .int .i64 d, .int .i64 b] w (fun r w' => ∃ lo hi, LgP2 x b lo hi ∧ SpanAns w b 521 lo hi r w') := by
  have HI := hide (h.in_ (B := b) (by omega) (by omega))
  have k200 := h.rest.2.2
  have HPQ := hide (show 0 < stP n d (stN n d) ∧ 0 < stQ d (stN n d) from ⟨stP_pos h (Nat.le_refl _), stQ_pos h.d0 _⟩)
  have H := hide h
  have HL := hide hL
  have HG := hide hg
  have HGP := hide hgp
  have HX0 := hide hx
  have HQ4 := hide (show Q (b + 4) < P 500 by
    rw [← Q_P]
    have h1 := Q_mono (show b + 4 + 1 ≤ 16 * 500 by omega)
    have h2 : Q (b + 4 + 1) = 2 * Q (b + 4) := rfl
    have := Q_pos (b + 4)
    omega)
  clear h hL hg hgp hx
  have R := noc_new w 28
  have hBW : Below w.heap.size w (w.alloc (.cells #[.bool false, .slice none 0 0, .bool false, .slice none 0 0, .int .i64 0] 28)) := bl1 _ _
  go_enter Tryz.func61, Tryz.ntmps61
  go_wp2_with fail
  refine (steps_int _ n d (unhide H) hn).mono ?_
  rintro r w1 ⟨X, Y, rfl, hX, hY, hb1⟩
  replace R := R.below hb1
  replace hBW := bthen hBW hb1
  clear hb1
  have lR := R.lt
  obtain ⟨V, hV⟩ : ∃ V, V = (w1.alloc (.cells #[.bool X.neg, .slice X.a X.n X.cap] 26)).alloc (.cells #[.bool Y.neg, .slice Y.a Y.n Y.cap] 26) := ⟨_, rfl⟩
  have bV : Below w1.heap.size w1 V := by rw [hV]; exact bl2 _ _ _
  have CX : NmC V w1.heap.size X := by rw [hV]; exact ⟨by simp [go_sem], by simp [go_sem]⟩
  have CY : NmC V (w1.heap.size + 1) Y := by rw [hV]; exact ⟨by simp [go_sem], by simp [go_sem]⟩
  have HX := hide ((hX.mono (show 4 * stN n d + 4 ≤ 804 by omega)).below bV)
  have HY := hide ((hY.mono (show 4 * stN n d + 4 ≤ 804 by omega)).below bV)
  replace R := R.below bV
  replace hBW := bthen hBW bV
  have lX := CX.lt
  have lY := CY.lt
  have lR2 := R.lt
  have HK := hide (show ∀ w', Below V.heap.size V w' → (w'.cell? ⟨w1.heap.size, 0, none⟩ = some (.bool X.neg) ∧ w'.cell? ⟨w1.heap.size, 1, none⟩ = some (.slice X.a X.n X.cap) ∧ w'.cell? ⟨(w1.heap.size + 1), 0, none⟩ = some (.bool Y.neg) ∧ w'.cell? ⟨(w1.heap.size + 1), 1, none⟩ = some (.slice Y.a Y.n Y.cap)) from fun w' hB => ⟨(CX.below hB).c0, (CX.below hB).c1, (CY.below hB).c0, (CY.below hB).c1⟩)
  clear hX hY bV CX CY
  go_wp2_with fail
  rw [← hV]
  clear hV
  have hD0 : Below V.heap.size V V.drew := (Below.refl _ _).drew
  obtain ⟨x0, x1, x2, x3⟩ := unhide HK _ (Below.refl _ _)
  have m1 : w.heap.size ≠ w1.heap.size := by omega
  have m2 : w.heap.size ≠ w1.heap.size + 1 := by omega
  go_region_held3 (fun w' => w'.cell? ⟨w1.heap.size, 0, none⟩ = some (.bool X.neg) ∧ w'.cell? ⟨w1.heap.size, 1, none⟩ = some (.slice X.a X.n X.cap) ∧ w'.cell? ⟨(w1.heap.size + 1), 0, none⟩ = some (.bool Y.neg) ∧ w'.cell? ⟨(w1.heap.size + 1), 1, none⟩ = some (.slice Y.a Y.n Y.cap)) (first | exact unhide HK _ (by first | with_reducible exact hD0 | with_reducible exact hD4 | with_reducible exact hD3 | with_reducible exact hD2 | with_reducible exact hD1) | go_keep)
    (first
      | (go_at_call 113; have hqq := hD3; refine (add_iv _ v2 v3 520 b (p1, r2) (lnOf (doneI (lnT n' d' b) N1) (doneI (lnT 2 1 b) N2) cc) (hint2.below hb3) hint3 (by omega) (unhide F2)).mono ?_; rintro r' w4 ⟨t, rfl, htb, htp, hb4⟩; have HT := hide htb; clear htb; have hD4 := bthen hD3 hb4; obtain ⟨q0, q1, q2, q3, q4, q5⟩ := R.below hD4; obtain ⟨i0, i1, i2, i3⟩ := unhide HK _ hD4)
      | (go_at_call 116; have hqq := hD2; refine (wideLog_iv _ X Y 804 b 500 (stP n d (stN n d)) (stQ d (stN n d)) ((unhide HX).below hD2) ((unhide HY).below hD2) (by omega) (unhide HPQ).1 (unhide HPQ).2 (by omega) (by omega) (unhide HQ4) (by omega)).mono ?_; rintro r' w3 ⟨n', d', cc, N1, N2, hbal, hc1, hc2, hN1, hN2, v3, rfl, hvb3, hint3, hb3⟩; clear hvb3; have hD3 := bthen hD2 hb3; have HX3 := hide (And.intro hbal (And.intro hc1 (And.intro hc2 (And.intro hN1 hN2)))); clear hbal hc1 hc2 hN1 hN2)
      | (go_at_call 114; have hqq := hD1; refine (logSpan_iv _ v1 b (lo, hi) hint1 (unhide F1) (by omega) (by omega) (unhide HGV).pos (unhide HGV).le).mono ?_; rintro r' w2 ⟨p1, p2, r1, r2, l1, l2, hls, hk1, hk2, v2, rfl, hvb2, hint2, hb2⟩; have F2 := hide hvb2; have HLS := hide (And.intro hls (And.intro hk1 hk2)); clear hvb2 hls hk1 hk2; have hD2 := bthen hD1 hb2)
      | (go_at_call 115; refine (gammaBelow_iv L (unhide HL) _ (n - (stN n d : Int) * d) d b g (unhide HI) (unhide HG)).mono ?_; rintro r' wg ⟨lo, hi, hgv, v1, rfl, hvb1, hint1, hb1⟩; have F1 := hide hvb1; have HGV := hide hgv; clear hvb1 hgv; have hD1 := bthen hD0 hb1))
  all_goals
    go_wp2_with fail
    obtain ⟨ls, k1, k2⟩ := unhide HLS
    obtain ⟨bal, c1, c2, s1, s2⟩ := unhide HX3
    obtain ⟨lp, g1, i1'⟩ := log_has (unhide HPQ).1 (unhide HPQ).2 bal b N1 N2
    refine bodyPost_ret (v := .agg #[.bool t.ln, .slice t.la t.lN t.lc, .bool t.hn, .slice t.ha t.hN t.hc, .int .i64 t.bits]) (by simp [results, Tryz.results61, go_sem, q0, q1, q2, q3, q4]) rfl ⟨_, _, lgam_ok2 (unhide H) hb0 hb (unhide HGV) ls g1 i1' k1 k2 (lb_of (by omega) hb bal.1 s1 s2 804 (by omega) c1 c2) (unhide HX0) (unhide HGP) (unhide HL), t, rfl, unhide HT, ?_, ?_⟩
    · exact SpAt.put5 htp q0 q1 q2 q3 q4 _ _ _ _ _
    · exact set5 (bthen hBW hD4) (by omega) _ _ _ _ _
end Go.Proofs.YtgmnknmjainababGreat
namespace Go.Proofs.YtgmnknmjainababGreat
open Go.RowKit
attribute [local go_sem ↓] Go.wp_at_zero Go.wp_at_succ
open Ex
theorem lower_iv (L G : Rat → Nat → Rat) (X : Int → Int → Nat → Rat) (hE : GEnv L G X) (w : World) (x y : Nm) (p q n d : Int) (b : Nat) (hx : IntAt w x.neg x.a x.n x.cap 4 n) (hy : IntAt w y.neg y.a y.n y.cap 4 d) (h : LwAr p q n d b) :
    Calls Tryz.prog 132 #[.agg #[.int .i64 p, .int .i64 q], .agg #[.bool x.neg, .slice x.a x.n x.cap], .agg #[.bool y.neg, .slice y.a y.n y.cap], .int .i64 b] w (fun r w' => ∃ lo hi, LwPr (lwX L p q n d (gmV p q (G (gA p q)))) b lo hi ∧ SpanAns w b 30 lo hi r w') := by
  have p0 := h.p0
  have q0 := h.q0
  have pq := h.pq
  have qq := h.qq
  have st : StIn p q := ⟨p0, q0, by omega, by omega⟩
  have st2 : StIn (p + q) q := ⟨by omega, q0, by omega, by omega⟩
  have ig := gam_ratio hE st
  have n0 := h.n0
  by_cases h0 : n = 0
  · exact lower_zero L hE.lns w x y p q n d b _ (X p q) hx hy h h0
  · by_cases hf : d * (2 * ((b : Int) + p / q + 1)) ≤ n
    · exact lower_far L hE.lns w x y p q n d b _ (X p q) hx hy h (by omega) hf ig
    · refine lower_near L hE.lns w x y p q n d b _ (X (p + q) q) hx hy ⟨p0, q0, pq, qq, by omega, h.d0, h.nn, h.dd, by omega, h.b0, h.b1⟩ ig ?_ ?_
      · have k := hE.lg (p + q) q st2
        have e : gmV (p + q) q (G (gA (p + q) q)) = fun M => (p : Rat) / (q : Rat) * gmV p q (G (gA p q)) M := by
          funext M
          rw [gA_next p0 q0, gmV_next p0 q0, Rat.mul_comm]
        rw [e] at k
        exact k
      · intro w'
        have g := hE.gam _ (gA_ok st2).1 (gA_ok st2).2
        have b1 := h.b1
        exact logGamma_iv2 L hE.lns w' (p + q) q b (G (gA (p + q) q)) (X (p + q) q) st2 (by omega) h.b0 (by omega) g (g.isGam hE.lns (gA_ok st2).1).pos (hE.lg (p + q) q st2)
def uE (p q n d bt : Int) : Int := if ¬ ((rok p q ∧ rok n d) ∧ 8 ≤ bt ∧ bt ≤ 120) then 3 else if n < 0 then 5 else if p ≤ 0 then 5 else if 100 * q < p then 2 else 0
theorem uE_zero {p q n d bt : Int} (h : uE p q n d bt = 0) : rok p q ∧ rok n d ∧ (8 ≤ bt ∧ bt ≤ 120) ∧ 0 ≤ n ∧ 0 < p ∧ p ≤ 100 * q := by
  unfold uE at h
  split at h
  · omega
  · rename_i k
    have k := Classical.not_not.1 k
    split at h
    · omega
    · split at h
      · omega
      · split at h
        · omega
        · exact ⟨k.1.1, k.1.2, k.2, by omega, by omega, by omega⟩
theorem lwAr_of {p q n d bt : Int} (h : uE p q n d bt = 0) {B : Nat} (h0 : 40 ≤ B) (h1 : B ≤ 400) : LwAr p q n d B := by
  obtain ⟨⟨a1, a2, a3, a4⟩, ⟨c1, c2, c3, c4⟩, _, e1, e2, e3⟩ := uE_zero h
  exact ⟨e2, by omega, e3, by omega, e1, by omega, by omega, by omega, h0, h1⟩
theorem rf2 {bt p q n d z : Int} (h : RFlt bt (fun j => if j = 0 then p else n) (fun j => if j = 0 then q else d) 2 z) : (z = 0 ∧ (rok p q ∧ rok n d) ∧ 8 ≤ bt ∧ bt ≤ 120) ∨ (z = 3 ∧ ¬ ((rok p q ∧ rok n d) ∧ 8 ≤ bt ∧ bt ≤ 120)) := by
  rcases h with ⟨rfl, h1, h2⟩ | ⟨rfl, h1⟩
  · exact Or.inl ⟨rfl, ⟨h2 0 (by omega), h2 1 (by omega)⟩, h1⟩
  · refine Or.inr ⟨rfl, fun k => h1 ⟨k.2, fun j hj => ?_⟩⟩
    match j with
    | 0 => exact k.1.1
    | 1 => exact k.1.2
    | j + 2 => omega
theorem shf1 {p q z : Int} (h : ShF (fun _ => p) (fun _ => q) 1 z) : z = if p ≤ 0 then 5 else if 100 * q < p then 2 else 0 := by
  rcases h with ⟨rfl, j, _, hj⟩ | ⟨rfl, hp, j, _, hj⟩ | ⟨rfl, hp⟩
  · rw [if_pos (show p ≤ 0 from hj)]
  · have h0 : 0 < p := hp 0 (by omega)
    rw [if_neg (by omega), if_pos (show 100 * q < p from hj)]
  · have h0 : 0 < p ∧ p ≤ 100 * q := hp 0 (by omega)
    rw [if_neg (by omega), if_neg (by omega)]
theorem lw_ends (x : Nat → Rat) {bits : Nat} (hb : bits ≤ 120) : SureEnds bits 89 (LwPr x) := fun m lo hi h => by
  have q : Q (bits + m) ≤ P 200 * Q m := Q_fit (b := bits) (m := m) (k := 0) (by omega)
  have := h.hi
  have := h.lo
  have p := Int.mul_nonneg (show 0 ≤ P 200 by have := P_pos 200; omega) (show 0 ≤ Q m by have := Q_pos m; omega)
  exact ⟨h.le, h.wd, by omega, by omega⟩
theorem sure_lw {x : Nat → Rat} {b : Nat} {L H : Int} (h : SureOf b (LwPr x) L H) : SuV x b L H ∧ 0 ≤ L ∧ H ≤ Q b := by
  refine ⟨sure_su h fun B lo hi p => ⟨p.le, p.iv⟩, ?_⟩
  obtain ⟨m, lo, hi, pr, hm, e1, e2, h6⟩ := h
  have q := Q_pos m
  refine ⟨by rw [e1]; exact Int.ediv_nonneg pr.lo (by omega), ?_⟩
  have e : Q (b + m) = Q b * Q m := Q_add b m
  have hh := pr.hi
  have p0 := pr.lo
  have pl := pr.le
  have r := (round_abs (x := hi) (m := Q b) (q := Q m) (by omega) (by
    have := Int.mul_nonneg (show 0 ≤ Q b by have := Q_pos b; omega) (show 0 ≤ Q m by omega)
    omega) (by omega)).2.2.2
  rw [e2]; exact r
theorem lw_rest {x : Nat → Rat} {B : Nat} {l u : Int} (h : LwPr x B l u) : LwPr (fun M => 1 - x M) B (restI B (l, u)).1 (restI B (l, u)).2 := by
  have i : Iv B (subI (Q B, Q B) (l, u)) (fun M => 1 - x M) := (one_iv B).sub h.iv
  have h1 := h.lo
  have h2 := h.le
  have h3 := h.hi
  have h4 := h.wd
  have e1 : (restI B (l, u)).1 = Q B - u := rfl
  have e2 : (restI B (l, u)).2 = Q B - l := rfl
  exact ⟨by omega, by omega, by omega, by omega, i⟩
set_option maxRecDepth 100000 in
set_option maxHeartbeats 4000000 in
theorem uFault (w : World) (p q n d bt : Int) :
    Calls Tryz.prog 130 #[.agg #[.int .i64 p, .int .i64 q], .agg #[.int .i64 n, .int .i64 d], .int .i64 bt] w (fun r w' => r = .returned (.int .i64 (uE p q n d bt)) ∧ Below w.heap.size w w') := by
  obtain ⟨W, hW⟩ : ∃ W, W = (w.alloc (.cells #[.int .i64 p, .int .i64 q] 23)).alloc (.cells #[.int .i64 n, .int .i64 d] 23) := ⟨_, rfl⟩
  have hBW : Below w.heap.size w W := by rw [hW]; exact bl2 _ _ _
  have A : RaC W w.heap.size p q := by rw [hW]; exact ⟨by simp [go_sem], by simp [go_sem]⟩
  have D : RaC W (w.heap.size + 1) n d := by rw [hW]; exact ⟨by simp [go_sem], by simp [go_sem]⟩
  have hsz : W.heap.size = w.heap.size + 1 + 1 := by rw [hW]; simp
  have a0 := A.c0
  have a1 := A.c1
  have d0 := D.c0
  have d1 := D.c1
  go_enter Tryz.func130, Tryz.ntmps130
  go_wp2_with fail
  rw [← hW]
  clear hW a0 a1 d0 d1
  refine (ratioFault_any bt _ 2 _ (fun j => if j = 0 then p else n) (fun j => if j = 0 then q else d) _ (rats2' W _ hsz p q n d _) (by omega)).mono ?_
  rintro r w1 ⟨z1, rfl, hf, hb1⟩
  have hb1' : Below W.heap.size W w1 := bthen (bl1 _ _) hb1
  replace A := A.below hb1'
  replace D := D.below hb1'
  replace hBW := bthen hBW hb1'
  clear hb1 hb1' hsz
  rcases rf2 hf with ⟨rfl, hok⟩ | ⟨rfl, hbad⟩
  · have HOK := hide hok
    clear hf hok
    have a0 := A.c0
    have a1 := A.c1
    have d0 := D.c0
    have lA := A.lt
    have lD := D.lt
    by_cases hn : n < 0
    · go_wp2_with fail
      refine bodyPost_ret (v := .int .i64 5) (by simp [results, Tryz.results130, go_sem]) rfl ⟨?_, hBW⟩
      unfold uE
      rw [if_neg (fun k => k (unhide HOK)), if_pos hn]
    · go_wp2_with fail
      refine (shapeFault_any _ 1 _ (fun _ => p) (fun _ => q) _ (rats1' w1 _ rfl p q _) (by omega) (fun _ _ => (unhide HOK).1.1)).mono ?_
      rintro r w2 ⟨z2, rfl, hf2, hb2⟩
      obtain rfl := shf1 hf2
      replace hBW := bthen (bthen hBW (bl1 _ _)) hb2
      obtain ⟨e, he⟩ : ∃ e : Int, e = (if p ≤ 0 then 5 else if 100 * q < p then 2 else 0) := ⟨_, rfl⟩
      have HV := hide (show uE p q n d bt = e by
        rw [he]
        unfold uE
        rw [if_neg (fun k => k (unhide HOK)), if_neg (by omega)])
      rw [← he]
      clear he hf2 hb2 a0 a1 d0
      go_wp2_with fail
      exact bodyPost_ret (v := .int .i64 e) (by simp [results, Tryz.results130, go_sem]) rfl ⟨by rw [unhide HV], hBW⟩
  · have HB := hide hbad
    clear hf hbad
    go_wp2_with fail
    refine bodyPost_ret (v := .int .i64 3) (by simp [results, Tryz.results130, go_sem]) rfl ⟨?_, hBW⟩
    unfold uE
    rw [if_pos (unhide HB)]
end Go.Proofs.YtgmnknmjainababGreat
