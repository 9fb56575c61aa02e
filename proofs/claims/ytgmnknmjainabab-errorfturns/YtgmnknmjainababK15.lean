/-
  What wide.Erf answers, and that it leaves old memory alone.
  What wide.Rest, errorf.erf and the function literals of package errorf answer.
  What Erf and Erfc of a ratio are: told of their numbers. Plain arithmetic: no statement of the seat is proved here.
-/
import Derived.Test.YtgmnknmjainababK14
namespace Go.Proofs.Ytgmnknmjainabab
set_option linter.unusedVariables false
set_option linter.unusedSimpArgs false
set_option linter.unnecessarySimpa false
open Go.RowKit
attribute [local go_sem ↓] Go.wp_at_zero Go.wp_at_succ

theorem up_one (neg : Bool) (a : Option Addr) (n cap k1 : Nat) (x : Int) (w : World) (h1 : IntAt w neg a n cap k1 x) (hk1 : k1 ≤ 1000000000) :
    Calls Try.prog 113 #[.agg #[.bool neg, .slice a n cap], .int .i64 1] w fun r w' =>
      ∃ neg' a' n' cap', r = .returned (.agg #[.bool neg', .slice a' n' cap']) ∧ IntAt w' neg' a' n' cap' (k1 + 1) (2 * x) ∧ Below w.heap.size w w' :=
  (up_int neg a n cap 1 k1 x w h1 hk1 (by omega)).mono fun r w' ⟨q1, q2, q3, q4, e, h, hb⟩ => ⟨q1, q2, q3, q4, e, by
    have e1 : x * Q 1 = 2 * x := by have : Q 1 = 2 := rfl; rw [this]; omega
    have e2 : 1 / 16 + k1 + 1 = k1 + 1 := by omega
    rw [e1, e2] at h; exact h, hb⟩

set_option maxRecDepth 100000 in
set_option maxHeartbeats 8000000 in
theorem erf_far (w : World) (x y : Nm) (n d : Int) (b : Nat) (hx : IntAt w x.neg x.a x.n x.cap 8 n) (hy : IntAt w y.neg y.a y.n y.cap 8 d) (hb40 : 40 ≤ b) (hb : b ≤ 10000) (hge : d * (b : Int) ≤ n) :
    Calls Try.prog 77 #[.agg #[.bool x.neg, .slice x.a x.n x.cap], .agg #[.bool y.neg, .slice y.a y.n y.cap], .int .i64 b] w (SpanAns w b (b / 16 + 30) (Q b - 1) (Q b)) := by
  obtain ⟨W, hW⟩ : ∃ W, W = ((w.alloc (.cells #[.bool x.neg, .slice x.a x.n x.cap] 26)).alloc (.cells #[.bool y.neg, .slice y.a y.n y.cap] 26)).alloc (.cells #[.bool false, .slice none 0 0, .bool false, .slice none 0 0, .int .i64 0] 28) := ⟨_, rfl⟩
  have hBW : Below w.heap.size w W := by rw [hW]; exact bl3 _ _ _ _
  have X : NmC W w.heap.size x := by rw [hW]; exact ⟨by simp [go_sem], by simp [go_sem]⟩
  have Y : NmC W (w.heap.size + 1) y := by rw [hW]; exact ⟨by simp [go_sem], by simp [go_sem]⟩
  have R : NoC W (w.heap.size + 1 + 1) := by rw [hW]; exact ⟨by simp [go_sem], by simp [go_sem], by simp [go_sem], by simp [go_sem], by simp [go_sem], fun o => by simp [go_sem]⟩
  have HX := hide (hx.below hBW)
  have HY := hide (hy.below hBW)
  have lX := X.lt
  have lY := Y.lt
  have lR := R.lt
  have HK := hide (show ∀ w', Below W.heap.size W w' → (w'.cell? ⟨w.heap.size, 0, none⟩ = some (.bool x.neg) ∧ w'.cell? ⟨w.heap.size, 1, none⟩ = some (.slice x.a x.n x.cap) ∧ w'.cell? ⟨w.heap.size + 1, 0, none⟩ = some (.bool y.neg) ∧ w'.cell? ⟨w.heap.size + 1, 1, none⟩ = some (.slice y.a y.n y.cap)) from fun w' hB => ⟨(X.below hB).c0, (X.below hB).c1, (Y.below hB).c0, (Y.below hB).c1⟩)
  have hB0 : Below W.heap.size W W.drew := (Below.refl _ _).drew
  clear hx hy
  have HC : Hid (cmpInt n (d * (b : Int)) = if n = d * (b : Int) then 0 else 1) := hide (by unfold cmpInt; split <;> (try split) <;> (try split) <;> omega)
  have HCC : Hid (0 ≤ (if n = d * (b : Int) then (0 : Int) else 1)) := hide (by split <;> omega)
  obtain ⟨cc, hcc⟩ : ∃ cc : Int, cc = (if n = d * (b : Int) then (0 : Int) else 1) := ⟨_, rfl⟩
  rw [← hcc] at HC HCC
  have hc0 : 0 ≤ cc := unhide HCC
  clear hcc HCC
  go_enter Try.func77, Try.ntmps77
  go_wp2
  rw [← hW]
  clear hW
  obtain ⟨x0, x1, x2, x3⟩ := unhide HK _ (Below.refl _ _)
  go_region_held3 (fun w' => w'.cell? ⟨w.heap.size, 0, none⟩ = some (.bool x.neg) ∧ w'.cell? ⟨w.heap.size, 1, none⟩ = some (.slice x.a x.n x.cap) ∧ w'.cell? ⟨w.heap.size + 1, 0, none⟩ = some (.bool y.neg) ∧ w'.cell? ⟨w.heap.size + 1, 1, none⟩ = some (.slice y.a y.n y.cap)) (first | exact unhide HK _ (by first | with_reducible exact hB0 | with_reducible exact hB3 | with_reducible exact hB2 | with_reducible exact hB1) | go_keep)
    (first
      | (go_at_call 24; have hq := hB2; refine (cmp_int _ _ _ _ _ _ _ _ 8 (8 + 4) n (d * (b : Int)) _ ((unhide HX).below hB2) hint2).mono ?_; rintro r w3 ⟨rfl, hb3⟩; rw [unhide HC]; have hB3 := bthen hB2 hb3; have i0 := unhide HK _ hB3)
      | (go_at_call 84; have hq := hB1; refine (mul_int _ _ _ _ _ _ _ _ 8 4 d (b : Int) _ ((unhide HY).below hB1) hint1 (by omega) (by omega)).mono ?_; rintro r w2 ⟨neg2, a2, n2, c2, rfl, hint2, hb2⟩; have hB2 := bthen hB1 hb2)
      | (go_at_call 48; refine (numOf_int (b : Int) _ (by omega) (by omega)).mono ?_; rintro r w1 ⟨neg1, a1, n1, c1, rfl, hint1, hb1⟩; have hB1 := bthen hB0 hb1))
  all_goals
    have R3 := R.below hB3
    replace hBW := bthen hBW hB3
    have lR3 := R3.lt
    clear x0 x1 x2 x3 i0 hint2 hint1
    go_wp2_with fail
    refine (nearlyOne_int _ b (by omega)).mono ?_
    rintro r w4 ⟨t, rfl, htb, htp, hb4⟩
    obtain ⟨q0, q1, q2, q3, q4, q5⟩ := R3.below hb4
    replace hBW := bthen hBW hb4
    have HT := hide htb
    clear htb
    go_wp2_with fail
    refine bodyPost_ret (v := .agg #[.bool t.ln, .slice t.la t.lN t.lc, .bool t.hn, .slice t.ha t.hN t.hc, .int .i64 t.bits]) (by simp [results, Try.results77, go_sem, q0, q1, q2, q3, q4]) rfl ⟨t, rfl, unhide HT, ?_, ?_⟩
    · exact SpAt.put5 htp q0 q1 q2 q3 q4 _ _ _ _ _
    · exact set5 hBW (by omega) _ _ _ _ _

set_option maxRecDepth 100000 in
set_option maxHeartbeats 8000000 in
theorem erf_iv (w : World) (x y : Nm) (n d : Int) (b : Nat) (hx : IntAt w x.neg x.a x.n x.cap 8 n) (hy : IntAt w y.neg y.a y.n y.cap 8 d) (hb40 : 40 ≤ b) (hb : b ≤ 10000) (xr : Rat) (M t N N5 N9 : Nat) (l : Int) (h : ErIn n d xr) (hlt : n < d * (b : Int)) (hM : M ≤ 3 * b + 8523) (hM2 : IsRise (erT n d b) (erTurn n d) M) (hl : LenIs (reachI (ofI n d b)) l) (ht : (t : Int) = max 0 (l - b + 8)) (ht16 : t ≤ 16) (hA : Abs (downI (ofI n d b) t) (Q (b - 8))) (hN : IsStop (expT b (downI (ofI n d b) t)) N) (h5 : IsStop (agT 5 b) N5) (h9 : IsStop (agT 239 b) N9) :
    Calls Try.prog 77 #[.agg #[.bool x.neg, .slice x.a x.n x.cap], .agg #[.bool y.neg, .slice y.a y.n y.cap], .int .i64 b] w (SpanAns w b 3000 (cap1 b (erQ n d b M t N N5 N9)).1 (cap1 b (erQ n d b M t N N5 N9)).2) := by
  obtain ⟨W, hW⟩ : ∃ W, W = ((w.alloc (.cells #[.bool x.neg, .slice x.a x.n x.cap] 26)).alloc (.cells #[.bool y.neg, .slice y.a y.n y.cap] 26)).alloc (.cells #[.bool false, .slice none 0 0, .bool false, .slice none 0 0, .int .i64 0] 28) := ⟨_, rfl⟩
  have hBW : Below w.heap.size w W := by rw [hW]; exact bl3 _ _ _ _
  have X : NmC W w.heap.size x := by rw [hW]; exact ⟨by simp [go_sem], by simp [go_sem]⟩
  have Y : NmC W (w.heap.size + 1) y := by rw [hW]; exact ⟨by simp [go_sem], by simp [go_sem]⟩
  have R : NoC W (w.heap.size + 1 + 1) := by rw [hW]; exact ⟨by simp [go_sem], by simp [go_sem], by simp [go_sem], by simp [go_sem], by simp [go_sem], fun o => by simp [go_sem]⟩
  have HX := hide (hx.below hBW)
  have HY := hide (hy.below hBW)
  have lX := X.lt
  have lY := Y.lt
  have lR := R.lt
  have HK := hide (show ∀ w', Below W.heap.size W w' → (w'.cell? ⟨w.heap.size, 0, none⟩ = some (.bool x.neg) ∧ w'.cell? ⟨w.heap.size, 1, none⟩ = some (.slice x.a x.n x.cap) ∧ w'.cell? ⟨w.heap.size + 1, 0, none⟩ = some (.bool y.neg) ∧ w'.cell? ⟨w.heap.size + 1, 1, none⟩ = some (.slice y.a y.n y.cap)) from fun w' hB => ⟨(X.below hB).c0, (X.below hB).c1, (Y.below hB).c0, (Y.below hB).c1⟩)
  have hB0 : Below W.heap.size W W.drew := (Below.refl _ _).drew
  clear hx hy
  have d0 : 0 < d := h.d0
  have HC : Hid (cmpInt n (d * (b : Int)) = -1) := hide (by unfold cmpInt; rw [if_pos hlt])
  have HH := hide h
  have hQK : ∀ j : Nat, j ≤ 15900 → Q j < P 1000 := fun j hj => by
    rw [← Q_P]
    have h1 := Q_mono (show j + 1 ≤ 16 * 1000 by omega)
    have h2 : Q (j + 1) = 2 * Q j := rfl
    have := Q_pos j
    omega
  have HQK := hide hQK
  have HF0 : Hid ((erF n d b).1 ≤ (erF n d b).2 ∧ -P 1000 < (erF n d b).1 ∧ (erF n d b).2 < P 1000) := hide (by
    obtain ⟨f1, f2, f3, f4, f5⟩ := erF_ok h b
    have := hQK (b + 4) (by omega)
    have := Q_pos (b + 4)
    exact ⟨f2, by omega, by omega⟩)
  have HTF : Hid (∀ j, j ≤ M → -P 1000 < (erT n d b j).1 ∧ (erT n d b j).2 < P 1000) := hide (fun j _ => by
    obtain ⟨f1, f2, f3, f4⟩ := erT_each h b j
    have := hQK (b + 2740) (by omega)
    have := Q_pos (b + 2740)
    exact ⟨by omega, by omega⟩)
  have HTS : Hid (∀ j, j ≤ M → -P 1000 < (sumI (erT n d b) j).1 ∧ (sumI (erT n d b) j).2 < P 1000) := hide (fun j hj => by
    obtain ⟨f1, f2, f3, f4⟩ := erT_sum h b hb j (by omega)
    have := hQK (b + 2760) (by omega)
    have := Q_pos (b + 2760)
    exact ⟨by omega, by omega⟩)
  have HTL := hide (fun j => (erT_each h b j).2.1)
  have HT0 := hide (fun j => (erT_each h b j).1)
  have HPB : Hid ((erP b N5 N9).1 ≤ (erP b N5 N9).2 ∧ -P 1000 < (erP b N5 N9).1 ∧ (erP b N5 N9).2 < P 1000) := hide (by
    obtain ⟨R', hR'⟩ := Ex.piR_ex
    obtain ⟨f1, f2, f3, f4, f5⟩ := erP_ok hR' (by omega) hb h5 h9
    have := hQK (b + 4) (by omega)
    have e : Q (b + 4) = 2 * (2 * (2 * (2 * Q b))) := rfl
    have := Q_pos b
    exact ⟨f2, by omega, by omega⟩)
  have HDN : Hid (¬ ((erDn n d b t N N5 N9).1 ≤ 0 ∧ 0 ≤ (erDn n d b t N N5 N9).2) ∧ (erDn n d b t N N5 N9).1 ≤ (erDn n d b t N N5 N9).2) := hide (by
    obtain ⟨R', hR'⟩ := Ex.piR_ex
    obtain ⟨f1, f2, f3, f4, f5⟩ := erDn_ok hR' h hb40 hb ht16 hA hN h5 h9
    have := Q_pos b
    exact ⟨by omega, f2⟩)
  have HSL : Hid ((erSer n d b M).1 * 2 ≤ (erSer n d b M).2 * 2) := hide (by
    obtain ⟨f1, f2, f3, f4, f5⟩ := erSer_ok h hb hM hM2
    omega)
  have HQ4 : Hid (Q (b + 4) < P 1000) := hide (hQK _ (by omega))
  have HEB : Hid (Q (b + eb t) < P 1000) := hide (hQK _ (by have := eb_mono (show t ≤ 17 by omega); rw [eb_17] at this; omega))
  have htn : erTurn n d ≤ 303 := er_turn h.n0 h.d0 h.up
  have HZ : Hid (2 * n / d = (erTurn n d : Int) ∧ 0 ≤ 2 * n / d ∧ 2 * n / d < P 1 ∧ -P 1 < 2 * n / d) := hide (by
    have z0 : 0 ≤ 2 * n / d := Int.ediv_nonneg (by have := h.n0; omega) (by omega)
    have e : 2 * n / d = (erTurn n d : Int) := by unfold erTurn; omega
    have p1 : P 1 = 65536 := rfl
    exact ⟨e, z0, by omega, by omega⟩)
  have HOL := hide (ofI_le (n := n) d0 b)
  have HM := hide hM2
  have Hl := hide hl
  have HTT := hide ht
  have HAA := hide hA
  have HN := hide hN
  have H5 := hide h5
  have H9 := hide h9
  clear h hlt hM2 hl ht hA hN h5 h9 hQK
  go_enter Try.func77, Try.ntmps77
  go_wp2
  rw [← hW]
  clear hW
  obtain ⟨x0, x1, x2, x3⟩ := unhide HK _ (Below.refl _ _)
  go_region_held3 (fun w' => w'.cell? ⟨w.heap.size, 0, none⟩ = some (.bool x.neg) ∧ w'.cell? ⟨w.heap.size, 1, none⟩ = some (.slice x.a x.n x.cap) ∧ w'.cell? ⟨w.heap.size + 1, 0, none⟩ = some (.bool y.neg) ∧ w'.cell? ⟨w.heap.size + 1, 1, none⟩ = some (.slice y.a y.n y.cap)) (first | exact unhide HK _ (by first | with_reducible exact hB0 | with_reducible exact hB3 | with_reducible exact hB2 | with_reducible exact hB1) | go_keep)
    (first
      | (go_at_call 24; have hq := hB2; refine (cmp_int _ _ _ _ _ _ _ _ 8 (8 + 4) n (d * (b : Int)) _ ((unhide HX).below hB2) hint2).mono ?_; rintro r w3 ⟨rfl, hb3⟩; rw [unhide HC]; have hB3 := bthen hB2 hb3; have i0 := unhide HK _ hB3)
      | (go_at_call 84; have hq := hB1; refine (mul_int _ _ _ _ _ _ _ _ 8 4 d (b : Int) _ ((unhide HY).below hB1) hint1 (by omega) (by omega)).mono ?_; rintro r w2 ⟨neg2, a2, n2, c2, rfl, hint2, hb2⟩; have hB2 := bthen hB1 hb2)
      | (go_at_call 48; refine (numOf_int (b : Int) _ (by omega) (by omega)).mono ?_; rintro r w1 ⟨neg1, a1, n1, c1, rfl, hint1, hb1⟩; have hB1 := bthen hB0 hb1))
  all_goals
    have R3 := R.below hB3
    have X3 := X.below hB3
    have Y3 := Y.below hB3
    have HX3 := hide ((unhide HX).below hB3)
    have HY3 := hide ((unhide HY).below hB3)
    replace hBW := bthen hBW hB3
    clear x0 x1 x2 x3 i0 hint2 hint1 HK HX HY X Y R
    obtain ⟨x0, x1⟩ := X3
    obtain ⟨x2, x3⟩ := Y3
    have lX3 := NmC.lt ⟨x0, x1⟩
    have lY3 := NmC.lt ⟨x2, x3⟩
    go_wp2_with fail
    refine (up_one _ _ _ _ 8 n _ (unhide HX3) (by omega)).mono ?_
    rintro r w4 ⟨neg4, a4, n4, c4, rfl, hint4, hb4⟩
    replace R3 := R3.below hb4
    have X4 : NmC w4 w.heap.size x := NmC.below ⟨x0, x1⟩ hb4
    have Y4 : NmC w4 (w.heap.size + 1) y := NmC.below ⟨x2, x3⟩ hb4
    replace HX3 := hide ((unhide HX3).below hb4)
    replace HY3 := hide ((unhide HY3).below hb4)
    replace hBW := bthen hBW hb4
    clear x0 x1 x2 x3 hb4 lX3 lY3
    obtain ⟨V4, hV4⟩ : ∃ V, V = w4.alloc (.cells #[.bool neg4, .slice a4 n4 c4] 26) := ⟨_, rfl⟩
    have bV4 : Below w4.heap.size w4 V4 := by rw [hV4]; exact bl1 _ _
    have D4 : NmC V4 w4.heap.size ⟨neg4, a4, n4, c4⟩ := by rw [hV4]; exact nmc_new w4 ⟨neg4, a4, n4, c4⟩ _
    have HD4 := hide (hint4.below bV4)
    have lD : w.heap.size + 1 + 1 < w4.heap.size := R3.lt
    have lX4 := X4.lt
    have lY4 := Y4.lt
    have Xk := hide (X4.below bV4)
    have Yk := hide (Y4.below bV4)
    have Dk := hide D4
    obtain ⟨x0, x1⟩ := X4
    obtain ⟨x2, x3⟩ := Y4
    replace R3 := R3.below bV4
    replace HX3 := hide ((unhide HX3).below bV4)
    replace HY3 := hide ((unhide HY3).below bV4)
    replace hBW := bthen hBW bV4
    clear hint4 bV4 D4
    go_wp2_with fail
    rw [← hV4]
    clear hV4 x0 x1 x2 x3 lX4 lY4
    refine (floor_any _ _ _ _ _ _ _ _ 9 8 (2 * n) d _ (unhide HD4) (unhide HY3) (by omega) d0).mono ?_
    rintro r w5 ⟨neg5, a5, n5, c5, rfl, hint5, hb5⟩
    replace R3 := R3.below hb5
    have X4 := (unhide Xk).below hb5
    have Y4 := (unhide Yk).below hb5
    have D4 := (unhide Dk).below hb5
    replace HX3 := hide ((unhide HX3).below hb5)
    replace HY3 := hide ((unhide HY3).below hb5)
    replace HD4 := hide ((unhide HD4).below hb5)
    replace hBW := bthen hBW hb5
    clear hb5 Xk Yk Dk
    go_wp2_with fail
    refine (small_one _ _ _ _ (2 * n / d) _ (hint5.fits (unhide HZ).2.2.2 (unhide HZ).2.2.1) (unhide HZ).2.1).mono ?_
    rintro r w6 ⟨rfl, hb6⟩
    rw [(unhide HZ).1]
    replace R3 := R3.below hb6
    replace X4 := X4.below hb6
    replace Y4 := Y4.below hb6
    replace D4 := D4.below hb6
    replace HX3 := hide ((unhide HX3).below hb6)
    replace HY3 := hide ((unhide HY3).below hb6)
    replace HD4 := hide ((unhide HD4).below hb6)
    replace hBW := bthen hBW hb6
    clear hb6 hint5
    have lX4 := X4.lt
    have lY4 := Y4.lt
    obtain ⟨x0, x1⟩ := X4
    obtain ⟨x2, x3⟩ := Y4
    go_wp2_with fail
    refine (wideOf_any _ _ _ _ _ _ _ _ 8 8 b n d _ (unhide HX3) (unhide HY3) (by omega) (by omega) d0).mono ?_
    rintro r w7 ⟨v7, rfl, hvb7, hvp7, hb7⟩
    have HV7 := hide hvb7
    replace R3 := R3.below hb7
    have X4 : NmC w7 w.heap.size x := NmC.below ⟨x0, x1⟩ hb7
    have Y4 : NmC w7 (w.heap.size + 1) y := NmC.below ⟨x2, x3⟩ hb7
    replace D4 := D4.below hb7
    replace HX3 := hide ((unhide HX3).below hb7)
    replace HY3 := hide ((unhide HY3).below hb7)
    replace HD4 := hide ((unhide HD4).below hb7)
    replace hBW := bthen hBW hb7
    clear hb7 hvb7 x0 x1 x2 x3 lX4 lY4
    go_wp2_with fail
    refine (wideRoot_int _ v7 _ b _ _ hvp7 (by omega) (by omega) (unhide HV7)).mono ?_
    rintro r w8 ⟨v8, rfl, hvb8, hvp8, hb8⟩
    have HV8 := hide hvb8
    have HP8 := hide (show SpAt w8 v8 1000 (erF n d b).1 (erF n d b).2 from hvp8.fits (unhide HF0).1 (unhide HF0).2.1 (unhide HF0).2.2)
    replace R3 := R3.below hb8
    replace X4 := X4.below hb8
    replace Y4 := Y4.below hb8
    replace D4 := D4.below hb8
    replace HX3 := hide ((unhide HX3).below hb8)
    replace HY3 := hide ((unhide HY3).below hb8)
    replace HD4 := hide ((unhide HD4).below hb8)
    replace hBW := bthen hBW hb8
    clear hb8 hvb8 hvp8 hvp7 HV7
    have HFN := hide (show ∀ (j : Nat) (u : Sp) w', j < M → u.bits = (b : Int) → SpAt w' u 1000 (erT n d b j).1 (erT n d b j).2 → Below w8.heap.size w8 w' → Calls Try.prog 135 #[.agg #[.bool u.ln, .slice u.la u.lN u.lc, .bool u.hn, .slice u.ha u.hN u.hc, .int .i64 u.bits], .int .i64 ((j : Int) + 1), .pointer (some ⟨w4.heap.size, 0, none⟩), .pointer (some ⟨w.heap.size + 1, 0, none⟩)] w' (SpanAns w' b 1019 (erT n d b (j + 1)).1 (erT n d b (j + 1)).2) from fun j u w' hj hub hup hbw => er1_iv w' w4.heap.size (w.heap.size + 1) u ⟨neg4, a4, n4, c4⟩ y 1000 9 8 b ((j : Int) + 1) (erT n d b j) (2 * n) d hup ((unhide HD4).below hbw) ((unhide HY3).below hbw) (D4.below hbw) (Y4.below hbw) (by omega) (by omega) (by omega) hub (by omega) (by omega) d0)
    go_wp2_with fail
    refine (rise_erf _ _ (erT n d b) (erTurn n d) M b 1000 1019 v8 _ (unhide HP8) (unhide HV8) (by omega) (by omega) (by omega) (by omega) (unhide HM) (by omega) (by omega) (unhide HTL) (unhide HT0) (unhide HTF) (unhide HTS) (unhide HFN)).mono ?_
    rintro r w9 ⟨v, rfl, hvb9, hvp9, hb9⟩
    have HV9 := hide hvb9
    have HP9 := hide (show SpAt w9 v 1003 (erSer n d b M).1 (erSer n d b M).2 from hvp9)
    replace R3 := R3.below hb9
    replace X4 := X4.below hb9
    replace Y4 := Y4.below hb9
    replace HX3 := hide ((unhide HX3).below hb9)
    replace HY3 := hide ((unhide HY3).below hb9)
    replace hBW := bthen hBW hb9
    have lR9 := R3.lt
    clear hb9 hvb9 hvp9 HP8 HFN D4 HD4 HTL HT0 HTF HTS HM HV8
    obtain ⟨V9, hV9⟩ : ∃ V, V = w9.alloc (.cells #[.bool v.ln, .slice v.la v.lN v.lc, .bool v.hn, .slice v.ha v.hN v.hc, .int .i64 v.bits] 28) := ⟨_, rfl⟩
    have bV9 : Below w9.heap.size w9 V9 := by rw [hV9]; exact bl1 _ _
    have S9 : SpC V9 w9.heap.size v := by rw [hV9]; exact spc_new w9 v _
    replace HP9 := hide ((unhide HP9).below bV9)
    replace R3 := R3.below bV9
    replace X4 := X4.below bV9
    replace Y4 := Y4.below bV9
    replace HX3 := hide ((unhide HX3).below bV9)
    replace HY3 := hide ((unhide HY3).below bV9)
    replace hBW := bthen hBW bV9
    clear bV9
    have lX9 := X4.lt
    have lY9 := Y4.lt
    have lS9 := S9.lt
    have lRR := R3.lt
    have HK6 := hide (show ∀ w', Below V9.heap.size V9 w' → (w'.cell? ⟨w9.heap.size, 0, none⟩ = some (.bool v.ln) ∧ w'.cell? ⟨w9.heap.size, 1, none⟩ = some (.slice v.la v.lN v.lc) ∧ w'.cell? ⟨w9.heap.size, 2, none⟩ = some (.bool v.hn) ∧ w'.cell? ⟨w9.heap.size, 3, none⟩ = some (.slice v.ha v.hN v.hc) ∧ w'.cell? ⟨w9.heap.size, 4, none⟩ = some (.int .i64 v.bits) ∧ w'.cell? ⟨w.heap.size, 0, none⟩ = some (.bool x.neg) ∧ w'.cell? ⟨w.heap.size, 1, none⟩ = some (.slice x.a x.n x.cap) ∧ w'.cell? ⟨w.heap.size + 1, 0, none⟩ = some (.bool y.neg) ∧ w'.cell? ⟨w.heap.size + 1, 1, none⟩ = some (.slice y.a y.n y.cap)) from fun w' hB => ⟨(S9.below hB).c0, (S9.below hB).c1, (S9.below hB).c2, (S9.below hB).c3, (S9.below hB).c4, (X4.below hB).c0, (X4.below hB).c1, (Y4.below hB).c0, (Y4.below hB).c1⟩)
    have hD0 : Below V9.heap.size V9 V9.drew := (Below.refl _ _).drew
    go_wp2_with fail
    rw [← hV9]
    clear hV9
    obtain ⟨x0, x1, x2, x3, x4, x5, x6, x7, x8⟩ := unhide HK6 _ (Below.refl _ _)
    have nR1 : w.heap.size + 1 + 1 ≠ w9.heap.size := by omega
    have nR2 : w.heap.size + 1 + 1 ≠ w.heap.size + 1 := by omega
    have nR3 : w.heap.size + 1 + 1 ≠ w.heap.size := by omega
    go_region_held3 (fun w' => w'.cell? ⟨w9.heap.size, 0, none⟩ = some (.bool v.ln) ∧ w'.cell? ⟨w9.heap.size, 1, none⟩ = some (.slice v.la v.lN v.lc) ∧ w'.cell? ⟨w9.heap.size, 2, none⟩ = some (.bool v.hn) ∧ w'.cell? ⟨w9.heap.size, 3, none⟩ = some (.slice v.ha v.hN v.hc) ∧ w'.cell? ⟨w9.heap.size, 4, none⟩ = some (.int .i64 v.bits) ∧ w'.cell? ⟨w.heap.size, 0, none⟩ = some (.bool x.neg) ∧ w'.cell? ⟨w.heap.size, 1, none⟩ = some (.slice x.a x.n x.cap) ∧ w'.cell? ⟨w.heap.size + 1, 0, none⟩ = some (.bool y.neg) ∧ w'.cell? ⟨w.heap.size + 1, 1, none⟩ = some (.slice y.a y.n y.cap)) (first | exact unhide HK6 _ (by first | with_reducible exact hD0 | with_reducible exact hD8 | with_reducible exact hD7 | with_reducible exact hD6 | with_reducible exact hD5 | with_reducible exact hD4 | with_reducible exact hD3 | with_reducible exact hD2 | with_reducible exact hD1) | go_keep)
      (first
        | (go_at_call 129; have hq := hD7; refine (upToOne_int _ f7 _ b _ _ hfp7 (unhide F7) (by omega) (by omega) (by omega)).mono ?_; rintro r g8 ⟨f8, rfl, hfb8, hfp8, hg8⟩; have F8 := hide hfb8; clear hfb8; have hD8 := bthen hD7 hg8; obtain ⟨q0, q1, q2, q3, q4, q5⟩ := R3.below hD8; obtain ⟨i0, i1, i2, i3, i4, i5, i6, i7, i8⟩ := unhide HK6 _ hD8)
        | (go_at_call 130; have hq := hD6; refine (wideDiv_any _ f1 f6 2008 b _ _ _ _ ((hfp1.below (bthen hg2 (bthen hg3 (bthen hg4 (bthen hg5 hg6))))).mono (by omega)) hfp6 (by omega) (by omega) (unhide F1) (unhide HSL) (unhide HDN).1 (unhide HDN).2).mono ?_; rintro r g7 ⟨f7, rfl, hfb7, hfp7, hg7⟩; have F7 := hide hfb7; clear hfb7; have hD7 := bthen hD6 hg7)
        | (go_at_call 68; have hq := hD5; refine (mul_iv _ f3 f5 1000 b (erP b N5 N9) (erX n d b t N) (hfp3.below (bthen hg4 hg5)) hfp5 (by omega) (unhide F3) (by omega)).mono ?_; rintro r g6 ⟨f6, rfl, hfb6, hfp6, hg6⟩; clear hfb6; have hD6 := bthen hD5 hg6)
        | (go_at_call 131; have hq := hD4; refine (wideExp_iv _ f4 1000 b t N (ofI n d b) l hfp4 (unhide F4) (unhide HOL) (by omega) (by omega) (unhide Hl) (unhide HTT) (by omega) (unhide HAA) (unhide HN) (unhide HEB) (by omega)).mono ?_; rintro r g5 ⟨f5, rfl, hfb5, hfp5, hg5⟩; clear hfb5; have hD5 := bthen hD4 hg5)
        | (go_at_call 66; have hq := hD3; refine (wideOf_any _ _ _ _ _ _ _ _ 8 8 b n d _ ((unhide HX3).below hD3) ((unhide HY3).below hD3) (by omega) (by omega) d0).mono ?_; rintro r g4 ⟨f4, rfl, hfb4, hfp4', hg4⟩; have hfp4 := hfp4'.mono (show 8 + b / 16 + 20 ≤ 1000 by omega); have F4 := hide hfb4; clear hfb4 hfp4'; have hD4 := bthen hD3 hg4)
        | (go_at_call 134; have hq := hD2; refine (wideRoot_int _ f2 1008 b _ _ hfp2 (by omega) (by omega) (unhide F2)).mono ?_; rintro r g3 ⟨f3, rfl, hfb3, hfp3', hg3⟩; have hfp3 := SpAt.fits (K := 1000) (show SpAt g3 f3 _ (erP b N5 N9).1 (erP b N5 N9).2 from hfp3') (unhide HPB).1 (unhide HPB).2.1 (unhide HPB).2.2; have F3 := hide hfb3; clear hfb3 hfp3'; have hD3 := bthen hD2 hg3)
        | (go_at_call 137; have hq := hD1; refine (pi_iv _ b N5 N9 1000 (by omega) (by omega) (unhide H5) (unhide H9) (unhide HQ4) (by omega)).mono ?_; rintro r g2 ⟨f2, rfl, hfb2, hfp2, hg2⟩; have F2 := hide hfb2; clear hfb2; have hD2 := bthen hD1 hg2)
        | (go_at_call 136; refine (times_iv _ v 1003 b 2 _ ((unhide HP9).below hD0) (by omega) (unhide HV9) (by omega) (by omega)).mono ?_; rintro r g1 ⟨f1, rfl, hfb1, hfp1, hg1⟩; have F1 := hide hfb1; clear hfb1; have hD1 := bthen hD0 hg1))
    all_goals
      go_wp2_with fail
      refine bodyPost_ret (v := .agg #[.bool f8.ln, .slice f8.la f8.lN f8.lc, .bool f8.hn, .slice f8.ha f8.hN f8.hc, .int .i64 f8.bits]) (by simp [results, Try.results77, go_sem, q0, q1, q2, q3, q4]) rfl ⟨f8, rfl, unhide F8, ?_, ?_⟩
      · have hz := SpAt.put5 hfp8 q0 q1 q2 q3 q4 (.bool f8.ln) (.slice f8.la f8.lN f8.lc) (.bool f8.hn) (.slice f8.ha f8.hN f8.hc) (.int .i64 f8.bits)
        rw [minZ_cap] at hz
        exact hz.mono (by omega)
      · exact set5 (bthen hBW hD8) (by omega) _ _ _ _ _
end Go.Proofs.Ytgmnknmjainabab

namespace Go.Proofs.Ytgmnknmjainabab
set_option linter.unusedVariables false
set_option linter.unusedSimpArgs false
set_option linter.unnecessarySimpa false
open Go.RowKit
attribute [local go_sem ↓] Go.wp_at_zero Go.wp_at_succ

/-- What every call of wide.Erf answers of the square of a ratio. -/
def ErfIs (p q : Int) (B : Nat) (s e : Int) : Prop := ∀ (w' : World) (x y : Nm), IntAt w' x.neg x.a x.n x.cap 8 (p * p) → IntAt w' y.neg y.a y.n y.cap 8 (q * q) →
  Calls Try.prog 77 #[.agg #[.bool x.neg, .slice x.a x.n x.cap], .agg #[.bool y.neg, .slice y.a y.n y.cap], .int .i64 B] w' (SpanAns w' B 3000 s e)
/-- The opposite, where the ratio is below 0. -/
def sgn2 (p : Int) (a : Int × Int) : Int × Int := if p < 0 then (-a.2, -a.1) else a
/-- What is left up to 1. -/
def restI (B : Nat) (a : Int × Int) : Int × Int := (Q B - a.2, Q B - a.1)
theorem sq_bd {p : Int} (h1 : -1048576 ≤ p) (h2 : p ≤ 1048576) : 0 ≤ p * p ∧ p * p ≤ 1099511627776 := by
  refine ⟨?_, ?_⟩
  · rcases Int.le_total 0 p with h | h
    · exact Int.mul_nonneg h h
    · have := Int.mul_nonneg (show 0 ≤ -p by omega) (show 0 ≤ -p by omega)
      have e : -p * -p = p * p := by grind
      omega
  · have := abs_mul h1 h2 h1 h2
    omega

theorem one_z {b : Nat} (z : Int) (hz : z = (b : Int)) (w : World) (hb : b ≤ 1000000) : Calls Try.prog 80 #[.int .i64 z] w (SpanAns w b (b / 16 + 24) (1 * Q b / 1) (-(-(1 * Q b) / 1))) := by
  subst hz
  exact one_int w b hb

set_option maxRecDepth 100000 in
set_option maxHeartbeats 2000000 in
theorem rest_iv (w : World) (s : Sp) (k b : Nat) (a : Int × Int) (hs : SpAt w s k a.1 a.2) (hbits : s.bits = (b : Int)) (hb : b ≤ 100000) (hk0 : b / 16 + 24 ≤ k) (hk : k ≤ 100000000) :
    Calls Try.prog 45 #[.agg #[.bool s.ln, .slice s.la s.lN s.lc, .bool s.hn, .slice s.ha s.hN s.hc, .int .i64 s.bits]] w (SpanAns w b (k + 1) (restI b a).1 (restI b a).2) := by
  obtain ⟨W, hW⟩ : ∃ W, W = (w.alloc (.cells #[.bool s.ln, .slice s.la s.lN s.lc, .bool s.hn, .slice s.ha s.hN s.hc, .int .i64 s.bits] 28)).alloc (.cells #[.bool false, .slice none 0 0, .bool false, .slice none 0 0, .int .i64 0] 28) := ⟨_, rfl⟩
  have hBW : Below w.heap.size w W := by rw [hW]; exact bl2 _ _ _
  have A : SpC W w.heap.size s := by rw [hW]; exact ⟨by simp [go_sem], by simp [go_sem], by simp [go_sem], by simp [go_sem], by simp [go_sem]⟩
  have R : NoC W (w.heap.size + 1) := by rw [hW]; exact ⟨by simp [go_sem], by simp [go_sem], by simp [go_sem], by simp [go_sem], by simp [go_sem], fun o => by simp [go_sem]⟩
  have HS := hide (hs.below hBW)
  have HB := hide hbits
  have lA := A.lt
  have lR := R.lt
  have HO := hide (show (1 * Q b / 1, -(-(1 * Q b) / 1)) = (Q b, Q b) by rw [Int.ediv_one, Int.ediv_one]; simp)
  have hB0 : Below W.heap.size W W.drew := (Below.refl _ _).drew
  have HK := hide (show ∀ w', Below W.heap.size W w' → (w'.cell? ⟨w.heap.size, 0, none⟩ = some (.bool s.ln) ∧ w'.cell? ⟨w.heap.size, 1, none⟩ = some (.slice s.la s.lN s.lc) ∧ w'.cell? ⟨w.heap.size, 2, none⟩ = some (.bool s.hn) ∧ w'.cell? ⟨w.heap.size, 3, none⟩ = some (.slice s.ha s.hN s.hc) ∧ w'.cell? ⟨w.heap.size, 4, none⟩ = some (.int .i64 s.bits)) from fun w' hB => ⟨(A.below hB).c0, (A.below hB).c1, (A.below hB).c2, (A.below hB).c3, (A.below hB).c4⟩)
  clear hs hbits
  go_enter Try.func45, Try.ntmps45
  go_wp2
  rw [← hW]
  clear hW
  obtain ⟨x0, x1, x2, x3, x4⟩ := A
  go_region_held3 (fun w' => w'.cell? ⟨w.heap.size, 0, none⟩ = some (.bool s.ln) ∧ w'.cell? ⟨w.heap.size, 1, none⟩ = some (.slice s.la s.lN s.lc) ∧ w'.cell? ⟨w.heap.size, 2, none⟩ = some (.bool s.hn) ∧ w'.cell? ⟨w.heap.size, 3, none⟩ = some (.slice s.ha s.hN s.hc) ∧ w'.cell? ⟨w.heap.size, 4, none⟩ = some (.int .i64 s.bits)) (first | exact unhide HK _ (by first | with_reducible exact hB0 | with_reducible exact hB2 | with_reducible exact hB1) | go_keep)
    (first
      | (go_at_call 79; have hq := hB1; refine (sub_iv _ v1 s k b (1 * Q b / 1, -(-(1 * Q b) / 1)) a (hvp1.mono hk0) ((unhide HS).below hB1) (by omega) (unhide HV)).mono ?_; rintro r w2 ⟨t, rfl, htb, htp, hb2⟩; have HT := hide htb; clear htb; have hB2 := bthen hB1 hb2; obtain ⟨q0, q1, q2, q3, q4, q5⟩ := R.below hB2; obtain ⟨i0, i1, i2, i3, i4⟩ := unhide HK _ hB2)
      | (go_at_call 80; refine (one_z _ (unhide HB) _ (by omega)).mono ?_; rintro r w1 ⟨v1, rfl, hvb1, hvp1, hb1⟩; have HV := hide hvb1; clear hvb1; have hB1 := bthen hB0 hb1))
  all_goals
    go_wp2
    refine bodyPost_ret (v := .agg #[.bool t.ln, .slice t.la t.lN t.lc, .bool t.hn, .slice t.ha t.hN t.hc, .int .i64 t.bits]) (by simp [results, Try.results45, go_sem, q0, q1, q2, q3, q4]) rfl ⟨t, rfl, unhide HT, ?_, ?_⟩
    · rw [unhide HO] at htp
      exact SpAt.put5 htp q0 q1 q2 q3 q4 _ _ _ _ _
    · exact set5 (bthen hBW hB2) (Nat.le_succ _) _ _ _ _ _

set_option maxRecDepth 100000 in
set_option maxHeartbeats 4000000 in
theorem eerf_neg (w : World) (p q : Int) (b : Nat) (s e : Int) (hr : rok p q) (hb : b ≤ 100000) (hp : p < 0) (hE : ErfIs p q b s e) :
    Calls Try.prog 43 #[.agg #[.int .i64 p, .int .i64 q], .int .i64 b] w (SpanAns w b 3001 (-e) (-s)) := by
  obtain ⟨W, hW⟩ : ∃ W, W = (w.alloc (.cells #[.int .i64 p, .int .i64 q] 23)).alloc (.cells #[.bool false, .slice none 0 0, .bool false, .slice none 0 0, .int .i64 0] 28) := ⟨_, rfl⟩
  have hBW : Below w.heap.size w W := by rw [hW]; exact bl2 _ _ _
  have A : RaC W w.heap.size p q := by rw [hW]; exact ⟨by simp [go_sem], by simp [go_sem]⟩
  have R : NoC W (w.heap.size + 1) := by rw [hW]; exact ⟨by simp [go_sem], by simp [go_sem], by simp [go_sem], by simp [go_sem], by simp [go_sem], fun o => by simp [go_sem]⟩
  obtain ⟨r1, r2, r3, r4⟩ := hr
  obtain ⟨a1, a2⟩ := sq_bd r1 r2
  obtain ⟨a3, a4⟩ := sq_bd (p := q) (by omega) (by omega)
  have HE1 := hide (show IntKind.i64.wrap (p * p) = p * p from i64_id _ (by omega) (by omega))
  have HE2 := hide (show IntKind.i64.wrap (q * q) = q * q from i64_id _ (by omega) (by omega))
  have HQ1 := hide (show -9223372036854775808 ≤ p * p ∧ p * p ≤ 9223372036854775807 from ⟨by omega, by omega⟩)
  have HQ2 := hide (show -9223372036854775808 ≤ q * q ∧ q * q ≤ 9223372036854775807 from ⟨by omega, by omega⟩)
  have HE := hide hE
  have lA := A.lt
  have lR := R.lt
  have HK := hide (show ∀ w', Below W.heap.size W w' → (w'.cell? ⟨w.heap.size, 0, none⟩ = some (.int .i64 p) ∧ w'.cell? ⟨w.heap.size, 1, none⟩ = some (.int .i64 q)) from fun w' hB => ⟨(A.below hB).c0, (A.below hB).c1⟩)
  have HP := hide hp
  clear hE a1 a2 a3 a4 r1 r2 r3 r4 hp
  go_enter Try.func43, Try.ntmps43
  go_wp2
  rw [← hW]
  clear hW A lR
  go_cut [5] (fun p wx => ∃ (B : Nat) (u : Sp), p = .pointer (some ⟨B, 0, none⟩) ∧ W.heap.size ≤ B ∧ VrC wx B u ∧ SpAt wx u 3000 (((s, e) : Int × Int)).1 (((s, e) : Int × Int)).2 ∧ u.bits = (b : Int) ∧ Below W.heap.size W wx)
  case first =>
    go_region_held3 (fun w' => w'.cell? ⟨w.heap.size, 0, none⟩ = some (.int .i64 p) ∧ w'.cell? ⟨w.heap.size, 1, none⟩ = some (.int .i64 q)) (exact unhide HK _ (by repeat' (first | with_reducible exact hBU3 | with_reducible exact hBU2 | with_reducible exact hBU1 | with_reducible exact Below.refl _ _ | with_reducible refine Below.drew ?_ | with_reducible refine balloc ?_ _ | with_reducible refine Below.setCell ?_ (by first | exact Nat.le_refl _ | exact hlU1 | exact hlU2 | exact hlU3) _)))
      (first
        | (go_at_call 77; have hq := hBU2; refine (unhide HE _ ⟨negU1, aU1, nU1, cU1⟩ ⟨negU2, aU2, nU2, cU2⟩ ((hintU1.below (by first | with_reducible exact Below.refl _ _ | with_reducible exact bl1 _ _)).mono (by omega)) ((hintU2.below (by first | with_reducible exact Below.refl _ _ | with_reducible exact bl1 _ _)).mono (by omega))).mono ?_; rintro r wU3 ⟨vU3, rfl, hvbU3, hintU3, hbU3⟩; have HVBU3 := hide hvbU3; clear hvbU3; have hCU3 : Below wU2.heap.size wU2 wU3 := (by first | with_reducible exact hbU3 | with_reducible exact bthen (bl1 _ _) hbU3); have hBU3 := bthen hBU2 hCU3; (try with_reducible have gU3 := (noc_new wU2 28).below hbU3); replace hintU1 := hintU1.below hCU3; (try replace gU1 := gU1.below hCU3); replace hintU2 := hintU2.below hCU3; (try replace gU2 := gU2.below hCU3); have hlU3 := hBU3.size; (try have mU1 := gU1.lt); (try have eU1 := Nat.ne_of_lt mU1); (try have eU1' := Nat.ne_of_gt mU1); (try obtain ⟨zU10, zU11, zU12, zU13, zU14, zU15⟩ := gU1); (try have mU2 := gU2.lt); (try have eU2 := Nat.ne_of_lt mU2); (try have eU2' := Nat.ne_of_gt mU2); (try obtain ⟨zU20, zU21, zU22, zU23, zU24, zU25⟩ := gU2); (try have mU3 := gU3.lt); (try have eU3 := Nat.ne_of_lt mU3); (try have eU3' := Nat.ne_of_gt mU3); (try obtain ⟨zU30, zU31, zU32, zU33, zU34, zU35⟩ := gU3))
        | (go_at_call 48; have hq := hBU1; rw [unhide HE2]; refine (numOf_int (q * q) _ (unhide HQ2).1 (unhide HQ2).2).mono ?_; rintro r wU2 ⟨negU2, aU2, nU2, cU2, rfl, hintU2, hbU2⟩; have hCU2 : Below wU1.heap.size wU1 wU2 := (by first | with_reducible exact hbU2 | with_reducible exact bthen (bl1 _ _) hbU2); have hBU2 := bthen hBU1 hCU2; (try with_reducible have gU2 := (noc_new wU1 28).below hbU2); replace hintU1 := hintU1.below hCU2; (try replace gU1 := gU1.below hCU2); have hlU2 := hBU2.size)
        | (go_at_call 48; rw [unhide HE1]; refine (numOf_int (p * p) _ (unhide HQ1).1 (unhide HQ1).2).mono ?_; rintro r wU1 ⟨negU1, aU1, nU1, cU1, rfl, hintU1, hbU1⟩; have hBU1 : Below W.heap.size W wU1 := (by first | with_reducible exact bthen (Below.refl _ _).drew hbU1 | with_reducible exact bthen (bl1 _ _).drew hbU1); (try with_reducible have gU1 := ((noc_new W 28).below (Below.refl _ _).drew).below hbU1); have hlU1 := hBU1.size))
    all_goals
      have hfinU : SpAt wU3 vU3 3000 (((s, e) : Int × Int)).1 (((s, e) : Int × Int)).2 := hintU3
      go_wp2_with fail
      go_meet
      refine ⟨_, vU3, rfl, ?_, ⟨⟨?_, ?_, ?_, ?_, ?_⟩, ?_⟩, ?_, unhide HVBU3, ?_⟩
      · first | exact Nat.le_refl _ | exact hlU1 | exact hlU2 | exact hlU3
      · simp [go_sem, *]
      · simp [go_sem, *]
      · simp [go_sem, *]
      · simp [go_sem, *]
      · simp [go_sem, *]
      · intro o; simp [go_sem, *]
      · first | with_reducible exact SpAt.put5 hfinU zU30 zU31 zU32 zU33 zU34 _ _ _ _ _ | with_reducible exact SpAt.put5 hfinU zU20 zU21 zU22 zU23 zU24 _ _ _ _ _ | with_reducible exact SpAt.put5 hfinU zU10 zU11 zU12 zU13 zU14 _ _ _ _ _ | with_reducible exact hfinU.below (bl1 _ _)
      · repeat' (first | with_reducible exact hBU3 | with_reducible exact hBU2 | with_reducible exact hBU1 | with_reducible exact Below.refl _ _ | with_reducible refine Below.drew ?_ | with_reducible refine balloc ?_ _ | with_reducible refine Below.setCell ?_ (by first | exact Nat.le_refl _ | exact hlU1 | exact hlU2 | exact hlU3) _)
  case rest =>
  obtain ⟨BU, xU, rfl, hHU, XU, hpU, hxbU, hblU⟩ := hcut
  have hp := unhide HP
  have lR := R.lt
  replace R := R.below hblU
  replace hBW := bthen hBW hblU
  obtain ⟨x0, x1⟩ := unhide HK _ hblU
  have lU := XU.lt
  have nRU : w.heap.size + 1 < BU := by omega
  have lR2 := R.lt
  have lA2 : w.heap.size < wc.heap.size := Nat.lt_of_lt_of_le lA hblU.size
  have HXB := hide hxbU
  have HHU := hide hpU
  obtain ⟨z0, z1, z2, z3, z4⟩ := XU.c
  clear hxbU hpU HK hblU
  go_wp2_with fail
  refine (opposite_int _ xU 3000 _ _ (unhide HHU) (by omega)).mono ?_
  rintro r w3 ⟨t, rfl, htb, htp, hb3⟩
  obtain ⟨q0, q1, q2, q3, q4, q5⟩ := R.below hb3
  replace hBW := bthen hBW hb3
  have HT := hide (htb.trans (unhide HXB))
  clear htb
  go_wp2_with fail
  refine bodyPost_ret (v := .agg #[.bool t.ln, .slice t.la t.lN t.lc, .bool t.hn, .slice t.ha t.hN t.hc, .int .i64 t.bits]) (by simp [results, Try.results43, go_sem, q0, q1, q2, q3, q4]) rfl ⟨t, rfl, unhide HT, ?_, ?_⟩
  · exact SpAt.put5 (htp.mono (by omega)) q0 q1 q2 q3 q4 _ _ _ _ _
  · exact set5 hBW (Nat.le_succ _) _ _ _ _ _

set_option maxRecDepth 100000 in
set_option maxHeartbeats 4000000 in
theorem eerf_pos (w : World) (p q : Int) (b : Nat) (s e : Int) (hr : rok p q) (hb : b ≤ 100000) (hp : ¬ p < 0) (hE : ErfIs p q b s e) :
    Calls Try.prog 43 #[.agg #[.int .i64 p, .int .i64 q], .int .i64 b] w (SpanAns w b 3001 s e) := by
  obtain ⟨W, hW⟩ : ∃ W, W = (w.alloc (.cells #[.int .i64 p, .int .i64 q] 23)).alloc (.cells #[.bool false, .slice none 0 0, .bool false, .slice none 0 0, .int .i64 0] 28) := ⟨_, rfl⟩
  have hBW : Below w.heap.size w W := by rw [hW]; exact bl2 _ _ _
  have A : RaC W w.heap.size p q := by rw [hW]; exact ⟨by simp [go_sem], by simp [go_sem]⟩
  have R : NoC W (w.heap.size + 1) := by rw [hW]; exact ⟨by simp [go_sem], by simp [go_sem], by simp [go_sem], by simp [go_sem], by simp [go_sem], fun o => by simp [go_sem]⟩
  obtain ⟨r1, r2, r3, r4⟩ := hr
  obtain ⟨a1, a2⟩ := sq_bd r1 r2
  obtain ⟨a3, a4⟩ := sq_bd (p := q) (by omega) (by omega)
  have HE1 := hide (show IntKind.i64.wrap (p * p) = p * p from i64_id _ (by omega) (by omega))
  have HE2 := hide (show IntKind.i64.wrap (q * q) = q * q from i64_id _ (by omega) (by omega))
  have HQ1 := hide (show -9223372036854775808 ≤ p * p ∧ p * p ≤ 9223372036854775807 from ⟨by omega, by omega⟩)
  have HQ2 := hide (show -9223372036854775808 ≤ q * q ∧ q * q ≤ 9223372036854775807 from ⟨by omega, by omega⟩)
  have HE := hide hE
  have lA := A.lt
  have lR := R.lt
  have HK := hide (show ∀ w', Below W.heap.size W w' → (w'.cell? ⟨w.heap.size, 0, none⟩ = some (.int .i64 p) ∧ w'.cell? ⟨w.heap.size, 1, none⟩ = some (.int .i64 q)) from fun w' hB => ⟨(A.below hB).c0, (A.below hB).c1⟩)
  have HP := hide hp
  clear hE a1 a2 a3 a4 r1 r2 r3 r4 hp
  go_enter Try.func43, Try.ntmps43
  go_wp2
  rw [← hW]
  clear hW A lR
  go_cut [5] (fun p wx => ∃ (B : Nat) (u : Sp), p = .pointer (some ⟨B, 0, none⟩) ∧ W.heap.size ≤ B ∧ VrC wx B u ∧ SpAt wx u 3000 (((s, e) : Int × Int)).1 (((s, e) : Int × Int)).2 ∧ u.bits = (b : Int) ∧ Below W.heap.size W wx)
  case first =>
    go_region_held3 (fun w' => w'.cell? ⟨w.heap.size, 0, none⟩ = some (.int .i64 p) ∧ w'.cell? ⟨w.heap.size, 1, none⟩ = some (.int .i64 q)) (exact unhide HK _ (by repeat' (first | with_reducible exact hBU3 | with_reducible exact hBU2 | with_reducible exact hBU1 | with_reducible exact Below.refl _ _ | with_reducible refine Below.drew ?_ | with_reducible refine balloc ?_ _ | with_reducible refine Below.setCell ?_ (by first | exact Nat.le_refl _ | exact hlU1 | exact hlU2 | exact hlU3) _)))
      (first
        | (go_at_call 77; have hq := hBU2; refine (unhide HE _ ⟨negU1, aU1, nU1, cU1⟩ ⟨negU2, aU2, nU2, cU2⟩ ((hintU1.below (by first | with_reducible exact Below.refl _ _ | with_reducible exact bl1 _ _)).mono (by omega)) ((hintU2.below (by first | with_reducible exact Below.refl _ _ | with_reducible exact bl1 _ _)).mono (by omega))).mono ?_; rintro r wU3 ⟨vU3, rfl, hvbU3, hintU3, hbU3⟩; have HVBU3 := hide hvbU3; clear hvbU3; have hCU3 : Below wU2.heap.size wU2 wU3 := (by first | with_reducible exact hbU3 | with_reducible exact bthen (bl1 _ _) hbU3); have hBU3 := bthen hBU2 hCU3; (try with_reducible have gU3 := (noc_new wU2 28).below hbU3); replace hintU1 := hintU1.below hCU3; (try replace gU1 := gU1.below hCU3); replace hintU2 := hintU2.below hCU3; (try replace gU2 := gU2.below hCU3); have hlU3 := hBU3.size; (try have mU1 := gU1.lt); (try have eU1 := Nat.ne_of_lt mU1); (try have eU1' := Nat.ne_of_gt mU1); (try obtain ⟨zU10, zU11, zU12, zU13, zU14, zU15⟩ := gU1); (try have mU2 := gU2.lt); (try have eU2 := Nat.ne_of_lt mU2); (try have eU2' := Nat.ne_of_gt mU2); (try obtain ⟨zU20, zU21, zU22, zU23, zU24, zU25⟩ := gU2); (try have mU3 := gU3.lt); (try have eU3 := Nat.ne_of_lt mU3); (try have eU3' := Nat.ne_of_gt mU3); (try obtain ⟨zU30, zU31, zU32, zU33, zU34, zU35⟩ := gU3))
        | (go_at_call 48; have hq := hBU1; rw [unhide HE2]; refine (numOf_int (q * q) _ (unhide HQ2).1 (unhide HQ2).2).mono ?_; rintro r wU2 ⟨negU2, aU2, nU2, cU2, rfl, hintU2, hbU2⟩; have hCU2 : Below wU1.heap.size wU1 wU2 := (by first | with_reducible exact hbU2 | with_reducible exact bthen (bl1 _ _) hbU2); have hBU2 := bthen hBU1 hCU2; (try with_reducible have gU2 := (noc_new wU1 28).below hbU2); replace hintU1 := hintU1.below hCU2; (try replace gU1 := gU1.below hCU2); have hlU2 := hBU2.size)
        | (go_at_call 48; rw [unhide HE1]; refine (numOf_int (p * p) _ (unhide HQ1).1 (unhide HQ1).2).mono ?_; rintro r wU1 ⟨negU1, aU1, nU1, cU1, rfl, hintU1, hbU1⟩; have hBU1 : Below W.heap.size W wU1 := (by first | with_reducible exact bthen (Below.refl _ _).drew hbU1 | with_reducible exact bthen (bl1 _ _).drew hbU1); (try with_reducible have gU1 := ((noc_new W 28).below (Below.refl _ _).drew).below hbU1); have hlU1 := hBU1.size))
    all_goals
      have hfinU : SpAt wU3 vU3 3000 (((s, e) : Int × Int)).1 (((s, e) : Int × Int)).2 := hintU3
      go_wp2_with fail
      go_meet
      refine ⟨_, vU3, rfl, ?_, ⟨⟨?_, ?_, ?_, ?_, ?_⟩, ?_⟩, ?_, unhide HVBU3, ?_⟩
      · first | exact Nat.le_refl _ | exact hlU1 | exact hlU2 | exact hlU3
      · simp [go_sem, *]
      · simp [go_sem, *]
      · simp [go_sem, *]
      · simp [go_sem, *]
      · simp [go_sem, *]
      · intro o; simp [go_sem, *]
      · first | with_reducible exact SpAt.put5 hfinU zU30 zU31 zU32 zU33 zU34 _ _ _ _ _ | with_reducible exact SpAt.put5 hfinU zU20 zU21 zU22 zU23 zU24 _ _ _ _ _ | with_reducible exact SpAt.put5 hfinU zU10 zU11 zU12 zU13 zU14 _ _ _ _ _ | with_reducible exact hfinU.below (bl1 _ _)
      · repeat' (first | with_reducible exact hBU3 | with_reducible exact hBU2 | with_reducible exact hBU1 | with_reducible exact Below.refl _ _ | with_reducible refine Below.drew ?_ | with_reducible refine balloc ?_ _ | with_reducible refine Below.setCell ?_ (by first | exact Nat.le_refl _ | exact hlU1 | exact hlU2 | exact hlU3) _)
  case rest =>
  obtain ⟨BU, xU, rfl, hHU, XU, hpU, hxbU, hblU⟩ := hcut
  have hp := unhide HP
  have lR := R.lt
  replace R := R.below hblU
  replace hBW := bthen hBW hblU
  obtain ⟨x0, x1⟩ := unhide HK _ hblU
  have lU := XU.lt
  have nRU : w.heap.size + 1 < BU := by omega
  have lR2 := R.lt
  have lA2 : w.heap.size < wc.heap.size := Nat.lt_of_lt_of_le lA hblU.size
  have HXB := hide hxbU
  have HHU := hide hpU
  obtain ⟨z0, z1, z2, z3, z4⟩ := XU.c
  clear hxbU hpU HK hblU
  obtain ⟨q0, q1, q2, q3, q4, q5⟩ := R
  go_wp2_with fail
  refine bodyPost_ret (v := .agg #[.bool xU.ln, .slice xU.la xU.lN xU.lc, .bool xU.hn, .slice xU.ha xU.hN xU.hc, .int .i64 xU.bits]) (by simp [results, Try.results43, go_sem, q0, q1, q2, q3, q4]) rfl ⟨xU, rfl, unhide HXB, ?_, ?_⟩
  · exact SpAt.put5 ((unhide HHU).mono (by omega)) q0 q1 q2 q3 q4 _ _ _ _ _
  · exact set5 hBW (Nat.le_succ _) _ _ _ _ _

theorem eerf_iv (w : World) (p q : Int) (b : Nat) (s e : Int) (hr : rok p q) (hb : b ≤ 100000) (hE : ErfIs p q b s e) :
    Calls Try.prog 43 #[.agg #[.int .i64 p, .int .i64 q], .int .i64 b] w (SpanAns w b 3001 (sgn2 p (s, e)).1 (sgn2 p (s, e)).2) := by
  unfold sgn2
  by_cases hp : p < 0
  · rw [if_pos hp]; exact eerf_neg w p q b s e hr hb hp hE
  · rw [if_neg hp]; exact eerf_pos w p q b s e hr hb hp hE

set_option maxRecDepth 100000 in
set_option maxHeartbeats 2000000 in
theorem erf1_iv (w : World) (B0 : Nat) (p q : Int) (b : Nat) (s e : Int) (hr : rok p q) (hB0 : RaC w B0 p q) (hb : b ≤ 40000) (hE : ErfIs p q b s e) :
    Calls Try.prog 42 #[.int .i64 b, .pointer (some ⟨B0, 0, none⟩)] w (SpanAns w b 3002 (sgn2 p (s, e)).1 (sgn2 p (s, e)).2) := by
  have l0 := hB0.lt
  obtain ⟨y0, y1⟩ := hB0
  have HR := hide hr
  have HE := hide hE
  have R := noc_new w 28
  clear hr hE
  go_enter Try.func42, Try.ntmps42
  go_wp2_with fail
  refine (eerf_iv _ p q b s e (unhide HR) (by omega) (unhide HE)).mono ?_
  rintro r' w1 ⟨u, rfl, hub, hup, hb1⟩
  replace R := R.below hb1
  have hBW : Below w.heap.size w w1 := bthen (bl1 _ _) hb1
  have HU := hide hub
  clear hub y0 y1 hb1
  obtain ⟨v, rfl⟩ : ∃ v : Sp, v = u := ⟨_, rfl⟩
  have hvp := hup
  have HV := HU
  obtain ⟨q0, q1, q2, q3, q4, q5⟩ := R
  go_wp2_with fail
  refine bodyPost_ret (v := .agg #[.bool v.ln, .slice v.la v.lN v.lc, .bool v.hn, .slice v.ha v.hN v.hc, .int .i64 v.bits]) (by simp [results, Try.results42, go_sem, q0, q1, q2, q3, q4]) rfl ⟨v, rfl, unhide HV, ?_, ?_⟩
  · exact SpAt.put5 (hvp.mono (by omega)) q0 q1 q2 q3 q4 _ _ _ _ _
  · exact set5 hBW (Nat.le_refl _) _ _ _ _ _

set_option maxRecDepth 100000 in
set_option maxHeartbeats 2000000 in
theorem erfc1_iv (w : World) (B0 : Nat) (p q : Int) (b : Nat) (s e : Int) (hr : rok p q) (hB0 : RaC w B0 p q) (hb : b ≤ 40000) (hE : ErfIs p q b s e) :
    Calls Try.prog 44 #[.int .i64 b, .pointer (some ⟨B0, 0, none⟩)] w (SpanAns w b 3002 (restI b (sgn2 p (s, e))).1 (restI b (sgn2 p (s, e))).2) := by
  have l0 := hB0.lt
  obtain ⟨y0, y1⟩ := hB0
  have HR := hide hr
  have HE := hide hE
  have R := noc_new w 28
  clear hr hE
  go_enter Try.func44, Try.ntmps44
  go_wp2_with fail
  refine (eerf_iv _ p q b s e (unhide HR) (by omega) (unhide HE)).mono ?_
  rintro r' w1 ⟨u, rfl, hub, hup, hb1⟩
  replace R := R.below hb1
  have hBW : Below w.heap.size w w1 := bthen (bl1 _ _) hb1
  have HU := hide hub
  clear hub y0 y1 hb1
  go_wp2_with fail
  refine (rest_iv _ u 3001 b (sgn2 p (s, e)) hup (unhide HU) (by omega) (by omega) (by omega)).mono ?_
  rintro r' w2 ⟨v, rfl, hvb, hvp, hb2⟩
  obtain ⟨q0, q1, q2, q3, q4, q5⟩ := R.below hb2
  replace hBW := bthen hBW hb2
  have HV := hide hvb
  clear hvb
  go_wp2_with fail
  refine bodyPost_ret (v := .agg #[.bool v.ln, .slice v.la v.lN v.lc, .bool v.hn, .slice v.ha v.hN v.hc, .int .i64 v.bits]) (by simp [results, Try.results44, go_sem, q0, q1, q2, q3, q4]) rfl ⟨v, rfl, unhide HV, ?_, ?_⟩
  · exact SpAt.put5 (hvp.mono (by omega)) q0 q1 q2 q3 q4 _ _ _ _ _
  · exact set5 hBW (Nat.le_refl _) _ _ _ _ _
end Go.Proofs.Ytgmnknmjainabab

namespace Go.Proofs.Ytgmnknmjainabab
set_option linter.unusedVariables false
open Ex

/-- How far a ratio is from 0. -/
def absR (p q : Int) : Rat := (if p < 0 then -(p : Rat) else (p : Rat)) / (q : Rat)
theorem absR_ok {p q : Int} (hq : 0 < q) : 0 ≤ absR p q ∧ absR p q * absR p q * ((q * q : Int) : Rat) = ((p * p : Int) : Rat) := by
  have q0 : (0 : Rat) < (q : Rat) := by exact_mod_cast hq
  unfold absR
  have e := rdm (a := (if p < 0 then -(p : Rat) else (p : Rat))) q0
  have hn : (0 : Rat) ≤ (if p < 0 then -(p : Rat) else (p : Rat)) := by
    split
    · rename_i h
      have : (p : Rat) ≤ 0 := by exact_mod_cast (show p ≤ 0 by omega)
      grind
    · rename_i h
      exact_mod_cast (show 0 ≤ p by omega)
  refine ⟨rle_div q0 (by grind), ?_⟩
  rw [Rat.intCast_mul, Rat.intCast_mul]
  generalize (if p < 0 then -(p : Rat) else (p : Rat)) / (q : Rat) = z at *
  have : z * z * ((q : Rat) * (q : Rat)) = (z * (q : Rat)) * (z * (q : Rat)) := by grind
  rw [this, e]
  split <;> grind
/-- The error function of a ratio. -/
def erR (R : Nat → Rat) (p q : Int) (M : Nat) : Rat := if p < 0 then -erfS R (absR p q) M else erfS R (absR p q) M
theorem er_in {p q : Int} (hr : rok p q) (h : p * p < 152 * (q * q)) : ErIn (p * p) (q * q) (absR p q) := by
  obtain ⟨r1, r2, r3, r4⟩ := hr
  have q0 : 0 < q * q := Int.mul_pos (by omega) (by omega)
  obtain ⟨a1, a2⟩ := absR_ok (p := p) (q := q) (by omega)
  have p0 := sq_bd r1 r2
  refine ⟨p0.1, q0, a1, a2, h, ?_⟩
  by_cases hp : p = 0
  · exact Or.inl (by rw [hp]; rfl)
  · refine Or.inr ?_
    have h1 : 1 ≤ p * p := by
      rcases Int.lt_or_gt_of_ne hp with h | h
      · have := Int.mul_pos (show 0 < -p by omega) (show 0 < -p by omega)
        have e : -p * -p = p * p := by grind
        omega
      · have := Int.mul_pos h h; omega
    have h2 := Int.mul_le_mul r4 r4 (by omega) (by omega)
    omega
/-- What is made of a ratio that is not far. -/
def ErCore (R : Nat → Rat) (p q : Int) (B : Nat) (s e : Int) : Prop := Iv B (s, e) (erfS R (absR p q)) ∧ 0 ≤ s ∧ s ≤ e ∧ e ≤ Q B ∧ e - s ≤ Q 4500
theorem er_near {R : Nat → Rat} (hR : RootS piS R) {p q : Int} (hr : rok p q) (h : p * p < 152 * (q * q)) {B : Nat} (hB : 40 ≤ B) (hB2 : B ≤ 10000) (hlt : p * p < q * q * (B : Int)) : ∃ s e, ErfIs p q B s e ∧ ErCore R p q B s e := by
  have hin := er_in hr h
  obtain ⟨M, hM, hM2⟩ := erT_set hin B
  obtain ⟨l, t, N, e1, e2, e3, e4, e5⟩ := erX_set hin hB
  obtain ⟨N5, h5⟩ := ag_stop (m := 5) (by omega) (show 2 ≤ B by omega)
  obtain ⟨N9, h9⟩ := ag_stop (m := 239) (by omega) (show 2 ≤ B by omega)
  refine ⟨_, _, fun w' x y hx hy => erf_iv w' x y (p * p) (q * q) B hx hy hB hB2 (absR p q) M t N N5 N9 l hin hlt hM hM2 e1 e2 e3 e4 e5 h5 h9, ?_⟩
  exact erf_ok hR hin hB hB2 hM hM2 e3 e4 e5 h5 h9
theorem er_far {p q : Int} {B : Nat} (hB : 40 ≤ B) (hB2 : B ≤ 10000) (h : q * q * (B : Int) ≤ p * p) : ErfIs p q B (Q B - 1) (Q B) := fun w' x y hx hy =>
  (erf_far w' x y (p * p) (q * q) B hx hy hB hB2 h).mono fun r w'' ⟨s, e1, e2, e3, e4⟩ => ⟨s, e1, e2, e3.mono (by omega), e4⟩
/-- What Sure is handed for Erf, and for Erfc. -/
def ErPr (R : Nat → Rat) (p q : Int) (B : Nat) (lo hi : Int) : Prop := ∃ s e, ErCore R p q B s e ∧ lo = (sgn2 p (s, e)).1 ∧ hi = (sgn2 p (s, e)).2
def EcPr (R : Nat → Rat) (p q : Int) (B : Nat) (lo hi : Int) : Prop := ∃ s e, ErCore R p q B s e ∧ lo = (restI B (sgn2 p (s, e))).1 ∧ hi = (restI B (sgn2 p (s, e))).2
theorem sgn2_ok {p : Int} {B : Nat} {s e : Int} (h0 : 0 ≤ s) (h1 : s ≤ e) (h2 : e ≤ Q B) : (sgn2 p (s, e)).1 ≤ (sgn2 p (s, e)).2 ∧ -Q B ≤ (sgn2 p (s, e)).1 ∧ (sgn2 p (s, e)).2 ≤ Q B ∧ (sgn2 p (s, e)).2 - (sgn2 p (s, e)).1 = e - s := by
  have := Q_pos B
  unfold sgn2
  by_cases hp : p < 0
  · rw [if_pos hp]; exact ⟨by simp only []; omega, by simp only []; omega, by simp only []; omega, by simp only []; omega⟩
  · rw [if_neg hp]; exact ⟨h1, by simp only []; omega, h2, rfl⟩
theorem sgn2_iv {R : Nat → Rat} {p q : Int} {B : Nat} {s e : Int} (h : Iv B (s, e) (erfS R (absR p q))) : Iv B (sgn2 p (s, e)) (erR R p q) := by
  unfold sgn2 erR
  split
  · exact h.opp
  · exact h
theorem rest_has {B : Nat} {a : Int × Int} {x : Nat → Rat} (h : Iv B a x) : Iv B (restI B a) (fun M => 1 - x M) := (one_iv B).sub h
theorem big_Q {z : Int} {B m : Nat} (hB : B ≤ 120) (h : z ≤ 2 * Q (B + m)) : z ≤ P 200 * Q m := by
  have e : Q (B + m) = Q B * Q m := Q_add B m
  have q := Q_pos m
  have h1 : 2 * Q B ≤ P 200 := by
    rw [← Q_P]
    have h2 : Q (B + 1) = 2 * Q B := rfl
    have := Q_mono (show B + 1 ≤ 16 * 200 by omega)
    omega
  have m1 := Int.mul_le_mul_of_nonneg_right h1 (show 0 ≤ Q m by omega)
  have e2 : 2 * Q B * Q m = 2 * (Q B * Q m) := by grind
  omega
theorem er_ends (R : Nat → Rat) (p q : Int) {bits : Nat} (hb : bits ≤ 120) : SureEnds bits 4500 (ErPr R p q) := fun m lo hi ⟨s, e, ⟨c1, c2, c3, c4, c5⟩, e1, e2⟩ => by
  obtain ⟨g1, g2, g3, g4⟩ := sgn2_ok (p := p) (B := bits + m) c2 c3 c4
  rw [← e1, ← e2] at g1 g4
  rw [← e1] at g2
  rw [← e2] at g3
  have q := Q_pos (bits + m)
  have b1 := big_Q (z := -lo) hb (show -lo ≤ 2 * Q (bits + m) by omega)
  have b2 := big_Q (z := hi) hb (show hi ≤ 2 * Q (bits + m) by omega)
  rw [← g4] at c5
  exact ⟨g1, c5, by omega, b2⟩
theorem ec_ends (R : Nat → Rat) (p q : Int) {bits : Nat} (hb : bits ≤ 120) : SureEnds bits 4500 (EcPr R p q) := fun m lo hi ⟨s, e, ⟨c1, c2, c3, c4, c5⟩, e1, e2⟩ => by
  obtain ⟨g1, g2, g3, g4⟩ := sgn2_ok (p := p) (B := bits + m) c2 c3 c4
  have q := Q_pos (bits + m)
  have f1 : lo = Q (bits + m) - (sgn2 p (s, e)).2 := e1
  have f2 : hi = Q (bits + m) - (sgn2 p (s, e)).1 := e2
  have b1 := big_Q (z := -lo) hb (show -lo ≤ 2 * Q (bits + m) by omega)
  have b2 := big_Q (z := hi) hb (show hi ≤ 2 * Q (bits + m) by omega)
  have w : hi - lo = e - s := by omega
  rw [← w] at c5
  exact ⟨by omega, c5, by omega, b2⟩
/-- What Erf answers. -/
structure ErV (R : Nat → Rat) (p q : Int) (b : Nat) (L H : Int) : Prop where
  le : L ≤ H
  lo : -Q b ≤ L
  hi : H ≤ Q b
  nar : narB L H (Q b) 4 = true
  val : (q * q * ((b : Int) + 32) ≤ p * p ∧ (L, H) = sgn2 p (Q b - 1, Q b)) ∨ (p * p < q * q * ((b : Int) + 32) ∧ Iv b (L, H) (erR R p q))
structure EcV (R : Nat → Rat) (p q : Int) (b : Nat) (L H : Int) : Prop where
  le : L ≤ H
  lo : 0 ≤ L
  hi : H ≤ 2 * Q b
  nar : narB L H (Q b) 4 = true
  val : (q * q * ((b : Int) + 32) ≤ p * p ∧ (L, H) = restI b (sgn2 p (Q b - 1, Q b))) ∨ (p * p < q * q * ((b : Int) + 32) ∧ Iv b (L, H) (fun M => 1 - erR R p q M))
theorem sure_nar {b m : Nat} {lo hi L H : Int} (hle : lo ≤ hi) (e1 : L = lo / Q m) (e2 : H = -(-hi / Q m)) (h6 : H - L ≤ 1 ∨ narB L H (Q b) 4 = true) : L ≤ H ∧ narB L H (Q b) 4 = true := by
  have h7 := to_width (m := m) (Kw := (hi - lo).toNat) hle (by
    have : ∀ k : Nat, (k : Int) ≤ Q k := fun k => by
      induction k with
      | zero => decide
      | succ k ih => have e : Q (k + 1) = 2 * Q k := rfl; have := Q_pos k; omega
    have := this (hi - lo).toNat
    omega)
  have h8 : L ≤ H := by rw [e1, e2]; omega
  refine ⟨h8, ?_⟩
  rcases h6 with h6 | h6
  · exact narB_small h8 (by omega)
  · exact h6
theorem sure_er {R : Nat → Rat} {p q : Int} {b : Nat} {L H : Int} (hn : p * p < q * q * ((b : Int) + 32)) (h : SureOf b (ErPr R p q) L H) : ErV R p q b L H := by
  obtain ⟨m, lo, hi, ⟨s, e, ⟨c1, c2, c3, c4, c5⟩, f1, f2⟩, hm, e1, e2, h6⟩ := h
  obtain ⟨g1, g2, g3, g4⟩ := sgn2_ok (p := p) (B := b + m) c2 c3 c4
  rw [← f1, ← f2] at g1
  rw [← f1] at g2
  rw [← f2] at g3
  obtain ⟨n1, n2⟩ := sure_nar g1 e1 e2 h6
  have iv := sgn2_iv (p := p) (q := q) c1
  rw [show sgn2 p (s, e) = (lo, hi) by rw [f1, f2]] at iv
  have q0 := Q_pos m
  have qb := Q_pos b
  have e3 : Q (b + m) = Q b * Q m := Q_add b m
  rw [e3] at g2 g3
  have le2 : -(Q b * Q m) ≤ hi := by omega
  have le3 : lo ≤ Q b * Q m := by omega
  have r1 := round_abs (x := lo) (m := Q b) (q := Q m) (by omega) g2 le3
  have r2 := round_abs (x := hi) (m := Q b) (q := Q m) (by omega) le2 g3
  refine ⟨n1, by rw [e1]; exact r1.1, by rw [e2]; exact r2.2.2.2, n2, Or.inr ⟨hn, ?_⟩⟩
  have := Iv.to (B := b) (m := m) iv
  rw [e1, e2]; exact this
theorem sure_ec {R : Nat → Rat} {p q : Int} {b : Nat} {L H : Int} (hn : p * p < q * q * ((b : Int) + 32)) (h : SureOf b (EcPr R p q) L H) : EcV R p q b L H := by
  obtain ⟨m, lo, hi, ⟨s, e, ⟨c1, c2, c3, c4, c5⟩, f1, f2⟩, hm, e1, e2, h6⟩ := h
  obtain ⟨g1, g2, g3, g4⟩ := sgn2_ok (p := p) (B := b + m) c2 c3 c4
  have k1 : lo = Q (b + m) - (sgn2 p (s, e)).2 := f1
  have k2 : hi = Q (b + m) - (sgn2 p (s, e)).1 := f2
  obtain ⟨n1, n2⟩ := sure_nar (show lo ≤ hi by omega) e1 e2 h6
  have iv := rest_has (sgn2_iv (p := p) (q := q) c1)
  rw [show restI (b + m) (sgn2 p (s, e)) = (lo, hi) by rw [f1, f2]] at iv
  have q0 := Q_pos m
  have qb := Q_pos b
  have e3 : Q (b + m) = Q b * Q m := Q_add b m
  have e4 : 2 * Q b * Q m = 2 * (Q b * Q m) := by grind
  have r2 := round_abs (x := hi) (m := 2 * Q b) (q := Q m) (by omega) (by omega) (by omega)
  refine ⟨n1, by rw [e1]; exact Int.ediv_nonneg (by omega) (by omega), by rw [e2]; exact r2.2.2.2, n2, Or.inr ⟨hn, ?_⟩⟩
  have := Iv.to (B := b) (m := m) iv
  rw [e1, e2]; exact this
end Go.Proofs.Ytgmnknmjainabab
