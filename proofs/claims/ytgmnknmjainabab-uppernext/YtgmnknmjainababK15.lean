/-
  Texts Logw, Tou, Two2, Lowx, Rais, Psu, Pel, GamT, LgmC, UppM, SerM, ExqI: what they hold is told in the last text.
-/
import Derived.Test.YtgmnknmjainababK14
set_option linter.unnecessarySimpa false
set_option linter.unusedSimpArgs false
set_option linter.unusedVariables false
namespace Go.Proofs.Ytgmnknmjainabab
open Go.RowKit
attribute [local go_sem ↓] Go.wp_at_zero Go.wp_at_succ
theorem NoC.offI {w : World} {B B' : Nat} (h : NoC w B) (hne : B ≠ B') (u0 u1 : Value) : NoC ((w.setCell ⟨B', 0, none⟩ u0).setCell ⟨B', 1, none⟩ u1) B := by
  obtain ⟨q0, q1, q2, q3, q4, q5⟩ := h
  exact ⟨by simp [go_sem, q0, hne, Ne.symm hne], by simp [go_sem, q1, hne, Ne.symm hne], by simp [go_sem, q2, hne, Ne.symm hne], by simp [go_sem, q3, hne, Ne.symm hne], by simp [go_sem, q4, hne, Ne.symm hne], put_fz2 q5 _ _⟩
set_option maxRecDepth 100000 in
set_option maxHeartbeats 4000000 in
theorem wideLog_iv (w : World) (x y : Nm) (k b K : Nat) (n d : Int) (hx : IntAt w x.neg x.a x.n x.cap k n) (hy : IntAt w y.neg y.a y.n y.cap k d) (hk : k ≤ 100000) (hn : 0 < n) (hd : 0 < d) (hb16 : 16 ≤ b) (hb : b ≤ 1000000) (hK : Q (b + 4) < P K) (hK2 : K ≤ 10000000) :
    Calls Try.prog 128 #[.agg #[.bool x.neg, .slice x.a x.n x.cap], .agg #[.bool y.neg, .slice y.a y.n y.cap], .int .i64 b] w (fun r w' => ∃ (n' d' c : Int) (N N2 : Nat), Bal n d n' d' c ∧ -(16 * k + 1) ≤ c ∧ c ≤ 16 * k + 1 ∧ IsStop (lnT n' d' b) N ∧ IsStop (lnT 2 1 b) N2 ∧ SpanAns w b (K + 20) (lnOf (doneI (lnT n' d' b) N) (doneI (lnT 2 1 b) N2) c).1 (lnOf (doneI (lnT n' d' b) N) (doneI (lnT 2 1 b) N2) c).2 r w') := by
  obtain ⟨W, hW⟩ : ∃ W, W = ((w.alloc (.cells #[.bool x.neg, .slice x.a x.n x.cap] 26)).alloc (.cells #[.bool y.neg, .slice y.a y.n y.cap] 26)).alloc (.cells #[.bool false, .slice none 0 0, .bool false, .slice none 0 0, .int .i64 0] 28) := ⟨_, rfl⟩
  have hBW : Below w.heap.size w W := by rw [hW]; exact bl3 _ _ _ _
  have X : NmC W w.heap.size x := by rw [hW]; exact ⟨by simp [go_sem], by simp [go_sem]⟩
  have FX : ∀ o, W.frozen? ⟨w.heap.size, o, none⟩ = false := by rw [hW]; intro o; simp [go_sem]
  have Y : NmC W (w.heap.size + 1) y := by rw [hW]; exact ⟨by simp [go_sem], by simp [go_sem]⟩
  have FY : ∀ o, W.frozen? ⟨w.heap.size + 1, o, none⟩ = false := by rw [hW]; intro o; simp [go_sem]
  have R : NoC W (w.heap.size + 1 + 1) := by rw [hW]; exact ⟨by simp [go_sem], by simp [go_sem], by simp [go_sem], by simp [go_sem], by simp [go_sem], fun o => by simp [go_sem]⟩
  have HX := hide (hx.below hBW)
  have HY := hide (hy.below hBW)
  have lX := X.lt
  have lY := Y.lt
  clear hx hy
  go_enter Try.func128, Try.ntmps128
  go_wp2_with fail
  rw [← hW]
  clear hW
  refine (balanced_int _ x y k n d (unhide HX) (unhide HY) hn hd (by omega)).mono ?_
  rintro r w1 ⟨U, T, n', d', c, rfl, hbal, hc1, hc2, iU, iT, hb1⟩
  have FX1 : ∀ o, w1.frozen? ⟨w.heap.size, o, none⟩ = false := fun o => (hb1.frozen (p := ⟨w.heap.size, o, none⟩) lX).trans (FX o)
  have FY1 : ∀ o, w1.frozen? ⟨w.heap.size + 1, o, none⟩ = false := fun o => (hb1.frozen (p := ⟨w.heap.size + 1, o, none⟩) lY).trans (FY o)
  replace X := X.below hb1
  replace Y := Y.below hb1
  replace R := R.below hb1
  replace hBW := bthen hBW hb1
  have HBal := hide hbal
  clear hb1 FX FY HX HY hbal
  obtain ⟨V, hV⟩ : ∃ V, V = (((w1.setCell ⟨w.heap.size, 0, none⟩ (.bool U.neg)).setCell ⟨w.heap.size, 1, none⟩ (.slice U.a U.n U.cap)).setCell ⟨w.heap.size + 1, 0, none⟩ (.bool T.neg)).setCell ⟨w.heap.size + 1, 1, none⟩ (.slice T.a T.n T.cap) := ⟨_, rfl⟩
  have hE : IntAt V U.neg U.a U.n U.cap (k + k + 20) n' ∧ IntAt V T.neg T.a T.n T.cap (k + k + 20) d' ∧ NoC V (w.heap.size + 1 + 1) ∧ Below w.heap.size w V := by
    rw [hV]
    have hy1 := Y.off (B' := w.heap.size) (by omega) (.bool U.neg) (.slice U.a U.n U.cap)
    have i1 := iU.put2 X.c0 X.c1 (.bool U.neg) (.slice U.a U.n U.cap)
    have i2 := iT.put2 X.c0 X.c1 (.bool U.neg) (.slice U.a U.n U.cap)
    have r1 := R.offI (B' := w.heap.size) (by omega) (.bool U.neg) (.slice U.a U.n U.cap)
    have b1 := set2 hBW (Nat.le_refl _) (.bool U.neg) (.slice U.a U.n U.cap)
    generalize (w1.setCell ⟨w.heap.size, 0, none⟩ (.bool U.neg)).setCell ⟨w.heap.size, 1, none⟩ (.slice U.a U.n U.cap) = V0 at *
    exact ⟨i1.put2 hy1.c0 hy1.c1 _ _, i2.put2 hy1.c0 hy1.c1 _ _, r1.offI (by omega) _ _, set2 b1 (Nat.le_succ _) _ _⟩
  obtain ⟨jU, jT, R2, hB2⟩ := hE
  have HJU := hide jU
  have HJT := hide jT
  obtain ⟨x0, x1⟩ := X
  obtain ⟨y0, y1⟩ := Y
  have lX1 : w.heap.size < w1.heap.size := World.block_lt_of_cell? w1 ⟨w.heap.size, 0, none⟩ x0
  have lY1 : w.heap.size + 1 < w1.heap.size := World.block_lt_of_cell? w1 ⟨w.heap.size + 1, 0, none⟩ y0
  clear iU iT R hBW jU jT
  go_wp2_with fail
  rw [← hV]
  clear hV x0 x1 y0 y1 FX1 FY1
  obtain ⟨N, hN1, hN2⟩ := stop_ex (s := 3) (by omega) (lnT_abs (unhide HBal).1 hb16)
  obtain ⟨N2, hN3, hN4⟩ := stop_ex (s := 3) (by omega) (lnT_abs near2 hb16)
  have HS1 := hide hN2
  have HS2 := hide hN4
  clear hN1 hN2 hN3 hN4
  refine (logNear_iv _ U T (k + k + 20) b N K n' d' (unhide HJU) (unhide HJT) (by omega) (unhide HBal).1 hb16 hb (unhide HS1) hK hK2).mono ?_
  rintro r w3 ⟨v3, rfl, hvb3, hvp3, hb3⟩
  replace R2 := R2.below hb3
  have lw3 := R2.lt
  replace hB2 := bthen hB2 hb3
  have HV3 := hide hvb3
  clear hb3 hvb3 HJU HJT
  obtain ⟨V3, hV3⟩ : ∃ V3, V3 = w3.alloc (.cells #[.bool v3.ln, .slice v3.la v3.lN v3.lc, .bool v3.hn, .slice v3.ha v3.hN v3.hc, .int .i64 v3.bits] 28) := ⟨_, rfl⟩
  have bV3 : Below w3.heap.size w3 V3 := by rw [hV3]; exact bl1 _ _
  have C3 : SpC V3 w3.heap.size v3 := by rw [hV3]; exact spc_new w3 v3 _
  replace hvp3 := hvp3.below bV3
  replace R2 := R2.below bV3
  replace hB2 := bthen hB2 bV3
  clear bV3
  go_wp2_with fail
  rw [← hV3]
  clear hV3
  refine (numOf_int 2 _ (by decide) (by decide)).mono ?_
  rintro r w4 ⟨neg4, a4, n4, c4, rfl, hint4, hb4⟩
  replace C3 := C3.below hb4
  replace hvp3 := hvp3.below hb4
  replace R2 := R2.below hb4
  replace hB2 := bthen hB2 hb4
  clear hb4
  go_wp2_with fail
  refine (numOf_int 1 _ (by decide) (by decide)).mono ?_
  rintro r w5 ⟨neg5, a5, n5, c5, rfl, hint5, hb5⟩
  replace C3 := C3.below hb5
  replace hvp3 := hvp3.below hb5
  replace R2 := R2.below hb5
  replace hB2 := bthen hB2 hb5
  replace hint4 := hint4.below hb5
  clear hb5
  go_wp2_with fail
  refine (logNear_iv _ ⟨neg4, a4, n4, c4⟩ ⟨neg5, a5, n5, c5⟩ 4 b N2 K 2 1 hint4 hint5 (by omega) near2 hb16 hb (unhide HS2) hK hK2).mono ?_
  rintro r w6 ⟨v6, rfl, hvb6, hvp6, hb6⟩
  have lC3 := C3.lt
  have l36 : w3.heap.size < w6.heap.size := Nat.lt_of_lt_of_le lC3 hb6.size
  replace C3 := C3.below hb6
  replace hvp3 := hvp3.below hb6
  replace R2 := R2.below hb6
  replace hB2 := bthen hB2 hb6
  have HV6 := hide hvb6
  clear hb6 hvb6 hint4 hint5
  obtain ⟨V6, hV6⟩ : ∃ V6, V6 = w6.alloc (.cells #[.bool v6.ln, .slice v6.la v6.lN v6.lc, .bool v6.hn, .slice v6.ha v6.hN v6.hc, .int .i64 v6.bits] 28) := ⟨_, rfl⟩
  have bV6 : Below w6.heap.size w6 V6 := by rw [hV6]; exact bl1 _ _
  have C6 : SpC V6 w6.heap.size v6 := by rw [hV6]; exact spc_new w6 v6 _
  replace C3 := C3.below bV6
  have HP6 := hide (hvp6.below bV6)
  have HP3 := hide (hvp3.below bV6)
  replace R2 := R2.below bV6
  replace hB2 := bthen hB2 bV6
  have lR2 := R2.lt
  have HKr := hide (show ∀ w', Below V6.heap.size V6 w' → (w'.cell? ⟨w3.heap.size, 0, none⟩ = some (.bool v3.ln) ∧ w'.cell? ⟨w3.heap.size, 1, none⟩ = some (.slice v3.la v3.lN v3.lc) ∧ w'.cell? ⟨w3.heap.size, 2, none⟩ = some (.bool v3.hn) ∧ w'.cell? ⟨w3.heap.size, 3, none⟩ = some (.slice v3.ha v3.hN v3.hc) ∧ w'.cell? ⟨w3.heap.size, 4, none⟩ = some (.int .i64 v3.bits) ∧ w'.cell? ⟨w6.heap.size, 0, none⟩ = some (.bool v6.ln) ∧ w'.cell? ⟨w6.heap.size, 1, none⟩ = some (.slice v6.la v6.lN v6.lc) ∧ w'.cell? ⟨w6.heap.size, 2, none⟩ = some (.bool v6.hn) ∧ w'.cell? ⟨w6.heap.size, 3, none⟩ = some (.slice v6.ha v6.hN v6.hc) ∧ w'.cell? ⟨w6.heap.size, 4, none⟩ = some (.int .i64 v6.bits)) from fun w' hB => ⟨(C3.below hB).c0, (C3.below hB).c1, (C3.below hB).c2, (C3.below hB).c3, (C3.below hB).c4, (C6.below hB).c0, (C6.below hB).c1, (C6.below hB).c2, (C6.below hB).c3, (C6.below hB).c4⟩)
  have hD0 : Below V6.heap.size V6 V6.drew := (Below.refl _ _).drew
  have l3 := C3.lt
  have l6 := C6.lt
  have m1 : w.heap.size + 1 + 1 ≠ w3.heap.size := by omega
  have m2 : w.heap.size + 1 + 1 ≠ w6.heap.size := by omega
  have m3 : w3.heap.size ≠ w.heap.size + 1 + 1 := by omega
  have m4 : w6.heap.size ≠ w.heap.size + 1 + 1 := by omega
  clear hvp3 hvp6 bV6 C3 C6
  have hkk : k ≤ 100000 := hk
  by_cases hcz : c < 0
  · go_wp2_with fail
    rw [← hV6]
    clear hV6
    obtain ⟨e0, e1, e2, e3, e4, e5, e6, e7, e8, e9⟩ := unhide HKr _ (Below.refl _ _)
    have HWC := hide (show IntKind.i64.wrap (-c) = -c from i64_id _ (by omega) (by omega))
    go_region_held3 (fun w' => w'.cell? ⟨w3.heap.size, 0, none⟩ = some (.bool v3.ln) ∧ w'.cell? ⟨w3.heap.size, 1, none⟩ = some (.slice v3.la v3.lN v3.lc) ∧ w'.cell? ⟨w3.heap.size, 2, none⟩ = some (.bool v3.hn) ∧ w'.cell? ⟨w3.heap.size, 3, none⟩ = some (.slice v3.ha v3.hN v3.hc) ∧ w'.cell? ⟨w3.heap.size, 4, none⟩ = some (.int .i64 v3.bits) ∧ w'.cell? ⟨w6.heap.size, 0, none⟩ = some (.bool v6.ln) ∧ w'.cell? ⟨w6.heap.size, 1, none⟩ = some (.slice v6.la v6.lN v6.lc) ∧ w'.cell? ⟨w6.heap.size, 2, none⟩ = some (.bool v6.hn) ∧ w'.cell? ⟨w6.heap.size, 3, none⟩ = some (.slice v6.ha v6.hN v6.hc) ∧ w'.cell? ⟨w6.heap.size, 4, none⟩ = some (.int .i64 v6.bits)) (first | exact unhide HKr _ (by first | with_reducible exact hD0 | with_reducible exact hD2 | with_reducible exact hD1) | go_keep)
      (first
        | (go_at_call 79; have hq := hD1; refine (sub_iv _ v3 v7 (K + 11) b (timesI (doneI (lnT n' d' b) N) 2) (timesI (timesI (doneI (lnT 2 1 b) N2) 2) (-c)) (((unhide HP3).below hD1).mono (by omega)) (hvp7.mono (by omega)) (by omega) (unhide HV3)).mono ?_; rintro r' w8 ⟨v, rfl, hvb, hvp, hb8⟩; have hD2 := bthen hD1 hb8; have HV := hide hvb; clear hvb; obtain ⟨q0, q1, q2, q3, q4, q5⟩ := R2.below hD2; obtain ⟨z0, z1, z2, z3, z4, z5, z6, z7, z8, z9⟩ := unhide HKr _ hD2)
        | (go_at_call 136; rw [unhide HWC]; refine (times_iv _ v6 (K + 7) b (-c) (timesI (doneI (lnT 2 1 b) N2) 2) ((unhide HP6).below hD0) (by omega) (unhide HV6) (by omega) (by omega)).mono ?_; rintro r' w7 ⟨v7, rfl, hvb7, hvp7, hb7⟩; have HV7 := hide hvb7; clear hvb7; have hD1 := bthen hD0 hb7))
    all_goals
      go_wp2_with fail
      refine bodyPost_ret (v := .agg #[.bool v.ln, .slice v.la v.lN v.lc, .bool v.hn, .slice v.ha v.hN v.hc, .int .i64 v.bits]) (by simp [results, Try.results128, go_sem, q0, q1, q2, q3, q4]) rfl ⟨n', d', c, N, N2, unhide HBal, hc1, hc2, unhide HS1, unhide HS2, v, rfl, unhide HV, ?_, ?_⟩
      · refine SpAt.put5 ?_ q0 q1 q2 q3 q4 _ _ _ _ _
        unfold lnOf
        rw [if_pos hcz]
        exact hvp.mono (by omega)
      · exact set5 (bthen hB2 hD2) (by omega) _ _ _ _ _
  · go_wp2_with fail
    rw [← hV6]
    clear hV6
    obtain ⟨e0, e1, e2, e3, e4, e5, e6, e7, e8, e9⟩ := unhide HKr _ (Below.refl _ _)
    have hcz' : ¬ c < 0 := by omega
    go_region_held3 (fun w' => w'.cell? ⟨w3.heap.size, 0, none⟩ = some (.bool v3.ln) ∧ w'.cell? ⟨w3.heap.size, 1, none⟩ = some (.slice v3.la v3.lN v3.lc) ∧ w'.cell? ⟨w3.heap.size, 2, none⟩ = some (.bool v3.hn) ∧ w'.cell? ⟨w3.heap.size, 3, none⟩ = some (.slice v3.ha v3.hN v3.hc) ∧ w'.cell? ⟨w3.heap.size, 4, none⟩ = some (.int .i64 v3.bits) ∧ w'.cell? ⟨w6.heap.size, 0, none⟩ = some (.bool v6.ln) ∧ w'.cell? ⟨w6.heap.size, 1, none⟩ = some (.slice v6.la v6.lN v6.lc) ∧ w'.cell? ⟨w6.heap.size, 2, none⟩ = some (.bool v6.hn) ∧ w'.cell? ⟨w6.heap.size, 3, none⟩ = some (.slice v6.ha v6.hN v6.hc) ∧ w'.cell? ⟨w6.heap.size, 4, none⟩ = some (.int .i64 v6.bits)) (first | exact unhide HKr _ (by first | with_reducible exact hD0 | with_reducible exact hD2 | with_reducible exact hD1) | go_keep)
      (first
        | (go_at_call 56; have hq := hD1; refine (add_iv _ v3 v7 (K + 11) b (timesI (doneI (lnT n' d' b) N) 2) (timesI (timesI (doneI (lnT 2 1 b) N2) 2) c) (((unhide HP3).below hD1).mono (by omega)) (hvp7.mono (by omega)) (by omega) (unhide HV3)).mono ?_; rintro r' w8 ⟨v, rfl, hvb, hvp, hb8⟩; have hD2 := bthen hD1 hb8; have HV := hide hvb; clear hvb; obtain ⟨q0, q1, q2, q3, q4, q5⟩ := R2.below hD2; obtain ⟨z0, z1, z2, z3, z4, z5, z6, z7, z8, z9⟩ := unhide HKr _ hD2)
        | (go_at_call 136; refine (times_iv _ v6 (K + 7) b c (timesI (doneI (lnT 2 1 b) N2) 2) ((unhide HP6).below hD0) (by omega) (unhide HV6) (by omega) (by omega)).mono ?_; rintro r' w7 ⟨v7, rfl, hvb7, hvp7, hb7⟩; have HV7 := hide hvb7; clear hvb7; have hD1 := bthen hD0 hb7))
    all_goals
      go_wp2_with fail
      refine bodyPost_ret (v := .agg #[.bool v.ln, .slice v.la v.lN v.lc, .bool v.hn, .slice v.ha v.hN v.hc, .int .i64 v.bits]) (by simp [results, Try.results128, go_sem, q0, q1, q2, q3, q4]) rfl ⟨n', d', c, N, N2, unhide HBal, hc1, hc2, unhide HS1, unhide HS2, v, rfl, unhide HV, ?_, ?_⟩
      · refine SpAt.put5 ?_ q0 q1 q2 q3 q4 _ _ _ _ _
        unfold lnOf
        rw [if_neg (show ¬ c < 0 by omega)]
        exact hvp.mono (by omega)
      · exact set5 (bthen hB2 hD2) (by omega) _ _ _ _ _
end Go.Proofs.Ytgmnknmjainabab
namespace Go.Proofs.Ytgmnknmjainabab
open Go.RowKit
attribute [local go_sem ↓] Go.wp_at_zero Go.wp_at_succ
def touB (lo hi : Int) (i : Nat) (lo' hi' : Int) (j : Nat) : Bool := decide (lo * Q i ≤ hi' * Q j) && decide (lo' * Q j ≤ hi * Q i)
theorem downZ_up (x : Int) (a b : Int) (i : Nat) (h : b - a = (i : Int)) : downZ x (a - b) = x * Q i := by
  unfold downZ
  by_cases h0 : i = 0
  · subst h0
    have e : a - b = 0 := by omega
    rw [e]; simp [Q]
  · rw [if_neg (by omega)]; congr 2; omega
theorem downZ_upn (x : Int) (a b : Int) (i : Nat) (h : b - a = (i : Int)) : -(downZ (-x) (a - b)) = x * Q i := by
  rw [downZ_up _ a b i h, Int.neg_mul, Int.neg_neg]
set_option maxRecDepth 100000 in
set_option maxHeartbeats 4000000 in
theorem touch_le (w : World) (s t : Sp) (k i j : Nat) (lo hi lo' hi' : Int) (hs : SpAt w s k lo hi) (ht : SpAt w t k lo' hi') (hk : k ≤ 300000000) (s0 : 0 ≤ s.bits) (s1 : s.bits ≤ 1000000) (t0 : 0 ≤ t.bits) (t1 : t.bits ≤ 1000000) (hc : t.bits ≤ s.bits) (hi1 : s.bits - s.bits = (i : Int)) (hj1 : s.bits - t.bits = (j : Int)) :
    Calls Try.prog 23 #[.agg #[.bool s.ln, .slice s.la s.lN s.lc, .bool s.hn, .slice s.ha s.hN s.hc, .int .i64 s.bits], .agg #[.bool t.ln, .slice t.la t.lN t.lc, .bool t.hn, .slice t.ha t.hN t.hc, .int .i64 t.bits]] w fun r w' => r = .returned (.bool (touB lo hi i lo' hi' j)) ∧ Below w.heap.size w w' := by
  obtain ⟨W, hW⟩ : ∃ W, W = (w.alloc (.cells #[.bool s.ln, .slice s.la s.lN s.lc, .bool s.hn, .slice s.ha s.hN s.hc, .int .i64 s.bits] 36)).alloc (.cells #[.bool t.ln, .slice t.la t.lN t.lc, .bool t.hn, .slice t.ha t.hN t.hc, .int .i64 t.bits] 36) := ⟨_, rfl⟩
  have hBW : Below w.heap.size w W := by rw [hW]; exact bl2 _ _ _
  have A : SpC W w.heap.size s := by rw [hW]; exact ⟨by simp [go_sem], by simp [go_sem], by simp [go_sem], by simp [go_sem], by simp [go_sem]⟩
  have G : SpC W (w.heap.size + 1) t := by rw [hW]; exact ⟨by simp [go_sem], by simp [go_sem], by simp [go_sem], by simp [go_sem], by simp [go_sem]⟩
  have FA : ∀ o, W.frozen? ⟨w.heap.size, o, none⟩ = false := by intro o; rw [hW]; simp [go_sem]
  have FG : ∀ o, W.frozen? ⟨w.heap.size + 1, o, none⟩ = false := by intro o; rw [hW]; simp [go_sem]
  have a1 := hide (downZ_up lo s.bits (s.bits) i hi1)
  have a2 := hide (downZ_upn hi s.bits (s.bits) i hi1)
  have a3 := hide (downZ_up lo' t.bits (s.bits) j hj1)
  have a4 := hide (downZ_upn hi' t.bits (s.bits) j hj1)
  have HS := hide (hs.below hBW)
  have HT := hide (ht.below hBW)
  have HA := hide A
  have HG := hide G
  have lA := A.lt
  have lG := G.lt
  have nAG : w.heap.size ≠ w.heap.size + 1 := by omega
  clear hi1 hj1 hs ht
  go_enter Try.func23, Try.ntmps23
  go_wp2_with fail
  rw [← hW]
  clear hW
  obtain ⟨x0, x1, x2, x3, x4⟩ := A
  obtain ⟨y0, y1, y2, y3, y4⟩ := G
  try go_wp2_with fail
  go_cut [] (fun wx => ∃ s2 t2 : Sp, SpC wx w.heap.size s2 ∧ SpC wx (w.heap.size + 1) t2 ∧ SpAt wx s2 (k + 62505) (lo * Q i) (hi * Q i) ∧ SpAt wx t2 (k + 62505) (lo' * Q j) (hi' * Q j) ∧ Below w.heap.size w wx)
  case first =>
    go_region_with
      (first
        | (go_at_call 58; have hq := hB1; refine (refTurn_int _ t k (s.bits) lo' hi' ((unhide HT).below hB1) hk t0 t1 (by omega) (by omega)).mono ?_; rintro r w2 ⟨u2, rfl, hub2, hup2, hb2⟩; rw [unhide a3, unhide a4] at hup2; clear hub2; have hB2 := bthen hB1 hb2; replace hup1 := hup1.below hb2; have l2A := Nat.lt_of_lt_of_le lA hB2.size; have l2G := Nat.lt_of_lt_of_le lG hB2.size; obtain ⟨a0, a1, a2, a3, a4⟩ := (unhide HA).below hB2; obtain ⟨g0, g1, g2, g3, g4⟩ := (unhide HG).below hB2; have fA2 : ∀ o, w2.frozen? ⟨w.heap.size, o, none⟩ = false := (fun o => (hB2.frozen (p := ⟨w.heap.size, o, none⟩) lA).trans (FA o)); have fG2 : ∀ o, w2.frozen? ⟨w.heap.size + 1, o, none⟩ = false := (fun o => (hB2.frozen (p := ⟨w.heap.size + 1, o, none⟩) lG).trans (FG o)))
        | (go_at_call 58; refine (refTurn_int _ s k (s.bits) lo hi ((unhide HS).below (by repeat' (first | with_reducible exact Below.refl _ _ | with_reducible refine Below.drew ?_))) hk s0 s1 (by omega) (by omega)).mono ?_; rintro r w1 ⟨u1, rfl, hub1, hup1, hb1⟩; rw [unhide a1, unhide a2] at hup1; clear hub1; have hB1 : Below W.heap.size W w1 := bthen (by repeat' (first | with_reducible exact Below.refl _ _ | with_reducible refine Below.drew ?_)) hb1; obtain ⟨b0, b1, b2, b3, b4⟩ := (unhide HA).below hB1; obtain ⟨d0, d1, d2, d3, d4⟩ := (unhide HG).below hB1; have l1A := Nat.lt_of_lt_of_le lA hB1.size; have l1G := Nat.lt_of_lt_of_le lG hB1.size))
    all_goals
      go_wp2_with fail
      go_meet
      have A2 : SpC w2 w.heap.size s := ⟨a0, a1, a2, a3, a4⟩
      have G2 : SpC w2 (w.heap.size + 1) t := ⟨g0, g1, g2, g3, g4⟩
      obtain ⟨p1, p2, p3, p4⟩ := two_sp A2 G2 nAG u1 u2
      exact ⟨u1, u2, p1, p2, p3 hup1, p3 hup2, set5 (set5 (bthen hBW hB2) (Nat.le_refl _) _ _ _ _ _) (Nat.le_succ _) _ _ _ _ _⟩
  case rest =>
  obtain ⟨s2, t2, A, G, hs, ht, hBW⟩ := hcut
  clear HA HG HS HT lA lG x0 x1 x2 x3 x4 y0 y1 y2 y3 y4 FA FG
  have lA := A.lt
  have lG := G.lt
  by_cases hq : lo * Q i ≤ hi' * Q j
  · have c1 : cmpInt (lo * Q i) (hi' * Q j) ≤ 0 := by unfold cmpInt; split; omega; rw [if_neg (by omega)]; omega
    have HE := hide (show decide (cmpInt (lo' * Q j) (hi * Q i) ≤ 0) = touB lo hi i lo' hi' j by rw [cmp_le0]; unfold touB; rw [decide_eq_true hq, Bool.true_and])
    obtain ⟨x0, x1, x2, x3, x4⟩ := A
    obtain ⟨y0, y1, y2, y3, y4⟩ := G
    clear hq
    go_wp2_with fail
    refine (cmp_int _ _ _ _ _ _ _ _ (k + 62505) (k + 62505) (lo * Q i) (hi' * Q j) _ hs.lo ht.hi).mono ?_
    rintro r w1 ⟨rfl, hb1⟩
    have A := (SpC.mk x0 x1 x2 x3 x4).below hb1
    have G := (SpC.mk y0 y1 y2 y3 y4).below hb1
    replace hs := hs.below hb1
    replace ht := ht.below hb1
    replace hBW := bthen hBW hb1
    clear x0 x1 x2 x3 x4 y0 y1 y2 y3 y4 hb1
    obtain ⟨x0, x1, x2, x3, x4⟩ := A
    obtain ⟨y0, y1, y2, y3, y4⟩ := G
    go_wp2_with fail
    refine (cmp_int _ _ _ _ _ _ _ _ (k + 62505) (k + 62505) (lo' * Q j) (hi * Q i) _ ht.lo hs.hi).mono ?_
    rintro r w2 ⟨rfl, hb2⟩
    replace hBW := bthen hBW hb2
    go_wp2_with fail
    go_ret
    exact ⟨by rw [← unhide HE]; rfl, hBW⟩
  · have c1 : ¬ cmpInt (lo * Q i) (hi' * Q j) ≤ 0 := by unfold cmpInt; rw [if_neg (by omega), if_pos (by omega)]; omega
    have HE := hide (show touB lo hi i lo' hi' j = false by unfold touB; rw [decide_eq_false hq, Bool.false_and])
    obtain ⟨x0, x1, x2, x3, x4⟩ := A
    obtain ⟨y0, y1, y2, y3, y4⟩ := G
    clear hq
    go_wp2_with fail
    refine (cmp_int _ _ _ _ _ _ _ _ (k + 62505) (k + 62505) (lo * Q i) (hi' * Q j) _ hs.lo ht.hi).mono ?_
    rintro r w1 ⟨rfl, hb1⟩
    replace hBW := bthen hBW hb1
    go_wp2_with fail
    go_ret
    exact ⟨by rw [unhide HE]; rfl, hBW⟩
end Go.Proofs.Ytgmnknmjainabab
namespace Go.Proofs.Ytgmnknmjainabab
open Go.RowKit
attribute [local go_sem ↓] Go.wp_at_zero Go.wp_at_succ
def TwoP (W wx : World) (b k1 k2 : Nat) (a c : Int × Int) (p q : Value) : Prop :=
  ∃ (B B' : Nat) (x y : Sp), p = .pointer (some ⟨B, 0, none⟩) ∧ q = .pointer (some ⟨B', 0, none⟩) ∧ W.heap.size ≤ B ∧ W.heap.size ≤ B' ∧ B ≠ B' ∧ VrC wx B x ∧ VrC wx B' y ∧ SpAt wx x k1 a.1 a.2 ∧ SpAt wx y k2 c.1 c.2 ∧ x.bits = (b : Int) ∧ y.bits = (b : Int) ∧ Below W.heap.size W wx
variable {W w2 : World} {b k1 k2 : Nat} {a c : Int × Int} {x y : Sp} {T : TypeId}
end Go.Proofs.Ytgmnknmjainabab
namespace Go.Proofs.Ytgmnknmjainabab
open Go.RowKit
attribute [local go_sem ↓] Go.wp_at_zero Go.wp_at_succ
structure LowSt (w wr : World) (B5 B6 B7 b K : Nat) (U Pp Sm : Sp) (f : Nat → Int × Int) (X : Int) (i : Nat) : Prop where
  u : VrC wr B5 U
  p : VrC wr B6 Pp
  s : VrC wr B7 Sm
  up : SpAt wr U K (f i).1 (f i).2
  pp : SpAt wr Pp K X X
  sp : SpAt wr Sm K (sumI f i).1 (sumI f i).2
  ub : U.bits = (b : Int)
  pb : Pp.bits = (b : Int)
  sb : Sm.bits = (b : Int)
  no : NoC wr (w.heap.size + 1)
  be : Below w.heap.size w wr
  l5 : w.heap.size + 1 < B5
  l6 : w.heap.size + 1 < B6
  l7 : w.heap.size + 1 < B7
  n56 : B5 ≠ B6
  n57 : B5 ≠ B7
  n67 : B6 ≠ B7
theorem LowSt.below {w wr wr' : World} {B5 B6 B7 b K : Nat} {U Pp Sm : Sp} {f : Nat → Int × Int} {X : Int} {i : Nat} (h : LowSt w wr B5 B6 B7 b K U Pp Sm f X i) (hb : Below wr.heap.size wr wr') : LowSt w wr' B5 B6 B7 b K U Pp Sm f X i :=
  ⟨h.u.below hb, h.p.below hb, h.s.below hb, h.up.below hb, h.pp.below hb, h.sp.below hb, h.ub, h.pb, h.sb, h.no.below hb, bthen h.be hb, h.l5, h.l6, h.l7, h.n56, h.n57, h.n67⟩
end Go.Proofs.Ytgmnknmjainabab
namespace Go.Proofs.Ytgmnknmjainabab
open Go.RowKit
attribute [local go_sem ↓] Go.wp_at_zero Go.wp_at_succ
structure RaiSt2 (w wr : World) (B5 b K : Nat) (O S : Sp) (o s : Int × Int) : Prop where
  u : VrC wr B5 O
  v : VrC wr w.heap.size S
  up : SpAt wr O K o.1 o.2
  vp : SpAt wr S K s.1 s.2
  ub : O.bits = (b : Int)
  vb : S.bits = (b : Int)
  no : NoC wr (w.heap.size + 1)
  be : Below w.heap.size w wr
  l5 : w.heap.size + 1 < B5
theorem RaiSt2.below {w wr wr' : World} {B5 b K : Nat} {O S : Sp} {o s : Int × Int} (h : RaiSt2 w wr B5 b K O S o s) (hb : Below wr.heap.size wr wr') : RaiSt2 w wr' B5 b K O S o s :=
  ⟨h.u.below hb, h.v.below hb, h.up.below hb, h.vp.below hb, h.ub, h.vb, h.no.below hb, bthen h.be hb, h.l5⟩
end Go.Proofs.Ytgmnknmjainabab
namespace Go.Proofs.Ytgmnknmjainabab
open Go.RowKit
attribute [local go_sem ↓] Go.wp_at_zero Go.wp_at_succ
theorem narrowBy_four (w : World) (s : Sp) (b : Nat) (lo hi : Int) (h : SpAt w s 250 lo hi) (hb : s.bits = b) (hb1 : b ≤ 120) (hle : lo ≤ hi) (hN : narB lo hi (Q b) 4 = true) :
    Calls Try.prog 49 #[.agg #[.bool s.ln, .slice s.la s.lN s.lc, .bool s.hn, .slice s.ha s.hN s.hc, .int .i64 s.bits], .int .i64 4] w fun r w' => r = .returned (.bool true) ∧ Below w.heap.size w w' :=
  (narrowBy_int w s b 4 lo hi h hb hb1 (by omega) hle).mono fun r w' ⟨h1, h2⟩ => ⟨by rw [h1]; congr 2, h2⟩
end Go.Proofs.Ytgmnknmjainabab
namespace Go.Proofs.Ytgmnknmjainabab
open Go.RowKit
attribute [local go_sem ↓] Go.wp_at_zero Go.wp_at_succ
theorem touch_up {b i : Nat} {a c : Int × Int} {x : Nat → Rat} (h : Iv b a x) (k : Iv (b + i) c x) : touB a.1 a.2 i c.1 c.2 0 = true := by
  have q := Q_pos b
  have t1 := h.touch k
  have t2 := k.touch h
  rw [Q_add] at t1 t2
  have e1 : a.1 * (Q b * Q i) = a.1 * Q i * Q b := by grind
  have e2 : a.2 * (Q b * Q i) = a.2 * Q i * Q b := by grind
  rw [e1] at t1
  rw [e2] at t2
  have c1 : a.1 * Q i ≤ c.2 := Int.le_of_mul_le_mul_right t1 (by omega)
  have c2 : c.1 ≤ a.2 * Q i := Int.le_of_mul_le_mul_right t2 (by omega)
  have e0 : Q 0 = 1 := rfl
  unfold touB
  rw [e0]
  simp [c1, c2]
end Go.Proofs.Ytgmnknmjainabab
namespace Go.Proofs.Ytgmnknmjainabab
open Ex
theorem wholeG_iv (b : Nat) (c : Int) : Iv b (c * Q b, c * Q b) (fun _ => (c : Rat)) := by
  have q := Qr_pos b
  have e : ((c * Q b : Int) : Rat) / (Q b : Rat) = (c : Rat) := by
    rw [Rat.intCast_mul]
    exact Rat.le_antisymm (rdiv_le q Rat.le_refl) (rle_div q Rat.le_refl)
  refine Has.of_from 0 fun M _ => ?_
  simp only [e]
  exact ⟨Rat.le_refl, Rat.le_refl⟩
theorem tou_whole {b : Nat} {L H c : Int} {x : Nat → Rat} (h : Iv b (L, H) x) (hx : Null (fun M => (c : Rat) - x M)) : touB L H 0 (c * Q b) (c * Q b) 0 = true := by
  have k := h.congr hx
  exact touch_up (i := 0) k (wholeG_iv b c)
theorem gm_one {L G : Rat → Nat → Rat} {X : Int → Int → Nat → Rat} (hE : GEnv L G X) : Null (fun M => G 1 M - 1) := gam_one hE.lns (hE.gam 1 (by grind) (by grind))
theorem gm_nat {L G : Rat → Nat → Rat} {X : Int → Int → Nat → Rat} (hE : GEnv L G X) {n c : Int} (h1 : gA n 1 = 1) (h2 : (stP n 1 (stN n 1) : Rat) / (stQ 1 (stN n 1) : Rat) = (c : Rat)) : Null (fun M => (c : Rat) - gmV n 1 (G (gA n 1)) M) := by
  refine ((gm_one hE).bmul (Bdd.const (-(c : Rat)))).of_eq fun M => ?_
  unfold gmV
  rw [h1, h2]
  grind
theorem gm_1 {L G : Rat → Nat → Rat} {X : Int → Int → Nat → Rat} (hE : GEnv L G X) : Null (fun M => ((1 : Int) : Rat) - gmV 1 1 (G (gA 1 1)) M) := gm_nat hE (by decide +kernel) (by decide +kernel)
theorem gA_next {n d : Int} (h0 : 0 < n) (hd : 0 < d) : gA (n + d) d = gA n d := by
  unfold gA
  rw [stN_next hd h0]
  have e : n + d - ((stN n d + 1 : Nat) : Int) * d = n - (stN n d : Int) * d := by
    have : ((stN n d + 1 : Nat) : Int) = (stN n d : Int) + 1 := by omega
    rw [this]; grind
  rw [e]
theorem gmV_next {n d : Int} (h0 : 0 < n) (hd : 0 < d) (g : Nat → Rat) (M : Nat) : gmV (n + d) d g M = gmV n d g M * ((n : Rat) / (d : Rat)) := by
  unfold gmV
  rw [stN_next hd h0, stP_next]
  have e : stQ d (stN n d + 1) = stQ d (stN n d) * d := rfl
  rw [e, Rat.intCast_mul, Rat.intCast_mul]
  have d0 : (0 : Rat) < (d : Rat) := by exact_mod_cast hd
  have q0 : (0 : Rat) < (stQ d (stN n d) : Rat) := by exact_mod_cast stQ_pos hd _
  generalize (stP n d (stN n d) : Rat) = P at *
  generalize (stQ d (stN n d) : Rat) = Q at *
  generalize g M = y
  have k : (n : Rat) * P / (Q * (d : Rat)) = P / Q * ((n : Rat) / (d : Rat)) := by
    have qd := Rat.mul_pos q0 d0
    refine rat_cancel qd ?_
    have e1 := rdm (a := (n : Rat) * P) qd
    have e2 := rdm (a := P) q0
    have e3 := rdm (a := (n : Rat)) d0
    have r1 : Q * (d : Rat) * ((n : Rat) * P / (Q * (d : Rat))) = (n : Rat) * P / (Q * (d : Rat)) * (Q * (d : Rat)) := by grind
    have r2 : Q * (d : Rat) * (P / Q * ((n : Rat) / (d : Rat))) = P / Q * Q * ((n : Rat) / (d : Rat) * (d : Rat)) := by grind
    rw [r1, r2, e1, e2, e3]; grind
  rw [k]; grind
end Go.Proofs.Ytgmnknmjainabab
namespace Go.Proofs.Ytgmnknmjainabab
open Ex
namespace Ex
theorem IsGam.congr {L : Rat → Nat → Rat} {a : Rat} {g g' : Nat → Rat} (h : IsGam L a g) (e : ∀ M, g' M = g M) : IsGam L a g' := by
  have : g' = g := funext e
  rw [this]; exact h
end Ex
theorem gam_steps {L : Rat → Nat → Rat} (hL : Lns L) {n d : Int} {g : Nat → Rat} (h0 : 0 < n) (h1 : n ≤ d) (hg : Gam1 L ((n : Rat) / (d : Rat)) g) (k : Nat) : IsGam L (((n + (k : Int) * d : Int) : Rat) / (d : Rat)) (gmV (n + (k : Int) * d) d g) := by
  have d0 : 0 < d := by omega
  have dr : (0 : Rat) < (d : Rat) := by exact_mod_cast d0
  have nr : (0 : Rat) < (n : Rat) := by exact_mod_cast h0
  induction k with
  | zero =>
    have e : n + ((0 : Nat) : Int) * d = n := by have : ((0 : Nat) : Int) = 0 := rfl
                                                 rw [this]; omega
    rw [e]
    refine (hg.isGam hL (rdiv_pos nr dr)).congr fun M => ?_
    have s : stN n d = 0 := by unfold stN; rw [Int.ediv_eq_zero_of_lt (by omega) (by omega)]; rfl
    unfold gmV
    rw [s]
    show ((1 : Int) : Rat) / ((1 : Int) : Rat) * g M = g M
    have : ((1 : Int) : Rat) / ((1 : Int) : Rat) = 1 := by decide +kernel
    rw [this]; grind
  | succ k ih =>
    have kd := Int.mul_nonneg (show (0 : Int) ≤ (k : Int) by omega) (show 0 ≤ d by omega)
    have e : n + ((k + 1 : Nat) : Int) * d = n + (k : Int) * d + d := by
      have : ((k + 1 : Nat) : Int) = (k : Int) + 1 := by omega
      rw [this]; grind
    have p : 0 < n + (k : Int) * d := by omega
    have pr' : (0 : Rat) < ((n + (k : Int) * d : Int) : Rat) := by exact_mod_cast p
    have nx := ih.next hL (rdiv_pos pr' dr)
    rw [e]
    have ea : ((n + (k : Int) * d + d : Int) : Rat) / (d : Rat) = ((n + (k : Int) * d : Int) : Rat) / (d : Rat) + 1 := by
      rw [Rat.intCast_add (n + (k : Int) * d) d, rdiv_add]
      have : (d : Rat) / (d : Rat) = 1 := Rat.le_antisymm (rdiv_le dr (by grind)) (rle_div dr (by grind))
      rw [this]
    rw [ea]
    refine nx.congr fun M => ?_
    rw [gmV_next p d0]; grind
theorem gam_ratio {L G : Rat → Nat → Rat} {X : Int → Int → Nat → Rat} (hE : GEnv L G X) {n d : Int} (h : StIn n d) : IsGam L ((n : Rat) / (d : Rat)) (gmV n d (G (gA n d))) := by
  obtain ⟨r1, r2, r3⟩ := h.rest
  have k := gam_steps hE.lns r1 r2 (hE.gam _ (gA_ok h).1 (gA_ok h).2) (stN n d)
  have e : n - (stN n d : Int) * d + (stN n d : Int) * d = n := by omega
  rw [e] at k
  exact k
end Go.Proofs.Ytgmnknmjainabab
namespace Go.Proofs.Ytgmnknmjainabab
open Ex
namespace Ex
def lw (L : Rat → Nat → Rat) (a x : Rat) (g : Nat → Rat) (M : Nat) : Rat := uG L a x M * (1 / g M)
theorem inv_of {g : Nat → Rat} (h : ∃ c : Rat, 0 < c ∧ ∃ N : Nat, ∀ M, N ≤ M → c ≤ g M) : Bdd (fun M => 1 / g M) ∧ Nn (fun M => 1 / g M) ∧ ∃ N : Nat, ∀ M, N ≤ M → g M * (1 / g M) = 1 ∧ 0 < g M ∧ 0 ≤ 1 / g M := by
  obtain ⟨c, c0, N, hc⟩ := h
  have one : ∀ M, N ≤ M → g M * (1 / g M) = 1 ∧ 0 < g M ∧ 0 ≤ 1 / g M := fun M hM => by
    have g0 : 0 < g M := by have := hc M hM; grind
    have := rdm (a := 1) g0
    exact ⟨by grind, g0, qle_div g0 (by grind)⟩
  refine ⟨Bdd.of_le (1 / c) N fun M hM => ?_, ⟨N, fun M hM => (one M hM).2.2⟩, N, one⟩
  obtain ⟨e1, e2, e3⟩ := one M hM
  have ic : 0 ≤ 1 / c := qle_div c0 (by grind)
  refine ⟨by grind, qdiv_le e2 ?_⟩
  have m := Rat.mul_le_mul_of_nonneg_left (hc M hM) ic
  have := rdm (a := 1) c0
  grind
theorem lw_bdd {L : Rat → Nat → Rat} (hL : Lns L) {a x : Rat} {g : Nat → Rat} (ha : 0 < a) (hx : 0 < x) (h : IsGam L a g) : Bdd (lw L a x g) := (uG_bdd hL ha hx).mul (inv_of h.pos).1
theorem lw_mono {L : Rat → Nat → Rat} (hL : Lns L) {a x y : Rat} {g : Nat → Rat} (ha : 0 < a) (hx : 0 < x) (hxy : x ≤ y) (h : IsGam L a g) : LeN (lw L a x g) (lw L a y g) :=
  (uG_mono hL ha hx hxy).bmul (inv_of h.pos).1 (inv_of h.pos).2.1
theorem lw_one {L : Rat → Nat → Rat} {a x : Rat} {g : Nat → Rat} (hx : 0 < x) (h : IsGam L a g) : LeN (lw L a x g) (fun _ => 1) := by
  obtain ⟨i1, i2, N, i3⟩ := inv_of h.pos
  exact ((h.lo x hx).bmul i1 i2).trans (LeN.of_le N fun M hM => by have := (i3 M hM).1; grind)
theorem lw_next {L : Rat → Nat → Rat} (hL : Lns L) {a x : Rat} {g g' : Nat → Rat} (ha : 0 < a) (hx : 0 < x) (h : IsGam L a g) (e : ∀ M, g' M = a * g M) : LeN (lw L (a + 1) x g') (lw L a x g) := by
  obtain ⟨i1, i2, N, i3⟩ := inv_of h.pos
  obtain ⟨N2, e2⟩ := uE_nn hL hx (a + 1)
  have hp' : ∃ c : Rat, 0 < c ∧ ∃ N : Nat, ∀ M, N ≤ M → c ≤ g' M := by
    obtain ⟨c, c0, N, hc⟩ := h.pos
    exact ⟨a * c, Rat.mul_pos ha c0, N, fun M hM => by rw [e]; exact Rat.mul_le_mul_of_nonneg_left (hc M hM) (Rat.le_of_lt ha)⟩
  obtain ⟨j1, j2, N3, j3⟩ := inv_of hp'
  have n := (uG_next hL ha hx).bmul j1
  refine LeN.of_null n (N + N2 + N3) fun M hM => ?_
  obtain ⟨p1, p2, p3⟩ := i3 M (by omega)
  obtain ⟨q1, q2, q3⟩ := j3 M (by omega)
  have u0 := e2 M (by omega)
  have m := Rat.mul_nonneg u0 q3
  have eg := e M
  unfold lw
  have ei : a * (1 / g' M) = 1 / g M := by
    refine rat_cancel (c := g M) p2 ?_
    rw [p1]
    have : g M * (a * (1 / g' M)) = g' M * (1 / g' M) := by rw [eg]; grind
    rw [this, q1]
  rw [← ei]
  generalize 1 / g' M = j at *
  generalize uE L (a + 1) x M = ue at *
  generalize uG L (a + 1) x M = u1 at *
  generalize uG L a x M = u0' at *
  grind
theorem lw_far {L : Rat → Nat → Rat} (hL : Lns L) {a x : Rat} {g : Nat → Rat} {k : Rat} (ha : 0 < a) (hx1 : 1 ≤ x) (hx2 : 2 * a ≤ x + 2) (hk : 0 < k) (N0 : Nat) (hs : ∀ M, N0 ≤ M → 2 * k ≤ x * uS a x M) (h : IsGam L a g) : LeN (fun _ => 1 - 1 / k) (lw L a x g) := by
  have hx : 0 < x := by grind
  obtain ⟨i1, i2, N, i3⟩ := inv_of h.pos
  have n1 := (uE_mul hL hx a).bmul (uS_Bdd ha (Rat.le_of_lt hx))
  obtain ⟨N2, e2⟩ := uE_nn hL hx a
  have l1 : LeN (fun M => 2 * k * uE L a x M) (uG L a x) := by
    refine LeN.of_null n1 (N0 + N2) fun M hM => ?_
    have u0 := e2 M (by omega)
    have m := Rat.mul_le_mul_of_nonneg_right (hs M (by omega)) u0
    unfold uG
    generalize uE L a x M = ue at *
    generalize uS a x M = s at *
    generalize pr L a x M = p at *
    generalize ex (-x) M = y at *
    grind
  have l2 := l1.trans (h.lo x hx)
  have l3 := h.hi x hx1 hx2
  have ik : 0 ≤ 1 / k := qle_div hk (by grind)
  have dk := rdm (a := 1) hk
  have l4 : LeN g (fun M => uG L a x M + 1 / k * g M) := by
    refine l3.trans (LeN.trans ?_ ((LeN.refl (uG L a x)).add (l2.cmul ik)))
    refine LeN.of_le 0 fun M _ => ?_
    generalize uE L a x M = ue
    generalize uG L a x M = u
    generalize 1 / k = i at *
    have : i * (2 * k * ue) = 2 * (i * k * ue) := by grind
    rw [this, dk]; grind
  have l5 := l4.bmul i1 i2
  refine LeN.trans ?_ (LeN.trans (l5.add (LeN.refl (fun _ => -(1 / k)))) ?_)
  · refine LeN.of_le N fun M hM => ?_
    have := (i3 M hM).1
    grind
  · refine LeN.of_le N fun M hM => ?_
    have := (i3 M hM).1
    unfold lw
    generalize 1 / g M = j at *
    generalize uG L a x M = u at *
    generalize 1 / k = i at *
    have : (u + i * g M) * j = u * j + i * (g M * j) := by grind
    rw [this, (show g M * j = 1 by grind)]
    grind
theorem null_div {F l s : Nat → Rat} (hF : ∃ c : Rat, 0 < c ∧ ∃ N : Nat, ∀ M, N ≤ M → c ≤ F M) (h : Null (fun M => F M * l M - s M)) : Null (fun M => l M - s M / F M) := by
  obtain ⟨i1, i2, N, i3⟩ := inv_of hF
  refine (h.bmul i1).of_eq_from N fun M hM => ?_
  obtain ⟨e1, e2, e3⟩ := i3 M hM
  have d := rdm (a := s M) e2
  refine rat_cancel (c := F M) e2 ?_
  have r1 : F M * (l M - s M / F M) = F M * l M - s M / F M * F M := by grind
  have r2 : F M * ((F M * l M - s M) * (1 / F M)) = (F M * l M - s M) * (F M * (1 / F M)) := by grind
  rw [r1, r2, d, e1]; grind
def lwY (L : Rat → Nat → Rat) (a x : Rat) (X : Nat → Rat) (M : Nat) : Rat := x - a * L x M + X M
theorem lwY_bdd {L : Rat → Nat → Rat} (hL : Lns L) {a x : Rat} (hx : 0 < x) {X g1 : Nat → Rat} (hX : IsLog X g1) : Bdd (lwY L a x X) := ((Bdd.const x).sub (pr_arg hL hx a)).add hX.1
theorem lw_prod {L : Rat → Nat → Rat} (hL : Lns L) {a x : Rat} {g X : Nat → Rat} (ha : 0 < a) (hx : 0 < x) (h : IsGam L a g) (hX : IsLog X (fun M => a * g M)) : Null (fun M => Ev (lwY L a x X) M * lw L a x g M - a * uS a x M) := by
  obtain ⟨i1, i2, N, i3⟩ := inv_of h.pos
  have by_ : Bdd (fun M => x - a * L x M) := (Bdd.const x).sub (pr_arg hL hx a)
  have n1 := (Ev_add by_ hX.1).bmul (lw_bdd hL ha hx h)
  have n2 := (hX.2.bmul (Ev_bdd by_)).bmul (lw_bdd hL ha hx h)
  have n3 := (uG_quot hL ha hx).bmul ((Ev_bdd by_).mul (Bdd.const a))
  obtain ⟨c, c0, N2, hc⟩ := Ev_low by_
  refine (((n1.neg).add n2).add n3).of_eq_from (N + N2) fun M hM => ?_
  obtain ⟨e1, e2, e3⟩ := i3 M (by omega)
  have ep : 0 < Ev (fun M => x - a * L x M) M := by have := hc M (by omega); grind
  have d := rdm (a := uS a x M) ep
  have eY : Ev (lwY L a x X) M = Ev (fun M => x - a * L x M + X M) M := rfl
  dsimp only
  rw [eY]
  unfold lw
  generalize Ev (fun M => x - a * L x M + X M) M = v at *
  generalize Ev (fun M => x - a * L x M) M = y at *
  generalize Ev X M = xx at *
  generalize uG L a x M = u at *
  generalize uS a x M = s at *
  generalize 1 / g M = j at *
  generalize s / y = t at *
  generalize g M = gg at *
  clear n1 n2 n3 i1 i2 i3 h hX hc
  have r1 : y * (a * gg) * (u * j) = a * y * u * (gg * j) := by grind
  have r2 : a * (t * y) = a * s := by rw [d]
  rw [e1] at r1
  grind
theorem lw_quot {L : Rat → Nat → Rat} (hL : Lns L) {a x : Rat} {g X : Nat → Rat} (ha : 0 < a) (hx : 0 < x) (h : IsGam L a g) (hX : IsLog X (fun M => a * g M)) : Null (fun M => lw L a x g M - a * uS a x M / Ev (lwY L a x X) M) :=
  null_div (Ev_low (lwY_bdd hL hx hX)) (lw_prod hL ha hx h hX)
theorem lwY_nonneg {L : Rat → Nat → Rat} (hL : Lns L) {a x : Rat} {g X : Nat → Rat} (ha : 0 < a) (hx : 0 < x) (h : IsGam L a g) (hX : IsLog X (fun M => a * g M)) : LeN (fun _ => 0) (lwY L a x X) := by
  have bY := lwY_bdd (a := a) hL hx hX
  have l1 : LeN (fun M => a * uS a x M) (Ev (lwY L a x X)) := by
    refine (LeN.of_eqN (Null.symm (lw_prod hL ha hx h hX))).trans ?_
    have l := (lw_one hx h).bmul (Ev_bdd bY) (Ev_nn bY)
    exact LeN.trans (LeN.of_le 0 fun M _ => by grind) (l.trans (LeN.of_le 0 fun M _ => by grind))
  have l2 : LeN (fun _ => 1) (Ev (lwY L a x X)) := by
    refine LeN.trans (LeN.of_le 1 fun M hM => ?_) l1
    obtain ⟨m, rfl⟩ : ∃ m, M = m + 1 := ⟨M - 1, by omega⟩
    have f := uS_first ha (Rat.le_of_lt hx) m
    have k := Rat.mul_le_mul_of_nonneg_left f (Rat.le_of_lt ha)
    have d := rdm (a := 1) ha
    grind
  obtain ⟨z, hz, kz⟩ := l2.null
  intro e he
  exact Ev_back (Bdd.const 0) bY hz 1 (fun M hM => by
    obtain ⟨m, rfl⟩ : ∃ m, M = m + 1 := ⟨M - 1, by omega⟩
    have e0 : Ev (fun _ => (0 : Rat)) (m + 1) = 1 := E_zero m
    rw [e0]; exact kz (m + 1)) e he
end Ex
end Go.Proofs.Ytgmnknmjainabab
namespace Go.Proofs.Ytgmnknmjainabab
open Ex
structure SeOk (a : Int × Int) (u d : Nat → Int) : Prop where
  ok : RiOk u d
  a0 : 0 < a.1
  al : a.1 ≤ a.2
  aw : a.2 - a.1 ≤ 1
  mono : ∀ n, d (n + 2) ≤ u (n + 2) → d (n + 1) ≤ u (n + 1)
theorem se_each {a : Int × Int} {u d : Nat → Int} (h : SeOk a u d) (k : Nat) : 0 ≤ (riT a u d k).1 ∧ (riT a u d k).1 ≤ (riT a u d k).2 := ⟨riT_nonneg h.ok (by have := h.a0; omega) k, riT_le h.ok h.al k⟩
theorem se_rise {a : Int × Int} {u d : Nat → Int} (h : SeOk a u d) (k : Nat) (hk : d (k + 1) ≤ u (k + 1)) : a.2 ≤ (riT a u d k).2 := by
  induction k with
  | zero => exact Int.le_refl _
  | succ k ih =>
    have hk' := h.mono k hk
    have i := ih hk'
    obtain ⟨e1, e2⟩ := se_each h k
    have p := h.ok.d0 (k + 1)
    have c := dv_ceil ((riT a u d k).2 * u (k + 1)) p
    have m := Int.mul_le_mul_of_nonneg_left hk' (show 0 ≤ (riT a u d k).2 by omega)
    refine Int.le_trans i ?_
    refine Int.le_of_mul_le_mul_right (a := d (k + 1)) ?_ p
    exact Int.le_trans m c
theorem se_wide1 {a : Int × Int} {u d : Nat → Int} (h : SeOk a u d) (k : Nat) : ((riT a u d k).2 - (riT a u d k).1) * a.2 ≤ (1 + 2 * (k : Int)) * ((riT a u d k).2 + a.2) := by
  have a0 := h.a0
  have al := h.al
  obtain ⟨e1, e2⟩ := se_each h k
  have w := riT_wide h.ok (show 0 ≤ a.1 by omega) al (by omega) h.aw (fun k hk => se_rise h k hk) k
  refine Int.le_trans w (Int.mul_le_mul_of_nonneg_left ?_ (by omega))
  split <;> omega
theorem se_wideS {a : Int × Int} {u d : Nat → Int} (h : SeOk a u d) (k : Nat) : ((sumI (riT a u d) k).2 - (sumI (riT a u d) k).1) * a.2 ≤ (1 + 2 * (k : Int)) * ((sumI (riT a u d) k).2 + ((k : Int) + 1) * a.2) ∧ a.2 ≤ (sumI (riT a u d) k).2 ∧ a.1 ≤ (sumI (riT a u d) k).1 := by
  have a0 := h.a0
  have al := h.al
  have a2 : 0 ≤ a.2 := by omega
  induction k with
  | zero =>
    have w := se_wide1 h 0
    refine ⟨?_, Int.le_refl _, Int.le_refl _⟩
    show ((riT a u d 0).2 - (riT a u d 0).1) * a.2 ≤ (1 + 2 * ((0 : Nat) : Int)) * ((riT a u d 0).2 + (((0 : Nat) : Int) + 1) * a.2)
    have e : ((0 : Nat) : Int) = 0 := rfl
    rw [e] at w ⊢
    generalize ((riT a u d 0).2 - (riT a u d 0).1) * a.2 = z at *
    omega
  | succ k ih =>
    obtain ⟨i1, i3, i4⟩ := ih
    have w := se_wide1 h (k + 1)
    obtain ⟨e1, e2⟩ := se_each h (k + 1)
    have es1 : (sumI (riT a u d) (k + 1)).1 = (sumI (riT a u d) k).1 + (riT a u d (k + 1)).1 := rfl
    have es2 : (sumI (riT a u d) (k + 1)).2 = (sumI (riT a u d) k).2 + (riT a u d (k + 1)).2 := rfl
    have ec : ((k + 1 : Nat) : Int) = (k : Int) + 1 := by omega
    refine ⟨?_, by omega, by omega⟩
    rw [es1, es2]
    rw [ec] at w ⊢
    generalize (sumI (riT a u d) k).2 = S2 at *
    generalize (sumI (riT a u d) k).1 = S1 at *
    generalize (riT a u d (k + 1)).2 = T2 at *
    generalize (riT a u d (k + 1)).1 = T1 at *
    generalize a.2 = A at *
    have k0 : (0 : Int) ≤ (k : Int) := by omega
    have m1 := Int.mul_nonneg k0 a2
    have r0 : ((k : Int) + 1) * A = (k : Int) * A + A := by grind
    have m2 : (1 + 2 * (k : Int)) * (S2 + ((k : Int) + 1) * A) ≤ (1 + 2 * ((k : Int) + 1)) * (S2 + ((k : Int) + 1) * A) := Int.mul_le_mul_of_nonneg_right (by omega) (by omega)
    have r1 : (S2 + T2 - (S1 + T1)) * A = (S2 - S1) * A + (T2 - T1) * A := by grind
    have r2 : (1 + 2 * ((k : Int) + 1)) * (S2 + T2 + ((k : Int) + 1 + 1) * A) = (1 + 2 * ((k : Int) + 1)) * (S2 + ((k : Int) + 1) * A) + (1 + 2 * ((k : Int) + 1)) * (T2 + A) := by grind
    rw [r1, r2]
    omega
theorem se_ok {a : Int × Int} {u d : Nat → Int} (h : SeOk a u d) (N : Nat) : a.1 ≤ (riseI (riT a u d) N).1 ∧ (riseI (riT a u d) N).1 ≤ (riseI (riT a u d) N).2 ∧ ((riseI (riT a u d) N).2 - (riseI (riT a u d) N).1) * a.2 ≤ ((1 + 2 * (N : Int)) * ((N : Int) + 2) + 9) * (riseI (riT a u d) N).2 := by
  obtain ⟨w1, w3, w4⟩ := se_wideS h N
  have a0 := h.a0
  have al := h.al
  have e1 : (riseI (riT a u d) N).1 = (sumI (riT a u d) N).1 + 0 := rfl
  have e2 : (riseI (riT a u d) N).2 = (sumI (riT a u d) N).2 + 9 := rfl
  have sl : (sumI (riT a u d) N).1 ≤ (sumI (riT a u d) N).2 := sum_le (fun k => (se_each h k).2) N
  refine ⟨by omega, by omega, ?_⟩
  rw [e1, e2]
  generalize (sumI (riT a u d) N).2 = S2 at *
  generalize (sumI (riT a u d) N).1 = S1 at *
  generalize a.2 = A at *
  have m1 : (1 + 2 * (N : Int)) * (S2 + ((N : Int) + 1) * A) ≤ (1 + 2 * (N : Int)) * (((N : Int) + 2) * (S2 + 9)) := Int.mul_le_mul_of_nonneg_left (by
    have a := Int.mul_le_mul_of_nonneg_left (show A ≤ S2 + 9 by omega) (show 0 ≤ (N : Int) + 1 by omega)
    have e : ((N : Int) + 2) * (S2 + 9) = ((N : Int) + 1) * (S2 + 9) + (S2 + 9) := by grind
    omega) (by omega)
  have r : (S2 + 9 - (S1 + 0)) * A = (S2 - S1) * A + 9 * A := by grind
  have r2 : ((1 + 2 * (N : Int)) * ((N : Int) + 2) + 9) * (S2 + 9) = (1 + 2 * (N : Int)) * (((N : Int) + 2) * (S2 + 9)) + 9 * (S2 + 9) := by grind
  rw [r, r2]
  omega
theorem se_hi1 {a : Int × Int} {u d : Nat → Int} (h : SeOk a u d) {H c : Nat} (h0 : a.2 ≤ Q H) (hc : ∀ k, u (k + 1) ≤ Q c * d (k + 1)) (k : Nat) : (riT a u d k).2 ≤ Q (H + c * k) := by
  induction k with
  | zero => exact h0
  | succ k ih =>
    obtain ⟨e1, e2⟩ := se_each h k
    have m := cmul_ceil (x := (riT a u d k).2) (u := u (k + 1)) (v := d (k + 1)) (c := Q c) (h.ok.d0 (k + 1)) (by omega) (hc k)
    have e : Q (H + c * (k + 1)) = Q c * Q (H + c * k) := by rw [← Q_add]; congr 1; rw [Nat.mul_succ]; omega
    have m2 := Int.mul_le_mul_of_nonneg_left ih (show 0 ≤ Q c by have := Q_pos c; omega)
    show -(-((riT a u d k).2 * u (k + 1)) / d (k + 1)) ≤ _
    omega
theorem se_hi {a : Int × Int} {u d : Nat → Int} (h : SeOk a u d) {H c turn : Nat} (h0 : a.2 ≤ Q H) (hH : 2 ≤ H) (hc : ∀ k, u (k + 1) ≤ Q c * d (k + 1)) (h34 : ∀ k, turn ≤ k → 4 * u (k + 1) ≤ 3 * d (k + 1)) (k : Nat) : (riT a u d k).2 ≤ Q (H + c * turn) := by
  by_cases hk : k ≤ turn
  · exact Int.le_trans (se_hi1 h h0 hc k) (Q_mono (Nat.add_le_add_left (Nat.mul_le_mul_left c hk) H))
  · obtain ⟨j, rfl⟩ : ∃ j, k = turn + j := ⟨k - turn, by omega⟩
    have big : 3 ≤ Q (H + c * turn) := by have := Q_mono (show 2 ≤ H + c * turn by omega); have : Q 2 = 4 := rfl; omega
    clear hk
    induction j with
    | zero => exact se_hi1 h h0 hc _
    | succ j ih =>
      obtain ⟨e1, e2⟩ := se_each h (turn + j)
      have f := fall34 (x := (riT a u d (turn + j)).2) (h.ok.d0 (turn + j + 1)) (by omega) (h34 (turn + j) (by omega))
      have e : (riT a u d (turn + (j + 1))).2 = -(-((riT a u d (turn + j)).2 * u (turn + j + 1)) / d (turn + j + 1)) := rfl
      rw [e]
      omega
theorem se_set {a : Int × Int} {u d : Nat → Int} (h : SeOk a u d) {H c turn : Nat} (h0 : a.2 ≤ Q H) (hH : 2 ≤ H) (hc : ∀ k, u (k + 1) ≤ Q c * d (k + 1)) (h34 : ∀ k, turn ≤ k → 4 * u (k + 1) ≤ 3 * d (k + 1)) : ∃ N, N ≤ turn + 3 * (H + c * turn + 1) ∧ IsRise (riT a u d) turn N :=
  rise_ex h.ok (show 0 ≤ a.1 by have := h.a0; omega) h.al h34 (by
    have a' := se_hi h h0 hH hc h34 turn
    have e : Q (H + c * turn + 1) = 2 * Q (H + c * turn) := rfl
    have := Q_pos (H + c * turn)
    omega)
theorem se_fit {a : Int × Int} {u d : Nat → Int} (h : SeOk a u d) {H c turn : Nat} (h0 : a.2 ≤ Q H) (hH : 4 ≤ H) (hc : ∀ k, u (k + 1) ≤ Q c * d (k + 1)) (h34 : ∀ k, turn ≤ k → 4 * u (k + 1) ≤ 3 * d (k + 1)) (k : Nat) (hk : k ≤ 1000000) : (sumI (riT a u d) k).2 + 9 ≤ Q (H + c * turn + 21) := by
  obtain ⟨F, hF⟩ : ∃ F, F = H + c * turn := ⟨_, rfl⟩
  have hi : ∀ j, (riT a u d j).2 ≤ Q F := fun j => by rw [hF]; exact se_hi h h0 (by omega) hc h34 j
  have s : ∀ j : Nat, (sumI (riT a u d) j).2 ≤ ((j : Int) + 1) * Q F := fun j => by
    induction j with
    | zero =>
      have := hi 0
      show (riT a u d 0).2 ≤ (((0 : Nat) : Int) + 1) * Q F
      have e : ((0 : Nat) : Int) = 0 := rfl
      rw [e]; omega
    | succ j ih =>
      have := hi (j + 1)
      have e : (sumI (riT a u d) (j + 1)).2 = (sumI (riT a u d) j).2 + (riT a u d (j + 1)).2 := rfl
      have ec : ((j + 1 : Nat) : Int) + 1 = ((j : Int) + 1) + 1 := by omega
      have r : (((j : Int) + 1) + 1) * Q F = ((j : Int) + 1) * Q F + Q F := by grind
      rw [e, ec, r]; omega
  have a' := s k
  have q := Q_pos F
  have big : 9 ≤ Q F := by have := Q_mono (show 4 ≤ F by omega); have : Q 4 = 16 := rfl; omega
  have m := Int.mul_le_mul_of_nonneg_right (show (k : Int) + 1 ≤ 1000001 by omega) (show 0 ≤ Q F by omega)
  have e : Q (F + 21) = Q F * Q 21 := Q_add F 21
  have e19 : Q 21 = 2097152 := rfl
  rw [e19] at e
  rw [← hF]
  omega
end Go.Proofs.Ytgmnknmjainabab
namespace Go.Proofs.Ytgmnknmjainabab
open Ex
theorem sq_low2 {B : Nat} {d : Int × Int} {c : Int} (hd : d.1 ≤ d.2) (hc : 0 ≤ c) (t : Nat) (hq : Q t * c ≤ Q B) (h : Q B - c ≤ d.1) : Q B - Q t * c ≤ (sqI B d t).1 ∧ (sqI B d t).1 ≤ (sqI B d t).2 := by
  have q := Q_pos B
  induction t with
  | zero => exact ⟨by show Q B - 1 * c ≤ d.1; omega, hd⟩
  | succ t ih =>
    have e : Q (t + 1) = 2 * Q t := rfl
    have qt := Q_pos t
    have ec : Q (t + 1) * c = 2 * (Q t * c) := by rw [e]; grind
    have tc := Int.mul_nonneg (show 0 ≤ Q t by omega) hc
    obtain ⟨i1, i2⟩ := ih (by omega)
    refine ⟨?_, mulI_le B⟩
    show Q B - Q (t + 1) * c ≤ (mulI B (sqI B d t) (sqI B d t)).1
    rw [ec]
    generalize sqI B d t = a at *
    generalize Q t * c = y at *
    obtain ⟨_, _, _, _, hh⟩ := least4 (a.1 * a.1) (a.1 * a.2) (a.2 * a.1) (a.2 * a.2)
    have c0 : 0 ≤ a.1 := by omega
    have m1 := Int.mul_le_mul_of_nonneg_left i2 c0
    have m2 := Int.mul_le_mul_of_nonneg_right i2 c0
    have m3 := Int.mul_le_mul i2 i2 c0 (by omega)
    have m4 := Int.mul_le_mul i1 i1 (by omega) c0
    have e2 : (Q B - y) * (Q B - y) = (Q B - 2 * y) * Q B + y * y := by grind
    have m5 := Int.mul_nonneg tc tc
    have m6 : (Q B - 2 * y) * Q B ≤ leastZ (pr4 (a.1 * a.1) (a.1 * a.2) (a.2 * a.1) (a.2 * a.2)) 3 := by omega
    exact Int.le_ediv_of_mul_le (by omega) m6
theorem sqs_rel2 {B : Nat} {d : Int × Int} {C c : Int} (hd : d.1 ≤ d.2) (hc : 0 ≤ c) (hl : Q B - c ≤ d.1) (hC : 0 ≤ C) (h : (d.2 - d.1) * Q B ≤ C * d.2) (i : Nat) (hi : 2 * (Q i * c) ≤ Q B) :
    ((sqI B d i).2 - (sqI B d i).1) * Q B ≤ (Q i * (C + 4) - 4) * (sqI B d i).2 := by
  induction i with
  | zero =>
    show (d.2 - d.1) * Q B ≤ (1 * (C + 4) - 4) * d.2
    have : 1 * (C + 4) - 4 = C := by omega
    rw [this]; exact h
  | succ i ih =>
    have es : Q (i + 1) = 2 * Q i := rfl
    have q0 := Q_pos i
    have ec : Q (i + 1) * c = 2 * (Q i * c) := by rw [es]; grind
    have tc := Int.mul_nonneg (show 0 ≤ Q i by omega) hc
    have i1 := ih (by omega)
    obtain ⟨l1, l2⟩ := sq_low2 (B := B) hd hc i (by omega) hl
    obtain ⟨l3, l4⟩ := sq_low2 (B := B) hd hc (i + 1) (by omega) hl
    have m := Int.mul_le_mul_of_nonneg_right q0 (show 0 ≤ C + 4 by omega)
    have r := sq_rel (B := B) (a := sqI B d i) (C := Q i * (C + 4) - 4) (by omega) l2 (by omega) i1 (by
      have e : (mulI B (sqI B d i) (sqI B d i)).2 = (sqI B d (i + 1)).2 := rfl
      rw [e]; omega)
    have ec : 2 * (Q i * (C + 4) - 4) + 4 = Q (i + 1) * (C + 4) - 4 := by rw [es]; grind
    rw [ec] at r
    exact r
theorem iv_one_le {B : Nat} {a : Int × Int} {x : Nat → Rat} (h : Iv B a x) (k : LeN (fun _ => 1) x) : Q B ≤ a.2 := by
  have q := Qr_pos B
  refine Int.not_lt.1 fun hlt => ?_
  have d : (0 : Rat) < 1 / (Q B : Rat) := rdiv_pos (by grind) q
  obtain ⟨e, he⟩ : ∃ e, e = 1 / (Q B : Rat) / 4 := ⟨_, rfl⟩
  have e0 : 0 < e := by grind
  obtain ⟨N1, k1⟩ := h e e0
  obtain ⟨N2, k2⟩ := k e e0
  have a1 := (k1 (N1 + N2) (by omega)).2
  have a2 := k2 (N1 + N2) (by omega)
  simp only [] at a2
  have c := cast_le (show a.2 + 1 ≤ Q B by omega)
  rw [Rat.intCast_add] at c
  have c1 : ((1 : Int) : Rat) = 1 := rfl
  rw [c1] at c
  have m : ((a.2 : Rat) + 1) / (Q B : Rat) ≤ 1 := qdiv_le q (by grind)
  rw [rdiv_add] at m
  generalize 1 / (Q B : Rat) = i at *
  grind
theorem Ev_one_le {x : Nat → Rat} (hb : Bdd x) (h : LeN (fun _ => 0) x) : LeN (fun _ => 1) (Ev x) := by
  obtain ⟨z, hz, kz⟩ := h.null
  obtain ⟨v, hv, N, k⟩ := Ev_mono (Bdd.const 0) hb hz 0 (fun M _ => kz M)
  refine LeN.of_null hv (N + 1) fun M hM => ?_
  obtain ⟨m, rfl⟩ : ∃ m, M = m + 1 := ⟨M - 1, by omega⟩
  have e0 : Ev (fun _ => (0 : Rat)) (m + 1) = 1 := E_zero m
  have := k (m + 1) (by omega)
  rw [e0] at this
  exact this
def exD (B : Nat) (ws : Int) (t : Nat) : Int := ((B : Int) / 8 + 2) * (2 * ws + 8 * Q t) + 6 * Q t
theorem exq_ok {B t N : Nat} {a : Int × Int} {x : Nat → Rat} {ws : Int} (hB : 16 ≤ B) (ha : Iv B a x) (hx : LeN (fun _ => 0) x) (hw : a.2 - a.1 ≤ ws) (hA : Abs (downI a t) (Q (B - 8))) (hN : IsStop (expT B (downI a t)) N) (hD : 2 * exD B ws t ≤ Q B) :
    Q B ≤ 2 * (sqI B (doneI (expT B (downI a t)) N) t).1 ∧ (sqI B (doneI (expT B (downI a t)) N) t).1 ≤ (sqI B (doneI (expT B (downI a t)) N) t).2 ∧ (sqI B (doneI (expT B (downI a t)) N) t).2 ≤ Q (B + eb t) ∧ ((sqI B (doneI (expT B (downI a t)) N) t).2 - (sqI B (doneI (expT B (downI a t)) N) t).1) * Q B ≤ exD B ws t * (sqI B (doneI (expT B (downI a t)) N) t).2 ∧ Iv B (sqI B (doneI (expT B (downI a t)) N) t) (Ev x) := by
  have q := Q_pos t
  have qB := Q_pos B
  have al := ha.le
  have ws0 : 0 ≤ ws := by omega
  obtain ⟨u, hu⟩ : ∃ u, u = ws / Q t + 1 := ⟨_, rfl⟩
  have wu : ws ≤ u * Q t := by
    have := dv_floor2 ws (show 0 < Q t by omega)
    rw [← hu] at this; omega
  have uw : u * Q t ≤ ws + Q t := by
    have := Int.ediv_mul_le ws (show Q t ≠ 0 by omega)
    have r : u * Q t = ws / Q t * Q t + Q t := by rw [hu]; grind
    omega
  have u0 : 0 ≤ u := by have := Int.ediv_nonneg ws0 (show 0 ≤ Q t by omega); omega
  obtain ⟨g1, g2, g3, g4⟩ := exp_bound (ws := u) hB hA al (by omega) hN
  have hsl : (downI a t).1 ≤ (downI a t).2 := by
    have := scaleI_le (a := a) (n := 1) (d := Q t) al (by omega) (by omega)
    simpa [scaleI, downI] using this
  have dle := done_le (expT_le B (downI a t)) N
  have wd : (downI a t).2 - (downI a t).1 ≤ u + 1 := div_wide (by omega) (by omega)
  have wD := done_wide (expT_wide (by omega) hA hsl wd) hN
  have hx2 : Bdd (fun M => x M / (Q t : Rat)) := Has.bdd (ha.down t)
  have qr := Qr_pos t
  have l0 : LeN (fun _ => 0) (fun M => x M / (Q t : Rat)) := by
    obtain ⟨z, hz, kz⟩ := hx.null
    refine LeN.of_null (hz.bmul (Bdd.const (1 / (Q t : Rat)))) 0 fun M _ => ?_
    have k := kz M
    have ip : (0 : Rat) ≤ 1 / (Q t : Rat) := qle_div qr (by grind)
    have m := Rat.mul_le_mul_of_nonneg_right k ip
    have e : x M / (Q t : Rat) = x M * (1 / (Q t : Rat)) := by rw [Rat.div_def, Rat.div_def, Rat.one_mul]
    rw [e]
    grind
  have up := iv_one_le (expSum_has (N := N) (by omega) (ha.down t) hA) (Ev_one_le hx2 l0)
  obtain ⟨D, hDD⟩ : ∃ D, D = doneI (expT B (downI a t)) N := ⟨_, rfl⟩
  rw [← hDD] at dle wD up
  obtain ⟨c, hc⟩ : ∃ c, c = ((B : Int) / 8 + 2) * (2 * (u + 1) + 4) + 2 := ⟨_, rfl⟩
  have c0 : 0 ≤ c := by have := Int.mul_nonneg (show 0 ≤ (B : Int) / 8 + 2 by omega) (show 0 ≤ 2 * (u + 1) + 4 by omega); omega
  have wC : D.2 - D.1 ≤ c := by
    have m := Int.mul_le_mul_of_nonneg_right (show (N : Int) + 1 ≤ (B : Int) / 8 + 2 by omega) (show 0 ≤ 2 * (u + 1) + 4 by omega)
    omega
  have tc : Q t * (c + 4) ≤ exD B ws t := by
    have m := Int.mul_le_mul_of_nonneg_left uw (show 0 ≤ 2 * ((B : Int) / 8 + 2) by omega)
    unfold exD
    rw [hc]
    generalize (B : Int) / 8 + 2 = β at *
    have r : Q t * (β * (2 * (u + 1) + 4) + 2 + 4) = 2 * β * (u * Q t) + 6 * (Q t * β) + 6 * Q t := by grind
    have r2 : 2 * β * (ws + Q t) = 2 * (β * ws) + 2 * (Q t * β) := by grind
    have r3 : β * (2 * ws + 8 * Q t) + 6 * Q t = 2 * (β * ws) + 8 * (Q t * β) + 6 * Q t := by grind
    omega
  have r4 : Q t * (c + 4) = Q t * c + 4 * Q t := by grind
  have low : Q B - c ≤ D.1 := by omega
  have rel : (D.2 - D.1) * Q B ≤ c * D.2 := Int.le_trans (Int.mul_le_mul_of_nonneg_right wC (by omega)) (Int.mul_le_mul_of_nonneg_left up c0)
  have sl := sq_low2 (B := B) dle c0 t (by omega) low
  have rs := sqs_rel2 (B := B) dle c0 low c0 rel t (by omega)
  have iv := exp_has (N := N) (by omega) ha hA
  rw [← hDD] at g1 g2 iv ⊢
  refine ⟨by omega, g1, g2.2.2.2, ?_, iv⟩
  refine Int.le_trans rs (Int.mul_le_mul_of_nonneg_right (by omega) ?_)
  omega
end Go.Proofs.Ytgmnknmjainabab
