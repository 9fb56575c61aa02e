/-
  What wide.Log and power.Log answer, and that they leave old memory alone.
  What power.Log answers, errors too, and that it leaves old memory alone.
  What wide.Root answers of a right span that has nothing below 0, and that it leaves old memory alone.
  Two variables of numbers in memory that are made in one statement, wherever they came to lie.
-/
import Derived.Test.YtgmnknmjainabaaK13
namespace Go.Proofs.Ytgmnknmjainabaa
set_option linter.unusedVariables false
set_option linter.unusedSimpArgs false
set_option linter.unnecessarySimpa false
open Go.RowKit
attribute [local go_sem ↓] Go.wp_at_zero Go.wp_at_succ

theorem NoC.offI {w : World} {B B' : Nat} (h : NoC w B) (hne : B ≠ B') (u0 u1 : Value) : NoC ((w.setCell ⟨B', 0, none⟩ u0).setCell ⟨B', 1, none⟩ u1) B := by
  obtain ⟨q0, q1, q2, q3, q4, q5⟩ := h
  exact ⟨by simp [go_sem, q0, hne, Ne.symm hne], by simp [go_sem, q1, hne, Ne.symm hne], by simp [go_sem, q2, hne, Ne.symm hne], by simp [go_sem, q3, hne, Ne.symm hne], by simp [go_sem, q4, hne, Ne.symm hne], put_fz2 q5 _ _⟩

set_option maxRecDepth 100000 in
set_option maxHeartbeats 4000000 in
theorem wideLog_iv (w : World) (x y : Nm) (k b K : Nat) (n d : Int) (hx : IntAt w x.neg x.a x.n x.cap k n) (hy : IntAt w y.neg y.a y.n y.cap k d) (hk : k ≤ 100000) (hn : 0 < n) (hd : 0 < d) (hb16 : 16 ≤ b) (hb : b ≤ 1000000) (hK : Q (b + 4) < P K) (hK2 : K ≤ 10000000) :
    Calls Try.prog 141 #[.agg #[.bool x.neg, .slice x.a x.n x.cap], .agg #[.bool y.neg, .slice y.a y.n y.cap], .int .i64 b] w (fun r w' => ∃ (n' d' c : Int) (N N2 : Nat), Bal n d n' d' c ∧ -(16 * k + 1) ≤ c ∧ c ≤ 16 * k + 1 ∧ IsStop (lnT n' d' b) N ∧ IsStop (lnT 2 1 b) N2 ∧ SpanAns w b (K + 20) (lnOf (doneI (lnT n' d' b) N) (doneI (lnT 2 1 b) N2) c).1 (lnOf (doneI (lnT n' d' b) N) (doneI (lnT 2 1 b) N2) c).2 r w') := by
  obtain ⟨W, hW⟩ : ∃ W, W = ((w.alloc (.cells #[.bool x.neg, .slice x.a x.n x.cap] 24)).alloc (.cells #[.bool y.neg, .slice y.a y.n y.cap] 24)).alloc (.cells #[.bool false, .slice none 0 0, .bool false, .slice none 0 0, .int .i64 0] 26) := ⟨_, rfl⟩
  have hBW : Below w.heap.size w W := by rw [hW]; exact bl3 _ _ _ _
  have X : NmC W w.heap.size x := by rw [hW]; exact ⟨by simp [go_sem], by simp [go_sem]⟩
  have FX : ∀ o, W.frozen? ⟨w.heap.size, o, none⟩ = false := by rw [hW]; intro o; simp [go_sem]
  have Y : NmC W (w.heap.size + 1) y := by rw [hW]; exact ⟨by simp [go_sem], by simp [go_sem]⟩
  have FY : ∀ o, W.frozen? ⟨w.heap.size + 1, o, none⟩ = false := by rw [hW]; intro o; simp [go_sem]
  have R : NoC W (w.heap.size + 1 + 1) := by rw [hW]; exact ⟨by simp [go_sem], by simp [go_sem], by simp [go_sem], by simp [go_sem], by simp [go_sem], fun o => by simp [go_sem]⟩
  have HX := hide (hx.below hBW)
  have HY := hide (hy.below hBW)
  have lX := X.lt
  have lY := Y.lt
  clear hx hy
  go_enter Try.func141, Try.ntmps141
  go_wp2_with fail
  rw [← hW]
  clear hW
  refine (balanced_int _ x y k n d (unhide HX) (unhide HY) hn hd (by omega)).mono ?_
  rintro r w1 ⟨U, T, n', d', c, rfl, hbal, hc1, hc2, iU, iT, hb1⟩
  have FX1 : ∀ o, w1.frozen? ⟨w.heap.size, o, none⟩ = false := fun o => (hb1.frozen (p := ⟨w.heap.size, o, none⟩) lX).trans (FX o)
  have FY1 : ∀ o, w1.frozen? ⟨w.heap.size + 1, o, none⟩ = false := fun o => (hb1.frozen (p := ⟨w.heap.size + 1, o, none⟩) lY).trans (FY o)
  replace X := X.below hb1
  replace Y := Y.below hb1
  replace R := R.below hb1
  replace hBW := bthen hBW hb1
  have HBal := hide hbal
  clear hb1 FX FY HX HY hbal
  obtain ⟨V, hV⟩ : ∃ V, V = (((w1.setCell ⟨w.heap.size, 0, none⟩ (.bool U.neg)).setCell ⟨w.heap.size, 1, none⟩ (.slice U.a U.n U.cap)).setCell ⟨w.heap.size + 1, 0, none⟩ (.bool T.neg)).setCell ⟨w.heap.size + 1, 1, none⟩ (.slice T.a T.n T.cap) := ⟨_, rfl⟩
  have hE : IntAt V U.neg U.a U.n U.cap (k + k + 20) n' ∧ IntAt V T.neg T.a T.n T.cap (k + k + 20) d' ∧ NoC V (w.heap.size + 1 + 1) ∧ Below w.heap.size w V := by
    rw [hV]
    have hy1 := Y.off (B' := w.heap.size) (by omega) (.bool U.neg) (.slice U.a U.n U.cap)
    have i1 := iU.put2 X.c0 X.c1 (.bool U.neg) (.slice U.a U.n U.cap)
    have i2 := iT.put2 X.c0 X.c1 (.bool U.neg) (.slice U.a U.n U.cap)
    have r1 := R.offI (B' := w.heap.size) (by omega) (.bool U.neg) (.slice U.a U.n U.cap)
    have b1 := set2 hBW (Nat.le_refl _) (.bool U.neg) (.slice U.a U.n U.cap)
    generalize (w1.setCell ⟨w.heap.size, 0, none⟩ (.bool U.neg)).setCell ⟨w.heap.size, 1, none⟩ (.slice U.a U.n U.cap) = V0 at *
    exact ⟨i1.put2 hy1.c0 hy1.c1 _ _, i2.put2 hy1.c0 hy1.c1 _ _, r1.offI (by omega) _ _, set2 b1 (Nat.le_succ _) _ _⟩
  obtain ⟨jU, jT, R2, hB2⟩ := hE
  have HJU := hide jU
  have HJT := hide jT
  obtain ⟨x0, x1⟩ := X
  obtain ⟨y0, y1⟩ := Y
  have lX1 : w.heap.size < w1.heap.size := World.block_lt_of_cell? w1 ⟨w.heap.size, 0, none⟩ x0
  have lY1 : w.heap.size + 1 < w1.heap.size := World.block_lt_of_cell? w1 ⟨w.heap.size + 1, 0, none⟩ y0
  clear iU iT R hBW jU jT
  go_wp2_with fail
  rw [← hV]
  clear hV x0 x1 y0 y1 FX1 FY1
  obtain ⟨N, hN1, hN2⟩ := stop_ex (s := 3) (by omega) (lnT_abs (unhide HBal).1 hb16)
  obtain ⟨N2, hN3, hN4⟩ := stop_ex (s := 3) (by omega) (lnT_abs near2 hb16)
  have HS1 := hide hN2
  have HS2 := hide hN4
  clear hN1 hN2 hN3 hN4
  refine (logNear_iv _ U T (k + k + 20) b N K n' d' (unhide HJU) (unhide HJT) (by omega) (unhide HBal).1 hb16 hb (unhide HS1) hK hK2).mono ?_
  rintro r w3 ⟨v3, rfl, hvb3, hvp3, hb3⟩
  replace R2 := R2.below hb3
  have lw3 := R2.lt
  replace hB2 := bthen hB2 hb3
  have HV3 := hide hvb3
  clear hb3 hvb3 HJU HJT
  obtain ⟨V3, hV3⟩ : ∃ V3, V3 = w3.alloc (.cells #[.bool v3.ln, .slice v3.la v3.lN v3.lc, .bool v3.hn, .slice v3.ha v3.hN v3.hc, .int .i64 v3.bits] 26) := ⟨_, rfl⟩
  have bV3 : Below w3.heap.size w3 V3 := by rw [hV3]; exact bl1 _ _
  have C3 : SpC V3 w3.heap.size v3 := by rw [hV3]; exact spc_new w3 v3 _
  replace hvp3 := hvp3.below bV3
  replace R2 := R2.below bV3
  replace hB2 := bthen hB2 bV3
  clear bV3
  go_wp2_with fail
  rw [← hV3]
  clear hV3
  refine (numOf_int 2 _ (by decide) (by decide)).mono ?_
  rintro r w4 ⟨neg4, a4, n4, c4, rfl, hint4, hb4⟩
  replace C3 := C3.below hb4
  replace hvp3 := hvp3.below hb4
  replace R2 := R2.below hb4
  replace hB2 := bthen hB2 hb4
  clear hb4
  go_wp2_with fail
  refine (numOf_int 1 _ (by decide) (by decide)).mono ?_
  rintro r w5 ⟨neg5, a5, n5, c5, rfl, hint5, hb5⟩
  replace C3 := C3.below hb5
  replace hvp3 := hvp3.below hb5
  replace R2 := R2.below hb5
  replace hB2 := bthen hB2 hb5
  replace hint4 := hint4.below hb5
  clear hb5
  go_wp2_with fail
  refine (logNear_iv _ ⟨neg4, a4, n4, c4⟩ ⟨neg5, a5, n5, c5⟩ 4 b N2 K 2 1 hint4 hint5 (by omega) near2 hb16 hb (unhide HS2) hK hK2).mono ?_
  rintro r w6 ⟨v6, rfl, hvb6, hvp6, hb6⟩
  have lC3 := C3.lt
  have l36 : w3.heap.size < w6.heap.size := Nat.lt_of_lt_of_le lC3 hb6.size
  replace C3 := C3.below hb6
  replace hvp3 := hvp3.below hb6
  replace R2 := R2.below hb6
  replace hB2 := bthen hB2 hb6
  have HV6 := hide hvb6
  clear hb6 hvb6 hint4 hint5
  obtain ⟨V6, hV6⟩ : ∃ V6, V6 = w6.alloc (.cells #[.bool v6.ln, .slice v6.la v6.lN v6.lc, .bool v6.hn, .slice v6.ha v6.hN v6.hc, .int .i64 v6.bits] 26) := ⟨_, rfl⟩
  have bV6 : Below w6.heap.size w6 V6 := by rw [hV6]; exact bl1 _ _
  have C6 : SpC V6 w6.heap.size v6 := by rw [hV6]; exact spc_new w6 v6 _
  replace C3 := C3.below bV6
  have HP6 := hide (hvp6.below bV6)
  have HP3 := hide (hvp3.below bV6)
  replace R2 := R2.below bV6
  replace hB2 := bthen hB2 bV6
  have lR2 := R2.lt
  have HKr := hide (show ∀ w', Below V6.heap.size V6 w' → (w'.cell? ⟨w3.heap.size, 0, none⟩ = some (.bool v3.ln) ∧ w'.cell? ⟨w3.heap.size, 1, none⟩ = some (.slice v3.la v3.lN v3.lc) ∧ w'.cell? ⟨w3.heap.size, 2, none⟩ = some (.bool v3.hn) ∧ w'.cell? ⟨w3.heap.size, 3, none⟩ = some (.slice v3.ha v3.hN v3.hc) ∧ w'.cell? ⟨w3.heap.size, 4, none⟩ = some (.int .i64 v3.bits) ∧ w'.cell? ⟨w6.heap.size, 0, none⟩ = some (.bool v6.ln) ∧ w'.cell? ⟨w6.heap.size, 1, none⟩ = some (.slice v6.la v6.lN v6.lc) ∧ w'.cell? ⟨w6.heap.size, 2, none⟩ = some (.bool v6.hn) ∧ w'.cell? ⟨w6.heap.size, 3, none⟩ = some (.slice v6.ha v6.hN v6.hc) ∧ w'.cell? ⟨w6.heap.size, 4, none⟩ = some (.int .i64 v6.bits)) from fun w' hB => ⟨(C3.below hB).c0, (C3.below hB).c1, (C3.below hB).c2, (C3.below hB).c3, (C3.below hB).c4, (C6.below hB).c0, (C6.below hB).c1, (C6.below hB).c2, (C6.below hB).c3, (C6.below hB).c4⟩)
  have hD0 : Below V6.heap.size V6 V6.drew := (Below.refl _ _).drew
  have l3 := C3.lt
  have l6 := C6.lt
  have m1 : w.heap.size + 1 + 1 ≠ w3.heap.size := by omega
  have m2 : w.heap.size + 1 + 1 ≠ w6.heap.size := by omega
  have m3 : w3.heap.size ≠ w.heap.size + 1 + 1 := by omega
  have m4 : w6.heap.size ≠ w.heap.size + 1 + 1 := by omega
  clear hvp3 hvp6 bV6 C3 C6
  have hkk : k ≤ 100000 := hk
  by_cases hcz : c < 0
  · go_wp2_with fail
    rw [← hV6]
    clear hV6
    obtain ⟨e0, e1, e2, e3, e4, e5, e6, e7, e8, e9⟩ := unhide HKr _ (Below.refl _ _)
    have HWC := hide (show IntKind.i64.wrap (-c) = -c from i64_id _ (by omega) (by omega))
    go_region_held3 (fun w' => w'.cell? ⟨w3.heap.size, 0, none⟩ = some (.bool v3.ln) ∧ w'.cell? ⟨w3.heap.size, 1, none⟩ = some (.slice v3.la v3.lN v3.lc) ∧ w'.cell? ⟨w3.heap.size, 2, none⟩ = some (.bool v3.hn) ∧ w'.cell? ⟨w3.heap.size, 3, none⟩ = some (.slice v3.ha v3.hN v3.hc) ∧ w'.cell? ⟨w3.heap.size, 4, none⟩ = some (.int .i64 v3.bits) ∧ w'.cell? ⟨w6.heap.size, 0, none⟩ = some (.bool v6.ln) ∧ w'.cell? ⟨w6.heap.size, 1, none⟩ = some (.slice v6.la v6.lN v6.lc) ∧ w'.cell? ⟨w6.heap.size, 2, none⟩ = some (.bool v6.hn) ∧ w'.cell? ⟨w6.heap.size, 3, none⟩ = some (.slice v6.ha v6.hN v6.hc) ∧ w'.cell? ⟨w6.heap.size, 4, none⟩ = some (.int .i64 v6.bits)) (first | exact unhide HKr _ (by first | with_reducible exact hD0 | with_reducible exact hD2 | with_reducible exact hD1) | go_keep)
      (first
        | (go_at_call 84; have hq := hD1; refine (sub_iv _ v3 v7 (K + 11) b (timesI (doneI (lnT n' d' b) N) 2) (timesI (timesI (doneI (lnT 2 1 b) N2) 2) (-c)) (((unhide HP3).below hD1).mono (by omega)) (hvp7.mono (by omega)) (by omega) (unhide HV3)).mono ?_; rintro r' w8 ⟨v, rfl, hvb, hvp, hb8⟩; have hD2 := bthen hD1 hb8; have HV := hide hvb; clear hvb; obtain ⟨q0, q1, q2, q3, q4, q5⟩ := R2.below hD2; obtain ⟨z0, z1, z2, z3, z4, z5, z6, z7, z8, z9⟩ := unhide HKr _ hD2)
        | (go_at_call 154; rw [unhide HWC]; refine (times_iv _ v6 (K + 7) b (-c) (timesI (doneI (lnT 2 1 b) N2) 2) ((unhide HP6).below hD0) (by omega) (unhide HV6) (by omega) (by omega)).mono ?_; rintro r' w7 ⟨v7, rfl, hvb7, hvp7, hb7⟩; have HV7 := hide hvb7; clear hvb7; have hD1 := bthen hD0 hb7))
    all_goals
      go_wp2_with fail
      refine bodyPost_ret (v := .agg #[.bool v.ln, .slice v.la v.lN v.lc, .bool v.hn, .slice v.ha v.hN v.hc, .int .i64 v.bits]) (by simp [results, Try.results141, go_sem, q0, q1, q2, q3, q4]) rfl ⟨n', d', c, N, N2, unhide HBal, hc1, hc2, unhide HS1, unhide HS2, v, rfl, unhide HV, ?_, ?_⟩
      · refine SpAt.put5 ?_ q0 q1 q2 q3 q4 _ _ _ _ _
        unfold lnOf
        rw [if_pos hcz]
        exact hvp.mono (by omega)
      · exact set5 (bthen hB2 hD2) (by omega) _ _ _ _ _
  · go_wp2_with fail
    rw [← hV6]
    clear hV6
    obtain ⟨e0, e1, e2, e3, e4, e5, e6, e7, e8, e9⟩ := unhide HKr _ (Below.refl _ _)
    have hcz' : ¬ c < 0 := by omega
    go_region_held3 (fun w' => w'.cell? ⟨w3.heap.size, 0, none⟩ = some (.bool v3.ln) ∧ w'.cell? ⟨w3.heap.size, 1, none⟩ = some (.slice v3.la v3.lN v3.lc) ∧ w'.cell? ⟨w3.heap.size, 2, none⟩ = some (.bool v3.hn) ∧ w'.cell? ⟨w3.heap.size, 3, none⟩ = some (.slice v3.ha v3.hN v3.hc) ∧ w'.cell? ⟨w3.heap.size, 4, none⟩ = some (.int .i64 v3.bits) ∧ w'.cell? ⟨w6.heap.size, 0, none⟩ = some (.bool v6.ln) ∧ w'.cell? ⟨w6.heap.size, 1, none⟩ = some (.slice v6.la v6.lN v6.lc) ∧ w'.cell? ⟨w6.heap.size, 2, none⟩ = some (.bool v6.hn) ∧ w'.cell? ⟨w6.heap.size, 3, none⟩ = some (.slice v6.ha v6.hN v6.hc) ∧ w'.cell? ⟨w6.heap.size, 4, none⟩ = some (.int .i64 v6.bits)) (first | exact unhide HKr _ (by first | with_reducible exact hD0 | with_reducible exact hD2 | with_reducible exact hD1) | go_keep)
      (first
        | (go_at_call 82; have hq := hD1; refine (add_iv _ v3 v7 (K + 11) b (timesI (doneI (lnT n' d' b) N) 2) (timesI (timesI (doneI (lnT 2 1 b) N2) 2) c) (((unhide HP3).below hD1).mono (by omega)) (hvp7.mono (by omega)) (by omega) (unhide HV3)).mono ?_; rintro r' w8 ⟨v, rfl, hvb, hvp, hb8⟩; have hD2 := bthen hD1 hb8; have HV := hide hvb; clear hvb; obtain ⟨q0, q1, q2, q3, q4, q5⟩ := R2.below hD2; obtain ⟨z0, z1, z2, z3, z4, z5, z6, z7, z8, z9⟩ := unhide HKr _ hD2)
        | (go_at_call 154; refine (times_iv _ v6 (K + 7) b c (timesI (doneI (lnT 2 1 b) N2) 2) ((unhide HP6).below hD0) (by omega) (unhide HV6) (by omega) (by omega)).mono ?_; rintro r' w7 ⟨v7, rfl, hvb7, hvp7, hb7⟩; have HV7 := hide hvb7; clear hvb7; have hD1 := bthen hD0 hb7))
    all_goals
      go_wp2_with fail
      refine bodyPost_ret (v := .agg #[.bool v.ln, .slice v.la v.lN v.lc, .bool v.hn, .slice v.ha v.hN v.hc, .int .i64 v.bits]) (by simp [results, Try.results141, go_sem, q0, q1, q2, q3, q4]) rfl ⟨n', d', c, N, N2, unhide HBal, hc1, hc2, unhide HS1, unhide HS2, v, rfl, unhide HV, ?_, ?_⟩
      · refine SpAt.put5 ?_ q0 q1 q2 q3 q4 _ _ _ _ _
        unfold lnOf
        rw [if_neg (show ¬ c < 0 by omega)]
        exact hvp.mono (by omega)
      · exact set5 (bthen hB2 hD2) (by omega) _ _ _ _ _
end Go.Proofs.Ytgmnknmjainabaa

namespace Go.Proofs.Ytgmnknmjainabaa
set_option linter.unusedVariables false
set_option linter.unusedSimpArgs false
set_option linter.unnecessarySimpa false
open Go.RowKit
attribute [local go_sem ↓] Go.wp_at_zero Go.wp_at_succ

/-- What is made of a logarithm. -/
def LogPr (bits : Nat) (p q : Int) (B : Nat) (lo hi : Int) : Prop :=
  (∃ l, Ex.IsLog l (fun _ => (p : Rat) / (q : Rat)) ∧ Iv B (lo, hi) l) ∧ lo ≤ hi ∧ hi - lo ≤ Q 30 ∧ -(P 200 * Q (B - bits)) ≤ lo ∧ hi ≤ P 200 * Q (B - bits)
theorem log_ends (bits : Nat) (p q : Int) : SureEnds bits 30 (LogPr bits p q) := fun m lo hi ⟨h1, h2, h3, h4, h5⟩ => by
  rw [show bits + m - bits = m by omega] at h4 h5
  exact ⟨h2, h3, h4, h5⟩
theorem log_pr {bits m N N2 : Nat} {p q n' d' c : Int} (hb : bits ≤ 120) (hm : 32 ≤ m) (hm2 : m ≤ 150) (hp : 0 < p) (hq : 0 < q) (h : Bal p q n' d' c) (hc1 : -65 ≤ c) (hc2 : c ≤ 65) (hN : IsStop (lnT n' d' (bits + m)) N) (hN2 : IsStop (lnT 2 1 (bits + m)) N2) :
    LogPr bits p q (bits + m) (lnOf (doneI (lnT n' d' (bits + m)) N) (doneI (lnT 2 1 (bits + m)) N2) c).1 (lnOf (doneI (lnT n' d' (bits + m)) N) (doneI (lnT 2 1 (bits + m)) N2) c).2 := by
  obtain ⟨l, g1, g2⟩ := log_has hp hq h (bits + m) N N2
  obtain ⟨b1, b2, b3⟩ := log_bound h.1 (by omega) hN hN2 65 hc1 hc2
  have hQ : (65 + 1) * (4 * Q (bits + m)) ≤ P 200 * Q m := by
    rw [P200]
    have e : 1024 * Q (bits + m) = Q (10 + (bits + m)) := (Q_add 10 (bits + m)).symm
    have := Q_mono (show 10 + (bits + m) ≤ 3200 + m by omega)
    have := Q_pos (bits + m)
    omega
  refine ⟨⟨l, g1, g2⟩, b1, ?_, ?_, ?_⟩
  · refine Int.le_trans b3 ?_
    have : Q 30 = 1073741824 := rfl
    omega
  · rw [show bits + m - bits = m by omega]; have := b2.1; omega
  · rw [show bits + m - bits = m by omega]; have := b2.2.2.2; omega

set_option maxRecDepth 100000 in
set_option maxHeartbeats 4000000 in
theorem powLog_iv (w : World) (p q : Int) (b : Nat) (hr : rok p q) (K : Nat) (hp : 0 < p) (hb16 : 16 ≤ b) (hb : b ≤ 1000000) (hK : Q (b + 4) < P K) (hK2 : K ≤ 10000000) :
    Calls Try.prog 116 #[.agg #[.int .i64 p, .int .i64 q], .int .i64 b] w (fun r w' => ∃ (n' d' c : Int) (N N2 : Nat), Bal p q n' d' c ∧ -65 ≤ c ∧ c ≤ 65 ∧ IsStop (lnT n' d' b) N ∧ IsStop (lnT 2 1 b) N2 ∧ SpanAns w b (K + 20) (lnOf (doneI (lnT n' d' b) N) (doneI (lnT 2 1 b) N2) c).1 (lnOf (doneI (lnT n' d' b) N) (doneI (lnT 2 1 b) N2) c).2 r w') := by
  obtain ⟨r1, r2, r3, r4⟩ := hr
  obtain ⟨W, hW⟩ : ∃ W, W = (w.alloc (.cells #[.int .i64 p, .int .i64 q] 28)).alloc (.cells #[.bool false, .slice none 0 0, .bool false, .slice none 0 0, .int .i64 0] 26) := ⟨_, rfl⟩
  have hBW : Below w.heap.size w W := by rw [hW]; exact bl2 _ _ _
  have A : RaC W w.heap.size p q := by rw [hW]; exact ⟨by simp [go_sem], by simp [go_sem]⟩
  have R : NoC W (w.heap.size + 1) := by rw [hW]; exact ⟨by simp [go_sem], by simp [go_sem], by simp [go_sem], by simp [go_sem], by simp [go_sem], fun o => by simp [go_sem]⟩
  have lA := A.lt
  have lR := R.lt
  have HK := hide (show ∀ w', Below W.heap.size W w' → (w'.cell? ⟨w.heap.size, 0, none⟩ = some (.int .i64 p) ∧ w'.cell? ⟨w.heap.size, 1, none⟩ = some (.int .i64 q)) from fun w' hB => ⟨(A.below hB).c0, (A.below hB).c1⟩)
  go_enter Try.func116, Try.ntmps116
  go_wp2
  rw [← hW]
  clear hW
  obtain ⟨x0, x1⟩ := unhide HK _ (Below.refl _ _)
  have hD0 : Below W.heap.size W W.drew := (Below.refl _ _).drew
  have n01 : w.heap.size ≠ w.heap.size + 1 := by omega
  have n10 : w.heap.size + 1 ≠ w.heap.size := by omega
  go_region_held3 (fun w' => w'.cell? ⟨w.heap.size, 0, none⟩ = some (.int .i64 p) ∧ w'.cell? ⟨w.heap.size, 1, none⟩ = some (.int .i64 q)) (first | exact unhide HK _ (by first | with_reducible exact hD0 | with_reducible exact hD3 | with_reducible exact hD2 | with_reducible exact hD1) | go_keep)
    (first
      | (go_at_call 141; have hq := hD2; refine (wideLog_iv _ ⟨neg1, a1, n1, c1⟩ ⟨neg2, a2, n2, c2⟩ 4 b K p q (hint1.below hb2) hint2 (by omega) hp (by omega) hb16 hb hK hK2).mono ?_; rintro r' w3 ⟨n', d', cc, N, N2, hBal, hc1, hc2, hN, hN2, u, rfl, hub, hup, hb3⟩; have HBL := hide (And.intro hBal (And.intro hN hN2)); clear hBal hN hN2; have hD3 := bthen hD2 hb3; have HU := hide hub; clear hub; obtain ⟨q0, q1, q2, q3, q4, q5⟩ := R.below hD3; obtain ⟨y0, y1⟩ := unhide HK _ hD3)
      | (go_at_call 62; have hq := hD1; refine (numOf_int q _ (by omega) (by omega)).mono ?_; rintro r' w2 ⟨neg2, a2, n2, c2, rfl, hint2, hb2⟩; have hD2 := bthen hD1 hb2)
      | (go_at_call 62; refine (numOf_int p _ (by omega) (by omega)).mono ?_; rintro r' w1 ⟨neg1, a1, n1, c1, rfl, hint1, hb1⟩; have hD1 := bthen hD0 hb1))
  all_goals
    go_wp2_with fail
    refine bodyPost_ret (v := .agg #[.bool u.ln, .slice u.la u.lN u.lc, .bool u.hn, .slice u.ha u.hN u.hc, .int .i64 u.bits]) (by simp [results, Try.results116, go_sem, q0, q1, q2, q3, q4]) rfl ⟨n', d', cc, N, N2, (unhide HBL).1, by omega, by omega, (unhide HBL).2.1, (unhide HBL).2.2, u, rfl, unhide HU, ?_, ?_⟩
    · exact SpAt.put5 hup q0 q1 q2 q3 q4 _ _ _ _ _
    · exact set5 (bthen hBW hD3) (Nat.le_succ _) _ _ _ _ _

set_option maxRecDepth 100000 in
set_option maxHeartbeats 2000000 in
theorem plog1_iv (w : World) (B0 : Nat) (p q : Int) (b K : Nat) (hr : rok p q) (hp : 0 < p) (hB0 : RaC w B0 p q) (hb16 : 16 ≤ b) (hb : b ≤ 1000000) (hK : Q (b + 4) < P K) (hK2 : K ≤ 10000000) :
    Calls Try.prog 115 #[.int .i64 b, .pointer (some ⟨B0, 0, none⟩)] w (fun r w' => ∃ (n' d' c : Int) (N N2 : Nat), Bal p q n' d' c ∧ -65 ≤ c ∧ c ≤ 65 ∧ IsStop (lnT n' d' b) N ∧ IsStop (lnT 2 1 b) N2 ∧ SpanAns w b (K + 20) (lnOf (doneI (lnT n' d' b) N) (doneI (lnT 2 1 b) N2) c).1 (lnOf (doneI (lnT n' d' b) N) (doneI (lnT 2 1 b) N2) c).2 r w') := by
  have l0 := hB0.lt
  obtain ⟨y0, y1⟩ := hB0
  have R := noc_new w 26
  have HR := hide hr
  clear hr
  go_enter Try.func115, Try.ntmps115
  go_wp2_with fail
  refine (powLog_iv _ p q b (unhide HR) K hp hb16 hb hK hK2).mono ?_
  rintro r' w1 ⟨n', d', cc, N, N2, hBal, hc1, hc2, hN, hN2, u, rfl, hub, hup, hb1⟩
  have HBL := hide (And.intro hBal (And.intro hN hN2))
  obtain ⟨q0, q1, q2, q3, q4, q5⟩ := R.below hb1
  have hBW : Below w.heap.size w w1 := bthen (bl1 _ _) hb1
  have HU := hide hub
  clear hub y0 y1 hb1 hBal hN hN2
  go_wp2_with fail
  refine bodyPost_ret (v := .agg #[.bool u.ln, .slice u.la u.lN u.lc, .bool u.hn, .slice u.ha u.hN u.hc, .int .i64 u.bits]) (by simp [results, Try.results115, go_sem, q0, q1, q2, q3, q4]) rfl ⟨n', d', cc, N, N2, (unhide HBL).1, hc1, hc2, (unhide HBL).2.1, (unhide HBL).2.2, u, rfl, unhide HU, ?_, ?_⟩
  · exact SpAt.put5 hup q0 q1 q2 q3 q4 _ _ _ _ _
  · exact set5 hBW (Nat.le_refl _) _ _ _ _ _

set_option maxRecDepth 100000 in
set_option maxHeartbeats 4000000 in
theorem sure_plog (p1 : Value) (bits Kw KD : Nat) (Pr : Nat → Int → Int → Prop) (W : World) (hb : bits ≤ 120) (hKw : Kw ≤ 900000) (hKD : KD ≤ 100000000) (hE : SureEnds bits Kw Pr)
    (hF : ∀ (m : Nat) w', 32 ≤ m → m ≤ Kw + 120 → Below W.heap.size W w' → Calls Try.prog 115 #[.int .i64 ((bits : Int) + m), p1] w' (fun r w'' => ∃ lo hi, Pr (bits + m) lo hi ∧ SpanAns w' ((bits : Int) + m) KD lo hi r w'')) :
    Calls Try.prog 109 #[.int .i64 bits, .func (.func 115) #[] #[p1]] W (fun r w' => ∃ L H, SureOf bits Pr L H ∧ SpanAns W bits 250 L H r w') := by
  have HF := hide hF
  have HE := hide hE
  clear hF hE
  have hR0 := noc_new W 26
  go_enter Try.func109, Try.ntmps109
  go_wp2_with fail
  go_loopw [5, 6] (fun mm tt wr => ∃ m t : Nat, mm = .int .i64 (m : Int) ∧ tt = .int .i64 (t : Int) ∧ SureInv Kw m t ∧ NoC wr W.heap.size ∧ Below W.heap.size W wr) (fun mm _ _ => Kw + 200 - (intOf mm).toNat)
  case atStart => exact ⟨32, 1, rfl, rfl, ⟨Nat.le_refl _, Nat.le_refl _, by omega, Or.inl ⟨by omega, by omega⟩⟩, hR0, bl1 _ _⟩
  case round =>
    obtain ⟨m, t, rfl, rfl, hinv, R, hB⟩ := hrel
    obtain ⟨hm, ht, htm, hmt⟩ := hinv
    have hmK : m ≤ Kw + 120 := by omega
    have HI := hide hmt
    clear hmt
    go_wp2_with fail
    refine (unhide HF m _ hm hmK hB).mono ?_
    rintro r w1 ⟨lo, hi, hPr, s, rfl, hsb, hsp, hb1⟩
    replace R := R.below hb1
    replace hB := bthen hB hb1
    clear hb1
    obtain ⟨e1, e2, e3, e4⟩ := unhide HE m lo hi hPr
    obtain ⟨v1, v2, v3⟩ := to_width (m := m) e1 e2
    obtain ⟨f1, f2⟩ := to_fit e3 e4
    have HPr := hide hPr
    have HV := hide (And.intro v2 v3)
    have hs0 : 0 ≤ s.bits := by omega
    have hs1 : s.bits ≤ 1000000 := by omega
    have d1 : downZ lo (s.bits - bits) = lo / Q m := by unfold downZ; rw [hsb, if_pos (by omega)]; congr 2; omega
    have d2 : downZ (-hi) (s.bits - bits) = -hi / Q m := by unfold downZ; rw [hsb, if_pos (by omega)]; congr 2; omega
    have HD1 := hide d1
    have HD2 := hide d2
    clear hPr e1 e2 e3 e4 v2 v3 d1 d2 hsb
    go_wp2_with fail
    refine (wideTo_int _ s KD bits lo hi hsp (by omega) hs0 hs1 (by omega) (by omega)).mono ?_
    rintro r w2 ⟨u, rfl, hub, hup, hb2⟩
    rw [unhide HD1, unhide HD2] at hup
    obtain ⟨L, hL⟩ : ∃ L, L = lo / Q m := ⟨_, rfl⟩
    obtain ⟨H, hH⟩ : ∃ H, H = -(-hi / Q m) := ⟨_, rfl⟩
    rw [← hL, ← hH] at hup v1
    rw [← hL] at f1
    rw [← hH] at f2
    have HV2 := hide (show (Kw ≤ m → H - L ≤ 2) ∧ (m ≤ Kw → H - L ≤ Q (Kw - m) + 1) by rw [hL, hH]; exact unhide HV)
    have HL := hide hL
    have HH := hide hH
    replace hup := hup.fits (K := 250) (by omega) f1 f2
    replace R := R.below hb2
    replace hB := bthen hB hb2
    have HUB := hide hub
    clear hb2 hL hH hub hs0 hs1 HD1 HD2 HV hsp
    have lR := R.lt
    obtain ⟨V, hV⟩ : ∃ V, V = w2.alloc (.cells #[.bool u.ln, .slice u.la u.lN u.lc, .bool u.hn, .slice u.ha u.hN u.hc, .int .i64 u.bits] 26) := ⟨_, rfl⟩
    have bV : Below w2.heap.size w2 V := by rw [hV]; exact bl1 _ _
    have U : SpC V w2.heap.size u := by rw [hV]; exact ⟨by simp, by simp, by simp, by simp, by simp⟩
    replace R := R.below bV
    replace hB := bthen hB bV
    replace hup := hup.below bV
    clear bV
    go_wp2_with fail
    rw [← hV]
    clear hV
    refine (sub_int _ _ _ _ _ _ _ _ 250 250 H L _ hup.hi hup.lo (by omega) (by omega)).mono ?_
    rintro r w3 ⟨neg3, a3, n3, c3, rfl, hint3, hb3⟩
    replace U := U.below hb3
    replace R := R.below hb3
    replace hB := bthen hB hb3
    replace hup := hup.below hb3
    clear hb3
    go_wp2_with fail
    refine (len_int _ _ _ _ _ (H - L) _ hint3 v1).mono ?_
    rintro r w4 ⟨l, hlen, rfl, hb4⟩
    replace U := U.below hb4
    replace R := R.below hb4
    replace hB := bthen hB hb4
    replace hup := hup.below hb4
    clear hb4 hint3
    have hlb : 0 ≤ l ∧ l ≤ Kw + 2 ∧ (m ≤ Kw → l ≤ Kw - m + 2) ∧ (Kw ≤ m → l ≤ 2) := by
      obtain ⟨g1, g2⟩ := unhide HV2
      refine ⟨hlen.1, ?_, fun h => ?_, fun h => ?_⟩
      · rcases Nat.le_total m Kw with h | h
        · have := len_bd (K := Kw - m) hlen (g2 h) v1; omega
        · have := len_two hlen (g1 h) v1; omega
      · have := len_bd (K := Kw - m) hlen (g2 h) v1; omega
      · exact len_two hlen (g1 h) v1
    obtain ⟨hl0, hl1, hl2, hl3⟩ := hlb
    have HL2 := hide (And.intro hl2 hl3)
    have HLen := hide hlen
    clear hl2 hl3 hlen
    have lU := U.lt
    have lR2 := R.lt
    have nRU : W.heap.size ≠ w2.heap.size := by omega
    have nRU' : w2.heap.size ≠ W.heap.size := by omega
    have HU := hide U
    obtain ⟨x0, x1, x2, x3, x4⟩ := U
    by_cases hc : l ≤ 1
    · have hN := R
      obtain ⟨q0, q1, q2, q3, q4, q5⟩ := R
      have Hc := hide hc
      go_wp2_with fail
      refine bodyPost_ret (v := .agg #[.bool u.ln, .slice u.la u.lN u.lc, .bool u.hn, .slice u.ha u.hN u.hc, .int .i64 u.bits]) (by simp [results, Try.results109, go_sem, q0, q1, q2, q3, q4]) rfl ⟨L, H, ⟨m, lo, hi, unhide HPr, hm, unhide HL, unhide HH, Or.inl (len_one (unhide HLen) (unhide Hc) v1)⟩, u, rfl, unhide HUB, ?_, ?_⟩
      · exact SpAt.put5 hup q0 q1 q2 q3 q4 _ _ _ _ _
      · exact set5 hB (Nat.le_refl _) _ _ _ _ _
    · by_cases ht3 : 3 ≤ t
      · have ht3' : (3 : Int) ≤ (t : Int) := by omega
        cases hn : narB L H (Q bits) 4
        · have hmK2 : m < Kw := by
            refine Nat.lt_of_not_le fun h => ?_
            have h5 := (unhide HV2).1 h
            rw [narB_small (by omega) (by omega)] at hn
            cases hn
          go_wp2_with fail
          refine (narrow_int _ u bits 4 L H hup (unhide HUB) hb (by omega)).mono ?_
          rintro r w5 ⟨rfl, hb5⟩
          rw [show narB L H (Q bits) ((4 : Nat) : Int) = false from hn]
          replace R := R.below hb5
          replace hB := bthen hB hb5
          go_wp2_with fail
          go_roundw
          case rel => exact ⟨m + l.toNat + 32, t + 1, by congr 1; omega, by congr 1, ⟨by omega, by omega, by omega, Or.inr (by have := (unhide HL2).1; omega)⟩, R, hB⟩
          case measure => simp [intOf]; omega
        · go_wp2_with fail
          refine (narrow_int _ u bits 4 L H hup (unhide HUB) hb (by omega)).mono ?_
          rintro r w5 ⟨rfl, hb5⟩
          rw [show narB L H (Q bits) ((4 : Nat) : Int) = true from hn]
          replace R := R.below hb5
          replace hB := bthen hB hb5
          replace hup := hup.below hb5
          obtain ⟨y0, y1, y2, y3, y4⟩ := (unhide HU).below hb5
          obtain ⟨q0, q1, q2, q3, q4, q5⟩ := R
          have lU2 := Nat.lt_of_lt_of_le lU hb5.size
          have lR3 := Nat.lt_of_lt_of_le lR2 hb5.size
          clear hb5 x0 x1 x2 x3 x4
          go_wp2_with fail
          refine bodyPost_ret (v := .agg #[.bool u.ln, .slice u.la u.lN u.lc, .bool u.hn, .slice u.ha u.hN u.hc, .int .i64 u.bits]) (by simp [results, Try.results109, go_sem, q0, q1, q2, q3, q4]) rfl ⟨L, H, ⟨m, lo, hi, unhide HPr, hm, unhide HL, unhide HH, Or.inr hn⟩, u, rfl, unhide HUB, ?_, ?_⟩
          · exact SpAt.put5 hup q0 q1 q2 q3 q4 _ _ _ _ _
          · exact set5 hB (Nat.le_refl _) _ _ _ _ _
      · have ht3' : ¬ (3 : Int) ≤ (t : Int) := by omega
        go_wp2_with fail
        go_roundw
        case rel => exact ⟨m + l.toNat + 32, t + 1, by congr 1; omega, by congr 1, ⟨by omega, by omega, by omega, by
          have g1 := (unhide HL2).1
          have g2 := (unhide HL2).2
          have g3 := unhide HI
          rcases Nat.le_total m Kw with h | h
          · have := g1 h; exact Or.inr (by omega)
          · have := g2 h; exact Or.inl ⟨by omega, by omega⟩⟩, R, hB⟩
        case measure => simp [intOf]; omega

set_option maxRecDepth 100000 in
set_option maxHeartbeats 2000000 in
theorem powerLog_ok (p q : Int) (b : Nat) (w : World) (hr : rok p q) (h5 : 8 ≤ b) (h6 : b ≤ 120) (hp : 0 < p) :
    Calls Try.prog 60 #[.agg #[.int .i64 p, .int .i64 q], .int .i64 b] w (fun r w' => ∃ L H, SureOf b (LogPr b p q) L H ∧ PairAns w b 250 L H 0 r w') := by
  have d1 : ratE p q b = 0 := by unfold ratE; rw [if_pos]; exact ⟨hr, by omega, by omega⟩
  have hq : 0 < q := by have := hr.2.2.1; omega
  have HR := hide hr
  obtain ⟨r1, r2, r3, r4⟩ := hr
  have hp' : ¬ p ≤ 0 := by omega
  go_enter Try.func60, Try.ntmps60
  go_wp2_with (go_at_call 70; refine (ratioFault1 _ _ _ (by simp) _ _ _ _).mono ?_; rintro r w1 ⟨rfl, hb1⟩; rw [d1]; obtain ⟨hsz1, hcell1, hfz1⟩ := near (w.heap.size + 1 + 1) (by simp) hb1)
  have A : RaC w1 w.heap.size p q := ⟨by simp [hcell1, go_sem], by simp [hcell1, go_sem]⟩
  have R : NoC w1 (w.heap.size + 1) := ⟨by simp [hcell1, go_sem], by simp [hcell1, go_sem], by simp [hcell1, go_sem], by simp [hcell1, go_sem], by simp [hcell1, go_sem], fun o => by simp [hfz1, go_sem]⟩
  have hBw : Below w.heap.size w w1 := bthen (bl2 _ _ _) hb1
  clear hcell1 hfz1 hb1
  have lA := A.lt
  have lR := R.lt
  obtain ⟨x0, x1⟩ := A
  go_wp2_with fail
  refine (sure_plog _ b 30 100 (LogPr b p q) _ h6 (by omega) (by omega) (log_ends _ _ _) (fun m w' hm hm2 hbw => ?_)).mono ?_
  · have eB : ((b : Int) + (m : Int)) = ((b + m : Nat) : Int) := by omega
    rw [eB]
    refine (plog1_iv w' w.heap.size p q (b + m) 80 (unhide HR) hp (RaC.below ⟨x0, x1⟩ hbw) (by omega) (by omega) ?_ (by omega)).mono ?_
    · rw [← Q_P]
      have h1 := Q_mono (show b + m + 4 + 1 ≤ 16 * 80 by omega)
      have h2 : Q (b + m + 4 + 1) = 2 * Q (b + m + 4) := rfl
      have := Q_pos (b + m + 4)
      omega
    · rintro r' w'' ⟨n', d', cc, N, N2, hBal, hc1, hc2, hN, hN2, h⟩
      exact ⟨_, _, log_pr h6 hm (by omega) hp hq hBal hc1 hc2 hN hN2, h⟩
  rintro r' w3 ⟨L, H, hLH, u, rfl, hub, hup, hb3⟩
  obtain ⟨q0, q1, q2, q3, q4, q5⟩ := R.below hb3
  replace hBw := bthen hBw hb3
  have HU := hide hub
  have HLH := hide hLH
  clear hub hLH
  go_wp2_with fail
  refine bodyPost_ret (v := .tuple #[.agg #[.bool u.ln, .slice u.la u.lN u.lc, .bool u.hn, .slice u.ha u.hN u.hc, .int .i64 u.bits], .int .i64 0]) (by simp [results, Try.results60, go_sem, q0, q1, q2, q3, q4]) rfl ⟨L, H, unhide HLH, u, rfl, unhide HU, ?_, ?_⟩
  · exact SpAt.put5 hup q0 q1 q2 q3 q4 _ _ _ _ _
  · exact set5 hBw (Nat.le_succ _) _ _ _ _ _

end Go.Proofs.Ytgmnknmjainabaa

namespace Go.Proofs.Ytgmnknmjainabaa
set_option linter.unusedVariables false
set_option linter.unusedSimpArgs false
set_option linter.unnecessarySimpa false
open Go.RowKit
attribute [local go_sem ↓] Go.wp_at_zero Go.wp_at_succ

theorem cell_put2 {w : World} {B B' o : Nat} {v : Option Value} (h : w.cell? ⟨B, o, none⟩ = v) (hne : B ≠ B') (u0 u1 : Value) : ((w.setCell ⟨B', 0, none⟩ u0).setCell ⟨B', 1, none⟩ u1).cell? ⟨B, o, none⟩ = v := by
  have ne : ∀ i : Nat, (⟨B', i, none⟩ : Addr) ≠ ⟨B, o, none⟩ := fun i e => hne (by injection e with e1; exact e1.symm)
  rw [World.cell?_setCell_other _ _ _ _ (ne 1), World.cell?_setCell_other _ _ _ _ (ne 0)]
  exact h
theorem cell_put5' {w : World} {B B' o : Nat} {v : Option Value} (h : w.cell? ⟨B, o, none⟩ = v) (hne : B ≠ B') (u0 u1 u2 u3 u4 : Value) :
    (((((w.setCell ⟨B', 0, none⟩ u0).setCell ⟨B', 1, none⟩ u1).setCell ⟨B', 2, none⟩ u2).setCell ⟨B', 3, none⟩ u3).setCell ⟨B', 4, none⟩ u4).cell? ⟨B, o, none⟩ = v := by
  have ne : ∀ i : Nat, (⟨B', i, none⟩ : Addr) ≠ ⟨B, o, none⟩ := fun i e => hne (by injection e with e1; exact e1.symm)
  rw [World.cell?_setCell_other _ _ _ _ (ne 4), World.cell?_setCell_other _ _ _ _ (ne 3), World.cell?_setCell_other _ _ _ _ (ne 2), World.cell?_setCell_other _ _ _ _ (ne 1), World.cell?_setCell_other _ _ _ _ (ne 0)]
  exact h
theorem SpC.put2 {w : World} {B B' : Nat} {s : Sp} (h : SpC w B s) (hne : B ≠ B') (u0 u1 : Value) : SpC ((w.setCell ⟨B', 0, none⟩ u0).setCell ⟨B', 1, none⟩ u1) B s :=
  ⟨cell_put2 h.c0 hne _ _, cell_put2 h.c1 hne _ _, cell_put2 h.c2 hne _ _, cell_put2 h.c3 hne _ _, cell_put2 h.c4 hne _ _⟩
theorem NmC.put2 {w : World} {B B' : Nat} {x : Nm} (h : NmC w B x) (hne : B ≠ B') (u0 u1 : Value) : NmC ((w.setCell ⟨B', 0, none⟩ u0).setCell ⟨B', 1, none⟩ u1) B x :=
  ⟨cell_put2 h.c0 hne _ _, cell_put2 h.c1 hne _ _⟩
theorem NoC.put2 {w : World} {B B' : Nat} (h : NoC w B) (hne : B ≠ B') (u0 u1 : Value) : NoC ((w.setCell ⟨B', 0, none⟩ u0).setCell ⟨B', 1, none⟩ u1) B := by
  obtain ⟨q0, q1, q2, q3, q4, q5⟩ := h
  exact ⟨cell_put2 q0 hne _ _, cell_put2 q1 hne _ _, cell_put2 q2 hne _ _, cell_put2 q3 hne _ _, cell_put2 q4 hne _ _, fun o => by rw [frozen_set', frozen_set']; exact q5 o⟩
theorem SpAt.put2 {w : World} {s : Sp} {k : Nat} {lo hi : Int} (h : SpAt w s k lo hi) {B : Nat} {x0 : Bool} {y0 : Option Addr} {y1 y2 : Nat} (h0 : w.cell? ⟨B, 0, none⟩ = some (.bool x0)) (h1 : w.cell? ⟨B, 1, none⟩ = some (.slice y0 y1 y2)) (u0 u1 : Value) :
    SpAt ((w.setCell ⟨B, 0, none⟩ u0).setCell ⟨B, 1, none⟩ u1) s k lo hi := ⟨h.lo.put2 h0 h1 _ _, h.hi.put2 h0 h1 _ _⟩
end Go.Proofs.Ytgmnknmjainabaa

namespace Go.Proofs.Ytgmnknmjainabaa
set_option linter.unusedVariables false
set_option linter.unusedSimpArgs false
set_option linter.unnecessarySimpa false
open Go.RowKit

theorem noi_new' (w : World) (B : Nat) (hB : w.heap.size = B) (T : TypeId) : NoI (w.alloc (.cells #[.bool false, .slice none 0 0] T)) B := by subst hB; exact noi_new w T
theorem hs1 (w : World) (o1 : Obj) : (w.alloc o1).heap.size = w.heap.size + 1 := by simp
/-- Two variables that were made behind world W. -/
def TwoV (W wx : World) (k1 k2 : Nat) (z1 z2 : Int) (p q : Value) : Prop :=
  VarAt wx p W.heap.size k1 z1 ∧ VarAt wx q W.heap.size k2 z2 ∧ p ≠ q ∧ FzP wx p ∧ FzP wx q ∧ Below W.heap.size W wx

theorem put_nm {w : World} {B : Nat} (h : NoI w B) (x : Nm) : NmC ((w.setCell ⟨B, 0, none⟩ (.bool x.neg)).setCell ⟨B, 1, none⟩ (.slice x.a x.n x.cap)) B x := by
  obtain ⟨q0, q1, q2⟩ := h
  constructor <;> simp [go_sem, q0, q1]
theorem put_fz {w : World} {B B' : Nat} (h : ∀ o, w.frozen? ⟨B, o, none⟩ = false) (u0 u1 : Value) : ∀ o, ((w.setCell ⟨B', 0, none⟩ u0).setCell ⟨B', 1, none⟩ u1).frozen? ⟨B, o, none⟩ = false := fun o => by rw [frozen_set', frozen_set']; exact h o
theorem nepp {B B' : Nat} (h : B ≠ B') : (Value.pointer (some ⟨B, 0, none⟩)) ≠ .pointer (some ⟨B', 0, none⟩) := by intro e; injection e with e1; injection e1 with e2; injection e2 with e3; exact h e3

theorem two_mk {W wx : World} {k1 k2 : Nat} {z1 z2 : Int} {B B' : Nat} {x y : Nm} (hx : NmC wx B x) (hy : NmC wx B' y) (ix : IntAt wx x.neg x.a x.n x.cap k1 z1) (iy : IntAt wx y.neg y.a y.n y.cap k2 z2) (h1 : W.heap.size ≤ B) (h2 : W.heap.size ≤ B') (hne : B ≠ B') (f1 : ∀ o, wx.frozen? ⟨B, o, none⟩ = false) (f2 : ∀ o, wx.frozen? ⟨B', o, none⟩ = false) (hb : Below W.heap.size W wx) :
    TwoV W wx k1 k2 z1 z2 (.pointer (some ⟨B, 0, none⟩)) (.pointer (some ⟨B', 0, none⟩)) :=
  ⟨⟨B, x, rfl, hx.c0, hx.c1, ix, h1, hx.lt⟩, ⟨B', y, rfl, hy.c0, hy.c1, iy, h2, hy.lt⟩, nepp hne, fun C hC o => (by cases hC; exact f1 o), fun C hC o => (by cases hC; exact f2 o), hb⟩

variable {W w2 : World} {k1 k2 : Nat} {z1 z2 : Int} {x y : Nm} {T : TypeId}
theorem two_aa (hb : Below W.heap.size W w2) (ix : IntAt w2 x.neg x.a x.n x.cap k1 z1) (iy : IntAt w2 y.neg y.a y.n y.cap k2 z2) :
    TwoV W ((w2.alloc (.cells #[.bool x.neg, .slice x.a x.n x.cap] T)).alloc (.cells #[.bool y.neg, .slice y.a y.n y.cap] T)) k1 k2 z1 z2 (.pointer (some ⟨w2.heap.size, 0, none⟩)) (.pointer (some ⟨w2.heap.size + 1, 0, none⟩)) :=
  two_mk (x := x) (y := y) ⟨by simp [go_sem], by simp [go_sem]⟩ ⟨by simp [go_sem], by simp [go_sem]⟩ (ix.below (bl2 _ _ _)) (iy.below (bl2 _ _ _)) hb.size (Nat.le_succ_of_le hb.size) (Nat.ne_of_lt (Nat.lt_succ_self _)) (fun o => by simp [go_sem]) (fun o => by simp [go_sem]) (bthen hb (bl2 _ _ _))
theorem two_aa' (hb : Below W.heap.size W w2) (ix : IntAt w2 x.neg x.a x.n x.cap k1 z1) (iy : IntAt w2 y.neg y.a y.n y.cap k2 z2) :
    TwoV W ((w2.alloc (.cells #[.bool y.neg, .slice y.a y.n y.cap] T)).alloc (.cells #[.bool x.neg, .slice x.a x.n x.cap] T)) k1 k2 z1 z2 (.pointer (some ⟨w2.heap.size + 1, 0, none⟩)) (.pointer (some ⟨w2.heap.size, 0, none⟩)) :=
  two_mk (x := x) (y := y) ⟨by simp [go_sem], by simp [go_sem]⟩ ⟨by simp [go_sem], by simp [go_sem]⟩ (ix.below (bl2 _ _ _)) (iy.below (bl2 _ _ _)) (Nat.le_succ_of_le hb.size) hb.size (Nat.ne_of_gt (Nat.lt_succ_self _)) (fun o => by simp [go_sem]) (fun o => by simp [go_sem]) (bthen hb (bl2 _ _ _))
theorem two_sa {B : Nat} (hb : Below W.heap.size W w2) (ix : IntAt w2 x.neg x.a x.n x.cap k1 z1) (iy : IntAt w2 y.neg y.a y.n y.cap k2 z2) (g : NoI w2 B) (h1 : W.heap.size ≤ B) :
    TwoV W (((w2.setCell ⟨B, 0, none⟩ (.bool x.neg)).setCell ⟨B, 1, none⟩ (.slice x.a x.n x.cap)).alloc (.cells #[.bool y.neg, .slice y.a y.n y.cap] T)) k1 k2 z1 z2 (.pointer (some ⟨B, 0, none⟩)) (.pointer (some ⟨w2.heap.size, 0, none⟩)) := by
  have hx := put_nm g x
  have ix' := ix.put2 g.c0 g.c1 (.bool x.neg) (.slice x.a x.n x.cap)
  have iy' := iy.put2 g.c0 g.c1 (.bool x.neg) (.slice x.a x.n x.cap)
  have hl := g.lt
  have hs : w2.heap.size = ((w2.setCell ⟨B, 0, none⟩ (.bool x.neg)).setCell ⟨B, 1, none⟩ (.slice x.a x.n x.cap)).heap.size := by simp [World.setCell]
  have hf := put_fz (B' := B) (fun o => g.fz o) (.bool x.neg) (.slice x.a x.n x.cap)
  have hb' := set2 hb h1 (.bool x.neg) (.slice x.a x.n x.cap)
  generalize ((w2.setCell ⟨B, 0, none⟩ (.bool x.neg)).setCell ⟨B, 1, none⟩ (.slice x.a x.n x.cap)) = V at *
  rw [hs]
  exact two_mk (x := x) (y := y) (hx.below (bl1 _ _)) ⟨by simp [go_sem], by simp [go_sem]⟩ (ix'.below (bl1 _ _)) (iy'.below (bl1 _ _)) h1 hb'.size (by omega) (fun o => ((bl1 V _).frozen (p := ⟨B, o, none⟩) (show B < V.heap.size by omega)).trans (hf o)) (fun o => by simp [go_sem]) (bthen hb' (bl1 _ _))
theorem two_as {B : Nat} (hb : Below W.heap.size W w2) (ix : IntAt w2 x.neg x.a x.n x.cap k1 z1) (iy : IntAt w2 y.neg y.a y.n y.cap k2 z2) (g : NoI w2 B) (h1 : W.heap.size ≤ B) :
    TwoV W (((w2.setCell ⟨B, 0, none⟩ (.bool y.neg)).setCell ⟨B, 1, none⟩ (.slice y.a y.n y.cap)).alloc (.cells #[.bool x.neg, .slice x.a x.n x.cap] T)) k1 k2 z1 z2 (.pointer (some ⟨w2.heap.size, 0, none⟩)) (.pointer (some ⟨B, 0, none⟩)) := by
  obtain ⟨a1, a2, a3, a4, a5, a6⟩ := two_sa (T := T) hb iy ix g h1
  exact ⟨a2, a1, fun e => a3 e.symm, a5, a4, a6⟩
theorem two_ss {B B' : Nat} (hb : Below W.heap.size W w2) (ix : IntAt w2 x.neg x.a x.n x.cap k1 z1) (iy : IntAt w2 y.neg y.a y.n y.cap k2 z2) (g : NoI w2 B) (g' : NoI w2 B') (h1 : W.heap.size ≤ B) (h2 : W.heap.size ≤ B') (hne : B ≠ B') :
    TwoV W ((((w2.setCell ⟨B, 0, none⟩ (.bool x.neg)).setCell ⟨B, 1, none⟩ (.slice x.a x.n x.cap)).setCell ⟨B', 0, none⟩ (.bool y.neg)).setCell ⟨B', 1, none⟩ (.slice y.a y.n y.cap)) k1 k2 z1 z2 (.pointer (some ⟨B, 0, none⟩)) (.pointer (some ⟨B', 0, none⟩)) := by
  have hx := put_nm g x
  have ix' := ix.put2 g.c0 g.c1 (.bool x.neg) (.slice x.a x.n x.cap)
  have iy' := iy.put2 g.c0 g.c1 (.bool x.neg) (.slice x.a x.n x.cap)
  have hf := put_fz (B' := B) (fun o => g.fz o) (.bool x.neg) (.slice x.a x.n x.cap)
  have hf' := put_fz (B' := B) (fun o => g'.fz o) (.bool x.neg) (.slice x.a x.n x.cap)
  have hb' := set2 hb h1 (.bool x.neg) (.slice x.a x.n x.cap)
  have q0 := cell_put2 g'.c0 (fun e => hne e.symm) (.bool x.neg) (.slice x.a x.n x.cap)
  have q1 := cell_put2 g'.c1 (fun e => hne e.symm) (.bool x.neg) (.slice x.a x.n x.cap)
  generalize ((w2.setCell ⟨B, 0, none⟩ (.bool x.neg)).setCell ⟨B, 1, none⟩ (.slice x.a x.n x.cap)) = V at *
  have g2 : NoI V B' := ⟨q0, q1, hf'⟩
  exact two_mk (x := x) (y := y) (hx.put2 hne _ _) (put_nm g2 y) (ix'.put2 q0 q1 _ _) (iy'.put2 q0 q1 _ _) h1 h2 hne (put_fz hf _ _) (put_fz hf' _ _) (set2 hb' h2 _ _)
end Go.Proofs.Ytgmnknmjainabaa
