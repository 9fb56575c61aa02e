/-
  Texts Bpd, Lwg, Gmg, Pwx, Pwy, Pwp, Gmi, Upa: what they hold is told in the last text.
-/
import Derived.Test.YtgmnknmjainababK20
set_option linter.unnecessarySimpa false
set_option linter.unusedSimpArgs false
set_option linter.unusedVariables false
namespace Go.Proofs.Ytgmnknmjainabab
open Go.RowKit
attribute [local go_sem ↓] Go.wp_at_zero Go.wp_at_succ
open Ex
set_option maxRecDepth 100000 in
set_option maxHeartbeats 8000000 in
theorem part_near (L : Rat → Nat → Rat) (hL : Lns L) (w : World) (x y : Nm) (p q r s n d : Int) (b : Nat) (X1 X2 X3 : Nat → Rat) (hx : IntAt w x.neg x.a x.n x.cap 4 n) (hy : IntAt w y.neg y.a y.n y.cap 4 d) (h : BpIn p q r s n d b) (hX : IsLog (fun M => X1 M + X2 M - X3 M) (bJ L ((p : Rat) / (q : Rat)) ((r : Rat) / (s : Rat)))) (L1 : LgIs2 p q b X1) (L2 : LgIs2 r s b X2) (L3 : LgIs2 (p * s + r * q) (q * s) b X3) :
    Calls Try.prog 76 #[.agg #[.bool x.neg, .slice x.a x.n x.cap], .agg #[.bool y.neg, .slice y.a y.n y.cap], .agg #[.int .i64 p, .int .i64 q], .agg #[.int .i64 r, .int .i64 s], .int .i64 b] w (fun z w' => ∃ lo hi, LwPr (bv L ((p : Rat) / (q : Rat)) ((r : Rat) / (s : Rat)) ((n : Rat) / (d : Rat))) b lo hi ∧ SpanAns w b 30 lo hi z w') := by
  obtain ⟨W, hW⟩ : ∃ W, W = ((((w.alloc (.cells #[.bool x.neg, .slice x.a x.n x.cap] 26)).alloc (.cells #[.bool y.neg, .slice y.a y.n y.cap] 26)).alloc (.cells #[.int .i64 p, .int .i64 q] 23)).alloc (.cells #[.int .i64 r, .int .i64 s] 23)).alloc (.cells #[.bool false, .slice none 0 0, .bool false, .slice none 0 0, .int .i64 0] 28) := ⟨_, rfl⟩
  have hBW : Below w.heap.size w W := by rw [hW]; exact bl5 _ _ _ _ _ _
  have X0 : NmC W (w.heap.size) x := by rw [hW]; exact ⟨by simp [go_sem], by simp [go_sem]⟩
  have Y0 : NmC W (w.heap.size + 1) y := by rw [hW]; exact ⟨by simp [go_sem], by simp [go_sem]⟩
  have A : RaC W (w.heap.size + 1 + 1) p q := by rw [hW]; exact ⟨by simp [go_sem], by simp [go_sem]⟩
  have D : RaC W (w.heap.size + 1 + 1 + 1) r s := by rw [hW]; exact ⟨by simp [go_sem], by simp [go_sem]⟩
  have R : NoC W (w.heap.size + 1 + 1 + 1 + 1) := by rw [hW]; exact ⟨by simp [go_sem], by simp [go_sem], by simp [go_sem], by simp [go_sem], by simp [go_sem], fun o => by simp [go_sem]⟩
  have HX := hide (hx.below hBW)
  have HY := hide (hy.below hBW)
  have fX0 := X0.c0
  have fX1 := X0.c1
  have fY0 := Y0.c0
  have fY1 := Y0.c1
  clear hx hy
  have p0' := h.p0
  have q0' := h.q0
  have r0' := h.r0
  have s0' := h.s0
  have n0' := h.n0
  have nd := h.nd
  have dd := h.dd
  have b0 := h.b0
  have b1 := h.b1
  have qq := h.qq
  have ss := h.ss
  have pb : p ≤ 204800 := by have := h.pq; omega
  have rb : r ≤ 204800 := by have := h.rs; omega
  have HPL := hide (show -P 4 < d - n ∧ d - n < P 4 by
    have : P 4 = 18446744073709551616 := rfl
    exact ⟨by omega, by omega⟩)
  obtain ⟨c, hc, hc2⟩ : ∃ c : Int, cmpInt n (d - n) = c ∧ c ≤ 0 := ⟨_, rfl, by unfold cmpInt; split <;> (try split) <;> omega⟩
  have HC := hide hc
  have HC0 := hide (show cmpInt n 0 = 1 by unfold cmpInt; rw [if_neg (by omega), if_pos (by omega)])
  have H := hide h
  have HL := hide hL
  have HXX := hide hX
  have HG1 := hide L1
  have HG2 := hide L2
  have HG3 := hide L3
  obtain ⟨NS, hNS, hNS2⟩ := pu_set h
  have PK : Q 1621 < P 103 := by
    rw [← Q_P]
    have h1 := Q_mono (show 1621 + 1 ≤ 16 * 103 by omega)
    have g2 : ∀ j, Q (j + 1) = 2 * Q j := fun _ => rfl
    rw [g2] at h1
    have := Q_pos 1621
    generalize Q 1621 = z at *
    omega
  have HQB := hide (show -P 103 < Q b ∧ Q b < P 103 by
    have := Q_pos b
    have := Q_mono (show b ≤ 1621 by omega)
    have := P_pos 103
    exact ⟨by omega, by omega⟩)
  have HTF := hide (show ∀ j, j ≤ NS → -P 103 < (puT p q r s n d b j).1 ∧ (puT p q r s n d b j).2 < P 103 from fun j _ => by
    have e : 0 ≤ (puT p q r s n d b j).1 := (se_each (pu_ok h) j).1
    have u := pu_hi h j
    have := P_pos 103
    exact ⟨by omega, by omega⟩)
  have HTS := hide (show ∀ j, j ≤ NS → -P 103 < (sumI (puT p q r s n d b) j).1 ∧ (sumI (puT p q r s n d b) j).2 < P 103 from fun j hj => by
    have u := pu_fit h j (by omega)
    have l : Q b ≤ (sumI (puT p q r s n d b) j).1 := (se_wideS (pu_ok h) j).2.2
    have := Q_pos b
    have := P_pos 103
    exact ⟨by omega, by omega⟩)
  have HTL := hide (fun j => show (puT p q r s n d b j).1 ≤ (puT p q r s n d b j).2 from (se_each (pu_ok h) j).2)
  have HT0 := hide (fun j => show 0 ≤ (puT p q r s n d b j).1 from (se_each (pu_ok h) j).1)
  have HM := hide hNS2
  have hTN := (pu_n h).2
  have e2r := (pu_n h).1
  have HE1 := hide (show IntKind.i64.wrap (2 * r) = 2 * r from i64_id _ (by omega) (by omega))
  have tdv : (2 * r).tdiv s = (puN r s : Int) := by rw [e2r]; exact Int.tdiv_eq_ediv_of_nonneg (by omega)
  have HE2 := hide (show (2 * r).tdiv s = (puN r s : Int) from tdv)
  have HE3 := hide (show IntKind.i64.wrap (puN r s : Int) = (puN r s : Int) from i64_id _ (by omega) (by omega))
  have HST := hide (show ∀ j : Nat, j < NS → (0 ≤ ((j : Int) + 1 - 1) * (q * s) ∧ ((j : Int) + 1 - 1) * (q * s) ≤ 1152921504606846976) ∧ (0 ≤ (p * s + r * q) ∧ (p * s + r * q) ≤ 1152921504606846976) ∧ (0 ≤ ((j : Int) + 1) * q ∧ ((j : Int) + 1) * q ≤ 1152921504606846976) ∧ 0 < (p + ((j : Int) + 1) * q) * s ∧ (p + ((j : Int) + 1) * q) * s ≤ 1152921504606846976 from fun j hj => by
    have m1 := mulle qq ss (by omega) (by omega)
    have m2 := mulle pb ss (by omega) (by omega)
    have m3 := mulle rb qq (by omega) (by omega)
    have k1 := Int.mul_nonneg (show 0 ≤ q by omega) (show 0 ≤ s by omega)
    have k2 := Int.mul_nonneg (show 0 ≤ p by omega) (show 0 ≤ s by omega)
    have k3 := Int.mul_nonneg (show 0 ≤ r by omega) (show 0 ≤ q by omega)
    have m4 := mulle (show (j : Int) + 1 - 1 ≤ 5100 by omega) (show (q * s) ≤ 4194304 by omega) k1 (by omega)
    have k4 := Int.mul_nonneg (show 0 ≤ (j : Int) + 1 - 1 by omega) k1
    have m5 := mulle (show (j : Int) + 1 ≤ 5101 by omega) qq (by omega) (by omega)
    have k5 := Int.mul_nonneg (show 0 ≤ (j : Int) + 1 by omega) (show 0 ≤ q by omega)
    have m6 := mulle (show p + ((j : Int) + 1) * q ≤ 20000000 by omega) ss (by omega) (by omega)
    exact ⟨⟨k4, by omega⟩, ⟨by omega, by omega⟩, ⟨k5, by omega⟩, Int.mul_pos (by omega) s0', by omega⟩)
  clear h hL hX L1 L2 L3 hNS2 PK hc tdv e2r
  go_enter Try.func76, Try.ntmps76
  go_upto_region 1 with fail
  rw [← hW]
  clear hW
  go_wp2_with fail
  clear fX0 fX1 fY0 fY1
  refine (sub_int _ _ _ _ _ _ _ _ 4 4 d n _ (unhide HY) (unhide HX) (by omega) (by omega)).mono ?_
  rintro z0 w0 ⟨negL, aL, nL, cL, rfl, hintL, hb0⟩
  obtain ⟨VL, hVL⟩ : ∃ V, V = w0.alloc (.cells #[.bool negL, .slice aL nL cL] 26) := ⟨_, rfl⟩
  have bVL : Below w0.heap.size w0 VL := by rw [hVL]; exact bl1 _ _
  have L0 : NmC VL w0.heap.size (⟨negL, aL, nL, cL⟩ : Nm) := by rw [hVL]; exact ⟨by simp [go_sem], by simp [go_sem]⟩
  have HLI := hide ((hintL.fits (K := 4) (unhide HPL).1 (unhide HPL).2).below bVL)
  have hbL := bthen hb0 bVL
  have kL : w.heap.size + 1 + 1 + 1 + 1 < w0.heap.size := Nat.lt_of_lt_of_le R.lt hb0.size
  replace A := A.below hbL
  replace D := D.below hbL
  replace X0 := X0.below hbL
  replace Y0 := Y0.below hbL
  replace R := R.below hbL
  replace HX := hide ((unhide HX).below hbL)
  replace HY := hide ((unhide HY).below hbL)
  replace hBW := bthen hBW hbL
  clear hbL hb0 bVL hintL
  obtain ⟨fx0, fx1⟩ := X0
  obtain ⟨fl0, fl1⟩ := L0
  have lX := NmC.lt ⟨fx0, fx1⟩
  have lL := NmC.lt ⟨fl0, fl1⟩
  go_upto_region 2 with fail
  rw [← hVL]
  clear hVL
  go_wp2_with fail
  have X0 : NmC VL (w.heap.size) x := ⟨fx0, fx1⟩
  have L0 : NmC VL w0.heap.size (⟨negL, aL, nL, cL⟩ : Nm) := ⟨fl0, fl1⟩
  clear fx0 fx1 fl0 fl1 lX lL
  refine (cmp_int _ _ _ _ _ _ _ _ 4 4 n (d - n) _ (unhide HX) (unhide HLI)).mono ?_
  rintro z1 w1 ⟨rfl, hb1⟩
  rw [unhide HC]
  replace A := A.below hb1
  replace D := D.below hb1
  replace X0 := X0.below hb1
  replace Y0 := Y0.below hb1
  replace R := R.below hb1
  replace L0 := L0.below hb1
  replace HX := hide ((unhide HX).below hb1)
  replace HY := hide ((unhide HY).below hb1)
  replace HLI := hide ((unhide HLI).below hb1)
  replace hBW := bthen hBW hb1
  clear hb1
  obtain ⟨fx0, fx1⟩ := X0
  have lX := NmC.lt ⟨fx0, fx1⟩
  go_wp2_with fail
  have X0 : NmC w1 (w.heap.size) x := ⟨fx0, fx1⟩
  clear fx0 fx1 lX
  refine (sign_int _ _ _ _ _ n _ (unhide HX)).mono ?_
  rintro z2 w2 ⟨rfl, hb2⟩
  rw [unhide HC0]
  replace A := A.below hb2
  replace D := D.below hb2
  replace X0 := X0.below hb2
  replace Y0 := Y0.below hb2
  replace R := R.below hb2
  replace L0 := L0.below hb2
  replace HX := hide ((unhide HX).below hb2)
  replace HY := hide ((unhide HY).below hb2)
  replace HLI := hide ((unhide HLI).below hb2)
  replace hBW := bthen hBW hb2
  clear hb2
  have aa := A.c0
  have ab := A.c1
  have da := D.c0
  have db := D.c1
  have lA := A.lt
  have lD := D.lt
  go_wp2_with fail
  clear aa ab da db lA lD
  refine (sumOf_iv2 _ p q r s ⟨by omega, by omega, by omega, by omega⟩ ⟨by omega, by omega, by omega, by omega⟩).mono ?_
  rintro z3 w3 ⟨rfl, hb3⟩
  obtain ⟨VE, hVE⟩ : ∃ V, V = w3.alloc (.cells #[.int .i64 (p * s + r * q), .int .i64 (q * s)] 23) := ⟨_, rfl⟩
  have bVE : Below w3.heap.size w3 VE := by rw [hVE]; exact bl1 _ _
  have E0 : RaC VE w3.heap.size (p * s + r * q) (q * s) := by rw [hVE]; exact rac_new w3 _ _ _
  have hbE := bthen hb3 bVE
  have kE : w.heap.size + 1 + 1 + 1 + 1 < w3.heap.size := Nat.lt_of_lt_of_le R.lt hb3.size
  replace A := A.below hbE
  replace D := D.below hbE
  replace X0 := X0.below hbE
  replace Y0 := Y0.below hbE
  replace R := R.below hbE
  replace L0 := L0.below hbE
  replace HX := hide ((unhide HX).below hbE)
  replace HY := hide ((unhide HY).below hbE)
  replace HLI := hide ((unhide HLI).below hbE)
  replace hBW := bthen hBW hbE
  clear hbE hb3 bVE
  have lA := A.lt
  have lD := D.lt
  have lX0 := X0.lt
  have lY0 := Y0.lt
  have lR := R.lt
  have lL0 := L0.lt
  have lE0 := E0.lt
  have HK7 := hide (show ∀ w', Below VE.heap.size VE w' → (w'.cell? ⟨w.heap.size + 1 + 1, 0, none⟩ = some (.int .i64 p) ∧ w'.cell? ⟨w.heap.size + 1 + 1, 1, none⟩ = some (.int .i64 q) ∧ w'.cell? ⟨w.heap.size + 1 + 1 + 1, 0, none⟩ = some (.int .i64 r) ∧ w'.cell? ⟨w.heap.size + 1 + 1 + 1, 1, none⟩ = some (.int .i64 s) ∧ w'.cell? ⟨w.heap.size, 0, none⟩ = some (.bool x.neg) ∧ w'.cell? ⟨w.heap.size, 1, none⟩ = some (.slice x.a x.n x.cap) ∧ w'.cell? ⟨w.heap.size + 1, 0, none⟩ = some (.bool y.neg) ∧ w'.cell? ⟨w.heap.size + 1, 1, none⟩ = some (.slice y.a y.n y.cap) ∧ w'.cell? ⟨w0.heap.size, 0, none⟩ = some (.bool (⟨negL, aL, nL, cL⟩ : Nm).neg) ∧ w'.cell? ⟨w0.heap.size, 1, none⟩ = some (.slice (⟨negL, aL, nL, cL⟩ : Nm).a (⟨negL, aL, nL, cL⟩ : Nm).n (⟨negL, aL, nL, cL⟩ : Nm).cap) ∧ w'.cell? ⟨w3.heap.size, 0, none⟩ = some (.int .i64 (p * s + r * q)) ∧ w'.cell? ⟨w3.heap.size, 1, none⟩ = some (.int .i64 (q * s))) from fun w' hB => ⟨(A.below hB).c0, (A.below hB).c1, (D.below hB).c0, (D.below hB).c1, (X0.below hB).c0, (X0.below hB).c1, (Y0.below hB).c0, (Y0.below hB).c1, (L0.below hB).c0, (L0.below hB).c1, (E0.below hB).c0, (E0.below hB).c1⟩)
  have HFN := hide (show ∀ W', Below VE.heap.size VE W' → ∀ (j : Nat) (u : Sp) w', j < NS → u.bits = (b : Int) → SpAt w' u 103 (puT p q r s n d b j).1 (puT p q r s n d b j).2 → Below W'.heap.size W' w' → Calls Try.prog 126 #[.agg #[.bool u.ln, .slice u.la u.lN u.lc, .bool u.hn, .slice u.ha u.hN u.hc, .int .i64 u.bits], .int .i64 ((j : Int) + 1), .pointer (some ⟨w3.heap.size, 0, none⟩), .pointer (some ⟨w.heap.size + 1 + 1, 0, none⟩), .pointer (some ⟨w.heap.size + 1 + 1 + 1, 0, none⟩), .pointer (some ⟨w.heap.size, 0, none⟩), .pointer (some ⟨w.heap.size + 1, 0, none⟩)] w' (SpanAns w' b 121 (puT p q r s n d b (j + 1)).1 (puT p q r s n d b (j + 1)).2) from fun W' hW' j u w' hj hub hup hbw => by
    have hb' := bthen hW' hbw
    obtain ⟨⟨s1, s2⟩, ⟨s3, s4⟩, ⟨s5, s6⟩, s7, s8⟩ := unhide HST j hj
    have e := pt1_iv w' (w3.heap.size) (w.heap.size + 1 + 1) (w.heap.size + 1 + 1 + 1) (w.heap.size) (w.heap.size + 1) u x y 103 b ((j : Int) + 1) (puT p q r s n d b j) (p * s + r * q) (q * s) p q r s n d hup ((unhide HX).below hb') ((unhide HY).below hb') (E0.below hb') (A.below hb') (D.below hb') (X0.below hb') (Y0.below hb') (by omega) hub (by omega) (by omega) s1 s2 s3 s4 s5 s6 p0' (by omega) s7 s8 (by omega)
    have e1 : ((j : Int) + 1 - 1) = (j : Int) := by omega
    have ec : ((j + 1 : Nat) : Int) = (j : Int) + 1 := by omega
    have e2 : puT p q r s n d b (j + 1) = scaleI (puT p q r s n d b j) (puU p q r s n (j + 1)) (puD p q s d (j + 1)) := rfl
    rw [e1] at e
    rw [e2, pu_k]
    unfold puD
    rw [ec]
    exact e)
  have hs1 : ¬ s = 0 := by omega
  have hs2 : ¬ s = -1 := by omega
  go_wp2_with fail
  rw [← hVE]
  clear hVE
  go_cut [13] (fun pz wx => ∃ (B : Nat) (u : Sp), pz = .pointer (some ⟨B, 0, none⟩) ∧ VE.heap.size ≤ B ∧ VrC wx B u ∧ SpAt wx u 106 ((puSer p q r s n d b NS)).1 ((puSer p q r s n d b NS)).2 ∧ u.bits = (b : Int) ∧ Below VE.heap.size VE wx)
  case first =>
    go_region_held3 (fun w' => w'.cell? ⟨w.heap.size + 1 + 1, 0, none⟩ = some (.int .i64 p) ∧ w'.cell? ⟨w.heap.size + 1 + 1, 1, none⟩ = some (.int .i64 q) ∧ w'.cell? ⟨w.heap.size + 1 + 1 + 1, 0, none⟩ = some (.int .i64 r) ∧ w'.cell? ⟨w.heap.size + 1 + 1 + 1, 1, none⟩ = some (.int .i64 s) ∧ w'.cell? ⟨w.heap.size, 0, none⟩ = some (.bool x.neg) ∧ w'.cell? ⟨w.heap.size, 1, none⟩ = some (.slice x.a x.n x.cap) ∧ w'.cell? ⟨w.heap.size + 1, 0, none⟩ = some (.bool y.neg) ∧ w'.cell? ⟨w.heap.size + 1, 1, none⟩ = some (.slice y.a y.n y.cap) ∧ w'.cell? ⟨w0.heap.size, 0, none⟩ = some (.bool (⟨negL, aL, nL, cL⟩ : Nm).neg) ∧ w'.cell? ⟨w0.heap.size, 1, none⟩ = some (.slice (⟨negL, aL, nL, cL⟩ : Nm).a (⟨negL, aL, nL, cL⟩ : Nm).n (⟨negL, aL, nL, cL⟩ : Nm).cap) ∧ w'.cell? ⟨w3.heap.size, 0, none⟩ = some (.int .i64 (p * s + r * q)) ∧ w'.cell? ⟨w3.heap.size, 1, none⟩ = some (.int .i64 (q * s))) (exact unhide HK7 _ (by repeat' (first | with_reducible exact hBS2 | with_reducible exact hBS1 | with_reducible exact Below.refl _ _ | with_reducible refine Below.drew ?_ | with_reducible refine balloc ?_ _ | with_reducible refine Below.setCell ?_ (by first | exact Nat.le_refl _ | exact hlS1 | exact hlS2) _)))
      (first
        | (go_at_call 125; (try rw [unhide HE1]); (try rw [unhide HE2]); (try rw [unhide HE3]); have hq := hBS1; refine (rise_pt _ _ _ _ _ (puT p q r s n d b) (puN r s) NS b 103 121 vS1 _ ((unhide HP9).below (by first | with_reducible exact Below.refl _ _ | with_reducible exact bl1 _ _)) (unhide HVBS1) (by omega) (by omega) (by omega) (by omega) (unhide HM) (by omega) (by omega) (unhide HTL) (unhide HT0) (unhide HTF) (unhide HTS) (unhide HFN _ (by first | with_reducible exact hBS1 | with_reducible exact balloc hBS1 _))).mono ?_; rintro r wS2 ⟨vS2, rfl, hvbS2, hintS2, hbS2⟩; have HVBS2 := hide hvbS2; clear hvbS2; have hCS2 : Below wS1.heap.size wS1 wS2 := (by first | with_reducible exact hbS2 | with_reducible exact bthen (bl1 _ _) hbS2); have hBS2 := bthen hBS1 hCS2; (try with_reducible have gS2 := (noc_new wS1 28).below hbS2); (try replace gS1 := gS1.below hCS2); have hlS2 := hBS2.size; (try have mS1 := gS1.lt); (try have eS1 := Nat.ne_of_lt mS1); (try have eS1' := Nat.ne_of_gt mS1); (try obtain ⟨zS10, zS11, zS12, zS13, zS14, zS15⟩ := gS1); (try have mS2 := gS2.lt); (try have eS2 := Nat.ne_of_lt mS2); (try have eS2' := Nat.ne_of_gt mS2); (try obtain ⟨zS20, zS21, zS22, zS23, zS24, zS25⟩ := gS2))
        | (go_at_call 80; refine (one_int _ b (by omega)).mono ?_; rintro r' wS1 ⟨vS1, rfl, hvbS1, hintS1, hbS1⟩; rw [show 1 * Q b / 1 = Q b by rw [Int.ediv_one, Int.one_mul], show -(-(1 * Q b) / 1) = Q b by rw [Int.ediv_one, Int.one_mul, Int.neg_neg]] at hintS1; have HVBS1 := hide hvbS1; have HP9 := hide (hintS1.fits (K := 103) (Int.le_refl _) (unhide HQB).1 (unhide HQB).2); clear hvbS1 hintS1; have hBS1 : Below VE.heap.size VE wS1 := (by first | with_reducible exact bthen (Below.refl _ _).drew hbS1 | with_reducible exact bthen (bl1 _ _).drew hbS1); (try with_reducible have gS1 := ((noc_new VE 28).below (Below.refl _ _).drew).below hbS1); have hlS1 := hBS1.size))
    all_goals
      have hfinS : SpAt wS2 vS2 106 ((puSer p q r s n d b NS)).1 ((puSer p q r s n d b NS)).2 := hintS2
      go_wp2_with fail
      go_meet
      refine ⟨_, vS2, rfl, ?_, ⟨⟨?_, ?_, ?_, ?_, ?_⟩, ?_⟩, ?_, unhide HVBS2, ?_⟩
      · first | exact Nat.le_refl _ | exact hlS1 | exact hlS2
      · simp [go_sem, *]
      · simp [go_sem, *]
      · simp [go_sem, *]
      · simp [go_sem, *]
      · simp [go_sem, *]
      · intro o; simp [go_sem, *]
      · first | with_reducible exact SpAt.put5 hfinS zS20 zS21 zS22 zS23 zS24 _ _ _ _ _ | with_reducible exact SpAt.put5 hfinS zS10 zS11 zS12 zS13 zS14 _ _ _ _ _ | with_reducible exact hfinS.below (bl1 _ _)
      · repeat' (first | with_reducible exact hBS2 | with_reducible exact hBS1 | with_reducible exact Below.refl _ _ | with_reducible refine Below.drew ?_ | with_reducible refine balloc ?_ _ | with_reducible refine Below.setCell ?_ (by first | exact Nat.le_refl _ | exact hlS1 | exact hlS2) _)
  case rest =>
  obtain ⟨BS, xS, rfl, hHS, XS, hpS, hxbS, hblS⟩ := hcut
  obtain ⟨V7, hV7⟩ : ∃ V, V = wc := ⟨_, rfl⟩
  subst hV7
  have kS := Nat.lt_of_lt_of_le lR hHS
  replace A := A.below hblS
  replace D := D.below hblS
  replace X0 := X0.below hblS
  replace Y0 := Y0.below hblS
  replace R := R.below hblS
  replace L0 := L0.below hblS
  replace E0 := E0.below hblS
  replace HX := hide ((unhide HX).below hblS)
  replace HY := hide ((unhide HY).below hblS)
  replace HLI := hide ((unhide HLI).below hblS)
  replace hBW := bthen hBW hblS
  have HSP := hide hpS
  have HSB := hide hxbS
  have XSC := XS.c
  clear hpS hxbS XS HK7 HFN HTL HT0 HTF HTS HE1 HE2 HE3 HST hs1 hs2 lA lD lX0 lY0 lR lL0 lE0 hHS
  have lA := A.lt
  have lD := D.lt
  have lX0 := X0.lt
  have lY0 := Y0.lt
  have lR := R.lt
  have lL0 := L0.lt
  have lE0 := E0.lt
  have lS := XSC.lt
  have HK8 := hide (show ∀ w', Below V7.heap.size V7 w' → (w'.cell? ⟨w.heap.size + 1 + 1, 0, none⟩ = some (.int .i64 p) ∧ w'.cell? ⟨w.heap.size + 1 + 1, 1, none⟩ = some (.int .i64 q) ∧ w'.cell? ⟨w.heap.size + 1 + 1 + 1, 0, none⟩ = some (.int .i64 r) ∧ w'.cell? ⟨w.heap.size + 1 + 1 + 1, 1, none⟩ = some (.int .i64 s) ∧ w'.cell? ⟨w.heap.size, 0, none⟩ = some (.bool x.neg) ∧ w'.cell? ⟨w.heap.size, 1, none⟩ = some (.slice x.a x.n x.cap) ∧ w'.cell? ⟨w.heap.size + 1, 0, none⟩ = some (.bool y.neg) ∧ w'.cell? ⟨w.heap.size + 1, 1, none⟩ = some (.slice y.a y.n y.cap) ∧ w'.cell? ⟨w0.heap.size, 0, none⟩ = some (.bool (⟨negL, aL, nL, cL⟩ : Nm).neg) ∧ w'.cell? ⟨w0.heap.size, 1, none⟩ = some (.slice (⟨negL, aL, nL, cL⟩ : Nm).a (⟨negL, aL, nL, cL⟩ : Nm).n (⟨negL, aL, nL, cL⟩ : Nm).cap) ∧ w'.cell? ⟨w3.heap.size, 0, none⟩ = some (.int .i64 (p * s + r * q)) ∧ w'.cell? ⟨w3.heap.size, 1, none⟩ = some (.int .i64 (q * s)) ∧ w'.cell? ⟨BS, 0, none⟩ = some (.bool xS.ln) ∧ w'.cell? ⟨BS, 1, none⟩ = some (.slice xS.la xS.lN xS.lc) ∧ w'.cell? ⟨BS, 2, none⟩ = some (.bool xS.hn) ∧ w'.cell? ⟨BS, 3, none⟩ = some (.slice xS.ha xS.hN xS.hc) ∧ w'.cell? ⟨BS, 4, none⟩ = some (.int .i64 xS.bits)) from fun w' hB => ⟨(A.below hB).c0, (A.below hB).c1, (D.below hB).c0, (D.below hB).c1, (X0.below hB).c0, (X0.below hB).c1, (Y0.below hB).c0, (Y0.below hB).c1, (L0.below hB).c0, (L0.below hB).c1, (E0.below hB).c0, (E0.below hB).c1, (XSC.below hB).c0, (XSC.below hB).c1, (XSC.below hB).c2, (XSC.below hB).c3, (XSC.below hB).c4⟩)
  go_wp2_with fail
  go_cut [14] (fun pz wx => ∃ (B : Nat) (u : Sp) (o1 o2 o3 o4 : Int), pz = .pointer (some ⟨B, 0, none⟩) ∧ LwLog L ((d : Rat) / (n : Rat)) b (o1, o2) ∧ LwLog L ((d : Rat) / ((d - n : Int) : Rat)) b (o3, o4) ∧ V7.heap.size ≤ B ∧ VrC wx B u ∧ SpAt wx u 535 (addI (scaleI (o1, o2) p q) (scaleI (o3, o4) r s)).1 (addI (scaleI (o1, o2) p q) (scaleI (o3, o4) r s)).2 ∧ u.bits = (b : Int) ∧ Below V7.heap.size V7 wx)
  case first =>
    go_region_held3 (fun w' => w'.cell? ⟨w.heap.size + 1 + 1, 0, none⟩ = some (.int .i64 p) ∧ w'.cell? ⟨w.heap.size + 1 + 1, 1, none⟩ = some (.int .i64 q) ∧ w'.cell? ⟨w.heap.size + 1 + 1 + 1, 0, none⟩ = some (.int .i64 r) ∧ w'.cell? ⟨w.heap.size + 1 + 1 + 1, 1, none⟩ = some (.int .i64 s) ∧ w'.cell? ⟨w.heap.size, 0, none⟩ = some (.bool x.neg) ∧ w'.cell? ⟨w.heap.size, 1, none⟩ = some (.slice x.a x.n x.cap) ∧ w'.cell? ⟨w.heap.size + 1, 0, none⟩ = some (.bool y.neg) ∧ w'.cell? ⟨w.heap.size + 1, 1, none⟩ = some (.slice y.a y.n y.cap) ∧ w'.cell? ⟨w0.heap.size, 0, none⟩ = some (.bool (⟨negL, aL, nL, cL⟩ : Nm).neg) ∧ w'.cell? ⟨w0.heap.size, 1, none⟩ = some (.slice (⟨negL, aL, nL, cL⟩ : Nm).a (⟨negL, aL, nL, cL⟩ : Nm).n (⟨negL, aL, nL, cL⟩ : Nm).cap) ∧ w'.cell? ⟨w3.heap.size, 0, none⟩ = some (.int .i64 (p * s + r * q)) ∧ w'.cell? ⟨w3.heap.size, 1, none⟩ = some (.int .i64 (q * s)) ∧ w'.cell? ⟨BS, 0, none⟩ = some (.bool xS.ln) ∧ w'.cell? ⟨BS, 1, none⟩ = some (.slice xS.la xS.lN xS.lc) ∧ w'.cell? ⟨BS, 2, none⟩ = some (.bool xS.hn) ∧ w'.cell? ⟨BS, 3, none⟩ = some (.slice xS.ha xS.hN xS.hc) ∧ w'.cell? ⟨BS, 4, none⟩ = some (.int .i64 xS.bits)) (exact unhide HK8 _ (by repeat' (first | with_reducible exact hBP5 | with_reducible exact hBP4 | with_reducible exact hBP3 | with_reducible exact hBP2 | with_reducible exact hBP1 | with_reducible exact Below.refl _ _ | with_reducible refine Below.drew ?_ | with_reducible refine balloc ?_ _ | with_reducible refine Below.setCell ?_ (by first | exact Nat.le_refl _ | exact hlP1 | exact hlP2 | exact hlP3 | exact hlP4 | exact hlP5) _)))
      (first
        | (go_at_call 56; have hq := hBP4; refine (add_iv _ vP2 vP4 534 b (scaleI (o1, o2) p q) (scaleI (o3, o4) r s) ((hintP2.below (by first | with_reducible exact Below.refl _ _ | with_reducible exact bl1 _ _)).mono (by omega)) ((hintP4.below (by first | with_reducible exact Below.refl _ _ | with_reducible exact bl1 _ _)).mono (by omega)) (by omega) (unhide HVBP2)).mono ?_; rintro r wP5 ⟨vP5, rfl, hvbP5, hintP5, hbP5⟩; have HVBP5 := hide hvbP5; clear hvbP5; have hCP5 : Below wP4.heap.size wP4 wP5 := (by first | with_reducible exact hbP5 | with_reducible exact bthen (bl1 _ _) hbP5); have hBP5 := bthen hBP4 hCP5; (try with_reducible have gP5 := (noc_new wP4 28).below hbP5); (try replace gP1 := gP1.below hCP5); replace hintP2 := hintP2.below hCP5; (try replace gP2 := gP2.below hCP5); (try replace gP3 := gP3.below hCP5); replace hintP4 := hintP4.below hCP5; (try replace gP4 := gP4.below hCP5); have hlP5 := hBP5.size; (try have mP1 := gP1.lt); (try have eP1 := Nat.ne_of_lt mP1); (try have eP1' := Nat.ne_of_gt mP1); (try obtain ⟨zP10, zP11, zP12, zP13, zP14, zP15⟩ := gP1); (try have mP2 := gP2.lt); (try have eP2 := Nat.ne_of_lt mP2); (try have eP2' := Nat.ne_of_gt mP2); (try obtain ⟨zP20, zP21, zP22, zP23, zP24, zP25⟩ := gP2); (try have mP3 := gP3.lt); (try have eP3 := Nat.ne_of_lt mP3); (try have eP3' := Nat.ne_of_gt mP3); (try obtain ⟨zP30, zP31, zP32, zP33, zP34, zP35⟩ := gP3); (try have mP4 := gP4.lt); (try have eP4 := Nat.ne_of_lt mP4); (try have eP4' := Nat.ne_of_gt mP4); (try obtain ⟨zP40, zP41, zP42, zP43, zP44, zP45⟩ := gP4); (try have mP5 := gP5.lt); (try have eP5 := Nat.ne_of_lt mP5); (try have eP5' := Nat.ne_of_gt mP5); (try obtain ⟨zP50, zP51, zP52, zP53, zP54, zP55⟩ := gP5))
        | (go_at_call 127; have hq := hBP3; refine (timesRatio_iv _ vP3 520 b (o3, o4) r s (hintP3.below (by first | with_reducible exact Below.refl _ _ | with_reducible exact bl1 _ _)) (by omega) (unhide HVBP3) (by omega) (by omega) s0' (by omega)).mono ?_; rintro r wP4 ⟨vP4, rfl, hvbP4, hintP4, hbP4⟩; have HVBP4 := hide hvbP4; clear hvbP4; have hCP4 : Below wP3.heap.size wP3 wP4 := (by first | with_reducible exact hbP4 | with_reducible exact bthen (bl1 _ _) hbP4); have hBP4 := bthen hBP3 hCP4; (try with_reducible have gP4 := (noc_new wP3 28).below hbP4); (try replace gP1 := gP1.below hCP4); replace hintP2 := hintP2.below hCP4; (try replace gP2 := gP2.below hCP4); (try replace gP3 := gP3.below hCP4); have hlP4 := hBP4.size)
        | (go_at_call 128; have hq := hBP2; refine (wideLog_lw L (unhide HL) _ y (⟨negL, aL, nL, cL⟩ : Nm) b d (d - n) ((unhide HY).below (by first | with_reducible exact hBP2 | with_reducible exact balloc hBP2 _)) ((unhide HLI).below (by first | with_reducible exact hBP2 | with_reducible exact balloc hBP2 _)) (by omega) (by omega) b0 b1).mono ?_; rintro r' wP3 ⟨o3, o4, hlo3, vP3, rfl, hvbP3, hintP3, hbP3⟩; have HVBP3 := hide hvbP3; have Hhlo3 := hide hlo3; clear hvbP3 hlo3; have hCP3 : Below wP2.heap.size wP2 wP3 := (by first | with_reducible exact hbP3 | with_reducible exact bthen (bl1 _ _) hbP3); have hBP3 := bthen hBP2 hCP3; (try with_reducible have gP3 := (noc_new wP2 28).below hbP3); (try replace gP1 := gP1.below hCP3); replace hintP2 := hintP2.below hCP3; (try replace gP2 := gP2.below hCP3); have hlP3 := hBP3.size)
        | (go_at_call 127; have hq := hBP1; refine (timesRatio_iv _ vP1 520 b (o1, o2) p q (hintP1.below (by first | with_reducible exact Below.refl _ _ | with_reducible exact bl1 _ _)) (by omega) (unhide HVBP1) (by omega) (by omega) q0' (by omega)).mono ?_; rintro r wP2 ⟨vP2, rfl, hvbP2, hintP2, hbP2⟩; have HVBP2 := hide hvbP2; clear hvbP2; have hCP2 : Below wP1.heap.size wP1 wP2 := (by first | with_reducible exact hbP2 | with_reducible exact bthen (bl1 _ _) hbP2); have hBP2 := bthen hBP1 hCP2; (try with_reducible have gP2 := (noc_new wP1 28).below hbP2); (try replace gP1 := gP1.below hCP2); have hlP2 := hBP2.size)
        | (go_at_call 128; refine (wideLog_lw L (unhide HL) _ y x b d n ((unhide HY).below (by first | with_reducible exact (Below.refl _ _).drew | with_reducible exact (bl1 _ _).drew)) ((unhide HX).below (by first | with_reducible exact (Below.refl _ _).drew | with_reducible exact (bl1 _ _).drew)) (by omega) n0' b0 b1).mono ?_; rintro r' wP1 ⟨o1, o2, hlo1, vP1, rfl, hvbP1, hintP1, hbP1⟩; have HVBP1 := hide hvbP1; have Hhlo1 := hide hlo1; clear hvbP1 hlo1; have hBP1 : Below V7.heap.size V7 wP1 := (by first | with_reducible exact bthen (Below.refl _ _).drew hbP1 | with_reducible exact bthen (bl1 _ _).drew hbP1); (try with_reducible have gP1 := ((noc_new V7 28).below (Below.refl _ _).drew).below hbP1); have hlP1 := hBP1.size))
    all_goals
      have hfinP : SpAt wP5 vP5 535 (addI (scaleI (o1, o2) p q) (scaleI (o3, o4) r s)).1 (addI (scaleI (o1, o2) p q) (scaleI (o3, o4) r s)).2 := hintP5
      go_wp2_with fail
      go_meet
      refine ⟨_, vP5, o1, o2, o3, o4, rfl, unhide Hhlo1, unhide Hhlo3, ?_, ⟨⟨?_, ?_, ?_, ?_, ?_⟩, ?_⟩, ?_, unhide HVBP5, ?_⟩
      · first | exact Nat.le_refl _ | exact hlP1 | exact hlP2 | exact hlP3 | exact hlP4 | exact hlP5
      · simp [go_sem, *]
      · simp [go_sem, *]
      · simp [go_sem, *]
      · simp [go_sem, *]
      · simp [go_sem, *]
      · intro o; simp [go_sem, *]
      · first | with_reducible exact SpAt.put5 hfinP zP50 zP51 zP52 zP53 zP54 _ _ _ _ _ | with_reducible exact SpAt.put5 hfinP zP40 zP41 zP42 zP43 zP44 _ _ _ _ _ | with_reducible exact SpAt.put5 hfinP zP30 zP31 zP32 zP33 zP34 _ _ _ _ _ | with_reducible exact SpAt.put5 hfinP zP20 zP21 zP22 zP23 zP24 _ _ _ _ _ | with_reducible exact SpAt.put5 hfinP zP10 zP11 zP12 zP13 zP14 _ _ _ _ _ | with_reducible exact hfinP.below (bl1 _ _)
      · repeat' (first | with_reducible exact hBP5 | with_reducible exact hBP4 | with_reducible exact hBP3 | with_reducible exact hBP2 | with_reducible exact hBP1 | with_reducible exact Below.refl _ _ | with_reducible refine Below.drew ?_ | with_reducible refine balloc ?_ _ | with_reducible refine Below.setCell ?_ (by first | exact Nat.le_refl _ | exact hlP1 | exact hlP2 | exact hlP3 | exact hlP4 | exact hlP5) _)
  case rest =>
  obtain ⟨BP, xP, o1, o2, o3, o4, rfl, hlo1, hlo3, hHP, XP, hpP, hxbP, hblP⟩ := hcut
  obtain ⟨V8, hV8⟩ : ∃ V, V = wc := ⟨_, rfl⟩
  subst hV8
  have kP := Nat.lt_of_lt_of_le lR hHP
  replace A := A.below hblP
  replace D := D.below hblP
  replace X0 := X0.below hblP
  replace Y0 := Y0.below hblP
  replace R := R.below hblP
  replace L0 := L0.below hblP
  replace E0 := E0.below hblP
  replace HX := hide ((unhide HX).below hblP)
  replace HY := hide ((unhide HY).below hblP)
  replace HLI := hide ((unhide HLI).below hblP)
  replace hBW := bthen hBW hblP
  replace XSC := XSC.below hblP
  replace HSP := hide ((unhide HSP).below hblP)
  have HPP := hide hpP
  have HPB := hide hxbP
  have HO1 := hide hlo1
  have HO3 := hide hlo3
  have XPC := XP.c
  clear hpP hxbP hlo1 hlo3 XP HK8 lS lA lD lX0 lY0 lR lL0 lE0 hHP
  have lA := A.lt
  have lD := D.lt
  have lX0 := X0.lt
  have lY0 := Y0.lt
  have lR := R.lt
  have lL0 := L0.lt
  have lE0 := E0.lt
  have lS := XSC.lt
  have lP := XPC.lt
  have HK9 := hide (show ∀ w', Below V8.heap.size V8 w' → (w'.cell? ⟨w.heap.size + 1 + 1, 0, none⟩ = some (.int .i64 p) ∧ w'.cell? ⟨w.heap.size + 1 + 1, 1, none⟩ = some (.int .i64 q) ∧ w'.cell? ⟨w.heap.size + 1 + 1 + 1, 0, none⟩ = some (.int .i64 r) ∧ w'.cell? ⟨w.heap.size + 1 + 1 + 1, 1, none⟩ = some (.int .i64 s) ∧ w'.cell? ⟨w.heap.size, 0, none⟩ = some (.bool x.neg) ∧ w'.cell? ⟨w.heap.size, 1, none⟩ = some (.slice x.a x.n x.cap) ∧ w'.cell? ⟨w.heap.size + 1, 0, none⟩ = some (.bool y.neg) ∧ w'.cell? ⟨w.heap.size + 1, 1, none⟩ = some (.slice y.a y.n y.cap) ∧ w'.cell? ⟨w0.heap.size, 0, none⟩ = some (.bool (⟨negL, aL, nL, cL⟩ : Nm).neg) ∧ w'.cell? ⟨w0.heap.size, 1, none⟩ = some (.slice (⟨negL, aL, nL, cL⟩ : Nm).a (⟨negL, aL, nL, cL⟩ : Nm).n (⟨negL, aL, nL, cL⟩ : Nm).cap) ∧ w'.cell? ⟨w3.heap.size, 0, none⟩ = some (.int .i64 (p * s + r * q)) ∧ w'.cell? ⟨w3.heap.size, 1, none⟩ = some (.int .i64 (q * s)) ∧ w'.cell? ⟨BS, 0, none⟩ = some (.bool xS.ln) ∧ w'.cell? ⟨BS, 1, none⟩ = some (.slice xS.la xS.lN xS.lc) ∧ w'.cell? ⟨BS, 2, none⟩ = some (.bool xS.hn) ∧ w'.cell? ⟨BS, 3, none⟩ = some (.slice xS.ha xS.hN xS.hc) ∧ w'.cell? ⟨BS, 4, none⟩ = some (.int .i64 xS.bits) ∧ w'.cell? ⟨BP, 0, none⟩ = some (.bool xP.ln) ∧ w'.cell? ⟨BP, 1, none⟩ = some (.slice xP.la xP.lN xP.lc) ∧ w'.cell? ⟨BP, 2, none⟩ = some (.bool xP.hn) ∧ w'.cell? ⟨BP, 3, none⟩ = some (.slice xP.ha xP.hN xP.hc) ∧ w'.cell? ⟨BP, 4, none⟩ = some (.int .i64 xP.bits)) from fun w' hB => ⟨(A.below hB).c0, (A.below hB).c1, (D.below hB).c0, (D.below hB).c1, (X0.below hB).c0, (X0.below hB).c1, (Y0.below hB).c0, (Y0.below hB).c1, (L0.below hB).c0, (L0.below hB).c1, (E0.below hB).c0, (E0.below hB).c1, (XSC.below hB).c0, (XSC.below hB).c1, (XSC.below hB).c2, (XSC.below hB).c3, (XSC.below hB).c4, (XPC.below hB).c0, (XPC.below hB).c1, (XPC.below hB).c2, (XPC.below hB).c3, (XPC.below hB).c4⟩)
  go_wp2_with fail
  go_cut [15] (fun pz wx => ∃ (B : Nat) (u : Sp) (o5 o6 lg ug : Int), pz = .pointer (some ⟨B, 0, none⟩) ∧ LwLog L ((p : Rat) / (q : Rat)) b (o5, o6) ∧ LgP3 (fun M => X1 M + X2 M - X3 M) b lg ug ∧ V8.heap.size ≤ B ∧ VrC wx B u ∧ SpAt wx u 524 (addI (o5, o6) (lg, ug)).1 (addI (o5, o6) (lg, ug)).2 ∧ u.bits = (b : Int) ∧ Below V8.heap.size V8 wx)
  case first =>
    go_region_held3 (fun w' => w'.cell? ⟨w.heap.size + 1 + 1, 0, none⟩ = some (.int .i64 p) ∧ w'.cell? ⟨w.heap.size + 1 + 1, 1, none⟩ = some (.int .i64 q) ∧ w'.cell? ⟨w.heap.size + 1 + 1 + 1, 0, none⟩ = some (.int .i64 r) ∧ w'.cell? ⟨w.heap.size + 1 + 1 + 1, 1, none⟩ = some (.int .i64 s) ∧ w'.cell? ⟨w.heap.size, 0, none⟩ = some (.bool x.neg) ∧ w'.cell? ⟨w.heap.size, 1, none⟩ = some (.slice x.a x.n x.cap) ∧ w'.cell? ⟨w.heap.size + 1, 0, none⟩ = some (.bool y.neg) ∧ w'.cell? ⟨w.heap.size + 1, 1, none⟩ = some (.slice y.a y.n y.cap) ∧ w'.cell? ⟨w0.heap.size, 0, none⟩ = some (.bool (⟨negL, aL, nL, cL⟩ : Nm).neg) ∧ w'.cell? ⟨w0.heap.size, 1, none⟩ = some (.slice (⟨negL, aL, nL, cL⟩ : Nm).a (⟨negL, aL, nL, cL⟩ : Nm).n (⟨negL, aL, nL, cL⟩ : Nm).cap) ∧ w'.cell? ⟨w3.heap.size, 0, none⟩ = some (.int .i64 (p * s + r * q)) ∧ w'.cell? ⟨w3.heap.size, 1, none⟩ = some (.int .i64 (q * s)) ∧ w'.cell? ⟨BS, 0, none⟩ = some (.bool xS.ln) ∧ w'.cell? ⟨BS, 1, none⟩ = some (.slice xS.la xS.lN xS.lc) ∧ w'.cell? ⟨BS, 2, none⟩ = some (.bool xS.hn) ∧ w'.cell? ⟨BS, 3, none⟩ = some (.slice xS.ha xS.hN xS.hc) ∧ w'.cell? ⟨BS, 4, none⟩ = some (.int .i64 xS.bits) ∧ w'.cell? ⟨BP, 0, none⟩ = some (.bool xP.ln) ∧ w'.cell? ⟨BP, 1, none⟩ = some (.slice xP.la xP.lN xP.lc) ∧ w'.cell? ⟨BP, 2, none⟩ = some (.bool xP.hn) ∧ w'.cell? ⟨BP, 3, none⟩ = some (.slice xP.ha xP.hN xP.hc) ∧ w'.cell? ⟨BP, 4, none⟩ = some (.int .i64 xP.bits)) (exact unhide HK9 _ (by repeat' (first | with_reducible exact hBZ5 | with_reducible exact hBZ4 | with_reducible exact hBZ3 | with_reducible exact hBZ2 | with_reducible exact hBZ1 | with_reducible exact Below.refl _ _ | with_reducible refine Below.drew ?_ | with_reducible refine balloc ?_ _ | with_reducible refine Below.setCell ?_ (by first | exact Nat.le_refl _ | exact hlZ1 | exact hlZ2 | exact hlZ3 | exact hlZ4 | exact hlZ5) _)))
      (first
        | (go_at_call 56; have hq := hBZ4; refine (add_iv _ vZ3 vZ4 523 b (o5, o6) (lg, ug) (((hintZ3.below hCZ4).below (by first | with_reducible exact Below.refl _ _ | with_reducible exact bl1 _ _)).mono (by omega)) ((hintZ4.below (by first | with_reducible exact Below.refl _ _ | with_reducible exact bl1 _ _)).mono (by omega)) (by omega) (unhide HVBZ3)).mono ?_; rintro r wZ5 ⟨vZ5, rfl, hvbZ5, hintZ5, hbZ5⟩; have HVBZ5 := hide hvbZ5; clear hvbZ5; have hCZ5 : Below wZ4.heap.size wZ4 wZ5 := (by first | with_reducible exact hbZ5 | with_reducible exact bthen (bl1 _ _) hbZ5); have hBZ5 := bthen hBZ4 hCZ5; (try with_reducible have gZ5 := (noc_new wZ4 28).below hbZ5); replace hintZ1 := hintZ1.below hCZ5; (try replace gZ1 := gZ1.below hCZ5); replace hintZ2 := hintZ2.below hCZ5; (try replace gZ2 := gZ2.below hCZ5); (try replace gZ3 := gZ3.below hCZ5); (try replace gZ4 := gZ4.below hCZ5); have hlZ5 := hBZ5.size; (try have mZ1 := gZ1.lt); (try have eZ1 := Nat.ne_of_lt mZ1); (try have eZ1' := Nat.ne_of_gt mZ1); (try obtain ⟨zZ10, zZ11, zZ12, zZ13, zZ14, zZ15⟩ := gZ1); (try have mZ2 := gZ2.lt); (try have eZ2 := Nat.ne_of_lt mZ2); (try have eZ2' := Nat.ne_of_gt mZ2); (try obtain ⟨zZ20, zZ21, zZ22, zZ23, zZ24, zZ25⟩ := gZ2); (try have mZ3 := gZ3.lt); (try have eZ3 := Nat.ne_of_lt mZ3); (try have eZ3' := Nat.ne_of_gt mZ3); (try obtain ⟨zZ30, zZ31, zZ32, zZ33, zZ34, zZ35⟩ := gZ3); (try have mZ4 := gZ4.lt); (try have eZ4 := Nat.ne_of_lt mZ4); (try have eZ4' := Nat.ne_of_gt mZ4); (try obtain ⟨zZ40, zZ41, zZ42, zZ43, zZ44, zZ45⟩ := gZ4); (try have mZ5 := gZ5.lt); (try have eZ5 := Nat.ne_of_lt mZ5); (try have eZ5' := Nat.ne_of_gt mZ5); (try obtain ⟨zZ50, zZ51, zZ52, zZ53, zZ54, zZ55⟩ := gZ5))
        | (go_at_call 70; have hq := hBZ3; refine (logBeta_iv2 _ p q r s b X1 X2 X3 ⟨by omega, by omega, by omega, by omega⟩ ⟨by omega, by omega, by omega, by omega⟩ (unhide HG1) (unhide HG2) (unhide HG3)).mono ?_; rintro r' wZ4 ⟨lg, ug, hlg, vZ4, rfl, hvbZ4, hintZ4, hbZ4⟩; have HVBZ4 := hide hvbZ4; have Hhlg := hide hlg; clear hvbZ4 hlg; have hCZ4 : Below wZ3.heap.size wZ3 wZ4 := (by first | with_reducible exact hbZ4 | with_reducible exact bthen (bl1 _ _) hbZ4); have hBZ4 := bthen hBZ3 hCZ4; (try with_reducible have gZ4 := (noc_new wZ3 28).below hbZ4); replace hintZ1 := hintZ1.below hCZ4; (try replace gZ1 := gZ1.below hCZ4); replace hintZ2 := hintZ2.below hCZ4; (try replace gZ2 := gZ2.below hCZ4); (try replace gZ3 := gZ3.below hCZ4); have hlZ4 := hBZ4.size)
        | (go_at_call 128; have hq := hBZ2; refine (wideLog_lw L (unhide HL) _ ⟨negZ1, aZ1, nZ1, cZ1⟩ ⟨negZ2, aZ2, nZ2, cZ2⟩ b p q (hintZ1.below (by first | with_reducible exact Below.refl _ _ | with_reducible exact bl1 _ _)) (hintZ2.below (by first | with_reducible exact Below.refl _ _ | with_reducible exact bl1 _ _)) p0' q0' b0 b1).mono ?_; rintro r' wZ3 ⟨o5, o6, hlo5, vZ3, rfl, hvbZ3, hintZ3, hbZ3⟩; have HVBZ3 := hide hvbZ3; have Hhlo5 := hide hlo5; clear hvbZ3 hlo5; have hCZ3 : Below wZ2.heap.size wZ2 wZ3 := (by first | with_reducible exact hbZ3 | with_reducible exact bthen (bl1 _ _) hbZ3); have hBZ3 := bthen hBZ2 hCZ3; (try with_reducible have gZ3 := (noc_new wZ2 28).below hbZ3); replace hintZ1 := hintZ1.below hCZ3; (try replace gZ1 := gZ1.below hCZ3); replace hintZ2 := hintZ2.below hCZ3; (try replace gZ2 := gZ2.below hCZ3); have hlZ3 := hBZ3.size)
        | (go_at_call 48; have hq := hBZ1; refine (numOf_int q _ (by omega) (by omega)).mono ?_; rintro r wZ2 ⟨negZ2, aZ2, nZ2, cZ2, rfl, hintZ2, hbZ2⟩; have hCZ2 : Below wZ1.heap.size wZ1 wZ2 := (by first | with_reducible exact hbZ2 | with_reducible exact bthen (bl1 _ _) hbZ2); have hBZ2 := bthen hBZ1 hCZ2; (try with_reducible have gZ2 := (noc_new wZ1 28).below hbZ2); replace hintZ1 := hintZ1.below hCZ2; (try replace gZ1 := gZ1.below hCZ2); have hlZ2 := hBZ2.size)
        | (go_at_call 48; refine (numOf_int p _ (by omega) (by omega)).mono ?_; rintro r wZ1 ⟨negZ1, aZ1, nZ1, cZ1, rfl, hintZ1, hbZ1⟩; have hBZ1 : Below V8.heap.size V8 wZ1 := (by first | with_reducible exact bthen (Below.refl _ _).drew hbZ1 | with_reducible exact bthen (bl1 _ _).drew hbZ1); (try with_reducible have gZ1 := ((noc_new V8 28).below (Below.refl _ _).drew).below hbZ1); have hlZ1 := hBZ1.size))
    all_goals
      have hfinZ : SpAt wZ5 vZ5 524 (addI (o5, o6) (lg, ug)).1 (addI (o5, o6) (lg, ug)).2 := hintZ5
      go_wp2_with fail
      go_meet
      refine ⟨_, vZ5, o5, o6, lg, ug, rfl, unhide Hhlo5, unhide Hhlg, ?_, ⟨⟨?_, ?_, ?_, ?_, ?_⟩, ?_⟩, ?_, unhide HVBZ5, ?_⟩
      · first | exact Nat.le_refl _ | exact hlZ1 | exact hlZ2 | exact hlZ3 | exact hlZ4 | exact hlZ5
      · simp [go_sem, *]
      · simp [go_sem, *]
      · simp [go_sem, *]
      · simp [go_sem, *]
      · simp [go_sem, *]
      · intro o; simp [go_sem, *]
      · first | with_reducible exact SpAt.put5 hfinZ zZ50 zZ51 zZ52 zZ53 zZ54 _ _ _ _ _ | with_reducible exact SpAt.put5 hfinZ zZ40 zZ41 zZ42 zZ43 zZ44 _ _ _ _ _ | with_reducible exact SpAt.put5 hfinZ zZ30 zZ31 zZ32 zZ33 zZ34 _ _ _ _ _ | with_reducible exact SpAt.put5 hfinZ zZ20 zZ21 zZ22 zZ23 zZ24 _ _ _ _ _ | with_reducible exact SpAt.put5 hfinZ zZ10 zZ11 zZ12 zZ13 zZ14 _ _ _ _ _ | with_reducible exact hfinZ.below (bl1 _ _)
      · repeat' (first | with_reducible exact hBZ5 | with_reducible exact hBZ4 | with_reducible exact hBZ3 | with_reducible exact hBZ2 | with_reducible exact hBZ1 | with_reducible exact Below.refl _ _ | with_reducible refine Below.drew ?_ | with_reducible refine balloc ?_ _ | with_reducible refine Below.setCell ?_ (by first | exact Nat.le_refl _ | exact hlZ1 | exact hlZ2 | exact hlZ3 | exact hlZ4 | exact hlZ5) _)
  case rest =>
  obtain ⟨BZ, xZ, o5, o6, lg, ug, rfl, hlo5, hlg, hHZ, XZ, hpZ, hxbZ, hblZ⟩ := hcut
  obtain ⟨V9, hV9⟩ : ∃ V, V = wc := ⟨_, rfl⟩
  subst hV9
  have kZ := Nat.lt_of_lt_of_le lR hHZ
  replace A := A.below hblZ
  replace D := D.below hblZ
  replace X0 := X0.below hblZ
  replace Y0 := Y0.below hblZ
  replace R := R.below hblZ
  replace L0 := L0.below hblZ
  replace E0 := E0.below hblZ
  replace HX := hide ((unhide HX).below hblZ)
  replace HY := hide ((unhide HY).below hblZ)
  replace HLI := hide ((unhide HLI).below hblZ)
  replace hBW := bthen hBW hblZ
  replace XSC := XSC.below hblZ
  replace XPC := XPC.below hblZ
  replace HSP := hide ((unhide HSP).below hblZ)
  replace HPP := hide ((unhide HPP).below hblZ)
  have HZP := hide hpZ
  have HZB := hide hxbZ
  have XZC := XZ.c
  obtain ⟨l, t, NE, e1, e2, e3, e4, e5, e6, e7, e8⟩ := pu_exp (unhide H) (unhide HO1) (unhide HO3) hlo5 hlg (unhide HL) (unhide HXX) hNS (unhide HM)
  have HE1 := hide e1
  have HE2 := hide e2
  have HE4 := hide e4
  have HE5 := hide e5
  have HQE := hide e6
  have HYL := hide e7
  have HRES := hide e8
  clear e1 e2 e4 e5 e6 e7 e8 hpZ hxbZ hlo5 hlg XZ HK9 lS lP lA lD lX0 lY0 lR lL0 lE0 hHZ
  have lA := A.lt
  have lD := D.lt
  have lX0 := X0.lt
  have lY0 := Y0.lt
  have lR := R.lt
  have lL0 := L0.lt
  have lE0 := E0.lt
  have lS := XSC.lt
  have lP := XPC.lt
  have lZ := XZC.lt
  have HK10 := hide (show ∀ w', Below V9.heap.size V9 w' → (w'.cell? ⟨w.heap.size + 1 + 1, 0, none⟩ = some (.int .i64 p) ∧ w'.cell? ⟨w.heap.size + 1 + 1, 1, none⟩ = some (.int .i64 q) ∧ w'.cell? ⟨w.heap.size + 1 + 1 + 1, 0, none⟩ = some (.int .i64 r) ∧ w'.cell? ⟨w.heap.size + 1 + 1 + 1, 1, none⟩ = some (.int .i64 s) ∧ w'.cell? ⟨w.heap.size, 0, none⟩ = some (.bool x.neg) ∧ w'.cell? ⟨w.heap.size, 1, none⟩ = some (.slice x.a x.n x.cap) ∧ w'.cell? ⟨w.heap.size + 1, 0, none⟩ = some (.bool y.neg) ∧ w'.cell? ⟨w.heap.size + 1, 1, none⟩ = some (.slice y.a y.n y.cap) ∧ w'.cell? ⟨w0.heap.size, 0, none⟩ = some (.bool (⟨negL, aL, nL, cL⟩ : Nm).neg) ∧ w'.cell? ⟨w0.heap.size, 1, none⟩ = some (.slice (⟨negL, aL, nL, cL⟩ : Nm).a (⟨negL, aL, nL, cL⟩ : Nm).n (⟨negL, aL, nL, cL⟩ : Nm).cap) ∧ w'.cell? ⟨w3.heap.size, 0, none⟩ = some (.int .i64 (p * s + r * q)) ∧ w'.cell? ⟨w3.heap.size, 1, none⟩ = some (.int .i64 (q * s)) ∧ w'.cell? ⟨BS, 0, none⟩ = some (.bool xS.ln) ∧ w'.cell? ⟨BS, 1, none⟩ = some (.slice xS.la xS.lN xS.lc) ∧ w'.cell? ⟨BS, 2, none⟩ = some (.bool xS.hn) ∧ w'.cell? ⟨BS, 3, none⟩ = some (.slice xS.ha xS.hN xS.hc) ∧ w'.cell? ⟨BS, 4, none⟩ = some (.int .i64 xS.bits) ∧ w'.cell? ⟨BP, 0, none⟩ = some (.bool xP.ln) ∧ w'.cell? ⟨BP, 1, none⟩ = some (.slice xP.la xP.lN xP.lc) ∧ w'.cell? ⟨BP, 2, none⟩ = some (.bool xP.hn) ∧ w'.cell? ⟨BP, 3, none⟩ = some (.slice xP.ha xP.hN xP.hc) ∧ w'.cell? ⟨BP, 4, none⟩ = some (.int .i64 xP.bits) ∧ w'.cell? ⟨BZ, 0, none⟩ = some (.bool xZ.ln) ∧ w'.cell? ⟨BZ, 1, none⟩ = some (.slice xZ.la xZ.lN xZ.lc) ∧ w'.cell? ⟨BZ, 2, none⟩ = some (.bool xZ.hn) ∧ w'.cell? ⟨BZ, 3, none⟩ = some (.slice xZ.ha xZ.hN xZ.hc) ∧ w'.cell? ⟨BZ, 4, none⟩ = some (.int .i64 xZ.bits)) from fun w' hB => ⟨(A.below hB).c0, (A.below hB).c1, (D.below hB).c0, (D.below hB).c1, (X0.below hB).c0, (X0.below hB).c1, (Y0.below hB).c0, (Y0.below hB).c1, (L0.below hB).c0, (L0.below hB).c1, (E0.below hB).c0, (E0.below hB).c1, (XSC.below hB).c0, (XSC.below hB).c1, (XSC.below hB).c2, (XSC.below hB).c3, (XSC.below hB).c4, (XPC.below hB).c0, (XPC.below hB).c1, (XPC.below hB).c2, (XPC.below hB).c3, (XPC.below hB).c4, (XZC.below hB).c0, (XZC.below hB).c1, (XZC.below hB).c2, (XZC.below hB).c3, (XZC.below hB).c4⟩)
  have hF0 : Below V9.heap.size V9 V9.drew := (Below.refl _ _).drew
  have nR1 : w.heap.size + 1 + 1 + 1 + 1 ≠ BS := by omega
  have nR2 : w.heap.size + 1 + 1 + 1 + 1 ≠ BP := by omega
  have nR3 : w.heap.size + 1 + 1 + 1 + 1 ≠ BZ := by omega
  have nR4 : w.heap.size + 1 + 1 + 1 + 1 ≠ w0.heap.size := by omega
  have nR5 : w.heap.size + 1 + 1 + 1 + 1 ≠ w3.heap.size := by omega
  have nR6 : w.heap.size + 1 + 1 + 1 + 1 ≠ w.heap.size := by omega
  have nR7 : w.heap.size + 1 + 1 + 1 + 1 ≠ w.heap.size + 1 := by omega
  have nR8 : w.heap.size + 1 + 1 + 1 + 1 ≠ w.heap.size + 1 + 1 := by omega
  have nR9 : w.heap.size + 1 + 1 + 1 + 1 ≠ w.heap.size + 1 + 1 + 1 := by omega
  have nRa : w.heap.size + 1 + 1 ≠ w.heap.size := by omega
  have nRb : w.heap.size + 1 + 1 + 1 ≠ w.heap.size := by omega
  go_wp2_with fail
  obtain ⟨x0, x1, x2, x3, x4, x5, x6, x7, x8, x9, x10, x11, x12, x13, x14, x15, x16, x17, x18, x19, x20, x21, x22, x23, x24, x25, x26⟩ := unhide HK10 _ (Below.refl _ _)
  go_region_held3 (fun w' => w'.cell? ⟨w.heap.size + 1 + 1, 0, none⟩ = some (.int .i64 p) ∧ w'.cell? ⟨w.heap.size + 1 + 1, 1, none⟩ = some (.int .i64 q) ∧ w'.cell? ⟨w.heap.size + 1 + 1 + 1, 0, none⟩ = some (.int .i64 r) ∧ w'.cell? ⟨w.heap.size + 1 + 1 + 1, 1, none⟩ = some (.int .i64 s) ∧ w'.cell? ⟨w.heap.size, 0, none⟩ = some (.bool x.neg) ∧ w'.cell? ⟨w.heap.size, 1, none⟩ = some (.slice x.a x.n x.cap) ∧ w'.cell? ⟨w.heap.size + 1, 0, none⟩ = some (.bool y.neg) ∧ w'.cell? ⟨w.heap.size + 1, 1, none⟩ = some (.slice y.a y.n y.cap) ∧ w'.cell? ⟨w0.heap.size, 0, none⟩ = some (.bool (⟨negL, aL, nL, cL⟩ : Nm).neg) ∧ w'.cell? ⟨w0.heap.size, 1, none⟩ = some (.slice (⟨negL, aL, nL, cL⟩ : Nm).a (⟨negL, aL, nL, cL⟩ : Nm).n (⟨negL, aL, nL, cL⟩ : Nm).cap) ∧ w'.cell? ⟨w3.heap.size, 0, none⟩ = some (.int .i64 (p * s + r * q)) ∧ w'.cell? ⟨w3.heap.size, 1, none⟩ = some (.int .i64 (q * s)) ∧ w'.cell? ⟨BS, 0, none⟩ = some (.bool xS.ln) ∧ w'.cell? ⟨BS, 1, none⟩ = some (.slice xS.la xS.lN xS.lc) ∧ w'.cell? ⟨BS, 2, none⟩ = some (.bool xS.hn) ∧ w'.cell? ⟨BS, 3, none⟩ = some (.slice xS.ha xS.hN xS.hc) ∧ w'.cell? ⟨BS, 4, none⟩ = some (.int .i64 xS.bits) ∧ w'.cell? ⟨BP, 0, none⟩ = some (.bool xP.ln) ∧ w'.cell? ⟨BP, 1, none⟩ = some (.slice xP.la xP.lN xP.lc) ∧ w'.cell? ⟨BP, 2, none⟩ = some (.bool xP.hn) ∧ w'.cell? ⟨BP, 3, none⟩ = some (.slice xP.ha xP.hN xP.hc) ∧ w'.cell? ⟨BP, 4, none⟩ = some (.int .i64 xP.bits) ∧ w'.cell? ⟨BZ, 0, none⟩ = some (.bool xZ.ln) ∧ w'.cell? ⟨BZ, 1, none⟩ = some (.slice xZ.la xZ.lN xZ.lc) ∧ w'.cell? ⟨BZ, 2, none⟩ = some (.bool xZ.hn) ∧ w'.cell? ⟨BZ, 3, none⟩ = some (.slice xZ.ha xZ.hN xZ.hc) ∧ w'.cell? ⟨BZ, 4, none⟩ = some (.int .i64 xZ.bits)) (first | exact unhide HK10 _ (by first | with_reducible exact hF0 | with_reducible exact hF4 | with_reducible exact hF3 | with_reducible exact hF2 | with_reducible exact hF1) | go_keep)
    (first
      | (go_at_call 129; have hq := hF3; refine (upToOne_int _ f3 _ b _ _ hfp3 (unhide F3) (by omega) (by omega) (by omega)).mono ?_; rintro r' g4 ⟨f4, rfl, hfb4, hfp4, hg4⟩; rw [minZ_cap] at hfp4; have F4 := hide hfb4; clear hfb4; have hF4 := bthen hF3 hg4; obtain ⟨q0, q1, q2, q3, q4, q5⟩ := R.below hF4)
      | (go_at_call 130; have hq := hF2; refine (wideDiv_any _ xS f2 98400 b (puSer p q r s n d b NS).1 (puSer p q r s n d b NS).2 (puE p q r s b (o1, o2) (o3, o4) (o5, o6) (lg, ug) t NE).1 (puE p q r s b (o1, o2) (o3, o4) (o5, o6) (lg, ug) t NE).2 (((unhide HSP).below hF2).mono (by omega)) hfp2 (by omega) (by omega) (unhide HSB) (unhide HRES).2.2.2.1 (fun hh => absurd hh.1 (Int.not_le.2 (unhide HRES).1)) (unhide HRES).2.1).mono ?_; rintro r' g3 ⟨f3, rfl, hfb3, hfp3, hg3⟩; have F3 := hide hfb3; clear hfb3; have hF3 := bthen hF2 hg3)
      | (go_at_call 131; have hq := hF1; refine (wideExp_iv _ f1 98400 b t NE (puY p q r s (o1, o2) (o3, o4) (o5, o6) (lg, ug)) l (SpAt.mono (show SpAt _ f1 536 (puY p q r s (o1, o2) (o3, o4) (o5, o6) (lg, ug)).1 (puY p q r s (o1, o2) (o3, o4) (o5, o6) (lg, ug)).2 from hfp1) (by omega)) (unhide F1) (unhide HYL) (by omega) (by omega) (unhide HE1) (unhide HE2) (by omega) (unhide HE4) (unhide HE5) (unhide HQE) (by omega)).mono ?_; rintro r' g2 ⟨f2, rfl, hfb2, hfp2, hg2⟩; clear hfb2; have hF2 := bthen hF1 hg2)
      | (go_at_call 56; refine (add_iv _ xP xZ 535 b (addI (scaleI (o1, o2) p q) (scaleI (o3, o4) r s)) (addI (o5, o6) (lg, ug)) ((unhide HPP).below hF0) (((unhide HZP).below hF0).mono (by omega)) (by omega) (unhide HPB)).mono ?_; rintro r' g1 ⟨f1, rfl, hfb1, hfp1, hg1⟩; have F1 := hide hfb1; clear hfb1; have hF1 := bthen hF0 hg1))
  all_goals
    have fit := SpAt.fits (K := 30) (show SpAt g4 f4 _ (dvLo (puSer p q r s n d b NS).1 (puSer p q r s n d b NS).2 (puE p q r s b (o1, o2) (o3, o4) (o5, o6) (lg, ug) t NE).1 (puE p q r s b (o1, o2) (o3, o4) (o5, o6) (lg, ug) t NE).2 b) (luHi (puSer p q r s n d b NS) (puE p q r s b (o1, o2) (o3, o4) (o5, o6) (lg, ug) t NE) b) from hfp4) (lw_fit (unhide HRES).2.2.2.2 b1).1 (lw_fit (unhide HRES).2.2.2.2 b1).2.1 (lw_fit (unhide HRES).2.2.2.2 b1).2.2
    go_wp2_with fail
    refine bodyPost_ret (v := .agg #[.bool f4.ln, .slice f4.la f4.lN f4.lc, .bool f4.hn, .slice f4.ha f4.hN f4.hc, .int .i64 f4.bits]) (by simp [results, Try.results76, go_sem, q0, q1, q2, q3, q4]) rfl ⟨_, _, (unhide HRES).2.2.2.2, f4, rfl, unhide F4, ?_, ?_⟩
    · exact SpAt.put5 fit q0 q1 q2 q3 q4 _ _ _ _ _
    · exact set5 (bthen hBW hF4) (by omega) _ _ _ _ _
end Go.Proofs.Ytgmnknmjainabab
namespace Go.Proofs.Ytgmnknmjainabab
open Go.RowKit
attribute [local go_sem ↓] Go.wp_at_zero Go.wp_at_succ
open Ex
set_option maxRecDepth 100000 in
set_option maxHeartbeats 4000000 in
theorem logGamma_iv2 (L : Rat → Nat → Rat) (hL : Lns L) (w : World) (n d : Int) (b : Nat) (g x : Nat → Rat) (h : StIn n d) (hn : n ≤ 4611686018427387904) (hb0 : 40 ≤ b) (hb : b ≤ 1000) (hg : Gam1 L (((n - (stN n d : Int) * d) : Int) / (d : Rat)) g) (hgp : ∃ c : Rat, 0 < c ∧ ∃ N : Nat, ∀ M, N ≤ M → c ≤ g M) (hx : IsLog x (gmV n d g)) :
    Calls Try.prog 120 #[.int .i64 n, .int .i64 d, .int .i64 b] w (fun r w' => ∃ lo hi, LgP2 x b lo hi ∧ SpanAns w b 521 lo hi r w') := by
  have HI := hide (h.in_ (B := b) (by omega) (by omega))
  have k200 := h.rest.2.2
  have HPQ := hide (show 0 < stP n d (stN n d) ∧ 0 < stQ d (stN n d) from ⟨stP_pos h (Nat.le_refl _), stQ_pos h.d0 _⟩)
  have H := hide h
  have HL := hide hL
  have HG := hide hg
  have HGP := hide hgp
  have HX0 := hide hx
  have HQ4 := hide (show Q (b + 4) < P 500 by
    rw [← Q_P]
    have h1 := Q_mono (show b + 4 + 1 ≤ 16 * 500 by omega)
    have h2 : Q (b + 4 + 1) = 2 * Q (b + 4) := rfl
    have := Q_pos (b + 4)
    omega)
  clear h hL hg hgp hx
  have R := noc_new w 28
  have hBW : Below w.heap.size w (w.alloc (.cells #[.bool false, .slice none 0 0, .bool false, .slice none 0 0, .int .i64 0] 28)) := bl1 _ _
  go_enter Try.func120, Try.ntmps120
  go_wp2_with fail
  refine (steps_int _ n d (unhide H) hn).mono ?_
  rintro r w1 ⟨X, Y, rfl, hX, hY, hb1⟩
  replace R := R.below hb1
  replace hBW := bthen hBW hb1
  clear hb1
  have lR := R.lt
  obtain ⟨V, hV⟩ : ∃ V, V = (w1.alloc (.cells #[.bool X.neg, .slice X.a X.n X.cap] 26)).alloc (.cells #[.bool Y.neg, .slice Y.a Y.n Y.cap] 26) := ⟨_, rfl⟩
  have bV : Below w1.heap.size w1 V := by rw [hV]; exact bl2 _ _ _
  have CX : NmC V w1.heap.size X := by rw [hV]; exact ⟨by simp [go_sem], by simp [go_sem]⟩
  have CY : NmC V (w1.heap.size + 1) Y := by rw [hV]; exact ⟨by simp [go_sem], by simp [go_sem]⟩
  have HX := hide ((hX.mono (show 4 * stN n d + 4 ≤ 804 by omega)).below bV)
  have HY := hide ((hY.mono (show 4 * stN n d + 4 ≤ 804 by omega)).below bV)
  replace R := R.below bV
  replace hBW := bthen hBW bV
  have lX := CX.lt
  have lY := CY.lt
  have lR2 := R.lt
  have HK := hide (show ∀ w', Below V.heap.size V w' → (w'.cell? ⟨w1.heap.size, 0, none⟩ = some (.bool X.neg) ∧ w'.cell? ⟨w1.heap.size, 1, none⟩ = some (.slice X.a X.n X.cap) ∧ w'.cell? ⟨(w1.heap.size + 1), 0, none⟩ = some (.bool Y.neg) ∧ w'.cell? ⟨(w1.heap.size + 1), 1, none⟩ = some (.slice Y.a Y.n Y.cap)) from fun w' hB => ⟨(CX.below hB).c0, (CX.below hB).c1, (CY.below hB).c0, (CY.below hB).c1⟩)
  clear hX hY bV CX CY
  go_wp2_with fail
  rw [← hV]
  clear hV
  have hD0 : Below V.heap.size V V.drew := (Below.refl _ _).drew
  obtain ⟨x0, x1, x2, x3⟩ := unhide HK _ (Below.refl _ _)
  have m1 : w.heap.size ≠ w1.heap.size := by omega
  have m2 : w.heap.size ≠ w1.heap.size + 1 := by omega
  go_region_held3 (fun w' => w'.cell? ⟨w1.heap.size, 0, none⟩ = some (.bool X.neg) ∧ w'.cell? ⟨w1.heap.size, 1, none⟩ = some (.slice X.a X.n X.cap) ∧ w'.cell? ⟨(w1.heap.size + 1), 0, none⟩ = some (.bool Y.neg) ∧ w'.cell? ⟨(w1.heap.size + 1), 1, none⟩ = some (.slice Y.a Y.n Y.cap)) (first | exact unhide HK _ (by first | with_reducible exact hD0 | with_reducible exact hD4 | with_reducible exact hD3 | with_reducible exact hD2 | with_reducible exact hD1) | go_keep)
    (first
      | (go_at_call 56; have hqq := hD3; refine (add_iv _ v2 v3 520 b (p1, r2) (lnOf (doneI (lnT n' d' b) N1) (doneI (lnT 2 1 b) N2) cc) (hint2.below hb3) hint3 (by omega) (unhide F2)).mono ?_; rintro r' w4 ⟨t, rfl, htb, htp, hb4⟩; have HT := hide htb; clear htb; have hD4 := bthen hD3 hb4; obtain ⟨q0, q1, q2, q3, q4, q5⟩ := R.below hD4; obtain ⟨i0, i1, i2, i3⟩ := unhide HK _ hD4)
      | (go_at_call 128; have hqq := hD2; refine (wideLog_iv _ X Y 804 b 500 (stP n d (stN n d)) (stQ d (stN n d)) ((unhide HX).below hD2) ((unhide HY).below hD2) (by omega) (unhide HPQ).1 (unhide HPQ).2 (by omega) (by omega) (unhide HQ4) (by omega)).mono ?_; rintro r' w3 ⟨n', d', cc, N1, N2, hbal, hc1, hc2, hN1, hN2, v3, rfl, hvb3, hint3, hb3⟩; clear hvb3; have hD3 := bthen hD2 hb3; have HX3 := hide (And.intro hbal (And.intro hc1 (And.intro hc2 (And.intro hN1 hN2)))); clear hbal hc1 hc2 hN1 hN2)
      | (go_at_call 151; have hqq := hD1; refine (logSpan_iv _ v1 b (lo, hi) hint1 (unhide F1) (by omega) (by omega) (unhide HGV).pos (unhide HGV).le).mono ?_; rintro r' w2 ⟨p1, p2, r1, r2, l1, l2, hls, hk1, hk2, v2, rfl, hvb2, hint2, hb2⟩; have F2 := hide hvb2; have HLS := hide (And.intro hls (And.intro hk1 hk2)); clear hvb2 hls hk1 hk2; have hD2 := bthen hD1 hb2)
      | (go_at_call 100; refine (gammaBelow_iv L (unhide HL) _ (n - (stN n d : Int) * d) d b g (unhide HI) (unhide HG)).mono ?_; rintro r' wg ⟨lo, hi, hgv, v1, rfl, hvb1, hint1, hb1⟩; have F1 := hide hvb1; have HGV := hide hgv; clear hvb1 hgv; have hD1 := bthen hD0 hb1))
  all_goals
    go_wp2_with fail
    obtain ⟨ls, k1, k2⟩ := unhide HLS
    obtain ⟨bal, c1, c2, s1, s2⟩ := unhide HX3
    obtain ⟨lp, g1, i1'⟩ := log_has (unhide HPQ).1 (unhide HPQ).2 bal b N1 N2
    refine bodyPost_ret (v := .agg #[.bool t.ln, .slice t.la t.lN t.lc, .bool t.hn, .slice t.ha t.hN t.hc, .int .i64 t.bits]) (by simp [results, Try.results120, go_sem, q0, q1, q2, q3, q4]) rfl ⟨_, _, lgam_ok2 (unhide H) hb0 hb (unhide HGV) ls g1 i1' k1 k2 (lb_of (by omega) hb bal.1 s1 s2 804 (by omega) c1 c2) (unhide HX0) (unhide HGP) (unhide HL), t, rfl, unhide HT, ?_, ?_⟩
    · exact SpAt.put5 htp q0 q1 q2 q3 q4 _ _ _ _ _
    · exact set5 (bthen hBW hD4) (by omega) _ _ _ _ _
end Go.Proofs.Ytgmnknmjainabab
namespace Go.Proofs.Ytgmnknmjainabab
open Go.RowKit
attribute [local go_sem ↓] Go.wp_at_zero Go.wp_at_succ
def ShF (p q : Nat → Int) (n : Nat) (z : Int) : Prop := (z = 5 ∧ ∃ j, j < n ∧ p j ≤ 0) ∨ (z = 2 ∧ (∀ j, j < n → 0 < p j) ∧ ∃ j, j < n ∧ 100 * q j < p j) ∨ (z = 0 ∧ ∀ j, j < n → 0 < p j ∧ p j ≤ 100 * q j)
def ShW (p q : Nat → Int) (i : Nat) (z : Int) : Prop := (∀ j, j < i → 0 < p j) ∧ ((z = 0 ∧ ∀ j, j < i → p j ≤ 100 * q j) ∨ (z = 2 ∧ ∃ j, j < i ∧ 100 * q j < p j))
theorem ShW.ok {p q : Nat → Int} {i : Nat} {z : Int} (h : ShW p q i z) (h0 : 0 < p i) (h1 : p i ≤ 100 * q i) : ShW p q (i + 1) z := by
  obtain ⟨a, b⟩ := h
  refine ⟨fun j hj => ?_, ?_⟩
  · by_cases e : j = i
    · subst e; exact h0
    · exact a j (by omega)
  · rcases b with ⟨e, b⟩ | ⟨e, j, hj, b⟩
    · refine Or.inl ⟨e, fun j hj => ?_⟩
      by_cases e : j = i
      · subst e; exact h1
      · exact b j (by omega)
    · exact Or.inr ⟨e, j, by omega, b⟩
theorem ShW.many {p q : Nat → Int} {i : Nat} {z : Int} (h : ShW p q i z) (h0 : 0 < p i) (h1 : 100 * q i < p i) : ShW p q (i + 1) 2 := by
  refine ⟨fun j hj => ?_, Or.inr ⟨rfl, i, by omega, h1⟩⟩
  by_cases e : j = i
  · subst e; exact h0
  · exact h.1 j (by omega)
theorem ShW.fin {p q : Nat → Int} {n : Nat} {z : Int} (h : ShW p q n z) : ShF p q n z := by
  obtain ⟨a, b⟩ := h
  rcases b with ⟨e, b⟩ | ⟨e, b⟩
  · exact Or.inr (Or.inr ⟨e, fun j hj => ⟨a j hj, b j hj⟩⟩)
  · exact Or.inr (Or.inl ⟨e, a, b⟩)
set_option maxRecDepth 100000 in
set_option maxHeartbeats 2000000 in
theorem shapeFault_any (b n cap : Nat) (p q : Nat → Int) (w : World) (h : Rats w b n p q) (hn : n ≤ 1000) (hr : ∀ j, j < n → rok (p j) (q j)) :
    Calls Try.prog 95 #[.slice (some ⟨b, 0, none⟩) n cap] w fun r w' => ∃ z, r = .returned (.int .i64 z) ∧ ShF p q n z ∧ Below w.heap.size w w' := by
  have hblt := h.lt
  have HH := hide h
  have HR := hide hr
  clear h hr
  go_enter Try.func95, Try.ntmps95
  go_wp2
  go_loopw [3, 8] (fun ee ii wr => ∃ (i : Nat) (z : Int), i ≤ n ∧ ii = .int .i64 i ∧ ee = .int .i64 z ∧ ShW p q i z ∧ Below w.heap.size w wr) (fun _ ii _ => n - (intOf ii).toNat)
  case atStart => exact ⟨0, 0, by omega, rfl, rfl, ⟨fun j hj => by omega, Or.inl ⟨rfl, fun j hj => by omega⟩⟩, Below.refl _ _⟩
  case round =>
    obtain ⟨i, z, hi, rfl, rfl, hz, hB⟩ := hrel
    by_cases hin : i < n
    · have H2 := (unhide HH).below hB
      have g0 := H2.c0 i hin
      have g1 := H2.c1 i hin
      have hi1 : (i : Int) < (n : Int) := by omega
      have HZ := hide hz
      have rk := unhide HR i hin
      clear hz H2
      by_cases hp : p i ≤ 0
      · go_wp2_with fail
        go_ret
        exact ⟨5, rfl, Or.inl ⟨rfl, i, hin, hp⟩, balloc hB _⟩
      · obtain ⟨r1, r2, r3, r4⟩ := rk
        by_cases hc : p i ≤ 100 * q i
        · have hc' : withinB (p i) (q i) 100 = true := by unfold withinB; simp; omega
          have HC := hide (And.intro hp hc)
          have hp' : ¬ p i ≤ 0 := hp
          clear hc
          go_wp2_with (go_at_call 145; refine (within_any _ _ 100 _ (by omega) (by omega) (by omega) (by omega)).mono ?_; rintro r w1 ⟨rfl, hb1⟩; rw [hc'])
          go_roundw
          case rel => exact ⟨i + 1, z, by omega, by go_num, rfl, (unhide HZ).ok (by have := (unhide HC).1; omega) (unhide HC).2, bthen (balloc hB _) hb1⟩
          case measure => simp [intOf]; omega
        · have hc' : withinB (p i) (q i) 100 = false := by unfold withinB; simp; omega
          have HC := hide (And.intro hp hc)
          have hp' : ¬ p i ≤ 0 := hp
          clear hc
          go_wp2_with (go_at_call 145; refine (within_any _ _ 100 _ (by omega) (by omega) (by omega) (by omega)).mono ?_; rintro r w1 ⟨rfl, hb1⟩; rw [hc'])
          go_roundw
          case rel => exact ⟨i + 1, 2, by omega, by go_num, rfl, (unhide HZ).many (by have := (unhide HC).1; omega) (by have := (unhide HC).2; omega), bthen (balloc hB _) hb1⟩
          case measure => simp [intOf]; omega
    · have hiE : i = n := by omega
      subst hiE
      have hi1 : ¬ (i : Int) < (i : Int) := by omega
      have HZ := hide hz
      clear hz
      go_wp2_with fail
      go_ret
      exact ⟨z, rfl, (unhide HZ).fin, hB⟩
end Go.Proofs.Ytgmnknmjainabab
namespace Go.Proofs.Ytgmnknmjainabab
open Go.RowKit
attribute [local go_sem ↓] Go.wp_at_zero Go.wp_at_succ
def DivsAll (p q a b : Int) : Prop := ∀ c : Int, c ∣ a → c ∣ b → c ∣ p ∧ c ∣ q
theorem DivsAll.step {p q a b : Int} (h : DivsAll p q a b) : DivsAll p q b (a % b) := fun c h1 h2 => by
  refine h c ?_ h1
  have e := Int.mul_ediv_add_emod a b
  rw [← e]
  exact Int.dvd_add (Int.dvd_trans h1 (Int.dvd_mul_right _ _)) h2
def LowOf (p q p' q' : Int) : Prop := ∃ g : Int, 0 < g ∧ p = g * p' ∧ q = g * q'
structure Low2 (w wr : World) (p q : Int) : Prop where
  y0 : wr.cell? ⟨w.heap.size, 0, none⟩ = some (.int .i64 p)
  y1 : wr.cell? ⟨w.heap.size, 1, none⟩ = some (.int .i64 q)
  u0 : wr.cell? ⟨w.heap.size + 1, 0, none⟩ = some (.int .i64 0)
  u1 : wr.cell? ⟨w.heap.size + 1, 1, none⟩ = some (.int .i64 0)
  u2 : ∀ o, wr.frozen? ⟨w.heap.size + 1, o, none⟩ = false
  be : Below w.heap.size w wr
theorem Low2.drew {w wr : World} {p q : Int} (h : Low2 w wr p q) : Low2 w wr.drew p q := by
  obtain ⟨y0, y1, u0, u1, u2, hB⟩ := h
  have l1 : w.heap.size + 1 < wr.heap.size := World.block_lt_of_cell? wr ⟨w.heap.size + 1, 0, none⟩ u0
  have b : Below wr.heap.size wr wr.drew := (Below.refl _ _).drew
  exact ⟨(b.cell (p := ⟨w.heap.size, 0, none⟩) (Nat.lt_of_succ_lt l1)).trans y0, (b.cell (p := ⟨w.heap.size, 1, none⟩) (Nat.lt_of_succ_lt l1)).trans y1, (b.cell (p := ⟨w.heap.size + 1, 0, none⟩) l1).trans u0, (b.cell (p := ⟨w.heap.size + 1, 1, none⟩) l1).trans u1, fun o => (b.frozen (p := ⟨w.heap.size + 1, o, none⟩) l1).trans (u2 o), bthen hB b⟩
end Go.Proofs.Ytgmnknmjainabab
namespace Go.Proofs.Ytgmnknmjainabab
open Go.RowKit
attribute [local go_sem ↓] Go.wp_at_zero Go.wp_at_succ
theorem LowOf.pos {p q p1 q1 : Int} (h : LowOf p q p1 q1) (hp : 0 < p) : 0 < p1 := by
  obtain ⟨g, g0, rfl, rfl⟩ := h
  exact Int.pos_of_mul_pos_right hp (by omega)
theorem LowOf.pos2 {p q p1 q1 : Int} (h : LowOf p q p1 q1) (hq : 0 < q) : 0 < q1 := by
  obtain ⟨g, g0, rfl, rfl⟩ := h
  exact Int.pos_of_mul_pos_right hq (by omega)
theorem LowOf.le {p q p1 q1 c : Int} (h : LowOf p q p1 q1) (hc : p ≤ c * q) : p1 ≤ c * q1 := by
  obtain ⟨g, g0, rfl, rfl⟩ := h
  have e : c * (g * q1) = g * (c * q1) := by grind
  rw [e] at hc
  exact Int.le_of_mul_le_mul_left hc g0
theorem LowOf.le2 {p q p1 q1 c : Int} (h : LowOf p q p1 q1) (hc : q ≤ c * p) : q1 ≤ c * p1 := by
  obtain ⟨g, g0, rfl, rfl⟩ := h
  have e : c * (g * p1) = g * (c * p1) := by grind
  rw [e] at hc
  exact Int.le_of_mul_le_mul_left hc g0
theorem LowOf.ge {p q p1 q1 c : Int} (h : LowOf p q p1 q1) (hc : -(c * q) ≤ p) : -(c * q1) ≤ p1 := by
  obtain ⟨g, g0, rfl, rfl⟩ := h
  have e : -(c * (g * q1)) = g * -(c * q1) := by grind
  rw [e] at hc
  exact Int.le_of_mul_le_mul_left hc g0
theorem LowOf.small {p q p1 q1 : Int} (h : LowOf p q p1 q1) (hp : 0 < p) : p1 ≤ p := by
  have h1 := h.pos hp
  obtain ⟨g, g0, rfl, rfl⟩ := h
  have := Int.mul_le_mul_of_nonneg_right (show 1 ≤ g by omega) (show 0 ≤ p1 by omega)
  omega
structure ExS (w wr : World) (p q kn kd : Int) : Prop where
  r : RaC wr w.heap.size p q
  fr : ∀ o, wr.frozen? ⟨w.heap.size, o, none⟩ = false
  k : RaC wr (w.heap.size + 1) kn kd
  fk : ∀ o, wr.frozen? ⟨w.heap.size + 1, o, none⟩ = false
  no : NoC wr (w.heap.size + 1 + 1)
  be : Below w.heap.size w wr
theorem ExS.below {w wr wr' : World} {p q kn kd : Int} (h : ExS w wr p q kn kd) (hb : Below wr.heap.size wr wr') : ExS w wr' p q kn kd :=
  ⟨h.r.below hb, fun o => (hb.frozen (p := ⟨w.heap.size, o, none⟩) h.r.lt).trans (h.fr o), h.k.below hb, fun o => (hb.frozen (p := ⟨w.heap.size + 1, o, none⟩) h.k.lt).trans (h.fk o), h.no.below hb, bthen h.be hb⟩
theorem RaC.off {w : World} {B B' : Nat} {p q : Int} (h : RaC w B p q) (hne : B ≠ B') (u0 u1 : Value) : RaC ((w.setCell ⟨B', 0, none⟩ u0).setCell ⟨B', 1, none⟩ u1) B p q := by
  obtain ⟨q0, q1⟩ := h
  constructor <;> simp [go_sem, q0, q1, hne, Ne.symm hne]
theorem ExS.drew {w wr : World} {p q kn kd : Int} (h : ExS w wr p q kn kd) : ExS w wr.drew p q kn kd := h.below (Below.refl _ _).drew
end Go.Proofs.Ytgmnknmjainabab
namespace Go.Proofs.Ytgmnknmjainabab
open Go.RowKit
attribute [local go_sem ↓] Go.wp_at_zero Go.wp_at_succ
theorem rats2 (w : World) (p q kn kd : Int) (T : TypeId) : Rats (w.alloc (.cells #[.int .i64 p, .int .i64 q, .int .i64 kn, .int .i64 kd] T)) w.heap.size 2 (fun j => if j = 0 then p else kn) (fun j => if j = 0 then q else kd) := by
  refine ⟨by simp, ?_, ?_⟩
  all_goals
    intro j hj
    match j, hj with
    | 0, _ => simp
    | 1, _ => simp
end Go.Proofs.Ytgmnknmjainabab
namespace Go.Proofs.Ytgmnknmjainabab
open Go.RowKit
attribute [local go_sem ↓] Go.wp_at_zero Go.wp_at_succ
open Ex
theorem RFlt.uniq {bt : Int} {p q : Nat → Int} {n : Nat} {z z' : Int} (h : RFlt bt p q n z) (h' : RFlt bt p q n z') : z = z' := by
  rcases h with ⟨a, b⟩ | ⟨a, b⟩ <;> rcases h' with ⟨c, d⟩ | ⟨c, d⟩
  · omega
  · exact absurd b d
  · exact absurd d b
  · omega
theorem ShF.uniq {p q : Nat → Int} {n : Nat} {z z' : Int} (h : ShF p q n z) (h' : ShF p q n z') : z = z' := by
  rcases h with ⟨a, j, hj, b⟩ | ⟨a, b, j, hj, c⟩ | ⟨a, b⟩ <;> rcases h' with ⟨d, i, hi, e⟩ | ⟨d, e, i, hi, f⟩ | ⟨d, e⟩
  · omega
  · have := e j hj; omega
  · have := (e j hj).1; omega
  · have := b i hi; omega
  · omega
  · have := (e j hj).2; omega
  · have := (b i hi).1; omega
  · have := (b i hi).2; omega
  · omega
def GmE (bt : Int) (p q : Nat → Int) (n : Nat) (z : Int) : Prop := RFlt bt p q n z ∧ z = 3 ∨ RFlt bt p q n 0 ∧ ShF p q n z
def gE1 (p q bt : Int) : Int := if ¬ (rok p q ∧ 8 ≤ bt ∧ bt ≤ 120) then 3 else if p ≤ 0 then 5 else if 100 * q < p then 2 else 0
def gE2 (p1 q1 p2 q2 bt : Int) : Int := if ¬ ((rok p1 q1 ∧ rok p2 q2) ∧ 8 ≤ bt ∧ bt ≤ 120) then 3 else if p1 ≤ 0 ∨ p2 ≤ 0 then 5 else if 100 * q1 < p1 ∨ 100 * q2 < p2 then 2 else 0
theorem two_all {P : Nat → Prop} (h0 : P 0) (h1 : P 1) : ∀ j, j < 2 → P j := fun j hj => by
  match j, hj with
  | 0, _ => exact h0
  | 1, _ => exact h1
theorem rats2' (w : World) (B : Nat) (hB : w.heap.size = B) (p q kn kd : Int) (T : TypeId) : Rats (w.alloc (.cells #[.int .i64 p, .int .i64 q, .int .i64 kn, .int .i64 kd] T)) B 2 (fun j => if j = 0 then p else kn) (fun j => if j = 0 then q else kd) := by subst hB; exact rats2 w p q kn kd T
theorem RFlt.all {bt : Int} {p q : Nat → Int} {n : Nat} (h : RFlt bt p q n 0) : ∀ j, j < n → rok (p j) (q j) := by
  rcases h with ⟨_, _, k⟩ | ⟨k, _⟩
  · exact k
  · omega
end Go.Proofs.Ytgmnknmjainabab
namespace Go.Proofs.Ytgmnknmjainabab
open Go.RowKit
attribute [local go_sem ↓] Go.wp_at_zero Go.wp_at_succ
open Ex
def uE (p q n d bt : Int) : Int := if ¬ ((rok p q ∧ rok n d) ∧ 8 ≤ bt ∧ bt ≤ 120) then 3 else if n < 0 then 5 else if p ≤ 0 then 5 else if 100 * q < p then 2 else 0
theorem lw_ends (x : Nat → Rat) {bits : Nat} (hb : bits ≤ 120) : SureEnds bits 89 (LwPr x) := fun m lo hi h => by
  have q : Q (bits + m) ≤ P 200 * Q m := Q_fit (b := bits) (m := m) (k := 0) (by omega)
  have := h.hi
  have := h.lo
  have p := Int.mul_nonneg (show 0 ≤ P 200 by have := P_pos 200; omega) (show 0 ≤ Q m by have := Q_pos m; omega)
  exact ⟨h.le, h.wd, by omega, by omega⟩
theorem sure_lw {x : Nat → Rat} {b : Nat} {L H : Int} (h : SureOf b (LwPr x) L H) : SuV x b L H ∧ 0 ≤ L ∧ H ≤ Q b := by
  refine ⟨sure_su h fun B lo hi p => ⟨p.le, p.iv⟩, ?_⟩
  obtain ⟨m, lo, hi, pr, hm, e1, e2, h6⟩ := h
  have q := Q_pos m
  refine ⟨by rw [e1]; exact Int.ediv_nonneg pr.lo (by omega), ?_⟩
  have e : Q (b + m) = Q b * Q m := Q_add b m
  have hh := pr.hi
  have p0 := pr.lo
  have pl := pr.le
  have r := (round_abs (x := hi) (m := Q b) (q := Q m) (by omega) (by
    have := Int.mul_nonneg (show 0 ≤ Q b by have := Q_pos b; omega) (show 0 ≤ Q m by omega)
    omega) (by omega)).2.2.2
  rw [e2]; exact r
theorem lw_rest {x : Nat → Rat} {B : Nat} {l u : Int} (h : LwPr x B l u) : LwPr (fun M => 1 - x M) B (restI B (l, u)).1 (restI B (l, u)).2 := by
  have i : Iv B (subI (Q B, Q B) (l, u)) (fun M => 1 - x M) := (one_iv B).sub h.iv
  have h1 := h.lo
  have h2 := h.le
  have h3 := h.hi
  have h4 := h.wd
  have e1 : (restI B (l, u)).1 = Q B - u := rfl
  have e2 : (restI B (l, u)).2 = Q B - l := rfl
  exact ⟨by omega, by omega, by omega, by omega, i⟩
end Go.Proofs.Ytgmnknmjainabab
