/-
  Texts Gmb, Gmc, Gmd, PowM, Erv, Erw, Erx, ErfV: what they hold is told in the last text.
-/
import Derived.Test.YtgmnknmjainababGreatK19
set_option linter.unnecessarySimpa false
set_option linter.unusedSimpArgs false
set_option linter.unusedVariables false
namespace Go.Proofs.YtgmnknmjainababGreat
open Go.RowKit
attribute [local go_sem ↓] Go.wp_at_zero Go.wp_at_succ
open Ex
set_option maxRecDepth 100000 in
set_option maxHeartbeats 8000000 in
theorem gammaBelow_iv (L : Rat → Nat → Rat) (hL : Lns L) (w : World) (n d : Int) (b : Nat) (g : Nat → Rat) (h : GaIn n d b) (hg : Gam1 L ((n : Rat) / (d : Rat)) g) :
    Calls Tryz.prog 115 #[.int .i64 n, .int .i64 d, .int .i64 b] w (fun r w' => ∃ lo hi : Int, GaV g b (lo, hi) ∧ SpanAns w b 70 lo hi r w') := by
  obtain ⟨W, hW⟩ : ∃ W, W = (((w.alloc (.cells #[.int .i64 n] 3)).alloc (.cells #[.int .i64 d] 3)).alloc (.cells #[.bool false, .slice none 0 0, .bool false, .slice none 0 0, .int .i64 0] 28)).alloc (.cells #[.int .i64 (b : Int)] 3) := ⟨_, rfl⟩
  have hBW : Below w.heap.size w W := by rw [hW]; exact bl4 _ _ _ _ _
  have N0 : IcC W (w.heap.size) n := by rw [hW]; exact ⟨by simp [go_sem]⟩
  have D0 : IcC W (w.heap.size + 1) d := by rw [hW]; exact ⟨by simp [go_sem]⟩
  have X0 : IcC W (w.heap.size + 1 + 1 + 1) (b : Int) := by rw [hW]; exact ⟨by simp [go_sem]⟩
  have R : NoC W (w.heap.size + 1 + 1) := by rw [hW]; exact ⟨by simp [go_sem], by simp [go_sem], by simp [go_sem], by simp [go_sem], by simp [go_sem], fun o => by simp [go_sem]⟩
  have n0 := h.n0
  have nd := h.nd
  have dd := h.dd
  have b0 := h.b0
  have b1 := h.b1
  have bd0 : 0 ≤ (b : Int) * d := Int.mul_nonneg (by omega) (by omega)
  have bd1 : (b : Int) * d ≤ 1000 * 2199023255552 := Int.mul_le_mul (by omega) dd (by omega) (by omega)
  have lX := X0.lt
  have H := hide h
  have HL := hide hL
  have HG := hide hg
  obtain ⟨NS, hNS, hNS2⟩ := ga_set h
  obtain ⟨f1, f2, f3, f4⟩ := ga_first h
  have PK : ∀ j : Nat, j ≤ 22000 → Q j < P 1400 := fun j hj => by
    rw [← Q_P]
    have h1 := Q_mono (show j + 1 ≤ 16 * 1400 by omega)
    have h2 : Q (j + 1) = 2 * Q j := rfl
    have := Q_pos j
    omega
  have HF0 := hide (show (ofI d n b).1 ≤ (ofI d n b).2 ∧ -P 1400 < (ofI d n b).1 ∧ (ofI d n b).2 < P 1400 by
    have := PK (b + 41) (by omega)
    have := Q_pos b
    exact ⟨f2, by omega, by omega⟩)
  have HTF := hide (show ∀ j, j ≤ NS → -P 1400 < (gaT n d b j).1 ∧ (gaT n d b j).2 < P 1400 from fun j _ => by
    have e := ga_each h j
    have u := ga_hi h j
    have := PK (21 * b + 41) (by omega)
    have := Q_pos (21 * b + 41)
    exact ⟨by omega, by omega⟩)
  have HTS := hide (show ∀ j, j ≤ NS → -P 1400 < (sumI (gaT n d b) j).1 ∧ (sumI (gaT n d b) j).2 < P 1400 from fun j hj => by
    have u := ga_fit h j (by omega)
    have l := (ga_wideS h j).2.2.2
    have := PK (21 * b + 60) (by omega)
    have := Q_pos b
    have := Q_pos (21 * b + 60)
    exact ⟨by omega, by omega⟩)
  have HTL := hide (fun j => (ga_each h j).2)
  have HT0 := hide (fun j => (ga_each h j).1)
  have HM := hide hNS2
  have HFN := hide (show ∀ (j : Nat) (u : Sp) w', j < NS → u.bits = (b : Int) → SpAt w' u 1400 (gaT n d b j).1 (gaT n d b j).2 → Below W.heap.size W w' → Calls Tryz.prog 165 #[.agg #[.bool u.ln, .slice u.la u.lN u.lc, .bool u.hn, .slice u.ha u.hN u.hc, .int .i64 u.bits], .int .i64 ((j : Int) + 1), .pointer (some ⟨w.heap.size + 1 + 1 + 1, 0, none⟩), .pointer (some ⟨w.heap.size + 1, 0, none⟩), .pointer (some ⟨w.heap.size, 0, none⟩)] w' (SpanAns w' b 1414 (gaT n d b (j + 1)).1 (gaT n d b (j + 1)).2) from fun j u w' hj hub hup hbw => by
    have e := ga1_iv w' (w.heap.size + 1 + 1 + 1) (w.heap.size + 1) (w.heap.size) u (b : Int) d n 1400 b ((j : Int) + 1) (gaT n d b j) hup (X0.below hbw) (D0.below hbw) (N0.below hbw) (by omega) hub bd0 (by omega) (Int.mul_nonneg (by omega) (by omega)) (by
      have := Int.mul_le_mul (show (j : Int) + 1 ≤ 70000 by omega) dd (by omega) (by omega)
      omega) n0 (by omega)
    have ec : ((j + 1 : Nat) : Int) = (j : Int) + 1 := by omega
    have e2 : gaT n d b (j + 1) = scaleI (gaT n d b j) ((b : Int) * d) (n + ((j + 1 : Nat) : Int) * d) := rfl
    rw [e2, ec]
    exact e)
  have HE1 := hide (show IntKind.i64.wrap (2 * (b : Int)) = ((2 * b : Nat) : Int) from (i64_id _ (by omega) (by omega)).trans (by omega))
  have HK := hide (show ∀ w', Below W.heap.size W w' → (w'.cell? ⟨w.heap.size, 0, none⟩ = some (.int .i64 n) ∧ w'.cell? ⟨w.heap.size + 1, 0, none⟩ = some (.int .i64 d) ∧ w'.cell? ⟨w.heap.size + 1 + 1 + 1, 0, none⟩ = some (.int .i64 (b : Int))) from fun w' hB => ⟨(N0.below hB).c0, (D0.below hB).c0, (X0.below hB).c0⟩)
  clear h hL hg hNS2 PK f1 f2 f3 f4
  have lR := R.lt
  go_enter Tryz.func115, Tryz.ntmps115
  go_wp2
  rw [← hW]
  clear hW
  go_cut [8] (fun p wx => ∃ (B : Nat) (u : Sp), p = .pointer (some ⟨B, 0, none⟩) ∧ W.heap.size ≤ B ∧ VrC wx B u ∧ SpAt wx u 1403 (gaSer n d b NS).1 (gaSer n d b NS).2 ∧ u.bits = (b : Int) ∧ Below W.heap.size W wx)
  case first =>
    go_region_held3 (fun w' => w'.cell? ⟨w.heap.size, 0, none⟩ = some (.int .i64 n) ∧ w'.cell? ⟨w.heap.size + 1, 0, none⟩ = some (.int .i64 d) ∧ w'.cell? ⟨w.heap.size + 1 + 1 + 1, 0, none⟩ = some (.int .i64 (b : Int))) (exact unhide HK _ (by repeat' (first | with_reducible exact hBS4 | with_reducible exact hBS3 | with_reducible exact hBS2 | with_reducible exact hBS1 | with_reducible exact Below.refl _ _ | with_reducible refine Below.drew ?_ | with_reducible refine balloc ?_ _ | with_reducible refine Below.setCell ?_ (by first | exact Nat.le_refl _ | exact hlS1 | exact hlS2 | exact hlS3 | exact hlS4) _)))
      (first
        | (go_at_call 141; have hq := hBS3; rw [unhide HE1]; refine (rise_ga _ _ _ (gaT n d b) (2 * b) NS b 1400 1414 vS3 _ ((hintS3.below (by first | with_reducible exact Below.refl _ _ | with_reducible exact bl1 _ _)).fits (K := 1400) (unhide HF0).1 (unhide HF0).2.1 (unhide HF0).2.2) (unhide HVBS3) (by omega) (by omega) (by omega) (by omega) (unhide HM) (by omega) (by omega) (unhide HTL) (unhide HT0) (unhide HTF) (unhide HTS) (fun j u w' hj hub hup hbw => unhide HFN j u w' hj hub hup (bthen (by first | with_reducible exact hBS3 | with_reducible exact balloc hBS3 _) hbw))).mono ?_; rintro r wS4 ⟨vS4, rfl, hvbS4, hintS4, hbS4⟩; have HVBS4 := hide hvbS4; clear hvbS4; have hCS4 : Below wS3.heap.size wS3 wS4 := (by first | with_reducible exact hbS4 | with_reducible exact bthen (bl1 _ _) hbS4); have hBS4 := bthen hBS3 hCS4; (try with_reducible have gS4 := (noc_new wS3 28).below hbS4); replace hintS1 := hintS1.below hCS4; (try replace gS1 := gS1.below hCS4); replace hintS2 := hintS2.below hCS4; (try replace gS2 := gS2.below hCS4); replace hintS3 := hintS3.below hCS4; (try replace gS3 := gS3.below hCS4); have hlS4 := hBS4.size; (try have mS1 := gS1.lt); (try have eS1 := Nat.ne_of_lt mS1); (try have eS1' := Nat.ne_of_gt mS1); (try obtain ⟨zS10, zS11, zS12, zS13, zS14, zS15⟩ := gS1); (try have mS2 := gS2.lt); (try have eS2 := Nat.ne_of_lt mS2); (try have eS2' := Nat.ne_of_gt mS2); (try obtain ⟨zS20, zS21, zS22, zS23, zS24, zS25⟩ := gS2); (try have mS3 := gS3.lt); (try have eS3 := Nat.ne_of_lt mS3); (try have eS3' := Nat.ne_of_gt mS3); (try obtain ⟨zS30, zS31, zS32, zS33, zS34, zS35⟩ := gS3); (try have mS4 := gS4.lt); (try have eS4 := Nat.ne_of_lt mS4); (try have eS4' := Nat.ne_of_gt mS4); (try obtain ⟨zS40, zS41, zS42, zS43, zS44, zS45⟩ := gS4))
        | (go_at_call 140; have hq := hBS2; refine (wideOf_any _ _ _ _ _ _ _ _ 4 4 b d n _ (hintS1.below (by first | with_reducible exact Below.refl _ _ | with_reducible exact bl1 _ _)) (hintS2.below (by first | with_reducible exact Below.refl _ _ | with_reducible exact bl1 _ _)) (by omega) (by omega) n0).mono ?_; rintro r wS3 ⟨vS3, rfl, hvbS3, hintS3, hbS3⟩; have HVBS3 := hide hvbS3; clear hvbS3; have hCS3 : Below wS2.heap.size wS2 wS3 := (by first | with_reducible exact hbS3 | with_reducible exact bthen (bl1 _ _) hbS3); have hBS3 := bthen hBS2 hCS3; (try with_reducible have gS3 := (noc_new wS2 28).below hbS3); replace hintS1 := hintS1.below hCS3; (try replace gS1 := gS1.below hCS3); replace hintS2 := hintS2.below hCS3; (try replace gS2 := gS2.below hCS3); have hlS3 := hBS3.size)
        | (go_at_call 43; have hq := hBS1; refine (numOf_int n _ (by omega) (by omega)).mono ?_; rintro r wS2 ⟨negS2, aS2, nS2, cS2, rfl, hintS2, hbS2⟩; have hCS2 : Below wS1.heap.size wS1 wS2 := (by first | with_reducible exact hbS2 | with_reducible exact bthen (bl1 _ _) hbS2); have hBS2 := bthen hBS1 hCS2; (try with_reducible have gS2 := (noc_new wS1 28).below hbS2); replace hintS1 := hintS1.below hCS2; (try replace gS1 := gS1.below hCS2); have hlS2 := hBS2.size)
        | (go_at_call 43; refine (numOf_int d _ (by omega) (by omega)).mono ?_; rintro r wS1 ⟨negS1, aS1, nS1, cS1, rfl, hintS1, hbS1⟩; have hBS1 : Below W.heap.size W wS1 := (by first | with_reducible exact bthen (Below.refl _ _).drew hbS1 | with_reducible exact bthen (bl1 _ _).drew hbS1); (try with_reducible have gS1 := ((noc_new W 28).below (Below.refl _ _).drew).below hbS1); have hlS1 := hBS1.size))
    all_goals
      have hfinS : SpAt wS4 vS4 1403 (gaSer n d b NS).1 (gaSer n d b NS).2 := hintS4
      go_wp2_with fail
      go_meet
      refine ⟨_, vS4, rfl, ?_, ⟨⟨?_, ?_, ?_, ?_, ?_⟩, ?_⟩, ?_, unhide HVBS4, ?_⟩
      · first | exact Nat.le_refl _ | exact hlS1 | exact hlS2 | exact hlS3 | exact hlS4
      · simp [go_sem, *]
      · simp [go_sem, *]
      · simp [go_sem, *]
      · simp [go_sem, *]
      · simp [go_sem, *]
      · intro o; simp [go_sem, *]
      · first | with_reducible exact SpAt.put5 hfinS zS40 zS41 zS42 zS43 zS44 _ _ _ _ _ | with_reducible exact SpAt.put5 hfinS zS30 zS31 zS32 zS33 zS34 _ _ _ _ _ | with_reducible exact SpAt.put5 hfinS zS20 zS21 zS22 zS23 zS24 _ _ _ _ _ | with_reducible exact SpAt.put5 hfinS zS10 zS11 zS12 zS13 zS14 _ _ _ _ _ | with_reducible exact hfinS.below (bl1 _ _)
      · repeat' (first | with_reducible exact hBS4 | with_reducible exact hBS3 | with_reducible exact hBS2 | with_reducible exact hBS1 | with_reducible exact Below.refl _ _ | with_reducible refine Below.drew ?_ | with_reducible refine balloc ?_ _ | with_reducible refine Below.setCell ?_ (by first | exact Nat.le_refl _ | exact hlS1 | exact hlS2 | exact hlS3 | exact hlS4) _)
  case rest =>
  obtain ⟨BS, xS, rfl, hHS, XS, hpS, hxbS, hblS⟩ := hcut
  obtain ⟨V1, hV1⟩ : ∃ V, V = wc := ⟨_, rfl⟩
  subst hV1
  replace N0 := N0.below hblS
  replace D0 := D0.below hblS
  replace X0 := X0.below hblS
  replace R := R.below hblS
  replace hBW := bthen hBW hblS
  have HSB := hide hxbS
  have HSP := hide hpS
  have lS := XS.lt
  clear hxbS hpS HK HTF HTS HTL HT0 HFN HF0 HE1
  have HK := hide (show ∀ w', Below V1.heap.size V1 w' → (w'.cell? ⟨w.heap.size, 0, none⟩ = some (.int .i64 n) ∧ w'.cell? ⟨w.heap.size + 1, 0, none⟩ = some (.int .i64 d) ∧ w'.cell? ⟨w.heap.size + 1 + 1 + 1, 0, none⟩ = some (.int .i64 (b : Int))) from fun w' hB => ⟨(N0.below hB).c0, (D0.below hB).c0, (X0.below hB).c0⟩)
  have HQ4 := hide (show Q (b + 4) < P 500 by
    rw [← Q_P]
    have h1 := Q_mono (show b + 4 + 1 ≤ 16 * 500 by omega)
    have h2 : Q (b + 4 + 1) = 2 * Q (b + 4) := rfl
    have := Q_pos (b + 4)
    omega)
  have d0 : 0 < d := by omega
  go_wp2_with fail
  go_cut [9] (fun p wx => ∃ (B : Nat) (u : Sp) (o : Int × Int), p = .pointer (some ⟨B, 0, none⟩) ∧ GaLog L b o ∧ V1.heap.size ≤ B ∧ VrC wx B u ∧ SpAt wx u 534 (scaleI o n d).1 (scaleI o n d).2 ∧ u.bits = (b : Int) ∧ Below V1.heap.size V1 wx)
  case first =>
    go_region_held3 (fun w' => w'.cell? ⟨w.heap.size, 0, none⟩ = some (.int .i64 n) ∧ w'.cell? ⟨w.heap.size + 1, 0, none⟩ = some (.int .i64 d) ∧ w'.cell? ⟨w.heap.size + 1 + 1 + 1, 0, none⟩ = some (.int .i64 (b : Int))) (exact unhide HK _ (by repeat' (first | with_reducible exact hBY6 | with_reducible exact hBY5 | with_reducible exact hBY4 | with_reducible exact hBY3 | with_reducible exact hBY2 | with_reducible exact hBY1 | with_reducible exact Below.refl _ _ | with_reducible refine Below.drew ?_ | with_reducible refine balloc ?_ _ | with_reducible refine Below.setCell ?_ (by first | exact Nat.le_refl _ | exact hlY1 | exact hlY2 | exact hlY3 | exact hlY4 | exact hlY5 | exact hlY6) _)))
      (first
        | (go_at_call 143; have hq := hBY5; refine (scale_iv _ vY3 ⟨negY4, aY4, nY4, cY4⟩ ⟨negY5, aY5, nY5, cY5⟩ 520 4 4 b (lnOf (doneI (lnT n' d' b) N1) (doneI (lnT 2 1 b) N2) cc) n d ((hintY3.below (bthen hCY4 hCY5)).below (by first | with_reducible exact Below.refl _ _ | with_reducible exact bl1 _ _)) (hintY4.below (by first | with_reducible exact Below.refl _ _ | with_reducible exact bl1 _ _)) (hintY5.below (by first | with_reducible exact Below.refl _ _ | with_reducible exact bl1 _ _)) (by omega) (by omega) d0 (unhide HVBY3)).mono ?_; rintro r wY6 ⟨vY6, rfl, hvbY6, hintY6, hbY6⟩; have HVBY6 := hide hvbY6; clear hvbY6; have hCY6 : Below wY5.heap.size wY5 wY6 := (by first | with_reducible exact hbY6 | with_reducible exact bthen (bl1 _ _) hbY6); have hBY6 := bthen hBY5 hCY6; (try with_reducible have gY6 := (noc_new wY5 28).below hbY6); replace hintY1 := hintY1.below hCY6; (try replace gY1 := gY1.below hCY6); replace hintY2 := hintY2.below hCY6; (try replace gY2 := gY2.below hCY6); (try replace gY3 := gY3.below hCY6); replace hintY4 := hintY4.below hCY6; (try replace gY4 := gY4.below hCY6); replace hintY5 := hintY5.below hCY6; (try replace gY5 := gY5.below hCY6); have hlY6 := hBY6.size; (try have mY1 := gY1.lt); (try have eY1 := Nat.ne_of_lt mY1); (try have eY1' := Nat.ne_of_gt mY1); (try obtain ⟨zY10, zY11, zY12, zY13, zY14, zY15⟩ := gY1); (try have mY2 := gY2.lt); (try have eY2 := Nat.ne_of_lt mY2); (try have eY2' := Nat.ne_of_gt mY2); (try obtain ⟨zY20, zY21, zY22, zY23, zY24, zY25⟩ := gY2); (try have mY3 := gY3.lt); (try have eY3 := Nat.ne_of_lt mY3); (try have eY3' := Nat.ne_of_gt mY3); (try obtain ⟨zY30, zY31, zY32, zY33, zY34, zY35⟩ := gY3); (try have mY4 := gY4.lt); (try have eY4 := Nat.ne_of_lt mY4); (try have eY4' := Nat.ne_of_gt mY4); (try obtain ⟨zY40, zY41, zY42, zY43, zY44, zY45⟩ := gY4); (try have mY5 := gY5.lt); (try have eY5 := Nat.ne_of_lt mY5); (try have eY5' := Nat.ne_of_gt mY5); (try obtain ⟨zY50, zY51, zY52, zY53, zY54, zY55⟩ := gY5); (try have mY6 := gY6.lt); (try have eY6 := Nat.ne_of_lt mY6); (try have eY6' := Nat.ne_of_gt mY6); (try obtain ⟨zY60, zY61, zY62, zY63, zY64, zY65⟩ := gY6))
        | (go_at_call 43; have hq := hBY4; refine (numOf_int d _ (by omega) (by omega)).mono ?_; rintro r wY5 ⟨negY5, aY5, nY5, cY5, rfl, hintY5, hbY5⟩; have hCY5 : Below wY4.heap.size wY4 wY5 := (by first | with_reducible exact hbY5 | with_reducible exact bthen (bl1 _ _) hbY5); have hBY5 := bthen hBY4 hCY5; (try with_reducible have gY5 := (noc_new wY4 28).below hbY5); replace hintY1 := hintY1.below hCY5; (try replace gY1 := gY1.below hCY5); replace hintY2 := hintY2.below hCY5; (try replace gY2 := gY2.below hCY5); (try replace gY3 := gY3.below hCY5); replace hintY4 := hintY4.below hCY5; (try replace gY4 := gY4.below hCY5); have hlY5 := hBY5.size)
        | (go_at_call 43; have hq := hBY3; refine (numOf_int n _ (by omega) (by omega)).mono ?_; rintro r wY4 ⟨negY4, aY4, nY4, cY4, rfl, hintY4, hbY4⟩; have hCY4 : Below wY3.heap.size wY3 wY4 := (by first | with_reducible exact hbY4 | with_reducible exact bthen (bl1 _ _) hbY4); have hBY4 := bthen hBY3 hCY4; (try with_reducible have gY4 := (noc_new wY3 28).below hbY4); replace hintY1 := hintY1.below hCY4; (try replace gY1 := gY1.below hCY4); replace hintY2 := hintY2.below hCY4; (try replace gY2 := gY2.below hCY4); (try replace gY3 := gY3.below hCY4); have hlY4 := hBY4.size)
        | (go_at_call 116; have hq := hBY2; refine (wideLog_iv _ ⟨negY1, aY1, nY1, cY1⟩ ⟨negY2, aY2, nY2, cY2⟩ 4 b 500 (b : Int) 1 (hintY1.below (by first | with_reducible exact Below.refl _ _ | with_reducible exact bl1 _ _)) (hintY2.below (by first | with_reducible exact Below.refl _ _ | with_reducible exact bl1 _ _)) (by omega) (by omega) (by omega) (by omega) (by omega) (unhide HQ4) (by omega)).mono ?_; rintro r wY3 ⟨n', d', cc, N1, N2, hbal, hc1, hc2, hN1, hN2, vY3, rfl, hvbY3, hintY3, hbY3⟩; have HVBY3 := hide hvbY3; clear hvbY3; have HGL := hide (gaLog_of (unhide HL) (by omega) (by omega) hbal hN1 hN2); clear hbal hc1 hc2 hN1 hN2; have hCY3 : Below wY2.heap.size wY2 wY3 := (by first | with_reducible exact hbY3 | with_reducible exact bthen (bl1 _ _) hbY3); have hBY3 := bthen hBY2 hCY3; (try with_reducible have gY3 := (noc_new wY2 28).below hbY3); replace hintY1 := hintY1.below hCY3; (try replace gY1 := gY1.below hCY3); replace hintY2 := hintY2.below hCY3; (try replace gY2 := gY2.below hCY3); have hlY3 := hBY3.size)
        | (go_at_call 43; have hq := hBY1; refine (numOf_int 1 _ (by omega) (by omega)).mono ?_; rintro r wY2 ⟨negY2, aY2, nY2, cY2, rfl, hintY2, hbY2⟩; have hCY2 : Below wY1.heap.size wY1 wY2 := (by first | with_reducible exact hbY2 | with_reducible exact bthen (bl1 _ _) hbY2); have hBY2 := bthen hBY1 hCY2; (try with_reducible have gY2 := (noc_new wY1 28).below hbY2); replace hintY1 := hintY1.below hCY2; (try replace gY1 := gY1.below hCY2); have hlY2 := hBY2.size)
        | (go_at_call 43; refine (numOf_int (b : Int) _ (by omega) (by omega)).mono ?_; rintro r wY1 ⟨negY1, aY1, nY1, cY1, rfl, hintY1, hbY1⟩; have hBY1 : Below V1.heap.size V1 wY1 := (by first | with_reducible exact bthen (Below.refl _ _).drew hbY1 | with_reducible exact bthen (bl1 _ _).drew hbY1); (try with_reducible have gY1 := ((noc_new V1 28).below (Below.refl _ _).drew).below hbY1); have hlY1 := hBY1.size))
    all_goals
      have hfinY : SpAt wY6 vY6 534 (scaleI (lnOf (doneI (lnT n' d' b) N1) (doneI (lnT 2 1 b) N2) cc) n d).1 (scaleI (lnOf (doneI (lnT n' d' b) N1) (doneI (lnT 2 1 b) N2) cc) n d).2 := hintY6
      go_wp2_with fail
      go_meet
      refine ⟨_, vY6, _, rfl, unhide HGL, ?_, ⟨⟨?_, ?_, ?_, ?_, ?_⟩, ?_⟩, ?_, unhide HVBY6, ?_⟩
      · first | exact Nat.le_refl _ | exact hlY1 | exact hlY2 | exact hlY3 | exact hlY4 | exact hlY5 | exact hlY6
      · simp [go_sem, *]
      · simp [go_sem, *]
      · simp [go_sem, *]
      · simp [go_sem, *]
      · simp [go_sem, *]
      · intro o; simp [go_sem, *]
      · first | with_reducible exact SpAt.put5 hfinY zY60 zY61 zY62 zY63 zY64 _ _ _ _ _ | with_reducible exact SpAt.put5 hfinY zY50 zY51 zY52 zY53 zY54 _ _ _ _ _ | with_reducible exact SpAt.put5 hfinY zY40 zY41 zY42 zY43 zY44 _ _ _ _ _ | with_reducible exact SpAt.put5 hfinY zY30 zY31 zY32 zY33 zY34 _ _ _ _ _ | with_reducible exact SpAt.put5 hfinY zY20 zY21 zY22 zY23 zY24 _ _ _ _ _ | with_reducible exact SpAt.put5 hfinY zY10 zY11 zY12 zY13 zY14 _ _ _ _ _ | with_reducible exact hfinY.below (bl1 _ _)
      · repeat' (first | with_reducible exact hBY6 | with_reducible exact hBY5 | with_reducible exact hBY4 | with_reducible exact hBY3 | with_reducible exact hBY2 | with_reducible exact hBY1 | with_reducible exact Below.refl _ _ | with_reducible refine Below.drew ?_ | with_reducible refine balloc ?_ _ | with_reducible refine Below.setCell ?_ (by first | exact Nat.le_refl _ | exact hlY1 | exact hlY2 | exact hlY3 | exact hlY4 | exact hlY5 | exact hlY6) _)
  case rest =>
  obtain ⟨BY, xY, oY, rfl, hGL, hHY, XY, hpY, hxbY, hblY⟩ := hcut
  obtain ⟨V2, hV2⟩ : ∃ V, V = wc := ⟨_, rfl⟩
  subst hV2
  have XS2 := XS.below hblY
  replace N0 := N0.below hblY
  replace D0 := D0.below hblY
  replace X0 := X0.below hblY
  replace R := R.below hblY
  replace hBW := bthen hBW hblY
  replace HSP := hide ((unhide HSP).below hblY)
  have HYB := hide hxbY
  have HYP := hide hpY
  clear hxbY hpY HK XS
  have lY := XY.lt
  have lS2 := XS2.lt
  have GE := gaY_ok (unhide H) hGL
  obtain ⟨l, t, NE, e1, e2, e3, e4, e5⟩ := exp_set (B := b) (e := 11) (by omega) GE.2.1 GE.2.2.2.1
  have GV := gaG_ok (unhide HL) (unhide H) (unhide HG) hGL (by omega) e4 e5 hNS (unhide HM)
  have EO := gaE_ok (unhide H) hGL (show t ≤ 19 by omega) e4 e5
  have SO := gaSer_ok (unhide H) hNS
  have HQE := hide (show Q (b + eb t) < P 500 by
    rw [← Q_P]
    have ebm := eb_mono (show t ≤ 19 by omega)
    have eb19 : eb 19 = 6144 := by decide
    rw [eb19] at ebm
    have h1 := Q_mono (show b + eb t + 1 ≤ 16 * 500 by omega)
    have h2 : Q (b + eb t + 1) = 2 * Q (b + eb t) := rfl
    have := Q_pos (b + eb t)
    omega)
  have HYF := hide (show (gaY n d b oY).1 ≤ (gaY n d b oY).2 ∧ -P 500 < (gaY n d b oY).1 ∧ (gaY n d b oY).2 < P 500 by
    have r := GE.2.2.2.1
    have ra := reach_abs GE.2.1
    obtain ⟨r1, r2, r3, r4⟩ := ra
    have h1 := Q_mono (show b + 11 ≤ 16 * 500 by omega)
    rw [Q_P] at h1
    exact ⟨GE.2.1, by omega, by omega⟩)
  have HGV := hide GV
  have HE5 := hide e1
  have HE6 := hide e2
  have HE7 := hide e4
  have HE8 := hide e5
  have ht : t ≤ 1000000 := by omega
  have HDN := hide (show ¬ ((gaE n d b oY t NE).1 ≤ 0 ∧ 0 ≤ (gaE n d b oY t NE).2) ∧ (gaE n d b oY t NE).1 ≤ (gaE n d b oY t NE).2 ∧ (gaSer n d b NS).1 ≤ (gaSer n d b NS).2 by
    have := Q_pos b
    exact ⟨by omega, EO.2.1, SO.2.1⟩)
  clear GE GV EO SO e1 e2 e3 e4 e5 hGL
  have HK := hide (show ∀ w', Below V2.heap.size V2 w' → (w'.cell? ⟨w.heap.size, 0, none⟩ = some (.int .i64 n) ∧ w'.cell? ⟨w.heap.size + 1, 0, none⟩ = some (.int .i64 d) ∧ w'.cell? ⟨w.heap.size + 1 + 1 + 1, 0, none⟩ = some (.int .i64 (b : Int)) ∧ w'.cell? ⟨BS, 0, none⟩ = some (.bool xS.ln) ∧ w'.cell? ⟨BS, 1, none⟩ = some (.slice xS.la xS.lN xS.lc) ∧ w'.cell? ⟨BS, 2, none⟩ = some (.bool xS.hn) ∧ w'.cell? ⟨BS, 3, none⟩ = some (.slice xS.ha xS.hN xS.hc) ∧ w'.cell? ⟨BS, 4, none⟩ = some (.int .i64 xS.bits) ∧ w'.cell? ⟨BY, 0, none⟩ = some (.bool xY.ln) ∧ w'.cell? ⟨BY, 1, none⟩ = some (.slice xY.la xY.lN xY.lc) ∧ w'.cell? ⟨BY, 2, none⟩ = some (.bool xY.hn) ∧ w'.cell? ⟨BY, 3, none⟩ = some (.slice xY.ha xY.hN xY.hc) ∧ w'.cell? ⟨BY, 4, none⟩ = some (.int .i64 xY.bits)) from fun w' hB => ⟨(N0.below hB).c0, (D0.below hB).c0, (X0.below hB).c0, (XS2.c.below hB).c0, (XS2.c.below hB).c1, (XS2.c.below hB).c2, (XS2.c.below hB).c3, (XS2.c.below hB).c4, (XY.c.below hB).c0, (XY.c.below hB).c1, (XY.c.below hB).c2, (XY.c.below hB).c3, (XY.c.below hB).c4⟩)
  go_wp2_with fail
  go_cut [10] (fun p wx => ∃ (B : Nat) (u : Sp), p = .pointer (some ⟨B, 0, none⟩) ∧ V2.heap.size ≤ B ∧ VrC wx B u ∧ SpAt wx u 1600 (((dvLo (gaSer n d b NS).1 (gaSer n d b NS).2 (gaE n d b oY t NE).1 (gaE n d b oY t NE).2 b, dvHi (gaSer n d b NS).1 (gaSer n d b NS).2 (gaE n d b oY t NE).1 (gaE n d b oY t NE).2 b) : Int × Int)).1 (((dvLo (gaSer n d b NS).1 (gaSer n d b NS).2 (gaE n d b oY t NE).1 (gaE n d b oY t NE).2 b, dvHi (gaSer n d b NS).1 (gaSer n d b NS).2 (gaE n d b oY t NE).1 (gaE n d b oY t NE).2 b) : Int × Int)).2 ∧ u.bits = (b : Int) ∧ Below V2.heap.size V2 wx)
  case first =>
    go_region_held3 (fun w' => w'.cell? ⟨w.heap.size, 0, none⟩ = some (.int .i64 n) ∧ w'.cell? ⟨w.heap.size + 1, 0, none⟩ = some (.int .i64 d) ∧ w'.cell? ⟨w.heap.size + 1 + 1 + 1, 0, none⟩ = some (.int .i64 (b : Int)) ∧ w'.cell? ⟨BS, 0, none⟩ = some (.bool xS.ln) ∧ w'.cell? ⟨BS, 1, none⟩ = some (.slice xS.la xS.lN xS.lc) ∧ w'.cell? ⟨BS, 2, none⟩ = some (.bool xS.hn) ∧ w'.cell? ⟨BS, 3, none⟩ = some (.slice xS.ha xS.hN xS.hc) ∧ w'.cell? ⟨BS, 4, none⟩ = some (.int .i64 xS.bits) ∧ w'.cell? ⟨BY, 0, none⟩ = some (.bool xY.ln) ∧ w'.cell? ⟨BY, 1, none⟩ = some (.slice xY.la xY.lN xY.lc) ∧ w'.cell? ⟨BY, 2, none⟩ = some (.bool xY.hn) ∧ w'.cell? ⟨BY, 3, none⟩ = some (.slice xY.ha xY.hN xY.hc) ∧ w'.cell? ⟨BY, 4, none⟩ = some (.int .i64 xY.bits)) (exact unhide HK _ (by repeat' (first | with_reducible exact hBO6 | with_reducible exact hBO5 | with_reducible exact hBO4 | with_reducible exact hBO3 | with_reducible exact hBO2 | with_reducible exact hBO1 | with_reducible exact Below.refl _ _ | with_reducible refine Below.drew ?_ | with_reducible refine balloc ?_ _ | with_reducible refine Below.setCell ?_ (by first | exact Nat.le_refl _ | exact hlO1 | exact hlO2 | exact hlO3 | exact hlO4 | exact hlO5 | exact hlO6) _)))
      (first
        | (go_at_call 146; have hq := hBO5; refine (wideDiv_any _ xS vO5 1403 b _ _ _ _ ((unhide HSP).below (by first | with_reducible exact hBO5 | with_reducible exact balloc hBO5 _)) ((show SpAt _ vO5 500 (gaE n d b oY t NE).1 (gaE n d b oY t NE).2 from (hintO5.below (by first | with_reducible exact Below.refl _ _ | with_reducible exact bl1 _ _))).mono (by omega)) (by omega) (by omega) (unhide HSB) (unhide HDN).2.2 (unhide HDN).1 (unhide HDN).2.1).mono ?_; rintro r wO6 ⟨vO6, rfl, hvbO6, hintO6, hbO6⟩; have HVBO6 := hide hvbO6; clear hvbO6; have hCO6 : Below wO5.heap.size wO5 wO6 := (by first | with_reducible exact hbO6 | with_reducible exact bthen (bl1 _ _) hbO6); have hBO6 := bthen hBO5 hCO6; (try with_reducible have gO6 := (noc_new wO5 28).below hbO6); replace hintO1 := hintO1.below hCO6; (try replace gO1 := gO1.below hCO6); replace hintO2 := hintO2.below hCO6; (try replace gO2 := gO2.below hCO6); replace hintO3 := hintO3.below hCO6; (try replace gO3 := gO3.below hCO6); replace hintO4 := hintO4.below hCO6; (try replace gO4 := gO4.below hCO6); replace hintO5 := hintO5.below hCO6; (try replace gO5 := gO5.below hCO6); have hlO6 := hBO6.size; (try have mO1 := gO1.lt); (try have eO1 := Nat.ne_of_lt mO1); (try have eO1' := Nat.ne_of_gt mO1); (try obtain ⟨zO10, zO11, zO12, zO13, zO14, zO15⟩ := gO1); (try have mO2 := gO2.lt); (try have eO2 := Nat.ne_of_lt mO2); (try have eO2' := Nat.ne_of_gt mO2); (try obtain ⟨zO20, zO21, zO22, zO23, zO24, zO25⟩ := gO2); (try have mO3 := gO3.lt); (try have eO3 := Nat.ne_of_lt mO3); (try have eO3' := Nat.ne_of_gt mO3); (try obtain ⟨zO30, zO31, zO32, zO33, zO34, zO35⟩ := gO3); (try have mO4 := gO4.lt); (try have eO4 := Nat.ne_of_lt mO4); (try have eO4' := Nat.ne_of_gt mO4); (try obtain ⟨zO40, zO41, zO42, zO43, zO44, zO45⟩ := gO4); (try have mO5 := gO5.lt); (try have eO5 := Nat.ne_of_lt mO5); (try have eO5' := Nat.ne_of_gt mO5); (try obtain ⟨zO50, zO51, zO52, zO53, zO54, zO55⟩ := gO5); (try have mO6 := gO6.lt); (try have eO6 := Nat.ne_of_lt mO6); (try have eO6' := Nat.ne_of_gt mO6); (try obtain ⟨zO60, zO61, zO62, zO63, zO64, zO65⟩ := gO6))
        | (go_at_call 147; have hq := hBO4; refine (wideExp_iv _ vO4 500 b t NE (gaY n d b oY) l (SpAt.fits (K := 500) (show SpAt _ vO4 541 (gaY n d b oY).1 (gaY n d b oY).2 from (hintO4.below (by first | with_reducible exact Below.refl _ _ | with_reducible exact bl1 _ _))) (unhide HYF).1 (unhide HYF).2.1 (unhide HYF).2.2) (unhide HVBO4) (unhide HYF).1 (by omega) (by omega) (unhide HE5) (unhide HE6) ht (unhide HE7) (unhide HE8) (unhide HQE) (by omega)).mono ?_; rintro r wO5 ⟨vO5, rfl, hvbO5, hintO5, hbO5⟩; have HVBO5 := hide hvbO5; clear hvbO5; have hCO5 : Below wO4.heap.size wO4 wO5 := (by first | with_reducible exact hbO5 | with_reducible exact bthen (bl1 _ _) hbO5); have hBO5 := bthen hBO4 hCO5; (try with_reducible have gO5 := (noc_new wO4 28).below hbO5); replace hintO1 := hintO1.below hCO5; (try replace gO1 := gO1.below hCO5); replace hintO2 := hintO2.below hCO5; (try replace gO2 := gO2.below hCO5); replace hintO3 := hintO3.below hCO5; (try replace gO3 := gO3.below hCO5); replace hintO4 := hintO4.below hCO5; (try replace gO4 := gO4.below hCO5); have hlO5 := hBO5.size)
        | (go_at_call 118; have hq := hBO3; refine (sub_iv _ vO3 xY 540 b (ofI (b : Int) 1 b) (scaleI oY n d) ((hintO3.below (by first | with_reducible exact Below.refl _ _ | with_reducible exact bl1 _ _)).mono (by omega)) (((unhide HYP).below (by first | with_reducible exact hBO3 | with_reducible exact balloc hBO3 _)).mono (by omega)) (by omega) (unhide HVBO3)).mono ?_; rintro r wO4 ⟨vO4, rfl, hvbO4, hintO4, hbO4⟩; have HVBO4 := hide hvbO4; clear hvbO4; have hCO4 : Below wO3.heap.size wO3 wO4 := (by first | with_reducible exact hbO4 | with_reducible exact bthen (bl1 _ _) hbO4); have hBO4 := bthen hBO3 hCO4; (try with_reducible have gO4 := (noc_new wO3 28).below hbO4); replace hintO1 := hintO1.below hCO4; (try replace gO1 := gO1.below hCO4); replace hintO2 := hintO2.below hCO4; (try replace gO2 := gO2.below hCO4); replace hintO3 := hintO3.below hCO4; (try replace gO3 := gO3.below hCO4); have hlO4 := hBO4.size)
        | (go_at_call 140; have hq := hBO2; refine (wideOf_any _ _ _ _ _ _ _ _ 4 4 b (b : Int) 1 _ (hintO1.below (by first | with_reducible exact Below.refl _ _ | with_reducible exact bl1 _ _)) (hintO2.below (by first | with_reducible exact Below.refl _ _ | with_reducible exact bl1 _ _)) (by omega) (by omega) (by omega)).mono ?_; rintro r wO3 ⟨vO3, rfl, hvbO3, hintO3, hbO3⟩; have HVBO3 := hide hvbO3; clear hvbO3; have hCO3 : Below wO2.heap.size wO2 wO3 := (by first | with_reducible exact hbO3 | with_reducible exact bthen (bl1 _ _) hbO3); have hBO3 := bthen hBO2 hCO3; (try with_reducible have gO3 := (noc_new wO2 28).below hbO3); replace hintO1 := hintO1.below hCO3; (try replace gO1 := gO1.below hCO3); replace hintO2 := hintO2.below hCO3; (try replace gO2 := gO2.below hCO3); have hlO3 := hBO3.size)
        | (go_at_call 43; have hq := hBO1; refine (numOf_int 1 _ (by omega) (by omega)).mono ?_; rintro r wO2 ⟨negO2, aO2, nO2, cO2, rfl, hintO2, hbO2⟩; have hCO2 : Below wO1.heap.size wO1 wO2 := (by first | with_reducible exact hbO2 | with_reducible exact bthen (bl1 _ _) hbO2); have hBO2 := bthen hBO1 hCO2; (try with_reducible have gO2 := (noc_new wO1 28).below hbO2); replace hintO1 := hintO1.below hCO2; (try replace gO1 := gO1.below hCO2); have hlO2 := hBO2.size)
        | (go_at_call 43; refine (numOf_int (b : Int) _ (by omega) (by omega)).mono ?_; rintro r wO1 ⟨negO1, aO1, nO1, cO1, rfl, hintO1, hbO1⟩; have hBO1 : Below V2.heap.size V2 wO1 := (by first | with_reducible exact bthen (Below.refl _ _).drew hbO1 | with_reducible exact bthen (bl1 _ _).drew hbO1); (try with_reducible have gO1 := ((noc_new V2 28).below (Below.refl _ _).drew).below hbO1); have hlO1 := hBO1.size))
    all_goals
      have hfinO : SpAt wO6 vO6 1600 (((dvLo (gaSer n d b NS).1 (gaSer n d b NS).2 (gaE n d b oY t NE).1 (gaE n d b oY t NE).2 b, dvHi (gaSer n d b NS).1 (gaSer n d b NS).2 (gaE n d b oY t NE).1 (gaE n d b oY t NE).2 b) : Int × Int)).1 (((dvLo (gaSer n d b NS).1 (gaSer n d b NS).2 (gaE n d b oY t NE).1 (gaE n d b oY t NE).2 b, dvHi (gaSer n d b NS).1 (gaSer n d b NS).2 (gaE n d b oY t NE).1 (gaE n d b oY t NE).2 b) : Int × Int)).2 := hintO6.mono (by omega)
      go_wp2_with fail
      go_meet
      refine ⟨_, vO6, rfl, ?_, ⟨⟨?_, ?_, ?_, ?_, ?_⟩, ?_⟩, ?_, unhide HVBO6, ?_⟩
      · first | exact Nat.le_refl _ | exact hlO1 | exact hlO2 | exact hlO3 | exact hlO4 | exact hlO5 | exact hlO6
      · simp [go_sem, *]
      · simp [go_sem, *]
      · simp [go_sem, *]
      · simp [go_sem, *]
      · simp [go_sem, *]
      · intro o; simp [go_sem, *]
      · first | with_reducible exact SpAt.put5 hfinO zO60 zO61 zO62 zO63 zO64 _ _ _ _ _ | with_reducible exact SpAt.put5 hfinO zO50 zO51 zO52 zO53 zO54 _ _ _ _ _ | with_reducible exact SpAt.put5 hfinO zO40 zO41 zO42 zO43 zO44 _ _ _ _ _ | with_reducible exact SpAt.put5 hfinO zO30 zO31 zO32 zO33 zO34 _ _ _ _ _ | with_reducible exact SpAt.put5 hfinO zO20 zO21 zO22 zO23 zO24 _ _ _ _ _ | with_reducible exact SpAt.put5 hfinO zO10 zO11 zO12 zO13 zO14 _ _ _ _ _ | with_reducible exact hfinO.below (bl1 _ _)
      · repeat' (first | with_reducible exact hBO6 | with_reducible exact hBO5 | with_reducible exact hBO4 | with_reducible exact hBO3 | with_reducible exact hBO2 | with_reducible exact hBO1 | with_reducible exact Below.refl _ _ | with_reducible refine Below.drew ?_ | with_reducible refine balloc ?_ _ | with_reducible refine Below.setCell ?_ (by first | exact Nat.le_refl _ | exact hlO1 | exact hlO2 | exact hlO3 | exact hlO4 | exact hlO5 | exact hlO6) _)
  case rest =>
  obtain ⟨BO, xO, rfl, hHO, XO, hpO, hxbO, hblO⟩ := hcut
  obtain ⟨V3, hV3⟩ : ∃ V, V = wc := ⟨_, rfl⟩
  subst hV3
  have lO := XO.lt
  replace R := R.below hblO
  replace hBW := bthen hBW hblO
  have HOB := hide hxbO
  have HOP := hide hpO
  have HXO := hide XO
  clear hxbO hpO HK X0 N0 D0 XS2 XY
  have lR2 := R.lt
  have nRO : w.heap.size + 1 + 1 < BO := by omega
  have HKO := hide (show ∀ w', Below V3.heap.size V3 w' → (w'.cell? ⟨BO, 2, none⟩ = some (.bool xO.hn) ∧ w'.cell? ⟨BO, 3, none⟩ = some (.slice xO.ha xO.hN xO.hc)) from fun w' hB => ⟨(XO.c.below hB).c2, (XO.c.below hB).c3⟩)
  have hD0 : Below V3.heap.size V3 V3.drew := (Below.refl _ _).drew
  clear XO
  go_wp2_with fail
  refine AnyL.start (S := fun w' => w'.cell? ⟨BO, 2, none⟩ = some (.bool xO.hn) ∧ w'.cell? ⟨BO, 3, none⟩ = some (.slice xO.ha xO.hN xO.hc)) (l := 5) (by kernel_rfl) (unhide HKO _ hD0) (fun hHeld => ?_)
  refine AnyL.take (i := 0) (oi := { dst := some 42, op := Go.Op.fieldAddr 28 (Go.Operand.tmp 10) 1, type := 0, pos := "gamma.go:50", after := #[], guard := none }) (v := .pointer (some ⟨BO, 2, none⟩)) rfl (by kernel_rfl) (by kernel_rfl) (by kernel_rfl) (by kernel_rfl) (fun _ _ _ h => h) (Or.inl ⟨by rfl, fun w hSw => ?_⟩) hHeld ?_
  · obtain ⟨s0, s1⟩ := hSw; go_simp
  try simp only [Act.put, List.setIfInBounds_toArray, List.set_cons_zero, List.set_cons_succ]
  refine AnyL.take (i := 1) (oi := { dst := some 43, op := Go.Op.load 26 (Go.Operand.tmp 42), type := 26, pos := "gamma.go:50", after := #[{ on := 0, ground := Go.Ground.data }], guard := none }) (v := .agg #[.bool xO.hn, .slice xO.ha xO.hN xO.hc]) rfl (by kernel_rfl) (by kernel_rfl) (by kernel_rfl) (by kernel_rfl) (fun _ _ _ h => h) (Or.inl ⟨by rfl, fun w hSw => ?_⟩) hHeld ?_
  · obtain ⟨s0, s1⟩ := hSw; go_simp
  try simp only [Act.put, List.setIfInBounds_toArray, List.set_cons_zero, List.set_cons_succ]
  refine AnyL.one (i := 2) (o := { dst := some 44, op := Go.Op.call { callee := Go.Callee.value (Go.Operand.func 43), args := #[Go.Operand.const (Go.Value.int Go.IntKind.i64 1)], argTypes := #[3] }, type := 26, pos := "gamma.go:50", after := #[], guard := none }) (by kernel_rfl) rfl (fun Kc hKc => ?_)
  go_simp
  refine (numOf_int 1 _ (by omega) (by omega)).mono ?_
  rintro r' w1 ⟨neg1, a1, n1, c1, rfl, hint1, hb1⟩
  have hD1 := bthen hD0 hb1
  clear hb1
  go_wp2_with fail
  refine hKc.out _ _ (unhide HKO _ hD1) (fun hHeld => ?_)
  clear hKc Kc
  try simp only [Act.put, List.setIfInBounds_toArray, List.set_cons_zero, List.set_cons_succ]
  refine AnyL.one (i := 3) (o := { dst := some 45, op := Go.Op.call { callee := Go.Callee.value (Go.Operand.func 65), args := #[Go.Operand.tmp 43, Go.Operand.tmp 44], argTypes := #[26, 26] }, type := 26, pos := "gamma.go:50", after := #[{ on := 1, ground := Go.Ground.data }, { on := 2, ground := Go.Ground.data }, { on := 2, ground := Go.Ground.chain }], guard := none }) (by kernel_rfl) rfl (fun Kc hKc => ?_)
  go_simp
  refine (add_int _ _ _ _ _ _ _ _ 1600 4 _ 1 _ ((unhide HOP).hi.below hD1) hint1 (by omega) (by omega)).mono ?_
  rintro r' w2 ⟨neg2, a2, n2, c2, rfl, hint2, hb2⟩
  have hD2 := bthen hD1 hb2
  clear hb2 hint1
  go_wp2_with fail
  refine hKc.out _ _ (unhide HKO _ hD2) (fun hHeld => ?_)
  clear hKc Kc
  try simp only [Act.put, List.setIfInBounds_toArray, List.set_cons_zero, List.set_cons_succ]
  refine AnyL.take (i := 4) (oi := { dst := some 46, op := Go.Op.fieldAddr 28 (Go.Operand.tmp 10) 1, type := 0, pos := "gamma.go:50", after := #[{ on := 0, ground := Go.Ground.phase }, { on := 1, ground := Go.Ground.phase }, { on := 2, ground := Go.Ground.phase }, { on := 3, ground := Go.Ground.phase }], guard := none }) (v := .pointer (some ⟨BO, 2, none⟩)) rfl (by kernel_rfl) (by kernel_rfl) (by kernel_rfl) (by kernel_rfl) (fun _ _ _ h => h) (Or.inl ⟨by rfl, fun w hSw => ?_⟩) hHeld ?_
  · obtain ⟨s0, s1⟩ := hSw; go_simp
  try simp only [Act.put, List.setIfInBounds_toArray, List.set_cons_zero, List.set_cons_succ]
  refine AnyL.last (o := { dst := none, op := Go.Op.store 26 (Go.Operand.tmp 46) (Go.Operand.tmp 45), type := 0, pos := "gamma.go:50", after := #[{ on := 4, ground := Go.Ground.data }, { on := 3, ground := Go.Ground.data }, { on := 3, ground := Go.Ground.chain }, { on := 0, ground := Go.Ground.phase }, { on := 1, ground := Go.Ground.phase }, { on := 2, ground := Go.Ground.phase }, { on := 3, ground := Go.Ground.phase }], guard := none }) (by kernel_rfl) rfl (by kernel_rfl) (fun Kc hKc => ?_)
  have V2 := (unhide HXO).below hD2
  have lA := V2.lt
  obtain ⟨⟨y0, y1, y2, y3, y4⟩, y5⟩ := V2
  go_simp
  refine hKc.out _ _ ?_
  clear hKc Kc
  have R2 := R.below hD2
  obtain ⟨V, hV⟩ : ∃ V, V = ((w2.setCell ⟨BO, 2, none⟩ (.bool neg2)).setCell ⟨BO, 3, none⟩ (.slice a2 n2 c2)) := ⟨_, rfl⟩
  have R3 : NoC V (w.heap.size + 1 + 1) := by rw [hV]; exact R2.offH (by omega) _ _
  have A3 : VrC V BO ⟨xO.ln, xO.la, xO.lN, xO.lc, neg2, a2, n2, c2, xO.bits⟩ := by rw [hV]; exact sp_putHi ((unhide HXO).below hD2) ⟨neg2, a2, n2, c2⟩
  have i1 : IntAt V xO.ln xO.la xO.lN xO.lc 1600 (gaG n d b oY t NE NS).1 := by rw [hV]; exact ((unhide HOP).lo.below hD2).putH y2 y3 _ _
  have i2 : IntAt V neg2 a2 n2 c2 1601 (gaG n d b oY t NE NS).2 := by rw [hV]; exact (show IntAt w2 neg2 a2 n2 c2 1601 (gaG n d b oY t NE NS).2 from hint2).putH y2 y3 _ _
  have hB3 : Below w.heap.size w V := by rw [hV]; exact ((bthen hBW hD2).setCell (p := ⟨BO, 2, none⟩) (by show w.heap.size ≤ BO; omega) _).setCell (p := ⟨BO, 3, none⟩) (by show w.heap.size ≤ BO; omega) _
  rw [← hV]
  clear hV y0 y1 y2 y3 y4 y5 lA
  have gv := unhide HGV
  have fit := SpAt.fits (K := 70) (show SpAt V ⟨xO.ln, xO.la, xO.lN, xO.lc, neg2, a2, n2, c2, xO.bits⟩ 1601 (gaG n d b oY t NE NS).1 (gaG n d b oY t NE NS).2 from ⟨i1.mono (by omega), i2⟩) gv.le (by
    have := gv.lo
    have := Q_pos b
    have : 0 < P 70 := P_pos 70
    omega) (by
    have h1 := Q_mono (show b + 43 + 1 ≤ 16 * 70 by omega)
    rw [Q_P] at h1
    have h2 : Q (b + 43 + 1) = 2 * Q (b + 43) := rfl
    have := Q_pos (b + 43)
    have := gv.hi
    omega)
  clear gv i1 i2
  have lA := A3.lt
  have lR3 := R3.lt
  obtain ⟨⟨y0, y1, y2, y3, y4⟩, y5⟩ := A3
  obtain ⟨q0, q1, q2, q3, q4, q5⟩ := R3
  go_wp2_with fail
  refine bodyPost_ret (v := .agg #[.bool xO.ln, .slice xO.la xO.lN xO.lc, .bool neg2, .slice a2 n2 c2, .int .i64 xO.bits]) (by simp [results, Tryz.results115, go_sem, q0, q1, q2, q3, q4]) rfl ⟨_, _, unhide HGV, ⟨xO.ln, xO.la, xO.lN, xO.lc, neg2, a2, n2, c2, xO.bits⟩, rfl, unhide HOB, ?_, ?_⟩
  · exact SpAt.put5 fit q0 q1 q2 q3 q4 _ _ _ _ _
  · exact set5 hB3 (by omega) _ _ _ _ _
end Go.Proofs.YtgmnknmjainababGreat
namespace Go.Proofs.YtgmnknmjainababGreat
open Go.RowKit
attribute [local go_sem ↓] Go.wp_at_zero Go.wp_at_succ
open Ex
theorem fieldG0 (x y : Bool) (a a' : Option Addr) (n c n' c' : Nat) (b : Int) (w : World) : (Instr.field 28 (.agg #[.bool x, .slice a n c, .bool y, .slice a' n' c', .int .i64 b]) 0).run Tryz.prog w = .ok (.agg #[.bool x, .slice a n c]) w := by kernel_rfl
theorem fieldG1 (x y : Bool) (a a' : Option Addr) (n c n' c' : Nat) (b : Int) (w : World) : (Instr.field 28 (.agg #[.bool x, .slice a n c, .bool y, .slice a' n' c', .int .i64 b]) 1).run Tryz.prog w = .ok (.agg #[.bool y, .slice a' n' c']) w := by kernel_rfl
set_option maxRecDepth 100000 in
set_option maxHeartbeats 4000000 in
theorem logSpan_iv (w : World) (s : Sp) (b : Nat) (a : Int × Int) (hs : SpAt w s 70 a.1 a.2) (hbits : s.bits = (b : Int)) (hb16 : 40 ≤ b) (hb : b ≤ 1000) (ha : 0 < a.1) (hal : a.1 ≤ a.2) :
    Calls Tryz.prog 114 #[.agg #[.bool s.ln, .slice s.la s.lN s.lc, .bool s.hn, .slice s.ha s.hN s.hc, .int .i64 s.bits]] w (fun r w' => ∃ (p1 p2 r1 r2 : Int) (l1 l2 : Nat → Rat), LsIn a b (p1, p2) (r1, r2) l1 l2 ∧ LbOk b (p1, p2) ∧ LbOk b (r1, r2) ∧ SpanAns w b 520 p1 r2 r w') := by
  obtain ⟨W, hW⟩ : ∃ W, W = (w.alloc (.cells #[.bool s.ln, .slice s.la s.lN s.lc, .bool s.hn, .slice s.ha s.hN s.hc, .int .i64 s.bits] 28)).alloc (.cells #[.bool false, .slice none 0 0, .bool false, .slice none 0 0, .int .i64 0] 28) := ⟨_, rfl⟩
  have hBW : Below w.heap.size w W := by rw [hW]; exact bl2 _ _ _
  have A : SpC W w.heap.size s := by rw [hW]; exact ⟨by simp [go_sem], by simp [go_sem], by simp [go_sem], by simp [go_sem], by simp [go_sem]⟩
  have R : NoC W (w.heap.size + 1) := by rw [hW]; exact ⟨by simp [go_sem], by simp [go_sem], by simp [go_sem], by simp [go_sem], by simp [go_sem], fun o => by simp [go_sem]⟩
  have HS := hide (hs.below hBW)
  have HB := hide hbits
  have lR := R.lt
  have lA := A.lt
  have HQ4 := hide (show Q (b + 4) < P 500 by
    rw [← Q_P]
    have h1 := Q_mono (show b + 4 + 1 ≤ 16 * 500 by omega)
    have h2 : Q (b + 4 + 1) = 2 * Q (b + 4) := rfl
    have := Q_pos (b + 4)
    omega)
  have HQ1 := hide (show 0 < Q b by have := Q_pos b; omega)
  have HO := hide (show 1 * Q b = Q b by omega)
  have HA := hide (show 0 < a.1 ∧ 0 < a.2 ∧ a.1 ≤ a.2 from ⟨ha, by omega, hal⟩)
  have HK := hide (show ∀ w', Below W.heap.size W w' → (w'.cell? ⟨w.heap.size, 0, none⟩ = some (.bool s.ln) ∧ w'.cell? ⟨w.heap.size, 1, none⟩ = some (.slice s.la s.lN s.lc) ∧ w'.cell? ⟨w.heap.size, 2, none⟩ = some (.bool s.hn) ∧ w'.cell? ⟨w.heap.size, 3, none⟩ = some (.slice s.ha s.hN s.hc) ∧ w'.cell? ⟨w.heap.size, 4, none⟩ = some (.int .i64 s.bits)) from fun w' hB => ⟨(A.below hB).c0, (A.below hB).c1, (A.below hB).c2, (A.below hB).c3, (A.below hB).c4⟩)
  clear hs hbits ha hal
  have hf0 := fieldG0
  have hf1 := fieldG1
  go_enter Tryz.func114, Tryz.ntmps114
  go_wp2
  rw [← hW]
  clear hW lR
  go_cut [3] (fun p wx => ∃ (B : Nat) (u : Nm), p = .pointer (some ⟨B, 0, none⟩) ∧ W.heap.size ≤ B ∧ NmC wx B u ∧ IntAt wx u.neg u.a u.n u.cap 70 (Q b) ∧ Below W.heap.size W wx)
  case first =>
    have hD0 : Below W.heap.size W W.drew := (Below.refl _ _).drew
    go_region_held3 (fun w' => w'.cell? ⟨w.heap.size, 0, none⟩ = some (.bool s.ln) ∧ w'.cell? ⟨w.heap.size, 1, none⟩ = some (.slice s.la s.lN s.lc) ∧ w'.cell? ⟨w.heap.size, 2, none⟩ = some (.bool s.hn) ∧ w'.cell? ⟨w.heap.size, 3, none⟩ = some (.slice s.ha s.hN s.hc) ∧ w'.cell? ⟨w.heap.size, 4, none⟩ = some (.int .i64 s.bits)) (exact unhide HK _ (by repeat' (first | with_reducible exact hB2 | with_reducible exact hB1 | with_reducible exact Below.refl _ _ | with_reducible refine Below.drew ?_ | with_reducible refine balloc ?_ _ | with_reducible refine Below.setCell ?_ (by first | exact Nat.le_refl _ | exact hl1 | exact hl2) _)))
      (first
        | (go_at_call 95; have hq := hB1; refine (up_at _ _ _ _ _ b 4 1 _ (unhide HB) (hint1.below (by first | with_reducible exact Below.refl _ _ | with_reducible exact bl1 _ _)) (by omega) (by omega)).mono ?_; rintro r w2 ⟨neg2, a2, n2, c2, rfl, hint2, hb2⟩; have hC2 : Below w1.heap.size w1 w2 := (by first | with_reducible exact hb2 | with_reducible exact bthen (bl1 _ _) hb2); have hB2 := bthen hB1 hC2; (try with_reducible have g2 := (noi_new w1 26).below hb2); (try replace g1 := g1.below hC2); have hl2 := hB2.size; (try have m1 := g1.lt); (try have m2 := g2.lt); (try obtain ⟨z10, z11, z1f⟩ := g1); (try obtain ⟨z20, z21, z2f⟩ := g2))
        | (go_at_call 43; refine (numOf_int 1 _ (by omega) (by omega)).mono ?_; rintro r w1 ⟨neg1, a1, n1, c1, rfl, hint1, hb1⟩; have hB1 : Below W.heap.size W w1 := (by first | with_reducible exact bthen (Below.refl _ _).drew hb1 | with_reducible exact bthen (bl1 _ _).drew hb1); (try with_reducible have g1 := ((noi_new W 26).below (Below.refl _ _).drew).below hb1); have hl1 := hB1.size))
    all_goals
      have hfin : IntAt w2 neg2 a2 n2 c2 70 (Q b) := by rw [unhide HO] at hint2; exact hint2.mono (by omega)
      go_wp2_with fail
      go_meet
      refine ⟨_, ⟨neg2, a2, n2, c2⟩, rfl, ?_, ⟨?_, ?_⟩, ?_, ?_⟩
      · first | exact Nat.le_refl _ | exact hl1 | exact hl2
      · simp [go_sem, *]
      · simp [go_sem, *]
      · first | with_reducible exact hfin.put2 z20 z21 _ _ | with_reducible exact hfin.put2 z10 z11 _ _ | with_reducible exact hfin.below (bl1 _ _)
      · repeat' (first | with_reducible exact hB2 | with_reducible exact hB1 | with_reducible exact Below.refl _ _ | with_reducible refine Below.drew ?_ | with_reducible refine balloc ?_ _ | with_reducible refine Below.setCell ?_ (by first | exact Nat.le_refl _ | exact hl1 | exact hl2) _)
  case rest =>
  obtain ⟨BU, U, rfl, hHU, CU, hU, hblU⟩ := hcut
  have lR := R.lt
  have A2 := A.below hblU
  replace R := R.below hblU
  replace HS := hide ((unhide HS).below hblU)
  replace hBW := bthen hBW hblU
  have nRU : w.heap.size + 1 < BU := by omega
  have HU := hide hU
  have HK2 := hide (show ∀ w', Below wc.heap.size wc w' → (w'.cell? ⟨w.heap.size, 0, none⟩ = some (.bool s.ln) ∧ w'.cell? ⟨w.heap.size, 1, none⟩ = some (.slice s.la s.lN s.lc) ∧ w'.cell? ⟨w.heap.size, 2, none⟩ = some (.bool s.hn) ∧ w'.cell? ⟨w.heap.size, 3, none⟩ = some (.slice s.ha s.hN s.hc) ∧ w'.cell? ⟨w.heap.size, 4, none⟩ = some (.int .i64 s.bits) ∧ w'.cell? ⟨BU, 0, none⟩ = some (.bool U.neg) ∧ w'.cell? ⟨BU, 1, none⟩ = some (.slice U.a U.n U.cap)) from fun w' hB => ⟨(A2.below hB).c0, (A2.below hB).c1, (A2.below hB).c2, (A2.below hB).c3, (A2.below hB).c4, (CU.below hB).c0, (CU.below hB).c1⟩)
  have lU := CU.lt
  clear hU HK hblU A2 CU
  have n1 : w.heap.size + 1 ≠ w.heap.size := by omega
  have n2 : w.heap.size + 1 ≠ BU := by omega
  have hD0 : Below wc.heap.size wc wc.drew := (Below.refl _ _).drew
  obtain ⟨x0, x1, x2, x3, x4, y0, y1⟩ := unhide HK2 _ (Below.refl _ _)
  go_wp2_with fail
  go_region_held3 (fun w' => w'.cell? ⟨w.heap.size, 0, none⟩ = some (.bool s.ln) ∧ w'.cell? ⟨w.heap.size, 1, none⟩ = some (.slice s.la s.lN s.lc) ∧ w'.cell? ⟨w.heap.size, 2, none⟩ = some (.bool s.hn) ∧ w'.cell? ⟨w.heap.size, 3, none⟩ = some (.slice s.ha s.hN s.hc) ∧ w'.cell? ⟨w.heap.size, 4, none⟩ = some (.int .i64 s.bits) ∧ w'.cell? ⟨BU, 0, none⟩ = some (.bool U.neg) ∧ w'.cell? ⟨BU, 1, none⟩ = some (.slice U.a U.n U.cap)) (first | exact unhide HK2 _ (by first | with_reducible exact hD0 | with_reducible exact hD2 | with_reducible exact hD1) | go_keep)
    (first
      | (go_at_call 116; have hqq := hD1; (try rw [unhide HB]); refine (wideLog_iv _ ⟨s.hn, s.ha, s.hN, s.hc⟩ U 70 b 500 a.2 (Q b) ((unhide HS).hi.below hD1) ((unhide HU).below hD1) (by omega) (unhide HA).2.1 (unhide HQ1) (by omega) (by omega) (unhide HQ4) (by omega)).mono ?_; rintro r' w2 ⟨n2', d2', cc2, N21, N22, hbal2, hc21, hc22, hN21, hN22, v2, rfl, hvb2, hint2, hb2⟩; have hD2 := bthen hD1 hb2; clear hvb2; replace hint1 := hint1.below hb2; have HX2 := hide (And.intro hbal2 (And.intro hc21 (And.intro hc22 (And.intro hN21 hN22)))); clear hbal2 hc21 hc22 hN21 hN22; obtain ⟨q0, q1, q2, q3, q4, q5⟩ := R.below hD2; obtain ⟨i0, i1, i2, i3, i4, j0, j1⟩ := unhide HK2 _ hD2)
      | (go_at_call 116; (try rw [unhide HB]); refine (wideLog_iv _ ⟨s.ln, s.la, s.lN, s.lc⟩ U 70 b 500 a.1 (Q b) ((unhide HS).lo.below hD0) ((unhide HU).below hD0) (by omega) (unhide HA).1 (unhide HQ1) (by omega) (by omega) (unhide HQ4) (by omega)).mono ?_; rintro r' w1 ⟨n1', d1', cc1, N11, N12, hbal1, hc11, hc12, hN11, hN12, v1, rfl, hvb1, hint1, hb1⟩; have hD1 := bthen hD0 hb1; clear hvb1; have HX1 := hide (And.intro hbal1 (And.intro hc11 (And.intro hc12 (And.intro hN11 hN12)))); clear hbal1 hc11 hc12 hN11 hN12))
  all_goals
    go_wp2_with fail
    have hbb := unhide HB
    obtain ⟨bal1, c11, c12, s11, s12⟩ := unhide HX1
    obtain ⟨bal2, c21, c22, s21, s22⟩ := unhide HX2
    obtain ⟨l1, g1, i1⟩ := log_has (unhide HA).1 (unhide HQ1) bal1 b N11 N12
    obtain ⟨l2, g2, i2⟩ := log_has (unhide HA).2.1 (unhide HQ1) bal2 b N21 N22
    refine bodyPost_ret (v := .agg #[.bool v1.ln, .slice v1.la v1.lN v1.lc, .bool v2.hn, .slice v2.ha v2.hN v2.hc, .int .i64 (b : Int)]) (by simp [results, Tryz.results114, go_sem, q0, q1, q2, q3, q4]) rfl ⟨_, _, _, _, l1, l2, ⟨(unhide HA).1, (unhide HA).2.2, g1, g2, i1, i2⟩, lb_of (by omega) hb bal1.1 s11 s12 70 (by omega) c11 c12, lb_of (by omega) hb bal2.1 s21 s22 70 (by omega) c21 c22, ⟨v1.ln, v1.la, v1.lN, v1.lc, v2.hn, v2.ha, v2.hN, v2.hc, (b : Int)⟩, rfl, rfl, ?_, ?_⟩
    · exact SpAt.put5 (show SpAt _ (⟨v1.ln, v1.la, v1.lN, v1.lc, v2.hn, v2.ha, v2.hN, v2.hc, (b : Int)⟩ : Sp) 520 _ _ from ⟨hint1.lo, hint2.hi⟩) q0 q1 q2 q3 q4 _ _ _ _ _
    · exact set5 (bthen hBW hD2) (Nat.le_succ _) _ _ _ _ _
end Go.Proofs.YtgmnknmjainababGreat
namespace Go.Proofs.YtgmnknmjainababGreat
open Go.RowKit
attribute [local go_sem ↓] Go.wp_at_zero Go.wp_at_succ
open Ex
theorem GaV.pos {g : Nat → Rat} {B : Nat} {a : Int × Int} (h : GaV g B a) : 0 < a.1 := by have := h.lo; have := Q_pos B; omega
end Go.Proofs.YtgmnknmjainababGreat
namespace Go.Proofs.YtgmnknmjainababGreat
open Ex
theorem dbl {b : Int} (m : Nat) : ∀ {a : Int}, 0 < a → a ≤ b → b - a ≤ (m : Int) → ∃ i, a * Q i ≤ b ∧ b < 2 * (a * Q i) := by
  have e0 : Q 0 = 1 := rfl
  induction m with
  | zero =>
    intro a h1 h2 h3
    exact ⟨0, by rw [e0]; omega, by rw [e0]; omega⟩
  | succ m ih =>
    intro a h1 h2 h3
    by_cases h : b < 2 * a
    · exact ⟨0, by rw [e0]; omega, by rw [e0]; omega⟩
    · obtain ⟨i, g1, g2⟩ := ih (a := 2 * a) (by omega) (by omega) (by omega)
      have e : a * Q (i + 1) = 2 * a * Q i := by show a * (2 * Q i) = _; grind
      exact ⟨i + 1, by rw [e]; exact g1, by rw [e]; exact g2⟩
theorem bal_ex {n d : Int} (hn : 0 < n) (hd : 0 < d) : ∃ n' d' k, Bal n d n' d' k := by
  have e0 : Q 0 = 1 := rfl
  by_cases h : d ≤ n
  · obtain ⟨i, h1, h2⟩ := dbl (n - d).toNat hd h (by omega)
    exact ⟨n, _, _, bal_of (j := 0) (i := i) hn hd (by rw [e0]; omega) rfl h1 h2 (Or.inl rfl)⟩
  · obtain ⟨i, h1, h2⟩ := dbl (d - n).toNat hn (Int.le_of_lt (Int.not_le.1 h)) (by omega)
    by_cases h3 : n * Q i = d
    · exact ⟨_, d, _, bal_of (j := i) (i := 0) hn hd rfl (by rw [e0]; omega) (by omega) (by omega) (Or.inr rfl)⟩
    · have e : n * Q (i + 1) = 2 * (n * Q i) := by show n * (2 * Q i) = _; grind
      exact ⟨_, d, _, bal_of (j := i + 1) (i := 0) hn hd rfl (by rw [e0]; omega) (by omega) (by omega) (Or.inr rfl)⟩
theorem log_ex {n d : Int} (hn : 0 < n) (hd : 0 < d) : ∃ l, IsLog l (fun _ => (n : Rat) / (d : Rat)) := by
  obtain ⟨n', d', k, h⟩ := bal_ex hn hd
  exact ⟨_, bal_isLog hd h (ln_isLog h.1) isLog_two⟩
theorem E3 (j : Nat) : (16 : Rat) ≤ E 3 (5 + j) := by
  induction j with
  | zero => decide +kernel
  | succ j ih =>
    have e : E 3 (5 + (j + 1)) = E 3 (5 + j) + tm 3 (5 + j) := rfl
    have := tm_nonneg (show (0 : Rat) ≤ 3 by decide) (5 + j)
    rw [e]; grind
end Go.Proofs.YtgmnknmjainababGreat
namespace Go.Proofs.YtgmnknmjainababGreat
open Go.RowKit
attribute [local go_sem ↓] Go.wp_at_zero Go.wp_at_succ
theorem or_zero64 (a : Int) (h0 : 0 ≤ a) (h1 : a < 65536) : bits .or .i64 0 a = a := by
  simp [bits]
  have e0 : (2 : Int) ^ IntKind.i64.bits = 18446744073709551616 := rfl
  have e : a % 2 ^ IntKind.i64.bits = a := Int.emod_eq_of_lt h0 (by rw [e0]; omega)
  rw [e, show max a 0 = a by omega]
  exact i64_id _ (by omega) (by omega)
set_option maxRecDepth 100000 in
set_option maxHeartbeats 2000000 in
theorem small_one (neg : Bool) (a : Option Addr) (n cap : Nat) (z : Int) (w : World) (h : IntAt w neg a n cap 1 z) (h0 : 0 ≤ z) :
    Calls Tryz.prog 158 #[.agg #[.bool neg, .slice a n cap]] w fun r w' => r = .returned (.int .i64 z) ∧ Below w.heap.size w w' := by
  obtain ⟨d, g1, g2, g3, g4, g5⟩ := h
  have hd := g1.dgs
  rcases (show n = 0 ∨ n = 1 by omega) with rfl | rfl
  · have hz : z = 0 := by rw [g5]; unfold sgn; split <;> rfl
    subst hz
    clear g1 g2 g3 g4 g5 hd h0
    go_enter Tryz.func158, Tryz.ntmps158
    go_wp2_with fail
    go_loopw [3, 4] (fun oo ii wr => oo = .int .i64 0 ∧ ii = .int .i64 (-1) ∧ Below w.heap.size w wr) (fun _ ii _ => 0)
    case atStart => exact ⟨rfl, by go_num, bl1 _ _⟩
    case round =>
      obtain ⟨rfl, rfl, hB⟩ := hrel
      go_wp2_with fail
      exact bodyPost_ret (v := .int .i64 0) (by simp [results, Tryz.results158]) rfl ⟨rfl, hB⟩
  · have hv : V d 1 = d 0 := by show V d 0 + d 0 * P 0 = d 0; show 0 + d 0 * 1 = d 0; omega
    have hneg : neg = false := by
      cases neg
      · rfl
      · have h1 := (hd 0).1
        rw [hv] at g5
        have : z = -d 0 := g5
        have : d 0 ≠ 0 := by rcases g2 with g | g; exact absurd g (by omega); exact g
        omega
    subst hneg
    have hz : z = d 0 := by rw [g5, hv]; rfl
    subst hz
    obtain ⟨b1, o1, rfl, l1, hc1⟩ := g1.at_ (by omega)
    have c0 := hc1 0 (by omega)
    have hd0 := (hd 0).1
    have hd1 := (hd 0).2
    have HO := hide (or_zero64 (d 0) hd0 hd1)
    have H0 := hide (show IntKind.i64.wrap (d 0) = d 0 from i64_id _ (by omega) (by omega))
    simp only [Nat.add_zero] at c0
    clear hc1 g2 g3 g4 g5 hv h0 hd g1
    go_enter Tryz.func158, Tryz.ntmps158
    go_wp2_with fail
    go_loopw [3, 4] (fun oo ii wr => ((oo = .int .i64 0 ∧ ii = .int .i64 0) ∨ (oo = .int .i64 (d 0) ∧ ii = .int .i64 (-1))) ∧ Below w.heap.size w wr ∧ wr.cell? ⟨w.heap.size, 1, none⟩ = some (.slice (some ⟨b1, o1, none⟩) 1 cap)) (fun _ ii _ => (intOf ii + 1).toNat)
    case atStart => exact ⟨Or.inl ⟨rfl, by go_num⟩, bl1 _ _, by simp [go_sem]⟩
    case round =>
      obtain ⟨hh, hB, hx⟩ := hrel
      have c1 : wr.cell? ⟨b1, o1, none⟩ = some (.int .u16 (d 0)) := (hB.cell (p := ⟨b1, o1, none⟩) l1).trans c0
      rcases hh with ⟨rfl, rfl⟩ | ⟨rfl, rfl⟩
      · go_wp2_with fail
        first
          | rw [unhide HO]
          | skip
        go_roundw
        case rel => exact ⟨Or.inr ⟨by first | rfl | (rw [unhide HO]) | (simp [unhide HO]), by go_num⟩, hB, hx⟩
        case measure => simp [intOf]
      · go_wp2_with fail
        exact bodyPost_ret (v := .int .i64 (d 0)) (by simp [results, Tryz.results158]) rfl ⟨rfl, hB⟩
theorem sp_putLoE {w : World} {B : Nat} {s : Sp} (h : VrC w B s) (x : Nm) : VrC ((w.setCell ⟨B, 0, none⟩ (.bool x.neg)).setCell ⟨B, 1, none⟩ (.slice x.a x.n x.cap)) B ⟨x.neg, x.a, x.n, x.cap, s.hn, s.ha, s.hN, s.hc, s.bits⟩ := by
  obtain ⟨⟨q0, q1, q2, q3, q4⟩, q5⟩ := h
  exact ⟨⟨by simp [go_sem, q0], by simp [go_sem, q1], by simp [go_sem, q2], by simp [go_sem, q3], by simp [go_sem, q4]⟩, fun o => by rw [frozen_set', frozen_set']; exact q5 o⟩
theorem NoC.offLE {w : World} {B B' : Nat} (h : NoC w B) (hne : B ≠ B') (u0 u1 : Value) : NoC ((w.setCell ⟨B', 0, none⟩ u0).setCell ⟨B', 1, none⟩ u1) B := by
  obtain ⟨q0, q1, q2, q3, q4, q5⟩ := h
  exact ⟨by simp [go_sem, q0, hne, Ne.symm hne], by simp [go_sem, q1, hne, Ne.symm hne], by simp [go_sem, q2, hne, Ne.symm hne], by simp [go_sem, q3, hne, Ne.symm hne], by simp [go_sem, q4, hne, Ne.symm hne], fun o => by rw [frozen_set', frozen_set']; exact q5 o⟩
theorem IntAt.putLE {w : World} {neg : Bool} {a : Option Addr} {n cap k : Nat} {z : Int} (h : IntAt w neg a n cap k z) {B : Nat} {x0 : Bool} {y0 : Option Addr} {y1 y2 : Nat} (h0 : w.cell? ⟨B, 0, none⟩ = some (.bool x0))
    (h1 : w.cell? ⟨B, 1, none⟩ = some (.slice y0 y1 y2)) (u0 u1 : Value) : IntAt ((w.setCell ⟨B, 0, none⟩ u0).setCell ⟨B, 1, none⟩ u1) neg a n cap k z := by
  have hne : (⟨B, 0, none⟩ : Addr) ≠ ⟨B, 1, none⟩ := by simp
  have h2 : (w.setCell ⟨B, 0, none⟩ u0).cell? ⟨B, 1, none⟩ = some (.slice y0 y1 y2) := (World.cell?_setCell_other _ _ _ _ hne).trans h1
  exact (h.store h0 (fun _ e => by cases e) u0).store h2 (fun _ e => by cases e) u1
set_option maxRecDepth 100000 in
set_option maxHeartbeats 4000000 in
theorem nearlyOne_int (w : World) (b : Nat) (hb : b ≤ 100000) :
    Calls Tryz.prog 157 #[.int .i64 b] w (SpanAns w b (b / 16 + 30) (Q b - 1) (Q b)) := by
  obtain ⟨W, hW⟩ : ∃ W, W = w.alloc (.cells #[.bool false, .slice none 0 0, .bool false, .slice none 0 0, .int .i64 0] 28) := ⟨_, rfl⟩
  have hBW : Below w.heap.size w W := by rw [hW]; exact bl1 _ _
  have R : NoC W w.heap.size := by rw [hW]; exact ⟨by simp [go_sem], by simp [go_sem], by simp [go_sem], by simp [go_sem], by simp [go_sem], fun o => by simp [go_sem]⟩
  have HO1 := hide (show 1 * Q b / 1 = Q b by rw [Int.ediv_one]; omega)
  have HO2 := hide (show -(-(1 * Q b) / 1) = Q b by rw [Int.ediv_one]; omega)
  go_enter Tryz.func157, Tryz.ntmps157
  go_wp2_with fail
  rw [← hW]
  clear hW
  refine (one_int _ b (by omega)).mono ?_
  rintro r' w1 ⟨v1, rfl, hvb1, hs1, hb1⟩
  replace R := R.below hb1
  replace hBW := bthen hBW hb1
  have lR1 := R.lt
  have HB := hide hvb1
  clear hvb1 hb1
  obtain ⟨V1, hV1⟩ : ∃ V, V = w1.alloc (.cells #[.bool v1.ln, .slice v1.la v1.lN v1.lc, .bool v1.hn, .slice v1.ha v1.hN v1.hc, .int .i64 v1.bits] 28) := ⟨_, rfl⟩
  have bV : Below w1.heap.size w1 V1 := by rw [hV1]; exact bl1 _ _
  have A : VrC V1 w1.heap.size v1 := by rw [hV1]; exact ⟨spc_new _ _ _, fun o => by simp [go_sem]⟩
  have HS := hide (show SpAt V1 v1 (b / 16 + 24) (Q b) (Q b) from by have := hs1.below bV; rw [unhide HO1, unhide HO2] at this; exact this)
  replace R := R.below bV
  replace hBW := bthen hBW bV
  have HBW := hide hBW
  have HA := hide A
  have HR := hide R
  have hD0 : Below V1.heap.size V1 V1.drew := (Below.refl _ _).drew
  have HK := hide (show ∀ w', Below V1.heap.size V1 w' → (w'.cell? ⟨w1.heap.size, 0, none⟩ = some (.bool v1.ln) ∧ w'.cell? ⟨w1.heap.size, 1, none⟩ = some (.slice v1.la v1.lN v1.lc)) from fun w' hB => ⟨(A.below hB).c.c0, (A.below hB).c.c1⟩)
  clear hs1 A R hBW bV
  go_wp2_with fail
  rw [← hV1]
  clear hV1
  refine AnyL.start (S := fun w' => w'.cell? ⟨w1.heap.size, 0, none⟩ = some (.bool v1.ln) ∧ w'.cell? ⟨w1.heap.size, 1, none⟩ = some (.slice v1.la v1.lN v1.lc)) (l := 5) (by kernel_rfl) (unhide HK _ hD0) (fun hHeld => ?_)
  refine AnyL.take (i := 0) (oi := { dst := some 6, op := Go.Op.fieldAddr 28 (Go.Operand.tmp 3) 0, type := 0, pos := "part.go:60", after := #[], guard := none }) (v := .pointer (some ⟨w1.heap.size, 0, none⟩)) rfl (by kernel_rfl) (by kernel_rfl) (by kernel_rfl) (by kernel_rfl) (fun _ _ _ h => h) (Or.inl ⟨by rfl, fun w hSw => ?_⟩) hHeld ?_
  · obtain ⟨s0, s1⟩ := hSw; go_simp
  try simp only [Act.put, List.setIfInBounds_toArray, List.set_cons_zero, List.set_cons_succ]
  refine AnyL.take (i := 1) (oi := { dst := some 7, op := Go.Op.load 26 (Go.Operand.tmp 6), type := 26, pos := "part.go:60", after := #[{ on := 0, ground := Go.Ground.data }], guard := none }) (v := .agg #[.bool v1.ln, .slice v1.la v1.lN v1.lc]) rfl (by kernel_rfl) (by kernel_rfl) (by kernel_rfl) (by kernel_rfl) (fun _ _ _ h => h) (Or.inl ⟨by rfl, fun w hSw => ?_⟩) hHeld ?_
  · obtain ⟨s0, s1⟩ := hSw; go_simp
  try simp only [Act.put, List.setIfInBounds_toArray, List.set_cons_zero, List.set_cons_succ]
  refine AnyL.one (i := 2) (o := { dst := some 8, op := Go.Op.call { callee := Go.Callee.value (Go.Operand.func 43), args := #[Go.Operand.const (Go.Value.int Go.IntKind.i64 1)], argTypes := #[3] }, type := 26, pos := "part.go:60", after := #[], guard := none }) (by kernel_rfl) rfl (fun Kc hKc => ?_)
  go_simp
  refine (numOf_int 1 _ (by omega) (by omega)).mono ?_
  rintro r' w2 ⟨neg2, a2, n2, c2, rfl, hint2, hb2⟩
  have hD1 := bthen hD0 hb2
  clear hb2
  go_wp2_with fail
  refine hKc.out _ _ (unhide HK _ hD1) (fun hHeld => ?_)
  clear hKc Kc
  try simp only [Act.put, List.setIfInBounds_toArray, List.set_cons_zero, List.set_cons_succ]
  refine AnyL.one (i := 3) (o := { dst := some 9, op := Go.Op.call { callee := Go.Callee.value (Go.Operand.func 72), args := #[Go.Operand.tmp 7, Go.Operand.tmp 8], argTypes := #[26, 26] }, type := 26, pos := "part.go:60", after := #[{ on := 1, ground := Go.Ground.data }, { on := 2, ground := Go.Ground.data }, { on := 2, ground := Go.Ground.chain }], guard := none }) (by kernel_rfl) rfl (fun Kc hKc => ?_)
  go_simp
  refine (sub_int _ _ _ _ _ _ _ _ (b / 16 + 24) 4 (Q b) 1 _ ((unhide HS).lo.below hD1) hint2 (by omega) (by omega)).mono ?_
  rintro r' w3 ⟨neg3, a3, n3, c3, rfl, hint3, hb3⟩
  have hD2 := bthen hD1 hb3
  clear hb3
  go_wp2_with fail
  refine hKc.out _ _ (unhide HK _ hD2) (fun hHeld => ?_)
  clear hKc Kc
  try simp only [Act.put, List.setIfInBounds_toArray, List.set_cons_zero, List.set_cons_succ]
  refine AnyL.take (i := 4) (oi := { dst := some 10, op := Go.Op.fieldAddr 28 (Go.Operand.tmp 3) 0, type := 0, pos := "part.go:60", after := #[{ on := 0, ground := Go.Ground.phase }, { on := 1, ground := Go.Ground.phase }, { on := 2, ground := Go.Ground.phase }, { on := 3, ground := Go.Ground.phase }], guard := none }) (v := .pointer (some ⟨w1.heap.size, 0, none⟩)) rfl (by kernel_rfl) (by kernel_rfl) (by kernel_rfl) (by kernel_rfl) (fun _ _ _ h => h) (Or.inl ⟨by rfl, fun w hSw => ?_⟩) hHeld ?_
  · obtain ⟨s0, s1⟩ := hSw; go_simp
  try simp only [Act.put, List.setIfInBounds_toArray, List.set_cons_zero, List.set_cons_succ]
  refine AnyL.last (o := { dst := none, op := Go.Op.store 26 (Go.Operand.tmp 10) (Go.Operand.tmp 9), type := 0, pos := "part.go:60", after := #[{ on := 4, ground := Go.Ground.data }, { on := 3, ground := Go.Ground.data }, { on := 3, ground := Go.Ground.chain }, { on := 0, ground := Go.Ground.phase }, { on := 1, ground := Go.Ground.phase }, { on := 2, ground := Go.Ground.phase }, { on := 3, ground := Go.Ground.phase }], guard := none }) (by kernel_rfl) rfl (by kernel_rfl) (fun Kc hKc => ?_)
  have V2 := (unhide HA).below hD2
  have lA := V2.lt
  obtain ⟨⟨y0, y1, y2, y3, y4⟩, y5⟩ := V2
  go_simp
  refine hKc.out _ _ ?_
  clear hKc Kc
  have R2 := (unhide HR).below hD2
  obtain ⟨V, hV⟩ : ∃ V, V = ((w3.setCell ⟨w1.heap.size, 0, none⟩ (.bool neg3)).setCell ⟨w1.heap.size, 1, none⟩ (.slice a3 n3 c3)) := ⟨_, rfl⟩
  have R3 : NoC V w.heap.size := by rw [hV]; exact R2.offLE (by omega) _ _
  have A3 : VrC V w1.heap.size ⟨neg3, a3, n3, c3, v1.hn, v1.ha, v1.hN, v1.hc, v1.bits⟩ := by rw [hV]; exact sp_putLoE ((unhide HA).below hD2) ⟨neg3, a3, n3, c3⟩
  have i1 : IntAt V neg3 a3 n3 c3 (b / 16 + 30) (Q b - 1) := by rw [hV]; exact (hint3.mono (by omega)).putLE y0 y1 _ _
  have i2 : IntAt V v1.hn v1.ha v1.hN v1.hc (b / 16 + 30) (Q b) := by rw [hV]; exact (((unhide HS).hi.below hD2).mono (by omega)).putLE y0 y1 _ _
  have hB3 : Below w.heap.size w V := by rw [hV]; exact ((bthen (unhide HBW) hD2).setCell (p := ⟨w1.heap.size, 0, none⟩) (Nat.le_of_lt lR1) _).setCell (p := ⟨w1.heap.size, 1, none⟩) (Nat.le_of_lt lR1) _
  rw [← hV]
  clear hV y0 y1 y2 y3 y4 y5 lA
  have lA := A3.lt
  have lR := R3.lt
  obtain ⟨⟨y0, y1, y2, y3, y4⟩, y5⟩ := A3
  obtain ⟨q0, q1, q2, q3, q4, q5⟩ := R3
  go_wp2_with fail
  refine bodyPost_ret (v := .agg #[.bool neg3, .slice a3 n3 c3, .bool v1.hn, .slice v1.ha v1.hN v1.hc, .int .i64 v1.bits]) (by simp [results, Tryz.results157, go_sem, q0, q1, q2, q3, q4]) rfl ⟨⟨neg3, a3, n3, c3, v1.hn, v1.ha, v1.hN, v1.hc, v1.bits⟩, rfl, unhide HB, ?_, ?_⟩
  · exact SpAt.put5 (show SpAt V ⟨neg3, a3, n3, c3, v1.hn, v1.ha, v1.hN, v1.hc, v1.bits⟩ (b / 16 + 30) (Q b - 1) (Q b) from ⟨i1, i2⟩) q0 q1 q2 q3 q4 _ _ _ _ _
  · exact set5 hB3 (Nat.le_refl _) _ _ _ _ _
end Go.Proofs.YtgmnknmjainababGreat
namespace Go.Proofs.YtgmnknmjainababGreat
open Go.RowKit
attribute [local go_sem ↓] Go.wp_at_zero Go.wp_at_succ
theorem up_one (neg : Bool) (a : Option Addr) (n cap k1 : Nat) (x : Int) (w : World) (h1 : IntAt w neg a n cap k1 x) (hk1 : k1 ≤ 1000000000) :
    Calls Tryz.prog 95 #[.agg #[.bool neg, .slice a n cap], .int .i64 1] w fun r w' =>
      ∃ neg' a' n' cap', r = .returned (.agg #[.bool neg', .slice a' n' cap']) ∧ IntAt w' neg' a' n' cap' (k1 + 1) (2 * x) ∧ Below w.heap.size w w' :=
  (up_int neg a n cap 1 k1 x w h1 hk1 (by omega)).mono fun r w' ⟨q1, q2, q3, q4, e, h, hb⟩ => ⟨q1, q2, q3, q4, e, by
    have e1 : x * Q 1 = 2 * x := by have : Q 1 = 2 := rfl; rw [this]; omega
    have e2 : 1 / 16 + k1 + 1 = k1 + 1 := by omega
    rw [e1, e2] at h; exact h, hb⟩
end Go.Proofs.YtgmnknmjainababGreat
namespace Go.Proofs.YtgmnknmjainababGreat
open Go.RowKit
attribute [local go_sem ↓] Go.wp_at_zero Go.wp_at_succ
def restI (B : Nat) (a : Int × Int) : Int × Int := (Q B - a.2, Q B - a.1)
theorem one_z {b : Nat} (z : Int) (hz : z = (b : Int)) (w : World) (hb : b ≤ 1000000) : Calls Tryz.prog 133 #[.int .i64 z] w (SpanAns w b (b / 16 + 24) (1 * Q b / 1) (-(-(1 * Q b) / 1))) := by
  subst hz
  exact one_int w b hb
set_option maxRecDepth 100000 in
set_option maxHeartbeats 2000000 in
theorem rest_iv (w : World) (s : Sp) (k b : Nat) (a : Int × Int) (hs : SpAt w s k a.1 a.2) (hbits : s.bits = (b : Int)) (hb : b ≤ 100000) (hk0 : b / 16 + 24 ≤ k) (hk : k ≤ 100000000) :
    Calls Tryz.prog 70 #[.agg #[.bool s.ln, .slice s.la s.lN s.lc, .bool s.hn, .slice s.ha s.hN s.hc, .int .i64 s.bits]] w (SpanAns w b (k + 1) (restI b a).1 (restI b a).2) := by
  obtain ⟨W, hW⟩ : ∃ W, W = (w.alloc (.cells #[.bool s.ln, .slice s.la s.lN s.lc, .bool s.hn, .slice s.ha s.hN s.hc, .int .i64 s.bits] 28)).alloc (.cells #[.bool false, .slice none 0 0, .bool false, .slice none 0 0, .int .i64 0] 28) := ⟨_, rfl⟩
  have hBW : Below w.heap.size w W := by rw [hW]; exact bl2 _ _ _
  have A : SpC W w.heap.size s := by rw [hW]; exact ⟨by simp [go_sem], by simp [go_sem], by simp [go_sem], by simp [go_sem], by simp [go_sem]⟩
  have R : NoC W (w.heap.size + 1) := by rw [hW]; exact ⟨by simp [go_sem], by simp [go_sem], by simp [go_sem], by simp [go_sem], by simp [go_sem], fun o => by simp [go_sem]⟩
  have HS := hide (hs.below hBW)
  have HB := hide hbits
  have lA := A.lt
  have lR := R.lt
  have HO := hide (show (1 * Q b / 1, -(-(1 * Q b) / 1)) = (Q b, Q b) by rw [Int.ediv_one, Int.ediv_one]; simp)
  have hB0 : Below W.heap.size W W.drew := (Below.refl _ _).drew
  have HK := hide (show ∀ w', Below W.heap.size W w' → (w'.cell? ⟨w.heap.size, 0, none⟩ = some (.bool s.ln) ∧ w'.cell? ⟨w.heap.size, 1, none⟩ = some (.slice s.la s.lN s.lc) ∧ w'.cell? ⟨w.heap.size, 2, none⟩ = some (.bool s.hn) ∧ w'.cell? ⟨w.heap.size, 3, none⟩ = some (.slice s.ha s.hN s.hc) ∧ w'.cell? ⟨w.heap.size, 4, none⟩ = some (.int .i64 s.bits)) from fun w' hB => ⟨(A.below hB).c0, (A.below hB).c1, (A.below hB).c2, (A.below hB).c3, (A.below hB).c4⟩)
  clear hs hbits
  go_enter Tryz.func70, Tryz.ntmps70
  go_wp2
  rw [← hW]
  clear hW
  obtain ⟨x0, x1, x2, x3, x4⟩ := A
  go_region_held3 (fun w' => w'.cell? ⟨w.heap.size, 0, none⟩ = some (.bool s.ln) ∧ w'.cell? ⟨w.heap.size, 1, none⟩ = some (.slice s.la s.lN s.lc) ∧ w'.cell? ⟨w.heap.size, 2, none⟩ = some (.bool s.hn) ∧ w'.cell? ⟨w.heap.size, 3, none⟩ = some (.slice s.ha s.hN s.hc) ∧ w'.cell? ⟨w.heap.size, 4, none⟩ = some (.int .i64 s.bits)) (first | exact unhide HK _ (by first | with_reducible exact hB0 | with_reducible exact hB2 | with_reducible exact hB1) | go_keep)
    (first
      | (go_at_call 118; have hq := hB1; refine (sub_iv _ v1 s k b (1 * Q b / 1, -(-(1 * Q b) / 1)) a (hvp1.mono hk0) ((unhide HS).below hB1) (by omega) (unhide HV)).mono ?_; rintro r w2 ⟨t, rfl, htb, htp, hb2⟩; have HT := hide htb; clear htb; have hB2 := bthen hB1 hb2; obtain ⟨q0, q1, q2, q3, q4, q5⟩ := R.below hB2; obtain ⟨i0, i1, i2, i3, i4⟩ := unhide HK _ hB2)
      | (go_at_call 133; refine (one_z _ (unhide HB) _ (by omega)).mono ?_; rintro r w1 ⟨v1, rfl, hvb1, hvp1, hb1⟩; have HV := hide hvb1; clear hvb1; have hB1 := bthen hB0 hb1))
  all_goals
    go_wp2
    refine bodyPost_ret (v := .agg #[.bool t.ln, .slice t.la t.lN t.lc, .bool t.hn, .slice t.ha t.hN t.hc, .int .i64 t.bits]) (by simp [results, Tryz.results70, go_sem, q0, q1, q2, q3, q4]) rfl ⟨t, rfl, unhide HT, ?_, ?_⟩
    · rw [unhide HO] at htp
      exact SpAt.put5 htp q0 q1 q2 q3 q4 _ _ _ _ _
    · exact set5 (bthen hBW hB2) (Nat.le_succ _) _ _ _ _ _
end Go.Proofs.YtgmnknmjainababGreat
namespace Go.Proofs.YtgmnknmjainababGreat
open Ex
theorem sure_nar {b m : Nat} {lo hi L H : Int} (hle : lo ≤ hi) (e1 : L = lo / Q m) (e2 : H = -(-hi / Q m)) (h6 : H - L ≤ 1 ∨ narB L H (Q b) 4 = true) : L ≤ H ∧ narB L H (Q b) 4 = true := by
  have h7 := to_width (m := m) (Kw := (hi - lo).toNat) hle (by
    have : ∀ k : Nat, (k : Int) ≤ Q k := fun k => by
      induction k with
      | zero => decide
      | succ k ih => have e : Q (k + 1) = 2 * Q k := rfl; have := Q_pos k; omega
    have := this (hi - lo).toNat
    omega)
  have h8 : L ≤ H := by rw [e1, e2]; omega
  refine ⟨h8, ?_⟩
  rcases h6 with h6 | h6
  · exact narB_small h8 (by omega)
  · exact h6
end Go.Proofs.YtgmnknmjainababGreat
