/-
  Texts Gmb, Gmd, Gme, PowM, ErfV, GamN, Gmh, Pwx: what they hold is told in the last text.
-/
import Derived.Test.YtgmnknmjainababK18
set_option linter.unnecessarySimpa false
set_option linter.unusedSimpArgs false
set_option linter.unusedVariables false
namespace Go.Proofs.Ytgmnknmjainabab
open Go.RowKit
attribute [local go_sem ↓] Go.wp_at_zero Go.wp_at_succ
open Ex
set_option maxRecDepth 100000 in
set_option maxHeartbeats 8000000 in
theorem gammaBelow_iv (L : Rat → Nat → Rat) (hL : Lns L) (w : World) (n d : Int) (b : Nat) (g : Nat → Rat) (h : GaIn n d b) (hg : Gam1 L ((n : Rat) / (d : Rat)) g) :
    Calls Try.prog 100 #[.int .i64 n, .int .i64 d, .int .i64 b] w (fun r w' => ∃ lo hi : Int, GaV g b (lo, hi) ∧ SpanAns w b 70 lo hi r w') := by
  obtain ⟨W, hW⟩ : ∃ W, W = (((w.alloc (.cells #[.int .i64 n] 3)).alloc (.cells #[.int .i64 d] 3)).alloc (.cells #[.bool false, .slice none 0 0, .bool false, .slice none 0 0, .int .i64 0] 28)).alloc (.cells #[.int .i64 (b : Int)] 3) := ⟨_, rfl⟩
  have hBW : Below w.heap.size w W := by rw [hW]; exact bl4 _ _ _ _ _
  have N0 : IcC W (w.heap.size) n := by rw [hW]; exact ⟨by simp [go_sem]⟩
  have D0 : IcC W (w.heap.size + 1) d := by rw [hW]; exact ⟨by simp [go_sem]⟩
  have X0 : IcC W (w.heap.size + 1 + 1 + 1) (b : Int) := by rw [hW]; exact ⟨by simp [go_sem]⟩
  have R : NoC W (w.heap.size + 1 + 1) := by rw [hW]; exact ⟨by simp [go_sem], by simp [go_sem], by simp [go_sem], by simp [go_sem], by simp [go_sem], fun o => by simp [go_sem]⟩
  have n0 := h.n0
  have nd := h.nd
  have dd := h.dd
  have b0 := h.b0
  have b1 := h.b1
  have bd0 : 0 ≤ (b : Int) * d := Int.mul_nonneg (by omega) (by omega)
  have bd1 : (b : Int) * d ≤ 1000 * 2199023255552 := Int.mul_le_mul (by omega) dd (by omega) (by omega)
  have lX := X0.lt
  have H := hide h
  have HL := hide hL
  have HG := hide hg
  obtain ⟨NS, hNS, hNS2⟩ := ga_set h
  obtain ⟨f1, f2, f3, f4⟩ := ga_first h
  have PK : ∀ j : Nat, j ≤ 22000 → Q j < P 1400 := fun j hj => by
    rw [← Q_P]
    have h1 := Q_mono (show j + 1 ≤ 16 * 1400 by omega)
    have h2 : Q (j + 1) = 2 * Q j := rfl
    have := Q_pos j
    omega
  have HF0 := hide (show (ofI d n b).1 ≤ (ofI d n b).2 ∧ -P 1400 < (ofI d n b).1 ∧ (ofI d n b).2 < P 1400 by
    have := PK (b + 41) (by omega)
    have := Q_pos b
    exact ⟨f2, by omega, by omega⟩)
  have HTF := hide (show ∀ j, j ≤ NS → -P 1400 < (gaT n d b j).1 ∧ (gaT n d b j).2 < P 1400 from fun j _ => by
    have e := ga_each h j
    have u := ga_hi h j
    have := PK (21 * b + 41) (by omega)
    have := Q_pos (21 * b + 41)
    exact ⟨by omega, by omega⟩)
  have HTS := hide (show ∀ j, j ≤ NS → -P 1400 < (sumI (gaT n d b) j).1 ∧ (sumI (gaT n d b) j).2 < P 1400 from fun j hj => by
    have u := ga_fit h j (by omega)
    have l := (ga_wideS h j).2.2.2
    have := PK (21 * b + 60) (by omega)
    have := Q_pos b
    have := Q_pos (21 * b + 60)
    exact ⟨by omega, by omega⟩)
  have HTL := hide (fun j => (ga_each h j).2)
  have HT0 := hide (fun j => (ga_each h j).1)
  have HM := hide hNS2
  have HFN := hide (show ∀ (j : Nat) (u : Sp) w', j < NS → u.bits = (b : Int) → SpAt w' u 1400 (gaT n d b j).1 (gaT n d b j).2 → Below W.heap.size W w' → Calls Try.prog 146 #[.agg #[.bool u.ln, .slice u.la u.lN u.lc, .bool u.hn, .slice u.ha u.hN u.hc, .int .i64 u.bits], .int .i64 ((j : Int) + 1), .pointer (some ⟨w.heap.size + 1 + 1 + 1, 0, none⟩), .pointer (some ⟨w.heap.size + 1, 0, none⟩), .pointer (some ⟨w.heap.size, 0, none⟩)] w' (SpanAns w' b 1414 (gaT n d b (j + 1)).1 (gaT n d b (j + 1)).2) from fun j u w' hj hub hup hbw => by
    have e := ga1_iv w' (w.heap.size + 1 + 1 + 1) (w.heap.size + 1) (w.heap.size) u (b : Int) d n 1400 b ((j : Int) + 1) (gaT n d b j) hup (X0.below hbw) (D0.below hbw) (N0.below hbw) (by omega) hub bd0 (by omega) (Int.mul_nonneg (by omega) (by omega)) (by
      have := Int.mul_le_mul (show (j : Int) + 1 ≤ 70000 by omega) dd (by omega) (by omega)
      omega) n0 (by omega)
    have ec : ((j + 1 : Nat) : Int) = (j : Int) + 1 := by omega
    have e2 : gaT n d b (j + 1) = scaleI (gaT n d b j) ((b : Int) * d) (n + ((j + 1 : Nat) : Int) * d) := rfl
    rw [e2, ec]
    exact e)
  have HE1 := hide (show IntKind.i64.wrap (2 * (b : Int)) = ((2 * b : Nat) : Int) from (i64_id _ (by omega) (by omega)).trans (by omega))
  have HK := hide (show ∀ w', Below W.heap.size W w' → (w'.cell? ⟨w.heap.size, 0, none⟩ = some (.int .i64 n) ∧ w'.cell? ⟨w.heap.size + 1, 0, none⟩ = some (.int .i64 d) ∧ w'.cell? ⟨w.heap.size + 1 + 1 + 1, 0, none⟩ = some (.int .i64 (b : Int))) from fun w' hB => ⟨(N0.below hB).c0, (D0.below hB).c0, (X0.below hB).c0⟩)
  clear h hL hg hNS2 PK f1 f2 f3 f4
  have lR := R.lt
  go_enter Try.func100, Try.ntmps100
  go_wp2
  rw [← hW]
  clear hW
  go_cut [8] (fun p wx => ∃ (B : Nat) (u : Sp), p = .pointer (some ⟨B, 0, none⟩) ∧ W.heap.size ≤ B ∧ VrC wx B u ∧ SpAt wx u 1403 (gaSer n d b NS).1 (gaSer n d b NS).2 ∧ u.bits = (b : Int) ∧ Below W.heap.size W wx)
  case first =>
    go_region_held3 (fun w' => w'.cell? ⟨w.heap.size, 0, none⟩ = some (.int .i64 n) ∧ w'.cell? ⟨w.heap.size + 1, 0, none⟩ = some (.int .i64 d) ∧ w'.cell? ⟨w.heap.size + 1 + 1 + 1, 0, none⟩ = some (.int .i64 (b : Int))) (exact unhide HK _ (by repeat' (first | with_reducible exact hBS4 | with_reducible exact hBS3 | with_reducible exact hBS2 | with_reducible exact hBS1 | with_reducible exact Below.refl _ _ | with_reducible refine Below.drew ?_ | with_reducible refine balloc ?_ _ | with_reducible refine Below.setCell ?_ (by first | exact Nat.le_refl _ | exact hlS1 | exact hlS2 | exact hlS3 | exact hlS4) _)))
      (first
        | (go_at_call 125; have hq := hBS3; rw [unhide HE1]; refine (rise_ga _ _ _ (gaT n d b) (2 * b) NS b 1400 1414 vS3 _ ((hintS3.below (by first | with_reducible exact Below.refl _ _ | with_reducible exact bl1 _ _)).fits (K := 1400) (unhide HF0).1 (unhide HF0).2.1 (unhide HF0).2.2) (unhide HVBS3) (by omega) (by omega) (by omega) (by omega) (unhide HM) (by omega) (by omega) (unhide HTL) (unhide HT0) (unhide HTF) (unhide HTS) (fun j u w' hj hub hup hbw => unhide HFN j u w' hj hub hup (bthen (by first | with_reducible exact hBS3 | with_reducible exact balloc hBS3 _) hbw))).mono ?_; rintro r wS4 ⟨vS4, rfl, hvbS4, hintS4, hbS4⟩; have HVBS4 := hide hvbS4; clear hvbS4; have hCS4 : Below wS3.heap.size wS3 wS4 := (by first | with_reducible exact hbS4 | with_reducible exact bthen (bl1 _ _) hbS4); have hBS4 := bthen hBS3 hCS4; (try with_reducible have gS4 := (noc_new wS3 28).below hbS4); replace hintS1 := hintS1.below hCS4; (try replace gS1 := gS1.below hCS4); replace hintS2 := hintS2.below hCS4; (try replace gS2 := gS2.below hCS4); replace hintS3 := hintS3.below hCS4; (try replace gS3 := gS3.below hCS4); have hlS4 := hBS4.size; (try have mS1 := gS1.lt); (try have eS1 := Nat.ne_of_lt mS1); (try have eS1' := Nat.ne_of_gt mS1); (try obtain ⟨zS10, zS11, zS12, zS13, zS14, zS15⟩ := gS1); (try have mS2 := gS2.lt); (try have eS2 := Nat.ne_of_lt mS2); (try have eS2' := Nat.ne_of_gt mS2); (try obtain ⟨zS20, zS21, zS22, zS23, zS24, zS25⟩ := gS2); (try have mS3 := gS3.lt); (try have eS3 := Nat.ne_of_lt mS3); (try have eS3' := Nat.ne_of_gt mS3); (try obtain ⟨zS30, zS31, zS32, zS33, zS34, zS35⟩ := gS3); (try have mS4 := gS4.lt); (try have eS4 := Nat.ne_of_lt mS4); (try have eS4' := Nat.ne_of_gt mS4); (try obtain ⟨zS40, zS41, zS42, zS43, zS44, zS45⟩ := gS4))
        | (go_at_call 66; have hq := hBS2; refine (wideOf_any _ _ _ _ _ _ _ _ 4 4 b d n _ (hintS1.below (by first | with_reducible exact Below.refl _ _ | with_reducible exact bl1 _ _)) (hintS2.below (by first | with_reducible exact Below.refl _ _ | with_reducible exact bl1 _ _)) (by omega) (by omega) n0).mono ?_; rintro r wS3 ⟨vS3, rfl, hvbS3, hintS3, hbS3⟩; have HVBS3 := hide hvbS3; clear hvbS3; have hCS3 : Below wS2.heap.size wS2 wS3 := (by first | with_reducible exact hbS3 | with_reducible exact bthen (bl1 _ _) hbS3); have hBS3 := bthen hBS2 hCS3; (try with_reducible have gS3 := (noc_new wS2 28).below hbS3); replace hintS1 := hintS1.below hCS3; (try replace gS1 := gS1.below hCS3); replace hintS2 := hintS2.below hCS3; (try replace gS2 := gS2.below hCS3); have hlS3 := hBS3.size)
        | (go_at_call 48; have hq := hBS1; refine (numOf_int n _ (by omega) (by omega)).mono ?_; rintro r wS2 ⟨negS2, aS2, nS2, cS2, rfl, hintS2, hbS2⟩; have hCS2 : Below wS1.heap.size wS1 wS2 := (by first | with_reducible exact hbS2 | with_reducible exact bthen (bl1 _ _) hbS2); have hBS2 := bthen hBS1 hCS2; (try with_reducible have gS2 := (noc_new wS1 28).below hbS2); replace hintS1 := hintS1.below hCS2; (try replace gS1 := gS1.below hCS2); have hlS2 := hBS2.size)
        | (go_at_call 48; refine (numOf_int d _ (by omega) (by omega)).mono ?_; rintro r wS1 ⟨negS1, aS1, nS1, cS1, rfl, hintS1, hbS1⟩; have hBS1 : Below W.heap.size W wS1 := (by first | with_reducible exact bthen (Below.refl _ _).drew hbS1 | with_reducible exact bthen (bl1 _ _).drew hbS1); (try with_reducible have gS1 := ((noc_new W 28).below (Below.refl _ _).drew).below hbS1); have hlS1 := hBS1.size))
    all_goals
      have hfinS : SpAt wS4 vS4 1403 (gaSer n d b NS).1 (gaSer n d b NS).2 := hintS4
      go_wp2_with fail
      go_meet
      refine ⟨_, vS4, rfl, ?_, ⟨⟨?_, ?_, ?_, ?_, ?_⟩, ?_⟩, ?_, unhide HVBS4, ?_⟩
      · first | exact Nat.le_refl _ | exact hlS1 | exact hlS2 | exact hlS3 | exact hlS4
      · simp [go_sem, *]
      · simp [go_sem, *]
      · simp [go_sem, *]
      · simp [go_sem, *]
      · simp [go_sem, *]
      · intro o; simp [go_sem, *]
      · first | with_reducible exact SpAt.put5 hfinS zS40 zS41 zS42 zS43 zS44 _ _ _ _ _ | with_reducible exact SpAt.put5 hfinS zS30 zS31 zS32 zS33 zS34 _ _ _ _ _ | with_reducible exact SpAt.put5 hfinS zS20 zS21 zS22 zS23 zS24 _ _ _ _ _ | with_reducible exact SpAt.put5 hfinS zS10 zS11 zS12 zS13 zS14 _ _ _ _ _ | with_reducible exact hfinS.below (bl1 _ _)
      · repeat' (first | with_reducible exact hBS4 | with_reducible exact hBS3 | with_reducible exact hBS2 | with_reducible exact hBS1 | with_reducible exact Below.refl _ _ | with_reducible refine Below.drew ?_ | with_reducible refine balloc ?_ _ | with_reducible refine Below.setCell ?_ (by first | exact Nat.le_refl _ | exact hlS1 | exact hlS2 | exact hlS3 | exact hlS4) _)
  case rest =>
  obtain ⟨BS, xS, rfl, hHS, XS, hpS, hxbS, hblS⟩ := hcut
  obtain ⟨V1, hV1⟩ : ∃ V, V = wc := ⟨_, rfl⟩
  subst hV1
  replace N0 := N0.below hblS
  replace D0 := D0.below hblS
  replace X0 := X0.below hblS
  replace R := R.below hblS
  replace hBW := bthen hBW hblS
  have HSB := hide hxbS
  have HSP := hide hpS
  have lS := XS.lt
  clear hxbS hpS HK HTF HTS HTL HT0 HFN HF0 HE1
  have HK := hide (show ∀ w', Below V1.heap.size V1 w' → (w'.cell? ⟨w.heap.size, 0, none⟩ = some (.int .i64 n) ∧ w'.cell? ⟨w.heap.size + 1, 0, none⟩ = some (.int .i64 d) ∧ w'.cell? ⟨w.heap.size + 1 + 1 + 1, 0, none⟩ = some (.int .i64 (b : Int))) from fun w' hB => ⟨(N0.below hB).c0, (D0.below hB).c0, (X0.below hB).c0⟩)
  have HQ4 := hide (show Q (b + 4) < P 500 by
    rw [← Q_P]
    have h1 := Q_mono (show b + 4 + 1 ≤ 16 * 500 by omega)
    have h2 : Q (b + 4 + 1) = 2 * Q (b + 4) := rfl
    have := Q_pos (b + 4)
    omega)
  have d0 : 0 < d := by omega
  go_wp2_with fail
  go_cut [9] (fun p wx => ∃ (B : Nat) (u : Sp) (o : Int × Int), p = .pointer (some ⟨B, 0, none⟩) ∧ GaLog L b o ∧ V1.heap.size ≤ B ∧ VrC wx B u ∧ SpAt wx u 534 (scaleI o n d).1 (scaleI o n d).2 ∧ u.bits = (b : Int) ∧ Below V1.heap.size V1 wx)
  case first =>
    go_region_held3 (fun w' => w'.cell? ⟨w.heap.size, 0, none⟩ = some (.int .i64 n) ∧ w'.cell? ⟨w.heap.size + 1, 0, none⟩ = some (.int .i64 d) ∧ w'.cell? ⟨w.heap.size + 1 + 1 + 1, 0, none⟩ = some (.int .i64 (b : Int))) (exact unhide HK _ (by repeat' (first | with_reducible exact hBY6 | with_reducible exact hBY5 | with_reducible exact hBY4 | with_reducible exact hBY3 | with_reducible exact hBY2 | with_reducible exact hBY1 | with_reducible exact Below.refl _ _ | with_reducible refine Below.drew ?_ | with_reducible refine balloc ?_ _ | with_reducible refine Below.setCell ?_ (by first | exact Nat.le_refl _ | exact hlY1 | exact hlY2 | exact hlY3 | exact hlY4 | exact hlY5 | exact hlY6) _)))
      (first
        | (go_at_call 99; have hq := hBY5; refine (scale_iv _ vY3 ⟨negY4, aY4, nY4, cY4⟩ ⟨negY5, aY5, nY5, cY5⟩ 520 4 4 b (lnOf (doneI (lnT n' d' b) N1) (doneI (lnT 2 1 b) N2) cc) n d ((hintY3.below (bthen hCY4 hCY5)).below (by first | with_reducible exact Below.refl _ _ | with_reducible exact bl1 _ _)) (hintY4.below (by first | with_reducible exact Below.refl _ _ | with_reducible exact bl1 _ _)) (hintY5.below (by first | with_reducible exact Below.refl _ _ | with_reducible exact bl1 _ _)) (by omega) (by omega) d0 (unhide HVBY3)).mono ?_; rintro r wY6 ⟨vY6, rfl, hvbY6, hintY6, hbY6⟩; have HVBY6 := hide hvbY6; clear hvbY6; have hCY6 : Below wY5.heap.size wY5 wY6 := (by first | with_reducible exact hbY6 | with_reducible exact bthen (bl1 _ _) hbY6); have hBY6 := bthen hBY5 hCY6; (try with_reducible have gY6 := (noc_new wY5 28).below hbY6); replace hintY1 := hintY1.below hCY6; (try replace gY1 := gY1.below hCY6); replace hintY2 := hintY2.below hCY6; (try replace gY2 := gY2.below hCY6); (try replace gY3 := gY3.below hCY6); replace hintY4 := hintY4.below hCY6; (try replace gY4 := gY4.below hCY6); replace hintY5 := hintY5.below hCY6; (try replace gY5 := gY5.below hCY6); have hlY6 := hBY6.size; (try have mY1 := gY1.lt); (try have eY1 := Nat.ne_of_lt mY1); (try have eY1' := Nat.ne_of_gt mY1); (try obtain ⟨zY10, zY11, zY12, zY13, zY14, zY15⟩ := gY1); (try have mY2 := gY2.lt); (try have eY2 := Nat.ne_of_lt mY2); (try have eY2' := Nat.ne_of_gt mY2); (try obtain ⟨zY20, zY21, zY22, zY23, zY24, zY25⟩ := gY2); (try have mY3 := gY3.lt); (try have eY3 := Nat.ne_of_lt mY3); (try have eY3' := Nat.ne_of_gt mY3); (try obtain ⟨zY30, zY31, zY32, zY33, zY34, zY35⟩ := gY3); (try have mY4 := gY4.lt); (try have eY4 := Nat.ne_of_lt mY4); (try have eY4' := Nat.ne_of_gt mY4); (try obtain ⟨zY40, zY41, zY42, zY43, zY44, zY45⟩ := gY4); (try have mY5 := gY5.lt); (try have eY5 := Nat.ne_of_lt mY5); (try have eY5' := Nat.ne_of_gt mY5); (try obtain ⟨zY50, zY51, zY52, zY53, zY54, zY55⟩ := gY5); (try have mY6 := gY6.lt); (try have eY6 := Nat.ne_of_lt mY6); (try have eY6' := Nat.ne_of_gt mY6); (try obtain ⟨zY60, zY61, zY62, zY63, zY64, zY65⟩ := gY6))
        | (go_at_call 48; have hq := hBY4; refine (numOf_int d _ (by omega) (by omega)).mono ?_; rintro r wY5 ⟨negY5, aY5, nY5, cY5, rfl, hintY5, hbY5⟩; have hCY5 : Below wY4.heap.size wY4 wY5 := (by first | with_reducible exact hbY5 | with_reducible exact bthen (bl1 _ _) hbY5); have hBY5 := bthen hBY4 hCY5; (try with_reducible have gY5 := (noc_new wY4 28).below hbY5); replace hintY1 := hintY1.below hCY5; (try replace gY1 := gY1.below hCY5); replace hintY2 := hintY2.below hCY5; (try replace gY2 := gY2.below hCY5); (try replace gY3 := gY3.below hCY5); replace hintY4 := hintY4.below hCY5; (try replace gY4 := gY4.below hCY5); have hlY5 := hBY5.size)
        | (go_at_call 48; have hq := hBY3; refine (numOf_int n _ (by omega) (by omega)).mono ?_; rintro r wY4 ⟨negY4, aY4, nY4, cY4, rfl, hintY4, hbY4⟩; have hCY4 : Below wY3.heap.size wY3 wY4 := (by first | with_reducible exact hbY4 | with_reducible exact bthen (bl1 _ _) hbY4); have hBY4 := bthen hBY3 hCY4; (try with_reducible have gY4 := (noc_new wY3 28).below hbY4); replace hintY1 := hintY1.below hCY4; (try replace gY1 := gY1.below hCY4); replace hintY2 := hintY2.below hCY4; (try replace gY2 := gY2.below hCY4); (try replace gY3 := gY3.below hCY4); have hlY4 := hBY4.size)
        | (go_at_call 128; have hq := hBY2; refine (wideLog_iv _ ⟨negY1, aY1, nY1, cY1⟩ ⟨negY2, aY2, nY2, cY2⟩ 4 b 500 (b : Int) 1 (hintY1.below (by first | with_reducible exact Below.refl _ _ | with_reducible exact bl1 _ _)) (hintY2.below (by first | with_reducible exact Below.refl _ _ | with_reducible exact bl1 _ _)) (by omega) (by omega) (by omega) (by omega) (by omega) (unhide HQ4) (by omega)).mono ?_; rintro r wY3 ⟨n', d', cc, N1, N2, hbal, hc1, hc2, hN1, hN2, vY3, rfl, hvbY3, hintY3, hbY3⟩; have HVBY3 := hide hvbY3; clear hvbY3; have HGL := hide (gaLog_of (unhide HL) (by omega) (by omega) hbal hN1 hN2); clear hbal hc1 hc2 hN1 hN2; have hCY3 : Below wY2.heap.size wY2 wY3 := (by first | with_reducible exact hbY3 | with_reducible exact bthen (bl1 _ _) hbY3); have hBY3 := bthen hBY2 hCY3; (try with_reducible have gY3 := (noc_new wY2 28).below hbY3); replace hintY1 := hintY1.below hCY3; (try replace gY1 := gY1.below hCY3); replace hintY2 := hintY2.below hCY3; (try replace gY2 := gY2.below hCY3); have hlY3 := hBY3.size)
        | (go_at_call 48; have hq := hBY1; refine (numOf_int 1 _ (by omega) (by omega)).mono ?_; rintro r wY2 ⟨negY2, aY2, nY2, cY2, rfl, hintY2, hbY2⟩; have hCY2 : Below wY1.heap.size wY1 wY2 := (by first | with_reducible exact hbY2 | with_reducible exact bthen (bl1 _ _) hbY2); have hBY2 := bthen hBY1 hCY2; (try with_reducible have gY2 := (noc_new wY1 28).below hbY2); replace hintY1 := hintY1.below hCY2; (try replace gY1 := gY1.below hCY2); have hlY2 := hBY2.size)
        | (go_at_call 48; refine (numOf_int (b : Int) _ (by omega) (by omega)).mono ?_; rintro r wY1 ⟨negY1, aY1, nY1, cY1, rfl, hintY1, hbY1⟩; have hBY1 : Below V1.heap.size V1 wY1 := (by first | with_reducible exact bthen (Below.refl _ _).drew hbY1 | with_reducible exact bthen (bl1 _ _).drew hbY1); (try with_reducible have gY1 := ((noc_new V1 28).below (Below.refl _ _).drew).below hbY1); have hlY1 := hBY1.size))
    all_goals
      have hfinY : SpAt wY6 vY6 534 (scaleI (lnOf (doneI (lnT n' d' b) N1) (doneI (lnT 2 1 b) N2) cc) n d).1 (scaleI (lnOf (doneI (lnT n' d' b) N1) (doneI (lnT 2 1 b) N2) cc) n d).2 := hintY6
      go_wp2_with fail
      go_meet
      refine ⟨_, vY6, _, rfl, unhide HGL, ?_, ⟨⟨?_, ?_, ?_, ?_, ?_⟩, ?_⟩, ?_, unhide HVBY6, ?_⟩
      · first | exact Nat.le_refl _ | exact hlY1 | exact hlY2 | exact hlY3 | exact hlY4 | exact hlY5 | exact hlY6
      · simp [go_sem, *]
      · simp [go_sem, *]
      · simp [go_sem, *]
      · simp [go_sem, *]
      · simp [go_sem, *]
      · intro o; simp [go_sem, *]
      · first | with_reducible exact SpAt.put5 hfinY zY60 zY61 zY62 zY63 zY64 _ _ _ _ _ | with_reducible exact SpAt.put5 hfinY zY50 zY51 zY52 zY53 zY54 _ _ _ _ _ | with_reducible exact SpAt.put5 hfinY zY40 zY41 zY42 zY43 zY44 _ _ _ _ _ | with_reducible exact SpAt.put5 hfinY zY30 zY31 zY32 zY33 zY34 _ _ _ _ _ | with_reducible exact SpAt.put5 hfinY zY20 zY21 zY22 zY23 zY24 _ _ _ _ _ | with_reducible exact SpAt.put5 hfinY zY10 zY11 zY12 zY13 zY14 _ _ _ _ _ | with_reducible exact hfinY.below (bl1 _ _)
      · repeat' (first | with_reducible exact hBY6 | with_reducible exact hBY5 | with_reducible exact hBY4 | with_reducible exact hBY3 | with_reducible exact hBY2 | with_reducible exact hBY1 | with_reducible exact Below.refl _ _ | with_reducible refine Below.drew ?_ | with_reducible refine balloc ?_ _ | with_reducible refine Below.setCell ?_ (by first | exact Nat.le_refl _ | exact hlY1 | exact hlY2 | exact hlY3 | exact hlY4 | exact hlY5 | exact hlY6) _)
  case rest =>
  obtain ⟨BY, xY, oY, rfl, hGL, hHY, XY, hpY, hxbY, hblY⟩ := hcut
  obtain ⟨V2, hV2⟩ : ∃ V, V = wc := ⟨_, rfl⟩
  subst hV2
  have XS2 := XS.below hblY
  replace N0 := N0.below hblY
  replace D0 := D0.below hblY
  replace X0 := X0.below hblY
  replace R := R.below hblY
  replace hBW := bthen hBW hblY
  replace HSP := hide ((unhide HSP).below hblY)
  have HYB := hide hxbY
  have HYP := hide hpY
  clear hxbY hpY HK XS
  have lY := XY.lt
  have lS2 := XS2.lt
  have GE := gaY_ok (unhide H) hGL
  obtain ⟨l, t, NE, e1, e2, e3, e4, e5⟩ := exp_set (B := b) (e := 11) (by omega) GE.2.1 GE.2.2.2.1
  have GV := gaG_ok (unhide HL) (unhide H) (unhide HG) hGL (by omega) e4 e5 hNS (unhide HM)
  have EO := gaE_ok (unhide H) hGL (show t ≤ 19 by omega) e4 e5
  have SO := gaSer_ok (unhide H) hNS
  have HQE := hide (show Q (b + eb t) < P 500 by
    rw [← Q_P]
    have ebm := eb_mono (show t ≤ 19 by omega)
    have eb19 : eb 19 = 6144 := by decide
    rw [eb19] at ebm
    have h1 := Q_mono (show b + eb t + 1 ≤ 16 * 500 by omega)
    have h2 : Q (b + eb t + 1) = 2 * Q (b + eb t) := rfl
    have := Q_pos (b + eb t)
    omega)
  have HYF := hide (show (gaY n d b oY).1 ≤ (gaY n d b oY).2 ∧ -P 500 < (gaY n d b oY).1 ∧ (gaY n d b oY).2 < P 500 by
    have r := GE.2.2.2.1
    have ra := reach_abs GE.2.1
    obtain ⟨r1, r2, r3, r4⟩ := ra
    have h1 := Q_mono (show b + 11 ≤ 16 * 500 by omega)
    rw [Q_P] at h1
    exact ⟨GE.2.1, by omega, by omega⟩)
  have HGV := hide GV
  have HE5 := hide e1
  have HE6 := hide e2
  have HE7 := hide e4
  have HE8 := hide e5
  have ht : t ≤ 1000000 := by omega
  have HDN := hide (show ¬ ((gaE n d b oY t NE).1 ≤ 0 ∧ 0 ≤ (gaE n d b oY t NE).2) ∧ (gaE n d b oY t NE).1 ≤ (gaE n d b oY t NE).2 ∧ (gaSer n d b NS).1 ≤ (gaSer n d b NS).2 by
    have := Q_pos b
    exact ⟨by omega, EO.2.1, SO.2.1⟩)
  clear GE GV EO SO e1 e2 e3 e4 e5 hGL
  have HK := hide (show ∀ w', Below V2.heap.size V2 w' → (w'.cell? ⟨w.heap.size, 0, none⟩ = some (.int .i64 n) ∧ w'.cell? ⟨w.heap.size + 1, 0, none⟩ = some (.int .i64 d) ∧ w'.cell? ⟨w.heap.size + 1 + 1 + 1, 0, none⟩ = some (.int .i64 (b : Int)) ∧ w'.cell? ⟨BS, 0, none⟩ = some (.bool xS.ln) ∧ w'.cell? ⟨BS, 1, none⟩ = some (.slice xS.la xS.lN xS.lc) ∧ w'.cell? ⟨BS, 2, none⟩ = some (.bool xS.hn) ∧ w'.cell? ⟨BS, 3, none⟩ = some (.slice xS.ha xS.hN xS.hc) ∧ w'.cell? ⟨BS, 4, none⟩ = some (.int .i64 xS.bits) ∧ w'.cell? ⟨BY, 0, none⟩ = some (.bool xY.ln) ∧ w'.cell? ⟨BY, 1, none⟩ = some (.slice xY.la xY.lN xY.lc) ∧ w'.cell? ⟨BY, 2, none⟩ = some (.bool xY.hn) ∧ w'.cell? ⟨BY, 3, none⟩ = some (.slice xY.ha xY.hN xY.hc) ∧ w'.cell? ⟨BY, 4, none⟩ = some (.int .i64 xY.bits)) from fun w' hB => ⟨(N0.below hB).c0, (D0.below hB).c0, (X0.below hB).c0, (XS2.c.below hB).c0, (XS2.c.below hB).c1, (XS2.c.below hB).c2, (XS2.c.below hB).c3, (XS2.c.below hB).c4, (XY.c.below hB).c0, (XY.c.below hB).c1, (XY.c.below hB).c2, (XY.c.below hB).c3, (XY.c.below hB).c4⟩)
  go_wp2_with fail
  go_cut [10] (fun p wx => ∃ (B : Nat) (u : Sp), p = .pointer (some ⟨B, 0, none⟩) ∧ V2.heap.size ≤ B ∧ VrC wx B u ∧ SpAt wx u 1600 (((dvLo (gaSer n d b NS).1 (gaSer n d b NS).2 (gaE n d b oY t NE).1 (gaE n d b oY t NE).2 b, dvHi (gaSer n d b NS).1 (gaSer n d b NS).2 (gaE n d b oY t NE).1 (gaE n d b oY t NE).2 b) : Int × Int)).1 (((dvLo (gaSer n d b NS).1 (gaSer n d b NS).2 (gaE n d b oY t NE).1 (gaE n d b oY t NE).2 b, dvHi (gaSer n d b NS).1 (gaSer n d b NS).2 (gaE n d b oY t NE).1 (gaE n d b oY t NE).2 b) : Int × Int)).2 ∧ u.bits = (b : Int) ∧ Below V2.heap.size V2 wx)
  case first =>
    go_region_held3 (fun w' => w'.cell? ⟨w.heap.size, 0, none⟩ = some (.int .i64 n) ∧ w'.cell? ⟨w.heap.size + 1, 0, none⟩ = some (.int .i64 d) ∧ w'.cell? ⟨w.heap.size + 1 + 1 + 1, 0, none⟩ = some (.int .i64 (b : Int)) ∧ w'.cell? ⟨BS, 0, none⟩ = some (.bool xS.ln) ∧ w'.cell? ⟨BS, 1, none⟩ = some (.slice xS.la xS.lN xS.lc) ∧ w'.cell? ⟨BS, 2, none⟩ = some (.bool xS.hn) ∧ w'.cell? ⟨BS, 3, none⟩ = some (.slice xS.ha xS.hN xS.hc) ∧ w'.cell? ⟨BS, 4, none⟩ = some (.int .i64 xS.bits) ∧ w'.cell? ⟨BY, 0, none⟩ = some (.bool xY.ln) ∧ w'.cell? ⟨BY, 1, none⟩ = some (.slice xY.la xY.lN xY.lc) ∧ w'.cell? ⟨BY, 2, none⟩ = some (.bool xY.hn) ∧ w'.cell? ⟨BY, 3, none⟩ = some (.slice xY.ha xY.hN xY.hc) ∧ w'.cell? ⟨BY, 4, none⟩ = some (.int .i64 xY.bits)) (exact unhide HK _ (by repeat' (first | with_reducible exact hBO6 | with_reducible exact hBO5 | with_reducible exact hBO4 | with_reducible exact hBO3 | with_reducible exact hBO2 | with_reducible exact hBO1 | with_reducible exact Below.refl _ _ | with_reducible refine Below.drew ?_ | with_reducible refine balloc ?_ _ | with_reducible refine Below.setCell ?_ (by first | exact Nat.le_refl _ | exact hlO1 | exact hlO2 | exact hlO3 | exact hlO4 | exact hlO5 | exact hlO6) _)))
      (first
        | (go_at_call 130; have hq := hBO5; refine (wideDiv_any _ xS vO5 1403 b _ _ _ _ ((unhide HSP).below (by first | with_reducible exact hBO5 | with_reducible exact balloc hBO5 _)) ((show SpAt _ vO5 500 (gaE n d b oY t NE).1 (gaE n d b oY t NE).2 from (hintO5.below (by first | with_reducible exact Below.refl _ _ | with_reducible exact bl1 _ _))).mono (by omega)) (by omega) (by omega) (unhide HSB) (unhide HDN).2.2 (unhide HDN).1 (unhide HDN).2.1).mono ?_; rintro r wO6 ⟨vO6, rfl, hvbO6, hintO6, hbO6⟩; have HVBO6 := hide hvbO6; clear hvbO6; have hCO6 : Below wO5.heap.size wO5 wO6 := (by first | with_reducible exact hbO6 | with_reducible exact bthen (bl1 _ _) hbO6); have hBO6 := bthen hBO5 hCO6; (try with_reducible have gO6 := (noc_new wO5 28).below hbO6); replace hintO1 := hintO1.below hCO6; (try replace gO1 := gO1.below hCO6); replace hintO2 := hintO2.below hCO6; (try replace gO2 := gO2.below hCO6); replace hintO3 := hintO3.below hCO6; (try replace gO3 := gO3.below hCO6); replace hintO4 := hintO4.below hCO6; (try replace gO4 := gO4.below hCO6); replace hintO5 := hintO5.below hCO6; (try replace gO5 := gO5.below hCO6); have hlO6 := hBO6.size; (try have mO1 := gO1.lt); (try have eO1 := Nat.ne_of_lt mO1); (try have eO1' := Nat.ne_of_gt mO1); (try obtain ⟨zO10, zO11, zO12, zO13, zO14, zO15⟩ := gO1); (try have mO2 := gO2.lt); (try have eO2 := Nat.ne_of_lt mO2); (try have eO2' := Nat.ne_of_gt mO2); (try obtain ⟨zO20, zO21, zO22, zO23, zO24, zO25⟩ := gO2); (try have mO3 := gO3.lt); (try have eO3 := Nat.ne_of_lt mO3); (try have eO3' := Nat.ne_of_gt mO3); (try obtain ⟨zO30, zO31, zO32, zO33, zO34, zO35⟩ := gO3); (try have mO4 := gO4.lt); (try have eO4 := Nat.ne_of_lt mO4); (try have eO4' := Nat.ne_of_gt mO4); (try obtain ⟨zO40, zO41, zO42, zO43, zO44, zO45⟩ := gO4); (try have mO5 := gO5.lt); (try have eO5 := Nat.ne_of_lt mO5); (try have eO5' := Nat.ne_of_gt mO5); (try obtain ⟨zO50, zO51, zO52, zO53, zO54, zO55⟩ := gO5); (try have mO6 := gO6.lt); (try have eO6 := Nat.ne_of_lt mO6); (try have eO6' := Nat.ne_of_gt mO6); (try obtain ⟨zO60, zO61, zO62, zO63, zO64, zO65⟩ := gO6))
        | (go_at_call 131; have hq := hBO4; refine (wideExp_iv _ vO4 500 b t NE (gaY n d b oY) l (SpAt.fits (K := 500) (show SpAt _ vO4 541 (gaY n d b oY).1 (gaY n d b oY).2 from (hintO4.below (by first | with_reducible exact Below.refl _ _ | with_reducible exact bl1 _ _))) (unhide HYF).1 (unhide HYF).2.1 (unhide HYF).2.2) (unhide HVBO4) (unhide HYF).1 (by omega) (by omega) (unhide HE5) (unhide HE6) ht (unhide HE7) (unhide HE8) (unhide HQE) (by omega)).mono ?_; rintro r wO5 ⟨vO5, rfl, hvbO5, hintO5, hbO5⟩; have HVBO5 := hide hvbO5; clear hvbO5; have hCO5 : Below wO4.heap.size wO4 wO5 := (by first | with_reducible exact hbO5 | with_reducible exact bthen (bl1 _ _) hbO5); have hBO5 := bthen hBO4 hCO5; (try with_reducible have gO5 := (noc_new wO4 28).below hbO5); replace hintO1 := hintO1.below hCO5; (try replace gO1 := gO1.below hCO5); replace hintO2 := hintO2.below hCO5; (try replace gO2 := gO2.below hCO5); replace hintO3 := hintO3.below hCO5; (try replace gO3 := gO3.below hCO5); replace hintO4 := hintO4.below hCO5; (try replace gO4 := gO4.below hCO5); have hlO5 := hBO5.size)
        | (go_at_call 79; have hq := hBO3; refine (sub_iv _ vO3 xY 540 b (ofI (b : Int) 1 b) (scaleI oY n d) ((hintO3.below (by first | with_reducible exact Below.refl _ _ | with_reducible exact bl1 _ _)).mono (by omega)) (((unhide HYP).below (by first | with_reducible exact hBO3 | with_reducible exact balloc hBO3 _)).mono (by omega)) (by omega) (unhide HVBO3)).mono ?_; rintro r wO4 ⟨vO4, rfl, hvbO4, hintO4, hbO4⟩; have HVBO4 := hide hvbO4; clear hvbO4; have hCO4 : Below wO3.heap.size wO3 wO4 := (by first | with_reducible exact hbO4 | with_reducible exact bthen (bl1 _ _) hbO4); have hBO4 := bthen hBO3 hCO4; (try with_reducible have gO4 := (noc_new wO3 28).below hbO4); replace hintO1 := hintO1.below hCO4; (try replace gO1 := gO1.below hCO4); replace hintO2 := hintO2.below hCO4; (try replace gO2 := gO2.below hCO4); replace hintO3 := hintO3.below hCO4; (try replace gO3 := gO3.below hCO4); have hlO4 := hBO4.size)
        | (go_at_call 66; have hq := hBO2; refine (wideOf_any _ _ _ _ _ _ _ _ 4 4 b (b : Int) 1 _ (hintO1.below (by first | with_reducible exact Below.refl _ _ | with_reducible exact bl1 _ _)) (hintO2.below (by first | with_reducible exact Below.refl _ _ | with_reducible exact bl1 _ _)) (by omega) (by omega) (by omega)).mono ?_; rintro r wO3 ⟨vO3, rfl, hvbO3, hintO3, hbO3⟩; have HVBO3 := hide hvbO3; clear hvbO3; have hCO3 : Below wO2.heap.size wO2 wO3 := (by first | with_reducible exact hbO3 | with_reducible exact bthen (bl1 _ _) hbO3); have hBO3 := bthen hBO2 hCO3; (try with_reducible have gO3 := (noc_new wO2 28).below hbO3); replace hintO1 := hintO1.below hCO3; (try replace gO1 := gO1.below hCO3); replace hintO2 := hintO2.below hCO3; (try replace gO2 := gO2.below hCO3); have hlO3 := hBO3.size)
        | (go_at_call 48; have hq := hBO1; refine (numOf_int 1 _ (by omega) (by omega)).mono ?_; rintro r wO2 ⟨negO2, aO2, nO2, cO2, rfl, hintO2, hbO2⟩; have hCO2 : Below wO1.heap.size wO1 wO2 := (by first | with_reducible exact hbO2 | with_reducible exact bthen (bl1 _ _) hbO2); have hBO2 := bthen hBO1 hCO2; (try with_reducible have gO2 := (noc_new wO1 28).below hbO2); replace hintO1 := hintO1.below hCO2; (try replace gO1 := gO1.below hCO2); have hlO2 := hBO2.size)
        | (go_at_call 48; refine (numOf_int (b : Int) _ (by omega) (by omega)).mono ?_; rintro r wO1 ⟨negO1, aO1, nO1, cO1, rfl, hintO1, hbO1⟩; have hBO1 : Below V2.heap.size V2 wO1 := (by first | with_reducible exact bthen (Below.refl _ _).drew hbO1 | with_reducible exact bthen (bl1 _ _).drew hbO1); (try with_reducible have gO1 := ((noc_new V2 28).below (Below.refl _ _).drew).below hbO1); have hlO1 := hBO1.size))
    all_goals
      have hfinO : SpAt wO6 vO6 1600 (((dvLo (gaSer n d b NS).1 (gaSer n d b NS).2 (gaE n d b oY t NE).1 (gaE n d b oY t NE).2 b, dvHi (gaSer n d b NS).1 (gaSer n d b NS).2 (gaE n d b oY t NE).1 (gaE n d b oY t NE).2 b) : Int × Int)).1 (((dvLo (gaSer n d b NS).1 (gaSer n d b NS).2 (gaE n d b oY t NE).1 (gaE n d b oY t NE).2 b, dvHi (gaSer n d b NS).1 (gaSer n d b NS).2 (gaE n d b oY t NE).1 (gaE n d b oY t NE).2 b) : Int × Int)).2 := hintO6.mono (by omega)
      go_wp2_with fail
      go_meet
      refine ⟨_, vO6, rfl, ?_, ⟨⟨?_, ?_, ?_, ?_, ?_⟩, ?_⟩, ?_, unhide HVBO6, ?_⟩
      · first | exact Nat.le_refl _ | exact hlO1 | exact hlO2 | exact hlO3 | exact hlO4 | exact hlO5 | exact hlO6
      · simp [go_sem, *]
      · simp [go_sem, *]
      · simp [go_sem, *]
      · simp [go_sem, *]
      · simp [go_sem, *]
      · intro o; simp [go_sem, *]
      · first | with_reducible exact SpAt.put5 hfinO zO60 zO61 zO62 zO63 zO64 _ _ _ _ _ | with_reducible exact SpAt.put5 hfinO zO50 zO51 zO52 zO53 zO54 _ _ _ _ _ | with_reducible exact SpAt.put5 hfinO zO40 zO41 zO42 zO43 zO44 _ _ _ _ _ | with_reducible exact SpAt.put5 hfinO zO30 zO31 zO32 zO33 zO34 _ _ _ _ _ | with_reducible exact SpAt.put5 hfinO zO20 zO21 zO22 zO23 zO24 _ _ _ _ _ | with_reducible exact SpAt.put5 hfinO zO10 zO11 zO12 zO13 zO14 _ _ _ _ _ | with_reducible exact hfinO.below (bl1 _ _)
      · repeat' (first | with_reducible exact hBO6 | with_reducible exact hBO5 | with_reducible exact hBO4 | with_reducible exact hBO3 | with_reducible exact hBO2 | with_reducible exact hBO1 | with_reducible exact Below.refl _ _ | with_reducible refine Below.drew ?_ | with_reducible refine balloc ?_ _ | with_reducible refine Below.setCell ?_ (by first | exact Nat.le_refl _ | exact hlO1 | exact hlO2 | exact hlO3 | exact hlO4 | exact hlO5 | exact hlO6) _)
  case rest =>
  obtain ⟨BO, xO, rfl, hHO, XO, hpO, hxbO, hblO⟩ := hcut
  obtain ⟨V3, hV3⟩ : ∃ V, V = wc := ⟨_, rfl⟩
  subst hV3
  have lO := XO.lt
  replace R := R.below hblO
  replace hBW := bthen hBW hblO
  have HOB := hide hxbO
  have HOP := hide hpO
  have HXO := hide XO
  clear hxbO hpO HK X0 N0 D0 XS2 XY
  have lR2 := R.lt
  have nRO : w.heap.size + 1 + 1 < BO := by omega
  have HKO := hide (show ∀ w', Below V3.heap.size V3 w' → (w'.cell? ⟨BO, 2, none⟩ = some (.bool xO.hn) ∧ w'.cell? ⟨BO, 3, none⟩ = some (.slice xO.ha xO.hN xO.hc)) from fun w' hB => ⟨(XO.c.below hB).c2, (XO.c.below hB).c3⟩)
  have hD0 : Below V3.heap.size V3 V3.drew := (Below.refl _ _).drew
  clear XO
  go_wp2_with fail
  refine AnyL.start (S := fun w' => w'.cell? ⟨BO, 2, none⟩ = some (.bool xO.hn) ∧ w'.cell? ⟨BO, 3, none⟩ = some (.slice xO.ha xO.hN xO.hc)) (l := 5) (by kernel_rfl) (unhide HKO _ hD0) (fun hHeld => ?_)
  refine AnyL.take (i := 0) (oi := { dst := some 42, op := Go.Op.fieldAddr 28 (Go.Operand.tmp 10) 1, type := 0, pos := "gamma.go:50", after := #[], guard := none }) (v := .pointer (some ⟨BO, 2, none⟩)) rfl (by kernel_rfl) (by kernel_rfl) (by kernel_rfl) (by kernel_rfl) (fun _ _ _ h => h) (Or.inl ⟨by rfl, fun w hSw => ?_⟩) hHeld ?_
  · obtain ⟨s0, s1⟩ := hSw; go_simp
  try simp only [Act.put, List.setIfInBounds_toArray, List.set_cons_zero, List.set_cons_succ]
  refine AnyL.take (i := 1) (oi := { dst := some 43, op := Go.Op.load 26 (Go.Operand.tmp 42), type := 26, pos := "gamma.go:50", after := #[{ on := 0, ground := Go.Ground.data }], guard := none }) (v := .agg #[.bool xO.hn, .slice xO.ha xO.hN xO.hc]) rfl (by kernel_rfl) (by kernel_rfl) (by kernel_rfl) (by kernel_rfl) (fun _ _ _ h => h) (Or.inl ⟨by rfl, fun w hSw => ?_⟩) hHeld ?_
  · obtain ⟨s0, s1⟩ := hSw; go_simp
  try simp only [Act.put, List.setIfInBounds_toArray, List.set_cons_zero, List.set_cons_succ]
  refine AnyL.one (i := 2) (o := { dst := some 44, op := Go.Op.call { callee := Go.Callee.value (Go.Operand.func 48), args := #[Go.Operand.const (Go.Value.int Go.IntKind.i64 1)], argTypes := #[3] }, type := 26, pos := "gamma.go:50", after := #[], guard := none }) (by kernel_rfl) rfl (fun Kc hKc => ?_)
  go_simp
  refine (numOf_int 1 _ (by omega) (by omega)).mono ?_
  rintro r' w1 ⟨neg1, a1, n1, c1, rfl, hint1, hb1⟩
  have hD1 := bthen hD0 hb1
  clear hb1
  go_wp2_with fail
  refine hKc.out _ _ (unhide HKO _ hD1) (fun hHeld => ?_)
  clear hKc Kc
  try simp only [Act.put, List.setIfInBounds_toArray, List.set_cons_zero, List.set_cons_succ]
  refine AnyL.one (i := 3) (o := { dst := some 45, op := Go.Op.call { callee := Go.Callee.value (Go.Operand.func 86), args := #[Go.Operand.tmp 43, Go.Operand.tmp 44], argTypes := #[26, 26] }, type := 26, pos := "gamma.go:50", after := #[{ on := 1, ground := Go.Ground.data }, { on := 2, ground := Go.Ground.data }, { on := 2, ground := Go.Ground.chain }], guard := none }) (by kernel_rfl) rfl (fun Kc hKc => ?_)
  go_simp
  refine (add_int _ _ _ _ _ _ _ _ 1600 4 _ 1 _ ((unhide HOP).hi.below hD1) hint1 (by omega) (by omega)).mono ?_
  rintro r' w2 ⟨neg2, a2, n2, c2, rfl, hint2, hb2⟩
  have hD2 := bthen hD1 hb2
  clear hb2 hint1
  go_wp2_with fail
  refine hKc.out _ _ (unhide HKO _ hD2) (fun hHeld => ?_)
  clear hKc Kc
  try simp only [Act.put, List.setIfInBounds_toArray, List.set_cons_zero, List.set_cons_succ]
  refine AnyL.take (i := 4) (oi := { dst := some 46, op := Go.Op.fieldAddr 28 (Go.Operand.tmp 10) 1, type := 0, pos := "gamma.go:50", after := #[{ on := 0, ground := Go.Ground.phase }, { on := 1, ground := Go.Ground.phase }, { on := 2, ground := Go.Ground.phase }, { on := 3, ground := Go.Ground.phase }], guard := none }) (v := .pointer (some ⟨BO, 2, none⟩)) rfl (by kernel_rfl) (by kernel_rfl) (by kernel_rfl) (by kernel_rfl) (fun _ _ _ h => h) (Or.inl ⟨by rfl, fun w hSw => ?_⟩) hHeld ?_
  · obtain ⟨s0, s1⟩ := hSw; go_simp
  try simp only [Act.put, List.setIfInBounds_toArray, List.set_cons_zero, List.set_cons_succ]
  refine AnyL.last (o := { dst := none, op := Go.Op.store 26 (Go.Operand.tmp 46) (Go.Operand.tmp 45), type := 0, pos := "gamma.go:50", after := #[{ on := 4, ground := Go.Ground.data }, { on := 3, ground := Go.Ground.data }, { on := 3, ground := Go.Ground.chain }, { on := 0, ground := Go.Ground.phase }, { on := 1, ground := Go.Ground.phase }, { on := 2, ground := Go.Ground.phase }, { on := 3, ground := Go.Ground.phase }], guard := none }) (by kernel_rfl) rfl (by kernel_rfl) (fun Kc hKc => ?_)
  have V2 := (unhide HXO).below hD2
  have lA := V2.lt
  obtain ⟨⟨y0, y1, y2, y3, y4⟩, y5⟩ := V2
  go_simp
  refine hKc.out _ _ ?_
  clear hKc Kc
  have R2 := R.below hD2
  obtain ⟨V, hV⟩ : ∃ V, V = ((w2.setCell ⟨BO, 2, none⟩ (.bool neg2)).setCell ⟨BO, 3, none⟩ (.slice a2 n2 c2)) := ⟨_, rfl⟩
  have R3 : NoC V (w.heap.size + 1 + 1) := by rw [hV]; exact R2.offH (by omega) _ _
  have A3 : VrC V BO ⟨xO.ln, xO.la, xO.lN, xO.lc, neg2, a2, n2, c2, xO.bits⟩ := by rw [hV]; exact sp_putHi ((unhide HXO).below hD2) ⟨neg2, a2, n2, c2⟩
  have i1 : IntAt V xO.ln xO.la xO.lN xO.lc 1600 (gaG n d b oY t NE NS).1 := by rw [hV]; exact ((unhide HOP).lo.below hD2).putH y2 y3 _ _
  have i2 : IntAt V neg2 a2 n2 c2 1601 (gaG n d b oY t NE NS).2 := by rw [hV]; exact (show IntAt w2 neg2 a2 n2 c2 1601 (gaG n d b oY t NE NS).2 from hint2).putH y2 y3 _ _
  have hB3 : Below w.heap.size w V := by rw [hV]; exact ((bthen hBW hD2).setCell (p := ⟨BO, 2, none⟩) (by show w.heap.size ≤ BO; omega) _).setCell (p := ⟨BO, 3, none⟩) (by show w.heap.size ≤ BO; omega) _
  rw [← hV]
  clear hV y0 y1 y2 y3 y4 y5 lA
  have gv := unhide HGV
  have fit := SpAt.fits (K := 70) (show SpAt V ⟨xO.ln, xO.la, xO.lN, xO.lc, neg2, a2, n2, c2, xO.bits⟩ 1601 (gaG n d b oY t NE NS).1 (gaG n d b oY t NE NS).2 from ⟨i1.mono (by omega), i2⟩) gv.le (by
    have := gv.lo
    have := Q_pos b
    have : 0 < P 70 := P_pos 70
    omega) (by
    have h1 := Q_mono (show b + 43 + 1 ≤ 16 * 70 by omega)
    rw [Q_P] at h1
    have h2 : Q (b + 43 + 1) = 2 * Q (b + 43) := rfl
    have := Q_pos (b + 43)
    have := gv.hi
    omega)
  clear gv i1 i2
  have lA := A3.lt
  have lR3 := R3.lt
  obtain ⟨⟨y0, y1, y2, y3, y4⟩, y5⟩ := A3
  obtain ⟨q0, q1, q2, q3, q4, q5⟩ := R3
  go_wp2_with fail
  refine bodyPost_ret (v := .agg #[.bool xO.ln, .slice xO.la xO.lN xO.lc, .bool neg2, .slice a2 n2 c2, .int .i64 xO.bits]) (by simp [results, Try.results100, go_sem, q0, q1, q2, q3, q4]) rfl ⟨_, _, unhide HGV, ⟨xO.ln, xO.la, xO.lN, xO.lc, neg2, a2, n2, c2, xO.bits⟩, rfl, unhide HOB, ?_, ?_⟩
  · exact SpAt.put5 fit q0 q1 q2 q3 q4 _ _ _ _ _
  · exact set5 hB3 (by omega) _ _ _ _ _
end Go.Proofs.Ytgmnknmjainabab
namespace Go.Proofs.Ytgmnknmjainabab
open Go.RowKit
attribute [local go_sem ↓] Go.wp_at_zero Go.wp_at_succ
open Ex
theorem GaV.pos {g : Nat → Rat} {B : Nat} {a : Int × Int} (h : GaV g B a) : 0 < a.1 := by have := h.lo; have := Q_pos B; omega
end Go.Proofs.Ytgmnknmjainabab
namespace Go.Proofs.Ytgmnknmjainabab
open Go.RowKit
attribute [local go_sem ↓] Go.wp_at_zero Go.wp_at_succ
open Ex
theorem gm_more {l l' : Int} {m : Nat} (h1 : 0 ≤ l) (h2 : 0 ≤ l') (h3 : l ≤ 100000) (h4 : l' ≤ 100000) (h : max 0 (l - l' + 1) = (m : Int)) :
    (if 0 < IntKind.i64.wrap (IntKind.i64.wrap (l - l') + 1) then IntKind.i64.wrap (IntKind.i64.wrap (l - l') + 1) else 0) = (m : Int) := by
  rw [i64_id (l - l') (by omega) (by omega), i64_id (l - l' + 1) (by omega) (by omega)]
  split <;> omega
theorem lenIs_le {w : World} {neg : Bool} {a : Option Addr} {n cap k : Nat} {z l : Int} (h : LenIs z l) (hp : 0 < z) (hi : IntAt w neg a n cap k z) : l ≤ 16 * (k : Int) + 1 := by
  obtain ⟨L, e1, e2, e3⟩ := h.2.2 hp
  have := len_dig hi e2 (by omega)
  omega
theorem wideTo_z (w : World) (s : Sp) (k b m : Nat) (lo hi : Int) (hs : SpAt w s k lo hi) (hbits : s.bits = ((b + m : Nat) : Int)) (hk : k ≤ 1000000) (hb : b + m ≤ 1000000) :
    Calls Try.prog 98 #[.agg #[.bool s.ln, .slice s.la s.lN s.lc, .bool s.hn, .slice s.ha s.hN s.hc, .int .i64 s.bits], .int .i64 b] w (SpanAns w b (k + 62505) (downI (lo, hi) m).1 (downI (lo, hi) m).2) :=
  (wideTo_int w s k b lo hi hs (by omega) (by omega) (by omega) (by omega) (by omega)).mono fun r w' ⟨t, e1, e2, e3, e4⟩ => ⟨t, e1, e2, by
    have d1 : downZ lo (s.bits - b) = lo / Q m := by unfold downZ; rw [hbits, if_pos (by omega)]; congr 2; omega
    have d2 : downZ (-hi) (s.bits - b) = -hi / Q m := by unfold downZ; rw [hbits, if_pos (by omega)]; congr 2; omega
    rw [d1, d2] at e3
    exact e3, e4⟩
set_option maxRecDepth 100000 in
set_option maxHeartbeats 4000000 in
theorem gamma_iv (L : Rat → Nat → Rat) (hL : Lns L) (w : World) (n d : Int) (b : Nat) (g : Nat → Rat) (h : StIn n d) (h100 : n ≤ 100 * d) (hn : n ≤ 4611686018427387904) (hb0 : 40 ≤ b) (hb : b ≤ 330) (hg : Gam1 L (((n - (stN n d : Int) * d) : Int) / (d : Rat)) g) :
    Calls Try.prog 62 #[.int .i64 n, .int .i64 d, .int .i64 b] w (fun r w' => ∃ lo hi, GmPr (gmV n d g) b lo hi ∧ SpanAns w b 100 lo hi r w') := by
  have HI := hide (h.in_ (B := b) (by omega) (by omega))
  have k200 := h.rest.2.2
  have HPQ := hide (show 0 < stP n d (stN n d) ∧ 0 < stQ d (stN n d) from ⟨stP_pos h (Nat.le_refl _), stQ_pos h.d0 _⟩)
  have H := hide h
  have HL := hide hL
  have HG := hide hg
  have H100 := hide h100
  have HP1 := hide (stP_100 h h100).1
  clear h hL hg h100
  have R := noc_new w 28
  have hBW : Below w.heap.size w (w.alloc (.cells #[.bool false, .slice none 0 0, .bool false, .slice none 0 0, .int .i64 0] 28)) := bl1 _ _
  go_enter Try.func62, Try.ntmps62
  go_wp2_with fail
  refine (steps_int _ n d (unhide H) hn).mono ?_
  rintro r w1 ⟨X, Y, rfl, hX, hY, hb1⟩
  replace R := R.below hb1
  replace hBW := bthen hBW hb1
  clear hb1
  have lR := R.lt
  obtain ⟨V, hV⟩ : ∃ V, V = (w1.alloc (.cells #[.bool X.neg, .slice X.a X.n X.cap] 26)).alloc (.cells #[.bool Y.neg, .slice Y.a Y.n Y.cap] 26) := ⟨_, rfl⟩
  have bV : Below w1.heap.size w1 V := by rw [hV]; exact bl2 _ _ _
  have CX : NmC V w1.heap.size X := by rw [hV]; exact ⟨by simp [go_sem], by simp [go_sem]⟩
  have CY : NmC V (w1.heap.size + 1) Y := by rw [hV]; exact ⟨by simp [go_sem], by simp [go_sem]⟩
  have HX := hide ((hX.mono (show 4 * stN n d + 4 ≤ 804 by omega)).below bV)
  have HY := hide ((hY.mono (show 4 * stN n d + 4 ≤ 804 by omega)).below bV)
  replace R := R.below bV
  replace hBW := bthen hBW bV
  have lX := CX.lt
  have lY := CY.lt
  have lR2 := R.lt
  have HK := hide (show ∀ w', Below V.heap.size V w' → (w'.cell? ⟨w1.heap.size, 0, none⟩ = some (.bool X.neg) ∧ w'.cell? ⟨w1.heap.size, 1, none⟩ = some (.slice X.a X.n X.cap) ∧ w'.cell? ⟨(w1.heap.size + 1), 0, none⟩ = some (.bool Y.neg) ∧ w'.cell? ⟨(w1.heap.size + 1), 1, none⟩ = some (.slice Y.a Y.n Y.cap)) from fun w' hB => ⟨(CX.below hB).c0, (CX.below hB).c1, (CY.below hB).c0, (CY.below hB).c1⟩)
  clear hX hY bV CX CY
  go_wp2_with fail
  rw [← hV]
  clear hV
  have hD0 : Below V.heap.size V V.drew := (Below.refl _ _).drew
  obtain ⟨x0, x1, x2, x3⟩ := unhide HK _ (Below.refl _ _)
  have m1 : w.heap.size ≠ w1.heap.size := by omega
  have m2 : w.heap.size ≠ w1.heap.size + 1 := by omega
  go_cut [9] (fun p wx => ∃ m : Nat, p = .int .i64 (m : Int) ∧ m ≤ 661 ∧ stP n d (stN n d) ≤ Q m * stQ d (stN n d) ∧ Below V.heap.size V wx)
  case first =>
    go_region_held3 (fun w' => w'.cell? ⟨w1.heap.size, 0, none⟩ = some (.bool X.neg) ∧ w'.cell? ⟨w1.heap.size, 1, none⟩ = some (.slice X.a X.n X.cap) ∧ w'.cell? ⟨(w1.heap.size + 1), 0, none⟩ = some (.bool Y.neg) ∧ w'.cell? ⟨(w1.heap.size + 1), 1, none⟩ = some (.slice Y.a Y.n Y.cap)) (first | exact unhide HK _ (by first | with_reducible exact hD0 | with_reducible exact hD2 | with_reducible exact hD1) | go_keep)
      (first
        | (go_at_call 97; have hqq := hD1; refine (len_int _ _ _ _ _ (stQ d (stN n d)) _ ((unhide HY).below hD1) (Int.le_of_lt (unhide HPQ).2)).mono ?_; rintro r' w3 ⟨l', hlen', rfl, hb3⟩; have HLM := hide hlen'; clear hlen'; have hD2 := bthen hD1 hb3)
        | (go_at_call 97; refine (len_int _ _ _ _ _ (stP n d (stN n d)) _ ((unhide HX).below hD0) (Int.le_of_lt (unhide HPQ).1)).mono ?_; rintro r' w2 ⟨l, hlen, rfl, hb2⟩; have HLN := hide hlen; clear hlen; have hD1 := bthen hD0 hb2))
    all_goals go_wp2_with fail
    all_goals
      obtain ⟨m, e1, e2, e3⟩ := more_ok (unhide HPQ).1 (unhide HPQ).2 (unhide HP1) (unhide HLN) (unhide HLM)
      have k1 := lenIs_le (unhide HLN) (unhide HPQ).1 (unhide HX)
      have k2 := lenIs_le (unhide HLM) (unhide HPQ).2 (unhide HY)
      have k3 := (unhide HLN).1
      have k4 := (unhide HLM).1
      have e := gm_more (l := l) (l' := l') (m := m) (by omega) (by omega) (by omega) (by omega) e1
      go_meet
      refine ⟨m, congrArg _ ?_, e2, e3, hD2⟩
      split at e <;> omega
  case rest =>
  obtain ⟨m, rfl, hm, hmq, hbl⟩ := hcut
  replace R := R.below hbl
  replace hBW := bthen hBW hbl
  replace HX := hide ((unhide HX).below hbl)
  replace HY := hide ((unhide HY).below hbl)
  have HK2 := hide (show ∀ w', Below wc.heap.size wc w' → (w'.cell? ⟨w1.heap.size, 0, none⟩ = some (.bool X.neg) ∧ w'.cell? ⟨w1.heap.size, 1, none⟩ = some (.slice X.a X.n X.cap) ∧ w'.cell? ⟨(w1.heap.size + 1), 0, none⟩ = some (.bool Y.neg) ∧ w'.cell? ⟨(w1.heap.size + 1), 1, none⟩ = some (.slice Y.a Y.n Y.cap)) from fun w' hB => unhide HK w' (bthen hbl hB))
  have HMQ := hide hmq
  have HI2 := hide ((unhide H).in_ (B := b + m) (by omega) (by omega))
  have HW := hide (show IntKind.i64.wrap ((b : Int) + (m : Int)) = ((b + m : Nat) : Int) from (i64_id _ (by omega) (by omega)).trans (by omega))
  have lV : V.heap.size ≤ wc.heap.size := hbl.size
  clear x0 x1 x2 x3 hD0 hbl hmq HK
  have hD0 : Below wc.heap.size wc wc.drew := (Below.refl _ _).drew
  obtain ⟨x0, x1, x2, x3⟩ := unhide HK2 _ (Below.refl _ _)
  have lR3 := R.lt
  go_wp2_with fail
  go_region_held3 (fun w' => w'.cell? ⟨w1.heap.size, 0, none⟩ = some (.bool X.neg) ∧ w'.cell? ⟨w1.heap.size, 1, none⟩ = some (.slice X.a X.n X.cap) ∧ w'.cell? ⟨(w1.heap.size + 1), 0, none⟩ = some (.bool Y.neg) ∧ w'.cell? ⟨(w1.heap.size + 1), 1, none⟩ = some (.slice Y.a Y.n Y.cap)) (first | exact unhide HK2 _ (by first | with_reducible exact hD0 | with_reducible exact hD3 | with_reducible exact hD2 | with_reducible exact hD1) | go_keep)
    (first
      | (go_at_call 98; have hqq := hD2; refine (wideTo_z _ v2 884 b m _ _ hint2 (unhide F2) (by omega) (by omega)).mono ?_; rintro r' w6 ⟨t, rfl, htb, htp, hb3⟩; have HT := hide htb; clear htb; have hD3 := bthen hD2 hb3; obtain ⟨q0, q1, q2, q3, q4, q5⟩ := R.below hD3; obtain ⟨i0, i1, i2, i3⟩ := unhide HK2 _ hD3)
      | (go_at_call 99; have hqq := hD1; refine (scale_iv _ v1 X Y 70 804 804 (b + m) (lo, hi) (stP n d (stN n d)) (stQ d (stN n d)) hint1 ((unhide HX).below hD1) ((unhide HY).below hD1) (by omega) (by omega) (unhide HPQ).2 (unhide F1)).mono ?_; rintro r' w5 ⟨v2, rfl, hvb2, hint2, hb2⟩; have F2 := hide hvb2; clear hvb2; have hD2 := bthen hD1 hb2)
      | (go_at_call 100; rw [unhide HW]; refine (gammaBelow_iv L (unhide HL) _ (n - (stN n d : Int) * d) d (b + m) g (unhide HI2) (unhide HG)).mono ?_; rintro r' w4 ⟨lo, hi, hgv, v1, rfl, hvb1, hint1, hb1⟩; have F1 := hide hvb1; have HGV := hide hgv; clear hvb1 hgv; have hD1 := bthen hD0 hb1))
  all_goals
    go_wp2_with fail
    have gp := gm_ok (unhide H) (unhide H100) (show b + m ≤ 1000 by omega) (unhide HMQ) (unhide HGV)
    have fit := SpAt.fits (K := 100) (show SpAt _ t _ (gmI n d (lo, hi) m).1 (gmI n d (lo, hi) m).2 from htp) gp.le (by have := gp.lo; have := P_pos 100; omega) (by
      have h1 := Q_mono (show b + 706 + 1 ≤ 16 * 100 by omega)
      rw [Q_P] at h1
      have h2 : Q (b + 706 + 1) = 2 * Q (b + 706) := rfl
      have := Q_pos (b + 706)
      have := gp.hi
      omega)
    refine bodyPost_ret (v := .agg #[.bool t.ln, .slice t.la t.lN t.lc, .bool t.hn, .slice t.ha t.hN t.hc, .int .i64 t.bits]) (by simp [results, Try.results62, go_sem, q0, q1, q2, q3, q4]) rfl ⟨_, _, gp, t, rfl, unhide HT, ?_, ?_⟩
    · exact SpAt.put5 fit q0 q1 q2 q3 q4 _ _ _ _ _
    · exact set5 (bthen hBW hD3) (by omega) _ _ _ _ _
end Go.Proofs.Ytgmnknmjainabab
namespace Go.Proofs.Ytgmnknmjainabab
open Ex
theorem dbl {b : Int} (m : Nat) : ∀ {a : Int}, 0 < a → a ≤ b → b - a ≤ (m : Int) → ∃ i, a * Q i ≤ b ∧ b < 2 * (a * Q i) := by
  have e0 : Q 0 = 1 := rfl
  induction m with
  | zero =>
    intro a h1 h2 h3
    exact ⟨0, by rw [e0]; omega, by rw [e0]; omega⟩
  | succ m ih =>
    intro a h1 h2 h3
    by_cases h : b < 2 * a
    · exact ⟨0, by rw [e0]; omega, by rw [e0]; omega⟩
    · obtain ⟨i, g1, g2⟩ := ih (a := 2 * a) (by omega) (by omega) (by omega)
      have e : a * Q (i + 1) = 2 * a * Q i := by show a * (2 * Q i) = _; grind
      exact ⟨i + 1, by rw [e]; exact g1, by rw [e]; exact g2⟩
theorem bal_ex {n d : Int} (hn : 0 < n) (hd : 0 < d) : ∃ n' d' k, Bal n d n' d' k := by
  have e0 : Q 0 = 1 := rfl
  by_cases h : d ≤ n
  · obtain ⟨i, h1, h2⟩ := dbl (n - d).toNat hd h (by omega)
    exact ⟨n, _, _, bal_of (j := 0) (i := i) hn hd (by rw [e0]; omega) rfl h1 h2 (Or.inl rfl)⟩
  · obtain ⟨i, h1, h2⟩ := dbl (d - n).toNat hn (Int.le_of_lt (Int.not_le.1 h)) (by omega)
    by_cases h3 : n * Q i = d
    · exact ⟨_, d, _, bal_of (j := i) (i := 0) hn hd rfl (by rw [e0]; omega) (by omega) (by omega) (Or.inr rfl)⟩
    · have e : n * Q (i + 1) = 2 * (n * Q i) := by show n * (2 * Q i) = _; grind
      exact ⟨_, d, _, bal_of (j := i + 1) (i := 0) hn hd rfl (by rw [e0]; omega) (by omega) (by omega) (Or.inr rfl)⟩
theorem log_ex {n d : Int} (hn : 0 < n) (hd : 0 < d) : ∃ l, IsLog l (fun _ => (n : Rat) / (d : Rat)) := by
  obtain ⟨n', d', k, h⟩ := bal_ex hn hd
  exact ⟨_, bal_isLog hd h (ln_isLog h.1) isLog_two⟩
theorem E3 (j : Nat) : (16 : Rat) ≤ E 3 (5 + j) := by
  induction j with
  | zero => decide +kernel
  | succ j ih =>
    have e : E 3 (5 + (j + 1)) = E 3 (5 + j) + tm 3 (5 + j) := rfl
    have := tm_nonneg (show (0 : Rat) ≤ 3 by decide) (5 + j)
    rw [e]; grind
end Go.Proofs.Ytgmnknmjainabab
namespace Go.Proofs.Ytgmnknmjainabab
open Ex
theorem sure_nar {b m : Nat} {lo hi L H : Int} (hle : lo ≤ hi) (e1 : L = lo / Q m) (e2 : H = -(-hi / Q m)) (h6 : H - L ≤ 1 ∨ narB L H (Q b) 4 = true) : L ≤ H ∧ narB L H (Q b) 4 = true := by
  have h7 := to_width (m := m) (Kw := (hi - lo).toNat) hle (by
    have : ∀ k : Nat, (k : Int) ≤ Q k := fun k => by
      induction k with
      | zero => decide
      | succ k ih => have e : Q (k + 1) = 2 * Q k := rfl; have := Q_pos k; omega
    have := this (hi - lo).toNat
    omega)
  have h8 : L ≤ H := by rw [e1, e2]; omega
  refine ⟨h8, ?_⟩
  rcases h6 with h6 | h6
  · exact narB_small h8 (by omega)
  · exact h6
end Go.Proofs.Ytgmnknmjainabab
namespace Go.Proofs.Ytgmnknmjainabab
open Ex
theorem Lns_ex : ∃ L, Lns L := by
  have each : ∀ x : Rat, ∃ l : Nat → Rat, 0 < x → IsLog l (fun _ => x) := fun x => by
    by_cases h : 0 < x
    · have hn : 0 < x.num := by have := (Rat.lt_iff (0 : Rat) x).1 h; simpa using this
      have hd : (0 : Int) < (x.den : Int) := by exact_mod_cast x.den_pos
      obtain ⟨l, hl⟩ := log_ex hn hd
      have e : (x.num : Rat) / ((x.den : Int) : Rat) = x := (Rat.divInt_eq_div _ _).symm.trans (Rat.num_divInt_den x)
      rw [e] at hl
      exact ⟨l, fun _ => hl⟩
    · exact ⟨fun _ => 0, fun h' => absurd h' h⟩
  obtain ⟨L, hL⟩ := Classical.skolem.1 each
  exact ⟨L, fun x hx => hL x hx⟩
def gA (n d : Int) : Rat := ((n - (stN n d : Int) * d : Int) : Rat) / (d : Rat)
structure GEnv (L G : Rat → Nat → Rat) (X : Int → Int → Nat → Rat) : Prop where
  lns : Lns L
  gam : ∀ a, 0 < a → a ≤ 1 → Gam1 L a (G a)
  lg : ∀ n d, StIn n d → IsLog (X n d) (gmV n d (G (gA n d)))
theorem gA_ok {n d : Int} (h : StIn n d) : 0 < gA n d ∧ gA n d ≤ 1 := by
  obtain ⟨r1, r2, r3⟩ := h.rest
  have d0 : (0 : Rat) < (d : Rat) := by exact_mod_cast h.d0
  have a0 : (0 : Rat) < ((n - (stN n d : Int) * d : Int) : Rat) := by exact_mod_cast r1
  exact ⟨rdiv_pos a0 d0, rdiv_le d0 (by have := cast_le r2; grind)⟩
theorem gmV_log {L : Rat → Nat → Rat} (hL : Lns L) {n d : Int} (h : StIn n d) {g : Nat → Rat} (hg : Gam1 L (gA n d) g) : ∃ x, IsLog x (gmV n d g) := by
  have ig := hg.isGam hL (gA_ok h).1
  have p0 : (0 : Rat) < (stP n d (stN n d) : Rat) := by exact_mod_cast stP_pos h (Nat.le_refl _)
  have q0 : (0 : Rat) < (stQ d (stN n d) : Rat) := by exact_mod_cast stQ_pos h.d0 _
  have r0 := rdiv_pos p0 q0
  refine log_seq hL ((Bdd.const _).mul ig.bdd) ?_
  obtain ⟨c, c0, N, hc⟩ := ig.pos
  exact ⟨_, Rat.mul_pos r0 c0, N, fun M hM => Rat.mul_le_mul_of_nonneg_left (hc M hM) (Rat.le_of_lt r0)⟩
theorem genv_ex : ∃ L G X, GEnv L G X := by
  obtain ⟨L, hL⟩ := Lns_ex
  have e1 : ∀ a : Rat, ∃ g : Nat → Rat, 0 < a → a ≤ 1 → Gam1 L a g := fun a => by
    by_cases h : 0 < a ∧ a ≤ 1
    · obtain ⟨g, hg⟩ := gam1_ex hL h.1 h.2
      exact ⟨g, fun _ _ => hg⟩
    · exact ⟨fun _ => 0, fun h1 h2 => absurd ⟨h1, h2⟩ h⟩
  obtain ⟨G, hG⟩ := Classical.skolem.1 e1
  have e2 : ∀ z : Int × Int, ∃ x : Nat → Rat, StIn z.1 z.2 → IsLog x (gmV z.1 z.2 (G (gA z.1 z.2))) := fun z => by
    by_cases h : StIn z.1 z.2
    · obtain ⟨x, hx⟩ := gmV_log hL h (hG _ (gA_ok h).1 (gA_ok h).2)
      exact ⟨x, fun _ => hx⟩
    · exact ⟨fun _ => 0, fun h' => absurd h' h⟩
  obtain ⟨X, hX⟩ := Classical.skolem.1 e2
  exact ⟨L, G, fun n d => X (n, d), hL, hG, fun n d h => hX (n, d) h⟩
theorem Q_fit {b m k : Nat} (h : b + k ≤ 3200) : Q (b + m + k) ≤ P 200 * Q m := by
  rw [← Q_P, ← Q_add]
  exact Q_mono (by omega)
theorem gm_ends (x : Nat → Rat) {bits : Nat} (hb : bits ≤ 120) : SureEnds bits 90 (GmPr x) := fun m lo hi h => by
  have q := Q_fit (b := bits) (m := m) (k := 706) (by omega)
  have := h.hi
  have := h.lo
  have p := Int.mul_nonneg (show 0 ≤ P 200 by have := P_pos 200; omega) (show 0 ≤ Q m by have := Q_pos m; omega)
  exact ⟨h.le, h.wd, by omega, by omega⟩
structure SuV (x : Nat → Rat) (b : Nat) (L H : Int) : Prop where
  le : L ≤ H
  nar : narB L H (Q b) 4 = true
  val : Iv b (L, H) x
theorem sure_su {x : Nat → Rat} {b : Nat} {Pr : Nat → Int → Int → Prop} {L H : Int} (h : SureOf b Pr L H) (hp : ∀ B lo hi, Pr B lo hi → lo ≤ hi ∧ Iv B (lo, hi) x) : SuV x b L H := by
  obtain ⟨m, lo, hi, pr, hm, e1, e2, h6⟩ := h
  obtain ⟨g1, iv⟩ := hp _ _ _ pr
  obtain ⟨n1, n2⟩ := sure_nar g1 e1 e2 h6
  refine ⟨n1, n2, ?_⟩
  have := Iv.to (B := b) (m := m) iv
  rw [e1, e2]; exact this
theorem sure_gm {x : Nat → Rat} {b : Nat} {L H : Int} (h : SureOf b (GmPr x) L H) : SuV x b L H ∧ 0 ≤ L ∧ H ≤ Q (b + 706) := by
  refine ⟨sure_su h fun B lo hi p => ⟨p.le, p.iv⟩, ?_⟩
  obtain ⟨m, lo, hi, pr, hm, e1, e2, h6⟩ := h
  have q := Q_pos m
  refine ⟨by rw [e1]; exact Int.ediv_nonneg pr.lo (by omega), ?_⟩
  have e : Q (b + m + 706) = Q (b + 706) * Q m := by rw [← Q_add]; congr 1; omega
  have hh := pr.hi
  have p0 := pr.lo
  have pl := pr.le
  have r := (round_abs (x := hi) (m := Q (b + 706)) (q := Q m) (by omega) (by
    have := Int.mul_nonneg (show 0 ≤ Q (b + 706) by have := Q_pos (b + 706); omega) (show 0 ≤ Q m by omega)
    omega) (by omega)).2.2.2
  rw [e2]; exact r
end Go.Proofs.Ytgmnknmjainabab
namespace Go.Proofs.Ytgmnknmjainabab
open Go.RowKit
attribute [local go_sem ↓] Go.wp_at_zero Go.wp_at_succ
open Ex
theorem st_of {p q : Int} (hr : rok p q) (h0 : 0 < p) (h1 : p ≤ 201 * q) : StIn p q := by
  obtain ⟨r1, r2, r3, r4⟩ := hr
  exact ⟨h0, by omega, by omega, h1⟩
set_option maxRecDepth 100000 in
set_option maxHeartbeats 2000000 in
theorem gam1_iv (L G : Rat → Nat → Rat) (X : Int → Int → Nat → Rat) (hE : GEnv L G X) (w : World) (B0 : Nat) (p q : Int) (b : Nat) (hr : rok p q) (h0 : 0 < p) (h1 : p ≤ 100 * q) (hB0 : RaC w B0 p q) (hb40 : 40 ≤ b) (hb : b ≤ 330) :
    Calls Try.prog 61 #[.int .i64 b, .pointer (some ⟨B0, 0, none⟩)] w (fun r w' => ∃ lo hi, GmPr (gmV p q (G (gA p q))) b lo hi ∧ SpanAns w b 100 lo hi r w') := by
  have l0 := hB0.lt
  obtain ⟨y0, y1⟩ := hB0
  have hst : StIn p q := st_of hr h0 (by omega)
  have HC := hide (show ∀ w', Calls Try.prog 62 #[.int .i64 p, .int .i64 q, .int .i64 b] w' (fun r w'' => ∃ lo hi, GmPr (gmV p q (G (gA p q))) b lo hi ∧ SpanAns w' b 100 lo hi r w'') from fun w' => gamma_iv L hE.lns w' p q b (G (gA p q)) hst h1 (by have := hr.2.1; omega) hb40 hb (hE.gam _ (gA_ok hst).1 (gA_ok hst).2))
  have R := noc_new w 28
  clear hr hst hE
  go_enter Try.func61, Try.ntmps61
  go_wp2_with fail
  refine (unhide HC _).mono ?_
  rintro r' w1 ⟨lo, hi, hpr, v, rfl, hvb, hvp, hb1⟩
  replace R := R.below hb1
  have hBW : Below w.heap.size w w1 := bthen (bl1 _ _) hb1
  have HV := hide hvb
  have HP := hide hpr
  clear hvb y0 y1 hb1 hpr
  obtain ⟨q0, q1, q2, q3, q4, q5⟩ := R
  go_wp2_with fail
  refine bodyPost_ret (v := .agg #[.bool v.ln, .slice v.la v.lN v.lc, .bool v.hn, .slice v.ha v.hN v.hc, .int .i64 v.bits]) (by simp [results, Try.results61, go_sem, q0, q1, q2, q3, q4]) rfl ⟨lo, hi, unhide HP, v, rfl, unhide HV, ?_, ?_⟩
  · exact SpAt.put5 hvp q0 q1 q2 q3 q4 _ _ _ _ _
  · exact set5 hBW (Nat.le_refl _) _ _ _ _ _
set_option maxRecDepth 100000 in
set_option maxHeartbeats 4000000 in
theorem sure_gam (p1 : Value) (bits Kw KD : Nat) (Pr : Nat → Int → Int → Prop) (W : World) (hb : bits ≤ 120) (hKw : Kw ≤ 900000) (hKD : KD ≤ 100000000) (hE : SureEnds bits Kw Pr)
    (hF : ∀ (m : Nat) w', 32 ≤ m → m ≤ Kw + 120 → Below W.heap.size W w' → Calls Try.prog 61 #[.int .i64 ((bits : Int) + m), p1] w' (fun r w'' => ∃ lo hi, Pr (bits + m) lo hi ∧ SpanAns w' ((bits : Int) + m) KD lo hi r w'')) :
    Calls Try.prog 74 #[.int .i64 bits, .func (.func 61) #[] #[p1]] W (fun r w' => ∃ L H, SureOf bits Pr L H ∧ SpanAns W bits 250 L H r w') := by
  have HF := hide hF
  have HE := hide hE
  clear hF hE
  have hR0 := noc_new W 28
  go_enter Try.func74, Try.ntmps74
  go_wp2_with fail
  go_loopw [5, 6] (fun mm tt wr => ∃ m t : Nat, mm = .int .i64 (m : Int) ∧ tt = .int .i64 (t : Int) ∧ SureInv Kw m t ∧ NoC wr W.heap.size ∧ Below W.heap.size W wr) (fun mm _ _ => Kw + 200 - (intOf mm).toNat)
  case atStart => exact ⟨32, 1, rfl, rfl, ⟨Nat.le_refl _, Nat.le_refl _, by omega, Or.inl ⟨by omega, by omega⟩⟩, hR0, bl1 _ _⟩
  case round =>
    obtain ⟨m, t, rfl, rfl, hinv, R, hB⟩ := hrel
    obtain ⟨hm, ht, htm, hmt⟩ := hinv
    have hmK : m ≤ Kw + 120 := by omega
    have HI := hide hmt
    clear hmt
    go_wp2_with fail
    refine (unhide HF m _ hm hmK hB).mono ?_
    rintro r w1 ⟨lo, hi, hPr, s, rfl, hsb, hsp, hb1⟩
    replace R := R.below hb1
    replace hB := bthen hB hb1
    clear hb1
    obtain ⟨e1, e2, e3, e4⟩ := unhide HE m lo hi hPr
    obtain ⟨v1, v2, v3⟩ := to_width (m := m) e1 e2
    obtain ⟨f1, f2⟩ := to_fit e3 e4
    have HPr := hide hPr
    have HV := hide (And.intro v2 v3)
    have hs0 : 0 ≤ s.bits := by omega
    have hs1 : s.bits ≤ 1000000 := by omega
    have d1 : downZ lo (s.bits - bits) = lo / Q m := by unfold downZ; rw [hsb, if_pos (by omega)]; congr 2; omega
    have d2 : downZ (-hi) (s.bits - bits) = -hi / Q m := by unfold downZ; rw [hsb, if_pos (by omega)]; congr 2; omega
    have HD1 := hide d1
    have HD2 := hide d2
    clear hPr e1 e2 e3 e4 v2 v3 d1 d2 hsb
    go_wp2_with fail
    refine (wideTo_int _ s KD bits lo hi hsp (by omega) hs0 hs1 (by omega) (by omega)).mono ?_
    rintro r w2 ⟨u, rfl, hub, hup, hb2⟩
    rw [unhide HD1, unhide HD2] at hup
    obtain ⟨L, hL⟩ : ∃ L, L = lo / Q m := ⟨_, rfl⟩
    obtain ⟨H, hH⟩ : ∃ H, H = -(-hi / Q m) := ⟨_, rfl⟩
    rw [← hL, ← hH] at hup v1
    rw [← hL] at f1
    rw [← hH] at f2
    have HV2 := hide (show (Kw ≤ m → H - L ≤ 2) ∧ (m ≤ Kw → H - L ≤ Q (Kw - m) + 1) by rw [hL, hH]; exact unhide HV)
    have HL := hide hL
    have HH := hide hH
    replace hup := hup.fits (K := 250) (by omega) f1 f2
    replace R := R.below hb2
    replace hB := bthen hB hb2
    have HUB := hide hub
    clear hb2 hL hH hub hs0 hs1 HD1 HD2 HV hsp
    have lR := R.lt
    obtain ⟨V, hV⟩ : ∃ V, V = w2.alloc (.cells #[.bool u.ln, .slice u.la u.lN u.lc, .bool u.hn, .slice u.ha u.hN u.hc, .int .i64 u.bits] 28) := ⟨_, rfl⟩
    have bV : Below w2.heap.size w2 V := by rw [hV]; exact bl1 _ _
    have U : SpC V w2.heap.size u := by rw [hV]; exact ⟨by simp, by simp, by simp, by simp, by simp⟩
    replace R := R.below bV
    replace hB := bthen hB bV
    replace hup := hup.below bV
    clear bV
    go_wp2_with fail
    rw [← hV]
    clear hV
    refine (sub_int _ _ _ _ _ _ _ _ 250 250 H L _ hup.hi hup.lo (by omega) (by omega)).mono ?_
    rintro r w3 ⟨neg3, a3, n3, c3, rfl, hint3, hb3⟩
    replace U := U.below hb3
    replace R := R.below hb3
    replace hB := bthen hB hb3
    replace hup := hup.below hb3
    clear hb3
    go_wp2_with fail
    refine (len_int _ _ _ _ _ (H - L) _ hint3 v1).mono ?_
    rintro r w4 ⟨l, hlen, rfl, hb4⟩
    replace U := U.below hb4
    replace R := R.below hb4
    replace hB := bthen hB hb4
    replace hup := hup.below hb4
    clear hb4 hint3
    have hlb : 0 ≤ l ∧ l ≤ Kw + 2 ∧ (m ≤ Kw → l ≤ Kw - m + 2) ∧ (Kw ≤ m → l ≤ 2) := by
      obtain ⟨g1, g2⟩ := unhide HV2
      refine ⟨hlen.1, ?_, fun h => ?_, fun h => ?_⟩
      · rcases Nat.le_total m Kw with h | h
        · have := len_bd (K := Kw - m) hlen (g2 h) v1; omega
        · have := len_two hlen (g1 h) v1; omega
      · have := len_bd (K := Kw - m) hlen (g2 h) v1; omega
      · exact len_two hlen (g1 h) v1
    obtain ⟨hl0, hl1, hl2, hl3⟩ := hlb
    have HL2 := hide (And.intro hl2 hl3)
    have HLen := hide hlen
    clear hl2 hl3 hlen
    have lU := U.lt
    have lR2 := R.lt
    have nRU : W.heap.size ≠ w2.heap.size := by omega
    have nRU' : w2.heap.size ≠ W.heap.size := by omega
    have HU := hide U
    obtain ⟨x0, x1, x2, x3, x4⟩ := U
    by_cases hc : l ≤ 1
    · have hN := R
      obtain ⟨q0, q1, q2, q3, q4, q5⟩ := R
      have Hc := hide hc
      go_wp2_with fail
      refine bodyPost_ret (v := .agg #[.bool u.ln, .slice u.la u.lN u.lc, .bool u.hn, .slice u.ha u.hN u.hc, .int .i64 u.bits]) (by simp [results, Try.results74, go_sem, q0, q1, q2, q3, q4]) rfl ⟨L, H, ⟨m, lo, hi, unhide HPr, hm, unhide HL, unhide HH, Or.inl (len_one (unhide HLen) (unhide Hc) v1)⟩, u, rfl, unhide HUB, ?_, ?_⟩
      · exact SpAt.put5 hup q0 q1 q2 q3 q4 _ _ _ _ _
      · exact set5 hB (Nat.le_refl _) _ _ _ _ _
    · by_cases ht3 : 3 ≤ t
      · have ht3' : (3 : Int) ≤ (t : Int) := by omega
        cases hn : narB L H (Q bits) 4
        · have hmK2 : m < Kw := by
            refine Nat.lt_of_not_le fun h => ?_
            have h5 := (unhide HV2).1 h
            rw [narB_small (by omega) (by omega)] at hn
            cases hn
          go_wp2_with fail
          refine (narrow_int _ u bits 4 L H hup (unhide HUB) hb (by omega)).mono ?_
          rintro r w5 ⟨rfl, hb5⟩
          rw [show narB L H (Q bits) ((4 : Nat) : Int) = false from hn]
          replace R := R.below hb5
          replace hB := bthen hB hb5
          go_wp2_with fail
          go_roundw
          case rel => exact ⟨m + l.toNat + 32, t + 1, by congr 1; omega, by congr 1, ⟨by omega, by omega, by omega, Or.inr (by have := (unhide HL2).1; omega)⟩, R, hB⟩
          case measure => simp [intOf]; omega
        · go_wp2_with fail
          refine (narrow_int _ u bits 4 L H hup (unhide HUB) hb (by omega)).mono ?_
          rintro r w5 ⟨rfl, hb5⟩
          rw [show narB L H (Q bits) ((4 : Nat) : Int) = true from hn]
          replace R := R.below hb5
          replace hB := bthen hB hb5
          replace hup := hup.below hb5
          obtain ⟨y0, y1, y2, y3, y4⟩ := (unhide HU).below hb5
          obtain ⟨q0, q1, q2, q3, q4, q5⟩ := R
          have lU2 := Nat.lt_of_lt_of_le lU hb5.size
          have lR3 := Nat.lt_of_lt_of_le lR2 hb5.size
          clear hb5 x0 x1 x2 x3 x4
          go_wp2_with fail
          refine bodyPost_ret (v := .agg #[.bool u.ln, .slice u.la u.lN u.lc, .bool u.hn, .slice u.ha u.hN u.hc, .int .i64 u.bits]) (by simp [results, Try.results74, go_sem, q0, q1, q2, q3, q4]) rfl ⟨L, H, ⟨m, lo, hi, unhide HPr, hm, unhide HL, unhide HH, Or.inr hn⟩, u, rfl, unhide HUB, ?_, ?_⟩
          · exact SpAt.put5 hup q0 q1 q2 q3 q4 _ _ _ _ _
          · exact set5 hB (Nat.le_refl _) _ _ _ _ _
      · have ht3' : ¬ (3 : Int) ≤ (t : Int) := by omega
        go_wp2_with fail
        go_roundw
        case rel => exact ⟨m + l.toNat + 32, t + 1, by congr 1; omega, by congr 1, ⟨by omega, by omega, by omega, by
          have g1 := (unhide HL2).1
          have g2 := (unhide HL2).2
          have g3 := unhide HI
          rcases Nat.le_total m Kw with h | h
          · have := g1 h; exact Or.inr (by omega)
          · have := g2 h; exact Or.inl ⟨by omega, by omega⟩⟩, R, hB⟩
        case measure => simp [intOf]; omega
end Go.Proofs.Ytgmnknmjainabab
namespace Go.Proofs.Ytgmnknmjainabab
open Go.RowKit
attribute [local go_sem ↓] Go.wp_at_zero Go.wp_at_succ
def DivsAll (p q a b : Int) : Prop := ∀ c : Int, c ∣ a → c ∣ b → c ∣ p ∧ c ∣ q
theorem DivsAll.step {p q a b : Int} (h : DivsAll p q a b) : DivsAll p q b (a % b) := fun c h1 h2 => by
  refine h c ?_ h1
  have e := Int.mul_ediv_add_emod a b
  rw [← e]
  exact Int.dvd_add (Int.dvd_trans h1 (Int.dvd_mul_right _ _)) h2
def LowOf (p q p' q' : Int) : Prop := ∃ g : Int, 0 < g ∧ p = g * p' ∧ q = g * q'
structure Low2 (w wr : World) (p q : Int) : Prop where
  y0 : wr.cell? ⟨w.heap.size, 0, none⟩ = some (.int .i64 p)
  y1 : wr.cell? ⟨w.heap.size, 1, none⟩ = some (.int .i64 q)
  u0 : wr.cell? ⟨w.heap.size + 1, 0, none⟩ = some (.int .i64 0)
  u1 : wr.cell? ⟨w.heap.size + 1, 1, none⟩ = some (.int .i64 0)
  u2 : ∀ o, wr.frozen? ⟨w.heap.size + 1, o, none⟩ = false
  be : Below w.heap.size w wr
theorem Low2.drew {w wr : World} {p q : Int} (h : Low2 w wr p q) : Low2 w wr.drew p q := by
  obtain ⟨y0, y1, u0, u1, u2, hB⟩ := h
  have l1 : w.heap.size + 1 < wr.heap.size := World.block_lt_of_cell? wr ⟨w.heap.size + 1, 0, none⟩ u0
  have b : Below wr.heap.size wr wr.drew := (Below.refl _ _).drew
  exact ⟨(b.cell (p := ⟨w.heap.size, 0, none⟩) (Nat.lt_of_succ_lt l1)).trans y0, (b.cell (p := ⟨w.heap.size, 1, none⟩) (Nat.lt_of_succ_lt l1)).trans y1, (b.cell (p := ⟨w.heap.size + 1, 0, none⟩) l1).trans u0, (b.cell (p := ⟨w.heap.size + 1, 1, none⟩) l1).trans u1, fun o => (b.frozen (p := ⟨w.heap.size + 1, o, none⟩) l1).trans (u2 o), bthen hB b⟩
end Go.Proofs.Ytgmnknmjainabab
