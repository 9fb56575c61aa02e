/-
  What tailsureref.Roots answers of a right span that has nothing below 0, and that it leaves old memory alone.
  What tailsureref.lowErf answers, and that it leaves old memory alone.
-/
import Derived.Test.YtgmnknmjainababGreatK19
namespace Go.Proofs.YtgmnknmjainababGreat
set_option linter.unusedVariables false
set_option linter.unusedSimpArgs false
set_option linter.unnecessarySimpa false
open Go.RowKit
attribute [local go_sem ↓] Go.wp_at_zero Go.wp_at_succ

set_option maxRecDepth 100000 in
set_option maxHeartbeats 8000000 in
theorem refRoots_int (w : World) (s : Sp) (k b : Nat) (lo hi : Int) (hs : SpAt w s k lo hi) (hk : k ≤ 30000000) (hb : b ≤ 1000000) (hbits : s.bits = b) (h0 : 0 ≤ lo) (h1 : 0 ≤ hi) :
    Calls Tryz.prog 53 #[.agg #[.bool s.ln, .slice s.la s.lN s.lc, .bool s.hn, .slice s.ha s.hN s.hc, .int .i64 s.bits]] w (SpanAns w b (b / 16 + k + 30) (rtZ (lo * Q b)) (rtU (hi * Q b))) := by
  have HBT := hide hbits
  have hqb := Q_pos b
  have HL0 := hide (show 0 ≤ lo * Q b from Int.mul_nonneg h0 (by omega))
  have HH0 := hide (show 0 ≤ hi * Q b from Int.mul_nonneg h1 (by omega))
  clear hbits hqb h0 h1
  obtain ⟨W, hW⟩ : ∃ W, W = (w.alloc (.cells #[.bool s.ln, .slice s.la s.lN s.lc, .bool s.hn, .slice s.ha s.hN s.hc, .int .i64 s.bits] 36)).alloc (.cells #[.bool false, .slice none 0 0, .bool false, .slice none 0 0, .int .i64 0] 36) := ⟨_, rfl⟩
  have hBW : Below w.heap.size w W := by rw [hW]; exact bl2 _ _ _
  have A : SpC W w.heap.size s := by rw [hW]; exact ⟨by simp [go_sem], by simp [go_sem], by simp [go_sem], by simp [go_sem], by simp [go_sem]⟩
  have R : NoC W (w.heap.size + 1) := by rw [hW]; exact ⟨by simp [go_sem], by simp [go_sem], by simp [go_sem], by simp [go_sem], by simp [go_sem], fun o => by simp [go_sem]⟩
  replace hs := hide (hs.below hBW)
  have lA := A.lt
  have lR1 := R.lt
  have HK := hide (show ∀ w', Below W.heap.size W w' → (w'.cell? ⟨w.heap.size, 0, none⟩ = some (.bool s.ln) ∧ w'.cell? ⟨w.heap.size, 1, none⟩ = some (.slice s.la s.lN s.lc) ∧ w'.cell? ⟨w.heap.size, 2, none⟩ = some (.bool s.hn) ∧ w'.cell? ⟨w.heap.size, 3, none⟩ = some (.slice s.ha s.hN s.hc) ∧ w'.cell? ⟨w.heap.size, 4, none⟩ = some (.int .i64 (b : Int))) from fun w' hB => ⟨(A.below hB).c0, (A.below hB).c1, (A.below hB).c2, (A.below hB).c3, by rw [← unhide HBT]; exact (A.below hB).c4⟩)
  obtain ⟨x0, x1, x2, x3, x4⟩ := unhide HK _ (Below.refl _ _)
  go_enter Tryz.func53, Tryz.ntmps53
  go_wp2
  rw [← hW]
  clear hW
  go_cut [3, 4] (fun p q wx => TwoV W wx (k + b / 16 + 5) (k + b / 16 + 5) (lo * Q b) (hi * Q b) p q)
  case first =>
    go_region_held3 (fun w' => w'.cell? ⟨w.heap.size, 0, none⟩ = some (.bool s.ln) ∧ w'.cell? ⟨w.heap.size, 1, none⟩ = some (.slice s.la s.lN s.lc) ∧ w'.cell? ⟨w.heap.size, 2, none⟩ = some (.bool s.hn) ∧ w'.cell? ⟨w.heap.size, 3, none⟩ = some (.slice s.ha s.hN s.hc) ∧ w'.cell? ⟨w.heap.size, 4, none⟩ = some (.int .i64 (b : Int))) (exact unhide HK _ (by repeat' (first | with_reducible exact hBL4 | with_reducible exact hBL3 | with_reducible exact hBL2 | with_reducible exact hBL1 | with_reducible exact Below.refl _ _ | with_reducible refine Below.drew ?_ | with_reducible refine balloc ?_ _ | with_reducible refine Below.setCell ?_ (by first | with_reducible exact Nat.le_refl _ | with_reducible exact Nat.le_succ _ | with_reducible exact hlL1 | with_reducible exact Nat.le_succ_of_le hlL1 | with_reducible exact hlL2 | with_reducible exact Nat.le_succ_of_le hlL2 | with_reducible exact hlL3 | with_reducible exact Nat.le_succ_of_le hlL3 | with_reducible exact hlL4 | with_reducible exact Nat.le_succ_of_le hlL4) _)))
      (first
        | (go_at_call 66; have hq := hBL3; refine (mul_int _ _ _ _ _ _ _ _ k (b / 16 + 5) hi (Q b) _ ((unhide hs).hi.below (by repeat' (first | with_reducible exact hBL3 | with_reducible exact Below.refl _ _ | with_reducible refine Below.drew ?_ | with_reducible refine balloc ?_ _))) (hintL3.below (by repeat' (first | with_reducible exact Below.refl _ _ | with_reducible refine Below.drew ?_ | with_reducible refine balloc ?_ _))) (by omega) (by omega)).mono ?_; rintro r wL4 ⟨negL4, aL4, nL4, cL4, rfl, hintL4, hbL4⟩; have hCL4 : Below wL3.heap.size wL3 wL4 := (by first | with_reducible exact hbL4 | with_reducible exact bthen (bl1 _ _) hbL4 | with_reducible exact bthen (bl2 _ _ _) hbL4); have hBL4 := bthen hBL3 hCL4; (first | with_reducible have gaL4 := (noi_new wL3 26).below hbL4 | with_reducible have gaL4 := ((noi_new wL3 26).below (bl1 _ _)).below hbL4 | skip); (try with_reducible have gbL4 := (noi_new' (wL3.alloc _) (wL3.heap.size + 1) (hs1 _ _) 26).below hbL4); replace hintL1 := hintL1.below hCL4; (try have maL1 := gaL1.lt); (try have mbL1 := gbL1.lt); (try replace gaL1 := gaL1.below hCL4); (try replace gbL1 := gbL1.below hCL4); replace hintL2 := hintL2.below hCL4; (try have maL2 := gaL2.lt); (try have mbL2 := gbL2.lt); (try replace gaL2 := gaL2.below hCL4); (try replace gbL2 := gbL2.below hCL4); replace hintL3 := hintL3.below hCL4; (try have maL3 := gaL3.lt); (try have mbL3 := gbL3.lt); (try replace gaL3 := gaL3.below hCL4); (try replace gbL3 := gbL3.below hCL4); have hlL4 := hBL4.size; (try have eaL1 := gaL1); (try obtain ⟨zaL10, zaL11, zaL12⟩ := eaL1); (try have yaL1 := gaL1.lt); (try have ebL1 := gbL1); (try obtain ⟨zbL10, zbL11, zbL12⟩ := ebL1); (try have ybL1 := gbL1.lt); (try have eaL2 := gaL2); (try obtain ⟨zaL20, zaL21, zaL22⟩ := eaL2); (try have yaL2 := gaL2.lt); (try have ebL2 := gbL2); (try obtain ⟨zbL20, zbL21, zbL22⟩ := ebL2); (try have ybL2 := gbL2.lt); (try have eaL3 := gaL3); (try obtain ⟨zaL30, zaL31, zaL32⟩ := eaL3); (try have yaL3 := gaL3.lt); (try have ebL3 := gbL3); (try obtain ⟨zbL30, zbL31, zbL32⟩ := ebL3); (try have ybL3 := gbL3.lt); (try have eaL4 := gaL4); (try obtain ⟨zaL40, zaL41, zaL42⟩ := eaL4); (try have yaL4 := gaL4.lt); (try have ebL4 := gbL4); (try obtain ⟨zbL40, zbL41, zbL42⟩ := ebL4); (try have ybL4 := gbL4.lt))
        | (go_at_call 104; have hq := hBL2; refine (power2_int b _ (by omega)).mono ?_; rintro r wL3 ⟨negL3, aL3, nL3, cL3, rfl, hintL3, hbL3⟩; have hCL3 : Below wL2.heap.size wL2 wL3 := (by first | with_reducible exact hbL3 | with_reducible exact bthen (bl1 _ _) hbL3 | with_reducible exact bthen (bl2 _ _ _) hbL3); have hBL3 := bthen hBL2 hCL3; (first | with_reducible have gaL3 := (noi_new wL2 26).below hbL3 | with_reducible have gaL3 := ((noi_new wL2 26).below (bl1 _ _)).below hbL3 | skip); (try with_reducible have gbL3 := (noi_new' (wL2.alloc _) (wL2.heap.size + 1) (hs1 _ _) 26).below hbL3); replace hintL1 := hintL1.below hCL3; (try have maL1 := gaL1.lt); (try have mbL1 := gbL1.lt); (try replace gaL1 := gaL1.below hCL3); (try replace gbL1 := gbL1.below hCL3); replace hintL2 := hintL2.below hCL3; (try have maL2 := gaL2.lt); (try have mbL2 := gbL2.lt); (try replace gaL2 := gaL2.below hCL3); (try replace gbL2 := gbL2.below hCL3); have hlL3 := hBL3.size)
        | (go_at_call 66; have hq := hBL1; refine (mul_int _ _ _ _ _ _ _ _ k (b / 16 + 5) lo (Q b) _ ((unhide hs).lo.below (by repeat' (first | with_reducible exact hBL1 | with_reducible exact Below.refl _ _ | with_reducible refine Below.drew ?_ | with_reducible refine balloc ?_ _))) (hintL1.below (by repeat' (first | with_reducible exact Below.refl _ _ | with_reducible refine Below.drew ?_ | with_reducible refine balloc ?_ _))) (by omega) (by omega)).mono ?_; rintro r wL2 ⟨negL2, aL2, nL2, cL2, rfl, hintL2, hbL2⟩; have hCL2 : Below wL1.heap.size wL1 wL2 := (by first | with_reducible exact hbL2 | with_reducible exact bthen (bl1 _ _) hbL2 | with_reducible exact bthen (bl2 _ _ _) hbL2); have hBL2 := bthen hBL1 hCL2; (first | with_reducible have gaL2 := (noi_new wL1 26).below hbL2 | with_reducible have gaL2 := ((noi_new wL1 26).below (bl1 _ _)).below hbL2 | skip); (try with_reducible have gbL2 := (noi_new' (wL1.alloc _) (wL1.heap.size + 1) (hs1 _ _) 26).below hbL2); replace hintL1 := hintL1.below hCL2; (try have maL1 := gaL1.lt); (try have mbL1 := gbL1.lt); (try replace gaL1 := gaL1.below hCL2); (try replace gbL1 := gbL1.below hCL2); have hlL2 := hBL2.size)
        | (go_at_call 104; refine (power2_int b _ (by omega)).mono ?_; rintro r wL1 ⟨negL1, aL1, nL1, cL1, rfl, hintL1, hbL1⟩; have hBL1 : Below W.heap.size W wL1 := (by first | with_reducible exact bthen (Below.refl _ _).drew hbL1 | with_reducible exact bthen (bl1 _ _).drew hbL1 | with_reducible exact bthen (bl2 _ _ _).drew hbL1); (first | with_reducible have gaL1 := ((noi_new W 26).below (Below.refl _ _).drew).below hbL1 | with_reducible have gaL1 := ((noi_new W 26).below (bl1 _ _).drew).below hbL1 | skip); (try with_reducible have gbL1 := ((noi_new' (W.alloc _) (W.heap.size + 1) (hs1 _ _) 26).below (Below.refl _ _).drew).below hbL1); have hlL1 := hBL1.size))
    all_goals
      go_wp2_with fail
      go_meet
      first
        | with_reducible exact two_aa (x := (Nm.mk negL2 aL2 nL2 cL2)) (y := (Nm.mk negL4 aL4 nL4 cL4)) hBL4 (IntAt.mono hintL2 (by omega)) (IntAt.mono hintL4 (by omega))
        | with_reducible exact two_aa' (x := (Nm.mk negL2 aL2 nL2 cL2)) (y := (Nm.mk negL4 aL4 nL4 cL4)) hBL4 (IntAt.mono hintL2 (by omega)) (IntAt.mono hintL4 (by omega))
        | with_reducible exact two_sa (x := (Nm.mk negL2 aL2 nL2 cL2)) (y := (Nm.mk negL4 aL4 nL4 cL4)) hBL4 (IntAt.mono hintL2 (by omega)) (IntAt.mono hintL4 (by omega)) (by assumption) (by first | with_reducible exact Nat.le_refl _ | with_reducible exact Nat.le_succ _ | with_reducible exact hlL1 | with_reducible exact Nat.le_succ_of_le hlL1 | with_reducible exact hlL2 | with_reducible exact Nat.le_succ_of_le hlL2 | with_reducible exact hlL3 | with_reducible exact Nat.le_succ_of_le hlL3 | with_reducible exact hlL4 | with_reducible exact Nat.le_succ_of_le hlL4)
        | with_reducible exact two_as (x := (Nm.mk negL2 aL2 nL2 cL2)) (y := (Nm.mk negL4 aL4 nL4 cL4)) hBL4 (IntAt.mono hintL2 (by omega)) (IntAt.mono hintL4 (by omega)) (by assumption) (by first | with_reducible exact Nat.le_refl _ | with_reducible exact Nat.le_succ _ | with_reducible exact hlL1 | with_reducible exact Nat.le_succ_of_le hlL1 | with_reducible exact hlL2 | with_reducible exact Nat.le_succ_of_le hlL2 | with_reducible exact hlL3 | with_reducible exact Nat.le_succ_of_le hlL3 | with_reducible exact hlL4 | with_reducible exact Nat.le_succ_of_le hlL4)
        | with_reducible exact two_ss (x := (Nm.mk negL2 aL2 nL2 cL2)) (y := (Nm.mk negL4 aL4 nL4 cL4)) hBL4 (IntAt.mono hintL2 (by omega)) (IntAt.mono hintL4 (by omega)) (by assumption) (by assumption) (by first | with_reducible exact Nat.le_refl _ | with_reducible exact Nat.le_succ _ | with_reducible exact hlL1 | with_reducible exact Nat.le_succ_of_le hlL1 | with_reducible exact hlL2 | with_reducible exact Nat.le_succ_of_le hlL2 | with_reducible exact hlL3 | with_reducible exact Nat.le_succ_of_le hlL3 | with_reducible exact hlL4 | with_reducible exact Nat.le_succ_of_le hlL4) (by first | with_reducible exact Nat.le_refl _ | with_reducible exact Nat.le_succ _ | with_reducible exact hlL1 | with_reducible exact Nat.le_succ_of_le hlL1 | with_reducible exact hlL2 | with_reducible exact Nat.le_succ_of_le hlL2 | with_reducible exact hlL3 | with_reducible exact Nat.le_succ_of_le hlL3 | with_reducible exact hlL4 | with_reducible exact Nat.le_succ_of_le hlL4) (by omega)
  case rest =>
  obtain ⟨⟨BL, xL, rfl, jL0, jL1, hintL, hHL, hltL⟩, ⟨CL, yL, rfl, jL2, jL3, hjntL, hJL, hjtL⟩, hneL, hfzL, hfyL, hblL⟩ := hcut
  have XL : NmC wc BL xL := ⟨jL0, jL1⟩
  have YL : NmC wc CL yL := ⟨jL2, jL3⟩
  replace hneL : BL ≠ CL := fun e9 => hneL (by rw [e9])
  replace hfzL : ∀ o, wc.frozen? ⟨BL, o, none⟩ = false := hfzL _ rfl
  replace hfyL : ∀ o, wc.frozen? ⟨CL, o, none⟩ = false := hfyL _ rfl
  replace hBW := bthen hBW hblL
  replace A := A.below hblL
  replace R := R.below hblL
  have nLR : BL ≠ w.heap.size + 1 := Nat.ne_of_gt (Nat.lt_of_lt_of_le lR1 hHL)
  have nAR : w.heap.size ≠ w.heap.size + 1 := by omega
  clear x0 x1 x2 x3 x4 HK hs hblL hfzL hfyL hneL lA
  have lC := YL.lt
  go_wp2_with fail
  refine (rootDown_int _ _ _ _ (k + b / 16 + 5) (hi * Q b) _ hjntL (by omega) (unhide HH0)).mono ?_
  rintro r w2 ⟨neg2, a2, n2, c2, rfl, hint2, hb2⟩
  replace hBW := bthen hBW hb2
  replace A := A.below hb2
  replace R := R.below hb2
  replace XL := XL.below hb2
  replace YL := YL.below hb2
  replace hintL := hintL.below hb2
  replace hjntL := hjntL.below hb2
  clear hb2 jL0 jL1 jL2 jL3 lC hltL hjtL
  obtain ⟨W2, hW2⟩ : ∃ W', W' = w2.alloc (.cells #[.bool neg2, .slice a2 n2 c2] 26) := ⟨_, rfl⟩
  have hc2 : Below w2.heap.size w2 W2 := by rw [hW2]; exact bl1 _ _
  have X2 : NmC W2 w2.heap.size ⟨neg2, a2, n2, c2⟩ := by rw [hW2]; exact nmc_new w2 ⟨neg2, a2, n2, c2⟩ _
  have F2 : ∀ o, W2.frozen? ⟨w2.heap.size, o, none⟩ = false := by intro o; rw [hW2]; simp [go_sem]
  have nL2 : BL ≠ w2.heap.size := Nat.ne_of_lt XL.lt
  have nC2 : CL ≠ w2.heap.size := Nat.ne_of_lt YL.lt
  have nR2 : w2.heap.size ≠ w.heap.size + 1 := Nat.ne_of_gt R.lt
  have nR2' : w.heap.size + 1 ≠ w2.heap.size := Nat.ne_of_lt R.lt
  have nA : w.heap.size ≠ w2.heap.size := Nat.ne_of_lt A.lt
  have hwB : w.heap.size ≤ w2.heap.size := Nat.le_of_lt A.lt
  replace hBW := bthen hBW hc2
  replace A := A.below hc2
  replace R := R.below hc2
  replace hintL := hide (hintL.below hc2)
  have hint1 := hide (hjntL.below hc2)
  replace hint2 := hide (hint2.below hc2)
  replace XL := XL.below hc2
  have X1 := YL.below hc2
  clear hc2 YL hjntL
  go_wp2_with fail
  rw [← hW2]
  clear hW2
  have HK3 := hide (show ∀ w', Below W2.heap.size W2 w' → (w'.cell? ⟨CL, 0, none⟩ = some (.bool yL.neg) ∧ w'.cell? ⟨CL, 1, none⟩ = some (.slice yL.a yL.n yL.cap) ∧ w'.cell? ⟨w2.heap.size, 0, none⟩ = some (.bool (Nm.mk neg2 a2 n2 c2).neg) ∧ w'.cell? ⟨w2.heap.size, 1, none⟩ = some (.slice (Nm.mk neg2 a2 n2 c2).a (Nm.mk neg2 a2 n2 c2).n (Nm.mk neg2 a2 n2 c2).cap)) from fun w' hB => ⟨(X1.below hB).c0, (X1.below hB).c1, (X2.below hB).c0, (X2.below hB).c1⟩)
  have l1 := X1.lt
  have l2 := X2.lt
  obtain ⟨v0, v1, v2, v3⟩ := unhide HK3 _ (Below.refl _ _)
  go_wp2_with fail
  go_cut [25] (fun p wx => p = .bool (decide (rtZ (hi * Q b) * rtZ (hi * Q b) < (hi * Q b))) ∧ Below W2.heap.size W2 wx)
  case first =>
    go_region_held3 (fun w' => w'.cell? ⟨CL, 0, none⟩ = some (.bool yL.neg) ∧ w'.cell? ⟨CL, 1, none⟩ = some (.slice yL.a yL.n yL.cap) ∧ w'.cell? ⟨w2.heap.size, 0, none⟩ = some (.bool (Nm.mk neg2 a2 n2 c2).neg) ∧ w'.cell? ⟨w2.heap.size, 1, none⟩ = some (.slice (Nm.mk neg2 a2 n2 c2).a (Nm.mk neg2 a2 n2 c2).n (Nm.mk neg2 a2 n2 c2).cap)) (exact unhide HK3 _ (by (repeat' (first | with_reducible exact hB4 | with_reducible exact hB3 | with_reducible exact Below.refl _ _ | with_reducible refine Below.drew ?_ | with_reducible refine balloc ?_ _)) <;> fail))
      (first
        | (go_at_call 46; have hq := hB3; refine (cmp_int _ _ _ _ _ _ _ _ _ _ (rtZ (hi * Q b) * rtZ (hi * Q b)) (hi * Q b) _ (hint3.below (by (repeat' (first | with_reducible exact Below.refl _ _ | with_reducible refine Below.drew ?_ | with_reducible refine balloc ?_ _)) <;> fail)) ((unhide hint1).below (by (repeat' (first | with_reducible exact hB3 | with_reducible exact Below.refl _ _ | with_reducible refine Below.drew ?_ | with_reducible refine balloc ?_ _)) <;> fail))).mono ?_; rintro r w4 ⟨rfl, hb4⟩; have hB4 := bthen hB3 hb4)
        | (go_at_call 66; refine (mul_int _ _ _ _ _ _ _ _ _ _ (rtZ (hi * Q b)) (rtZ (hi * Q b)) _ ((unhide hint2).below (by (repeat' (first | with_reducible exact Below.refl _ _ | with_reducible refine Below.drew ?_ | with_reducible refine balloc ?_ _)) <;> fail)) ((unhide hint2).below (by (repeat' (first | with_reducible exact Below.refl _ _ | with_reducible refine Below.drew ?_ | with_reducible refine balloc ?_ _)) <;> fail)) (by omega) (by omega)).mono ?_; rintro r w3 ⟨neg3, a3, n3, c3, rfl, hint3, hb3⟩; have hB3 : Below W2.heap.size W2 w3 := bthen (by (repeat' (first | with_reducible exact Below.refl _ _ | with_reducible refine Below.drew ?_ | with_reducible refine balloc ?_ _)) <;> fail) hb3))
    all_goals
      go_wp2_with fail
      go_meet
      refine ⟨?_, (by (repeat' (first | with_reducible exact hB4 | with_reducible exact Below.refl _ _ | with_reducible refine Below.drew ?_ | with_reducible refine balloc ?_ _)) <;> fail)⟩
      congr 1
      exact cmp_lt_dec _ _
  case rest =>
  obtain ⟨rfl, hbl⟩ := hcut
  replace A := A.below hbl
  replace R := R.below hbl
  replace XL := XL.below hbl
  replace hintL := hide ((unhide hintL).below hbl)
  replace F2 : ∀ o, wc.frozen? ⟨w2.heap.size, o, none⟩ = false := fun o => (hbl.frozen (p := ⟨w2.heap.size, o, none⟩) X2.lt).trans (F2 o)
  replace X2 := X2.below hbl
  replace hint2 := hide ((unhide hint2).below hbl)
  replace hBW := bthen hBW hbl
  clear hint1 X1 hbl
  clear v0 v1 v2 v3 HK3 l1 l2
  go_upto_if 25 with fail
  go_cut [26] (fun _ wx => ∃ x : Nm, NmC wx w2.heap.size x ∧ IntAt wx x.neg x.a x.n x.cap (b / 16 + k + 30) (rtU (hi * Q b)) ∧ SpC wx w.heap.size s ∧ NoC wx (w.heap.size + 1) ∧ NmC wx BL xL ∧ IntAt wx xL.neg xL.a xL.n xL.cap (k + b / 16 + 5) (lo * Q b) ∧ Below w.heap.size w wx)
  case first =>
    have l2 := X2.lt
    have HX2 := hide X2
    obtain ⟨v2, v3⟩ := X2
    by_cases hlt : rtZ (hi * Q b) * rtZ (hi * Q b) < (hi * Q b)
    · have hd : decide (rtZ (hi * Q b) * rtZ (hi * Q b) < (hi * Q b)) = true := decide_eq_true hlt
      have HU := hide (show rtU (hi * Q b) = rtZ (hi * Q b) + 1 by unfold rtU; rw [if_pos hlt])
      clear hlt
      rw [hd]
      go_wp2_with fail
      go_region_with
        (first
          | (go_at_call 65; have hq := hb5; refine (add_int _ _ _ _ _ _ _ _ _ 4 (rtZ (hi * Q b)) 1 _ ((unhide hint2).below hB5) hint5 (by omega) (by omega)).mono ?_; rintro r w6 ⟨neg6, a6, n6, c6, rfl, hint6, hb6⟩; have hB6 := bthen hB5 hb6; have F6 : ∀ o, w6.frozen? ⟨w2.heap.size, o, none⟩ = false := (fun o => (hB6.frozen (p := ⟨w2.heap.size, o, none⟩) l2).trans (F2 o)); have l6 := Nat.lt_of_lt_of_le l2 hB6.size; obtain ⟨v7, v8⟩ := (unhide HX2).below hB6)
          | (go_at_call 43; refine (numOf_int 1 _ (by decide) (by decide)).mono ?_; rintro r w5 ⟨neg5, a5, n5, c5, rfl, hint5, hb5⟩; have hB5 : Below wc.heap.size wc w5 := bthen (by (repeat' (first | with_reducible exact Below.refl _ _ | with_reducible refine Below.drew ?_ | with_reducible refine balloc ?_ _)) <;> fail) hb5; have l5 := hB5.size; obtain ⟨v5, v6⟩ := (unhide HX2).below hB5))
      all_goals
        go_wp2_with fail
        go_meet
        rw [unhide HU]
        exact ⟨⟨neg6, a6, n6, c6⟩, ⟨by simp [go_sem, v7, v8], by simp [go_sem, v7, v8]⟩, (hint6.put2 v7 v8 _ _).mono (by omega), (A.below hB6).put2 nA _ _, (R.below hB6).put2 nR2' _ _, (XL.below hB6).put2 nL2 _ _, ((unhide hintL).below hB6).put2 v7 v8 _ _, set2 (bthen hBW hB6) hwB _ _⟩
    · have hd : decide (rtZ (hi * Q b) * rtZ (hi * Q b) < (hi * Q b)) = false := decide_eq_false hlt
      have HU := hide (show rtU (hi * Q b) = rtZ (hi * Q b) by unfold rtU; rw [if_neg hlt])
      clear hlt
      rw [hd]
      go_wp2_with fail
      go_meet
      rw [unhide HU]
      exact ⟨⟨neg2, a2, n2, c2⟩, ⟨v2, v3⟩, (unhide hint2).mono (by omega), A, R, XL, unhide hintL, hBW⟩
  case rest =>
  obtain ⟨x, X2, hint, A, R, XL, hintL, hBW⟩ := hcut
  clear F2 hint2
  have HK5 := hide (show ∀ w', Below wc.heap.size wc w' → (w'.cell? ⟨BL, 0, none⟩ = some (.bool xL.neg) ∧ w'.cell? ⟨BL, 1, none⟩ = some (.slice xL.a xL.n xL.cap) ∧ w'.cell? ⟨w2.heap.size, 0, none⟩ = some (.bool x.neg) ∧ w'.cell? ⟨w2.heap.size, 1, none⟩ = some (.slice x.a x.n x.cap) ∧ w'.cell? ⟨w.heap.size, 4, none⟩ = some (.int .i64 (b : Int))) from fun w' hB => ⟨(XL.below hB).c0, (XL.below hB).c1, (X2.below hB).c0, (X2.below hB).c1, by rw [← unhide HBT]; exact (A.below hB).c4⟩)
  have lA := A.lt
  have lX := X2.lt
  have lL := XL.lt
  have lR := R.lt
  replace hint := hide hint
  replace hintL := hide hintL
  obtain ⟨x0, x1, x2, x3, x4⟩ := unhide HK5 _ (Below.refl _ _)
  go_wp2_with fail
  go_region_held3 (fun w' => w'.cell? ⟨BL, 0, none⟩ = some (.bool xL.neg) ∧ w'.cell? ⟨BL, 1, none⟩ = some (.slice xL.a xL.n xL.cap) ∧ w'.cell? ⟨w2.heap.size, 0, none⟩ = some (.bool x.neg) ∧ w'.cell? ⟨w2.heap.size, 1, none⟩ = some (.slice x.a x.n x.cap) ∧ w'.cell? ⟨w.heap.size, 4, none⟩ = some (.int .i64 (b : Int))) (first | exact unhide HK5 _ (by first | with_reducible exact hB8 | with_reducible exact (Below.refl _ _).drew | with_reducible exact Below.refl _ _) | exact ⟨cell_put5' y0 nLR _ _ _ _ _, cell_put5' y1 nLR _ _ _ _ _, cell_put5' y2 nR2 _ _ _ _ _, cell_put5' y3 nR2 _ _ _ _ _, cell_put5' y4 nAR _ _ _ _ _⟩)
    (first
      | (go_at_call 107; refine (rootDown_int _ _ _ _ (k + b / 16 + 5) (lo * Q b) _ ((unhide hintL).below (by (repeat' (first | with_reducible exact Below.refl _ _ | with_reducible refine Below.drew ?_ | with_reducible refine balloc ?_ _)) <;> fail)) (by omega) (unhide HL0)).mono ?_; rintro r w8 ⟨neg8, a8, n8, c8, rfl, hint8, hb8⟩; have hB8 : Below wc.heap.size wc w8 := bthen (by (repeat' (first | with_reducible exact Below.refl _ _ | with_reducible refine Below.drew ?_ | with_reducible refine balloc ?_ _)) <;> fail) hb8; have R8 := R.below hB8; have l8 := R8.lt; obtain ⟨q0, q1, q2, q3, q4, q5⟩ := R8; obtain ⟨y0, y1, y2, y3, y4⟩ := unhide HK5 _ hB8))
  all_goals
    go_wp2_with fail
    refine bodyPost_ret (v := .agg #[.bool neg8, .slice a8 n8 c8, .bool x.neg, .slice x.a x.n x.cap, .int .i64 b]) (by simp [results, Tryz.results53, go_sem, l8, q0, q1, q2, q3, q4]) rfl ⟨⟨neg8, a8, n8, c8, x.neg, x.a, x.n, x.cap, b⟩, rfl, rfl, ?_, ?_⟩
    · exact SpAt.put5 ⟨hint8.mono (by omega), (unhide hint).below hB8⟩ q0 q1 q2 q3 q4 _ _ _ _ _
    · exact set5 (bthen hBW hB8) (by omega) _ _ _ _ _
end Go.Proofs.YtgmnknmjainababGreat

namespace Go.Proofs.YtgmnknmjainababGreat
set_option linter.unusedVariables false
set_option linter.unusedSimpArgs false
set_option linter.unnecessarySimpa false
open Go.RowKit
attribute [local go_sem ↓] Go.wp_at_zero Go.wp_at_succ

theorem power2_z {e : Nat} (z : Int) (hz : z = (e : Int)) (w : World) (hk : e ≤ 1000000000) : Calls Tryz.prog 104 #[.int .i64 z] w fun r w' =>
      ∃ neg' a' n' cap', r = .returned (.agg #[.bool neg', .slice a' n' cap']) ∧ IntAt w' neg' a' n' cap' (e / 16 + 8) (Q e) ∧ Below w.heap.size w w' := by
  subst hz
  exact (power2_int e w hk).mono fun r w' ⟨q1, q2, q3, q4, h1, h2, h3⟩ => ⟨q1, q2, q3, q4, h1, h2.mono (by omega), h3⟩
theorem refScaled_z (z : Int) (w : World) (s : Sp) (x : Nm) (k k1 e b : Nat) (hz : z = (e : Int)) (a : Int × Int) (n : Int) (hs : SpAt w s k a.1 a.2) (hx : IntAt w x.neg x.a x.n x.cap k1 n) (hle : a.1 ≤ a.2) (hn : 0 ≤ n) (hk : k ≤ 100000000) (hk1 : k1 ≤ 100000000) (he : e ≤ 1000000) (hbits : s.bits = (b : Int)) :
    Calls Tryz.prog 135 #[.agg #[.bool s.ln, .slice s.la s.lN s.lc, .bool s.hn, .slice s.ha s.hN s.hc, .int .i64 s.bits], .agg #[.bool x.neg, .slice x.a x.n x.cap], .int .i64 z] w (SpanAns w b (k + k1 + 30) (scaleI a n (Q e)).1 (scaleI a n (Q e)).2) := by
  subst hz
  exact refScaled w s x k k1 e b a n hs hx hle hn hk hk1 he hbits
theorem refLess_ivE (w : World) (s t : Sp) (k b : Nat) (a c : Int × Int) (hs : SpAt w s k a.1 a.2) (ht : SpAt w t k c.1 c.2) (hk : k ≤ 700000000) (hb : s.bits = (b : Int)) :
    Calls Tryz.prog 26 #[.agg #[.bool s.ln, .slice s.la s.lN s.lc, .bool s.hn, .slice s.ha s.hN s.hc, .int .i64 s.bits], .agg #[.bool t.ln, .slice t.la t.lN t.lc, .bool t.hn, .slice t.ha t.hN t.hc, .int .i64 t.bits]] w (SpanAns w b (k + 1) (subI a c).1 (subI a c).2) :=
  (refLess_int w s t k a.1 a.2 c.1 c.2 hs ht hk).mono fun r w' h => by rw [hb] at h; exact h
theorem NmC.offP {w : World} {B B' : Nat} {x : Nm} (h : NmC w B x) (hne : B ≠ B') (u : Sp) : NmC (put5w w B' u) B x := ⟨cell_put5 h.c0 hne _ _ _ _ _, cell_put5 h.c1 hne _ _ _ _ _⟩
/-- Where tailsureref.lowErf is behind some rounds. -/
structure LeSt (w wr : World) (B7 B8 B9 m K kq : Nat) (q : Nm) (U Sm : Sp) (X : Int) (f g : Nat → Int × Int) (i : Nat) : Prop where
  y : VrC wr B8 U
  s : VrC wr B9 Sm
  qc : NmC wr B7 q
  yp : SpAt wr U K (f i).1 (f i).2
  sp : SpAt wr Sm K (g i).1 (g i).2
  qp : IntAt wr q.neg q.a q.n q.cap kq (X * X)
  yb : U.bits = (m : Int)
  sb : Sm.bits = (m : Int)
  no : NoC wr (w.heap.size + 1)
  be : Below w.heap.size w wr
  l7 : w.heap.size + 1 < B7
  l8 : w.heap.size + 1 < B8
  l9 : w.heap.size + 1 < B9
  n78 : B7 ≠ B8
  n79 : B7 ≠ B9
  n89 : B8 ≠ B9
theorem LeSt.below {w wr wr' : World} {B7 B8 B9 m K kq : Nat} {q : Nm} {U Sm : Sp} {X : Int} {f g : Nat → Int × Int} {i : Nat} (h : LeSt w wr B7 B8 B9 m K kq q U Sm X f g i) (hb : Below wr.heap.size wr wr') : LeSt w wr' B7 B8 B9 m K kq q U Sm X f g i :=
  ⟨h.y.below hb, h.s.below hb, h.qc.below hb, h.yp.below hb, h.sp.below hb, h.qp.below hb, h.yb, h.sb, h.no.below hb, bthen h.be hb, h.l7, h.l8, h.l9, h.n78, h.n79, h.n89⟩
/-- What tailsureref.lowErf makes. -/
def loOut (X : Int) (B m N Np : Nat) : Int × Int := downI (dvLo (addI (addI (lsT X B m N) (-2, 2)) (addI (lsT X B m N) (-2, 2))).1 (addI (addI (lsT X B m N) (-2, 2)) (addI (lsT X B m N) (-2, 2))).2 (rootI m (downI (doneT (prT (m + 16)) Np) 16)).1 (rootI m (downI (doneT (prT (m + 16)) Np) 16)).2 m, dvHi (addI (addI (lsT X B m N) (-2, 2)) (addI (lsT X B m N) (-2, 2))).1 (addI (addI (lsT X B m N) (-2, 2)) (addI (lsT X B m N) (-2, 2))).2 (rootI m (downI (doneT (prT (m + 16)) Np) 16)).1 (rootI m (downI (doneT (prT (m + 16)) Np) 16)).2 m) (m - B)
theorem refPi_z (z : Int) (w : World) (b m N K : Nat) (hz : z = (b : Int)) (hm : m = b + 16) (hb : b ≤ 5000) (hN : IsStop (prT m) N) (hNb : N ≤ m / 2 + 2) (hK : Q (m + 20) < P K) (hK2 : K ≤ 1000000) (hK3 : m / 16 + 18 ≤ K) :
    Calls Tryz.prog 191 #[.int .i64 z] w (SpanAns w b (K + 62510) (downI (doneT (prT m) N) 16).1 (downI (doneT (prT m) N) 16).2) := by
  subst hz
  exact refPi_iv w b m N K hm hb hN hNb hK hK2 hK3
theorem root_facts {m Np : Nat} (hP : 0 < (downI (doneT (prT (m + 16)) Np) 16).1) : 0 ≤ (downI (doneT (prT (m + 16)) Np) 16).1 ∧ 0 ≤ (downI (doneT (prT (m + 16)) Np) 16).2 ∧ ¬ ((rootI m (downI (doneT (prT (m + 16)) Np) 16)).1 ≤ 0 ∧ 0 ≤ (rootI m (downI (doneT (prT (m + 16)) Np) 16)).2) ∧ (rootI m (downI (doneT (prT (m + 16)) Np) 16)).1 ≤ (rootI m (downI (doneT (prT (m + 16)) Np) 16)).2 := by
  have hs := sum_le (f := prT (m + 16)) (prT_le (m + 16)) Np
  have hd : (doneT (prT (m + 16)) Np).1 ≤ (doneT (prT (m + 16)) Np).2 := by show (sumI (prT (m + 16)) Np).1 + -1 ≤ (sumI (prT (m + 16)) Np).2 + 1; omega
  have q := Q_pos 16
  have hl : (downI (doneT (prT (m + 16)) Np) 16).1 ≤ (downI (doneT (prT (m + 16)) Np) 16).2 := by
    have := scaleI_le (a := doneT (prT (m + 16)) Np) (n := 1) (d := Q 16) hd (by omega) (by omega)
    simpa [scaleI, downI] using this
  generalize downI (doneT (prT (m + 16)) Np) 16 = a at *
  obtain ⟨r0, r1, r2, r3⟩ := rootI_bounds (B := m) (a := a) (by omega) hl
  have qm := Q_pos m
  have pos : 0 < (rootI m a).1 := by
    have p := Int.mul_pos hP (show 0 < Q m by omega)
    have z := (rtZ_sq (show 0 ≤ a.1 * Q m by omega)).2
    have z0 := rtZ_nonneg (a.1 * Q m)
    show 0 < rtZ (a.1 * Q m)
    refine Int.not_le.1 fun hh => ?_
    have e : rtZ (a.1 * Q m) = 0 := by omega
    rw [e] at z
    omega
  exact ⟨by omega, by omega, by omega, r1⟩

set_option maxRecDepth 100000 in
set_option maxHeartbeats 8000000 in
theorem lowErf_iv (w : World) (x : Nm) (X : Int) (bb m N Np : Nat) (hx : IntAt w x.neg x.a x.n x.cap 100 X) (h : LoIn X bb m) (hm : m = 4 * bb + 120) (hN : LoStop X bb m N) (hNb : N ≤ 22 * bb + 300) (hNp : IsStop (prT (m + 16)) Np) (hNpb : Np ≤ (m + 16) / 2 + 2) (hP : 0 < (downI (doneT (prT (m + 16)) Np) 16).1) :
    Calls Tryz.prog 164 #[.agg #[.bool x.neg, .slice x.a x.n x.cap], .int .i64 bb] w (SpanAns w bb 200000 (loOut X bb m N Np).1 (loOut X bb m N Np).2) := by
  obtain ⟨W, hW⟩ : ∃ W, W = (w.alloc (.cells #[.bool x.neg, .slice x.a x.n x.cap] 26)).alloc (.cells #[.bool false, .slice none 0 0, .bool false, .slice none 0 0, .int .i64 0] 36) := ⟨_, rfl⟩
  have hBW : Below w.heap.size w W := by rw [hW]; exact bl2 _ _ _
  have A : NmC W w.heap.size x := by rw [hW]; exact ⟨by simp [go_sem], by simp [go_sem]⟩
  have R : NoC W (w.heap.size + 1) := by rw [hW]; exact ⟨by simp [go_sem], by simp [go_sem], by simp [go_sem], by simp [go_sem], by simp [go_sem], fun o => by simp [go_sem]⟩
  have HX := hide (hx.below hBW)
  have lR := R.lt
  have b0 := h.b0
  have b1 := h.b1
  have HM := hide (show 4 * (bb : Int) + 120 = (m : Int) by omega)
  have HE := hide (show IntKind.i64.wrap (4 * (bb : Int) + 120 - (bb : Int)) = ((m - bb : Nat) : Int) from (i64_id _ (by omega) (by omega)).trans (by omega))
  have HK := hide (show ∀ w', Below W.heap.size W w' → (w'.cell? ⟨w.heap.size, 0, none⟩ = some (.bool x.neg) ∧ w'.cell? ⟨w.heap.size, 1, none⟩ = some (.slice x.a x.n x.cap)) from fun w' hB => ⟨(A.below hB).c0, (A.below hB).c1⟩)
  have HH := hide h
  have HN := hide hN
  have HNp := hide hNp
  have HRT := hide (root_facts hP)
  have HQ16 : Hid (Q (m + 16 + 20) < P 600) := hide (by
    rw [← Q_P]
    have h1 := Q_mono (show m + 16 + 20 + 1 ≤ 16 * 600 by omega)
    have h2 : Q (m + 16 + 20 + 1) = 2 * Q (m + 16 + 20) := rfl
    have := Q_pos (m + 16 + 20)
    omega)
  clear hx h hN hNp A hP
  go_enter Tryz.func164, Tryz.ntmps164
  go_wp2
  rw [← hW]
  clear hW
  go_cut [6] (fun p wx => ∃ (B : Nat) (u : Sp), p = .pointer (some ⟨B, 0, none⟩) ∧ W.heap.size ≤ B ∧ VrC wx B u ∧ SpAt wx u 600 (lpT X bb m 0).1 (lpT X bb m 0).2 ∧ u.bits = (m : Int) ∧ Below W.heap.size W wx)
  case first =>
    go_region_held3 (fun w' => w'.cell? ⟨w.heap.size, 0, none⟩ = some (.bool x.neg) ∧ w'.cell? ⟨w.heap.size, 1, none⟩ = some (.slice x.a x.n x.cap)) (exact unhide HK _ (by repeat' (first | with_reducible exact hBU4 | with_reducible exact hBU3 | with_reducible exact hBU2 | with_reducible exact hBU1 | with_reducible exact Below.refl _ _ | with_reducible refine Below.drew ?_ | with_reducible refine balloc ?_ _ | with_reducible refine Below.setCell ?_ (by first | exact Nat.le_refl _ | exact hlU1 | exact hlU2 | exact hlU3 | exact hlU4) _)))
      (first
        | (go_at_call 66; have hq := hBU3; refine (mul_int _ _ _ _ _ _ _ _ 100 ((m - bb) / 16 + 8) X (Q (m - bb)) _ ((unhide HX).below (by first | with_reducible exact hBU3 | with_reducible exact balloc hBU3 _)) (hintU3.below (by first | with_reducible exact Below.refl _ _ | with_reducible exact bl1 _ _)) (by omega) (by omega)).mono ?_; rintro r wU4 ⟨negU4, aU4, nU4, cU4, rfl, hintU4, hbU4⟩; have hCU4 : Below wU3.heap.size wU3 wU4 := (by first | with_reducible exact hbU4 | with_reducible exact bthen (bl1 _ _) hbU4); have hBU4 := bthen hBU3 hCU4; (try with_reducible have gU4 := (noc_new wU3 36).below hbU4); replace hintU1 := hintU1.below hCU4; (try replace gU1 := gU1.below hCU4); replace hintU2 := hintU2.below hCU4; (try replace gU2 := gU2.below hCU4); replace hintU3 := hintU3.below hCU4; (try replace gU3 := gU3.below hCU4); have hlU4 := hBU4.size; (try have mU1 := gU1.lt); (try have eU1 := Nat.ne_of_lt mU1); (try have eU1' := Nat.ne_of_gt mU1); (try obtain ⟨zU10, zU11, zU12, zU13, zU14, zU15⟩ := gU1); (try have mU2 := gU2.lt); (try have eU2 := Nat.ne_of_lt mU2); (try have eU2' := Nat.ne_of_gt mU2); (try obtain ⟨zU20, zU21, zU22, zU23, zU24, zU25⟩ := gU2); (try have mU3 := gU3.lt); (try have eU3 := Nat.ne_of_lt mU3); (try have eU3' := Nat.ne_of_gt mU3); (try obtain ⟨zU30, zU31, zU32, zU33, zU34, zU35⟩ := gU3); (try have mU4 := gU4.lt); (try have eU4 := Nat.ne_of_lt mU4); (try have eU4' := Nat.ne_of_gt mU4); (try obtain ⟨zU40, zU41, zU42, zU43, zU44, zU45⟩ := gU4))
        | (go_at_call 104; have hq := hBU2; refine (power2_z (e := m - bb) _ (unhide HE) _ (by omega)).mono ?_; rintro r wU3 ⟨negU3, aU3, nU3, cU3, rfl, hintU3, hbU3⟩; have hCU3 : Below wU2.heap.size wU2 wU3 := (by first | with_reducible exact hbU3 | with_reducible exact bthen (bl1 _ _) hbU3); have hBU3 := bthen hBU2 hCU3; (try with_reducible have gU3 := (noc_new wU2 36).below hbU3); replace hintU1 := hintU1.below hCU3; (try replace gU1 := gU1.below hCU3); replace hintU2 := hintU2.below hCU3; (try replace gU2 := gU2.below hCU3); have hlU3 := hBU3.size)
        | (go_at_call 66; have hq := hBU1; refine (mul_int _ _ _ _ _ _ _ _ 100 ((m - bb) / 16 + 8) X (Q (m - bb)) _ ((unhide HX).below (by first | with_reducible exact hBU1 | with_reducible exact balloc hBU1 _)) (hintU1.below (by first | with_reducible exact Below.refl _ _ | with_reducible exact bl1 _ _)) (by omega) (by omega)).mono ?_; rintro r wU2 ⟨negU2, aU2, nU2, cU2, rfl, hintU2, hbU2⟩; have hCU2 : Below wU1.heap.size wU1 wU2 := (by first | with_reducible exact hbU2 | with_reducible exact bthen (bl1 _ _) hbU2); have hBU2 := bthen hBU1 hCU2; (try with_reducible have gU2 := (noc_new wU1 36).below hbU2); replace hintU1 := hintU1.below hCU2; (try replace gU1 := gU1.below hCU2); have hlU2 := hBU2.size)
        | (go_at_call 104; refine (power2_z (e := m - bb) _ (unhide HE) _ (by omega)).mono ?_; rintro r wU1 ⟨negU1, aU1, nU1, cU1, rfl, hintU1, hbU1⟩; have hBU1 : Below W.heap.size W wU1 := (by first | with_reducible exact bthen (Below.refl _ _).drew hbU1 | with_reducible exact bthen (bl1 _ _).drew hbU1); (try with_reducible have gU1 := ((noc_new W 36).below (Below.refl _ _).drew).below hbU1); have hlU1 := hBU1.size))
    all_goals
      have hfinU : SpAt wU4 ⟨negU2, aU2, nU2, cU2, negU4, aU4, nU4, cU4, 4 * (bb : Int) + 120⟩ 600 (lpT X bb m 0).1 (lpT X bb m 0).2 := ⟨hintU2.mono (by omega), hintU4.mono (by omega)⟩
      go_wp2_with fail
      go_meet
      refine ⟨_, ⟨negU2, aU2, nU2, cU2, negU4, aU4, nU4, cU4, 4 * (bb : Int) + 120⟩, rfl, ?_, ⟨⟨?_, ?_, ?_, ?_, ?_⟩, ?_⟩, ?_, (unhide HM), ?_⟩
      · first | exact Nat.le_refl _ | exact hlU1 | exact hlU2 | exact hlU3 | exact hlU4
      · simp [go_sem, *]
      · simp [go_sem, *]
      · simp [go_sem, *]
      · simp [go_sem, *]
      · simp [go_sem, *]
      · intro o; simp [go_sem, *]
      · first | with_reducible exact SpAt.put5 hfinU zU40 zU41 zU42 zU43 zU44 _ _ _ _ _ | with_reducible exact SpAt.put5 hfinU zU30 zU31 zU32 zU33 zU34 _ _ _ _ _ | with_reducible exact SpAt.put5 hfinU zU20 zU21 zU22 zU23 zU24 _ _ _ _ _ | with_reducible exact SpAt.put5 hfinU zU10 zU11 zU12 zU13 zU14 _ _ _ _ _ | with_reducible exact hfinU.below (bl1 _ _)
      · repeat' (first | with_reducible exact hBU4 | with_reducible exact hBU3 | with_reducible exact hBU2 | with_reducible exact hBU1 | with_reducible exact Below.refl _ _ | with_reducible refine Below.drew ?_ | with_reducible refine balloc ?_ _ | with_reducible refine Below.setCell ?_ (by first | exact Nat.le_refl _ | exact hlU1 | exact hlU2 | exact hlU3 | exact hlU4) _)
  case rest =>
  obtain ⟨BU, xU, rfl, hHU, XU, hpU, hxbU, hblU⟩ := hcut
  replace R := R.below hblU
  replace hBW := bthen hBW hblU
  obtain ⟨x0, x1⟩ := unhide HK _ hblU
  have lA : w.heap.size < wc.heap.size := by have := hblU.size; omega
  have HX2 := hide ((unhide HX).below hblU)
  have lR2 := R.lt
  have nU1 : w.heap.size + 1 < BU := by omega
  have HXB := hide hxbU
  have HXP := hide hpU
  clear hxbU hpU HK HX hblU hHU lR
  go_wp2_with fail
  refine (mul_int _ _ _ _ _ _ _ _ 100 100 X X _ (unhide HX2) (unhide HX2) (by omega) (by omega)).mono ?_
  rintro r w3 ⟨neg3, a3, n3, c3, rfl, hint3, hb3⟩
  replace R := R.below hb3
  replace hBW := bthen hBW hb3
  replace XU := XU.below hb3
  replace HXP := hide ((unhide HXP).below hb3)
  clear x0 x1 lA hb3 HX2 lR2
  have lR3 := R.lt
  have lU3 := XU.lt
  obtain ⟨V3, hV3⟩ : ∃ V, V = w3.alloc (.cells #[.bool neg3, .slice a3 n3 c3] 26) := ⟨_, rfl⟩
  have bV3 : Below w3.heap.size w3 V3 := by rw [hV3]; exact bl1 _ _
  have Q3 : NmC V3 w3.heap.size ⟨neg3, a3, n3, c3⟩ := by rw [hV3]; exact nmc_new w3 ⟨neg3, a3, n3, c3⟩ _
  have HQ3 := hide (hint3.below bV3)
  have lQ : w.heap.size + 1 < w3.heap.size := lR3
  have nQU : BU < w3.heap.size := lU3
  replace R := R.below bV3
  replace hBW := bthen hBW bV3
  replace XU := XU.below bV3
  replace HXP := hide ((unhide HXP).below bV3)
  clear hint3 bV3 lR3 lU3
  go_wp2_with fail
  rw [← hV3]
  clear hV3
  go_cut [8, 9] (fun p q wx => TwoS V3 wx xU xU p q)
  case first =>
    have lU := XU.lt
    obtain ⟨⟨x0, x1, x2, x3, x4⟩, x5⟩ := XU
    go_region
    all_goals
      go_wp2_with fail
      go_meet
      first
        | with_reducible exact twoS_a _ _ _ _
        | with_reducible exact twoS_b _ _ _ _
  case rest =>
  obtain ⟨B8, B9, rfl, rfl, l8, l9, n89, Y8, Y9, hB⟩ := hcut
  have lQ3 := Q3.lt
  have st0 : LeSt w wc w3.heap.size B8 B9 m 600 200 ⟨neg3, a3, n3, c3⟩ xU xU X (lpT X bb m) (lsT X bb m) 0 := ⟨Y8, Y9, Q3.below hB, (unhide HXP).below hB, (unhide HXP).below hB, (unhide HQ3).below hB, unhide HXB, unhide HXB, R.below hB, bthen hBW hB, lQ, by omega, by omega, by omega, by omega, n89⟩
  obtain ⟨B7, hB7⟩ : ∃ B, B = w3.heap.size := ⟨_, rfl⟩
  rw [← hB7] at st0
  rw [← hB7]
  clear Y8 Y9 Q3 hB R hBW HXP HQ3 HXB XU l8 l9 lQ nQU lQ3 hB7 nU1
  have HFIT : Hid (∀ j, -P 600 < (lpT X bb m j).1 ∧ (lpT X bb m j).2 < P 600) := hide (fun j => by
    have a := lpT_le (unhide HH) j
    have u := lo_up (unhide HH) j
    have e : Q (loE bb m) < P 600 := by
      rw [← Q_P]
      have h1 := Q_mono (show loE bb m + 1 ≤ 16 * 600 by unfold loE; omega)
      have h2 : Q (loE bb m + 1) = 2 * Q (loE bb m) := rfl
      have := Q_pos (loE bb m)
      omega
    have := Q_pos (loE bb m)
    exact ⟨by omega, by omega⟩)
  have HFITS : Hid (∀ j, j ≤ N → -P 600 < (lsT X bb m j).1 ∧ (lsT X bb m j).2 < P 600) := hide (fun j hj => by
    obtain ⟨g1, g2, g3, g4⟩ := ls_abs (unhide HH) j
    have q := Q_pos (loE bb m)
    have e : Q (loE bb m) * 1048576 < P 600 := by
      rw [← Q_P]
      have h1 := Q_mono (show loE bb m + 21 ≤ 16 * 600 by unfold loE; omega)
      have h2 : Q (loE bb m + 21) = Q (loE bb m) * Q 21 := Q_add _ 21
      have h3 : Q 21 = 2097152 := rfl
      rw [h2, h3] at h1
      omega
    have := Int.mul_le_mul_of_nonneg_right (show (j : Int) + 1 ≤ 1048576 by omega) (show 0 ≤ Q (loE bb m) by omega)
    exact ⟨by omega, by omega⟩)
  have hN1 : 1 ≤ N := by have := (unhide HN).1; omega
  go_wp2_with fail
  go_loopw [10] (fun nn wr => ∃ (i : Nat) (U Sm : Sp), nn = .int .i64 ((i : Int) + 1) ∧ i < N ∧ LeSt w wr B7 B8 B9 m 600 200 ⟨neg3, a3, n3, c3⟩ U Sm X (lpT X bb m) (lsT X bb m) i) (fun nn _ => N + 1 - (intOf nn).toNat)
  case atStart => exact ⟨0, xU, xU, rfl, hN1, st0⟩
  case round =>
    obtain ⟨i, U, Sm, rfl, hi, st⟩ := hrel
    clear st0
    have hlim : (i : Int) + 1 < 40 * (bb : Int) + 400 := by omega
    have lY := st.y.lt
    have lQ := st.qc.lt
    obtain ⟨⟨y0, y1, y2, y3, y4⟩, y5⟩ := st.y
    obtain ⟨z0, z1⟩ := st.qc
    go_wp2_with fail
    refine (refScaled_z _ _ U ⟨neg3, a3, n3, c3⟩ 600 200 (2 * bb) m (by omega) (lpT X bb m i) (X * X) st.yp st.qp (lpT_le (unhide HH) i).2 (Int.mul_nonneg (unhide HH).x0 (unhide HH).x0) (by omega) (by omega) (by omega) st.yb).mono ?_
    rintro r w1 ⟨v1, rfl, hvb1, hvp1, hb1⟩
    replace st := st.below hb1
    have HV1 := hide hvb1
    clear hb1 hvb1 y0 y1 y2 y3 y4 y5 z0 z1 lY lQ
    go_wp2_with fail
    refine (numOf_int 1 _ (by decide) (by decide)).mono ?_
    rintro r w2 ⟨neg2, a2, n2, c2, rfl, hint2, hb2⟩
    replace st := st.below hb2
    replace hvp1 := hvp1.below hb2
    clear hb2
    go_wp2_with fail
    refine (numOf_int ((i : Int) + 1) _ (by omega) (by omega)).mono ?_
    rintro r w4 ⟨neg4, a4, n4, c4, rfl, hint4, hb4⟩
    replace st := st.below hb4
    replace hvp1 := hvp1.below hb4
    replace hint2 := hint2.below hb4
    clear hb4
    go_wp2_with fail
    refine (refBy _ v1 ⟨neg2, a2, n2, c2⟩ ⟨neg4, a4, n4, c4⟩ _ _ _ m _ 1 ((i : Int) + 1) hvp1 hint2 hint4 (by omega) (by omega) (by omega) (by omega) (unhide HV1)).mono ?_
    rintro r w5 ⟨v5, rfl, hvb5, hvp5, hb5⟩
    have hq2 := Q_pos (2 * bb)
    rw [byI_nonneg (scaleI_le (lpT_le (unhide HH) i).2 (by omega) (Int.mul_nonneg (unhide HH).x0 (unhide HH).x0)) (by omega)] at hvp5
    have e5 : scaleI (scaleI (lpT X bb m i) (X * X) (Q (2 * bb))) 1 ((i : Int) + 1) = lpT X bb m (i + 1) := rfl
    rw [e5] at hvp5
    replace hvp5 := hvp5.fits (K := 600) (lpT_le (unhide HH) _).2 (unhide HFIT _).1 (unhide HFIT _).2
    replace st := st.below hb5
    have HV5 := hide hvb5
    clear hb5 hvb5 hvp1 hint2 hint4 e5 hq2
    obtain ⟨V5, hV5⟩ : ∃ V, V = put5w w5 B8 v5 := ⟨_, rfl⟩
    have st5 : LeSt w V5 B7 B8 B9 m 600 200 ⟨neg3, a3, n3, c3⟩ v5 Sm X (fun _ => lpT X bb m (i + 1)) (fun _ => lsT X bb m i) 0 := by
      rw [hV5]
      exact ⟨st.y.put v5, st.s.off (Ne.symm st.n89) v5, st.qc.offP st.n78 v5, hvp5.put st.y.c v5, st.sp.put st.y.c v5, st.qp.put st.y.c v5, unhide HV5, st.sb, st.no.off (by have := st.l8; omega) v5, below_put st.be (by have := st.l8; omega) v5, st.l7, st.l8, st.l9, st.n78, st.n79, st.n89⟩
    have lY := st.y.lt
    obtain ⟨⟨y0, y1, y2, y3, y4⟩, y5⟩ := st.y
    clear st hvp5
    unfold put5w at hV5
    go_wp2_with fail
    rw [← hV5]
    clear hV5 y0 y1 y2 y3 y4 y5 lY
    have E2 := hide (show IntKind.i64.wrap (2 * ((i : Int) + 1)) = 2 * ((i : Int) + 1) from i64_id _ (by omega) (by omega))
    have E3 := hide (show IntKind.i64.wrap (2 * ((i : Int) + 1) + 1) = 2 * ((i : Int) + 1) + 1 from i64_id _ (by omega) (by omega))
    have HK9 := hide (show ∀ w', Below V5.heap.size V5 w' → (w'.cell? ⟨B8, 0, none⟩ = some (.bool v5.ln) ∧ w'.cell? ⟨B8, 1, none⟩ = some (.slice v5.la v5.lN v5.lc) ∧ w'.cell? ⟨B8, 2, none⟩ = some (.bool v5.hn) ∧ w'.cell? ⟨B8, 3, none⟩ = some (.slice v5.ha v5.hN v5.hc) ∧ w'.cell? ⟨B8, 4, none⟩ = some (.int .i64 v5.bits)) from fun w' hB => ⟨(st5.y.below hB).c.c0, (st5.y.below hB).c.c1, (st5.y.below hB).c.c2, (st5.y.below hB).c.c3, (st5.y.below hB).c.c4⟩)
    have ST5 := hide st5
    clear st5
    go_cut [11] (fun p wx => ∃ (B : Nat) (u : Sp), p = .pointer (some ⟨B, 0, none⟩) ∧ V5.heap.size ≤ B ∧ VrC wx B u ∧ SpAt wx u 613 (byI (lpT X bb m (i + 1)) 1 (2 * ((i : Int) + 1) + 1)).1 (byI (lpT X bb m (i + 1)) 1 (2 * ((i : Int) + 1) + 1)).2 ∧ u.bits = (m : Int) ∧ Below V5.heap.size V5 wx)
    case first =>
      go_region_held3 (fun w' => w'.cell? ⟨B8, 0, none⟩ = some (.bool v5.ln) ∧ w'.cell? ⟨B8, 1, none⟩ = some (.slice v5.la v5.lN v5.lc) ∧ w'.cell? ⟨B8, 2, none⟩ = some (.bool v5.hn) ∧ w'.cell? ⟨B8, 3, none⟩ = some (.slice v5.ha v5.hN v5.hc) ∧ w'.cell? ⟨B8, 4, none⟩ = some (.int .i64 v5.bits)) (exact unhide HK9 _ (by repeat' (first | with_reducible exact hBT3 | with_reducible exact hBT2 | with_reducible exact hBT1 | with_reducible exact Below.refl _ _ | with_reducible refine Below.drew ?_ | with_reducible refine balloc ?_ _ | with_reducible refine Below.setCell ?_ (by first | exact Nat.le_refl _ | exact hlT1 | exact hlT2 | exact hlT3) _)))
        (first
          | (go_at_call 56; have hq := hBT2; refine (refBy _ v5 ⟨negT1, aT1, nT1, cT1⟩ ⟨negT2, aT2, nT2, cT2⟩ 600 4 4 m (lpT X bb m (i + 1)) 1 (2 * ((i : Int) + 1) + 1) ((unhide ST5).yp.below (by first | with_reducible exact hBT2 | with_reducible exact balloc hBT2 _)) (hintT1.below (by first | with_reducible exact Below.refl _ _ | with_reducible exact bl1 _ _)) (hintT2.below (by first | with_reducible exact Below.refl _ _ | with_reducible exact bl1 _ _)) (by omega) (by omega) (by omega) (by omega) (unhide ST5).yb).mono ?_; rintro r wT3 ⟨vT3, rfl, hvbT3, hintT3, hbT3⟩; have HVBT3 := hide hvbT3; clear hvbT3; have hCT3 : Below wT2.heap.size wT2 wT3 := (by first | with_reducible exact hbT3 | with_reducible exact bthen (bl1 _ _) hbT3); have hBT3 := bthen hBT2 hCT3; (try with_reducible have gT3 := (noc_new wT2 36).below hbT3); replace hintT1 := hintT1.below hCT3; (try replace gT1 := gT1.below hCT3); replace hintT2 := hintT2.below hCT3; (try replace gT2 := gT2.below hCT3); have hlT3 := hBT3.size; (try have mT1 := gT1.lt); (try have eT1 := Nat.ne_of_lt mT1); (try have eT1' := Nat.ne_of_gt mT1); (try obtain ⟨zT10, zT11, zT12, zT13, zT14, zT15⟩ := gT1); (try have mT2 := gT2.lt); (try have eT2 := Nat.ne_of_lt mT2); (try have eT2' := Nat.ne_of_gt mT2); (try obtain ⟨zT20, zT21, zT22, zT23, zT24, zT25⟩ := gT2); (try have mT3 := gT3.lt); (try have eT3 := Nat.ne_of_lt mT3); (try have eT3' := Nat.ne_of_gt mT3); (try obtain ⟨zT30, zT31, zT32, zT33, zT34, zT35⟩ := gT3))
          | (go_at_call 43; have hq := hBT1; rw [unhide E2, unhide E3]; refine (numOf_int (2 * ((i : Int) + 1) + 1) _ (by omega) (by omega)).mono ?_; rintro r wT2 ⟨negT2, aT2, nT2, cT2, rfl, hintT2, hbT2⟩; have hCT2 : Below wT1.heap.size wT1 wT2 := (by first | with_reducible exact hbT2 | with_reducible exact bthen (bl1 _ _) hbT2); have hBT2 := bthen hBT1 hCT2; (try with_reducible have gT2 := (noc_new wT1 36).below hbT2); replace hintT1 := hintT1.below hCT2; (try replace gT1 := gT1.below hCT2); have hlT2 := hBT2.size)
          | (go_at_call 43; refine (numOf_int 1 _ (by decide) (by decide)).mono ?_; rintro r wT1 ⟨negT1, aT1, nT1, cT1, rfl, hintT1, hbT1⟩; have hBT1 : Below V5.heap.size V5 wT1 := (by first | with_reducible exact bthen (Below.refl _ _).drew hbT1 | with_reducible exact bthen (bl1 _ _).drew hbT1); (try with_reducible have gT1 := ((noc_new V5 36).below (Below.refl _ _).drew).below hbT1); have hlT1 := hBT1.size))
      all_goals
        have hfinT : SpAt wT3 vT3 613 (byI (lpT X bb m (i + 1)) 1 (2 * ((i : Int) + 1) + 1)).1 (byI (lpT X bb m (i + 1)) 1 (2 * ((i : Int) + 1) + 1)).2 := hintT3
        go_wp2_with fail
        go_meet
        refine ⟨_, vT3, rfl, ?_, ⟨⟨?_, ?_, ?_, ?_, ?_⟩, ?_⟩, ?_, (unhide HVBT3), ?_⟩
        · first | exact Nat.le_refl _ | exact hlT1 | exact hlT2 | exact hlT3
        · simp [go_sem, *]
        · simp [go_sem, *]
        · simp [go_sem, *]
        · simp [go_sem, *]
        · simp [go_sem, *]
        · intro o; simp [go_sem, *]
        · first | with_reducible exact SpAt.put5 hfinT zT30 zT31 zT32 zT33 zT34 _ _ _ _ _ | with_reducible exact SpAt.put5 hfinT zT20 zT21 zT22 zT23 zT24 _ _ _ _ _ | with_reducible exact SpAt.put5 hfinT zT10 zT11 zT12 zT13 zT14 _ _ _ _ _ | with_reducible exact hfinT.below (bl1 _ _)
        · repeat' (first | with_reducible exact hBT3 | with_reducible exact hBT2 | with_reducible exact hBT1 | with_reducible exact Below.refl _ _ | with_reducible refine Below.drew ?_ | with_reducible refine balloc ?_ _ | with_reducible refine Below.setCell ?_ (by first | exact Nat.le_refl _ | exact hlT1 | exact hlT2 | exact hlT3) _)
    case rest =>
    obtain ⟨BT, xT, rfl, hHT, XT, hpT, hxbT, hblT⟩ := hcut
    have st6 := (unhide ST5).below hblT
    have hlt : Below V5.heap.size V5 wc := hblT
    have e6 : byI (lpT X bb m (i + 1)) 1 (2 * ((i : Int) + 1) + 1) = ltT X bb m (i + 1) := byI_nonneg (lpT_le (unhide HH) _).2 (by omega)
    rw [e6] at hpT
    have n8T : B8 ≠ BT := by have := (unhide ST5).y.lt; omega
    have n9T : B9 ≠ BT := by have := (unhide ST5).s.lt; omega
    have HXT := hide hpT
    have HBT := hide hxbT
    clear hpT hxbT HK9 ST5 hblT e6 E2 E3 hHT hlt
    have lT := XT.lt
    have lS := st6.s.lt
    by_cases hpar : (i + 1) % 2 = 1
    · have htm : ((i : Int) + 1).tmod 2 = 1 := by rw [Int.tmod_eq_emod_of_nonneg (by omega)]; omega
      have eG : subI (lsT X bb m i) (ltT X bb m (i + 1)) = lsT X bb m (i + 1) := by
        show _ = (if (i + 1) % 2 = 1 then subI (lsT X bb m i) (ltT X bb m (i + 1)) else addI (lsT X bb m i) (ltT X bb m (i + 1)))
        rw [if_pos hpar]
      have HPAR := hide hpar
      clear hpar
      have y0 := st6.s.c.c0
      have y1 := st6.s.c.c1
      have y2 := st6.s.c.c2
      have y3 := st6.s.c.c3
      have y4 := st6.s.c.c4
      have z0 := XT.c.c0
      have z1 := XT.c.c1
      have z2 := XT.c.c2
      have z3 := XT.c.c3
      have z4 := XT.c.c4
      go_wp2_with fail
      clear y0 y1 y2 y3 y4 z0 z1 z2 z3 z4
      refine (refLess_ivE _ Sm xT 613 m (lsT X bb m i) (ltT X bb m (i + 1)) (st6.sp.mono (by omega)) (unhide HXT) (by omega) st6.sb).mono ?_
      rintro r w7 ⟨v7, rfl, hvb7, hvp7, hb7⟩
      rw [eG] at hvp7
      replace hvp7 := hvp7.fits (K := 600) (lsT_le (unhide HH) _) (unhide HFITS _ (by omega)).1 (unhide HFITS _ (by omega)).2
      have HV7 := hide hvb7
      replace st6 := st6.below hb7
      clear hvb7 hb7 XT HXT HBT lT lS htm eG n8T n9T
      obtain ⟨V7, hV7⟩ : ∃ V, V = put5w w7 B9 v7 := ⟨_, rfl⟩
      have stn : LeSt w V7 B7 B8 B9 m 600 200 ⟨neg3, a3, n3, c3⟩ v5 v7 X (lpT X bb m) (lsT X bb m) (i + 1) := by
        rw [hV7]
        exact ⟨st6.y.off st6.n89 v7, st6.s.put v7, st6.qc.offP st6.n79 v7, st6.yp.put st6.s.c v7, hvp7.put st6.s.c v7, st6.qp.put st6.s.c v7, st6.yb, unhide HV7, st6.no.off (by have := st6.l9; omega) v7, below_put st6.be (by have := st6.l9; omega) v7, st6.l7, st6.l8, st6.l9, st6.n78, st6.n79, st6.n89⟩
      have lY := st6.y.lt
      have lS := st6.s.lt
      have n89 := st6.n89
      obtain ⟨⟨y0, y1, y2, y3, y4⟩, y5⟩ := st6.y
      obtain ⟨⟨z0, z1, z2, z3, z4⟩, z5⟩ := st6.s
      clear st6 hvp7
      unfold put5w at hV7
      go_wp2_with fail
      rw [← hV7]
      clear hV7 y0 y1 y2 y3 y4 y5 z0 z1 z2 z3 z4 z5 lY lS
      refine (refSmall _ v5 600 1 _ _ stn.yp (by omega) (by omega)).mono ?_
      rintro r w8 ⟨rfl, hb8⟩
      replace stn := stn.below hb8
      clear hb8
      have esm : smallB (lpT X bb m (i + 1)).1 (lpT X bb m (i + 1)).2 1 = decide ((lpT X bb m (i + 1)).2 ≤ 1) := by
        have a := lpT_le (unhide HH) (i + 1)
        rw [small_reach]
        congr 1
        have : reachI ((lpT X bb m (i + 1)).1, (lpT X bb m (i + 1)).2) = (lpT X bb m (i + 1)).2 := by unfold reachI maxZ; simp only []; split <;> omega
        rw [this]
      rw [esm]
      clear esm
      by_cases hin : i + 1 < N
      · by_cases hr : (lpT X bb m (i + 1)).2 ≤ 1
        · have h3 : ¬ (i : Int) + 1 > 2 * (bb : Int) := by
            intro h3
            have := (unhide HN).2.2 (i + 1) (by omega) hin
            omega
          rw [decide_eq_true hr]
          clear hr
          go_wp2_with fail
          go_roundw
          case rel => exact ⟨i + 1, v5, v7, by go_num, hin, stn⟩
          case measure => simp [intOf]; omega
        · rw [decide_eq_false hr]
          clear hr
          go_wp2_with fail
          go_roundw
          case rel => exact ⟨i + 1, v5, v7, by go_num, hin, stn⟩
          case measure => simp [intOf]; omega
      · have hie : i + 1 = N := by omega
        have hr : (lpT X bb m (i + 1)).2 ≤ 1 := by rw [hie]; exact (unhide HN).2.1
        have h3 : (i : Int) + 1 > 2 * (bb : Int) := by have := (unhide HN).1; omega
        rw [decide_eq_true hr]
        have HIE := hide hie
        clear hr hie
        have HK14 := hide (show ∀ w', Below w8.heap.size w8 w' → (w'.cell? ⟨B9, 0, none⟩ = some (.bool v7.ln) ∧ w'.cell? ⟨B9, 1, none⟩ = some (.slice v7.la v7.lN v7.lc) ∧ w'.cell? ⟨B9, 2, none⟩ = some (.bool v7.hn) ∧ w'.cell? ⟨B9, 3, none⟩ = some (.slice v7.ha v7.hN v7.hc) ∧ w'.cell? ⟨B9, 4, none⟩ = some (.int .i64 v7.bits)) from fun w' hB => ⟨(stn.s.below hB).c.c0, (stn.s.below hB).c.c1, (stn.s.below hB).c.c2, (stn.s.below hB).c.c3, (stn.s.below hB).c.c4⟩)
        have hD0 : Below w8.heap.size w8 w8.drew := (Below.refl _ _).drew
        have HSP := hide (show SpAt w8 v7 600 (lsT X bb m N).1 (lsT X bb m N).2 by rw [← unhide HIE]; exact stn.sp)
        have HSB := hide stn.sb
        have R8 := stn.no
        have hBE := stn.be
        have l9 := stn.l9
        have lS8 := stn.s.lt
        have lR8 := R8.lt
        clear stn
        go_wp2_with fail
        obtain ⟨x0, x1, x2, x3, x4⟩ := unhide HK14 _ (Below.refl _ _)
        have nR9 : w.heap.size + 1 ≠ B9 := by omega
        go_region_held3 (fun w' => w'.cell? ⟨B9, 0, none⟩ = some (.bool v7.ln) ∧ w'.cell? ⟨B9, 1, none⟩ = some (.slice v7.la v7.lN v7.lc) ∧ w'.cell? ⟨B9, 2, none⟩ = some (.bool v7.hn) ∧ w'.cell? ⟨B9, 3, none⟩ = some (.slice v7.ha v7.hN v7.hc) ∧ w'.cell? ⟨B9, 4, none⟩ = some (.int .i64 v7.bits)) (first | exact unhide HK14 _ (by first | with_reducible exact hD0 | with_reducible exact hD7 | with_reducible exact hD6 | with_reducible exact hD5 | with_reducible exact hD4 | with_reducible exact hD3 | with_reducible exact hD2 | with_reducible exact hD1) | go_keep)
          (first
            | (go_at_call 90; have hq := hD6; refine (refTurn_int _ f6 _ bb _ _ hfp6 (by omega) (by have := unhide F6; omega) (by have := unhide F6; omega) (by omega) (by omega)).mono ?_; rintro r g7 ⟨f7, rfl, hfb7, hfp7, hg7⟩; have F7 := hide hfb7; clear hfb7; have hD7 := bthen hD6 hg7; obtain ⟨q0, q1, q2, q3, q4, q5⟩ := R8.below hD7; obtain ⟨i0, i1, i2, i3, i4⟩ := unhide HK14 _ hD7)
            | (go_at_call 91; have hq := hD5; refine (refOver_any _ f3 f5 64000 m _ _ _ _ ((hfp3.below (bthen hg4 hg5)).mono (by omega)) (hfp5.mono (by omega)) (by omega) (by omega) (unhide F3) (unhide HRT).2.2.1 (unhide HRT).2.2.2).mono ?_; rintro r g6 ⟨f6, rfl, hfb6, hfp6, hg6⟩; have F6 := hide hfb6; clear hfb6; have hD6 := bthen hD5 hg6)
            | (go_at_call 53; have hq := hD4; refine (refRoots_int _ f4 63110 m _ _ hfp4 (by omega) (by omega) (unhide F4) (unhide HRT).1 (unhide HRT).2.1).mono ?_; rintro r g5 ⟨f5, rfl, hfb5, hfp5, hg5⟩; clear hfb5; have hD5 := bthen hD4 hg5)
            | (go_at_call 191; have hq := hD3; refine (refPi_z _ _ m (m + 16) Np 600 (unhide HM) rfl (by omega) (unhide HNp) hNpb (unhide HQ16) (by omega) (by omega)).mono ?_; rintro r g4 ⟨f4, rfl, hfb4, hfp4, hg4⟩; have F4 := hide hfb4; clear hfb4; have hD4 := bthen hD3 hg4)
            | (go_at_call 57; have hq := hD2; refine (refPlus_iv _ f1 f2 601 m (addI (lsT X bb m N) (-2, 2)) (addI (lsT X bb m N) (-2, 2)) (hfp1.below hg2) hfp2 (by omega) (unhide F1)).mono ?_; rintro r g3 ⟨f3, rfl, hfb3, hfp3, hg3⟩; have F3 := hide hfb3; clear hfb3; have hD3 := bthen hD2 hg3)
            | (go_at_call 123; have hq := hD1; refine (refTail _ v7 600 2 _ _ ((unhide HSP).below hD1) (by omega) (by omega) (by omega) (by omega)).mono ?_; rintro r g2 ⟨f2, rfl, hfb2, hfp2, hg2⟩; clear hfb2; have hD2 := bthen hD1 hg2)
            | (go_at_call 123; refine (refTail _ v7 600 2 _ _ ((unhide HSP).below hD0) (by omega) (by omega) (by omega) (by omega)).mono ?_; rintro r g1 ⟨f1, rfl, hfb1, hfp1, hg1⟩; have F1 := hide (hfb1.trans (unhide HSB)); clear hfb1; have hD1 := bthen hD0 hg1))
        all_goals
          go_wp2_with fail
          have eT : f6.bits - (bb : Int) = ((m - bb : Nat) : Int) := by have := unhide F6; omega
          rw [eT, downZ_nat, downZ_nat] at hfp7
          refine bodyPost_ret (v := .agg #[.bool f7.ln, .slice f7.la f7.lN f7.lc, .bool f7.hn, .slice f7.ha f7.hN f7.hc, .int .i64 f7.bits]) (by simp [results, Tryz.results164, go_sem, q0, q1, q2, q3, q4]) rfl ⟨f7, rfl, unhide F7, ?_, ?_⟩
          · exact SpAt.put5 (hfp7.mono (by omega)) q0 q1 q2 q3 q4 _ _ _ _ _
          · exact set5 (bthen hBE hD7) (Nat.le_succ _) _ _ _ _ _
    · have htm : ((i : Int) + 1).tmod 2 = 0 := by rw [Int.tmod_eq_emod_of_nonneg (by omega)]; omega
      have eG : addI (lsT X bb m i) (ltT X bb m (i + 1)) = lsT X bb m (i + 1) := by
        show _ = (if (i + 1) % 2 = 1 then subI (lsT X bb m i) (ltT X bb m (i + 1)) else addI (lsT X bb m i) (ltT X bb m (i + 1)))
        rw [if_neg hpar]
      have HPAR := hide hpar
      clear hpar
      have y0 := st6.s.c.c0
      have y1 := st6.s.c.c1
      have y2 := st6.s.c.c2
      have y3 := st6.s.c.c3
      have y4 := st6.s.c.c4
      have z0 := XT.c.c0
      have z1 := XT.c.c1
      have z2 := XT.c.c2
      have z3 := XT.c.c3
      have z4 := XT.c.c4
      go_wp2_with fail
      clear y0 y1 y2 y3 y4 z0 z1 z2 z3 z4
      refine (refPlus_iv _ Sm xT 613 m (lsT X bb m i) (ltT X bb m (i + 1)) (st6.sp.mono (by omega)) (unhide HXT) (by omega) st6.sb).mono ?_
      rintro r w7 ⟨v7, rfl, hvb7, hvp7, hb7⟩
      rw [eG] at hvp7
      replace hvp7 := hvp7.fits (K := 600) (lsT_le (unhide HH) _) (unhide HFITS _ (by omega)).1 (unhide HFITS _ (by omega)).2
      have HV7 := hide hvb7
      replace st6 := st6.below hb7
      clear hvb7 hb7 XT HXT HBT lT lS htm eG n8T n9T
      obtain ⟨V7, hV7⟩ : ∃ V, V = put5w w7 B9 v7 := ⟨_, rfl⟩
      have stn : LeSt w V7 B7 B8 B9 m 600 200 ⟨neg3, a3, n3, c3⟩ v5 v7 X (lpT X bb m) (lsT X bb m) (i + 1) := by
        rw [hV7]
        exact ⟨st6.y.off st6.n89 v7, st6.s.put v7, st6.qc.offP st6.n79 v7, st6.yp.put st6.s.c v7, hvp7.put st6.s.c v7, st6.qp.put st6.s.c v7, st6.yb, unhide HV7, st6.no.off (by have := st6.l9; omega) v7, below_put st6.be (by have := st6.l9; omega) v7, st6.l7, st6.l8, st6.l9, st6.n78, st6.n79, st6.n89⟩
      have lY := st6.y.lt
      have lS := st6.s.lt
      have n89 := st6.n89
      obtain ⟨⟨y0, y1, y2, y3, y4⟩, y5⟩ := st6.y
      obtain ⟨⟨z0, z1, z2, z3, z4⟩, z5⟩ := st6.s
      clear st6 hvp7
      unfold put5w at hV7
      go_wp2_with fail
      rw [← hV7]
      clear hV7 y0 y1 y2 y3 y4 y5 z0 z1 z2 z3 z4 z5 lY lS
      refine (refSmall _ v5 600 1 _ _ stn.yp (by omega) (by omega)).mono ?_
      rintro r w8 ⟨rfl, hb8⟩
      replace stn := stn.below hb8
      clear hb8
      have esm : smallB (lpT X bb m (i + 1)).1 (lpT X bb m (i + 1)).2 1 = decide ((lpT X bb m (i + 1)).2 ≤ 1) := by
        have a := lpT_le (unhide HH) (i + 1)
        rw [small_reach]
        congr 1
        have : reachI ((lpT X bb m (i + 1)).1, (lpT X bb m (i + 1)).2) = (lpT X bb m (i + 1)).2 := by unfold reachI maxZ; simp only []; split <;> omega
        rw [this]
      rw [esm]
      clear esm
      by_cases hin : i + 1 < N
      · by_cases hr : (lpT X bb m (i + 1)).2 ≤ 1
        · have h3 : ¬ (i : Int) + 1 > 2 * (bb : Int) := by
            intro h3
            have := (unhide HN).2.2 (i + 1) (by omega) hin
            omega
          rw [decide_eq_true hr]
          clear hr
          go_wp2_with fail
          go_roundw
          case rel => exact ⟨i + 1, v5, v7, by go_num, hin, stn⟩
          case measure => simp [intOf]; omega
        · rw [decide_eq_false hr]
          clear hr
          go_wp2_with fail
          go_roundw
          case rel => exact ⟨i + 1, v5, v7, by go_num, hin, stn⟩
          case measure => simp [intOf]; omega
      · have hie : i + 1 = N := by omega
        have hr : (lpT X bb m (i + 1)).2 ≤ 1 := by rw [hie]; exact (unhide HN).2.1
        have h3 : (i : Int) + 1 > 2 * (bb : Int) := by have := (unhide HN).1; omega
        rw [decide_eq_true hr]
        have HIE := hide hie
        clear hr hie
        have HK14 := hide (show ∀ w', Below w8.heap.size w8 w' → (w'.cell? ⟨B9, 0, none⟩ = some (.bool v7.ln) ∧ w'.cell? ⟨B9, 1, none⟩ = some (.slice v7.la v7.lN v7.lc) ∧ w'.cell? ⟨B9, 2, none⟩ = some (.bool v7.hn) ∧ w'.cell? ⟨B9, 3, none⟩ = some (.slice v7.ha v7.hN v7.hc) ∧ w'.cell? ⟨B9, 4, none⟩ = some (.int .i64 v7.bits)) from fun w' hB => ⟨(stn.s.below hB).c.c0, (stn.s.below hB).c.c1, (stn.s.below hB).c.c2, (stn.s.below hB).c.c3, (stn.s.below hB).c.c4⟩)
        have hD0 : Below w8.heap.size w8 w8.drew := (Below.refl _ _).drew
        have HSP := hide (show SpAt w8 v7 600 (lsT X bb m N).1 (lsT X bb m N).2 by rw [← unhide HIE]; exact stn.sp)
        have HSB := hide stn.sb
        have R8 := stn.no
        have hBE := stn.be
        have l9 := stn.l9
        have lS8 := stn.s.lt
        have lR8 := R8.lt
        clear stn
        go_wp2_with fail
        obtain ⟨x0, x1, x2, x3, x4⟩ := unhide HK14 _ (Below.refl _ _)
        have nR9 : w.heap.size + 1 ≠ B9 := by omega
        go_region_held3 (fun w' => w'.cell? ⟨B9, 0, none⟩ = some (.bool v7.ln) ∧ w'.cell? ⟨B9, 1, none⟩ = some (.slice v7.la v7.lN v7.lc) ∧ w'.cell? ⟨B9, 2, none⟩ = some (.bool v7.hn) ∧ w'.cell? ⟨B9, 3, none⟩ = some (.slice v7.ha v7.hN v7.hc) ∧ w'.cell? ⟨B9, 4, none⟩ = some (.int .i64 v7.bits)) (first | exact unhide HK14 _ (by first | with_reducible exact hD0 | with_reducible exact hD7 | with_reducible exact hD6 | with_reducible exact hD5 | with_reducible exact hD4 | with_reducible exact hD3 | with_reducible exact hD2 | with_reducible exact hD1) | go_keep)
          (first
            | (go_at_call 90; have hq := hD6; refine (refTurn_int _ f6 _ bb _ _ hfp6 (by omega) (by have := unhide F6; omega) (by have := unhide F6; omega) (by omega) (by omega)).mono ?_; rintro r g7 ⟨f7, rfl, hfb7, hfp7, hg7⟩; have F7 := hide hfb7; clear hfb7; have hD7 := bthen hD6 hg7; obtain ⟨q0, q1, q2, q3, q4, q5⟩ := R8.below hD7; obtain ⟨i0, i1, i2, i3, i4⟩ := unhide HK14 _ hD7)
            | (go_at_call 91; have hq := hD5; refine (refOver_any _ f3 f5 64000 m _ _ _ _ ((hfp3.below (bthen hg4 hg5)).mono (by omega)) (hfp5.mono (by omega)) (by omega) (by omega) (unhide F3) (unhide HRT).2.2.1 (unhide HRT).2.2.2).mono ?_; rintro r g6 ⟨f6, rfl, hfb6, hfp6, hg6⟩; have F6 := hide hfb6; clear hfb6; have hD6 := bthen hD5 hg6)
            | (go_at_call 53; have hq := hD4; refine (refRoots_int _ f4 63110 m _ _ hfp4 (by omega) (by omega) (unhide F4) (unhide HRT).1 (unhide HRT).2.1).mono ?_; rintro r g5 ⟨f5, rfl, hfb5, hfp5, hg5⟩; clear hfb5; have hD5 := bthen hD4 hg5)
            | (go_at_call 191; have hq := hD3; refine (refPi_z _ _ m (m + 16) Np 600 (unhide HM) rfl (by omega) (unhide HNp) hNpb (unhide HQ16) (by omega) (by omega)).mono ?_; rintro r g4 ⟨f4, rfl, hfb4, hfp4, hg4⟩; have F4 := hide hfb4; clear hfb4; have hD4 := bthen hD3 hg4)
            | (go_at_call 57; have hq := hD2; refine (refPlus_iv _ f1 f2 601 m (addI (lsT X bb m N) (-2, 2)) (addI (lsT X bb m N) (-2, 2)) (hfp1.below hg2) hfp2 (by omega) (unhide F1)).mono ?_; rintro r g3 ⟨f3, rfl, hfb3, hfp3, hg3⟩; have F3 := hide hfb3; clear hfb3; have hD3 := bthen hD2 hg3)
            | (go_at_call 123; have hq := hD1; refine (refTail _ v7 600 2 _ _ ((unhide HSP).below hD1) (by omega) (by omega) (by omega) (by omega)).mono ?_; rintro r g2 ⟨f2, rfl, hfb2, hfp2, hg2⟩; clear hfb2; have hD2 := bthen hD1 hg2)
            | (go_at_call 123; refine (refTail _ v7 600 2 _ _ ((unhide HSP).below hD0) (by omega) (by omega) (by omega) (by omega)).mono ?_; rintro r g1 ⟨f1, rfl, hfb1, hfp1, hg1⟩; have F1 := hide (hfb1.trans (unhide HSB)); clear hfb1; have hD1 := bthen hD0 hg1))
        all_goals
          go_wp2_with fail
          have eT : f6.bits - (bb : Int) = ((m - bb : Nat) : Int) := by have := unhide F6; omega
          rw [eT, downZ_nat, downZ_nat] at hfp7
          refine bodyPost_ret (v := .agg #[.bool f7.ln, .slice f7.la f7.lN f7.lc, .bool f7.hn, .slice f7.ha f7.hN f7.hc, .int .i64 f7.bits]) (by simp [results, Tryz.results164, go_sem, q0, q1, q2, q3, q4]) rfl ⟨f7, rfl, unhide F7, ?_, ?_⟩
          · exact SpAt.put5 (hfp7.mono (by omega)) q0 q1 q2 q3 q4 _ _ _ _ _
          · exact set5 (bthen hBE hD7) (Nat.le_succ _) _ _ _ _ _
end Go.Proofs.YtgmnknmjainababGreat
