/-
  The statement of the normal law against the reference, walked.
  How a span that is handed to a statement is opened: its ends' digits, within the form's own reach; no statement of the seat is proved here.
-/
import Derived.Test.YtgmnknmjainababGreatRows
import Derived.ProofKit
import Derived.OpenShut
import Derived.SizedLaws
import Derived.ChangeOld
import Derived.Test.YtgmnknmjainababGreatK22
namespace Go.Proofs.YtgmnknmjainababGreat
set_option linter.unusedVariables false
set_option linter.unusedSimpArgs false
set_option linter.unnecessarySimpa false
open Go.RowKit
attribute [local go_sem ↓] Go.wp_at_zero Go.wp_at_succ
open Ex

theorem nor_fit {p q : Int} (hr : rok p q) {B : Nat} (hB : B ≤ 600) : -P 100 < (mulI B (ofI p q B) (rootI B (ofI 1 2 B))).1 ∧ (mulI B (ofI p q B) (rootI B (ofI 1 2 B))).2 < P 100 := by
  obtain ⟨r1, r2, r3, r4⟩ := hr
  have q0 := Q_pos B
  have a1 : Abs (ofI p q B) (1048576 * Q B) := by
    refine ofI_abs (by omega) B ?_ ?_
    · have m1 := Int.mul_le_mul_of_nonneg_right r1 (show 0 ≤ Q B by omega)
      have m2 := Int.mul_le_mul_of_nonneg_left r3 (show 0 ≤ 1048576 * Q B by omega)
      omega
    · have m1 := Int.mul_le_mul_of_nonneg_right r2 (show 0 ≤ Q B by omega)
      have m2 := Int.mul_le_mul_of_nonneg_left r3 (show 0 ≤ 1048576 * Q B by omega)
      omega
  have hl := half_lo B
  have hle := ofI_le (n := 1) (d := 2) (by decide) B
  obtain ⟨b0, b1, b2, b3⟩ := rootI_bounds (B := B) hl.1 hle
  have up := rootI_up (B := B) (a := ofI 1 2 B) (c := 1) hl.2 (by decide) (by
    show -(-(1 * Q B) / 2) ≤ 1 * 1 * Q B
    omega)
  have a2 : Abs (rootI B (ofI 1 2 B)) (2 * Q B) := ⟨by omega, by omega, by omega, by omega⟩
  have e20 : Q (B + 21) = Q B * Q 21 := Q_add B 21
  have e21 : Q 21 = 2097152 := rfl
  have m := mulI_abs (B := B) (p := 2097152 * Q B) a1 a2 (by
    have : 1048576 * Q B * (2 * Q B) = 2097152 * Q B * Q B := by grind
    omega)
  have big : 2097152 * Q B < P 100 := by
    rw [← Q_P]
    have h1 := Q_mono (show B + 21 + 1 ≤ 16 * 100 by omega)
    have h2 : Q (B + 21 + 1) = 2 * Q (B + 21) := rfl
    rw [e20, e21] at h2
    omega
  obtain ⟨m1, m2, m3, m4⟩ := m
  exact ⟨by omega, by omega⟩

set_option maxRecDepth 100000 in
set_option maxHeartbeats 8000000 in
theorem law_nor_bad (p q : Int) (bt : Int) (w : World) (hbad : ¬ (rok p q ∧ 8 ≤ bt ∧ bt ≤ 120)) :
    Calls Tryz.prog 3 #[.agg #[.int .i64 p, .int .i64 q], .int .i64 bt] w fun r w' => r = .returned (.bool true) ∧ Below w.heap.size w w' := by
  obtain ⟨W, hW⟩ : ∃ W, W = w.alloc (.cells #[.int .i64 p, .int .i64 q] 23) := ⟨_, rfl⟩
  have hBW : Below w.heap.size w W := by rw [hW]; exact bl1 _ _
  have A : RaC W w.heap.size p q := by rw [hW]; exact rac_new w p q _
  have d1 : ratE p q bt = 3 := by unfold ratE; rw [if_neg hbad]
  have HBad := hide hbad
  clear hbad
  have fA0 := A.c0
  have fA1 := A.c1
  have fAl := A.lt
  go_enter Tryz.func3, Tryz.ntmps3
  go_wp2_with fail
  rw [← hW]
  clear hW
  clear fA0 fA1 fAl
  refine (cnor_bad p q bt _ (unhide HBad)).mono ?_
  rintro r w3 ⟨s, rfl, hsb, hsp, hb3⟩
  replace A := A.below hb3
  replace hBW := bthen hBW hb3
  clear hb3
  have HPs := hide hsp
  have HBs := hide hsb
  clear hsp hsb
  obtain ⟨V3, hV3⟩ : ∃ V, V = w3.alloc (.cells #[.bool s.ln, .slice s.la s.lN s.lc, .bool s.hn, .slice s.ha s.hN s.hc, .int .i64 s.bits] 28) := ⟨_, rfl⟩
  have bV3 : Below w3.heap.size w3 V3 := by rw [hV3]; exact bl1 _ _
  have S : SpC V3 w3.heap.size s := by rw [hV3]; exact spc_new w3 s _
  have hsz : V3.heap.size = w3.heap.size + 1 := by rw [hV3]; simp
  have fA0 := A.c0
  have fA1 := A.c1
  have fAl := A.lt
  go_wp2_with fail
  rw [← hV3]
  clear hV3
  clear fA0 fA1 fAl
  replace A := A.below bV3
  replace HPs := hide ((unhide HPs).below bV3)
  replace hBW := bthen hBW bV3
  clear bV3
  refine (refReady1 bt _ _ hsz p q _ _).mono ?_
  rintro r w5 ⟨rfl, hb5⟩
  rw [d1]
  replace A := A.below hb5
  replace HPs := hide ((unhide HPs).below hb5)
  replace S := S.below hb5
  replace hBW := bthen hBW hb5
  clear hb5
  clear hsz
  go_wp2_with fail
  refine (errorBegun_any _).mono ?_
  rintro r w6 ⟨rfl, hb6⟩
  replace A := A.below hb6
  replace HPs := hide ((unhide HPs).below hb6)
  replace S := S.below hb6
  replace hBW := bthen hBW hb6
  clear hb6
  have fS0 := S.c0
  have fS1 := S.c1
  have fS2 := S.c2
  have fS3 := S.c3
  have fS4 := S.c4
  have fSl := S.lt
  go_wp2_with fail
  clear fS0 fS1 fS2 fS3 fS4 fSl
  refine (lawSure_bad _ s ⟨false, none, 0, 0, false, none, 0, 0, 0⟩ _ _ _ (unhide HPs) (unhide HBs) (by omega)).mono ?_
  rintro r w7 ⟨rfl, hb7⟩
  replace A := A.below hb7
  replace HPs := hide ((unhide HPs).below hb7)
  replace S := S.below hb7
  replace hBW := bthen hBW hb7
  clear hb7
  go_wp2_with fail
  exact bodyPost_ret (v := .bool true) (by simp [results, Tryz.results3]) rfl ⟨rfl, hBW⟩

set_option maxRecDepth 100000 in
set_option maxHeartbeats 8000000 in
theorem law_nor_ok (p q : Int) (b : Nat) (w : World) (hr : rok p q) (h5 : 8 ≤ b) (h6 : b ≤ 120) :
    Calls Tryz.prog 3 #[.agg #[.int .i64 p, .int .i64 q], .int .i64 (b : Int)] w fun r w' => r = .returned (.bool true) ∧ Below w.heap.size w w' := by
  obtain ⟨W, hW⟩ : ∃ W, W = w.alloc (.cells #[.int .i64 p, .int .i64 q] 23) := ⟨_, rfl⟩
  have hBW : Below w.heap.size w W := by rw [hW]; exact bl1 _ _
  have A : RaC W w.heap.size p q := by rw [hW]; exact rac_new w p q _
  have d1 : ratE p q (b : Int) = 0 := by unfold ratE; rw [if_pos]; exact ⟨hr, by omega, by omega⟩
  obtain ⟨R, hR⟩ := Ex.piR_ex
  obtain ⟨R2, h2⟩ := rt2_ex
  obtain ⟨R', hR'⟩ := prR_ex
  have hq : 0 < q := by have := hr.2.2.1; omega
  have fit := nor_fit hr (B := b + 16) (by omega)
  have sx := ref_sx h2 (p := p) hq (b + 16)
  have nat := nr_at h2 (p := p) hq
  obtain ⟨z, ez⟩ : ∃ z, z = mulI (b + 16) (ofI p q (b + 16)) (rootI (b + 16) (ofI 1 2 (b + 16))) := ⟨_, rfl⟩
  rw [← ez] at fit sx
  obtain ⟨a1, a2, E1, K1⟩ := ref_all hR hR' z.1 (B := b + 16) (by omega) (by omega)
  obtain ⟨c1, c2, E2, K2⟩ := ref_all hR hR' z.2 (B := b + 16) (by omega) (by omega)
  have HR := hide hr
  have HRR := hide (And.intro hR h2)
  have HF := hide fit
  have HTO := hide (fun (L H : Int) (v : NoV (nrV (erfG R (nrY p q) (nrR R2 p q)) p) b L H) => nor_tou hR nat h6 sx v.val (by have := v.le; have := v.hi; omega) (by have := v.le; have := v.lo; omega) K1 K2)
  have HE1 := hide E1
  have HE2 := hide E2
  have HEZ := hide ez
  have HW := hide (show IntKind.i64.wrap ((b : Int) + 16) = ((b + 16 : Nat) : Int) from (i64_id _ (by omega) (by omega)).trans (by omega))
  have HW2 := hide (show ((b : Int) + 16) = ((b + 16 : Nat) : Int) by omega)
  clear hR hR' h2 hr E1 E2 K1 K2 fit sx nat ez
  have fA0 := A.c0
  have fA1 := A.c1
  have fAl := A.lt
  go_enter Tryz.func3, Tryz.ntmps3
  go_wp2_with fail
  rw [← hW]
  clear hW
  clear fA0 fA1 fAl
  refine (cnor_ok R R2 (unhide HRR).1 (unhide HRR).2 p q b _ (unhide HR) h5 h6).mono ?_
  rintro r w3 ⟨L1, H1, hv, s, rfl, hxb, hxp, hxx⟩
  replace A := A.below hxx
  replace hBW := bthen hBW hxx
  clear hxx
  have HVs := hide hv
  have HBs := hide hxb
  have HPs := hide hxp
  clear hv hxb hxp
  obtain ⟨V3, hV3⟩ : ∃ V, V = w3.alloc (.cells #[.bool s.ln, .slice s.la s.lN s.lc, .bool s.hn, .slice s.ha s.hN s.hc, .int .i64 s.bits] 28) := ⟨_, rfl⟩
  have bV3 : Below w3.heap.size w3 V3 := by rw [hV3]; exact bl1 _ _
  have S : SpC V3 w3.heap.size s := by rw [hV3]; exact spc_new w3 s _
  have hsz : V3.heap.size = w3.heap.size + 1 := by rw [hV3]; simp
  have fA0 := A.c0
  have fA1 := A.c1
  have fAl := A.lt
  go_wp2_with fail
  rw [← hV3]
  clear hV3
  clear fA0 fA1 fAl
  replace A := A.below bV3
  replace HPs := hide ((unhide HPs).below bV3)
  replace hBW := bthen hBW bV3
  clear bV3
  refine (refReady1 (b : Int) _ _ hsz p q _ _).mono ?_
  rintro r w5 ⟨rfl, hb5⟩
  rw [d1]
  replace A := A.below hb5
  replace HPs := hide ((unhide HPs).below hb5)
  replace S := S.below hb5
  replace hBW := bthen hBW hb5
  clear hb5
  clear hsz
  have HK := hide (show ∀ w', Below w5.heap.size w5 w' → (w'.cell? ⟨w.heap.size, 0, none⟩ = some (.int .i64 p) ∧ w'.cell? ⟨w.heap.size, 1, none⟩ = some (.int .i64 q) ∧ w'.cell? ⟨w3.heap.size, 0, none⟩ = some (.bool s.ln) ∧ w'.cell? ⟨w3.heap.size, 1, none⟩ = some (.slice s.la s.lN s.lc) ∧ w'.cell? ⟨w3.heap.size, 2, none⟩ = some (.bool s.hn) ∧ w'.cell? ⟨w3.heap.size, 3, none⟩ = some (.slice s.ha s.hN s.hc) ∧ w'.cell? ⟨w3.heap.size, 4, none⟩ = some (.int .i64 s.bits)) from fun w' hB => ⟨(A.below hB).c0, (A.below hB).c1, (S.below hB).c0, (S.below hB).c1, (S.below hB).c2, (S.below hB).c3, (S.below hB).c4⟩)
  have lA := A.lt
  have lS := S.lt
  clear S A
  go_wp2_with fail
  obtain ⟨x0, x1, y0, y1, y2, y3, y4⟩ := unhide HK _ (Below.refl _ _)
  have hD0 : Below w5.heap.size w5 w5.drew := (Below.refl _ _).drew
  have hT1 := hide (unhide HTO L1 H1 (unhide HVs))
  have B1 := hide (show 0 * Q b ≤ L1 by have := (unhide HVs).lo; omega)
  have B2 := hide (show H1 ≤ 1 * Q b by have := (unhide HVs).hi; omega)
  go_region_held3 (fun w' => w'.cell? ⟨w.heap.size, 0, none⟩ = some (.int .i64 p) ∧ w'.cell? ⟨w.heap.size, 1, none⟩ = some (.int .i64 q) ∧ w'.cell? ⟨w3.heap.size, 0, none⟩ = some (.bool s.ln) ∧ w'.cell? ⟨w3.heap.size, 1, none⟩ = some (.slice s.la s.lN s.lc) ∧ w'.cell? ⟨w3.heap.size, 2, none⟩ = some (.bool s.hn) ∧ w'.cell? ⟨w3.heap.size, 3, none⟩ = some (.slice s.ha s.hN s.hc) ∧ w'.cell? ⟨w3.heap.size, 4, none⟩ = some (.int .i64 s.bits)) (first | exact unhide HK _ (by first | with_reducible exact hD0 | with_reducible exact hD5 | with_reducible exact hD4 | with_reducible exact hD3 | with_reducible exact hD2 | with_reducible exact hD1) | go_keep)
    (first
      | (go_at_call 15; have hq5 := hD4; refine (ins_ok _ s 250 b L1 H1 0 1 ((unhide HPs).below hD4) (unhide HBs) (by omega) (by decide) (by decide) (by decide) (by decide) (unhide B1) (unhide B2)).mono ?_; rintro r' w13 ⟨rfl, hb13⟩; have hD5 := bthen hD4 hb13)
      | (go_at_call 12; have hq4 := hD3; refine (lawSure_ok _ s v b 16 200030 L1 H1 _ _ ((unhide HPs).below hD3) hv3 (by omega) (by omega) (unhide HBs) h6 (unhide HVs).le (by omega) (by omega) (unhide HBv) (unhide HVs).nar (unhide hT1)).mono ?_; rintro r' w12 ⟨rfl, hb12⟩; have hD4 := bthen hD3 hb12)
      | (go_at_call 13; have hq3 := hD2; refine (refNormalOf_iv _ y (b + 16) (ofI p q (b + 16)) (a1, a2) (c1, c2) (hy2.mono (by omega)) (unhide HBy) (by omega) (by rw [← unhide HEZ]; exact unhide HF) (by rw [← unhide HEZ]; exact unhide HE1) (by rw [← unhide HEZ]; exact unhide HE2)).mono ?_; rintro r' w11 ⟨v, rfl, hvb, hv3, hb11⟩; have HBv := hide hvb; clear hvb; have hD3 := bthen hD2 hb11)
      | (go_at_call 14; have hq2 := hD1; (first | rw [unhide HW] | rw [unhide HW2]); refine (refRatioOf_any p q (b + 16) _ (unhide HR) (by omega)).mono ?_; rintro r' w10 ⟨y, rfl, hyb, hy2, hb10⟩; have HBy := hide hyb; clear hyb; have hD2 := bthen hD1 hb10)
      | (go_at_call 11; refine (errorBegun_any _).mono ?_; rintro r' w8 ⟨rfl, hb8⟩; have hD1 := bthen hD0 hb8))
  all_goals
    go_wp2_with fail
    go_ret
    exact ⟨rfl, bthen hBW hD5⟩
theorem law_errorfNormals (p q bt : Int) (w : World) :
    Calls Tryz.prog 3 #[.agg #[.int .i64 p, .int .i64 q], .int .i64 bt] w fun r w' => r = .returned (.bool true) ∧ Below w.heap.size w w' := by
  by_cases h : rok p q ∧ 8 ≤ bt ∧ bt ≤ 120
  · obtain ⟨h1, h2, h3⟩ := h
    obtain ⟨b, rfl⟩ : ∃ b : Nat, bt = (b : Int) := ⟨bt.toNat, by omega⟩
    exact law_nor_ok p q b w h1 (by omega) (by omega)
  · exact law_nor_bad p q bt w h
end Go.Proofs.YtgmnknmjainababGreat

namespace Go.Proofs.YtgmnknmjainababGreat
set_option linter.unusedVariables false
set_option linter.unusedSimpArgs false
set_option linter.unnecessarySimpa false
open Go.ChangeShapes Go.WideShapes Go.ChangeAt Go.RowKit

theorem Tryz.own : ownKnob Tryz.prog.godebug = none := by kernel_rfl
theorem Tryz.laidOut : laidOutB Tryz.prog = true := by kernel_rfl
theorem Tryz.cellsI : Tryz.prog.cellsOf 3 = 1 := by kernel_rfl
end Go.Proofs.YtgmnknmjainababGreat
