/-
  Texts Upl, Open: what they hold is told in the last text.
-/
import Derived.Deep.CutBlock
import Derived.Test.YtgmnknmjainababGreatRows
import Derived.ProofKit
import Derived.OpenShut
import Derived.SizedLaws
import Derived.ChangeOld
import Derived.Test.YtgmnknmjainababGreatK30
set_option linter.unnecessarySimpa false
set_option linter.unusedSimpArgs false
set_option linter.unusedVariables false
namespace Go.Proofs.YtgmnknmjainababGreat
open Go.RowKit
attribute [local go_sem ↓] Go.wp_at_zero Go.wp_at_succ
open Ex
theorem upReady2 (bt : Int) (w : World) (B : Nat) (hB : w.heap.size = B) (p q kn kd : Int) (T : TypeId) (cap : Nat) :
    Calls Tryz.prog 10 #[.int .i64 bt, .slice (some ⟨B, 0, none⟩) 2 cap] (w.alloc (.cells #[.int .i64 p, .int .i64 q, .int .i64 kn, .int .i64 kd] T)) fun r w' =>
      r = .returned (.int .i64 (ratE2 p q kn kd bt)) ∧ Below w.heap.size w w' := by
  subst hB
  exact (refReady_any bt w.heap.size 2 cap _ _ _ (rats2 w p q kn kd T) (by omega)).mono fun r w' ⟨z, h1, h2, h3⟩ =>
    ⟨by rw [h1, rat2_of h2], (bl1 _ _).trans (h3.mono (by simp))⟩
theorem upl_one (B : Nat) : Iv B (1 * Q B, 1 * Q B) (fun _ => 1) := by
  have QR := Qr_pos B
  refine (iv_const B (1 * Q B)).congr (Null.of_zero fun M => ?_)
  have r := rdm (a := ((1 * Q B : Int) : Rat)) QR
  have e : ((1 * Q B : Int) : Rat) = (Q B : Rat) := by rw [Int.one_mul]
  rw [e] at r ⊢
  have : (Q B : Rat) / (Q B : Rat) = 1 := rat_cancel (c := (Q B : Rat)) QR (by grind)
  rw [this]; grind
theorem up_tou {x : Nat → Rat} {b : Nat} {L1 H1 lo hi : Int} (hv : SuV x b L1 H1) (ho : Iv (b + 32) (lo, hi) x) : touB L1 H1 32 lo hi 0 = true := touch_up (b := b) (i := 32) hv.val ho
theorem refRatioOf_z {b : Nat} (z : Int) (hz : z = (b : Int)) (p q : Int) (w : World) (h : rok p q) (hb : b ≤ 100000) :
    Calls Tryz.prog 14 #[.agg #[.int .i64 p, .int .i64 q], .int .i64 z] w (SpanAns w b (b / 16 + 18) (ofI p q b).1 (ofI p q b).2) := by
  subst hz; exact refRatioOf_any p q b w h hb
set_option maxRecDepth 100000 in
set_option maxHeartbeats 8000000 in
theorem law_up_bad (p q n d : Int) (bt : Int) (w : World) (e : Int) (h : uE p q n d bt = e) (he0 : e ≠ 0) :
    Calls Tryz.prog 5 #[.agg #[.int .i64 p, .int .i64 q], .agg #[.int .i64 n, .int .i64 d], .int .i64 bt] w fun r w' => r = .returned (.bool true) ∧ Below w.heap.size w w' := by
  obtain ⟨W, hW⟩ : ∃ W, W = (w.alloc (.cells #[.int .i64 p, .int .i64 q] 23)).alloc (.cells #[.int .i64 n, .int .i64 d] 23) := ⟨_, rfl⟩
  have hBW : Below w.heap.size w W := by rw [hW]; exact bl2 _ _ _
  have A : RaC W w.heap.size p q := by rw [hW]; exact ⟨by simp [go_sem], by simp [go_sem]⟩
  have G : RaC W (w.heap.size + 1) n d := by rw [hW]; exact ⟨by simp [go_sem], by simp [go_sem]⟩
  have HR := hide h
  have c1 : (e != 0) = true := by simp [he0]
  clear h
  have fA0 := A.c0
  have fA1 := A.c1
  have fAl := A.lt
  have fG0 := G.c0
  have fG1 := G.c1
  have fGl := G.lt
  go_enter Tryz.func5, Tryz.ntmps5
  go_wp2_with fail
  rw [← hW]
  clear hW
  clear fA0 fA1 fAl fG0 fG1 fGl
  refine (culo_bad _ p q n d bt e (unhide HR) he0).mono ?_
  rintro r w3 ⟨s, rfl, hxb, hxp, hxx⟩
  replace A := A.below hxx
  replace G := G.below hxx
  replace hBW := bthen hBW hxx
  have HPs := hide hxp
  have HBs := hide hxb
  clear hxx hxb hxp
  obtain ⟨V3, hV3⟩ : ∃ V, V = w3.alloc (.cells #[.bool s.ln, .slice s.la s.lN s.lc, .bool s.hn, .slice s.ha s.hN s.hc, .int .i64 s.bits] 28) := ⟨_, rfl⟩
  have bV3 : Below w3.heap.size w3 V3 := by rw [hV3]; exact bl1 _ _
  have S : SpC V3 w3.heap.size s := by rw [hV3]; exact spc_new w3 s _
  have fA0 := A.c0
  have fA1 := A.c1
  have fAl := A.lt
  have fG0 := G.c0
  have fG1 := G.c1
  have fGl := G.lt
  go_wp2_with fail
  rw [← hV3]
  clear hV3
  clear fA0 fA1 fAl fG0 fG1 fGl
  replace A := A.below bV3
  replace G := G.below bV3
  replace HPs := hide ((unhide HPs).below bV3)
  replace hBW := bthen hBW bV3
  clear bV3
  refine (cuup_bad _ p q n d bt e (unhide HR) he0).mono ?_
  rintro r w4 ⟨t, rfl, hxb, hxp, hxx⟩
  replace A := A.below hxx
  replace G := G.below hxx
  replace HPs := hide ((unhide HPs).below hxx)
  replace S := S.below hxx
  replace hBW := bthen hBW hxx
  have HPt := hide hxp
  have HBt := hide hxb
  clear hxx hxb hxp
  obtain ⟨V4, hV4⟩ : ∃ V, V = w4.alloc (.cells #[.bool t.ln, .slice t.la t.lN t.lc, .bool t.hn, .slice t.ha t.hN t.hc, .int .i64 t.bits] 28) := ⟨_, rfl⟩
  have bV4 : Below w4.heap.size w4 V4 := by rw [hV4]; exact bl1 _ _
  have T : SpC V4 w4.heap.size t := by rw [hV4]; exact spc_new w4 t _
  have hsz : V4.heap.size = w4.heap.size + 1 := by rw [hV4]; simp
  have fA0 := A.c0
  have fA1 := A.c1
  have fAl := A.lt
  have fG0 := G.c0
  have fG1 := G.c1
  have fGl := G.lt
  go_wp2_with fail
  rw [← hV4]
  clear hV4
  clear fA0 fA1 fAl fG0 fG1 fGl
  replace A := A.below bV4
  replace G := G.below bV4
  replace HPs := hide ((unhide HPs).below bV4)
  replace S := S.below bV4
  replace HPt := hide ((unhide HPt).below bV4)
  replace hBW := bthen hBW bV4
  clear bV4
  refine (upReady2 bt _ _ hsz p q n d _ _).mono ?_
  rintro r w5 ⟨rfl, hb5⟩
  replace A := A.below hb5
  replace G := G.below hb5
  replace HPs := hide ((unhide HPs).below hb5)
  replace S := S.below hb5
  replace HPt := hide ((unhide HPt).below hb5)
  replace T := T.below hb5
  replace hBW := bthen hBW hb5
  clear hb5 hsz
  obtain ⟨z0, hz0⟩ : ∃ z, ratE2 p q n d bt = z := ⟨_, rfl⟩
  rw [hz0]
  have HZ := hide hz0
  clear hz0
  go_upto_block 0 with fail
  go_cut [11] (fun v wx => v = .int .i64 e ∧ wx = w5)
  case first =>
    have hue : uE p q n d bt = e := unhide HR
    unfold uE at hue
    have hz := unhide HZ
    unfold ratE2 at hz
    have fA0 := A.c0
    have fA1 := A.c1
    have fAl := A.lt
    have fG0 := G.c0
    have fG1 := G.c1
    have fGl := G.lt
    by_cases hR : (rok p q ∧ rok n d) ∧ 8 ≤ (bt : Int) ∧ (bt : Int) ≤ 120
    · rw [if_pos hR] at hz
      rw [if_neg (fun h => h hR)] at hue
      subst hz
      obtain ⟨⟨⟨r1, r2, r3, r4⟩, _⟩, _⟩ := hR
      by_cases hp : p ≤ 0
      · have he : e = (5 : Int) := by
          by_cases hn : n < 0
          · rw [if_pos hn] at hue; omega
          · rw [if_neg hn, if_pos hp] at hue; omega
        have HEV := hide he
        clear he hue r1 r2 r3 r4
        go_wp2_with fail
        go_meet
        exact ⟨by rw [unhide HEV], rfl⟩
      · by_cases hn : n < 0
        · have he : e = (5 : Int) := by rw [if_pos hn] at hue; omega
          have HEV := hide he
          clear he hue r1 r2 r3 r4
          go_wp2_with fail
          go_meet
          exact ⟨by rw [unhide HEV], rfl⟩
        · rw [if_neg hn, if_neg hp] at hue
          have HWQ : IntKind.i64.wrap (100 * q) = 100 * q := i64_id _ (by omega) (by omega)
          by_cases h100 : 100 * q < p
          · have he : e = (2 : Int) := by rw [if_pos h100] at hue; omega
            have HEV := hide he
            clear he hue r1 r2
            go_wp2_with fail
            go_meet
            exact ⟨by rw [unhide HEV], rfl⟩
          · have he : (e = (0 : Int)) := by rw [if_neg h100] at hue; omega
            exact absurd he he0
    · rw [if_neg hR] at hz
      rw [if_pos hR] at hue
      subst hz
      have he : e = (3 : Int) := hue.symm
      have HEV := hide he
      clear he hue hR
      go_wp2_with fail
      go_meet
      exact ⟨by rw [unhide HEV], rfl⟩
  case rest =>
  obtain ⟨rfl, rfl⟩ := hcut
  clear HZ
  go_wp2_with fail
  refine (upperBegun_any _).mono ?_
  rintro r w6 ⟨rfl, hxx⟩
  replace A := A.below hxx
  replace G := G.below hxx
  replace HPs := hide ((unhide HPs).below hxx)
  replace S := S.below hxx
  replace HPt := hide ((unhide HPt).below hxx)
  replace T := T.below hxx
  replace hBW := bthen hBW hxx
  clear hxx
  have fS0 := S.c0
  have fS1 := S.c1
  have fS2 := S.c2
  have fS3 := S.c3
  have fS4 := S.c4
  have fSl := S.lt
  go_wp2_with fail
  clear fS0 fS1 fS2 fS3 fS4 fSl
  refine (lawSure_bad _ s ⟨false, none, 0, 0, false, none, 0, 0, 0⟩ _ _ _ (unhide HPs) (unhide HBs) he0).mono ?_
  rintro r w7 ⟨rfl, hxx⟩
  replace A := A.below hxx
  replace G := G.below hxx
  replace HPs := hide ((unhide HPs).below hxx)
  replace S := S.below hxx
  replace HPt := hide ((unhide HPt).below hxx)
  replace T := T.below hxx
  replace hBW := bthen hBW hxx
  clear hxx
  have fT0 := T.c0
  have fT1 := T.c1
  have fT2 := T.c2
  have fT3 := T.c3
  have fT4 := T.c4
  have fTl := T.lt
  go_wp2_with fail
  clear fT0 fT1 fT2 fT3 fT4 fTl
  refine (lawSure_bad _ t ⟨false, none, 0, 0, false, none, 0, 0, 0⟩ _ _ _ (unhide HPt) (unhide HBt) he0).mono ?_
  rintro r w8 ⟨rfl, hxx⟩
  replace A := A.below hxx
  replace G := G.below hxx
  replace HPs := hide ((unhide HPs).below hxx)
  replace S := S.below hxx
  replace HPt := hide ((unhide HPt).below hxx)
  replace T := T.below hxx
  replace hBW := bthen hBW hxx
  clear hxx
  go_wp2_with fail
  exact bodyPost_ret (v := .bool true) (by simp [results, Tryz.results5]) rfl ⟨rfl, hBW⟩
set_option maxRecDepth 100000 in
set_option maxHeartbeats 8000000 in
theorem law_up_ok (p q n d : Int) (b : Nat) (w : World) (h : uE p q n d (b : Int) = 0) :
    Calls Tryz.prog 5 #[.agg #[.int .i64 p, .int .i64 q], .agg #[.int .i64 n, .int .i64 d], .int .i64 (b : Int)] w fun r w' => r = .returned (.bool true) ∧ Below w.heap.size w w' := by
  obtain ⟨W, hW⟩ : ∃ W, W = (w.alloc (.cells #[.int .i64 p, .int .i64 q] 23)).alloc (.cells #[.int .i64 n, .int .i64 d] 23) := ⟨_, rfl⟩
  have hBW : Below w.heap.size w W := by rw [hW]; exact bl2 _ _ _
  have A : RaC W w.heap.size p q := by rw [hW]; exact ⟨by simp [go_sem], by simp [go_sem]⟩
  have G : RaC W (w.heap.size + 1) n d := by rw [hW]; exact ⟨by simp [go_sem], by simp [go_sem]⟩
  obtain ⟨L0, GG, X, hE⟩ := genv_ex
  have HE := hide hE
  have HR := hide h
  have HUZ := hide (uE_zero h)
  have h5 : 8 ≤ b := by have := (uE_zero h).2.2.1; omega
  have h6 : b ≤ 120 := by have := (uE_zero h).2.2.1; omega
  have HW := hide (show IntKind.i64.wrap ((b : Int) + 32) = ((b + 32 : Nat) : Int) from (i64_id _ (by omega) (by omega)).trans (by omega))
  have HW2 := hide (show ((b : Int) + 32) = ((b + 32 : Nat) : Int) by omega)
  clear hE h
  have fA0 := A.c0
  have fA1 := A.c1
  have fAl := A.lt
  have fG0 := G.c0
  have fG1 := G.c1
  have fGl := G.lt
  go_enter Tryz.func5, Tryz.ntmps5
  go_wp2_with fail
  rw [← hW]
  clear hW
  clear fA0 fA1 fAl fG0 fG1 fGl
  refine (culo_ok L0 GG X (unhide HE) _ p q n d b (unhide HR)).mono ?_
  rintro r w3 ⟨L1, H1, hv, s, rfl, hxb, hxp, hxx⟩
  replace A := A.below hxx
  replace G := G.below hxx
  replace hBW := bthen hBW hxx
  have HVs := hide hv
  have HPs := hide hxp
  have HBs := hide hxb
  clear hxx hxb hxp hv
  obtain ⟨V3, hV3⟩ : ∃ V, V = w3.alloc (.cells #[.bool s.ln, .slice s.la s.lN s.lc, .bool s.hn, .slice s.ha s.hN s.hc, .int .i64 s.bits] 28) := ⟨_, rfl⟩
  have bV3 : Below w3.heap.size w3 V3 := by rw [hV3]; exact bl1 _ _
  have S : SpC V3 w3.heap.size s := by rw [hV3]; exact spc_new w3 s _
  have fA0 := A.c0
  have fA1 := A.c1
  have fAl := A.lt
  have fG0 := G.c0
  have fG1 := G.c1
  have fGl := G.lt
  go_wp2_with fail
  rw [← hV3]
  clear hV3
  clear fA0 fA1 fAl fG0 fG1 fGl
  replace A := A.below bV3
  replace G := G.below bV3
  replace HPs := hide ((unhide HPs).below bV3)
  replace hBW := bthen hBW bV3
  clear bV3
  refine (cuup_ok L0 GG X (unhide HE) _ p q n d b (unhide HR)).mono ?_
  rintro r w4 ⟨L2, H2, hv, t, rfl, hxb, hxp, hxx⟩
  replace A := A.below hxx
  replace G := G.below hxx
  replace HPs := hide ((unhide HPs).below hxx)
  replace S := S.below hxx
  replace hBW := bthen hBW hxx
  have HVt := hide hv
  have HPt := hide hxp
  have HBt := hide hxb
  clear hxx hxb hxp hv
  obtain ⟨V4, hV4⟩ : ∃ V, V = w4.alloc (.cells #[.bool t.ln, .slice t.la t.lN t.lc, .bool t.hn, .slice t.ha t.hN t.hc, .int .i64 t.bits] 28) := ⟨_, rfl⟩
  have bV4 : Below w4.heap.size w4 V4 := by rw [hV4]; exact bl1 _ _
  have T : SpC V4 w4.heap.size t := by rw [hV4]; exact spc_new w4 t _
  have hsz : V4.heap.size = w4.heap.size + 1 := by rw [hV4]; simp
  have fA0 := A.c0
  have fA1 := A.c1
  have fAl := A.lt
  have fG0 := G.c0
  have fG1 := G.c1
  have fGl := G.lt
  go_wp2_with fail
  rw [← hV4]
  clear hV4
  clear fA0 fA1 fAl fG0 fG1 fGl
  replace A := A.below bV4
  replace G := G.below bV4
  replace HPs := hide ((unhide HPs).below bV4)
  replace S := S.below bV4
  replace HPt := hide ((unhide HPt).below bV4)
  replace hBW := bthen hBW bV4
  clear bV4
  refine (upReady2 (b : Int) _ _ hsz p q n d _ _).mono ?_
  rintro r w5 ⟨rfl, hb5⟩
  replace A := A.below hb5
  replace G := G.below hb5
  replace HPs := hide ((unhide HPs).below hb5)
  replace S := S.below hb5
  replace HPt := hide ((unhide HPt).below hb5)
  replace T := T.below hb5
  replace hBW := bthen hBW hb5
  clear hb5 hsz
  obtain ⟨z0, hz0⟩ : ∃ z, ratE2 p q n d (b : Int) = z := ⟨_, rfl⟩
  rw [hz0]
  have HZ := hide hz0
  clear hz0
  go_upto_block 0 with fail
  go_cut [11] (fun v wx => v = .int .i64 0 ∧ wx = w5)
  case first =>
    have hue : uE p q n d (b : Int) = 0 := unhide HR
    unfold uE at hue
    have hz := unhide HZ
    unfold ratE2 at hz
    have fA0 := A.c0
    have fA1 := A.c1
    have fAl := A.lt
    have fG0 := G.c0
    have fG1 := G.c1
    have fGl := G.lt
    by_cases hR : (rok p q ∧ rok n d) ∧ 8 ≤ ((b : Int) : Int) ∧ ((b : Int) : Int) ≤ 120
    · rw [if_pos hR] at hz
      rw [if_neg (fun h => h hR)] at hue
      subst hz
      obtain ⟨⟨⟨r1, r2, r3, r4⟩, _⟩, _⟩ := hR
      by_cases hp : p ≤ 0
      · have he : 0 = (5 : Int) := by
          by_cases hn : n < 0
          · rw [if_pos hn] at hue; omega
          · rw [if_neg hn, if_pos hp] at hue; omega
        exfalso; omega
      · by_cases hn : n < 0
        · have he : 0 = (5 : Int) := by rw [if_pos hn] at hue; omega
          exfalso; omega
        · rw [if_neg hn, if_neg hp] at hue
          have HWQ : IntKind.i64.wrap (100 * q) = 100 * q := i64_id _ (by omega) (by omega)
          by_cases h100 : 100 * q < p
          · have he : 0 = (2 : Int) := by rw [if_pos h100] at hue; omega
            exfalso; omega
          · have he : True := trivial
            have HEV := hide he
            clear he hue r1 r2
            go_wp2_with fail
            go_meet
            exact ⟨rfl, rfl⟩
    · rw [if_neg hR] at hz
      rw [if_pos hR] at hue
      subst hz
      have he : 0 = (3 : Int) := hue.symm
      exfalso; omega
  case rest =>
  obtain ⟨rfl, rfl⟩ := hcut
  clear HZ
  obtain ⟨V5, hV5⟩ : ∃ V, V = wc := ⟨_, rfl⟩
  subst hV5
  have HK11 := hide (show ∀ w', Below V5.heap.size V5 w' → (w'.cell? ⟨w.heap.size, 0, none⟩ = some (.int .i64 p) ∧ w'.cell? ⟨w.heap.size, 1, none⟩ = some (.int .i64 q) ∧ w'.cell? ⟨w.heap.size + 1, 0, none⟩ = some (.int .i64 n) ∧ w'.cell? ⟨w.heap.size + 1, 1, none⟩ = some (.int .i64 d)) from fun w' hB => ⟨(A.below hB).c0, (A.below hB).c1, (G.below hB).c0, (G.below hB).c1⟩)
  have lA := A.lt
  have lG := G.lt
  have lS := S.lt
  have lT := T.lt
  go_wp2_with fail
  obtain ⟨x0, x1, x2, x3⟩ := unhide HK11 _ (Below.refl _ _)
  go_cut [12] (fun pz wx => ∃ (B : Nat) (u : Sp) (lo hi : Int), pz = .pointer (some ⟨B, 0, none⟩) ∧ (Iv (b + 32) (lo, hi) (lwX L0 p q n d (gmV p q (GG (gA p q)))) ∧ 0 ≤ lo ∧ hi ≤ Q (b + 32)) ∧ V5.heap.size ≤ B ∧ VrC wx B u ∧ SpAt wx u 600000 (((lo, hi) : Int × Int)).1 (((lo, hi) : Int × Int)).2 ∧ u.bits = ((b + 32 : Nat) : Int) ∧ Below V5.heap.size V5 wx)
  case first =>
    go_region_held3 (fun w' => w'.cell? ⟨w.heap.size, 0, none⟩ = some (.int .i64 p) ∧ w'.cell? ⟨w.heap.size, 1, none⟩ = some (.int .i64 q) ∧ w'.cell? ⟨w.heap.size + 1, 0, none⟩ = some (.int .i64 n) ∧ w'.cell? ⟨w.heap.size + 1, 1, none⟩ = some (.int .i64 d)) (exact unhide HK11 _ (by repeat' (first | with_reducible exact hBU2 | with_reducible exact hBU1 | with_reducible exact Below.refl _ _ | with_reducible refine Below.drew ?_ | with_reducible refine balloc ?_ _ | with_reducible refine Below.setCell ?_ (by first | exact Nat.le_refl _ | exact hlU1 | exact hlU2) _)))
      (first
        | (go_at_call 25; have hq := hBU1; refine (refLowerOf (unhide HE) _ vU1 p q n d (b + 32) ((hintU1.below (by first | with_reducible exact Below.refl _ _ | with_reducible exact bl1 _ _)).mono (by omega)) (unhide HVBU1) (by omega) (by omega) (unhide HUZ).1 (unhide HUZ).2.2.2.2.1 (unhide HUZ).2.2.2.2.2 (unhide HUZ).2.2.2.1 (by have := (unhide HUZ).2.1.2.2.1; omega)).mono ?_; rintro r wU2 ⟨lo2, hi2, ia2, vU2, rfl, hvbU2, hintU2, hbU2⟩; have HVBU2 := hide hvbU2; have HG2 := hide ia2; clear hvbU2 ia2; have hCU2 : Below wU1.heap.size wU1 wU2 := (by first | with_reducible exact hbU2 | with_reducible exact bthen (bl1 _ _) hbU2); have hBU2 := bthen hBU1 hCU2; (try with_reducible have gU2 := (noc_new wU1 36).below hbU2); replace hintU1 := hintU1.below hCU2; (try replace gU1 := gU1.below hCU2); have hlU2 := hBU2.size; (try have mU1 := gU1.lt); (try have eU1 := Nat.ne_of_lt mU1); (try have eU1' := Nat.ne_of_gt mU1); (try obtain ⟨zU10, zU11, zU12, zU13, zU14, zU15⟩ := gU1); (try have mU2 := gU2.lt); (try have eU2 := Nat.ne_of_lt mU2); (try have eU2' := Nat.ne_of_gt mU2); (try obtain ⟨zU20, zU21, zU22, zU23, zU24, zU25⟩ := gU2))
        | (go_at_call 14; refine (refRatioOf_z (b := b + 32) _ (by first | exact unhide HW | exact unhide HW2) n d _ (unhide HUZ).2.1 (by omega)).mono ?_; rintro r wU1 ⟨vU1, rfl, hvbU1, hintU1, hbU1⟩; have HVBU1 := hide hvbU1; clear hvbU1; have hBU1 : Below V5.heap.size V5 wU1 := (by first | with_reducible exact bthen (Below.refl _ _).drew hbU1 | with_reducible exact bthen (bl1 _ _).drew hbU1); (try with_reducible have gU1 := ((noc_new V5 36).below (Below.refl _ _).drew).below hbU1); have hlU1 := hBU1.size))
    all_goals
      have hfinU : SpAt wU2 vU2 600000 (((lo2, hi2) : Int × Int)).1 (((lo2, hi2) : Int × Int)).2 := hintU2
      go_wp2_with fail
      go_meet
      refine ⟨_, vU2, lo2, hi2, rfl, unhide HG2, ?_, ⟨⟨?_, ?_, ?_, ?_, ?_⟩, ?_⟩, ?_, (unhide HVBU2), ?_⟩
      · first | exact Nat.le_refl _ | exact hlU1 | exact hlU2
      · simp [go_sem, *]
      · simp [go_sem, *]
      · simp [go_sem, *]
      · simp [go_sem, *]
      · simp [go_sem, *]
      · intro o; simp [go_sem, *]
      · first | with_reducible exact SpAt.put5 hfinU zU20 zU21 zU22 zU23 zU24 _ _ _ _ _ | with_reducible exact SpAt.put5 hfinU zU10 zU11 zU12 zU13 zU14 _ _ _ _ _ | with_reducible exact hfinU.below (bl1 _ _)
      · repeat' (first | with_reducible exact hBU2 | with_reducible exact hBU1 | with_reducible exact Below.refl _ _ | with_reducible refine Below.drew ?_ | with_reducible refine balloc ?_ _ | with_reducible refine Below.setCell ?_ (by first | exact Nat.le_refl _ | exact hlU1 | exact hlU2) _)
  case rest =>
  obtain ⟨BU, xU, lo, hi, rfl, hGG, hHU, XU, hpU, hxbU, hblU⟩ := hcut
  have SS := S.below hblU
  have TT := T.below hblU
  clear S T A G lA lG
  have S := SS
  have T := TT
  clear SS TT
  replace HPs := hide ((unhide HPs).below hblU)
  replace HPt := hide ((unhide HPt).below hblU)
  replace hBW := bthen hBW hblU
  have HK := hide (show ∀ w', Below wc.heap.size wc w' → (w'.cell? ⟨w3.heap.size, 0, none⟩ = some (.bool s.ln) ∧ w'.cell? ⟨w3.heap.size, 1, none⟩ = some (.slice s.la s.lN s.lc) ∧ w'.cell? ⟨w3.heap.size, 2, none⟩ = some (.bool s.hn) ∧ w'.cell? ⟨w3.heap.size, 3, none⟩ = some (.slice s.ha s.hN s.hc) ∧ w'.cell? ⟨w3.heap.size, 4, none⟩ = some (.int .i64 s.bits) ∧ w'.cell? ⟨w4.heap.size, 0, none⟩ = some (.bool t.ln) ∧ w'.cell? ⟨w4.heap.size, 1, none⟩ = some (.slice t.la t.lN t.lc) ∧ w'.cell? ⟨w4.heap.size, 2, none⟩ = some (.bool t.hn) ∧ w'.cell? ⟨w4.heap.size, 3, none⟩ = some (.slice t.ha t.hN t.hc) ∧ w'.cell? ⟨w4.heap.size, 4, none⟩ = some (.int .i64 t.bits) ∧ w'.cell? ⟨BU, 0, none⟩ = some (.bool xU.ln) ∧ w'.cell? ⟨BU, 1, none⟩ = some (.slice xU.la xU.lN xU.lc) ∧ w'.cell? ⟨BU, 2, none⟩ = some (.bool xU.hn) ∧ w'.cell? ⟨BU, 3, none⟩ = some (.slice xU.ha xU.hN xU.hc) ∧ w'.cell? ⟨BU, 4, none⟩ = some (.int .i64 xU.bits)) from fun w' hB => ⟨(S.below hB).c0, (S.below hB).c1, (S.below hB).c2, (S.below hB).c3, (S.below hB).c4, (T.below hB).c0, (T.below hB).c1, (T.below hB).c2, (T.below hB).c3, (T.below hB).c4, (XU.below hB).c.c0, (XU.below hB).c.c1, (XU.below hB).c.c2, (XU.below hB).c.c3, (XU.below hB).c.c4⟩)
  have HPU := hide hpU
  have HBU := hide hxbU
  have HGG := hide hGG
  have lS' := S.lt
  have lT' := T.lt
  have lU' := XU.lt
  have hD0 : Below wc.heap.size wc wc.drew := (Below.refl _ _).drew
  have HONE := hide (show Iv (b + 32) (subI (1 * Q (b + 32), 1 * Q (b + 32)) (lo, hi)) (fun M => 1 - (lwX L0 p q n d (gmV p q (GG (gA p q)))) M) from (upl_one (b + 32)).sub hGG.1)
  clear S T XU hpU hxbU hGG hblU hHU HK11 x0 x1 x2 x3 lS lT
  go_wp2_with fail
  obtain ⟨x0, x1, x2, x3, x4, y0, y1, y2, y3, y4, z0, z1, z2, z3, z4⟩ := unhide HK _ (Below.refl _ _)
  go_region_held3 (fun w' => w'.cell? ⟨w3.heap.size, 0, none⟩ = some (.bool s.ln) ∧ w'.cell? ⟨w3.heap.size, 1, none⟩ = some (.slice s.la s.lN s.lc) ∧ w'.cell? ⟨w3.heap.size, 2, none⟩ = some (.bool s.hn) ∧ w'.cell? ⟨w3.heap.size, 3, none⟩ = some (.slice s.ha s.hN s.hc) ∧ w'.cell? ⟨w3.heap.size, 4, none⟩ = some (.int .i64 s.bits) ∧ w'.cell? ⟨w4.heap.size, 0, none⟩ = some (.bool t.ln) ∧ w'.cell? ⟨w4.heap.size, 1, none⟩ = some (.slice t.la t.lN t.lc) ∧ w'.cell? ⟨w4.heap.size, 2, none⟩ = some (.bool t.hn) ∧ w'.cell? ⟨w4.heap.size, 3, none⟩ = some (.slice t.ha t.hN t.hc) ∧ w'.cell? ⟨w4.heap.size, 4, none⟩ = some (.int .i64 t.bits) ∧ w'.cell? ⟨BU, 0, none⟩ = some (.bool xU.ln) ∧ w'.cell? ⟨BU, 1, none⟩ = some (.slice xU.la xU.lN xU.lc) ∧ w'.cell? ⟨BU, 2, none⟩ = some (.bool xU.hn) ∧ w'.cell? ⟨BU, 3, none⟩ = some (.slice xU.ha xU.hN xU.hc) ∧ w'.cell? ⟨BU, 4, none⟩ = some (.int .i64 xU.bits)) (first | exact unhide HK _ (by first | with_reducible exact hD0 | with_reducible exact hD7 | with_reducible exact hD6 | with_reducible exact hD5 | with_reducible exact hD4 | with_reducible exact hD3 | with_reducible exact hD2 | with_reducible exact hD1) | go_keep)
    (first
      | (go_at_call 15; have hq7 := hD6; refine (ins_ok _ t 250 b L2 H2 0 1 ((unhide HPt).below hD6) (unhide HBt) (by omega) (by omega) (by omega) (by omega) (by omega) (by have := (unhide HVt).2.1; omega) (by have := (unhide HVt).2.2; omega)).mono ?_; rintro r' g7 ⟨rfl, hg7⟩; have hD7 := bthen hD6 hg7)
      | (go_at_call 15; have hq6 := hD5; refine (ins_ok _ s 250 b L1 H1 0 1 ((unhide HPs).below hD5) (unhide HBs) (by omega) (by omega) (by omega) (by omega) (by omega) (by have := (unhide HVs).2.1; omega) (by have := (unhide HVs).2.2; omega)).mono ?_; rintro r' g6 ⟨rfl, hg6⟩; have hD6 := bthen hD5 hg6)
      | (go_at_call 12; have hq5 := hD4; refine (lawSure_ok _ t f4 b 32 600001 L2 H2 _ _ ((unhide HPt).below hD4) hint4 (by omega) (by omega) (unhide HBt) h6 (unhide HVt).1.le (by omega) (by omega) (unhide F4) (unhide HVt).1.nar (up_tou (unhide HVt).1 (unhide HONE))).mono ?_; rintro r' g5 ⟨rfl, hg5⟩; have hD5 := bthen hD4 hg5)
      | (go_at_call 26; have hq4 := hD3; refine (refLess_ivE _ f3 xU 600000 (b + 32) (1 * Q (b + 32), 1 * Q (b + 32)) (lo, hi) (hint3.mono (by omega)) ((unhide HPU).below hD3) (by omega) (unhide F3)).mono ?_; rintro r' g4 ⟨f4, rfl, hvb4, hint4, hg4⟩; have F4 := hide hvb4; clear hvb4; have hD4 := bthen hD3 hg4)
      | (go_at_call 27; have hq3 := hD2; refine (refWhole_z (b := b + 32) _ (by first | exact unhide HW | exact unhide HW2) _ 1 (by omega) (by decide) (by decide)).mono ?_; rintro r' g3 ⟨f3, rfl, hvb3, hint3, hg3⟩; have F3 := hide hvb3; clear hvb3; have hD3 := bthen hD2 hg3)
      | (go_at_call 12; have hq2 := hD1; refine (lawSure_ok _ s xU b 32 600000 L1 H1 lo hi ((unhide HPs).below hD1) ((unhide HPU).below hD1) (by omega) (by omega) (unhide HBs) h6 (unhide HVs).1.le (by omega) (by omega) (unhide HBU) (unhide HVs).1.nar (up_tou (unhide HVs).1 (unhide HGG).1)).mono ?_; rintro r' g2 ⟨rfl, hg2⟩; have hD2 := bthen hD1 hg2)
      | (go_at_call 24; refine (upperBegun_any _).mono ?_; rintro r' g1 ⟨rfl, hg1⟩; have hD1 := bthen hD0 hg1))
  all_goals
    go_wp2_with fail
    go_ret
    exact ⟨rfl, bthen hBW hD7⟩
theorem law_upperParts (p q n d bt : Int) (w : World) :
    Calls Tryz.prog 5 #[.agg #[.int .i64 p, .int .i64 q], .agg #[.int .i64 n, .int .i64 d], .int .i64 bt] w fun r w' => r = .returned (.bool true) ∧ Below w.heap.size w w' := by
  by_cases h : uE p q n d bt = 0
  · obtain ⟨b, rfl⟩ : ∃ b : Nat, bt = (b : Int) := ⟨bt.toNat, by have := (uE_zero h).2.2.1; omega⟩
    exact law_up_ok p q n d b w h
  · exact law_up_bad p q n d bt w _ rfl h
end Go.Proofs.YtgmnknmjainababGreat
namespace Go.Proofs.YtgmnknmjainababGreat
open Go.ChangeShapes Go.WideShapes Go.ChangeAt Go.RowKit
theorem Tryz.own : ownKnob Tryz.prog.godebug = none := by kernel_rfl
theorem Tryz.laidOut : laidOutB Tryz.prog = true := by kernel_rfl
theorem Tryz.cellsI : Tryz.prog.cellsOf 3 = 1 := by kernel_rfl
end Go.Proofs.YtgmnknmjainababGreat
