/-
  Texts Gnb, Ggk, Ggl, Open: what they hold is told in the last text.
-/
import Derived.Test.YtgmnknmjainababGreatRows
import Derived.ProofKit
import Derived.OpenShut
import Derived.SizedLaws
import Derived.ChangeOld
import Derived.Test.YtgmnknmjainababGreatK23
set_option linter.unnecessarySimpa false
set_option linter.unusedSimpArgs false
set_option linter.unusedVariables false
namespace Go.Proofs.YtgmnknmjainababGreat
open Go.RowKit
attribute [local go_sem ↓] Go.wp_at_zero Go.wp_at_succ
set_option maxRecDepth 100000 in
set_option maxHeartbeats 4000000 in
theorem gammaBegun_any (w : World) :
    Calls Tryz.prog 21 #[] w fun r w' => r = .returned (.bool true) ∧ Below w.heap.size w w' := by
  obtain ⟨L0, G, X, hE⟩ := genv_ex
  have hBW : Below w.heap.size w w := Below.refl _ _
  have HE := hide hE
  have H5 := hide (show gE1 5 1 ((20 : Nat) : Int) = 0 from gE1_nat ⟨by omega, by omega, by omega, by omega⟩ (by omega) (by omega) (by omega) (by omega))
  have HT0 := hide (gm_five hE)
  clear hE
  go_enter Tryz.func21, Tryz.ntmps21
  go_wp2_with fail
  refine (cgam_ok L0 G X (unhide HE) 5 1 20 _ (unhide H5)).mono ?_
  rintro r' w1 ⟨L, H, hv, s, rfl, hsb, hsp, hb1⟩
  replace hBW := bthen hBW hb1
  clear hb1
  have HV := hide hv.1
  have HT := hide (tou_whole hv.1.val (unhide HT0))
  have HB := hide hsb
  have HP := hide hsp
  clear hv hsb hsp HT0
  obtain ⟨V1, hV1⟩ : ∃ V, V = w1.alloc (.cells #[.bool s.ln, .slice s.la s.lN s.lc, .bool s.hn, .slice s.ha s.hN s.hc, .int .i64 s.bits] 28) := ⟨_, rfl⟩
  have bV1 : Below w1.heap.size w1 V1 := by rw [hV1]; exact bl1 _ _
  have S : SpC V1 w1.heap.size s := by rw [hV1]; exact spc_new w1 s _
  have fS0 := S.c0
  have fS1 := S.c1
  have fS2 := S.c2
  have fS3 := S.c3
  have fS4 := S.c4
  have fSl := S.lt
  go_wp2_with fail
  rw [← hV1]
  clear hV1
  clear fS0 fS1 fS2 fS3 fS4 fSl
  replace HP := hide ((unhide HP).below bV1)
  replace hBW := bthen hBW bV1
  clear bV1
  refine (refOf_any _ s).mono ?_
  rintro r w2 ⟨rfl, hxx⟩
  replace HP := hide ((unhide HP).below hxx)
  replace S := S.below hxx
  replace hBW := bthen hBW hxx
  clear hxx
  go_wp2_with fail
  refine (refWhole _ 24 20 (by omega) (by omega) (by omega)).mono ?_
  rintro r w3 ⟨y, rfl, hxb, hxp, hxx⟩
  replace HP := hide ((unhide HP).below hxx)
  replace S := S.below hxx
  replace hBW := bthen hBW hxx
  clear hxx
  have HBy := hide hxb
  have HPy := hide (hxp.mono (show 20 / 16 + 18 ≤ 250 by omega))
  clear hxb hxp
  go_wp2_with fail
  refine (touch_le _ s y 250 0 0 _ _ _ _ (unhide HP) (unhide HPy) (by omega) (by have := unhide HB; omega) (by have := unhide HB; omega) (by have := unhide HBy; omega) (by have := unhide HBy; omega) (by have := unhide HB; have := unhide HBy; omega) (by have := unhide HB; omega) (by have := unhide HB; have := unhide HBy; omega)).mono ?_
  rintro r w4 ⟨rfl, hxx⟩
  rw [unhide HT]
  replace HP := hide ((unhide HP).below hxx)
  replace S := S.below hxx
  replace HPy := hide ((unhide HPy).below hxx)
  replace hBW := bthen hBW hxx
  clear hxx
  have fS0 := S.c0
  have fS1 := S.c1
  have fS2 := S.c2
  have fS3 := S.c3
  have fS4 := S.c4
  have fSl := S.lt
  go_wp2_with fail
  clear fS0 fS1 fS2 fS3 fS4 fSl
  refine (narrowBy_four _ s 20 L H (unhide HP) (unhide HB) (by omega) (unhide HV).le (unhide HV).nar).mono ?_
  rintro r w5 ⟨rfl, hxx⟩
  replace HP := hide ((unhide HP).below hxx)
  replace S := S.below hxx
  replace HPy := hide ((unhide HPy).below hxx)
  replace hBW := bthen hBW hxx
  clear hxx
  go_wp2_with fail
  exact bodyPost_ret (v := .bool true) (by simp [results, Tryz.results21]) rfl ⟨rfl, hBW⟩
end Go.Proofs.YtgmnknmjainababGreat
namespace Go.Proofs.YtgmnknmjainababGreat
open Go.RowKit
attribute [local go_sem ↓] Go.wp_at_zero Go.wp_at_succ
open Ex
theorem gmE1_eq {bt p q z : Int} (h : GmE bt (fun _ => p) (fun _ => q) 1 z) : z = gE1 p q bt := by
  unfold gE1
  rcases h with ⟨h1, rfl⟩ | ⟨h1, h2⟩
  · rcases h1 with ⟨h3, _⟩ | ⟨_, h3⟩
    · omega
    · rw [if_pos (fun k => h3 ⟨k.2, fun _ _ => k.1⟩)]
  · have ok : rok p q ∧ 8 ≤ bt ∧ bt ≤ 120 := by
      rcases h1 with ⟨_, h3, h4⟩ | ⟨h3, _⟩
      · exact ⟨h4 0 (by omega), h3⟩
      · omega
    rw [if_neg (fun k => k ok)]
    rcases h2 with ⟨rfl, j, _, hj⟩ | ⟨rfl, hp, j, _, hj⟩ | ⟨rfl, hp⟩
    · rw [if_pos (show p ≤ 0 from hj)]
    · have h0 : 0 < p := hp 0 (by omega)
      rw [if_neg (by omega), if_pos (show 100 * q < p from hj)]
    · have h0 : 0 < p ∧ p ≤ 100 * q := hp 0 (by omega)
      rw [if_neg (by omega), if_neg (by omega)]
theorem gmE2_eq {bt p1 q1 p2 q2 z : Int} (h : GmE bt (fun j => if j = 0 then p1 else p2) (fun j => if j = 0 then q1 else q2) 2 z) : z = gE2 p1 q1 p2 q2 bt := by
  unfold gE2
  have both : ∀ {P : Nat → Prop}, (∀ j, j < 2 → P j) ↔ P 0 ∧ P 1 := fun {P} => ⟨fun h => ⟨h 0 (by omega), h 1 (by omega)⟩, fun h j hj => by
    match j with
    | 0 => exact h.1
    | 1 => exact h.2
    | j + 2 => omega⟩
  have some' : ∀ {P : Nat → Prop}, (∃ j, j < 2 ∧ P j) ↔ P 0 ∨ P 1 := fun {P} => ⟨fun ⟨j, hj, h⟩ => by
    match j, h with
    | 0, h => exact Or.inl h
    | 1, h => exact Or.inr h
    | j + 2, _ => omega, fun h => h.elim (fun h => ⟨0, by omega, h⟩) (fun h => ⟨1, by omega, h⟩)⟩
  rcases h with ⟨h1, rfl⟩ | ⟨h1, h2⟩
  · rcases h1 with ⟨h3, _⟩ | ⟨_, h3⟩
    · omega
    · rw [if_pos (fun k => h3 ⟨k.2, both.2 ⟨k.1.1, k.1.2⟩⟩)]
  · have ok : (rok p1 q1 ∧ rok p2 q2) ∧ 8 ≤ bt ∧ bt ≤ 120 := by
      rcases h1 with ⟨_, h3, h4⟩ | ⟨h3, _⟩
      · exact ⟨both.1 h4, h3⟩
      · omega
    rw [if_neg (fun k => k ok)]
    rcases h2 with ⟨rfl, hj⟩ | ⟨rfl, hp, hj⟩ | ⟨rfl, hp⟩
    · rw [if_pos (show p1 ≤ 0 ∨ p2 ≤ 0 from some'.1 hj)]
    · have a : 0 < p1 ∧ 0 < p2 := both.1 hp
      rw [if_neg (by omega), if_pos (show 100 * q1 < p1 ∨ 100 * q2 < p2 from some'.1 hj)]
    · have a : (0 < p1 ∧ p1 ≤ 100 * q1) ∧ (0 < p2 ∧ p2 ≤ 100 * q2) := both.1 hp
      rw [if_neg (by omega), if_neg (by omega)]
theorem refLg_of {L G : Rat → Nat → Rat} {X : Int → Int → Nat → Rat} (hE : GEnv L G X) {n d : Int} (h : StIn n d) {b : Nat} (b0 : 8 ≤ b) (b1 : b ≤ 400) : RefLg n d b (X n d) := by
  have d0 := h.d0
  have n0 := h.n0
  have q0 : 0 ≤ n / d := Int.ediv_nonneg (by omega) (by omega)
  have q1 : n / d < 202 := Int.ediv_lt_of_lt_mul d0 (by have := h.up; omega)
  obtain ⟨z, hz⟩ : ∃ z : Nat, (z : Int) = 2 * (n / d) + 2 * (b : Int) + 64 := ⟨(2 * (n / d) + 2 * (b : Int) + 64).toNat, by omega⟩
  have x2 : 2 * n ≤ (z : Int) * d := by
    have f := dv_floor2 n d0
    have m := Int.mul_le_mul_of_nonneg_right (show 2 * (n / d + 1) ≤ (z : Int) by omega) (show 0 ≤ d by omega)
    have r : 2 * (n / d + 1) * d = 2 * ((n / d + 1) * d) := by grind
    omega
  intro w' x y hx hy
  exact refLogGamma w' x y n d b z hx hy ⟨n0, d0, h.dd, h.up, b0, b1, x2, by omega, by omega⟩ hE.lns (gam_ratio hE h) (hE.lg n d h) hz
theorem stIn_of {p q bt : Int} (h : gE1 p q bt = 0) : rok p q ∧ (8 ≤ bt ∧ bt ≤ 120) ∧ StIn p q := by
  unfold gE1 at h
  split at h
  · omega
  · rename_i k
    have k := Classical.not_not.1 k
    split at h
    · omega
    · split at h
      · omega
      · obtain ⟨r1, r2, r3, r4⟩ := k.1
        exact ⟨k.1, k.2, by omega, by omega, by omega, by omega⟩
theorem stIn_two {p1 q1 p2 q2 bt : Int} (h : gE2 p1 q1 p2 q2 bt = 0) : (rok p1 q1 ∧ rok p2 q2) ∧ StIn p1 q1 ∧ StIn p2 q2 ∧ StIn (p1 * q2 + p2 * q1) (q1 * q2) := by
  unfold gE2 at h
  split at h
  · omega
  · rename_i k
    have k := Classical.not_not.1 k
    split at h
    · omega
    · split at h
      · omega
      · obtain ⟨⟨⟨r1, r2, r3, r4⟩, s1, s2, s3, s4⟩, _⟩ := k
        have m1 := Int.mul_pos (show 0 < p1 by omega) (show 0 < q2 by omega)
        have m2 := Int.mul_pos (show 0 < p2 by omega) (show 0 < q1 by omega)
        have m3 := Int.mul_pos (show 0 < q1 by omega) (show 0 < q2 by omega)
        have m4 := Int.mul_le_mul r4 s4 (by omega) (by omega)
        have m5 := Int.mul_le_mul_of_nonneg_right (show p1 ≤ 100 * q1 by omega) (show 0 ≤ q2 by omega)
        have m6 := Int.mul_le_mul_of_nonneg_right (show p2 ≤ 100 * q2 by omega) (show 0 ≤ q1 by omega)
        have e1 : 100 * q1 * q2 = 100 * (q1 * q2) := by grind
        have e2 : 100 * q2 * q1 = 100 * (q1 * q2) := by grind
        exact ⟨⟨⟨r1, r2, r3, r4⟩, s1, s2, s3, s4⟩, ⟨by omega, by omega, by omega, by omega⟩, ⟨by omega, by omega, by omega, by omega⟩, ⟨by omega, by omega, by omega, by omega⟩⟩
theorem gE_two {p1 q1 p2 q2 bt : Int} (h : gE2 p1 q1 p2 q2 bt = 0) : gE1 p1 q1 bt = 0 := by
  unfold gE2 at h
  split at h
  · omega
  · rename_i k
    have k := Classical.not_not.1 k
    split at h
    · omega
    · split at h
      · omega
      · unfold gE1
        rw [if_neg (fun g => g ⟨k.1.1, k.2⟩), if_neg (by omega), if_neg (by omega)]
end Go.Proofs.YtgmnknmjainababGreat
namespace Go.Proofs.YtgmnknmjainababGreat
open Go.RowKit
attribute [local go_sem ↓] Go.wp_at_zero Go.wp_at_succ
open Ex
set_option maxRecDepth 100000 in
set_option maxHeartbeats 8000000 in
theorem law_lgs_bad (p1 q1 p2 q2 bt : Int) (w : World) (e1 e2 : Int) (h1 : gE1 p1 q1 bt = e1) (h2 : gE2 p1 q1 p2 q2 bt = e2) (n1 : e1 ≠ 0) (n2 : e2 ≠ 0) :
    Calls Tryz.prog 4 #[.agg #[.int .i64 p1, .int .i64 q1], .agg #[.int .i64 p2, .int .i64 q2], .int .i64 bt] w fun r w' => r = .returned (.bool true) ∧ Below w.heap.size w w' := by
  obtain ⟨W, hW⟩ : ∃ W, W = (w.alloc (.cells #[.int .i64 p1, .int .i64 q1] 23)).alloc (.cells #[.int .i64 p2, .int .i64 q2] 23) := ⟨_, rfl⟩
  have hBW : Below w.heap.size w W := by rw [hW]; exact bl2 _ _ _
  have A : RaC W w.heap.size p1 q1 := by rw [hW]; exact ⟨by simp [go_sem], by simp [go_sem]⟩
  have G : RaC W (w.heap.size + 1) p2 q2 := by rw [hW]; exact ⟨by simp [go_sem], by simp [go_sem]⟩
  obtain ⟨L0, GG, X, hE⟩ := genv_ex
  have HE := hide hE
  clear hE
  have HR1 := hide h1
  have HR2 := hide h2
  have c1 : (e1 == 0) = false := by simp [n1]
  have c2 : (e2 == 0) = false := by simp [n2]
  clear h1 h2
  have fA0 := A.c0
  have fA1 := A.c1
  have fAl := A.lt
  go_enter Tryz.func4, Tryz.ntmps4
  go_wp2_with fail
  rw [← hW]
  clear hW
  clear fA0 fA1 fAl
  refine (clga_bad p1 q1 bt _ (by rw [unhide HR1]; exact n1)).mono ?_
  rintro r w3 ⟨s, rfl, hsb, hsp, hb3⟩
  rw [unhide HR1]
  replace A := A.below hb3
  replace G := G.below hb3
  replace hBW := bthen hBW hb3
  clear hb3
  have HPs := hide hsp
  have HBs := hide hsb
  clear hsp hsb
  obtain ⟨V3, hV3⟩ : ∃ V, V = w3.alloc (.cells #[.bool s.ln, .slice s.la s.lN s.lc, .bool s.hn, .slice s.ha s.hN s.hc, .int .i64 s.bits] 28) := ⟨_, rfl⟩
  have bV3 : Below w3.heap.size w3 V3 := by rw [hV3]; exact bl1 _ _
  have S : SpC V3 w3.heap.size s := by rw [hV3]; exact spc_new w3 s _
  have fA0 := A.c0
  have fA1 := A.c1
  have fAl := A.lt
  have fG0 := G.c0
  have fG1 := G.c1
  have fGl := G.lt
  go_wp2_with fail
  rw [← hV3]
  clear hV3
  clear fA0 fA1 fAl fG0 fG1 fGl
  replace A := A.below bV3
  replace G := G.below bV3
  replace HPs := hide ((unhide HPs).below bV3)
  replace hBW := bthen hBW bV3
  clear bV3
  refine (clbe_bad p1 q1 p2 q2 bt _ (by rw [unhide HR2]; exact n2)).mono ?_
  rintro r w4 ⟨t, rfl, htb, htp, hb4⟩
  rw [unhide HR2]
  replace A := A.below hb4
  replace G := G.below hb4
  replace HPs := hide ((unhide HPs).below hb4)
  replace S := S.below hb4
  replace hBW := bthen hBW hb4
  clear hb4
  have HPt := hide htp
  have HBt := hide htb
  clear htp htb
  obtain ⟨V4, hV4⟩ : ∃ V, V = w4.alloc (.cells #[.bool t.ln, .slice t.la t.lN t.lc, .bool t.hn, .slice t.ha t.hN t.hc, .int .i64 t.bits] 28) := ⟨_, rfl⟩
  have bV4 : Below w4.heap.size w4 V4 := by rw [hV4]; exact bl1 _ _
  have T : SpC V4 w4.heap.size t := by rw [hV4]; exact spc_new w4 t _
  have fA0 := A.c0
  have fA1 := A.c1
  have fAl := A.lt
  have fG0 := G.c0
  have fG1 := G.c1
  have fGl := G.lt
  go_wp2_with fail
  rw [← hV4]
  clear hV4
  clear fA0 fA1 fAl fG0 fG1 fGl
  replace A := A.below bV4
  replace G := G.below bV4
  replace HPs := hide ((unhide HPs).below bV4)
  replace S := S.below bV4
  replace HPt := hide ((unhide HPt).below bV4)
  replace hBW := bthen hBW bV4
  clear bV4
  have HK := hide (show ∀ w', Below V4.heap.size V4 w' → (w'.cell? ⟨w.heap.size, 0, none⟩ = some (.int .i64 p1) ∧ w'.cell? ⟨w.heap.size, 1, none⟩ = some (.int .i64 q1) ∧ w'.cell? ⟨w.heap.size + 1, 0, none⟩ = some (.int .i64 p2) ∧ w'.cell? ⟨w.heap.size + 1, 1, none⟩ = some (.int .i64 q2)) from fun w' hB => ⟨(A.below hB).c0, (A.below hB).c1, (G.below hB).c0, (G.below hB).c1⟩)
  have hD0 : Below V4.heap.size V4 V4.drew := (Below.refl _ _).drew
  have lA := A.lt
  have lG := G.lt
  have dsz : V4.drew.heap.size = V4.heap.size := rfl
  go_cut [11, 12] (fun e f wx => e = .int .i64 e1 ∧ f = .int .i64 e2 ∧ Below V4.heap.size V4 wx)
  case first =>
    obtain ⟨x0, x1, x2, x3⟩ := unhide HK _ (Below.refl _ _)
    go_region_held3 (fun w' => w'.cell? ⟨w.heap.size, 0, none⟩ = some (.int .i64 p1) ∧ w'.cell? ⟨w.heap.size, 1, none⟩ = some (.int .i64 q1) ∧ w'.cell? ⟨w.heap.size + 1, 0, none⟩ = some (.int .i64 p2) ∧ w'.cell? ⟨w.heap.size + 1, 1, none⟩ = some (.int .i64 q2)) (exact unhide HK _ (by repeat' (first | with_reducible exact hD2 | with_reducible exact hD1 | with_reducible exact Below.refl _ _ | with_reducible refine Below.drew ?_ | with_reducible refine balloc ?_ _)))
      (first
        | (go_at_call 18; have hqq := hD1; refine (gammaReady_any bt _ 2 _ (fun j => if j = 0 then p1 else p2) (fun j => if j = 0 then q1 else q2) _ (by first | with_reducible exact rats2' _ _ rfl _ _ _ _ _ | with_reducible exact r2a | with_reducible exact r2b) (by omega)).mono ?_; rintro r' w6 ⟨z2, rfl, hz2, hb6'⟩; obtain rfl : e2 = z2 := ((gmE2_eq hz2).trans (unhide HR2)).symm; have hD2 : Below V4.heap.size V4 w6 := (by first | with_reducible exact bthen hD1 hb6' | with_reducible exact bthen (balloc hD1 _) hb6'))
        | (go_at_call 18; refine (gammaReady_any bt _ 1 _ (fun _ => p1) (fun _ => q1) _ (by first | with_reducible exact (rats1' V4 _ rfl _ _ _).below ((Below.refl _ _).drew) | with_reducible exact (rats1' V4 _ rfl _ _ _).below ((bl1 _ _).drew) | with_reducible exact (rats1' (V4.alloc _) _ (hs1 _ _) _ _ _).below ((Below.refl _ _).drew)) (by omega)).mono ?_; rintro r' w5 ⟨z1, rfl, hz1, hb5'⟩; obtain rfl : e1 = z1 := ((gmE1_eq hz1).trans (unhide HR1)).symm; have hD1 : Below V4.heap.size V4 w5 := (by first | with_reducible exact bthen ((bl1 _ _).drew) hb5' | with_reducible exact bthen ((bl2 _ _ _).drew) hb5'); (try with_reducible have r2a := ((rats2' V4 V4.heap.size rfl p1 q1 p2 q2 _).below ((bl1 _ _).drew)).below hb5'); (try with_reducible have r2b := ((rats2' (V4.alloc _) (V4.heap.size + 1) (hs1 _ _) p1 q1 p2 q2 _).below ((Below.refl _ _).drew)).below hb5')))
    all_goals
      go_wp2_with fail
      go_meet
      exact ⟨rfl, rfl, by first | with_reducible exact hD2 | (repeat' (first | with_reducible exact hD2 | with_reducible refine balloc ?_ _))⟩
  case rest =>
  obtain ⟨rfl, rfl, hb7⟩ := hcut
  obtain ⟨V7, h7x⟩ : ∃ V, V = wc := ⟨_, rfl⟩
  subst h7x
  replace A := A.below hb7
  replace G := G.below hb7
  replace HPs := hide ((unhide HPs).below hb7)
  replace S := S.below hb7
  replace HPt := hide ((unhide HPt).below hb7)
  replace T := T.below hb7
  replace hBW := bthen hBW hb7
  clear hb7 HK hD0 lA lG dsz
  obtain ⟨V8, hV8⟩ : ∃ V, V = (V7.alloc (.cells #[.bool false, .slice none 0 0, .bool false, .slice none 0 0, .int .i64 0] 36)).alloc (.cells #[.bool false, .slice none 0 0, .bool false, .slice none 0 0, .int .i64 0] 36) := ⟨_, rfl⟩
  have bV8 : Below V7.heap.size V7 V8 := by rw [hV8]; exact bl2 _ _ _
  have O : VrC V8 V7.heap.size (⟨false, none, 0, 0, false, none, 0, 0, 0⟩ : Sp) := by rw [hV8]; exact ⟨⟨by simp [go_sem], by simp [go_sem], by simp [go_sem], by simp [go_sem], by simp [go_sem]⟩, fun o => by simp [go_sem]⟩
  have U : VrC V8 (V7.heap.size + 1) (⟨false, none, 0, 0, false, none, 0, 0, 0⟩ : Sp) := by rw [hV8]; exact ⟨⟨by simp [go_sem], by simp [go_sem], by simp [go_sem], by simp [go_sem], by simp [go_sem]⟩, fun o => by simp [go_sem]⟩
  have lS7 := S.lt
  have lT7 := T.lt
  have lAV := A.lt
  have lGV := G.lt
  replace A := A.below bV8
  replace G := G.below bV8
  replace HPs := hide ((unhide HPs).below bV8)
  replace S := S.below bV8
  replace HPt := hide ((unhide HPt).below bV8)
  replace T := T.below bV8
  replace hBW := bthen hBW bV8
  clear bV8
  have lA := A.lt
  have lG := G.lt
  have fw0 := hBW.size
  have fS0 := S.c0
  have fS1 := S.c1
  have fS2 := S.c2
  have fS3 := S.c3
  have fS4 := S.c4
  have fSl := S.lt
  go_wp2_with fail
  rw [← hV8]
  clear hV8
  clear fS0 fS1 fS2 fS3 fS4 fSl
  refine (gammaBegun_any _).mono ?_
  rintro r w8 ⟨rfl, hb8⟩
  replace A := A.below hb8
  replace G := G.below hb8
  replace HPs := hide ((unhide HPs).below hb8)
  replace S := S.below hb8
  replace HPt := hide ((unhide HPt).below hb8)
  replace T := T.below hb8
  replace O := O.below hb8
  replace U := U.below hb8
  replace hBW := bthen hBW hb8
  clear hb8
  have lO := O.lt
  have lU := U.lt
  have oo := O.c
  obtain ⟨o0, o1, o2, o3, o4⟩ := oo
  have fS0 := S.c0
  have fS1 := S.c1
  have fS2 := S.c2
  have fS3 := S.c3
  have fS4 := S.c4
  have fSl := S.lt
  go_wp2_with fail
  clear fS0 fS1 fS2 fS3 fS4 fSl
  clear o0 o1 o2 o3 o4 lO lU
  refine (lawSure_bad _ s (⟨false, none, 0, 0, false, none, 0, 0, 0⟩ : Sp) _ _ _ (unhide HPs) (unhide HBs) n1).mono ?_
  rintro r w9 ⟨rfl, hb9⟩
  replace A := A.below hb9
  replace G := G.below hb9
  replace HPs := hide ((unhide HPs).below hb9)
  replace S := S.below hb9
  replace HPt := hide ((unhide HPt).below hb9)
  replace T := T.below hb9
  replace O := O.below hb9
  replace U := U.below hb9
  replace hBW := bthen hBW hb9
  clear hb9
  have lU := U.lt
  have uu := U.c
  obtain ⟨o0, o1, o2, o3, o4⟩ := uu
  have fT0 := T.c0
  have fT1 := T.c1
  have fT2 := T.c2
  have fT3 := T.c3
  have fT4 := T.c4
  have fTl := T.lt
  go_wp2_with fail
  clear fT0 fT1 fT2 fT3 fT4 fTl
  clear o0 o1 o2 o3 o4 lU
  refine (lawSure_bad _ t (⟨false, none, 0, 0, false, none, 0, 0, 0⟩ : Sp) _ _ _ (unhide HPt) (unhide HBt) n2).mono ?_
  rintro r w10 ⟨rfl, hb10⟩
  replace A := A.below hb10
  replace G := G.below hb10
  replace HPs := hide ((unhide HPs).below hb10)
  replace S := S.below hb10
  replace HPt := hide ((unhide HPt).below hb10)
  replace T := T.below hb10
  replace O := O.below hb10
  replace U := U.below hb10
  replace hBW := bthen hBW hb10
  clear hb10
  go_wp2_with fail
  exact bodyPost_ret (v := .bool true) (by simp [results, Tryz.results4]) rfl ⟨rfl, hBW⟩
set_option maxRecDepth 100000 in
set_option maxHeartbeats 8000000 in
theorem law_lgs_mid (p1 q1 p2 q2 bt : Int) (w : World) (e2 : Int) (h1 : gE1 p1 q1 bt = 0) (h2 : gE2 p1 q1 p2 q2 bt = e2) (n2 : e2 ≠ 0) :
    Calls Tryz.prog 4 #[.agg #[.int .i64 p1, .int .i64 q1], .agg #[.int .i64 p2, .int .i64 q2], .int .i64 bt] w fun r w' => r = .returned (.bool true) ∧ Below w.heap.size w w' := by
  obtain ⟨W, hW⟩ : ∃ W, W = (w.alloc (.cells #[.int .i64 p1, .int .i64 q1] 23)).alloc (.cells #[.int .i64 p2, .int .i64 q2] 23) := ⟨_, rfl⟩
  have hBW : Below w.heap.size w W := by rw [hW]; exact bl2 _ _ _
  have A : RaC W w.heap.size p1 q1 := by rw [hW]; exact ⟨by simp [go_sem], by simp [go_sem]⟩
  have G : RaC W (w.heap.size + 1) p2 q2 := by rw [hW]; exact ⟨by simp [go_sem], by simp [go_sem]⟩
  obtain ⟨L0, GG, X, hE⟩ := genv_ex
  have HE := hide hE
  clear hE
  have HR1 := hide h1
  have HR2 := hide h2
  have c2 : (e2 == 0) = false := by simp [n2]
  clear h1 h2
  obtain ⟨b, rfl⟩ : ∃ b : Nat, bt = (b : Int) := ⟨bt.toNat, by have := (stIn_of (unhide HR1)).2.1; omega⟩
  have hb5 : 8 ≤ b := by have := (stIn_of (unhide HR1)).2.1; omega
  have hb6 : b ≤ 120 := by have := (stIn_of (unhide HR1)).2.1; omega
  have HW := hide (show IntKind.i64.wrap ((b : Int) + 16) = ((b + 16 : Nat) : Int) from (i64_id _ (by omega) (by omega)).trans (by omega))
  have HW2 := hide (show ((b : Int) + 16) = ((b + 16 : Nat) : Int) by omega)
  have fA0 := A.c0
  have fA1 := A.c1
  have fAl := A.lt
  go_enter Tryz.func4, Tryz.ntmps4
  go_wp2_with fail
  rw [← hW]
  clear hW
  clear fA0 fA1 fAl
  refine (clga_ok L0 GG X (unhide HE) p1 q1 b _ (unhide HR1)).mono ?_
  rintro r w3 ⟨L1, H1, hv, s, rfl, hsb, hsp, hb3⟩
  have HVs := hide hv
  clear hv
  replace A := A.below hb3
  replace G := G.below hb3
  replace hBW := bthen hBW hb3
  clear hb3
  have HPs := hide hsp
  have HBs := hide hsb
  clear hsp hsb
  obtain ⟨V3, hV3⟩ : ∃ V, V = w3.alloc (.cells #[.bool s.ln, .slice s.la s.lN s.lc, .bool s.hn, .slice s.ha s.hN s.hc, .int .i64 s.bits] 28) := ⟨_, rfl⟩
  have bV3 : Below w3.heap.size w3 V3 := by rw [hV3]; exact bl1 _ _
  have S : SpC V3 w3.heap.size s := by rw [hV3]; exact spc_new w3 s _
  have fA0 := A.c0
  have fA1 := A.c1
  have fAl := A.lt
  have fG0 := G.c0
  have fG1 := G.c1
  have fGl := G.lt
  go_wp2_with fail
  rw [← hV3]
  clear hV3
  clear fA0 fA1 fAl fG0 fG1 fGl
  replace A := A.below bV3
  replace G := G.below bV3
  replace HPs := hide ((unhide HPs).below bV3)
  replace hBW := bthen hBW bV3
  clear bV3
  refine (clbe_bad p1 q1 p2 q2 (b : Int) _ (by rw [unhide HR2]; exact n2)).mono ?_
  rintro r w4 ⟨t, rfl, htb, htp, hb4⟩
  rw [unhide HR2]
  replace A := A.below hb4
  replace G := G.below hb4
  replace HPs := hide ((unhide HPs).below hb4)
  replace S := S.below hb4
  replace hBW := bthen hBW hb4
  clear hb4
  have HPt := hide htp
  have HBt := hide htb
  clear htp htb
  obtain ⟨V4, hV4⟩ : ∃ V, V = w4.alloc (.cells #[.bool t.ln, .slice t.la t.lN t.lc, .bool t.hn, .slice t.ha t.hN t.hc, .int .i64 t.bits] 28) := ⟨_, rfl⟩
  have bV4 : Below w4.heap.size w4 V4 := by rw [hV4]; exact bl1 _ _
  have T : SpC V4 w4.heap.size t := by rw [hV4]; exact spc_new w4 t _
  have fA0 := A.c0
  have fA1 := A.c1
  have fAl := A.lt
  have fG0 := G.c0
  have fG1 := G.c1
  have fGl := G.lt
  go_wp2_with fail
  rw [← hV4]
  clear hV4
  clear fA0 fA1 fAl fG0 fG1 fGl
  replace A := A.below bV4
  replace G := G.below bV4
  replace HPs := hide ((unhide HPs).below bV4)
  replace S := S.below bV4
  replace HPt := hide ((unhide HPt).below bV4)
  replace hBW := bthen hBW bV4
  clear bV4
  have HK := hide (show ∀ w', Below V4.heap.size V4 w' → (w'.cell? ⟨w.heap.size, 0, none⟩ = some (.int .i64 p1) ∧ w'.cell? ⟨w.heap.size, 1, none⟩ = some (.int .i64 q1) ∧ w'.cell? ⟨w.heap.size + 1, 0, none⟩ = some (.int .i64 p2) ∧ w'.cell? ⟨w.heap.size + 1, 1, none⟩ = some (.int .i64 q2)) from fun w' hB => ⟨(A.below hB).c0, (A.below hB).c1, (G.below hB).c0, (G.below hB).c1⟩)
  have hD0 : Below V4.heap.size V4 V4.drew := (Below.refl _ _).drew
  have lA := A.lt
  have lG := G.lt
  have dsz : V4.drew.heap.size = V4.heap.size := rfl
  go_cut [11, 12] (fun e f wx => e = .int .i64 0 ∧ f = .int .i64 e2 ∧ Below V4.heap.size V4 wx)
  case first =>
    obtain ⟨x0, x1, x2, x3⟩ := unhide HK _ (Below.refl _ _)
    go_region_held3 (fun w' => w'.cell? ⟨w.heap.size, 0, none⟩ = some (.int .i64 p1) ∧ w'.cell? ⟨w.heap.size, 1, none⟩ = some (.int .i64 q1) ∧ w'.cell? ⟨w.heap.size + 1, 0, none⟩ = some (.int .i64 p2) ∧ w'.cell? ⟨w.heap.size + 1, 1, none⟩ = some (.int .i64 q2)) (exact unhide HK _ (by repeat' (first | with_reducible exact hD2 | with_reducible exact hD1 | with_reducible exact Below.refl _ _ | with_reducible refine Below.drew ?_ | with_reducible refine balloc ?_ _)))
      (first
        | (go_at_call 18; have hqq := hD1; refine (gammaReady_any (b : Int) _ 2 _ (fun j => if j = 0 then p1 else p2) (fun j => if j = 0 then q1 else q2) _ (by first | with_reducible exact rats2' _ _ rfl _ _ _ _ _ | with_reducible exact r2a | with_reducible exact r2b) (by omega)).mono ?_; rintro r' w6 ⟨z2, rfl, hz2, hb6'⟩; obtain rfl : e2 = z2 := ((gmE2_eq hz2).trans (unhide HR2)).symm; have hD2 : Below V4.heap.size V4 w6 := (by first | with_reducible exact bthen hD1 hb6' | with_reducible exact bthen (balloc hD1 _) hb6'))
        | (go_at_call 18; refine (gammaReady_any (b : Int) _ 1 _ (fun _ => p1) (fun _ => q1) _ (by first | with_reducible exact (rats1' V4 _ rfl _ _ _).below ((Below.refl _ _).drew) | with_reducible exact (rats1' V4 _ rfl _ _ _).below ((bl1 _ _).drew) | with_reducible exact (rats1' (V4.alloc _) _ (hs1 _ _) _ _ _).below ((Below.refl _ _).drew)) (by omega)).mono ?_; rintro r' w5 ⟨z1, rfl, hz1, hb5'⟩; obtain rfl : 0 = z1 := ((gmE1_eq hz1).trans (unhide HR1)).symm; have hD1 : Below V4.heap.size V4 w5 := (by first | with_reducible exact bthen ((bl1 _ _).drew) hb5' | with_reducible exact bthen ((bl2 _ _ _).drew) hb5'); (try with_reducible have r2a := ((rats2' V4 V4.heap.size rfl p1 q1 p2 q2 _).below ((bl1 _ _).drew)).below hb5'); (try with_reducible have r2b := ((rats2' (V4.alloc _) (V4.heap.size + 1) (hs1 _ _) p1 q1 p2 q2 _).below ((Below.refl _ _).drew)).below hb5')))
    all_goals
      go_wp2_with fail
      go_meet
      exact ⟨rfl, rfl, by first | with_reducible exact hD2 | (repeat' (first | with_reducible exact hD2 | with_reducible refine balloc ?_ _))⟩
  case rest =>
  obtain ⟨rfl, rfl, hb7⟩ := hcut
  obtain ⟨V7, h7x⟩ : ∃ V, V = wc := ⟨_, rfl⟩
  subst h7x
  replace A := A.below hb7
  replace G := G.below hb7
  replace HPs := hide ((unhide HPs).below hb7)
  replace S := S.below hb7
  replace HPt := hide ((unhide HPt).below hb7)
  replace T := T.below hb7
  replace hBW := bthen hBW hb7
  clear hb7 HK hD0 lA lG dsz
  obtain ⟨V8, hV8⟩ : ∃ V, V = (V7.alloc (.cells #[.bool false, .slice none 0 0, .bool false, .slice none 0 0, .int .i64 0] 36)).alloc (.cells #[.bool false, .slice none 0 0, .bool false, .slice none 0 0, .int .i64 0] 36) := ⟨_, rfl⟩
  have bV8 : Below V7.heap.size V7 V8 := by rw [hV8]; exact bl2 _ _ _
  have O : VrC V8 V7.heap.size (⟨false, none, 0, 0, false, none, 0, 0, 0⟩ : Sp) := by rw [hV8]; exact ⟨⟨by simp [go_sem], by simp [go_sem], by simp [go_sem], by simp [go_sem], by simp [go_sem]⟩, fun o => by simp [go_sem]⟩
  have U : VrC V8 (V7.heap.size + 1) (⟨false, none, 0, 0, false, none, 0, 0, 0⟩ : Sp) := by rw [hV8]; exact ⟨⟨by simp [go_sem], by simp [go_sem], by simp [go_sem], by simp [go_sem], by simp [go_sem]⟩, fun o => by simp [go_sem]⟩
  have lS7 := S.lt
  have lT7 := T.lt
  have lAV := A.lt
  have lGV := G.lt
  have fA0 := A.c0
  have fA1 := A.c1
  have fAl := A.lt
  go_wp2_with fail
  rw [← hV8]
  clear hV8
  clear fA0 fA1 fAl
  replace A := A.below bV8
  replace G := G.below bV8
  replace HPs := hide ((unhide HPs).below bV8)
  replace S := S.below bV8
  replace HPt := hide ((unhide HPt).below bV8)
  replace T := T.below bV8
  replace hBW := bthen hBW bV8
  clear bV8
  have lA := A.lt
  have lG := G.lt
  have fw0 := hBW.size
  (first | rw [unhide HW] | rw [unhide HW2])
  refine (refLogGammaOf _ p1 q1 (b + 16) (X p1 q1) (stIn_of (unhide HR1)).1 (refLg_of (unhide HE) (stIn_of (unhide HR1)).2.2 (by omega) (by omega))).mono ?_
  rintro r w8 ⟨a1, b1, i1, u1, rfl, hub1, hp1, hb8⟩
  have HT1 := hide (touch_up (b := b) (i := 16) (unhide HVs).val i1)
  have HBu := hide hub1
  clear hub1 i1
  replace A := A.below hb8
  replace G := G.below hb8
  replace HPs := hide ((unhide HPs).below hb8)
  replace S := S.below hb8
  replace HPt := hide ((unhide HPt).below hb8)
  replace T := T.below hb8
  replace O := O.below hb8
  replace U := U.below hb8
  replace hBW := bthen hBW hb8
  clear hb8
  obtain ⟨V9, hV9⟩ : ∃ V, V = put5w w8 V7.heap.size u1 := ⟨_, rfl⟩
  have bS : Below w.heap.size w V9 := by rw [hV9]; exact set5 hBW (by omega) _ _ _ _ _
  have O9 : VrC V9 V7.heap.size u1 := by rw [hV9]; exact O.put u1
  have U9 : VrC V9 (V7.heap.size + 1) (⟨false, none, 0, 0, false, none, 0, 0, 0⟩ : Sp) := by rw [hV9]; exact U.off (by omega) u1
  have A9 : RaC V9 w.heap.size p1 q1 := by rw [hV9]; exact ⟨cell_put5 A.c0 (by omega) _ _ _ _ _, cell_put5 A.c1 (by omega) _ _ _ _ _⟩
  have G9 : RaC V9 (w.heap.size + 1) p2 q2 := by rw [hV9]; exact ⟨cell_put5 G.c0 (by omega) _ _ _ _ _, cell_put5 G.c1 (by omega) _ _ _ _ _⟩
  have S9 : SpC V9 w3.heap.size s := by rw [hV9]; exact S.off (by omega) u1
  have T9 : SpC V9 w4.heap.size t := by rw [hV9]; exact T.off (by omega) u1
  have P9 := hide (show SpAt V9 u1 70002 a1 b1 by rw [hV9]; exact (hp1.put O.c u1).mono (by omega))
  have HPs9 := hide (show SpAt V9 s 250 L1 H1 by rw [hV9]; exact (unhide HPs).put O.c u1)
  have HPt9 := hide (show SpAt V9 t 250 0 0 by rw [hV9]; exact (unhide HPt).put O.c u1)
  unfold put5w at hV9
  have lO := O.lt
  have zz := O
  obtain ⟨⟨o0, o1, o2, o3, o4⟩, o5⟩ := zz
  clear hp1
  clear O U S T HPs HPt A G
  go_wp2_with fail
  rw [← hV9]
  clear hV9 o0 o1 o2 o3 o4 o5 lO
  clear hBW
  have hBW := bS
  have S := S9
  have T := T9
  have O := O9
  have U := U9
  have A := A9
  have G := G9
  have HPs := HPs9
  have HPt := HPt9
  have HPu := P9
  clear bS S9 T9 O9 U9 A9 G9 HPs9 HPt9 P9
  refine (gammaBegun_any _).mono ?_
  rintro r w12 ⟨rfl, hb12⟩
  replace A := A.below hb12
  replace G := G.below hb12
  replace S := S.below hb12
  replace T := T.below hb12
  replace O := O.below hb12
  replace U := U.below hb12
  replace HPs := hide ((unhide HPs).below hb12)
  replace HPt := hide ((unhide HPt).below hb12)
  replace HPu := hide ((unhide HPu).below hb12)
  replace hBW := bthen hBW hb12
  clear hb12
  have lO := O.lt
  have oo := O.c
  obtain ⟨o0, o1, o2, o3, o4⟩ := oo
  have fS0 := S.c0
  have fS1 := S.c1
  have fS2 := S.c2
  have fS3 := S.c3
  have fS4 := S.c4
  have fSl := S.lt
  go_wp2_with fail
  clear fS0 fS1 fS2 fS3 fS4 fSl
  clear o0 o1 o2 o3 o4 lO
  refine (lawSure_ok _ s u1 b 16 70002 L1 H1 _ _ (unhide HPs) (unhide HPu) (by omega) (by omega) (unhide HBs) (by omega) (unhide HVs).le (by omega) (by omega) (unhide HBu) (unhide HVs).nar (unhide HT1)).mono ?_
  rintro r w13 ⟨rfl, hb13⟩
  replace A := A.below hb13
  replace G := G.below hb13
  replace S := S.below hb13
  replace T := T.below hb13
  replace O := O.below hb13
  replace U := U.below hb13
  replace HPs := hide ((unhide HPs).below hb13)
  replace HPt := hide ((unhide HPt).below hb13)
  replace HPu := hide ((unhide HPu).below hb13)
  replace hBW := bthen hBW hb13
  clear hb13
  have lU := U.lt
  have uu := U.c
  obtain ⟨o0, o1, o2, o3, o4⟩ := uu
  have fT0 := T.c0
  have fT1 := T.c1
  have fT2 := T.c2
  have fT3 := T.c3
  have fT4 := T.c4
  have fTl := T.lt
  go_wp2_with fail
  clear fT0 fT1 fT2 fT3 fT4 fTl
  clear o0 o1 o2 o3 o4 lU
  refine (lawSure_bad _ t (⟨false, none, 0, 0, false, none, 0, 0, 0⟩ : Sp) _ _ _ (unhide HPt) (unhide HBt) n2).mono ?_
  rintro r w14 ⟨rfl, hb14⟩
  replace A := A.below hb14
  replace G := G.below hb14
  replace S := S.below hb14
  replace T := T.below hb14
  replace O := O.below hb14
  replace U := U.below hb14
  replace HPs := hide ((unhide HPs).below hb14)
  replace HPt := hide ((unhide HPt).below hb14)
  replace HPu := hide ((unhide HPu).below hb14)
  replace hBW := bthen hBW hb14
  clear hb14
  go_wp2_with fail
  exact bodyPost_ret (v := .bool true) (by simp [results, Tryz.results4]) rfl ⟨rfl, hBW⟩
set_option maxRecDepth 100000 in
set_option maxHeartbeats 8000000 in
theorem law_lgs_ok (p1 q1 p2 q2 bt : Int) (w : World) (h2 : gE2 p1 q1 p2 q2 bt = 0) :
    Calls Tryz.prog 4 #[.agg #[.int .i64 p1, .int .i64 q1], .agg #[.int .i64 p2, .int .i64 q2], .int .i64 bt] w fun r w' => r = .returned (.bool true) ∧ Below w.heap.size w w' := by
  obtain ⟨W, hW⟩ : ∃ W, W = (w.alloc (.cells #[.int .i64 p1, .int .i64 q1] 23)).alloc (.cells #[.int .i64 p2, .int .i64 q2] 23) := ⟨_, rfl⟩
  have hBW : Below w.heap.size w W := by rw [hW]; exact bl2 _ _ _
  have A : RaC W w.heap.size p1 q1 := by rw [hW]; exact ⟨by simp [go_sem], by simp [go_sem]⟩
  have G : RaC W (w.heap.size + 1) p2 q2 := by rw [hW]; exact ⟨by simp [go_sem], by simp [go_sem]⟩
  obtain ⟨L0, GG, X, hE⟩ := genv_ex
  have HE := hide hE
  clear hE
  have HR2 := hide h2
  have HR1 := hide (gE_two h2)
  clear h2
  obtain ⟨b, rfl⟩ : ∃ b : Nat, bt = (b : Int) := ⟨bt.toNat, by have := (stIn_of (unhide HR1)).2.1; omega⟩
  have hb5 : 8 ≤ b := by have := (stIn_of (unhide HR1)).2.1; omega
  have hb6 : b ≤ 120 := by have := (stIn_of (unhide HR1)).2.1; omega
  have HW := hide (show IntKind.i64.wrap ((b : Int) + 16) = ((b + 16 : Nat) : Int) from (i64_id _ (by omega) (by omega)).trans (by omega))
  have HW2 := hide (show ((b : Int) + 16) = ((b + 16 : Nat) : Int) by omega)
  have fA0 := A.c0
  have fA1 := A.c1
  have fAl := A.lt
  go_enter Tryz.func4, Tryz.ntmps4
  go_wp2_with fail
  rw [← hW]
  clear hW
  clear fA0 fA1 fAl
  refine (clga_ok L0 GG X (unhide HE) p1 q1 b _ (unhide HR1)).mono ?_
  rintro r w3 ⟨L1, H1, hv, s, rfl, hsb, hsp, hb3⟩
  have HVs := hide hv
  clear hv
  replace A := A.below hb3
  replace G := G.below hb3
  replace hBW := bthen hBW hb3
  clear hb3
  have HPs := hide hsp
  have HBs := hide hsb
  clear hsp hsb
  obtain ⟨V3, hV3⟩ : ∃ V, V = w3.alloc (.cells #[.bool s.ln, .slice s.la s.lN s.lc, .bool s.hn, .slice s.ha s.hN s.hc, .int .i64 s.bits] 28) := ⟨_, rfl⟩
  have bV3 : Below w3.heap.size w3 V3 := by rw [hV3]; exact bl1 _ _
  have S : SpC V3 w3.heap.size s := by rw [hV3]; exact spc_new w3 s _
  have fA0 := A.c0
  have fA1 := A.c1
  have fAl := A.lt
  have fG0 := G.c0
  have fG1 := G.c1
  have fGl := G.lt
  go_wp2_with fail
  rw [← hV3]
  clear hV3
  clear fA0 fA1 fAl fG0 fG1 fGl
  replace A := A.below bV3
  replace G := G.below bV3
  replace HPs := hide ((unhide HPs).below bV3)
  replace hBW := bthen hBW bV3
  clear bV3
  refine (clbe_ok L0 GG X (unhide HE) p1 q1 p2 q2 b _ (unhide HR2)).mono ?_
  rintro r w4 ⟨L2, H2, hv, t, rfl, htb, htp, hb4⟩
  have HVt := hide hv
  clear hv
  replace A := A.below hb4
  replace G := G.below hb4
  replace HPs := hide ((unhide HPs).below hb4)
  replace S := S.below hb4
  replace hBW := bthen hBW hb4
  clear hb4
  have HPt := hide htp
  have HBt := hide htb
  clear htp htb
  obtain ⟨V4, hV4⟩ : ∃ V, V = w4.alloc (.cells #[.bool t.ln, .slice t.la t.lN t.lc, .bool t.hn, .slice t.ha t.hN t.hc, .int .i64 t.bits] 28) := ⟨_, rfl⟩
  have bV4 : Below w4.heap.size w4 V4 := by rw [hV4]; exact bl1 _ _
  have T : SpC V4 w4.heap.size t := by rw [hV4]; exact spc_new w4 t _
  have fA0 := A.c0
  have fA1 := A.c1
  have fAl := A.lt
  have fG0 := G.c0
  have fG1 := G.c1
  have fGl := G.lt
  go_wp2_with fail
  rw [← hV4]
  clear hV4
  clear fA0 fA1 fAl fG0 fG1 fGl
  replace A := A.below bV4
  replace G := G.below bV4
  replace HPs := hide ((unhide HPs).below bV4)
  replace S := S.below bV4
  replace HPt := hide ((unhide HPt).below bV4)
  replace hBW := bthen hBW bV4
  clear bV4
  have HK := hide (show ∀ w', Below V4.heap.size V4 w' → (w'.cell? ⟨w.heap.size, 0, none⟩ = some (.int .i64 p1) ∧ w'.cell? ⟨w.heap.size, 1, none⟩ = some (.int .i64 q1) ∧ w'.cell? ⟨w.heap.size + 1, 0, none⟩ = some (.int .i64 p2) ∧ w'.cell? ⟨w.heap.size + 1, 1, none⟩ = some (.int .i64 q2)) from fun w' hB => ⟨(A.below hB).c0, (A.below hB).c1, (G.below hB).c0, (G.below hB).c1⟩)
  have hD0 : Below V4.heap.size V4 V4.drew := (Below.refl _ _).drew
  have lA := A.lt
  have lG := G.lt
  have dsz : V4.drew.heap.size = V4.heap.size := rfl
  go_cut [11, 12] (fun e f wx => e = .int .i64 0 ∧ f = .int .i64 0 ∧ Below V4.heap.size V4 wx)
  case first =>
    obtain ⟨x0, x1, x2, x3⟩ := unhide HK _ (Below.refl _ _)
    go_region_held3 (fun w' => w'.cell? ⟨w.heap.size, 0, none⟩ = some (.int .i64 p1) ∧ w'.cell? ⟨w.heap.size, 1, none⟩ = some (.int .i64 q1) ∧ w'.cell? ⟨w.heap.size + 1, 0, none⟩ = some (.int .i64 p2) ∧ w'.cell? ⟨w.heap.size + 1, 1, none⟩ = some (.int .i64 q2)) (exact unhide HK _ (by repeat' (first | with_reducible exact hD2 | with_reducible exact hD1 | with_reducible exact Below.refl _ _ | with_reducible refine Below.drew ?_ | with_reducible refine balloc ?_ _)))
      (first
        | (go_at_call 18; have hqq := hD1; refine (gammaReady_any (b : Int) _ 2 _ (fun j => if j = 0 then p1 else p2) (fun j => if j = 0 then q1 else q2) _ (by first | with_reducible exact rats2' _ _ rfl _ _ _ _ _ | with_reducible exact r2a | with_reducible exact r2b) (by omega)).mono ?_; rintro r' w6 ⟨z2, rfl, hz2, hb6'⟩; obtain rfl : 0 = z2 := ((gmE2_eq hz2).trans (unhide HR2)).symm; have hD2 : Below V4.heap.size V4 w6 := (by first | with_reducible exact bthen hD1 hb6' | with_reducible exact bthen (balloc hD1 _) hb6'))
        | (go_at_call 18; refine (gammaReady_any (b : Int) _ 1 _ (fun _ => p1) (fun _ => q1) _ (by first | with_reducible exact (rats1' V4 _ rfl _ _ _).below ((Below.refl _ _).drew) | with_reducible exact (rats1' V4 _ rfl _ _ _).below ((bl1 _ _).drew) | with_reducible exact (rats1' (V4.alloc _) _ (hs1 _ _) _ _ _).below ((Below.refl _ _).drew)) (by omega)).mono ?_; rintro r' w5 ⟨z1, rfl, hz1, hb5'⟩; obtain rfl : 0 = z1 := ((gmE1_eq hz1).trans (unhide HR1)).symm; have hD1 : Below V4.heap.size V4 w5 := (by first | with_reducible exact bthen ((bl1 _ _).drew) hb5' | with_reducible exact bthen ((bl2 _ _ _).drew) hb5'); (try with_reducible have r2a := ((rats2' V4 V4.heap.size rfl p1 q1 p2 q2 _).below ((bl1 _ _).drew)).below hb5'); (try with_reducible have r2b := ((rats2' (V4.alloc _) (V4.heap.size + 1) (hs1 _ _) p1 q1 p2 q2 _).below ((Below.refl _ _).drew)).below hb5')))
    all_goals
      go_wp2_with fail
      go_meet
      exact ⟨rfl, rfl, by first | with_reducible exact hD2 | (repeat' (first | with_reducible exact hD2 | with_reducible refine balloc ?_ _))⟩
  case rest =>
  obtain ⟨rfl, rfl, hb7⟩ := hcut
  obtain ⟨V7, h7x⟩ : ∃ V, V = wc := ⟨_, rfl⟩
  subst h7x
  replace A := A.below hb7
  replace G := G.below hb7
  replace HPs := hide ((unhide HPs).below hb7)
  replace S := S.below hb7
  replace HPt := hide ((unhide HPt).below hb7)
  replace T := T.below hb7
  replace hBW := bthen hBW hb7
  clear hb7 HK hD0 lA lG dsz
  obtain ⟨V8, hV8⟩ : ∃ V, V = (V7.alloc (.cells #[.bool false, .slice none 0 0, .bool false, .slice none 0 0, .int .i64 0] 36)).alloc (.cells #[.bool false, .slice none 0 0, .bool false, .slice none 0 0, .int .i64 0] 36) := ⟨_, rfl⟩
  have bV8 : Below V7.heap.size V7 V8 := by rw [hV8]; exact bl2 _ _ _
  have O : VrC V8 V7.heap.size (⟨false, none, 0, 0, false, none, 0, 0, 0⟩ : Sp) := by rw [hV8]; exact ⟨⟨by simp [go_sem], by simp [go_sem], by simp [go_sem], by simp [go_sem], by simp [go_sem]⟩, fun o => by simp [go_sem]⟩
  have U : VrC V8 (V7.heap.size + 1) (⟨false, none, 0, 0, false, none, 0, 0, 0⟩ : Sp) := by rw [hV8]; exact ⟨⟨by simp [go_sem], by simp [go_sem], by simp [go_sem], by simp [go_sem], by simp [go_sem]⟩, fun o => by simp [go_sem]⟩
  have lS7 := S.lt
  have lT7 := T.lt
  have lAV := A.lt
  have lGV := G.lt
  have fA0 := A.c0
  have fA1 := A.c1
  have fAl := A.lt
  go_wp2_with fail
  rw [← hV8]
  clear hV8
  clear fA0 fA1 fAl
  replace A := A.below bV8
  replace G := G.below bV8
  replace HPs := hide ((unhide HPs).below bV8)
  replace S := S.below bV8
  replace HPt := hide ((unhide HPt).below bV8)
  replace T := T.below bV8
  replace hBW := bthen hBW bV8
  clear bV8
  have lA := A.lt
  have lG := G.lt
  have fw0 := hBW.size
  (first | rw [unhide HW] | rw [unhide HW2])
  refine (refLogGammaOf _ p1 q1 (b + 16) (X p1 q1) (stIn_of (unhide HR1)).1 (refLg_of (unhide HE) (stIn_of (unhide HR1)).2.2 (by omega) (by omega))).mono ?_
  rintro r w8 ⟨a1, b1, i1, u1, rfl, hub1, hp1, hb8⟩
  have HT1 := hide (touch_up (b := b) (i := 16) (unhide HVs).val i1)
  have HBu := hide hub1
  clear hub1 i1
  replace A := A.below hb8
  replace G := G.below hb8
  replace HPs := hide ((unhide HPs).below hb8)
  replace S := S.below hb8
  replace HPt := hide ((unhide HPt).below hb8)
  replace T := T.below hb8
  replace O := O.below hb8
  replace U := U.below hb8
  replace hBW := bthen hBW hb8
  clear hb8
  obtain ⟨V9, hV9⟩ : ∃ V, V = put5w w8 V7.heap.size u1 := ⟨_, rfl⟩
  have bS : Below w.heap.size w V9 := by rw [hV9]; exact set5 hBW (by omega) _ _ _ _ _
  have O9 : VrC V9 V7.heap.size u1 := by rw [hV9]; exact O.put u1
  have U9 : VrC V9 (V7.heap.size + 1) (⟨false, none, 0, 0, false, none, 0, 0, 0⟩ : Sp) := by rw [hV9]; exact U.off (by omega) u1
  have A9 : RaC V9 w.heap.size p1 q1 := by rw [hV9]; exact ⟨cell_put5 A.c0 (by omega) _ _ _ _ _, cell_put5 A.c1 (by omega) _ _ _ _ _⟩
  have G9 : RaC V9 (w.heap.size + 1) p2 q2 := by rw [hV9]; exact ⟨cell_put5 G.c0 (by omega) _ _ _ _ _, cell_put5 G.c1 (by omega) _ _ _ _ _⟩
  have S9 : SpC V9 w3.heap.size s := by rw [hV9]; exact S.off (by omega) u1
  have T9 : SpC V9 w4.heap.size t := by rw [hV9]; exact T.off (by omega) u1
  have P9 := hide (show SpAt V9 u1 70002 a1 b1 by rw [hV9]; exact (hp1.put O.c u1).mono (by omega))
  have HPs9 := hide (show SpAt V9 s 250 L1 H1 by rw [hV9]; exact (unhide HPs).put O.c u1)
  have HPt9 := hide (show SpAt V9 t 250 L2 H2 by rw [hV9]; exact (unhide HPt).put O.c u1)
  unfold put5w at hV9
  have lO := O.lt
  have zz := O
  obtain ⟨⟨o0, o1, o2, o3, o4⟩, o5⟩ := zz
  clear hp1
  have fA0 := A.c0
  have fA1 := A.c1
  have fAl := A.lt
  have fG0 := G.c0
  have fG1 := G.c1
  have fGl := G.lt
  clear O U S T HPs HPt
  go_wp2_with fail
  rw [← hV9]
  clear hV9 o0 o1 o2 o3 o4 o5 lO
  clear fA0 fA1 fAl fG0 fG1 fGl
  clear A G
  clear hBW
  have hBW := bS
  have S := S9
  have T := T9
  have O := O9
  have U := U9
  have A := A9
  have G := G9
  have HPs := HPs9
  have HPt := HPt9
  have HPu := P9
  clear bS S9 T9 O9 U9 A9 G9 HPs9 HPt9 P9
  have H3 := hide (stIn_two (unhide HR2))
  (first | rw [unhide HW] | rw [unhide HW2])
  refine (refLogBetaOf _ p1 q1 p2 q2 (b + 16) (X p1 q1) (X p2 q2) (X (p1 * q2 + p2 * q1) (q1 * q2)) (unhide H3).1.1 (unhide H3).1.2 (refLg_of (unhide HE) (unhide H3).2.1 (by omega) (by omega)) (refLg_of (unhide HE) (unhide H3).2.2.1 (by omega) (by omega)) (refLg_of (unhide HE) (unhide H3).2.2.2 (by omega) (by omega))).mono ?_
  rintro r w10 ⟨c1, d1, c2, d2, c3, d3, i1, i2, i3, u2, rfl, hub2, hp2, hb10⟩
  obtain ⟨y1, hy1⟩ : ∃ y, y = (subI (addI (c1, d1) (c2, d2)) (c3, d3)).1 := ⟨_, rfl⟩
  obtain ⟨y2, hy2⟩ : ∃ y, y = (subI (addI (c1, d1) (c2, d2)) (c3, d3)).2 := ⟨_, rfl⟩
  rw [← hy1, ← hy2] at hp2
  have HT2 := hide (show touB L2 H2 16 y1 y2 0 = true by rw [hy1, hy2]; exact touch_up (b := b) (i := 16) (unhide HVt).val ((i1.add i2).sub i3))
  have HBv := hide hub2
  clear hub2 i1 i2 i3 hy1 hy2
  replace A := A.below hb10
  replace G := G.below hb10
  replace S := S.below hb10
  replace T := T.below hb10
  replace O := O.below hb10
  replace U := U.below hb10
  replace HPs := hide ((unhide HPs).below hb10)
  replace HPt := hide ((unhide HPt).below hb10)
  replace HPu := hide ((unhide HPu).below hb10)
  replace hBW := bthen hBW hb10
  clear hb10
  obtain ⟨V11, hV11⟩ : ∃ V, V = put5w w10 (V7.heap.size + 1) u2 := ⟨_, rfl⟩
  have bS : Below w.heap.size w V11 := by rw [hV11]; exact set5 hBW (by omega) _ _ _ _ _
  have O9 : VrC V11 V7.heap.size u1 := by rw [hV11]; exact O.off (by omega) u2
  have U9 : VrC V11 (V7.heap.size + 1) u2 := by rw [hV11]; exact U.put u2
  have S9 : SpC V11 w3.heap.size s := by rw [hV11]; exact S.off (by omega) u2
  have T9 : SpC V11 w4.heap.size t := by rw [hV11]; exact T.off (by omega) u2
  have P9 := hide (show SpAt V11 u1 70002 a1 b1 by rw [hV11]; exact (unhide HPu).put U.c u2)
  have P10 := hide (show SpAt V11 u2 70002 y1 y2 by rw [hV11]; exact hp2.put U.c u2)
  have HPs9 := hide (show SpAt V11 s 250 L1 H1 by rw [hV11]; exact (unhide HPs).put U.c u2)
  have HPt9 := hide (show SpAt V11 t 250 L2 H2 by rw [hV11]; exact (unhide HPt).put U.c u2)
  unfold put5w at hV11
  have lO := U.lt
  have zz := U
  obtain ⟨⟨o0, o1, o2, o3, o4⟩, o5⟩ := zz
  clear hp2 O U S T HPs HPt HPu A G
  go_wp2_with fail
  rw [← hV11]
  clear hV11 o0 o1 o2 o3 o4 o5 lO hBW
  have hBW := bS
  have S := S9
  have T := T9
  have O := O9
  have U := U9
  have HPs := HPs9
  have HPt := HPt9
  have HPu := P9
  have HPv := P10
  clear bS S9 T9 O9 U9 HPs9 HPt9 P9 P10
  refine (gammaBegun_any _).mono ?_
  rintro r w12 ⟨rfl, hb12⟩
  replace S := S.below hb12
  replace T := T.below hb12
  replace O := O.below hb12
  replace U := U.below hb12
  replace HPs := hide ((unhide HPs).below hb12)
  replace HPt := hide ((unhide HPt).below hb12)
  replace HPu := hide ((unhide HPu).below hb12)
  replace HPv := hide ((unhide HPv).below hb12)
  replace hBW := bthen hBW hb12
  clear hb12
  have lO := O.lt
  have oo := O.c
  obtain ⟨o0, o1, o2, o3, o4⟩ := oo
  have fS0 := S.c0
  have fS1 := S.c1
  have fS2 := S.c2
  have fS3 := S.c3
  have fS4 := S.c4
  have fSl := S.lt
  go_wp2_with fail
  clear fS0 fS1 fS2 fS3 fS4 fSl
  clear o0 o1 o2 o3 o4 lO
  refine (lawSure_ok _ s u1 b 16 70002 L1 H1 _ _ (unhide HPs) (unhide HPu) (by omega) (by omega) (unhide HBs) (by omega) (unhide HVs).le (by omega) (by omega) (unhide HBu) (unhide HVs).nar (unhide HT1)).mono ?_
  rintro r w13 ⟨rfl, hb13⟩
  replace S := S.below hb13
  replace T := T.below hb13
  replace O := O.below hb13
  replace U := U.below hb13
  replace HPs := hide ((unhide HPs).below hb13)
  replace HPt := hide ((unhide HPt).below hb13)
  replace HPu := hide ((unhide HPu).below hb13)
  replace HPv := hide ((unhide HPv).below hb13)
  replace hBW := bthen hBW hb13
  clear hb13
  have lU := U.lt
  have uu := U.c
  obtain ⟨o0, o1, o2, o3, o4⟩ := uu
  have fT0 := T.c0
  have fT1 := T.c1
  have fT2 := T.c2
  have fT3 := T.c3
  have fT4 := T.c4
  have fTl := T.lt
  go_wp2_with fail
  clear fT0 fT1 fT2 fT3 fT4 fTl
  clear o0 o1 o2 o3 o4 lU
  refine (lawSure_ok _ t u2 b 16 70002 L2 H2 _ _ (unhide HPt) (unhide HPv) (by omega) (by omega) (unhide HBt) (by omega) (unhide HVt).le (by omega) (by omega) (unhide HBv) (unhide HVt).nar (unhide HT2)).mono ?_
  rintro r w14 ⟨rfl, hb14⟩
  replace S := S.below hb14
  replace T := T.below hb14
  replace O := O.below hb14
  replace U := U.below hb14
  replace HPs := hide ((unhide HPs).below hb14)
  replace HPt := hide ((unhide HPt).below hb14)
  replace HPu := hide ((unhide HPu).below hb14)
  replace HPv := hide ((unhide HPv).below hb14)
  replace hBW := bthen hBW hb14
  clear hb14
  go_wp2_with fail
  exact bodyPost_ret (v := .bool true) (by simp [results, Tryz.results4]) rfl ⟨rfl, hBW⟩
theorem law_gammaLogs (p1 q1 p2 q2 bt : Int) (w : World) :
    Calls Tryz.prog 4 #[.agg #[.int .i64 p1, .int .i64 q1], .agg #[.int .i64 p2, .int .i64 q2], .int .i64 bt] w fun r w' => r = .returned (.bool true) ∧ Below w.heap.size w w' := by
  by_cases h2 : gE2 p1 q1 p2 q2 bt = 0
  · exact law_lgs_ok p1 q1 p2 q2 bt w h2
  · by_cases h1 : gE1 p1 q1 bt = 0
    · exact law_lgs_mid p1 q1 p2 q2 bt w _ h1 rfl h2
    · exact law_lgs_bad p1 q1 p2 q2 bt w _ _ rfl rfl h1 h2
end Go.Proofs.YtgmnknmjainababGreat
namespace Go.Proofs.YtgmnknmjainababGreat
open Go.ChangeShapes Go.WideShapes Go.ChangeAt Go.RowKit
theorem Tryz.own : ownKnob Tryz.prog.godebug = none := by kernel_rfl
theorem Tryz.laidOut : laidOutB Tryz.prog = true := by kernel_rfl
theorem Tryz.cellsI : Tryz.prog.cellsOf 3 = 1 := by kernel_rfl
end Go.Proofs.YtgmnknmjainababGreat
