/-
  Texts Lgv, Gnb, Gil, Open: what they hold is told in the last text.
-/
import Derived.Test.YtgmnknmjainababRows
import Derived.ProofKit
import Derived.OpenShut
import Derived.SizedLaws
import Derived.ChangeOld
import Derived.Test.YtgmnknmjainababK24
set_option linter.unnecessarySimpa false
set_option linter.unusedSimpArgs false
set_option linter.unusedVariables false
namespace Go.Proofs.Ytgmnknmjainabab
open Go.RowKit
attribute [local go_sem ↓] Go.wp_at_zero Go.wp_at_succ
open Ex
def RefLh (n d : Int) (b : Nat) (X : Nat → Rat) : Prop := ∀ (w' : World) (x y : Nm), IntAt w' x.neg x.a x.n x.cap 20 n → IntAt w' y.neg y.a y.n y.cap 20 d → Calls Try.prog 64 #[.agg #[.bool x.neg, .slice x.a x.n x.cap], .agg #[.bool y.neg, .slice y.a y.n y.cap], .int .i64 b] w' (fun r w'' => ∃ lo hi, (Iv b (lo, hi) X ∧ Abs (lo, hi) (30000 * Q b)) ∧ SpanAns w' b 70000 lo hi r w'')
set_option maxRecDepth 100000 in
set_option maxHeartbeats 2000000 in
theorem refLogGammaOf2 (w : World) (p q : Int) (b : Nat) (X : Nat → Rat) (hr : rok p q) (h : RefLh p q b X) :
    Calls Try.prog 29 #[.agg #[.int .i64 p, .int .i64 q], .int .i64 b] w (fun r w' => ∃ lo hi, (Iv b (lo, hi) X ∧ Abs (lo, hi) (30000 * Q b)) ∧ SpanAns w b 70000 lo hi r w') := by
  obtain ⟨W, hW⟩ : ∃ W, W = (w.alloc (.cells #[.int .i64 p, .int .i64 q] 23)).alloc (.cells #[.bool false, .slice none 0 0, .bool false, .slice none 0 0, .int .i64 0] 36) := ⟨_, rfl⟩
  have hBW : Below w.heap.size w W := by rw [hW]; exact bl2 _ _ _
  have A : RaC W w.heap.size p q := by rw [hW]; exact ⟨by simp [go_sem], by simp [go_sem]⟩
  have R : NoC W (w.heap.size + 1) := by rw [hW]; exact ⟨by simp [go_sem], by simp [go_sem], by simp [go_sem], by simp [go_sem], by simp [go_sem], fun o => by simp [go_sem]⟩
  obtain ⟨r1, r2, r3, r4⟩ := hr
  have HL := hide h
  have lR := R.lt
  have lA := A.lt
  have HK := hide (show ∀ w', Below W.heap.size W w' → (w'.cell? ⟨w.heap.size, 0, none⟩ = some (.int .i64 p) ∧ w'.cell? ⟨w.heap.size, 1, none⟩ = some (.int .i64 q)) from fun w' hB => ⟨(A.below hB).c0, (A.below hB).c1⟩)
  clear A h
  go_enter Try.func29, Try.ntmps29
  go_wp2
  rw [← hW]
  clear hW
  have n10 : w.heap.size + 1 ≠ w.heap.size := by omega
  obtain ⟨x0, x1⟩ := unhide HK _ (Below.refl _ _)
  have hD0 : Below W.heap.size W W.drew := (Below.refl _ _).drew
  go_region_held3 (fun w' => w'.cell? ⟨w.heap.size, 0, none⟩ = some (.int .i64 p) ∧ w'.cell? ⟨w.heap.size, 1, none⟩ = some (.int .i64 q)) (first | exact unhide HK _ (by first | with_reducible exact hD0 | with_reducible exact hD3 | with_reducible exact hD2 | with_reducible exact hD1) | go_keep)
    (first
      | (go_at_call 64; have hqq := hD2; refine (unhide HL _ ⟨neg1, a1, n1, c1⟩ ⟨neg2, a2, n2, c2⟩ ((hint1.below hb2).mono (by omega)) (hint2.mono (by omega))).mono ?_; rintro r' w3 ⟨lo, hi, hiv, t, rfl, htb, htp, hb3⟩; have HT := hide htb; have HI := hide hiv; clear htb hiv; have hD3 := bthen hD2 hb3; obtain ⟨q0, q1, q2, q3, q4, q5⟩ := R.below hD3; obtain ⟨i0, i1⟩ := unhide HK _ hD3)
      | (go_at_call 48; have hqq := hD1; refine (numOf_int q _ (by omega) (by omega)).mono ?_; rintro r' w2 ⟨neg2, a2, n2, c2, rfl, hint2, hb2⟩; have hD2 := bthen hD1 hb2)
      | (go_at_call 48; refine (numOf_int p _ (by omega) (by omega)).mono ?_; rintro r' w1 ⟨neg1, a1, n1, c1, rfl, hint1, hb1⟩; have hD1 := bthen hD0 hb1))
  all_goals
    go_wp2_with fail
    refine bodyPost_ret (v := .agg #[.bool t.ln, .slice t.la t.lN t.lc, .bool t.hn, .slice t.ha t.hN t.hc, .int .i64 t.bits]) (by simp [results, Try.results29, go_sem, q0, q1, q2, q3, q4]) rfl ⟨lo, hi, unhide HI, t, rfl, unhide HT, ?_, ?_⟩
    · exact SpAt.put5 htp q0 q1 q2 q3 q4 _ _ _ _ _
    · exact set5 (bthen hBW hD3) (Nat.le_succ _) _ _ _ _ _
theorem gmE1_eq {bt p q z : Int} (h : GmE bt (fun _ => p) (fun _ => q) 1 z) : z = gE1 p q bt := by
  unfold gE1
  rcases h with ⟨h1, rfl⟩ | ⟨h1, h2⟩
  · rcases h1 with ⟨h3, _⟩ | ⟨_, h3⟩
    · omega
    · rw [if_pos (fun k => h3 ⟨k.2, fun _ _ => k.1⟩)]
  · have ok : rok p q ∧ 8 ≤ bt ∧ bt ≤ 120 := by
      rcases h1 with ⟨_, h3, h4⟩ | ⟨h3, _⟩
      · exact ⟨h4 0 (by omega), h3⟩
      · omega
    rw [if_neg (fun k => k ok)]
    rcases h2 with ⟨rfl, j, _, hj⟩ | ⟨rfl, hp, j, _, hj⟩ | ⟨rfl, hp⟩
    · rw [if_pos (show p ≤ 0 from hj)]
    · have h0 : 0 < p := hp 0 (by omega)
      rw [if_neg (by omega), if_pos (show 100 * q < p from hj)]
    · have h0 : 0 < p ∧ p ≤ 100 * q := hp 0 (by omega)
      rw [if_neg (by omega), if_neg (by omega)]
theorem stIn_of {p q bt : Int} (h : gE1 p q bt = 0) : rok p q ∧ (8 ≤ bt ∧ bt ≤ 120) ∧ StIn p q := by
  unfold gE1 at h
  split at h
  · omega
  · rename_i k
    have k := Classical.not_not.1 k
    split at h
    · omega
    · split at h
      · omega
      · obtain ⟨r1, r2, r3, r4⟩ := k.1
        exact ⟨k.1, k.2, by omega, by omega, by omega, by omega⟩
theorem refLh_of {L G : Rat → Nat → Rat} {X : Int → Int → Nat → Rat} (hE : GEnv L G X) {n d : Int} (h : StIn n d) {b : Nat} (b0 : 8 ≤ b) (b1 : b ≤ 400) : RefLh n d b (X n d) := by
  have d0 := h.d0
  have n0 := h.n0
  have q0 : 0 ≤ n / d := Int.ediv_nonneg (by omega) (by omega)
  have q1 : n / d < 202 := Int.ediv_lt_of_lt_mul d0 (by have := h.up; omega)
  obtain ⟨z, hz⟩ : ∃ z : Nat, (z : Int) = 2 * (n / d) + 2 * (b : Int) + 64 := ⟨(2 * (n / d) + 2 * (b : Int) + 64).toNat, by omega⟩
  have x2 : 2 * n ≤ (z : Int) * d := by
    have f := dv_floor2 n d0
    have m := Int.mul_le_mul_of_nonneg_right (show 2 * (n / d + 1) ≤ (z : Int) by omega) (show 0 ≤ d by omega)
    have r : 2 * (n / d + 1) * d = 2 * ((n / d + 1) * d) := by grind
    omega
  intro w' x y hx hy
  exact (refLogGamma w' x y n d b z hx hy ⟨n0, d0, h.dd, h.up, b0, b1, x2, by omega, by omega⟩ hE.lns (gam_ratio hE h) (hE.lg n d h) hz).mono fun r w'' ⟨lo, hi, h1, h3, h2⟩ => ⟨lo, hi, ⟨h1, h3⟩, h2⟩
theorem wh_abs {B : Nat} {x c : Int} (h1 : -(c * Q B) ≤ x) (h2 : x ≤ c * Q B) : wh x B ≤ c := by
  have q := Q_pos B
  unfold wh
  split
  · exact Int.ediv_le_of_le_mul (by omega) h2
  · exact Int.ediv_le_of_le_mul (by omega) (by omega)
theorem gReady1 (bt : Int) (w : World) (B : Nat) (hB : w.heap.size = B) (p q : Int) (T : TypeId) (cap : Nat) :
    Calls Try.prog 26 #[.int .i64 bt, .slice (some ⟨B, 0, none⟩) 1 cap] (w.alloc (.cells #[.int .i64 p, .int .i64 q] T)) fun r w' =>
      r = .returned (.int .i64 (gE1 p q bt)) ∧ Below w.heap.size w w' := by
  subst hB
  exact (gammaReady_any bt w.heap.size 1 cap (fun _ => p) (fun _ => q) _ (rats1 w p q T) (by omega)).mono fun r w' ⟨z, h1, h2, h3⟩ => by
    refine ⟨?_, (bl1 _ _).trans (h3.mono (by simp))⟩
    rw [h1, gmE1_eq h2]
theorem gi_tou {L G : Rat → Nat → Rat} {X : Int → Int → Nat → Rat} (hE : GEnv L G X) {p q : Int} (h : StIn p q) {b : Nat} {L1 H1 : Int} {o : Int × Int} (hv : SuV (gmV p q (G (gA p q))) b L1 H1) (ho : Iv (b + 40) o (Ev (X p q))) : touB L1 H1 40 o.1 o.2 0 = true :=
  touch_up (b := b) (i := 40) hv.val (ho.congr (Null.symm (hE.lg p q h).2))
theorem q_dbl {x y : Int} (h : 2 * x ≤ y) (hx : 1 ≤ x) : x < y := by omega
end Go.Proofs.Ytgmnknmjainabab
namespace Go.Proofs.Ytgmnknmjainabab
open Go.RowKit
attribute [local go_sem ↓] Go.wp_at_zero Go.wp_at_succ
set_option maxRecDepth 100000 in
set_option maxHeartbeats 4000000 in
theorem gammaBegun_any (w : World) :
    Calls Try.prog 27 #[] w fun r w' => r = .returned (.bool true) ∧ Below w.heap.size w w' := by
  obtain ⟨L0, G, X, hE⟩ := genv_ex
  have hBW : Below w.heap.size w w := Below.refl _ _
  have HE := hide hE
  have H5 := hide (show gE1 5 1 ((20 : Nat) : Int) = 0 from gE1_nat ⟨by omega, by omega, by omega, by omega⟩ (by omega) (by omega) (by omega) (by omega))
  have HT0 := hide (gm_five hE)
  clear hE
  go_enter Try.func27, Try.ntmps27
  go_wp2_with fail
  refine (cgam_ok L0 G X (unhide HE) 5 1 20 _ (unhide H5)).mono ?_
  rintro r' w1 ⟨L, H, hv, s, rfl, hsb, hsp, hb1⟩
  replace hBW := bthen hBW hb1
  clear hb1
  have HV := hide hv.1
  have HT := hide (tou_whole hv.1.val (unhide HT0))
  have HB := hide hsb
  have HP := hide hsp
  clear hv hsb hsp HT0
  obtain ⟨V1, hV1⟩ : ∃ V, V = w1.alloc (.cells #[.bool s.ln, .slice s.la s.lN s.lc, .bool s.hn, .slice s.ha s.hN s.hc, .int .i64 s.bits] 28) := ⟨_, rfl⟩
  have bV1 : Below w1.heap.size w1 V1 := by rw [hV1]; exact bl1 _ _
  have S : SpC V1 w1.heap.size s := by rw [hV1]; exact spc_new w1 s _
  have fS0 := S.c0
  have fS1 := S.c1
  have fS2 := S.c2
  have fS3 := S.c3
  have fS4 := S.c4
  have fSl := S.lt
  go_wp2_with fail
  rw [← hV1]
  clear hV1
  clear fS0 fS1 fS2 fS3 fS4 fSl
  replace HP := hide ((unhide HP).below bV1)
  replace hBW := bthen hBW bV1
  clear bV1
  refine (refOf_any _ s).mono ?_
  rintro r w2 ⟨rfl, hxx⟩
  replace HP := hide ((unhide HP).below hxx)
  replace S := S.below hxx
  replace hBW := bthen hBW hxx
  clear hxx
  go_wp2_with fail
  refine (refWhole _ 24 20 (by omega) (by omega) (by omega)).mono ?_
  rintro r w3 ⟨y, rfl, hxb, hxp, hxx⟩
  replace HP := hide ((unhide HP).below hxx)
  replace S := S.below hxx
  replace hBW := bthen hBW hxx
  clear hxx
  have HBy := hide hxb
  have HPy := hide (hxp.mono (show 20 / 16 + 18 ≤ 250 by omega))
  clear hxb hxp
  go_wp2_with fail
  refine (touch_le _ s y 250 0 0 _ _ _ _ (unhide HP) (unhide HPy) (by omega) (by have := unhide HB; omega) (by have := unhide HB; omega) (by have := unhide HBy; omega) (by have := unhide HBy; omega) (by have := unhide HB; have := unhide HBy; omega) (by have := unhide HB; omega) (by have := unhide HB; have := unhide HBy; omega)).mono ?_
  rintro r w4 ⟨rfl, hxx⟩
  rw [unhide HT]
  replace HP := hide ((unhide HP).below hxx)
  replace S := S.below hxx
  replace HPy := hide ((unhide HPy).below hxx)
  replace hBW := bthen hBW hxx
  clear hxx
  have fS0 := S.c0
  have fS1 := S.c1
  have fS2 := S.c2
  have fS3 := S.c3
  have fS4 := S.c4
  have fSl := S.lt
  go_wp2_with fail
  clear fS0 fS1 fS2 fS3 fS4 fSl
  refine (narrowBy_four _ s 20 L H (unhide HP) (unhide HB) (by omega) (unhide HV).le (unhide HV).nar).mono ?_
  rintro r w5 ⟨rfl, hxx⟩
  replace HP := hide ((unhide HP).below hxx)
  replace S := S.below hxx
  replace HPy := hide ((unhide HPy).below hxx)
  replace hBW := bthen hBW hxx
  clear hxx
  go_wp2_with fail
  exact bodyPost_ret (v := .bool true) (by simp [results, Try.results27]) rfl ⟨rfl, hBW⟩
end Go.Proofs.Ytgmnknmjainabab
namespace Go.Proofs.Ytgmnknmjainabab
open Go.RowKit
attribute [local go_sem ↓] Go.wp_at_zero Go.wp_at_succ
open Ex
set_option maxRecDepth 100000 in
set_option maxHeartbeats 8000000 in
theorem law_gi_bad (p q : Int) (bt : Int) (w : World) (e1 : Int) (h1 : gE1 p q bt = e1) (n1 : e1 ≠ 0) :
    Calls Try.prog 5 #[.agg #[.int .i64 p, .int .i64 q], .int .i64 bt] w fun r w' => r = .returned (.bool true) ∧ Below w.heap.size w w' := by
  obtain ⟨W, hW⟩ : ∃ W, W = w.alloc (.cells #[.int .i64 p, .int .i64 q] 23) := ⟨_, rfl⟩
  have hBW : Below w.heap.size w W := by rw [hW]; exact bl1 _ _
  have A : RaC W w.heap.size p q := by rw [hW]; exact rac_new w p q _
  have HR := hide h1
  have c1 : (e1 != 0) = true := by simp [n1]
  clear h1
  have fA0 := A.c0
  have fA1 := A.c1
  have fAl := A.lt
  go_enter Try.func5, Try.ntmps5
  go_wp2_with fail
  rw [← hW]
  clear hW
  clear fA0 fA1 fAl
  refine (cgam_bad p q bt _ (by rw [unhide HR]; exact n1)).mono ?_
  rintro r w3 ⟨s, rfl, hsb, hsp, hb3⟩
  rw [unhide HR]
  replace A := A.below hb3
  replace hBW := bthen hBW hb3
  clear hb3
  have HPs := hide hsp
  have HBs := hide hsb
  clear hsp hsb
  obtain ⟨V3, hV3⟩ : ∃ V, V = w3.alloc (.cells #[.bool s.ln, .slice s.la s.lN s.lc, .bool s.hn, .slice s.ha s.hN s.hc, .int .i64 s.bits] 28) := ⟨_, rfl⟩
  have bV3 : Below w3.heap.size w3 V3 := by rw [hV3]; exact bl1 _ _
  have S : SpC V3 w3.heap.size s := by rw [hV3]; exact spc_new w3 s _
  have hsz : V3.heap.size = w3.heap.size + 1 := by rw [hV3]; simp
  have fA0 := A.c0
  have fA1 := A.c1
  have fAl := A.lt
  go_wp2_with fail
  rw [← hV3]
  clear hV3
  clear fA0 fA1 fAl
  replace A := A.below bV3
  replace HPs := hide ((unhide HPs).below bV3)
  replace hBW := bthen hBW bV3
  clear bV3
  refine (gReady1 bt _ _ hsz p q _ _).mono ?_
  rintro r w5 ⟨rfl, hb5⟩
  rw [unhide HR]
  replace A := A.below hb5
  replace HPs := hide ((unhide HPs).below hb5)
  replace S := S.below hb5
  replace hBW := bthen hBW hb5
  clear hb5
  clear hsz
  go_wp2_with fail
  refine (gammaBegun_any _).mono ?_
  rintro r w6 ⟨rfl, hb6⟩
  replace A := A.below hb6
  replace HPs := hide ((unhide HPs).below hb6)
  replace S := S.below hb6
  replace hBW := bthen hBW hb6
  clear hb6
  have fS0 := S.c0
  have fS1 := S.c1
  have fS2 := S.c2
  have fS3 := S.c3
  have fS4 := S.c4
  have fSl := S.lt
  go_wp2_with fail
  clear fS0 fS1 fS2 fS3 fS4 fSl
  refine (lawSure_bad _ s ⟨false, none, 0, 0, false, none, 0, 0, 0⟩ _ _ _ (unhide HPs) (unhide HBs) n1).mono ?_
  rintro r w7 ⟨rfl, hb7⟩
  replace A := A.below hb7
  replace HPs := hide ((unhide HPs).below hb7)
  replace S := S.below hb7
  replace hBW := bthen hBW hb7
  clear hb7
  go_wp2_with fail
  exact bodyPost_ret (v := .bool true) (by simp [results, Try.results5]) rfl ⟨rfl, hBW⟩
set_option maxRecDepth 100000 in
set_option maxHeartbeats 8000000 in
theorem law_gi_ok (p q : Int) (b : Nat) (w : World) (h1 : gE1 p q (b : Int) = 0) :
    Calls Try.prog 5 #[.agg #[.int .i64 p, .int .i64 q], .int .i64 (b : Int)] w fun r w' => r = .returned (.bool true) ∧ Below w.heap.size w w' := by
  obtain ⟨W, hW⟩ : ∃ W, W = w.alloc (.cells #[.int .i64 p, .int .i64 q] 23) := ⟨_, rfl⟩
  have hBW : Below w.heap.size w W := by rw [hW]; exact bl1 _ _
  have A : RaC W w.heap.size p q := by rw [hW]; exact rac_new w p q _
  obtain ⟨L0, GG, X, hE⟩ := genv_ex
  have HE := hide hE
  have HR := hide h1
  have HST := hide (stIn_of h1)
  have h5 : 8 ≤ b := by have := (stIn_of h1).2.1; omega
  have h6 : b ≤ 120 := by have := (stIn_of h1).2.1; omega
  have HW := hide (show IntKind.i64.wrap ((b : Int) + 40) = ((b + 40 : Nat) : Int) from (i64_id _ (by omega) (by omega)).trans (by omega))
  have HW2 := hide (show ((b : Int) + 40) = ((b + 40 : Nat) : Int) by omega)
  have HQK := hide (show Q (b + 40 + 40 + 4 * (2 * 30000 + 1) + 20) < P 80000 by
    rw [← Q_P]
    have g1 := Q_mono (show b + 40 + 40 + 4 * (2 * 30000 + 1) + 20 + 1 ≤ 16 * 80000 by omega)
    have g2 : ∀ j, Q (j + 1) = 2 * Q j := fun _ => rfl
    rw [g2] at g1
    have := Q_pos (b + 40 + 40 + 4 * (2 * 30000 + 1) + 20)
    exact q_dbl g1 this)
  clear hE h1
  have fA0 := A.c0
  have fA1 := A.c1
  have fAl := A.lt
  go_enter Try.func5, Try.ntmps5
  go_wp2_with fail
  rw [← hW]
  clear hW
  clear fA0 fA1 fAl
  refine (cgam_ok L0 GG X (unhide HE) p q b _ (unhide HR)).mono ?_
  rintro r w3 ⟨L1, H1, hv, s, rfl, hxb, hxp, hxx⟩
  replace A := A.below hxx
  replace hBW := bthen hBW hxx
  clear hxx
  have HVs := hide hv.1
  have HBs := hide hxb
  have HPs := hide hxp
  clear hv hxb hxp
  obtain ⟨V3, hV3⟩ : ∃ V, V = w3.alloc (.cells #[.bool s.ln, .slice s.la s.lN s.lc, .bool s.hn, .slice s.ha s.hN s.hc, .int .i64 s.bits] 28) := ⟨_, rfl⟩
  have bV3 : Below w3.heap.size w3 V3 := by rw [hV3]; exact bl1 _ _
  have S : SpC V3 w3.heap.size s := by rw [hV3]; exact spc_new w3 s _
  have hsz : V3.heap.size = w3.heap.size + 1 := by rw [hV3]; simp
  have fA0 := A.c0
  have fA1 := A.c1
  have fAl := A.lt
  go_wp2_with fail
  rw [← hV3]
  clear hV3
  clear fA0 fA1 fAl
  replace A := A.below bV3
  replace HPs := hide ((unhide HPs).below bV3)
  replace hBW := bthen hBW bV3
  clear bV3
  refine (gReady1 (b : Int) _ _ hsz p q _ _).mono ?_
  rintro r w5 ⟨rfl, hb5⟩
  rw [unhide HR]
  replace A := A.below hb5
  replace HPs := hide ((unhide HPs).below hb5)
  replace S := S.below hb5
  replace hBW := bthen hBW hb5
  clear hb5
  clear hsz
  have HK := hide (show ∀ w', Below w5.heap.size w5 w' → (w'.cell? ⟨w.heap.size, 0, none⟩ = some (.int .i64 p) ∧ w'.cell? ⟨w.heap.size, 1, none⟩ = some (.int .i64 q) ∧ w'.cell? ⟨w3.heap.size, 0, none⟩ = some (.bool s.ln) ∧ w'.cell? ⟨w3.heap.size, 1, none⟩ = some (.slice s.la s.lN s.lc) ∧ w'.cell? ⟨w3.heap.size, 2, none⟩ = some (.bool s.hn) ∧ w'.cell? ⟨w3.heap.size, 3, none⟩ = some (.slice s.ha s.hN s.hc) ∧ w'.cell? ⟨w3.heap.size, 4, none⟩ = some (.int .i64 s.bits)) from fun w' hB => ⟨(A.below hB).c0, (A.below hB).c1, (S.below hB).c0, (S.below hB).c1, (S.below hB).c2, (S.below hB).c3, (S.below hB).c4⟩)
  have lA := A.lt
  have lS := S.lt
  clear S A
  go_wp2_with fail
  obtain ⟨x0, x1, y0, y1, y2, y3, y4⟩ := unhide HK _ (Below.refl _ _)
  have hD0 : Below w5.heap.size w5 w5.drew := (Below.refl _ _).drew
  go_region_held3 (fun w' => w'.cell? ⟨w.heap.size, 0, none⟩ = some (.int .i64 p) ∧ w'.cell? ⟨w.heap.size, 1, none⟩ = some (.int .i64 q) ∧ w'.cell? ⟨w3.heap.size, 0, none⟩ = some (.bool s.ln) ∧ w'.cell? ⟨w3.heap.size, 1, none⟩ = some (.slice s.la s.lN s.lc) ∧ w'.cell? ⟨w3.heap.size, 2, none⟩ = some (.bool s.hn) ∧ w'.cell? ⟨w3.heap.size, 3, none⟩ = some (.slice s.ha s.hN s.hc) ∧ w'.cell? ⟨w3.heap.size, 4, none⟩ = some (.int .i64 s.bits)) (first | exact unhide HK _ (by first | with_reducible exact hD0 | with_reducible exact hD4 | with_reducible exact hD3 | with_reducible exact hD2 | with_reducible exact hD1) | go_keep)
    (first
      | (go_at_call 13; have hq4 := hD3; refine (lawSure_ok _ s v b 40 80000 L1 H1 o.1 o.2 ((unhide HPs).below hD3) hv3 (by omega) (by omega) (unhide HBs) h6 (unhide HVs).le (by omega) (by omega) (unhide HBv) (unhide HVs).nar (gi_tou (unhide HE) (unhide HST).2.2 (unhide HVs) (unhide HIO))).mono ?_; rintro r' w12 ⟨rfl, hb12⟩; have hD4 := bthen hD3 hb12)
      | (go_at_call 28; have hq3 := hD2; refine (refExpOf_iv _ y 70000 (b + 40) 80000 30000 (a1, b1) (X p q) ((unhide HE).lg p q (unhide HST).2.2).1 hy2 (unhide HBy) (unhide HIY).1 (wh_abs (unhide HIY).2.1 (unhide HIY).2.2.1) (wh_abs (unhide HIY).2.2.2.1 (unhide HIY).2.2.2.2) (by omega) (by omega) (by omega) (unhide HQK) (by omega) (by omega) (by omega)).mono ?_; rintro r' w11 ⟨o, io, _, v, rfl, hvb, hv3, hb11⟩; have HBv := hide hvb; have HIO := hide io; clear hvb io; have hD3 := bthen hD2 hb11)
      | (go_at_call 29; have hq2 := hD1; (first | rw [unhide HW] | rw [unhide HW2]); refine (refLogGammaOf2 _ p q (b + 40) (X p q) (unhide HST).1 (refLh_of (unhide HE) (unhide HST).2.2 (by omega) (by omega))).mono ?_; rintro r' w10 ⟨a1, b1, iy, y, rfl, hyb, hy2, hb10⟩; have HBy := hide hyb; have HIY := hide iy; clear hyb iy; have hD2 := bthen hD1 hb10)
      | (go_at_call 27; refine (gammaBegun_any _).mono ?_; rintro r' w8 ⟨rfl, hb8⟩; have hD1 := bthen hD0 hb8))
  all_goals
    go_wp2_with fail
    go_ret
    exact ⟨rfl, bthen hBW hD4⟩
theorem law_gammaItself (p q bt : Int) (w : World) :
    Calls Try.prog 5 #[.agg #[.int .i64 p, .int .i64 q], .int .i64 bt] w fun r w' => r = .returned (.bool true) ∧ Below w.heap.size w w' := by
  by_cases h1 : gE1 p q bt = 0
  · obtain ⟨b, rfl⟩ : ∃ b : Nat, bt = (b : Int) := ⟨bt.toNat, by have := (stIn_of h1).2.1; omega⟩
    exact law_gi_ok p q b w h1
  · exact law_gi_bad p q bt w _ rfl h1
end Go.Proofs.Ytgmnknmjainabab
namespace Go.Proofs.Ytgmnknmjainabab
open Go.ChangeShapes Go.WideShapes Go.ChangeAt Go.RowKit
theorem Try.own : ownKnob Try.prog.godebug = none := by kernel_rfl
theorem Try.laidOut : laidOutB Try.prog = true := by kernel_rfl
theorem Try.cellsI : Try.prog.cellsOf 3 = 1 := by kernel_rfl
end Go.Proofs.Ytgmnknmjainabab
