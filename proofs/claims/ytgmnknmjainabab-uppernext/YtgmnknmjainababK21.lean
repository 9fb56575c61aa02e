/-
  Texts UppT, Unb, Psl, Unl, Open: what they hold is told in the last text.
-/
import Derived.Test.YtgmnknmjainababRows
import Derived.ProofKit
import Derived.OpenShut
import Derived.SizedLaws
import Derived.ChangeOld
import Derived.Test.YtgmnknmjainababK20
set_option linter.unnecessarySimpa false
set_option linter.unusedSimpArgs false
set_option linter.unusedVariables false
namespace Go.Proofs.Ytgmnknmjainabab
open Ex
namespace Ex
theorem ex1_lo {M : Nat} (hM : 10 ≤ M) : (271828 : Rat) / 100000 ≤ ex 1 M := by
  obtain ⟨j, rfl⟩ : ∃ j, M = 10 + j := ⟨M - 10, by omega⟩
  clear hM
  induction j with
  | zero => decide +kernel
  | succ j ih =>
    have e : ex 1 (10 + (j + 1)) = ex 1 (10 + j) + tm 1 (10 + j) := rfl
    have p : (0 : Rat) ≤ tm 1 (10 + j) := tm_nonneg (by grind) _
    rw [e]; grind
theorem ex1_hi {M : Nat} (hM : 12 ≤ M) : ex 1 M ≤ (2718282 : Rat) / 1000000 := by
  have key : ∀ j : Nat, ex 1 (12 + j) + tm 1 (11 + j) ≤ (2718282 : Rat) / 1000000 := fun j => by
    induction j with
    | zero => decide +kernel
    | succ j ih =>
      have e : ex 1 (12 + (j + 1)) = ex 1 (12 + j) + tm 1 (12 + j) := rfl
      have s := tm_succ 1 (11 + j)
      have e2 : 11 + j + 1 = 12 + j := by omega
      have e3 : 11 + (j + 1) = 12 + j := by omega
      rw [e2] at s
      have p : (0 : Rat) ≤ tm 1 (12 + j) := tm_nonneg (by grind) _
      have c : ((11 + j : Nat) : Rat) + 1 = (j : Rat) + 12 := by push_cast; grind
      have j0 : (0 : Rat) ≤ (j : Rat) := by exact_mod_cast Nat.zero_le j
      rw [c] at s
      have q := Rat.mul_le_mul_of_nonneg_right (show (2 : Rat) ≤ (j : Rat) + 12 by grind) p
      rw [e, e3]
      grind
  obtain ⟨j, rfl⟩ : ∃ j, M = 12 + j := ⟨M - 12, by omega⟩
  have p : (0 : Rat) ≤ tm 1 (11 + j) := tm_nonneg (by grind) _
  have := key j
  grind
theorem exm1 : LeN (ex (-1)) (fun _ => 100000 / 271828) ∧ LeN (fun _ => 1000000 / 2718282) (ex (-1)) := by
  obtain ⟨N, hN⟩ := ex_nn (-1)
  refine ⟨LeN.of_null (ex_neg_one.bmul (Bdd.const (100000 / 271828))) (N + 10) fun M hM => ?_, LeN.of_null (ex_neg_one.neg.bmul (Bdd.const (1000000 / 2718282))) (N + 12) fun M hM => ?_⟩
  · have a := ex1_lo (M := M) (by omega)
    have p := hN M (by omega)
    have m := Rat.mul_le_mul_of_nonneg_right a p
    generalize ex 1 M = y at *
    generalize ex (-1) M = z at *
    grind
  · have a := ex1_hi (M := M) (by omega)
    have p := hN M (by omega)
    have m := Rat.mul_le_mul_of_nonneg_right a p
    generalize ex 1 M = y at *
    generalize ex (-1) M = z at *
    grind
theorem lw_11 {L : Rat → Nat → Rat} (hL : Lns L) {g : Nat → Rat} (ig : IsGam L 1 g) (h1 : Null (fun M => 1 - g M)) : Null (fun M => lw L 1 1 g M - (1 - ex (-1) M)) := by
  obtain ⟨i1, i2, N, i3⟩ := inv_of ig.pos
  have u := uS_Bdd (show (0 : Rat) < 1 by grind) (show (0 : Rat) ≤ 1 by grind)
  have n1 := (pr_at_one hL 1).bmul (((ex_bdd (-1)).mul u).mul i1)
  have n2 := h1.bmul (i1.mul ((ex_bdd (-1)).mul u))
  obtain ⟨K, k0, hK⟩ := tm_bd 1
  have tn : Null (tm 1) := (null_q4 K k0).of_le 1 fun M hM => (hK M).mono (by
    have m1 : (1 : Rat) ≤ (M : Rat) := by exact_mod_cast hM
    have := Rat.mul_le_mul_of_nonneg_left m1 (Rat.mul_nonneg k0 (Rat.le_of_lt (q4_pos M)))
    grind)
  have n3 := tn.bmul (ex_bdd (-1))
  refine ((n1.add n2).add (n3.add ex_neg_one)).of_eq_from N fun M hM => ?_
  obtain ⟨e1, e2, e3⟩ := i3 M hM
  have s := uS_one (x := 1) M
  have es : E 1 (M + 1) = ex 1 M + tm 1 M := rfl
  rw [es] at s
  unfold lw uG
  generalize 1 / g M = j at *
  generalize g M = gg at *
  generalize pr L 1 1 M = p at *
  generalize ex (-1) M = y at *
  generalize ex 1 M = v at *
  generalize tm 1 M = t at *
  generalize uS 1 1 M = us at *
  clear n1 n2 n3 i1 i2 i3 h1 u tn hK ig
  have r1 : us = v + t - 1 := by grind
  have r2 : y * us * (gg * j) = y * us := by rw [e1]; grind
  rw [r1] at r2 ⊢
  grind
end Ex
theorem iv_lt {B : Nat} {a : Int × Int} {x : Nat → Rat} (h : Iv B a x) {c : Rat} (k : LeN x (fun _ => c)) {z : Int} (hz : c * (Q B : Rat) < (z : Rat)) : a.1 < z := by
  have q := Qr_pos B
  have l : (a.1 : Rat) / (Q B : Rat) ≤ c := by
    refine Rat.not_lt.1 fun hlt => ?_
    obtain ⟨e, he⟩ : ∃ e, e = ((a.1 : Rat) / (Q B : Rat) - c) / 4 := ⟨_, rfl⟩
    have e0 : 0 < e := by grind
    obtain ⟨N1, k1⟩ := h e e0
    obtain ⟨N2, k2⟩ := k e e0
    have a1 := (k1 (N1 + N2) (by omega)).1
    have a2 := k2 (N1 + N2) (by omega)
    simp only [] at a2
    grind
  have m := Rat.mul_le_mul_of_nonneg_right l (Rat.le_of_lt q)
  rw [rdm q] at m
  exact_mod_cast (show (a.1 : Rat) < (z : Rat) by grind)
theorem iv_gt {B : Nat} {a : Int × Int} {x : Nat → Rat} (h : Iv B a x) {c : Rat} (k : LeN (fun _ => c) x) {z : Int} (hz : (z : Rat) < c * (Q B : Rat)) : z < a.2 := by
  have q := Qr_pos B
  have l : c ≤ (a.2 : Rat) / (Q B : Rat) := by
    refine Rat.not_lt.1 fun hlt => ?_
    obtain ⟨e, he⟩ : ∃ e, e = (c - (a.2 : Rat) / (Q B : Rat)) / 4 := ⟨_, rfl⟩
    have e0 : 0 < e := by grind
    obtain ⟨N1, k1⟩ := h e e0
    obtain ⟨N2, k2⟩ := k e e0
    have a1 := (k1 (N1 + N2) (by omega)).2
    have a2 := k2 (N1 + N2) (by omega)
    simp only [] at a2
    grind
  have m := Rat.mul_le_mul_of_nonneg_right l (Rat.le_of_lt q)
  rw [rdm q] at m
  exact_mod_cast (show (z : Rat) < (a.2 : Rat) by grind)
theorem up_begun {L G : Rat → Nat → Rat} {X : Int → Int → Nat → Rat} (hE : GEnv L G X) {l h : Int} (v : SuV (lwX L 1 1 1 1 (gmV 1 1 (G (gA 1 1)))) 20 l h) : l ≤ 662826 ∧ 662825 ≤ h := by
  have st : StIn 1 1 := ⟨by decide, by decide, by decide, by decide⟩
  have ig := gam_ratio hE st
  have c1 : ((1 : Int) : Rat) / ((1 : Int) : Rat) = 1 := by decide +kernel
  rw [c1] at ig
  have n1 := gm_1 hE
  have c2 : ((1 : Int) : Rat) = 1 := rfl
  rw [c2] at n1
  have nl := lw_11 hE.lns ig n1
  have e : lwX L 1 1 1 1 (gmV 1 1 (G (gA 1 1))) = lw L 1 1 (gmV 1 1 (G (gA 1 1))) := by
    unfold lwX
    rw [if_neg (by decide), c1]
  have iv := v.val
  rw [e] at iv
  obtain ⟨x1, x2⟩ := exm1
  have up : LeN (lw L 1 1 (gmV 1 1 (G (gA 1 1)))) (fun _ => 1 - 1000000 / 2718282) := by
    refine (LeN.of_eqN nl).trans ?_
    obtain ⟨z, hz, kz⟩ := x2.null
    exact LeN.of_null hz 0 fun M _ => by have := kz M; grind
  have lo : LeN (fun _ => 1 - 100000 / 271828) (lw L 1 1 (gmV 1 1 (G (gA 1 1)))) := by
    refine LeN.trans ?_ (LeN.of_eqN (Null.symm nl))
    obtain ⟨z, hz, kz⟩ := x1.null
    exact LeN.of_null hz 0 fun M _ => by have := kz M; grind
  have a := iv_lt iv up (z := 662827) (by decide +kernel)
  have b := iv_gt iv lo (z := 662824) (by decide +kernel)
  simp only [] at a b
  exact ⟨by omega, by omega⟩
theorem up_unit {x : Nat → Rat} {b : Nat} {L1 H1 L2 H2 : Int} (h1 : SuV x b L1 H1) (h2 : SuV (fun M => 1 - x M) b L2 H2) : touB (addI (L1, H1) (L2, H2)).1 (addI (L1, H1) (L2, H2)).2 0 (1 * Q b) (1 * Q b) 0 = true := by
  have i : Iv b (addI (L1, H1) (L2, H2)) (fun _ => ((1 : Int) : Rat)) := Has.of_eq (h1.val.add h2.val) fun M => by
    have c2 : ((1 : Int) : Rat) = 1 := rfl
    rw [c2]; grind
  exact tou_whole i (null_zero.of_eq fun M => by grind)
theorem su_nought {b : Nat} {L1 H1 : Int} (h : SuV (fun _ => 0) b L1 H1) : L1 ≤ 0 := by
  have q := Qr_pos b
  have t := iv_lt h.val (c := 0) (LeN.refl _) (z := 1) (by rw [Rat.zero_mul]; decide +kernel)
  simp only [] at t
  omega
theorem su_le {b : Nat} {x y : Nat → Rat} {L1 H1 L2 H2 : Int} (h1 : SuV x b L1 H1) (h2 : SuV y b L2 H2) (k : LeN x y) : L1 ≤ H2 := by
  obtain ⟨z, hz, kz⟩ := k.null
  exact Iv.touch_le h1.val h2.val hz 0 fun M _ => kz M
theorem up_mono {L G : Rat → Nat → Rat} {X : Int → Int → Nat → Rat} (hE : GEnv L G X) {p q n d n2 d2 : Int} {b : Nat} {L1 H1 L2 H2 : Int} (st : StIn p q) (n0 : 0 ≤ n) (d0 : 0 < d) (d20 : 0 < d2) (hle : n * d2 ≤ n2 * d) (h1 : SuV (lwX L p q n d (gmV p q (G (gA p q)))) b L1 H1) (h2 : SuV (lwX L p q n2 d2 (gmV p q (G (gA p q)))) b L2 H2 ∧ 0 ≤ L2 ∧ H2 ≤ Q b) : L1 ≤ H2 := by
  by_cases hn : n = 0
  · unfold lwX at h1
    rw [if_pos hn] at h1
    have a := su_nought h1
    have c := h2.1.le
    have e := h2.2.1
    omega
  · have np : 0 < n * d2 := Int.mul_pos (by omega) d20
    have n20 : 0 < n2 := Int.not_le.1 fun h => by
      have := Int.mul_nonneg (show 0 ≤ -n2 by omega) (show 0 ≤ d by omega)
      have e : -n2 * d = -(n2 * d) := by grind
      omega
    have h2' := h2.1
    unfold lwX at h1 h2'
    rw [if_neg hn] at h1
    rw [if_neg (by omega)] at h2'
    have ig := gam_ratio hE st
    have pr : (0 : Rat) < (p : Rat) := by exact_mod_cast st.n0
    have qr : (0 : Rat) < (q : Rat) := by exact_mod_cast st.d0
    have nr : (0 : Rat) < (n : Rat) := by exact_mod_cast (show 0 < n by omega)
    have dr : (0 : Rat) < (d : Rat) := by exact_mod_cast d0
    have d2r : (0 : Rat) < (d2 : Rat) := by exact_mod_cast d20
    have xy : (n : Rat) / (d : Rat) ≤ (n2 : Rat) / (d2 : Rat) := by
      refine qle_div d2r (Rat.le_of_mul_le_mul_right (c := (d : Rat)) ?_ dr)
      have c := cast_le hle
      rw [Rat.intCast_mul, Rat.intCast_mul] at c
      have r := rdm (a := (n : Rat)) dr
      have e : (n : Rat) / (d : Rat) * (d2 : Rat) * (d : Rat) = (n : Rat) / (d : Rat) * (d : Rat) * (d2 : Rat) := by grind
      rw [e, r]; exact c
    exact su_le h1 h2' (lw_mono hE.lns (rdiv_pos pr qr) (rdiv_pos nr dr) xy ig)
theorem up_next {L G : Rat → Nat → Rat} {X : Int → Int → Nat → Rat} (hE : GEnv L G X) {p q n d : Int} {b : Nat} {L1 H1 L2 H2 : Int} (st : StIn p q) (n0 : 0 ≤ n) (d0 : 0 < d) (h1 : SuV (lwX L (p + q) q n d (gmV (p + q) q (G (gA (p + q) q)))) b L1 H1) (h2 : SuV (lwX L p q n d (gmV p q (G (gA p q)))) b L2 H2 ∧ 0 ≤ L2 ∧ H2 ≤ Q b) : L1 ≤ H2 := by
  by_cases hn : n = 0
  · unfold lwX at h1
    rw [if_pos hn] at h1
    have a := su_nought h1
    have c := h2.1.le
    have e := h2.2.1
    omega
  · have h2' := h2.1
    unfold lwX at h1 h2'
    rw [if_neg hn] at h1 h2'
    have ig := gam_ratio hE st
    have pr : (0 : Rat) < (p : Rat) := by exact_mod_cast st.n0
    have qr : (0 : Rat) < (q : Rat) := by exact_mod_cast st.d0
    have nr : (0 : Rat) < (n : Rat) := by exact_mod_cast (show 0 < n by omega)
    have dr : (0 : Rat) < (d : Rat) := by exact_mod_cast d0
    have e : ((p + q : Int) : Rat) / (q : Rat) = (p : Rat) / (q : Rat) + 1 := by
      rw [Rat.intCast_add, rdiv_add]
      have : (q : Rat) / (q : Rat) = 1 := by rw [Rat.div_def, Rat.mul_inv_cancel _ (by grind)]
      rw [this]
    rw [e] at h1
    exact su_le h1 h2' (lw_next hE.lns (rdiv_pos pr qr) (rdiv_pos nr dr) ig fun M => by rw [gA_next st.n0 st.d0, gmV_next st.n0 st.d0, Rat.mul_comm])
end Go.Proofs.Ytgmnknmjainabab
namespace Go.Proofs.Ytgmnknmjainabab
open Go.RowKit
attribute [local go_sem ↓] Go.wp_at_zero Go.wp_at_succ
open Ex
theorem cmp_le3 {x y : Int} (h : x ≤ y) : cmpInt x y = -1 ∨ cmpInt x y = 0 := by
  rcases cmp3 x y with h1 | h1 | h1
  · exact Or.inl h1.1
  · exact Or.inr h1.1
  · omega
theorem cmp_ge3 {x y : Int} (h : y ≤ x) : cmpInt x y = 1 ∨ cmpInt x y = 0 := by
  rcases cmp3 x y with h1 | h1 | h1
  · omega
  · exact Or.inr h1.1
  · exact Or.inl h1.1
set_option maxRecDepth 100000 in
set_option maxHeartbeats 8000000 in
theorem upperBegun_any (w : World) :
    Calls Try.prog 35 #[] w fun r w' => r = .returned (.bool true) ∧ Below w.heap.size w w' := by
  obtain ⟨L0, GG, X, hE⟩ := genv_ex
  go_enter Try.func35, Try.ntmps35
  go_wp2_with fail
  refine (culo_ok L0 GG X hE _ 1 1 1 1 20 (by decide)).mono ?_
  rintro r' w1 ⟨L, H, ⟨v, _⟩, s, rfl, hsb, hs, hb1⟩
  obtain ⟨o1, o2⟩ := up_begun hE v
  have hle := v.le
  have HN := hide v.nar
  have hc1 := cmp_le3 o1
  have hc2 := cmp_ge3 o2
  have HSB := hide hsb
  clear hsb o1 o2 v hE
  obtain ⟨V, hV⟩ : ∃ V, V = w1.alloc (.cells #[.bool s.ln, .slice s.la s.lN s.lc, .bool s.hn, .slice s.ha s.hN s.hc, .int .i64 s.bits] 28) := ⟨_, rfl⟩
  have bV : Below w1.heap.size w1 V := by rw [hV]; exact bl1 _ _
  have A : SpC V w1.heap.size s := by rw [hV]; exact spc_new w1 s _
  have HS := hide (hs.below bV)
  have hBW : Below w.heap.size w V := bthen hb1 bV
  have lA := A.lt
  have HK := hide (show ∀ w', Below V.heap.size V w' → (w'.cell? ⟨w1.heap.size, 0, none⟩ = some (.bool s.ln) ∧ w'.cell? ⟨w1.heap.size, 1, none⟩ = some (.slice s.la s.lN s.lc) ∧ w'.cell? ⟨w1.heap.size, 2, none⟩ = some (.bool s.hn) ∧ w'.cell? ⟨w1.heap.size, 3, none⟩ = some (.slice s.ha s.hN s.hc) ∧ w'.cell? ⟨w1.heap.size, 4, none⟩ = some (.int .i64 s.bits)) from fun w' hB => ⟨(A.below hB).c0, (A.below hB).c1, (A.below hB).c2, (A.below hB).c3, (A.below hB).c4⟩)
  have hD0 : Below V.heap.size V V.drew := (Below.refl _ _).drew
  have HC1' := hide hc1
  have HC2' := hide hc2
  clear hs hb1 bV hc1 hc2
  go_wp2_with fail
  rw [← hV]
  clear hV
  obtain ⟨x0, x1, x2, x3, x4⟩ := A
  rcases unhide HC1' with hc1 | hc1 <;> rcases unhide HC2' with hc2 | hc2
  · have HC1 := hide hc1
    have HC2 := hide hc2
    clear hc1 hc2 HC1' HC2'
    go_region_held3 (fun w' => w'.cell? ⟨w1.heap.size, 0, none⟩ = some (.bool s.ln) ∧ w'.cell? ⟨w1.heap.size, 1, none⟩ = some (.slice s.la s.lN s.lc) ∧ w'.cell? ⟨w1.heap.size, 2, none⟩ = some (.bool s.hn) ∧ w'.cell? ⟨w1.heap.size, 3, none⟩ = some (.slice s.ha s.hN s.hc) ∧ w'.cell? ⟨w1.heap.size, 4, none⟩ = some (.int .i64 s.bits)) (first | exact unhide HK _ (by first | with_reducible exact hD0 | with_reducible exact hD5 | with_reducible exact hD4 | with_reducible exact hD3 | with_reducible exact hD2 | with_reducible exact hD1) | go_keep)
      (first
        | (go_at_call 49; have hq := hD4; refine (narrowBy_four _ s 20 L H ((unhide HS).below hD4) (unhide HSB) (by omega) hle (unhide HN)).mono ?_; rintro r g5 ⟨rfl, hg5⟩; have hD5 := bthen hD4 hg5; have i0 := unhide HK _ hD5)
        | (go_at_call 24; have hq := hD3; refine (cmp_int _ _ _ _ _ _ _ _ 250 4 H 662825 _ ((unhide HS).hi.below hD3) hint3).mono ?_; rintro r g4 ⟨rfl, hg4⟩; rw [unhide HC2]; have hD4 := bthen hD3 hg4)
        | (go_at_call 48; have hq := hD2; refine (numOf_int 662825 _ (by omega) (by omega)).mono ?_; rintro r g3 ⟨neg3, a3, n3, c3, rfl, hint3, hg3⟩; have hD3 := bthen hD2 hg3)
        | (go_at_call 24; have hq := hD1; refine (cmp_int _ _ _ _ _ _ _ _ 250 4 L 662826 _ ((unhide HS).lo.below hD1) hint1).mono ?_; rintro r g2 ⟨rfl, hg2⟩; rw [unhide HC1]; have hD2 := bthen hD1 hg2)
        | (go_at_call 48; refine (numOf_int 662826 _ (by omega) (by omega)).mono ?_; rintro r g1 ⟨neg1, a1, n1, c1, rfl, hint1, hg1⟩; have hD1 := bthen hD0 hg1))
    all_goals
      go_wp2_with fail
      exact bodyPost_ret (v := .bool true) (by simp [results, Try.results35]) rfl ⟨rfl, bthen hBW hD5⟩
  · have HC1 := hide hc1
    have HC2 := hide hc2
    clear hc1 hc2 HC1' HC2'
    go_region_held3 (fun w' => w'.cell? ⟨w1.heap.size, 0, none⟩ = some (.bool s.ln) ∧ w'.cell? ⟨w1.heap.size, 1, none⟩ = some (.slice s.la s.lN s.lc) ∧ w'.cell? ⟨w1.heap.size, 2, none⟩ = some (.bool s.hn) ∧ w'.cell? ⟨w1.heap.size, 3, none⟩ = some (.slice s.ha s.hN s.hc) ∧ w'.cell? ⟨w1.heap.size, 4, none⟩ = some (.int .i64 s.bits)) (first | exact unhide HK _ (by first | with_reducible exact hD0 | with_reducible exact hD5 | with_reducible exact hD4 | with_reducible exact hD3 | with_reducible exact hD2 | with_reducible exact hD1) | go_keep)
      (first
        | (go_at_call 49; have hq := hD4; refine (narrowBy_four _ s 20 L H ((unhide HS).below hD4) (unhide HSB) (by omega) hle (unhide HN)).mono ?_; rintro r g5 ⟨rfl, hg5⟩; have hD5 := bthen hD4 hg5; have i0 := unhide HK _ hD5)
        | (go_at_call 24; have hq := hD3; refine (cmp_int _ _ _ _ _ _ _ _ 250 4 H 662825 _ ((unhide HS).hi.below hD3) hint3).mono ?_; rintro r g4 ⟨rfl, hg4⟩; rw [unhide HC2]; have hD4 := bthen hD3 hg4)
        | (go_at_call 48; have hq := hD2; refine (numOf_int 662825 _ (by omega) (by omega)).mono ?_; rintro r g3 ⟨neg3, a3, n3, c3, rfl, hint3, hg3⟩; have hD3 := bthen hD2 hg3)
        | (go_at_call 24; have hq := hD1; refine (cmp_int _ _ _ _ _ _ _ _ 250 4 L 662826 _ ((unhide HS).lo.below hD1) hint1).mono ?_; rintro r g2 ⟨rfl, hg2⟩; rw [unhide HC1]; have hD2 := bthen hD1 hg2)
        | (go_at_call 48; refine (numOf_int 662826 _ (by omega) (by omega)).mono ?_; rintro r g1 ⟨neg1, a1, n1, c1, rfl, hint1, hg1⟩; have hD1 := bthen hD0 hg1))
    all_goals
      go_wp2_with fail
      exact bodyPost_ret (v := .bool true) (by simp [results, Try.results35]) rfl ⟨rfl, bthen hBW hD5⟩
  · have HC1 := hide hc1
    have HC2 := hide hc2
    clear hc1 hc2 HC1' HC2'
    go_region_held3 (fun w' => w'.cell? ⟨w1.heap.size, 0, none⟩ = some (.bool s.ln) ∧ w'.cell? ⟨w1.heap.size, 1, none⟩ = some (.slice s.la s.lN s.lc) ∧ w'.cell? ⟨w1.heap.size, 2, none⟩ = some (.bool s.hn) ∧ w'.cell? ⟨w1.heap.size, 3, none⟩ = some (.slice s.ha s.hN s.hc) ∧ w'.cell? ⟨w1.heap.size, 4, none⟩ = some (.int .i64 s.bits)) (first | exact unhide HK _ (by first | with_reducible exact hD0 | with_reducible exact hD5 | with_reducible exact hD4 | with_reducible exact hD3 | with_reducible exact hD2 | with_reducible exact hD1) | go_keep)
      (first
        | (go_at_call 49; have hq := hD4; refine (narrowBy_four _ s 20 L H ((unhide HS).below hD4) (unhide HSB) (by omega) hle (unhide HN)).mono ?_; rintro r g5 ⟨rfl, hg5⟩; have hD5 := bthen hD4 hg5; have i0 := unhide HK _ hD5)
        | (go_at_call 24; have hq := hD3; refine (cmp_int _ _ _ _ _ _ _ _ 250 4 H 662825 _ ((unhide HS).hi.below hD3) hint3).mono ?_; rintro r g4 ⟨rfl, hg4⟩; rw [unhide HC2]; have hD4 := bthen hD3 hg4)
        | (go_at_call 48; have hq := hD2; refine (numOf_int 662825 _ (by omega) (by omega)).mono ?_; rintro r g3 ⟨neg3, a3, n3, c3, rfl, hint3, hg3⟩; have hD3 := bthen hD2 hg3)
        | (go_at_call 24; have hq := hD1; refine (cmp_int _ _ _ _ _ _ _ _ 250 4 L 662826 _ ((unhide HS).lo.below hD1) hint1).mono ?_; rintro r g2 ⟨rfl, hg2⟩; rw [unhide HC1]; have hD2 := bthen hD1 hg2)
        | (go_at_call 48; refine (numOf_int 662826 _ (by omega) (by omega)).mono ?_; rintro r g1 ⟨neg1, a1, n1, c1, rfl, hint1, hg1⟩; have hD1 := bthen hD0 hg1))
    all_goals
      go_wp2_with fail
      exact bodyPost_ret (v := .bool true) (by simp [results, Try.results35]) rfl ⟨rfl, bthen hBW hD5⟩
  · have HC1 := hide hc1
    have HC2 := hide hc2
    clear hc1 hc2 HC1' HC2'
    go_region_held3 (fun w' => w'.cell? ⟨w1.heap.size, 0, none⟩ = some (.bool s.ln) ∧ w'.cell? ⟨w1.heap.size, 1, none⟩ = some (.slice s.la s.lN s.lc) ∧ w'.cell? ⟨w1.heap.size, 2, none⟩ = some (.bool s.hn) ∧ w'.cell? ⟨w1.heap.size, 3, none⟩ = some (.slice s.ha s.hN s.hc) ∧ w'.cell? ⟨w1.heap.size, 4, none⟩ = some (.int .i64 s.bits)) (first | exact unhide HK _ (by first | with_reducible exact hD0 | with_reducible exact hD5 | with_reducible exact hD4 | with_reducible exact hD3 | with_reducible exact hD2 | with_reducible exact hD1) | go_keep)
      (first
        | (go_at_call 49; have hq := hD4; refine (narrowBy_four _ s 20 L H ((unhide HS).below hD4) (unhide HSB) (by omega) hle (unhide HN)).mono ?_; rintro r g5 ⟨rfl, hg5⟩; have hD5 := bthen hD4 hg5; have i0 := unhide HK _ hD5)
        | (go_at_call 24; have hq := hD3; refine (cmp_int _ _ _ _ _ _ _ _ 250 4 H 662825 _ ((unhide HS).hi.below hD3) hint3).mono ?_; rintro r g4 ⟨rfl, hg4⟩; rw [unhide HC2]; have hD4 := bthen hD3 hg4)
        | (go_at_call 48; have hq := hD2; refine (numOf_int 662825 _ (by omega) (by omega)).mono ?_; rintro r g3 ⟨neg3, a3, n3, c3, rfl, hint3, hg3⟩; have hD3 := bthen hD2 hg3)
        | (go_at_call 24; have hq := hD1; refine (cmp_int _ _ _ _ _ _ _ _ 250 4 L 662826 _ ((unhide HS).lo.below hD1) hint1).mono ?_; rintro r g2 ⟨rfl, hg2⟩; rw [unhide HC1]; have hD2 := bthen hD1 hg2)
        | (go_at_call 48; refine (numOf_int 662826 _ (by omega) (by omega)).mono ?_; rintro r g1 ⟨neg1, a1, n1, c1, rfl, hint1, hg1⟩; have hD1 := bthen hD0 hg1))
    all_goals
      go_wp2_with fail
      exact bodyPost_ret (v := .bool true) (by simp [results, Try.results35]) rfl ⟨rfl, bthen hBW hD5⟩
end Go.Proofs.Ytgmnknmjainabab
namespace Go.Proofs.Ytgmnknmjainabab
open Go.RowKit
attribute [local go_sem ↓] Go.wp_at_zero Go.wp_at_succ
theorem chk_sp {w : World} {s : Sp} {k : Nat} {lo hi : Int} (h : SpAt w s k lo hi) (hk : k ≤ 250) (hle : lo ≤ hi) (h1 : 1 ≤ s.bits) (h2 : s.bits ≤ 120) : ∃ d e, SpDig w s d e ∧ chkE s d e = 0 ∧ lo = loZ s d ∧ hi = hiZ s e := by
  obtain ⟨⟨d, p1, p2, p3, p4, p5⟩, ⟨e, r1, r2, r3, r4, r5⟩⟩ := h
  refine ⟨d, e, ⟨p1, r1⟩, ?_, p5, r5⟩
  have l1 := lenZ_le s.lN d
  have l2 := lenZ_le s.hN e
  have g1 : rightB s.ln s.lN d ≠ false := by
    unfold rightB
    by_cases h0 : s.lN = 0
    · simp [h0, p3 h0]
    · rw [if_neg h0]; simpa using (show d (s.lN - 1) ≠ 0 by omega)
  have g2 : rightB s.hn s.hN e ≠ false := by
    unfold rightB
    by_cases h0 : s.hN = 0
    · simp [h0, r3 h0]
    · rw [if_neg h0]; simpa using (show e (s.hN - 1) ≠ 0 by omega)
  have g3 : ¬ 0 < cmpI s.ln s.hn d e s.lN s.hN := by
    rw [sgn_nonneg_lt p1.dgs r1.dgs s.ln s.hn s.lN s.hN p2 r2 p3 r3, ← p5, ← r5]
    exact cmpInt_le0 (by omega)
  unfold chkE
  rw [if_neg (by omega), if_neg (fun q => q.elim g1 g2), if_neg (by omega), if_neg g3]
theorem flt_ok {s t : Sp} {d e d' e' : Nat → Int} (h1 : chkE s d e = 0) (h2 : chkE t d' e' = 0) (h3 : s.bits = t.bits) : fltE2 (chkE s d e) (chkE t d' e') s.bits t.bits = 0 := by
  unfold fltE2; rw [h1, h2, h3]; simp
theorem small_fit {lo hi M : Int} (hM : M < Q 4000) (h : Abs (lo, hi) M) : fitE lo hi = 0 ∧ ∀ z, fitZ lo hi z = z := by
  obtain ⟨h1, h2, h3, h4⟩ := h
  simp only [] at h1 h2 h3 h4
  rcases fit_cases lo hi with ⟨f1, _, _⟩ | ⟨_, f2, f3⟩
  · exfalso
    rcases f1 with f1 | f1 <;> rcases f1 with f1 | f1 <;> omega
  · exact ⟨f2, f3⟩
theorem spanAdd_iv (w : World) (s t : Sp) (b : Nat) (a c : Int × Int) (hs : SpAt w s 250 a.1 a.2) (ht : SpAt w t 250 c.1 c.2) (h1 : s.bits = (b : Int)) (h2 : t.bits = (b : Int)) (hb1 : 1 ≤ b) (hb2 : b ≤ 120) (la : a.1 ≤ a.2) (lc : c.1 ≤ c.2) {M : Int} (hM : M < Q 4000) (hf : Abs (addI a c) M) :
    Calls Try.prog 20 #[.agg #[.bool s.ln, .slice s.la s.lN s.lc, .bool s.hn, .slice s.ha s.hN s.hc, .int .i64 s.bits], .agg #[.bool t.ln, .slice t.la t.lN t.lc, .bool t.hn, .slice t.ha t.hN t.hc, .int .i64 t.bits]] w (PairAns w b 600 (addI a c).1 (addI a c).2 0) := by
  obtain ⟨d, e, g1, g2, g3, g4⟩ := chk_sp hs (by omega) la (by omega) (by omega)
  obtain ⟨d', e', f1, f2, f3, f4⟩ := chk_sp ht (by omega) lc (by omega) (by omega)
  have hS := saidAdd s t d e d' e' (flt_ok g2 f2 (by omega)) a.1 a.2 c.1 c.2 g3 g4 f3 f4 w g1 f1
  obtain ⟨k1, k2⟩ := small_fit (lo := (addI a c).1) (hi := (addI a c).2) hM hf
  refine hS.mono fun r w' h => ?_
  have e1 : a.1 + c.1 = (addI a c).1 := rfl
  have e2 : a.2 + c.2 = (addI a c).2 := rfl
  rw [e1, e2, k1, k2, k2, k2, h1] at h
  exact h
end Go.Proofs.Ytgmnknmjainabab
namespace Go.Proofs.Ytgmnknmjainabab
open Go.RowKit
attribute [local go_sem ↓] Go.wp_at_zero Go.wp_at_succ
open Ex
theorem cmp_npos2 {x y : Int} (h : x ≤ y) : cmpInt x y ≤ 0 := by unfold cmpInt; split <;> (try split) <;> omega
theorem prodBd {p q : Int} (h1 : -1048576 ≤ p) (h2 : p ≤ 1048576) (h3 : 1 ≤ q) (h4 : q ≤ 1024) : -1073741824 ≤ p * q ∧ p * q ≤ 1073741824 := by
  have := abs_mul h1 h2 (show -1024 ≤ q by omega) h4
  omega
set_option maxRecDepth 100000 in
set_option maxHeartbeats 8000000 in
theorem law_un_bad (p q n d n2 d2 : Int) (bt : Int) (w : World) (e : Int) (h : uE p q n d bt = e) (he : e ≠ 0) :
    Calls Try.prog 7 #[.agg #[.int .i64 p, .int .i64 q], .agg #[.int .i64 n, .int .i64 d], .agg #[.int .i64 n2, .int .i64 d2], .int .i64 bt] w fun r w' => r = .returned (.bool true) ∧ Below w.heap.size w w' := by
  obtain ⟨W, hW⟩ : ∃ W, W = ((w.alloc (.cells #[.int .i64 p, .int .i64 q] 23)).alloc (.cells #[.int .i64 n, .int .i64 d] 23)).alloc (.cells #[.int .i64 n2, .int .i64 d2] 23) := ⟨_, rfl⟩
  have hBW : Below w.heap.size w W := by rw [hW]; exact bl3 _ _ _ _
  have A : RaC W w.heap.size p q := by rw [hW]; exact ⟨by simp [go_sem], by simp [go_sem]⟩
  have G : RaC W (w.heap.size + 1) n d := by rw [hW]; exact ⟨by simp [go_sem], by simp [go_sem]⟩
  have J : RaC W (w.heap.size + 1 + 1) n2 d2 := by rw [hW]; exact ⟨by simp [go_sem], by simp [go_sem]⟩
  have HR := hide h
  have c1 : (e != 0) = true := by simp [he]
  clear h
  go_enter Try.func7, Try.ntmps7
  go_wp2_with fail
  rw [← hW]
  clear hW
  refine (upperBegun_any _).mono ?_
  rintro r' wa ⟨rfl, hxx⟩
  replace A := A.below hxx
  replace G := G.below hxx
  replace J := J.below hxx
  replace hBW := bthen hBW hxx
  clear hxx
  go_wp2_with fail
  refine (spanBegun_any _).mono ?_
  rintro r' wb ⟨rfl, hxx⟩
  replace A := A.below hxx
  replace G := G.below hxx
  replace J := J.below hxx
  replace hBW := bthen hBW hxx
  clear hxx
  have fA0 := A.c0
  have fA1 := A.c1
  have fAl := A.lt
  have fG0 := G.c0
  have fG1 := G.c1
  have fGl := G.lt
  go_wp2_with fail
  clear fA0 fA1 fAl fG0 fG1 fGl
  refine (culo_bad _ p q n d bt e (unhide HR) he).mono ?_
  rintro r w3 ⟨s, rfl, hxb, hxp, hxx⟩
  replace A := A.below hxx
  replace G := G.below hxx
  replace J := J.below hxx
  replace hBW := bthen hBW hxx
  clear hxx hxb hxp
  obtain ⟨V3, hV3⟩ : ∃ V, V = w3.alloc (.cells #[.bool s.ln, .slice s.la s.lN s.lc, .bool s.hn, .slice s.ha s.hN s.hc, .int .i64 s.bits] 28) := ⟨_, rfl⟩
  have bV3 : Below w3.heap.size w3 V3 := by rw [hV3]; exact bl1 _ _
  have S : SpC V3 w3.heap.size s := by rw [hV3]; exact spc_new w3 s _
  have fA0 := A.c0
  have fA1 := A.c1
  have fAl := A.lt
  have fG0 := G.c0
  have fG1 := G.c1
  have fGl := G.lt
  go_wp2_with fail
  rw [← hV3]
  clear hV3
  clear fA0 fA1 fAl fG0 fG1 fGl
  replace A := A.below bV3
  replace G := G.below bV3
  replace J := J.below bV3
  replace hBW := bthen hBW bV3
  clear bV3
  refine (cuup_bad _ p q n d bt e (unhide HR) he).mono ?_
  rintro r w4 ⟨t, rfl, hxb, hxp, hxx⟩
  replace A := A.below hxx
  replace G := G.below hxx
  replace J := J.below hxx
  replace hBW := bthen hBW hxx
  clear hxx hxb hxp
  go_wp2_with fail
  exact bodyPost_ret (v := .bool true) (by simp [results, Try.results7]) rfl ⟨rfl, bthen hBW (bl1 _ _)⟩
set_option maxRecDepth 100000 in
set_option maxHeartbeats 8000000 in
theorem law_un_ok (p q n d n2 d2 : Int) (b : Nat) (w : World) (h : uE p q n d (b : Int) = 0) :
    Calls Try.prog 7 #[.agg #[.int .i64 p, .int .i64 q], .agg #[.int .i64 n, .int .i64 d], .agg #[.int .i64 n2, .int .i64 d2], .int .i64 (b : Int)] w fun r w' => r = .returned (.bool true) ∧ Below w.heap.size w w' := by
  obtain ⟨W, hW⟩ : ∃ W, W = ((w.alloc (.cells #[.int .i64 p, .int .i64 q] 23)).alloc (.cells #[.int .i64 n, .int .i64 d] 23)).alloc (.cells #[.int .i64 n2, .int .i64 d2] 23) := ⟨_, rfl⟩
  have hBW : Below w.heap.size w W := by rw [hW]; exact bl3 _ _ _ _
  have A : RaC W w.heap.size p q := by rw [hW]; exact ⟨by simp [go_sem], by simp [go_sem]⟩
  have G : RaC W (w.heap.size + 1) n d := by rw [hW]; exact ⟨by simp [go_sem], by simp [go_sem]⟩
  have J : RaC W (w.heap.size + 1 + 1) n2 d2 := by rw [hW]; exact ⟨by simp [go_sem], by simp [go_sem]⟩
  obtain ⟨L0, GG, X, hE⟩ := genv_ex
  have HE := hide hE
  obtain ⟨⟨a1, a2, a3, a4⟩, ⟨c1, c2, c3', c4⟩, ⟨h5', h6'⟩, e1, e2, e3⟩ := uE_zero h
  have h5 : 8 ≤ b := by omega
  have h6 : b ≤ 120 := by omega
  have HST := hide (show StIn p q from ⟨by omega, by omega, by omega, by omega⟩)
  have HND := hide (show 0 ≤ n ∧ 0 < d ∧ True from ⟨by omega, by omega, trivial⟩)
  have HR := hide h
  have hQb := Q_pos b
  have HQ : Hid (4 * Q b < Q 4000) := hide (by
    have e : Q (b + 2) = 2 * (2 * Q b) := rfl
    have := Q_mono (show b + 3 ≤ 4000 by omega)
    have e2 : Q (b + 3) = 2 * Q (b + 2) := rfl
    omega)
  clear hE h e1 e2 e3 h5' h6'
  go_enter Try.func7, Try.ntmps7
  go_wp2_with fail
  rw [← hW]
  clear hW
  refine (upperBegun_any _).mono ?_
  rintro r' wa ⟨rfl, hxx⟩
  replace A := A.below hxx
  replace G := G.below hxx
  replace J := J.below hxx
  replace hBW := bthen hBW hxx
  clear hxx
  go_wp2_with fail
  refine (spanBegun_any _).mono ?_
  rintro r' wb ⟨rfl, hxx⟩
  replace A := A.below hxx
  replace G := G.below hxx
  replace J := J.below hxx
  replace hBW := bthen hBW hxx
  clear hxx
  have fA0 := A.c0
  have fA1 := A.c1
  have fAl := A.lt
  have fG0 := G.c0
  have fG1 := G.c1
  have fGl := G.lt
  go_wp2_with fail
  clear fA0 fA1 fAl fG0 fG1 fGl
  refine (culo_ok L0 GG X (unhide HE) _ p q n d b (unhide HR)).mono ?_
  rintro r w3 ⟨L1, H1, hv, s, rfl, hxb, hxp, hxx⟩
  replace A := A.below hxx
  replace G := G.below hxx
  replace J := J.below hxx
  replace hBW := bthen hBW hxx
  clear hxx
  have HVs := hide hv
  have HBs := hide hxb
  have HPs := hide hxp
  clear hv hxb hxp
  obtain ⟨V3, hV3⟩ : ∃ V, V = w3.alloc (.cells #[.bool s.ln, .slice s.la s.lN s.lc, .bool s.hn, .slice s.ha s.hN s.hc, .int .i64 s.bits] 28) := ⟨_, rfl⟩
  have bV3 : Below w3.heap.size w3 V3 := by rw [hV3]; exact bl1 _ _
  have S : SpC V3 w3.heap.size s := by rw [hV3]; exact spc_new w3 s _
  have fA0 := A.c0
  have fA1 := A.c1
  have fAl := A.lt
  have fG0 := G.c0
  have fG1 := G.c1
  have fGl := G.lt
  go_wp2_with fail
  rw [← hV3]
  clear hV3
  clear fA0 fA1 fAl fG0 fG1 fGl
  replace A := A.below bV3
  replace G := G.below bV3
  replace J := J.below bV3
  replace HPs := hide ((unhide HPs).below bV3)
  replace hBW := bthen hBW bV3
  clear bV3
  refine (cuup_ok L0 GG X (unhide HE) _ p q n d b (unhide HR)).mono ?_
  rintro r w4 ⟨L2, H2, hv, t, rfl, hxb, hxp, hxx⟩
  replace A := A.below hxx
  replace G := G.below hxx
  replace J := J.below hxx
  replace HPs := hide ((unhide HPs).below hxx)
  replace S := S.below hxx
  replace hBW := bthen hBW hxx
  clear hxx
  have HVt := hide hv
  have HBt := hide hxb
  have HPt := hide hxp
  clear hv hxb hxp
  obtain ⟨V4, hV4⟩ : ∃ V, V = w4.alloc (.cells #[.bool t.ln, .slice t.la t.lN t.lc, .bool t.hn, .slice t.ha t.hN t.hc, .int .i64 t.bits] 28) := ⟨_, rfl⟩
  have bV4 : Below w4.heap.size w4 V4 := by rw [hV4]; exact bl1 _ _
  have T : SpC V4 w4.heap.size t := by rw [hV4]; exact spc_new w4 t _
  have fS0 := S.c0
  have fS1 := S.c1
  have fS2 := S.c2
  have fS3 := S.c3
  have fS4 := S.c4
  have fSl := S.lt
  go_wp2_with fail
  rw [← hV4]
  clear hV4
  clear fS0 fS1 fS2 fS3 fS4 fSl
  replace A := A.below bV4
  replace G := G.below bV4
  replace J := J.below bV4
  replace HPs := hide ((unhide HPs).below bV4)
  replace S := S.below bV4
  replace HPt := hide ((unhide HPt).below bV4)
  replace hBW := bthen hBW bV4
  clear bV4
  have les := (unhide HVs).1.le
  have let_ := (unhide HVt).1.le
  have AA1 : Hid (Abs (addI (L1, H1) (L2, H2)) (4 * Q b)) := hide (by
    have a1 := (unhide HVs).2.1; have a2 := (unhide HVs).2.2; have a3 := (unhide HVt).2.1; have a4 := (unhide HVt).2.2
    exact ⟨by show -(4 * Q b) ≤ L1 + L2; omega, by show L1 + L2 ≤ 4 * Q b; omega, by show -(4 * Q b) ≤ H1 + H2; omega, by show H1 + H2 ≤ 4 * Q b; omega⟩)
  have HTB := hide (up_unit (unhide HVs).1 (unhide HVt).1)
  refine (spanAdd_iv _ s t b (L1, H1) (L2, H2) (unhide HPs) (unhide HPt) (unhide HBs) (unhide HBt) (by omega) h6 les let_ (unhide HQ) (unhide AA1)).mono ?_
  rintro r w6 ⟨c, rfl, hxb, hxp, hxx⟩
  replace A := A.below hxx
  replace G := G.below hxx
  replace J := J.below hxx
  replace HPs := hide ((unhide HPs).below hxx)
  replace S := S.below hxx
  replace HPt := hide ((unhide HPt).below hxx)
  replace T := T.below hxx
  replace hBW := bthen hBW hxx
  clear hxx
  have HBc := hide hxb
  have HPc := hide hxp
  clear hxb hxp les let_ AA1
  obtain ⟨V6, hV6⟩ : ∃ V, V = w6.alloc (.cells #[.bool c.ln, .slice c.la c.lN c.lc, .bool c.hn, .slice c.ha c.hN c.hc, .int .i64 c.bits] 28) := ⟨_, rfl⟩
  have bV6 : Below w6.heap.size w6 V6 := by rw [hV6]; exact bl1 _ _
  have C : SpC V6 w6.heap.size c := by rw [hV6]; exact spc_new w6 c _
  go_wp2_with fail
  rw [← hV6]
  clear hV6
  replace A := A.below bV6
  replace G := G.below bV6
  replace J := J.below bV6
  replace HPs := hide ((unhide HPs).below bV6)
  replace S := S.below bV6
  replace HPt := hide ((unhide HPt).below bV6)
  replace T := T.below bV6
  replace HPc := hide ((unhide HPc).below bV6)
  replace hBW := bthen hBW bV6
  clear bV6
  refine (refOf_any _ c).mono ?_
  rintro r w10 ⟨rfl, hxx⟩
  replace A := A.below hxx
  replace G := G.below hxx
  replace J := J.below hxx
  replace HPs := hide ((unhide HPs).below hxx)
  replace S := S.below hxx
  replace HPt := hide ((unhide HPt).below hxx)
  replace T := T.below hxx
  replace HPc := hide ((unhide HPc).below hxx)
  replace hBW := bthen hBW hxx
  clear hxx
  go_wp2_with fail
  refine (refWhole _ 1 b (by omega) (by omega) (by omega)).mono ?_
  rintro r w11 ⟨y, rfl, hxb, hxp, hxx⟩
  replace A := A.below hxx
  replace G := G.below hxx
  replace J := J.below hxx
  replace HPs := hide ((unhide HPs).below hxx)
  replace S := S.below hxx
  replace HPt := hide ((unhide HPt).below hxx)
  replace T := T.below hxx
  replace HPc := hide ((unhide HPc).below hxx)
  replace hBW := bthen hBW hxx
  clear hxx
  have HBy := hide hxb
  have HPy := hide (hxp.mono (show b / 16 + 18 ≤ 600 by omega))
  clear hxb hxp
  go_wp2_with fail
  refine (touch_le _ c y 600 0 0 _ _ _ _ (unhide HPc) (unhide HPy) (by omega) (by have := unhide HBc; omega) (by have := unhide HBc; omega) (by have := unhide HBy; omega) (by have := unhide HBy; omega) (by have := unhide HBc; have := unhide HBy; omega) (by have := unhide HBc; have := unhide HBy; omega) (by have := unhide HBc; have := unhide HBy; omega)).mono ?_
  rintro r w12 ⟨rfl, hxx⟩
  rw [unhide HTB]
  replace A := A.below hxx
  replace G := G.below hxx
  replace J := J.below hxx
  replace HPs := hide ((unhide HPs).below hxx)
  replace S := S.below hxx
  replace HPt := hide ((unhide HPt).below hxx)
  replace T := T.below hxx
  replace HPc := hide ((unhide HPc).below hxx)
  replace HPy := hide ((unhide HPy).below hxx)
  replace hBW := bthen hBW hxx
  clear hxx
  clear HTB HPy HPc HPt T HBy HBc HVt HBt
  have fA0 := A.c0
  have fA1 := A.c1
  have fAl := A.lt
  have fJ0 := J.c0
  have fJ1 := J.c1
  have fJl := J.lt
  go_wp2_with fail
  clear fA0 fA1 fAl fJ0 fJ1 fJl
  by_cases h2 : uE p q n2 d2 (b : Int) = 0
  · obtain ⟨_, ⟨t1, t2, t3, t4⟩, _, t5, _⟩ := uE_zero h2
    have HR2 := hide h2
    clear h2
    refine (culo_ok L0 GG X (unhide HE) _ p q n2 d2 b (unhide HR2)).mono ?_
    rintro r w13 ⟨L4, H4, hv, u, rfl, hxb, hxp, hxx⟩
    replace A := A.below hxx
    replace G := G.below hxx
    replace J := J.below hxx
    replace HPs := hide ((unhide HPs).below hxx)
    replace S := S.below hxx
    replace hBW := bthen hBW hxx
    clear hxx
    have HVu := hide hv
    have HPu := hide hxp
    clear hv hxb hxp
    obtain ⟨V13, hV13⟩ : ∃ V, V = w13.alloc (.cells #[.bool u.ln, .slice u.la u.lN u.lc, .bool u.hn, .slice u.ha u.hN u.hc, .int .i64 u.bits] 28) := ⟨_, rfl⟩
    have bV13 : Below w13.heap.size w13 V13 := by rw [hV13]; exact bl1 _ _
    have U : SpC V13 w13.heap.size u := by rw [hV13]; exact spc_new w13 u _
    obtain ⟨m1, m2⟩ := prodBd c1 c2 t3 t4
    obtain ⟨m3, m4⟩ := prodBd t1 t2 c3' c4
    by_cases hle : n * d2 ≤ n2 * d
    · have nx := up_mono (unhide HE) (unhide HST) (unhide HND).1 (unhide HND).2.1 (by omega) hle (unhide HVs).1 (unhide HVu)
      have cc := cmp_npos2 nx
      clear nx
      have fA0 := A.c0
      have fA1 := A.c1
      have fAl := A.lt
      have fG0 := G.c0
      have fG1 := G.c1
      have fGl := G.lt
      have fJ0 := J.c0
      have fJ1 := J.c1
      have fJl := J.lt
      have fS0 := S.c0
      have fS1 := S.c1
      have fS2 := S.c2
      have fS3 := S.c3
      have fS4 := S.c4
      have fSl := S.lt
      go_wp2_with fail
      rw [← hV13]
      clear hV13
      clear fA0 fA1 fAl fG0 fG1 fGl fJ0 fJ1 fJl fS0 fS1 fS2 fS3 fS4 fSl
      replace A := A.below bV13
      replace G := G.below bV13
      replace J := J.below bV13
      replace HPs := hide ((unhide HPs).below bV13)
      replace S := S.below bV13
      replace HPu := hide ((unhide HPu).below bV13)
      replace hBW := bthen hBW bV13
      clear bV13
      refine (cmp_int _ _ _ _ _ _ _ _ 250 250 L1 H4 _ (unhide HPs).lo (unhide HPu).hi).mono ?_
      rintro r w15 ⟨rfl, hxx⟩
      replace A := A.below hxx
      replace G := G.below hxx
      replace J := J.below hxx
      replace HPs := hide ((unhide HPs).below hxx)
      replace S := S.below hxx
      replace HPu := hide ((unhide HPu).below hxx)
      replace hBW := bthen hBW hxx
      clear hxx
      have fA0 := A.c0
      have fA1 := A.c1
      have fAl := A.lt
      have fG0 := G.c0
      have fG1 := G.c1
      have fGl := G.lt
      go_wp2_with fail
      clear fA0 fA1 fAl fG0 fG1 fGl
      clear cc
      by_cases h3 : uE (p + q) q n d (b : Int) = 0
      · have HR3 := hide h3
        refine (culo_ok L0 GG X (unhide HE) _ (p + q) q n d b (unhide HR3)).mono ?_
        rintro r w21 ⟨L5, H5, hv, v, rfl, hxb, hxp, hxx⟩
        replace A := A.below hxx
        replace G := G.below hxx
        replace J := J.below hxx
        replace HPs := hide ((unhide HPs).below hxx)
        replace S := S.below hxx
        replace HPu := hide ((unhide HPu).below hxx)
        replace hBW := bthen hBW hxx
        have nx := up_next (unhide HE) (unhide HST) (unhide HND).1 (unhide HND).2.1 hv.1 (unhide HVs)
        have cc := cmp_npos2 nx
        have HPv := hide hxp
        clear hxx hv hxb hxp nx
        obtain ⟨V21, hV21⟩ : ∃ V, V = w21.alloc (.cells #[.bool v.ln, .slice v.la v.lN v.lc, .bool v.hn, .slice v.ha v.hN v.hc, .int .i64 v.bits] 28) := ⟨_, rfl⟩
        have bV21 : Below w21.heap.size w21 V21 := by rw [hV21]; exact bl1 _ _
        have U5 : SpC V21 w21.heap.size v := by rw [hV21]; exact spc_new w21 v _
        have fS0 := S.c0
        have fS1 := S.c1
        have fS2 := S.c2
        have fS3 := S.c3
        have fS4 := S.c4
        have fSl := S.lt
        go_wp2_with fail
        rw [← hV21]
        clear hV21
        clear fS0 fS1 fS2 fS3 fS4 fSl
        replace A := A.below bV21
        replace G := G.below bV21
        replace J := J.below bV21
        replace HPs := hide ((unhide HPs).below bV21)
        replace S := S.below bV21
        replace HPu := hide ((unhide HPu).below bV21)
        replace HPv := hide ((unhide HPv).below bV21)
        replace hBW := bthen hBW bV21
        clear bV21
        refine (cmp_int _ _ _ _ _ _ _ _ 250 250 L5 H1 _ (unhide HPv).lo (unhide HPs).hi).mono ?_
        rintro r w22 ⟨rfl, hxx⟩
        replace A := A.below hxx
        replace G := G.below hxx
        replace J := J.below hxx
        replace HPs := hide ((unhide HPs).below hxx)
        replace S := S.below hxx
        replace HPu := hide ((unhide HPu).below hxx)
        replace HPv := hide ((unhide HPv).below hxx)
        replace hBW := bthen hBW hxx
        clear hxx
        go_wp2_with fail
        exact bodyPost_ret (v := .bool true) (by simp [results, Try.results7]) rfl ⟨rfl, hBW⟩
      · obtain ⟨e3, he3⟩ : ∃ e, uE (p + q) q n d (b : Int) = e := ⟨_, rfl⟩
        rw [he3] at h3
        have c3 : (e3 != 0) = true := by simp [h3]
        have HE3 := hide he3
        clear he3
        refine (culo_bad _ (p + q) q n d b e3 (unhide HE3) h3).mono ?_
        rintro r w21 ⟨v, rfl, hxb, hxp, hxx⟩
        replace A := A.below hxx
        replace G := G.below hxx
        replace J := J.below hxx
        replace HPs := hide ((unhide HPs).below hxx)
        replace S := S.below hxx
        replace HPu := hide ((unhide HPu).below hxx)
        replace hBW := bthen hBW hxx
        clear hxx hxb hxp
        go_wp2_with fail
        exact bodyPost_ret (v := .bool true) (by simp [results, Try.results7]) rfl ⟨rfl, bthen hBW (bl1 _ _)⟩
    · have fA0 := A.c0
      have fA1 := A.c1
      have fAl := A.lt
      have fG0 := G.c0
      have fG1 := G.c1
      have fGl := G.lt
      have fJ0 := J.c0
      have fJ1 := J.c1
      have fJl := J.lt
      have fS0 := S.c0
      have fS1 := S.c1
      have fS2 := S.c2
      have fS3 := S.c3
      have fS4 := S.c4
      have fSl := S.lt
      go_wp2_with fail
      rw [← hV13]
      clear hV13
      clear fA0 fA1 fAl fG0 fG1 fGl fJ0 fJ1 fJl fS0 fS1 fS2 fS3 fS4 fSl
      replace A := A.below bV13
      replace G := G.below bV13
      replace J := J.below bV13
      replace HPs := hide ((unhide HPs).below bV13)
      replace S := S.below bV13
      replace HPu := hide ((unhide HPu).below bV13)
      replace hBW := bthen hBW bV13
      clear bV13
      by_cases h3 : uE (p + q) q n d (b : Int) = 0
      · have HR3 := hide h3
        refine (culo_ok L0 GG X (unhide HE) _ (p + q) q n d b (unhide HR3)).mono ?_
        rintro r w21 ⟨L5, H5, hv, v, rfl, hxb, hxp, hxx⟩
        replace A := A.below hxx
        replace G := G.below hxx
        replace J := J.below hxx
        replace HPs := hide ((unhide HPs).below hxx)
        replace S := S.below hxx
        replace HPu := hide ((unhide HPu).below hxx)
        replace hBW := bthen hBW hxx
        have nx := up_next (unhide HE) (unhide HST) (unhide HND).1 (unhide HND).2.1 hv.1 (unhide HVs)
        have cc := cmp_npos2 nx
        have HPv := hide hxp
        clear hxx hv hxb hxp nx
        obtain ⟨V21, hV21⟩ : ∃ V, V = w21.alloc (.cells #[.bool v.ln, .slice v.la v.lN v.lc, .bool v.hn, .slice v.ha v.hN v.hc, .int .i64 v.bits] 28) := ⟨_, rfl⟩
        have bV21 : Below w21.heap.size w21 V21 := by rw [hV21]; exact bl1 _ _
        have U5 : SpC V21 w21.heap.size v := by rw [hV21]; exact spc_new w21 v _
        have fS0 := S.c0
        have fS1 := S.c1
        have fS2 := S.c2
        have fS3 := S.c3
        have fS4 := S.c4
        have fSl := S.lt
        go_wp2_with fail
        rw [← hV21]
        clear hV21
        clear fS0 fS1 fS2 fS3 fS4 fSl
        replace A := A.below bV21
        replace G := G.below bV21
        replace J := J.below bV21
        replace HPs := hide ((unhide HPs).below bV21)
        replace S := S.below bV21
        replace HPu := hide ((unhide HPu).below bV21)
        replace HPv := hide ((unhide HPv).below bV21)
        replace hBW := bthen hBW bV21
        clear bV21
        refine (cmp_int _ _ _ _ _ _ _ _ 250 250 L5 H1 _ (unhide HPv).lo (unhide HPs).hi).mono ?_
        rintro r w22 ⟨rfl, hxx⟩
        replace A := A.below hxx
        replace G := G.below hxx
        replace J := J.below hxx
        replace HPs := hide ((unhide HPs).below hxx)
        replace S := S.below hxx
        replace HPu := hide ((unhide HPu).below hxx)
        replace HPv := hide ((unhide HPv).below hxx)
        replace hBW := bthen hBW hxx
        clear hxx
        go_wp2_with fail
        exact bodyPost_ret (v := .bool true) (by simp [results, Try.results7]) rfl ⟨rfl, hBW⟩
      · obtain ⟨e3, he3⟩ : ∃ e, uE (p + q) q n d (b : Int) = e := ⟨_, rfl⟩
        rw [he3] at h3
        have c3 : (e3 != 0) = true := by simp [h3]
        have HE3 := hide he3
        clear he3
        refine (culo_bad _ (p + q) q n d b e3 (unhide HE3) h3).mono ?_
        rintro r w21 ⟨v, rfl, hxb, hxp, hxx⟩
        replace A := A.below hxx
        replace G := G.below hxx
        replace J := J.below hxx
        replace HPs := hide ((unhide HPs).below hxx)
        replace S := S.below hxx
        replace HPu := hide ((unhide HPu).below hxx)
        replace hBW := bthen hBW hxx
        clear hxx hxb hxp
        go_wp2_with fail
        exact bodyPost_ret (v := .bool true) (by simp [results, Try.results7]) rfl ⟨rfl, bthen hBW (bl1 _ _)⟩
  · obtain ⟨e2, he2⟩ : ∃ e, uE p q n2 d2 (b : Int) = e := ⟨_, rfl⟩
    rw [he2] at h2
    have cb2 : (e2 == 0) = false := by simp [h2]
    have HE2 := hide he2
    clear he2
    refine (culo_bad _ p q n2 d2 b e2 (unhide HE2) h2).mono ?_
    rintro r w13 ⟨u, rfl, hxb, hxp, hxx⟩
    replace A := A.below hxx
    replace G := G.below hxx
    replace J := J.below hxx
    replace HPs := hide ((unhide HPs).below hxx)
    replace S := S.below hxx
    replace hBW := bthen hBW hxx
    clear hxx hxb hxp
    obtain ⟨V13, hV13⟩ : ∃ V, V = w13.alloc (.cells #[.bool u.ln, .slice u.la u.lN u.lc, .bool u.hn, .slice u.ha u.hN u.hc, .int .i64 u.bits] 28) := ⟨_, rfl⟩
    have bV13 : Below w13.heap.size w13 V13 := by rw [hV13]; exact bl1 _ _
    have U : SpC V13 w13.heap.size u := by rw [hV13]; exact spc_new w13 u _
    have fA0 := A.c0
    have fA1 := A.c1
    have fAl := A.lt
    have fG0 := G.c0
    have fG1 := G.c1
    have fGl := G.lt
    go_wp2_with fail
    rw [← hV13]
    clear hV13
    clear fA0 fA1 fAl fG0 fG1 fGl
    replace A := A.below bV13
    replace G := G.below bV13
    replace J := J.below bV13
    replace HPs := hide ((unhide HPs).below bV13)
    replace S := S.below bV13
    replace hBW := bthen hBW bV13
    clear bV13
    by_cases h3 : uE (p + q) q n d (b : Int) = 0
    · have HR3 := hide h3
      refine (culo_ok L0 GG X (unhide HE) _ (p + q) q n d b (unhide HR3)).mono ?_
      rintro r w21 ⟨L5, H5, hv, v, rfl, hxb, hxp, hxx⟩
      replace A := A.below hxx
      replace G := G.below hxx
      replace J := J.below hxx
      replace HPs := hide ((unhide HPs).below hxx)
      replace S := S.below hxx
      replace hBW := bthen hBW hxx
      have nx := up_next (unhide HE) (unhide HST) (unhide HND).1 (unhide HND).2.1 hv.1 (unhide HVs)
      have cc := cmp_npos2 nx
      have HPv := hide hxp
      clear hxx hv hxb hxp nx
      obtain ⟨V21, hV21⟩ : ∃ V, V = w21.alloc (.cells #[.bool v.ln, .slice v.la v.lN v.lc, .bool v.hn, .slice v.ha v.hN v.hc, .int .i64 v.bits] 28) := ⟨_, rfl⟩
      have bV21 : Below w21.heap.size w21 V21 := by rw [hV21]; exact bl1 _ _
      have U5 : SpC V21 w21.heap.size v := by rw [hV21]; exact spc_new w21 v _
      have fS0 := S.c0
      have fS1 := S.c1
      have fS2 := S.c2
      have fS3 := S.c3
      have fS4 := S.c4
      have fSl := S.lt
      go_wp2_with fail
      rw [← hV21]
      clear hV21
      clear fS0 fS1 fS2 fS3 fS4 fSl
      replace A := A.below bV21
      replace G := G.below bV21
      replace J := J.below bV21
      replace HPs := hide ((unhide HPs).below bV21)
      replace S := S.below bV21
      replace HPv := hide ((unhide HPv).below bV21)
      replace hBW := bthen hBW bV21
      clear bV21
      refine (cmp_int _ _ _ _ _ _ _ _ 250 250 L5 H1 _ (unhide HPv).lo (unhide HPs).hi).mono ?_
      rintro r w22 ⟨rfl, hxx⟩
      replace A := A.below hxx
      replace G := G.below hxx
      replace J := J.below hxx
      replace HPs := hide ((unhide HPs).below hxx)
      replace S := S.below hxx
      replace HPv := hide ((unhide HPv).below hxx)
      replace hBW := bthen hBW hxx
      clear hxx
      go_wp2_with fail
      exact bodyPost_ret (v := .bool true) (by simp [results, Try.results7]) rfl ⟨rfl, hBW⟩
    · obtain ⟨e3, he3⟩ : ∃ e, uE (p + q) q n d (b : Int) = e := ⟨_, rfl⟩
      rw [he3] at h3
      have c3 : (e3 != 0) = true := by simp [h3]
      have HE3 := hide he3
      clear he3
      refine (culo_bad _ (p + q) q n d b e3 (unhide HE3) h3).mono ?_
      rintro r w21 ⟨v, rfl, hxb, hxp, hxx⟩
      replace A := A.below hxx
      replace G := G.below hxx
      replace J := J.below hxx
      replace HPs := hide ((unhide HPs).below hxx)
      replace S := S.below hxx
      replace hBW := bthen hBW hxx
      clear hxx hxb hxp
      go_wp2_with fail
      exact bodyPost_ret (v := .bool true) (by simp [results, Try.results7]) rfl ⟨rfl, bthen hBW (bl1 _ _)⟩
theorem law_upperNext (p q n d n2 d2 bt : Int) (w : World) :
    Calls Try.prog 7 #[.agg #[.int .i64 p, .int .i64 q], .agg #[.int .i64 n, .int .i64 d], .agg #[.int .i64 n2, .int .i64 d2], .int .i64 bt] w fun r w' => r = .returned (.bool true) ∧ Below w.heap.size w w' := by
  by_cases h : uE p q n d bt = 0
  · obtain ⟨b, rfl⟩ : ∃ b : Nat, bt = (b : Int) := ⟨bt.toNat, by have := (uE_zero h).2.2.1; omega⟩
    exact law_un_ok p q n d n2 d2 b w h
  · exact law_un_bad p q n d n2 d2 bt w _ rfl h
end Go.Proofs.Ytgmnknmjainabab
namespace Go.Proofs.Ytgmnknmjainabab
open Go.ChangeShapes Go.WideShapes Go.ChangeAt Go.RowKit
theorem Try.own : ownKnob Try.prog.godebug = none := by kernel_rfl
theorem Try.laidOut : laidOutB Try.prog = true := by kernel_rfl
theorem Try.cellsI : Try.prog.cellsOf 3 = 1 := by kernel_rfl
end Go.Proofs.Ytgmnknmjainabab
