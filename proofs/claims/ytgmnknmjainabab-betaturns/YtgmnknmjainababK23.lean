/-
  Texts Btb, Psl, Btl, Open: what they hold is told in the last text.
-/
import Derived.Test.YtgmnknmjainababRows
import Derived.ProofKit
import Derived.OpenShut
import Derived.SizedLaws
import Derived.ChangeOld
import Derived.Test.YtgmnknmjainababK22
set_option linter.unnecessarySimpa false
set_option linter.unusedSimpArgs false
set_option linter.unusedVariables false
namespace Go.Proofs.Ytgmnknmjainabab
open Go.RowKit
attribute [local go_sem ↓] Go.wp_at_zero Go.wp_at_succ
open Ex
theorem touch_same {b : Nat} {a c : Int × Int} {x : Nat → Rat} (h : Iv b a x) (k : Iv b c x) : touB a.1 a.2 0 c.1 c.2 0 = true := by
  have q := Q_pos b
  have t1 := Int.le_of_mul_le_mul_right (h.touch k) (show 0 < Q b by omega)
  have t2 := Int.le_of_mul_le_mul_right (k.touch h) (show 0 < Q b by omega)
  have e0 : Q 0 = 1 := rfl
  unfold touB
  rw [e0]
  simp [t1, t2]
theorem turn_eq {a b : Rat} : 1 - a - b = -(a - (1 - b)) := by grind
theorem SuV.congr {x y : Nat → Rat} {b : Nat} {L H : Int} (h : SuV x b L H) (k : Null (fun M => y M - x M)) : SuV y b L H := ⟨h.le, h.nar, Has.congr h.val k⟩
theorem bt_begun {L : Rat → Nat → Rat} (hL : Lns L) {l h : Int} (v : SuV (bvX L 2 1 1 1 1 4) 20 l h) : touB l h 0 (ofI 1 16 20).1 (ofI 1 16 20).2 0 = true := by
  have n := bv_21 hL (show (0 : Rat) < 1 / 4 by grind) (by grind)
  have e : bvX L 2 1 1 1 1 4 = bv L 2 1 (1 / 4) := by
    unfold bvX
    rw [if_neg (by decide), if_neg (by decide)]
    have e1 : ((2 : Int) : Rat) / ((1 : Int) : Rat) = 2 := by decide +kernel
    have e2 : ((1 : Int) : Rat) / ((1 : Int) : Rat) = 1 := by decide +kernel
    have e3 : ((1 : Int) : Rat) / ((4 : Int) : Rat) = 1 / 4 := by decide +kernel
    rw [e1, e2, e3]
  rw [e] at v
  have i := Iv.of 20 (n := 1) (d := 16) (by decide)
  exact touch_same (a := (l, h)) v.val (Has.congr i (n.of_eq fun M => by
    have : ((1 : Int) : Rat) / ((16 : Int) : Rat) = 1 / 4 * (1 / 4) := by decide +kernel
    rw [this]))
theorem bvX_nn {L : Rat → Nat → Rat} (hL : Lns L) {p q r s n d : Int} (p0 : 0 < p) (q0 : 0 < q) (r0 : 0 < r) (s0 : 0 < s) (n0 : 0 ≤ n) (nd : n ≤ d) (d0 : 0 < d) : Nn (bvX L p q r s n d) ∧ LeN (bvX L p q r s n d) (fun _ => 1) := by
  unfold bvX
  by_cases h0 : n = 0
  · rw [if_pos h0]; exact ⟨Nn.const (by grind), LeN.of_le 0 fun M _ => by grind⟩
  · by_cases h1 : n = d
    · rw [if_neg h0, if_pos h1]; exact ⟨Nn.const (by grind), LeN.of_le 0 fun M _ => by grind⟩
    · rw [if_neg h0, if_neg h1]
      have pr : (0 : Rat) < (p : Rat) := by exact_mod_cast p0
      have qr : (0 : Rat) < (q : Rat) := by exact_mod_cast q0
      have rr : (0 : Rat) < (r : Rat) := by exact_mod_cast r0
      have sr : (0 : Rat) < (s : Rat) := by exact_mod_cast s0
      have nr : (0 : Rat) < (n : Rat) := by exact_mod_cast (show 0 < n by omega)
      have dr : (0 : Rat) < (d : Rat) := by exact_mod_cast d0
      have lt : (n : Rat) / (d : Rat) < 1 := by
        refine Rat.lt_of_mul_lt_mul_right (c := (d : Rat)) ?_ (Rat.le_of_lt dr)
        rw [rdm dr]
        have : (n : Rat) < (d : Rat) := by exact_mod_cast (show n < d by omega)
        grind
      exact ⟨bv_nn hL (rdiv_pos pr qr) (rdiv_pos rr sr) (rdiv_pos nr dr) lt, bv_one hL (rdiv_pos pr qr) (rdiv_pos rr sr) (rdiv_pos nr dr) lt⟩
theorem bvX_mono {L : Rat → Nat → Rat} (hL : Lns L) {p q r s n d n2 d2 : Int} (p0 : 0 < p) (q0 : 0 < q) (r0 : 0 < r) (s0 : 0 < s) (n0 : 0 ≤ n) (nd : n ≤ d) (d0 : 0 < d) (n20 : 0 ≤ n2) (nd2 : n2 ≤ d2) (d20 : 0 < d2) (hle : n * d2 ≤ n2 * d) : LeN (bvX L p q r s n d) (bvX L p q r s n2 d2) := by
  have a1 := bvX_nn hL p0 q0 r0 s0 n0 nd d0
  have a2 := bvX_nn hL p0 q0 r0 s0 n20 nd2 d20
  by_cases h0 : n = 0
  · have e : bvX L p q r s n d = fun _ => 0 := by unfold bvX; rw [if_pos h0]
    rw [e]; exact a2.1.leN
  · by_cases h2 : n2 = d2
    · have e : bvX L p q r s n2 d2 = fun _ => 1 := by unfold bvX; rw [if_neg (by omega), if_pos h2]
      rw [e]; exact a1.2
    · have np : 0 < n * d2 := Int.mul_pos (by omega) d20
      have n2p : n2 ≠ 0 := fun h => by rw [h, Int.zero_mul] at hle; omega
      have h1 : n ≠ d := fun h => by
        have m := Int.mul_lt_mul_of_pos_right (show n2 < d2 by omega) d0
        rw [h, Int.mul_comm d d2] at hle
        omega
      unfold bvX
      rw [if_neg h0, if_neg h1, if_neg n2p, if_neg h2]
      have pr : (0 : Rat) < (p : Rat) := by exact_mod_cast p0
      have qr : (0 : Rat) < (q : Rat) := by exact_mod_cast q0
      have rr : (0 : Rat) < (r : Rat) := by exact_mod_cast r0
      have sr : (0 : Rat) < (s : Rat) := by exact_mod_cast s0
      have nr : (0 : Rat) < (n : Rat) := by exact_mod_cast (show 0 < n by omega)
      have dr : (0 : Rat) < (d : Rat) := by exact_mod_cast d0
      have d2r : (0 : Rat) < (d2 : Rat) := by exact_mod_cast d20
      have lt : (n2 : Rat) / (d2 : Rat) < 1 := by
        refine Rat.lt_of_mul_lt_mul_right (c := (d2 : Rat)) ?_ (Rat.le_of_lt d2r)
        rw [rdm d2r]
        have : (n2 : Rat) < (d2 : Rat) := by exact_mod_cast (show n2 < d2 by omega)
        grind
      have xy : (n : Rat) / (d : Rat) ≤ (n2 : Rat) / (d2 : Rat) := by
        refine qle_div d2r (Rat.le_of_mul_le_mul_right (c := (d : Rat)) ?_ dr)
        have c := cast_le hle
        rw [Rat.intCast_mul, Rat.intCast_mul] at c
        have r := rdm (a := (n : Rat)) dr
        have e : (n : Rat) / (d : Rat) * (d2 : Rat) * (d : Rat) = (n : Rat) / (d : Rat) * (d : Rat) * (d2 : Rat) := by grind
        rw [e, r]; exact c
      exact bv_mono hL (rdiv_pos pr qr) (rdiv_pos rr sr) (rdiv_pos nr dr) xy lt
theorem bvX_11 {L : Rat → Nat → Rat} (hL : Lns L) {n d : Int} (n0 : 0 ≤ n) (nd : n ≤ d) (d0 : 0 < d) : Null (fun M => (n : Rat) / (d : Rat) - bvX L 1 1 1 1 n d M) := by
  have dr : (0 : Rat) < (d : Rat) := by exact_mod_cast d0
  unfold bvX
  by_cases h0 : n = 0
  · rw [if_pos h0, h0]
    exact null_zero.of_eq fun M => by
      have : ((0 : Int) : Rat) / (d : Rat) = 0 := by rw [show ((0 : Int) : Rat) = 0 from rfl, Rat.div_def, Rat.zero_mul]
      rw [this]; grind
  · by_cases h1 : n = d
    · rw [if_neg h0, if_pos h1, h1]
      exact null_zero.of_eq fun M => by
        have : (d : Rat) / (d : Rat) = 1 := by rw [Rat.div_def, Rat.mul_inv_cancel _ (by grind)]
        rw [this]; grind
    · rw [if_neg h0, if_neg h1]
      have nr : (0 : Rat) < (n : Rat) := by exact_mod_cast (show 0 < n by omega)
      have lt : (n : Rat) / (d : Rat) < 1 := by
        refine Rat.lt_of_mul_lt_mul_right (c := (d : Rat)) ?_ (Rat.le_of_lt dr)
        rw [rdm dr]
        have : (n : Rat) < (d : Rat) := by exact_mod_cast (show n < d by omega)
        grind
      have e2 : ((1 : Int) : Rat) / ((1 : Int) : Rat) = 1 := by decide +kernel
      rw [e2]
      exact (bv_11 hL (rdiv_pos nr dr) lt).symm
set_option maxRecDepth 100000 in
set_option maxHeartbeats 8000000 in
theorem betaBegun_any (w : World) :
    Calls Try.prog 38 #[] w fun r w' => r = .returned (.bool true) ∧ Below w.heap.size w w' := by
  obtain ⟨L0, GG, X, hE⟩ := genv_ex
  go_enter Try.func38, Try.ntmps38
  go_wp2_with fail
  refine (cbp_ok L0 GG X hE _ 1 4 2 1 1 1 20 (by decide)).mono ?_
  rintro z w1 ⟨L, H, ⟨v, _⟩, s, rfl, hsb, hs, hBW⟩
  have HTB := hide (bt_begun hE.lns v)
  have hle := v.le
  have HN := hide v.nar
  have HSB := hide hsb
  clear hsb v hE
  obtain ⟨V1, hV1⟩ : ∃ V, V = w1.alloc (.cells #[.bool s.ln, .slice s.la s.lN s.lc, .bool s.hn, .slice s.ha s.hN s.hc, .int .i64 s.bits] 28) := ⟨_, rfl⟩
  have bV1 : Below w1.heap.size w1 V1 := by rw [hV1]; exact bl1 _ _
  have A : SpC V1 w1.heap.size s := by rw [hV1]; exact spc_new w1 s _
  have HS := hide (hs.below bV1)
  replace hBW := bthen hBW bV1
  clear hs bV1
  go_upto_region 2 with fail
  rw [← hV1]
  clear hV1
  have fA0 := A.c0
  have fA1 := A.c1
  have fA2 := A.c2
  have fA3 := A.c3
  have fA4 := A.c4
  have fAl := A.lt
  go_wp2_with fail
  clear fA0 fA1 fA2 fA3 fA4 fAl
  refine (refOf_any _ s).mono ?_
  rintro z w2 ⟨rfl, hxx⟩
  replace A := A.below hxx
  replace HS := hide ((unhide HS).below hxx)
  replace hBW := bthen hBW hxx
  clear hxx
  go_wp2_with fail
  refine (numOf_int 1 _ (by omega) (by omega)).mono ?_
  rintro z w3 ⟨neg3, a3, n3, c3, rfl, hint3, hxx⟩
  replace A := A.below hxx
  replace HS := hide ((unhide HS).below hxx)
  replace hBW := bthen hBW hxx
  have HI3 := hide hint3
  clear hxx hint3
  go_wp2_with fail
  refine (numOf_int 16 _ (by omega) (by omega)).mono ?_
  rintro z w4 ⟨neg4, a4, n4, c4, rfl, hint4, hxx⟩
  replace A := A.below hxx
  replace HS := hide ((unhide HS).below hxx)
  replace HI3 := hide ((unhide HI3).below hxx)
  replace hBW := bthen hBW hxx
  have HI4 := hide hint4
  clear hxx hint4
  go_wp2_with fail
  refine (refRatio_z (b := 20) 20 rfl ⟨neg3, a3, n3, c3⟩ ⟨neg4, a4, n4, c4⟩ 4 4 1 16 _ (unhide HI3) (unhide HI4) (by omega) (by omega) (by omega) (by omega)).mono ?_
  rintro z w5 ⟨y, rfl, hxb, hxp, hxx⟩
  replace A := A.below hxx
  replace HS := hide ((unhide HS).below hxx)
  replace HI3 := hide ((unhide HI3).below hxx)
  replace HI4 := hide ((unhide HI4).below hxx)
  replace hBW := bthen hBW hxx
  have HPy := hide (hxp.mono (show 4 + 20 / 16 + 14 ≤ 250 by omega))
  have HBy := hide hxb
  clear hxx hxb hxp
  go_wp2_with fail
  refine (touch_le _ s y 250 0 0 _ _ _ _ (unhide HS) (unhide HPy) (by omega) (by have := unhide HSB; omega) (by have := unhide HSB; omega) (by have := unhide HBy; omega) (by have := unhide HBy; omega) (by have := unhide HSB; have := unhide HBy; omega) (by have := unhide HSB; have := unhide HBy; omega) (by have := unhide HSB; have := unhide HBy; omega)).mono ?_
  rintro z w6 ⟨rfl, hxx⟩
  rw [unhide HTB]
  replace A := A.below hxx
  replace HS := hide ((unhide HS).below hxx)
  replace HI3 := hide ((unhide HI3).below hxx)
  replace HI4 := hide ((unhide HI4).below hxx)
  replace HPy := hide ((unhide HPy).below hxx)
  replace hBW := bthen hBW hxx
  clear hxx
  have fA0 := A.c0
  have fA1 := A.c1
  have fA2 := A.c2
  have fA3 := A.c3
  have fA4 := A.c4
  have fAl := A.lt
  go_wp2_with fail
  clear fA0 fA1 fA2 fA3 fA4 fAl
  refine (narrowBy_four _ s 20 L H (unhide HS) (unhide HSB) (by omega) hle (unhide HN)).mono ?_
  rintro z w7 ⟨rfl, hxx⟩
  replace A := A.below hxx
  replace HS := hide ((unhide HS).below hxx)
  replace HI3 := hide ((unhide HI3).below hxx)
  replace HI4 := hide ((unhide HI4).below hxx)
  replace HPy := hide ((unhide HPy).below hxx)
  replace hBW := bthen hBW hxx
  clear hxx
  go_wp2_with fail
  exact bodyPost_ret (v := .bool true) (by simp [results, Try.results38]) rfl ⟨rfl, hBW⟩
end Go.Proofs.Ytgmnknmjainabab
namespace Go.Proofs.Ytgmnknmjainabab
open Go.RowKit
attribute [local go_sem ↓] Go.wp_at_zero Go.wp_at_succ
theorem chk_sp {w : World} {s : Sp} {k : Nat} {lo hi : Int} (h : SpAt w s k lo hi) (hk : k ≤ 250) (hle : lo ≤ hi) (h1 : 1 ≤ s.bits) (h2 : s.bits ≤ 120) : ∃ d e, SpDig w s d e ∧ chkE s d e = 0 ∧ lo = loZ s d ∧ hi = hiZ s e := by
  obtain ⟨⟨d, p1, p2, p3, p4, p5⟩, ⟨e, r1, r2, r3, r4, r5⟩⟩ := h
  refine ⟨d, e, ⟨p1, r1⟩, ?_, p5, r5⟩
  have l1 := lenZ_le s.lN d
  have l2 := lenZ_le s.hN e
  have g1 : rightB s.ln s.lN d ≠ false := by
    unfold rightB
    by_cases h0 : s.lN = 0
    · simp [h0, p3 h0]
    · rw [if_neg h0]; simpa using (show d (s.lN - 1) ≠ 0 by omega)
  have g2 : rightB s.hn s.hN e ≠ false := by
    unfold rightB
    by_cases h0 : s.hN = 0
    · simp [h0, r3 h0]
    · rw [if_neg h0]; simpa using (show e (s.hN - 1) ≠ 0 by omega)
  have g3 : ¬ 0 < cmpI s.ln s.hn d e s.lN s.hN := by
    rw [sgn_nonneg_lt p1.dgs r1.dgs s.ln s.hn s.lN s.hN p2 r2 p3 r3, ← p5, ← r5]
    exact cmpInt_le0 (by omega)
  unfold chkE
  rw [if_neg (by omega), if_neg (fun q => q.elim g1 g2), if_neg (by omega), if_neg g3]
theorem flt_ok {s t : Sp} {d e d' e' : Nat → Int} (h1 : chkE s d e = 0) (h2 : chkE t d' e' = 0) (h3 : s.bits = t.bits) : fltE2 (chkE s d e) (chkE t d' e') s.bits t.bits = 0 := by
  unfold fltE2; rw [h1, h2, h3]; simp
theorem small_fit {lo hi M : Int} (hM : M < Q 4000) (h : Abs (lo, hi) M) : fitE lo hi = 0 ∧ ∀ z, fitZ lo hi z = z := by
  obtain ⟨h1, h2, h3, h4⟩ := h
  simp only [] at h1 h2 h3 h4
  rcases fit_cases lo hi with ⟨f1, _, _⟩ | ⟨_, f2, f3⟩
  · exfalso
    rcases f1 with f1 | f1 <;> rcases f1 with f1 | f1 <;> omega
  · exact ⟨f2, f3⟩
theorem spanAdd_iv (w : World) (s t : Sp) (b : Nat) (a c : Int × Int) (hs : SpAt w s 250 a.1 a.2) (ht : SpAt w t 250 c.1 c.2) (h1 : s.bits = (b : Int)) (h2 : t.bits = (b : Int)) (hb1 : 1 ≤ b) (hb2 : b ≤ 120) (la : a.1 ≤ a.2) (lc : c.1 ≤ c.2) {M : Int} (hM : M < Q 4000) (hf : Abs (addI a c) M) :
    Calls Try.prog 20 #[.agg #[.bool s.ln, .slice s.la s.lN s.lc, .bool s.hn, .slice s.ha s.hN s.hc, .int .i64 s.bits], .agg #[.bool t.ln, .slice t.la t.lN t.lc, .bool t.hn, .slice t.ha t.hN t.hc, .int .i64 t.bits]] w (PairAns w b 600 (addI a c).1 (addI a c).2 0) := by
  obtain ⟨d, e, g1, g2, g3, g4⟩ := chk_sp hs (by omega) la (by omega) (by omega)
  obtain ⟨d', e', f1, f2, f3, f4⟩ := chk_sp ht (by omega) lc (by omega) (by omega)
  have hS := saidAdd s t d e d' e' (flt_ok g2 f2 (by omega)) a.1 a.2 c.1 c.2 g3 g4 f3 f4 w g1 f1
  obtain ⟨k1, k2⟩ := small_fit (lo := (addI a c).1) (hi := (addI a c).2) hM hf
  refine hS.mono fun r w' h => ?_
  have e1 : a.1 + c.1 = (addI a c).1 := rfl
  have e2 : a.2 + c.2 = (addI a c).2 := rfl
  rw [e1, e2, k1, k2, k2, k2, h1] at h
  exact h
end Go.Proofs.Ytgmnknmjainabab
namespace Go.Proofs.Ytgmnknmjainabab
open Go.RowKit
attribute [local go_sem ↓] Go.wp_at_zero Go.wp_at_succ
open Ex
theorem cmp_npos2 {x y : Int} (h : x ≤ y) : cmpInt x y ≤ 0 := by unfold cmpInt; split <;> (try split) <;> omega
theorem prodBd {p q : Int} (h1 : -1048576 ≤ p) (h2 : p ≤ 1048576) (h3 : 1 ≤ q) (h4 : q ≤ 1024) : -1073741824 ≤ p * q ∧ p * q ≤ 1073741824 := by
  have := abs_mul h1 h2 (show -1024 ≤ q by omega) h4
  omega
set_option maxRecDepth 100000 in
set_option maxHeartbeats 8000000 in
theorem law_bt_bad (n d n2 d2 p q r s : Int) (bt : Int) (w : World) (e : Int) (h : bE n d p q r s bt = e) (he : e ≠ 0) :
    Calls Try.prog 8 #[.agg #[.int .i64 n, .int .i64 d], .agg #[.int .i64 n2, .int .i64 d2], .agg #[.int .i64 p, .int .i64 q], .agg #[.int .i64 r, .int .i64 s], .int .i64 bt] w fun z w' => z = .returned (.bool true) ∧ Below w.heap.size w w' := by
  obtain ⟨W, hW⟩ : ∃ W, W = (((w.alloc (.cells #[.int .i64 n, .int .i64 d] 23)).alloc (.cells #[.int .i64 n2, .int .i64 d2] 23)).alloc (.cells #[.int .i64 p, .int .i64 q] 23)).alloc (.cells #[.int .i64 r, .int .i64 s] 23) := ⟨_, rfl⟩
  have hBW : Below w.heap.size w W := by rw [hW]; exact bl4 _ _ _ _ _
  have G : RaC W w.heap.size n d := by rw [hW]; exact ⟨by simp [go_sem], by simp [go_sem]⟩
  have J : RaC W (w.heap.size + 1) n2 d2 := by rw [hW]; exact ⟨by simp [go_sem], by simp [go_sem]⟩
  have A : RaC W (w.heap.size + 1 + 1) p q := by rw [hW]; exact ⟨by simp [go_sem], by simp [go_sem]⟩
  have D : RaC W (w.heap.size + 1 + 1 + 1) r s := by rw [hW]; exact ⟨by simp [go_sem], by simp [go_sem]⟩
  have HR := hide h
  have c1 : (e != 0) = true := by simp [he]
  clear h
  go_enter Try.func8, Try.ntmps8
  go_wp2_with fail
  rw [← hW]
  clear hW
  refine (betaBegun_any _).mono ?_
  rintro z wa ⟨rfl, hxx⟩
  replace A := A.below hxx
  replace D := D.below hxx
  replace G := G.below hxx
  replace J := J.below hxx
  replace hBW := bthen hBW hxx
  clear hxx
  go_wp2_with fail
  refine (spanBegun_any _).mono ?_
  rintro z wb ⟨rfl, hxx⟩
  replace A := A.below hxx
  replace D := D.below hxx
  replace G := G.below hxx
  replace J := J.below hxx
  replace hBW := bthen hBW hxx
  clear hxx
  have fA0 := A.c0
  have fA1 := A.c1
  have fAl := A.lt
  have fD0 := D.c0
  have fD1 := D.c1
  have fDl := D.lt
  have fG0 := G.c0
  have fG1 := G.c1
  have fGl := G.lt
  go_wp2_with fail
  clear fA0 fA1 fAl fD0 fD1 fDl fG0 fG1 fGl
  refine (cbp_bad _ n d p q r s bt e (unhide HR) he).mono ?_
  rintro z w3 ⟨y, rfl, hxb, hxp, hxx⟩
  replace A := A.below hxx
  replace D := D.below hxx
  replace G := G.below hxx
  replace J := J.below hxx
  replace hBW := bthen hBW hxx
  have HPy := hide hxp
  have HBy := hide hxb
  clear hxx hxb hxp
  obtain ⟨V3, hV3⟩ : ∃ V, V = w3.alloc (.cells #[.bool y.ln, .slice y.la y.lN y.lc, .bool y.hn, .slice y.ha y.hN y.hc, .int .i64 y.bits] 28) := ⟨_, rfl⟩
  have bV3 : Below w3.heap.size w3 V3 := by rw [hV3]; exact bl1 _ _
  have S : SpC V3 w3.heap.size y := by rw [hV3]; exact spc_new w3 y _
  replace A := A.below bV3
  replace D := D.below bV3
  replace G := G.below bV3
  replace J := J.below bV3
  replace HPy := hide ((unhide HPy).below bV3)
  replace hBW := bthen hBW bV3
  clear bV3
  go_upto_region 5 with fail
  rw [← hV3]
  clear hV3
  have fS0 := S.c0
  have fS1 := S.c1
  have fS2 := S.c2
  have fS3 := S.c3
  have fS4 := S.c4
  have fSl := S.lt
  go_wp2_with fail
  clear fS0 fS1 fS2 fS3 fS4 fSl
  refine (same_true _ y ⟨false, none, 0, 0, false, none, 0, 0, 0⟩ 250 0 0 (unhide HPy) (zeroSp _ _) (unhide HBy)).mono ?_
  rintro z w4 ⟨rfl, hxx⟩
  replace A := A.below hxx
  replace D := D.below hxx
  replace G := G.below hxx
  replace J := J.below hxx
  replace HPy := hide ((unhide HPy).below hxx)
  replace S := S.below hxx
  replace hBW := bthen hBW hxx
  clear hxx
  go_wp2_with fail
  exact bodyPost_ret (v := .bool true) (by simp [results, Try.results8]) rfl ⟨rfl, hBW⟩
set_option maxRecDepth 100000 in
set_option maxHeartbeats 8000000 in
theorem law_bt_ok (n d n2 d2 p q r s : Int) (b : Nat) (w : World) (h : bE n d p q r s (b : Int) = 0) :
    Calls Try.prog 8 #[.agg #[.int .i64 n, .int .i64 d], .agg #[.int .i64 n2, .int .i64 d2], .agg #[.int .i64 p, .int .i64 q], .agg #[.int .i64 r, .int .i64 s], .int .i64 (b : Int)] w fun z w' => z = .returned (.bool true) ∧ Below w.heap.size w w' := by
  obtain ⟨W, hW⟩ : ∃ W, W = (((w.alloc (.cells #[.int .i64 n, .int .i64 d] 23)).alloc (.cells #[.int .i64 n2, .int .i64 d2] 23)).alloc (.cells #[.int .i64 p, .int .i64 q] 23)).alloc (.cells #[.int .i64 r, .int .i64 s] 23) := ⟨_, rfl⟩
  have hBW : Below w.heap.size w W := by rw [hW]; exact bl4 _ _ _ _ _
  have G : RaC W w.heap.size n d := by rw [hW]; exact ⟨by simp [go_sem], by simp [go_sem]⟩
  have J : RaC W (w.heap.size + 1) n2 d2 := by rw [hW]; exact ⟨by simp [go_sem], by simp [go_sem]⟩
  have A : RaC W (w.heap.size + 1 + 1) p q := by rw [hW]; exact ⟨by simp [go_sem], by simp [go_sem]⟩
  have D : RaC W (w.heap.size + 1 + 1 + 1) r s := by rw [hW]; exact ⟨by simp [go_sem], by simp [go_sem]⟩
  obtain ⟨L0, GG, X, hE⟩ := genv_ex
  have HE := hide hE
  obtain ⟨⟨⟨⟨a1, a2, a3, a4⟩, ⟨c1, c2, c3', c4⟩, ⟨i1, i2, i3, i4⟩⟩, h5', h6'⟩, ⟨n0, nd⟩, ⟨p0, pq⟩, r0, rs⟩ := bE_zero h
  have h5 : 8 ≤ b := by omega
  have h6 : b ≤ 120 := by omega
  have d0 : 0 < d := by omega
  have HRX := hide (show rok n d from ⟨a1, a2, a3, a4⟩)
  have HR := hide h
  have HR2 := hide (show bE (d - n) d r s p q b = 0 by
    unfold bE
    rw [if_neg (fun k => k ⟨⟨⟨by omega, by omega, a3, a4⟩, ⟨i1, i2, i3, i4⟩, c1, c2, c3', c4⟩, by omega, by omega⟩), if_neg (by omega), if_neg (by omega), if_neg (by omega)])
  have HR3 := hide (show bE n d 1 1 1 1 b = 0 by
    unfold bE
    rw [if_neg (fun k => k ⟨⟨⟨a1, a2, a3, a4⟩, ⟨by omega, by omega, by omega, by omega⟩, by omega, by omega, by omega, by omega⟩, by omega, by omega⟩), if_neg (by omega), if_neg (by omega), if_neg (by omega)])
  have hQb := Q_pos b
  have HQ : Hid (4 * Q b < Q 4000) := hide (by
    have e : Q (b + 2) = 2 * (2 * Q b) := rfl
    have := Q_mono (show b + 3 ≤ 4000 by omega)
    have e2 : Q (b + 3) = 2 * Q (b + 2) := rfl
    omega)
  clear hE h h5' h6'
  go_enter Try.func8, Try.ntmps8
  go_wp2_with fail
  rw [← hW]
  clear hW
  refine (betaBegun_any _).mono ?_
  rintro z wa ⟨rfl, hxx⟩
  replace A := A.below hxx
  replace D := D.below hxx
  replace G := G.below hxx
  replace J := J.below hxx
  replace hBW := bthen hBW hxx
  clear hxx
  go_wp2_with fail
  refine (spanBegun_any _).mono ?_
  rintro z wb ⟨rfl, hxx⟩
  replace A := A.below hxx
  replace D := D.below hxx
  replace G := G.below hxx
  replace J := J.below hxx
  replace hBW := bthen hBW hxx
  clear hxx
  have fA0 := A.c0
  have fA1 := A.c1
  have fAl := A.lt
  have fD0 := D.c0
  have fD1 := D.c1
  have fDl := D.lt
  have fG0 := G.c0
  have fG1 := G.c1
  have fGl := G.lt
  go_wp2_with fail
  clear fA0 fA1 fAl fD0 fD1 fDl fG0 fG1 fGl
  refine (cbp_ok L0 GG X (unhide HE) _ n d p q r s b (unhide HR)).mono ?_
  rintro z w3 ⟨L1, H1, hv, x, rfl, hxb, hxp, hxx⟩
  replace A := A.below hxx
  replace D := D.below hxx
  replace G := G.below hxx
  replace J := J.below hxx
  replace hBW := bthen hBW hxx
  clear hxx
  have HVx := hide hv
  have HBx := hide hxb
  have HPx := hide hxp
  clear hv hxb hxp
  obtain ⟨V3, hV3⟩ : ∃ V, V = w3.alloc (.cells #[.bool x.ln, .slice x.la x.lN x.lc, .bool x.hn, .slice x.ha x.hN x.hc, .int .i64 x.bits] 28) := ⟨_, rfl⟩
  have bV3 : Below w3.heap.size w3 V3 := by rw [hV3]; exact bl1 _ _
  have S : SpC V3 w3.heap.size x := by rw [hV3]; exact spc_new w3 x _
  replace A := A.below bV3
  replace D := D.below bV3
  replace G := G.below bV3
  replace J := J.below bV3
  replace HPx := hide ((unhide HPx).below bV3)
  replace hBW := bthen hBW bV3
  clear bV3
  go_upto_region 6 with fail
  rw [← hV3]
  clear hV3
  have fA0 := A.c0
  have fA1 := A.c1
  have fAl := A.lt
  have fD0 := D.c0
  have fD1 := D.c1
  have fDl := D.lt
  have fG0 := G.c0
  have fG1 := G.c1
  have fGl := G.lt
  go_wp2_with fail
  clear fA0 fA1 fAl fD0 fD1 fDl fG0 fG1 fGl
  refine (cbp_ok L0 GG X (unhide HE) _ (d - n) d r s p q b (unhide HR2)).mono ?_
  rintro z w4 ⟨L2, H2, hv, t, rfl, hxb, hxp, hxx⟩
  replace A := A.below hxx
  replace D := D.below hxx
  replace G := G.below hxx
  replace J := J.below hxx
  replace HPx := hide ((unhide HPx).below hxx)
  replace S := S.below hxx
  replace hBW := bthen hBW hxx
  clear hxx
  have HVt := hide (show SuV (fun M => 1 - bvX L0 p q r s n d M) b L2 H2 ∧ 0 ≤ L2 ∧ H2 ≤ Q b from ⟨hv.1.congr ((bvX_turn (unhide HE).lns p0 (by omega) r0 (by omega) n0 nd d0).neg.of_eq fun M => turn_eq), hv.2⟩)
  have HBt := hide hxb
  have HPt := hide hxp
  clear hv hxb hxp
  obtain ⟨V4, hV4⟩ : ∃ V, V = w4.alloc (.cells #[.bool t.ln, .slice t.la t.lN t.lc, .bool t.hn, .slice t.ha t.hN t.hc, .int .i64 t.bits] 28) := ⟨_, rfl⟩
  have bV4 : Below w4.heap.size w4 V4 := by rw [hV4]; exact bl1 _ _
  have T : SpC V4 w4.heap.size t := by rw [hV4]; exact spc_new w4 t _
  replace A := A.below bV4
  replace D := D.below bV4
  replace G := G.below bV4
  replace J := J.below bV4
  replace HPx := hide ((unhide HPx).below bV4)
  replace S := S.below bV4
  replace HPt := hide ((unhide HPt).below bV4)
  replace hBW := bthen hBW bV4
  clear bV4
  go_upto_region 7 with fail
  rw [← hV4]
  clear hV4
  have fS0 := S.c0
  have fS1 := S.c1
  have fS2 := S.c2
  have fS3 := S.c3
  have fS4 := S.c4
  have fSl := S.lt
  have fT0 := T.c0
  have fT1 := T.c1
  have fT2 := T.c2
  have fT3 := T.c3
  have fT4 := T.c4
  have fTl := T.lt
  go_wp2_with fail
  clear fS0 fS1 fS2 fS3 fS4 fSl fT0 fT1 fT2 fT3 fT4 fTl
  have les := (unhide HVx).1.le
  have let_ := (unhide HVt).1.le
  have AA1 : Hid (Abs (addI (L1, H1) (L2, H2)) (4 * Q b)) := hide (by
    have a1 := (unhide HVx).2.1; have a2 := (unhide HVx).2.2; have a3 := (unhide HVt).2.1; have a4 := (unhide HVt).2.2
    exact ⟨by show -(4 * Q b) ≤ L1 + L2; omega, by show L1 + L2 ≤ 4 * Q b; omega, by show -(4 * Q b) ≤ H1 + H2; omega, by show H1 + H2 ≤ 4 * Q b; omega⟩)
  have HTB := hide (up_unit (unhide HVx).1 (unhide HVt).1)
  refine (spanAdd_iv _ x t b (L1, H1) (L2, H2) (unhide HPx) (unhide HPt) (unhide HBx) (unhide HBt) (by omega) h6 les let_ (unhide HQ) (unhide AA1)).mono ?_
  rintro z w6 ⟨c, rfl, hxb, hxp, hxx⟩
  replace A := A.below hxx
  replace D := D.below hxx
  replace G := G.below hxx
  replace J := J.below hxx
  replace HPx := hide ((unhide HPx).below hxx)
  replace S := S.below hxx
  replace HPt := hide ((unhide HPt).below hxx)
  replace T := T.below hxx
  replace hBW := bthen hBW hxx
  clear hxx
  have HBc := hide hxb
  have HPc := hide hxp
  clear hxb hxp les let_ AA1
  obtain ⟨V6, hV6⟩ : ∃ V, V = w6.alloc (.cells #[.bool c.ln, .slice c.la c.lN c.lc, .bool c.hn, .slice c.ha c.hN c.hc, .int .i64 c.bits] 28) := ⟨_, rfl⟩
  have bV6 : Below w6.heap.size w6 V6 := by rw [hV6]; exact bl1 _ _
  have C : SpC V6 w6.heap.size c := by rw [hV6]; exact spc_new w6 c _
  replace A := A.below bV6
  replace D := D.below bV6
  replace G := G.below bV6
  replace J := J.below bV6
  replace HPx := hide ((unhide HPx).below bV6)
  replace S := S.below bV6
  replace HPt := hide ((unhide HPt).below bV6)
  replace T := T.below bV6
  replace HPc := hide ((unhide HPc).below bV6)
  replace hBW := bthen hBW bV6
  clear bV6
  go_upto_region 8 with fail
  rw [← hV6]
  clear hV6
  have fC0 := C.c0
  have fC1 := C.c1
  have fC2 := C.c2
  have fC3 := C.c3
  have fC4 := C.c4
  have fCl := C.lt
  go_wp2_with fail
  clear fC0 fC1 fC2 fC3 fC4 fCl
  refine (refOf_any _ c).mono ?_
  rintro z w10 ⟨rfl, hxx⟩
  replace A := A.below hxx
  replace D := D.below hxx
  replace G := G.below hxx
  replace J := J.below hxx
  replace HPx := hide ((unhide HPx).below hxx)
  replace S := S.below hxx
  replace HPt := hide ((unhide HPt).below hxx)
  replace T := T.below hxx
  replace HPc := hide ((unhide HPc).below hxx)
  replace C := C.below hxx
  replace hBW := bthen hBW hxx
  clear hxx
  go_wp2_with fail
  refine (refWhole _ 1 b (by omega) (by omega) (by omega)).mono ?_
  rintro z w11 ⟨y, rfl, hxb, hxp, hxx⟩
  replace A := A.below hxx
  replace D := D.below hxx
  replace G := G.below hxx
  replace J := J.below hxx
  replace HPx := hide ((unhide HPx).below hxx)
  replace S := S.below hxx
  replace HPt := hide ((unhide HPt).below hxx)
  replace T := T.below hxx
  replace HPc := hide ((unhide HPc).below hxx)
  replace C := C.below hxx
  replace hBW := bthen hBW hxx
  clear hxx
  have HBy := hide hxb
  have HPy := hide (hxp.mono (show b / 16 + 18 ≤ 600 by omega))
  clear hxb hxp
  go_wp2_with fail
  refine (touch_le _ c y 600 0 0 _ _ _ _ (unhide HPc) (unhide HPy) (by omega) (by have := unhide HBc; omega) (by have := unhide HBc; omega) (by have := unhide HBy; omega) (by have := unhide HBy; omega) (by have := unhide HBc; have := unhide HBy; omega) (by have := unhide HBc; have := unhide HBy; omega) (by have := unhide HBc; have := unhide HBy; omega)).mono ?_
  rintro z w12 ⟨rfl, hxx⟩
  rw [unhide HTB]
  replace A := A.below hxx
  replace D := D.below hxx
  replace G := G.below hxx
  replace J := J.below hxx
  replace HPx := hide ((unhide HPx).below hxx)
  replace S := S.below hxx
  replace HPt := hide ((unhide HPt).below hxx)
  replace T := T.below hxx
  replace HPc := hide ((unhide HPc).below hxx)
  replace C := C.below hxx
  replace HPy := hide ((unhide HPy).below hxx)
  replace hBW := bthen hBW hxx
  clear hxx
  clear HTB HPy HPc HPt T C HBy HBc HVt HBt
  have fA0 := A.c0
  have fA1 := A.c1
  have fAl := A.lt
  have fD0 := D.c0
  have fD1 := D.c1
  have fDl := D.lt
  have fJ0 := J.c0
  have fJ1 := J.c1
  have fJl := J.lt
  go_wp2_with fail
  clear fA0 fA1 fAl fD0 fD1 fDl fJ0 fJ1 fJl
  by_cases h2 : bE n2 d2 p q r s (b : Int) = 0
  · obtain ⟨⟨⟨⟨t1, t2, t3, t4⟩, _⟩, _⟩, ⟨t5, t6⟩, _⟩ := bE_zero h2
    have HR4 := hide h2
    clear h2
    refine (cbp_ok L0 GG X (unhide HE) _ n2 d2 p q r s b (unhide HR4)).mono ?_
    rintro z w13 ⟨L4, H4, hv, u, rfl, hxb, hxp, hxx⟩
    replace A := A.below hxx
    replace D := D.below hxx
    replace G := G.below hxx
    replace J := J.below hxx
    replace HPx := hide ((unhide HPx).below hxx)
    replace S := S.below hxx
    replace hBW := bthen hBW hxx
    clear hxx
    have HVu := hide hv
    have HPu := hide hxp
    clear hv hxb hxp
    obtain ⟨V13, hV13⟩ : ∃ V, V = w13.alloc (.cells #[.bool u.ln, .slice u.la u.lN u.lc, .bool u.hn, .slice u.ha u.hN u.hc, .int .i64 u.bits] 28) := ⟨_, rfl⟩
    have bV13 : Below w13.heap.size w13 V13 := by rw [hV13]; exact bl1 _ _
    have U : SpC V13 w13.heap.size u := by rw [hV13]; exact spc_new w13 u _
    replace A := A.below bV13
    replace D := D.below bV13
    replace G := G.below bV13
    replace J := J.below bV13
    replace HPx := hide ((unhide HPx).below bV13)
    replace S := S.below bV13
    replace HPu := hide ((unhide HPu).below bV13)
    replace hBW := bthen hBW bV13
    clear bV13
    go_upto_region 11 with fail
    rw [← hV13]
    clear hV13
    obtain ⟨m1, m2⟩ := prodBd a1 a2 t3 t4
    obtain ⟨m3, m4⟩ := prodBd t1 t2 a3 a4
    by_cases hle : n * d2 ≤ n2 * d
    · have nx := su_le (unhide HVx).1 (unhide HVu).1 (bvX_mono (unhide HE).lns p0 (by omega) r0 (by omega) n0 nd d0 t5 t6 (by omega) hle)
      have cc := cmp_npos2 nx
      clear nx
      have fG0 := G.c0
      have fG1 := G.c1
      have fGl := G.lt
      have fJ0 := J.c0
      have fJ1 := J.c1
      have fJl := J.lt
      have fS0 := S.c0
      have fS1 := S.c1
      have fS2 := S.c2
      have fS3 := S.c3
      have fS4 := S.c4
      have fSl := S.lt
      have fU0 := U.c0
      have fU1 := U.c1
      have fU2 := U.c2
      have fU3 := U.c3
      have fU4 := U.c4
      have fUl := U.lt
      go_wp2_with fail
      clear fG0 fG1 fGl fJ0 fJ1 fJl fS0 fS1 fS2 fS3 fS4 fSl fU0 fU1 fU2 fU3 fU4 fUl
      refine (cmp_int _ _ _ _ _ _ _ _ 250 250 L1 H4 _ (unhide HPx).lo (unhide HPu).hi).mono ?_
      rintro z w15 ⟨rfl, hxx⟩
      replace A := A.below hxx
      replace D := D.below hxx
      replace G := G.below hxx
      replace J := J.below hxx
      replace HPx := hide ((unhide HPx).below hxx)
      replace S := S.below hxx
      replace HPu := hide ((unhide HPu).below hxx)
      replace U := U.below hxx
      replace hBW := bthen hBW hxx
      clear hxx
      go_upto_region 13 with fail
      clear cc
      obtain ⟨VO, hVO⟩ : ∃ V, V = w15.alloc (.cells #[.int .i64 1, .int .i64 1] 23) := ⟨_, rfl⟩
      have bVO : Below w15.heap.size w15 VO := by rw [hVO]; exact bl1 _ _
      have O : RaC VO w15.heap.size 1 1 := by rw [hVO]; exact rac_new w15 1 1 _
      replace A := A.below bVO
      replace D := D.below bVO
      replace G := G.below bVO
      replace J := J.below bVO
      replace HPx := hide ((unhide HPx).below bVO)
      replace S := S.below bVO
      replace HPu := hide ((unhide HPu).below bVO)
      replace U := U.below bVO
      replace hBW := bthen hBW bVO
      clear bVO
      go_upto_region 14 with fail
      rw [← hVO]
      clear hVO
      have fO0 := O.c0
      have fO1 := O.c1
      have fOl := O.lt
      have fG0 := G.c0
      have fG1 := G.c1
      have fGl := G.lt
      go_wp2_with fail
      clear fO0 fO1 fOl fG0 fG1 fGl
      refine (cbp_ok L0 GG X (unhide HE) _ n d 1 1 1 1 b (unhide HR3)).mono ?_
      rintro z w21 ⟨L5, H5, hv, v, rfl, hxb, hxp, hxx⟩
      replace A := A.below hxx
      replace D := D.below hxx
      replace G := G.below hxx
      replace J := J.below hxx
      replace HPx := hide ((unhide HPx).below hxx)
      replace S := S.below hxx
      replace HPu := hide ((unhide HPu).below hxx)
      replace U := U.below hxx
      replace O := O.below hxx
      replace hBW := bthen hBW hxx
      have HTB2 := hide (touch_same (a := (L5, H5)) hv.1.val (Has.congr (Iv.of b (n := n) (d := d) (by omega)) (Null.symm (bvX_11 (unhide HE).lns n0 nd d0))))
      have HPv := hide hxp
      have HBv := hide hxb
      clear hxx hv hxb hxp
      obtain ⟨V21, hV21⟩ : ∃ V, V = w21.alloc (.cells #[.bool v.ln, .slice v.la v.lN v.lc, .bool v.hn, .slice v.ha v.hN v.hc, .int .i64 v.bits] 28) := ⟨_, rfl⟩
      have bV21 : Below w21.heap.size w21 V21 := by rw [hV21]; exact bl1 _ _
      have U5 : SpC V21 w21.heap.size v := by rw [hV21]; exact spc_new w21 v _
      replace A := A.below bV21
      replace D := D.below bV21
      replace G := G.below bV21
      replace J := J.below bV21
      replace HPx := hide ((unhide HPx).below bV21)
      replace S := S.below bV21
      replace HPu := hide ((unhide HPu).below bV21)
      replace U := U.below bV21
      replace O := O.below bV21
      replace HPv := hide ((unhide HPv).below bV21)
      replace hBW := bthen hBW bV21
      clear bV21
      have HKL := hide (show ∀ w', Below V21.heap.size V21 w' → (w'.cell? ⟨w21.heap.size, 0, none⟩ = some (.bool v.ln) ∧ w'.cell? ⟨w21.heap.size, 1, none⟩ = some (.slice v.la v.lN v.lc) ∧ w'.cell? ⟨w21.heap.size, 2, none⟩ = some (.bool v.hn) ∧ w'.cell? ⟨w21.heap.size, 3, none⟩ = some (.slice v.ha v.hN v.hc) ∧ w'.cell? ⟨w21.heap.size, 4, none⟩ = some (.int .i64 v.bits) ∧ w'.cell? ⟨w.heap.size, 0, none⟩ = some (.int .i64 n) ∧ w'.cell? ⟨w.heap.size, 1, none⟩ = some (.int .i64 d)) from fun w' hB => ⟨(U5.below hB).c0, (U5.below hB).c1, (U5.below hB).c2, (U5.below hB).c3, (U5.below hB).c4, (G.below hB).c0, (G.below hB).c1⟩)
      have lU5 := U5.lt
      have lG5 := G.lt
      have hD0 : Below V21.heap.size V21 V21.drew := (Below.refl _ _).drew
      go_wp2_with fail
      rw [← hV21]
      clear hV21
      obtain ⟨x0, x1, x2, x3, x4, x5, x6⟩ := unhide HKL _ (Below.refl _ _)
      go_region_held3 (fun w' => w'.cell? ⟨w21.heap.size, 0, none⟩ = some (.bool v.ln) ∧ w'.cell? ⟨w21.heap.size, 1, none⟩ = some (.slice v.la v.lN v.lc) ∧ w'.cell? ⟨w21.heap.size, 2, none⟩ = some (.bool v.hn) ∧ w'.cell? ⟨w21.heap.size, 3, none⟩ = some (.slice v.ha v.hN v.hc) ∧ w'.cell? ⟨w21.heap.size, 4, none⟩ = some (.int .i64 v.bits) ∧ w'.cell? ⟨w.heap.size, 0, none⟩ = some (.int .i64 n) ∧ w'.cell? ⟨w.heap.size, 1, none⟩ = some (.int .i64 d)) (first | exact unhide HKL _ (by first | with_reducible exact hD0 | with_reducible exact hD3 | with_reducible exact hD2 | with_reducible exact hD1) | go_keep)
        (first
          | (go_at_call 23; have hqq := hD2; refine (touch_le _ v y 250 0 0 L5 H5 (ofI n d b).1 (ofI n d b).2 ((unhide HPv).below hD2) (show SpAt _ y 250 (ofI n d b).1 (ofI n d b).2 from unhide HPY) (by omega) (by have := unhide HBv; omega) (by have := unhide HBv; omega) (by have := unhide HBY; omega) (by have := unhide HBY; omega) (by have := unhide HBv; have := unhide HBY; omega) (by have := unhide HBv; have := unhide HBY; omega) (by have := unhide HBv; have := unhide HBY; omega)).mono ?_; rintro z g3 ⟨rfl, hg3⟩; rw [unhide HTB2]; have hD3 := bthen hD2 hg3)
          | (go_at_call 15; have hqq := hD1; refine (refRatioOf_any n d b _ (unhide HRX) (by omega)).mono ?_; rintro z g2 ⟨y, rfl, hyb, hyp, hg2⟩; have HPY := hide (hyp.mono (show b / 16 + 18 ≤ 250 by omega)); have HBY := hide hyb; clear hyb hyp; have hD2 := bthen hD1 hg2)
          | (go_at_call 22; refine (refOf_any _ v).mono ?_; rintro z g1 ⟨rfl, hg1⟩; have hD1 := bthen hD0 hg1))
      all_goals
        go_wp2_with fail
        exact bodyPost_ret (v := .bool true) (by simp [results, Try.results8]) rfl ⟨rfl, bthen hBW hD3⟩
    · have fG0 := G.c0
      have fG1 := G.c1
      have fGl := G.lt
      have fJ0 := J.c0
      have fJ1 := J.c1
      have fJl := J.lt
      have fS0 := S.c0
      have fS1 := S.c1
      have fS2 := S.c2
      have fS3 := S.c3
      have fS4 := S.c4
      have fSl := S.lt
      have fU0 := U.c0
      have fU1 := U.c1
      have fU2 := U.c2
      have fU3 := U.c3
      have fU4 := U.c4
      have fUl := U.lt
      go_upto_region 13 with fail
      clear fG0 fG1 fGl fJ0 fJ1 fJl fS0 fS1 fS2 fS3 fS4 fSl fU0 fU1 fU2 fU3 fU4 fUl
      obtain ⟨VO, hVO⟩ : ∃ V, V = V13.alloc (.cells #[.int .i64 1, .int .i64 1] 23) := ⟨_, rfl⟩
      have bVO : Below V13.heap.size V13 VO := by rw [hVO]; exact bl1 _ _
      have O : RaC VO V13.heap.size 1 1 := by rw [hVO]; exact rac_new V13 1 1 _
      replace A := A.below bVO
      replace D := D.below bVO
      replace G := G.below bVO
      replace J := J.below bVO
      replace HPx := hide ((unhide HPx).below bVO)
      replace S := S.below bVO
      replace HPu := hide ((unhide HPu).below bVO)
      replace U := U.below bVO
      replace hBW := bthen hBW bVO
      clear bVO
      go_upto_region 14 with fail
      rw [← hVO]
      clear hVO
      have fO0 := O.c0
      have fO1 := O.c1
      have fOl := O.lt
      have fG0 := G.c0
      have fG1 := G.c1
      have fGl := G.lt
      go_wp2_with fail
      clear fO0 fO1 fOl fG0 fG1 fGl
      refine (cbp_ok L0 GG X (unhide HE) _ n d 1 1 1 1 b (unhide HR3)).mono ?_
      rintro z w21 ⟨L5, H5, hv, v, rfl, hxb, hxp, hxx⟩
      replace A := A.below hxx
      replace D := D.below hxx
      replace G := G.below hxx
      replace J := J.below hxx
      replace HPx := hide ((unhide HPx).below hxx)
      replace S := S.below hxx
      replace HPu := hide ((unhide HPu).below hxx)
      replace U := U.below hxx
      replace O := O.below hxx
      replace hBW := bthen hBW hxx
      have HTB2 := hide (touch_same (a := (L5, H5)) hv.1.val (Has.congr (Iv.of b (n := n) (d := d) (by omega)) (Null.symm (bvX_11 (unhide HE).lns n0 nd d0))))
      have HPv := hide hxp
      have HBv := hide hxb
      clear hxx hv hxb hxp
      obtain ⟨V21, hV21⟩ : ∃ V, V = w21.alloc (.cells #[.bool v.ln, .slice v.la v.lN v.lc, .bool v.hn, .slice v.ha v.hN v.hc, .int .i64 v.bits] 28) := ⟨_, rfl⟩
      have bV21 : Below w21.heap.size w21 V21 := by rw [hV21]; exact bl1 _ _
      have U5 : SpC V21 w21.heap.size v := by rw [hV21]; exact spc_new w21 v _
      replace A := A.below bV21
      replace D := D.below bV21
      replace G := G.below bV21
      replace J := J.below bV21
      replace HPx := hide ((unhide HPx).below bV21)
      replace S := S.below bV21
      replace HPu := hide ((unhide HPu).below bV21)
      replace U := U.below bV21
      replace O := O.below bV21
      replace HPv := hide ((unhide HPv).below bV21)
      replace hBW := bthen hBW bV21
      clear bV21
      have HKL := hide (show ∀ w', Below V21.heap.size V21 w' → (w'.cell? ⟨w21.heap.size, 0, none⟩ = some (.bool v.ln) ∧ w'.cell? ⟨w21.heap.size, 1, none⟩ = some (.slice v.la v.lN v.lc) ∧ w'.cell? ⟨w21.heap.size, 2, none⟩ = some (.bool v.hn) ∧ w'.cell? ⟨w21.heap.size, 3, none⟩ = some (.slice v.ha v.hN v.hc) ∧ w'.cell? ⟨w21.heap.size, 4, none⟩ = some (.int .i64 v.bits) ∧ w'.cell? ⟨w.heap.size, 0, none⟩ = some (.int .i64 n) ∧ w'.cell? ⟨w.heap.size, 1, none⟩ = some (.int .i64 d)) from fun w' hB => ⟨(U5.below hB).c0, (U5.below hB).c1, (U5.below hB).c2, (U5.below hB).c3, (U5.below hB).c4, (G.below hB).c0, (G.below hB).c1⟩)
      have lU5 := U5.lt
      have lG5 := G.lt
      have hD0 : Below V21.heap.size V21 V21.drew := (Below.refl _ _).drew
      go_wp2_with fail
      rw [← hV21]
      clear hV21
      obtain ⟨x0, x1, x2, x3, x4, x5, x6⟩ := unhide HKL _ (Below.refl _ _)
      go_region_held3 (fun w' => w'.cell? ⟨w21.heap.size, 0, none⟩ = some (.bool v.ln) ∧ w'.cell? ⟨w21.heap.size, 1, none⟩ = some (.slice v.la v.lN v.lc) ∧ w'.cell? ⟨w21.heap.size, 2, none⟩ = some (.bool v.hn) ∧ w'.cell? ⟨w21.heap.size, 3, none⟩ = some (.slice v.ha v.hN v.hc) ∧ w'.cell? ⟨w21.heap.size, 4, none⟩ = some (.int .i64 v.bits) ∧ w'.cell? ⟨w.heap.size, 0, none⟩ = some (.int .i64 n) ∧ w'.cell? ⟨w.heap.size, 1, none⟩ = some (.int .i64 d)) (first | exact unhide HKL _ (by first | with_reducible exact hD0 | with_reducible exact hD3 | with_reducible exact hD2 | with_reducible exact hD1) | go_keep)
        (first
          | (go_at_call 23; have hqq := hD2; refine (touch_le _ v y 250 0 0 L5 H5 (ofI n d b).1 (ofI n d b).2 ((unhide HPv).below hD2) (show SpAt _ y 250 (ofI n d b).1 (ofI n d b).2 from unhide HPY) (by omega) (by have := unhide HBv; omega) (by have := unhide HBv; omega) (by have := unhide HBY; omega) (by have := unhide HBY; omega) (by have := unhide HBv; have := unhide HBY; omega) (by have := unhide HBv; have := unhide HBY; omega) (by have := unhide HBv; have := unhide HBY; omega)).mono ?_; rintro z g3 ⟨rfl, hg3⟩; rw [unhide HTB2]; have hD3 := bthen hD2 hg3)
          | (go_at_call 15; have hqq := hD1; refine (refRatioOf_any n d b _ (unhide HRX) (by omega)).mono ?_; rintro z g2 ⟨y, rfl, hyb, hyp, hg2⟩; have HPY := hide (hyp.mono (show b / 16 + 18 ≤ 250 by omega)); have HBY := hide hyb; clear hyb hyp; have hD2 := bthen hD1 hg2)
          | (go_at_call 22; refine (refOf_any _ v).mono ?_; rintro z g1 ⟨rfl, hg1⟩; have hD1 := bthen hD0 hg1))
      all_goals
        go_wp2_with fail
        exact bodyPost_ret (v := .bool true) (by simp [results, Try.results8]) rfl ⟨rfl, bthen hBW hD3⟩
  · obtain ⟨e2, he2⟩ : ∃ e, bE n2 d2 p q r s (b : Int) = e := ⟨_, rfl⟩
    rw [he2] at h2
    have cb2 : (e2 == 0) = false := by simp [h2]
    have HE2 := hide he2
    clear he2
    refine (cbp_bad _ n2 d2 p q r s b e2 (unhide HE2) h2).mono ?_
    rintro z w13 ⟨u, rfl, hxb, hxp, hxx⟩
    replace A := A.below hxx
    replace D := D.below hxx
    replace G := G.below hxx
    replace J := J.below hxx
    replace HPx := hide ((unhide HPx).below hxx)
    replace S := S.below hxx
    replace hBW := bthen hBW hxx
    clear hxx hxb hxp
    obtain ⟨V13, hV13⟩ : ∃ V, V = w13.alloc (.cells #[.bool u.ln, .slice u.la u.lN u.lc, .bool u.hn, .slice u.ha u.hN u.hc, .int .i64 u.bits] 28) := ⟨_, rfl⟩
    have bV13 : Below w13.heap.size w13 V13 := by rw [hV13]; exact bl1 _ _
    have U : SpC V13 w13.heap.size u := by rw [hV13]; exact spc_new w13 u _
    replace A := A.below bV13
    replace D := D.below bV13
    replace G := G.below bV13
    replace J := J.below bV13
    replace HPx := hide ((unhide HPx).below bV13)
    replace S := S.below bV13
    replace hBW := bthen hBW bV13
    clear bV13
    go_upto_region 13 with fail
    rw [← hV13]
    clear hV13
    obtain ⟨VO, hVO⟩ : ∃ V, V = V13.alloc (.cells #[.int .i64 1, .int .i64 1] 23) := ⟨_, rfl⟩
    have bVO : Below V13.heap.size V13 VO := by rw [hVO]; exact bl1 _ _
    have O : RaC VO V13.heap.size 1 1 := by rw [hVO]; exact rac_new V13 1 1 _
    replace A := A.below bVO
    replace D := D.below bVO
    replace G := G.below bVO
    replace J := J.below bVO
    replace HPx := hide ((unhide HPx).below bVO)
    replace S := S.below bVO
    replace hBW := bthen hBW bVO
    clear bVO
    go_upto_region 14 with fail
    rw [← hVO]
    clear hVO
    have fO0 := O.c0
    have fO1 := O.c1
    have fOl := O.lt
    have fG0 := G.c0
    have fG1 := G.c1
    have fGl := G.lt
    go_wp2_with fail
    clear fO0 fO1 fOl fG0 fG1 fGl
    refine (cbp_ok L0 GG X (unhide HE) _ n d 1 1 1 1 b (unhide HR3)).mono ?_
    rintro z w21 ⟨L5, H5, hv, v, rfl, hxb, hxp, hxx⟩
    replace A := A.below hxx
    replace D := D.below hxx
    replace G := G.below hxx
    replace J := J.below hxx
    replace HPx := hide ((unhide HPx).below hxx)
    replace S := S.below hxx
    replace O := O.below hxx
    replace hBW := bthen hBW hxx
    have HTB2 := hide (touch_same (a := (L5, H5)) hv.1.val (Has.congr (Iv.of b (n := n) (d := d) (by omega)) (Null.symm (bvX_11 (unhide HE).lns n0 nd d0))))
    have HPv := hide hxp
    have HBv := hide hxb
    clear hxx hv hxb hxp
    obtain ⟨V21, hV21⟩ : ∃ V, V = w21.alloc (.cells #[.bool v.ln, .slice v.la v.lN v.lc, .bool v.hn, .slice v.ha v.hN v.hc, .int .i64 v.bits] 28) := ⟨_, rfl⟩
    have bV21 : Below w21.heap.size w21 V21 := by rw [hV21]; exact bl1 _ _
    have U5 : SpC V21 w21.heap.size v := by rw [hV21]; exact spc_new w21 v _
    replace A := A.below bV21
    replace D := D.below bV21
    replace G := G.below bV21
    replace J := J.below bV21
    replace HPx := hide ((unhide HPx).below bV21)
    replace S := S.below bV21
    replace O := O.below bV21
    replace HPv := hide ((unhide HPv).below bV21)
    replace hBW := bthen hBW bV21
    clear bV21
    have HKL := hide (show ∀ w', Below V21.heap.size V21 w' → (w'.cell? ⟨w21.heap.size, 0, none⟩ = some (.bool v.ln) ∧ w'.cell? ⟨w21.heap.size, 1, none⟩ = some (.slice v.la v.lN v.lc) ∧ w'.cell? ⟨w21.heap.size, 2, none⟩ = some (.bool v.hn) ∧ w'.cell? ⟨w21.heap.size, 3, none⟩ = some (.slice v.ha v.hN v.hc) ∧ w'.cell? ⟨w21.heap.size, 4, none⟩ = some (.int .i64 v.bits) ∧ w'.cell? ⟨w.heap.size, 0, none⟩ = some (.int .i64 n) ∧ w'.cell? ⟨w.heap.size, 1, none⟩ = some (.int .i64 d)) from fun w' hB => ⟨(U5.below hB).c0, (U5.below hB).c1, (U5.below hB).c2, (U5.below hB).c3, (U5.below hB).c4, (G.below hB).c0, (G.below hB).c1⟩)
    have lU5 := U5.lt
    have lG5 := G.lt
    have hD0 : Below V21.heap.size V21 V21.drew := (Below.refl _ _).drew
    go_wp2_with fail
    rw [← hV21]
    clear hV21
    obtain ⟨x0, x1, x2, x3, x4, x5, x6⟩ := unhide HKL _ (Below.refl _ _)
    go_region_held3 (fun w' => w'.cell? ⟨w21.heap.size, 0, none⟩ = some (.bool v.ln) ∧ w'.cell? ⟨w21.heap.size, 1, none⟩ = some (.slice v.la v.lN v.lc) ∧ w'.cell? ⟨w21.heap.size, 2, none⟩ = some (.bool v.hn) ∧ w'.cell? ⟨w21.heap.size, 3, none⟩ = some (.slice v.ha v.hN v.hc) ∧ w'.cell? ⟨w21.heap.size, 4, none⟩ = some (.int .i64 v.bits) ∧ w'.cell? ⟨w.heap.size, 0, none⟩ = some (.int .i64 n) ∧ w'.cell? ⟨w.heap.size, 1, none⟩ = some (.int .i64 d)) (first | exact unhide HKL _ (by first | with_reducible exact hD0 | with_reducible exact hD3 | with_reducible exact hD2 | with_reducible exact hD1) | go_keep)
      (first
        | (go_at_call 23; have hqq := hD2; refine (touch_le _ v y 250 0 0 L5 H5 (ofI n d b).1 (ofI n d b).2 ((unhide HPv).below hD2) (show SpAt _ y 250 (ofI n d b).1 (ofI n d b).2 from unhide HPY) (by omega) (by have := unhide HBv; omega) (by have := unhide HBv; omega) (by have := unhide HBY; omega) (by have := unhide HBY; omega) (by have := unhide HBv; have := unhide HBY; omega) (by have := unhide HBv; have := unhide HBY; omega) (by have := unhide HBv; have := unhide HBY; omega)).mono ?_; rintro z g3 ⟨rfl, hg3⟩; rw [unhide HTB2]; have hD3 := bthen hD2 hg3)
        | (go_at_call 15; have hqq := hD1; refine (refRatioOf_any n d b _ (unhide HRX) (by omega)).mono ?_; rintro z g2 ⟨y, rfl, hyb, hyp, hg2⟩; have HPY := hide (hyp.mono (show b / 16 + 18 ≤ 250 by omega)); have HBY := hide hyb; clear hyb hyp; have hD2 := bthen hD1 hg2)
        | (go_at_call 22; refine (refOf_any _ v).mono ?_; rintro z g1 ⟨rfl, hg1⟩; have hD1 := bthen hD0 hg1))
    all_goals
      go_wp2_with fail
      exact bodyPost_ret (v := .bool true) (by simp [results, Try.results8]) rfl ⟨rfl, bthen hBW hD3⟩
theorem law_betaTurns (n d n2 d2 p q r s bt : Int) (w : World) :
    Calls Try.prog 8 #[.agg #[.int .i64 n, .int .i64 d], .agg #[.int .i64 n2, .int .i64 d2], .agg #[.int .i64 p, .int .i64 q], .agg #[.int .i64 r, .int .i64 s], .int .i64 bt] w fun z w' => z = .returned (.bool true) ∧ Below w.heap.size w w' := by
  by_cases h : bE n d p q r s bt = 0
  · obtain ⟨b, rfl⟩ : ∃ b : Nat, bt = (b : Int) := ⟨bt.toNat, by have := (bE_zero h).1.2; omega⟩
    exact law_bt_ok n d n2 d2 p q r s b w h
  · exact law_bt_bad n d n2 d2 p q r s bt w _ rfl h
end Go.Proofs.Ytgmnknmjainabab
namespace Go.Proofs.Ytgmnknmjainabab
open Go.ChangeShapes Go.WideShapes Go.ChangeAt Go.RowKit
theorem Try.own : ownKnob Try.prog.godebug = none := by kernel_rfl
theorem Try.laidOut : laidOutB Try.prog = true := by kernel_rfl
theorem Try.cellsI : Try.prog.cellsOf 3 = 1 := by kernel_rfl
end Go.Proofs.Ytgmnknmjainabab
