/-
  tailsurelaw.errorBegun is true.
  tailsurelaw.PowerSums returns true of whatever numbers.
  The statement of the error function, walked.
  How a span that is handed to a statement is opened: its ends' digits, within the form's own reach; no statement of the seat is proved here.
-/
import Derived.Test.YtgmnknmjainababRows
import Derived.ProofKit
import Derived.OpenShut
import Derived.SizedLaws
import Derived.ChangeOld
import Derived.Test.YtgmnknmjainababK16
namespace Go.Proofs.Ytgmnknmjainabab
set_option linter.unusedVariables false
set_option linter.unusedSimpArgs false
set_option linter.unnecessarySimpa false
open Go.RowKit
attribute [local go_sem ↓] Go.wp_at_zero Go.wp_at_succ

theorem cmp_le3 {x y : Int} (h : x ≤ y) : cmpInt x y = -1 ∨ cmpInt x y = 0 := by
  rcases cmp3 x y with h1 | h1 | h1
  · exact Or.inl h1.1
  · exact Or.inr h1.1
  · omega
theorem cmp_ge3 {x y : Int} (h : y ≤ x) : cmpInt x y = 1 ∨ cmpInt x y = 0 := by
  rcases cmp3 x y with h1 | h1 | h1
  · omega
  · exact Or.inr h1.1
  · exact Or.inl h1.1

set_option maxRecDepth 100000 in
set_option maxHeartbeats 8000000 in
theorem errorBegun_any (w : World) :
    Calls Try.prog 12 #[] w fun r w' => r = .returned (.bool true) ∧ Below w.heap.size w w' := by
  obtain ⟨R, hR⟩ := Ex.piR_ex
  go_enter Try.func12, Try.ntmps12
  go_wp2_with fail
  refine (cerf_ok R hR 1 1 20 _ ⟨by omega, by omega, by omega, by omega⟩ (by omega) (by omega)).mono ?_
  rintro r' w1 ⟨L, H, v, s, rfl, hsb, hs, hb1⟩
  obtain ⟨o1, o2⟩ := erf_of_one hR v
  have hle := v.le
  have HN := hide v.nar
  have hc1 := cmp_le3 o1
  have hc2 := cmp_ge3 o2
  have HSB := hide hsb
  clear hsb o1 o2 v hR
  obtain ⟨V, hV⟩ : ∃ V, V = w1.alloc (.cells #[.bool s.ln, .slice s.la s.lN s.lc, .bool s.hn, .slice s.ha s.hN s.hc, .int .i64 s.bits] 28) := ⟨_, rfl⟩
  have bV : Below w1.heap.size w1 V := by rw [hV]; exact bl1 _ _
  have A : SpC V w1.heap.size s := by rw [hV]; exact spc_new w1 s _
  have HS := hide (hs.below bV)
  have hBW : Below w.heap.size w V := bthen hb1 bV
  have lA := A.lt
  have HK := hide (show ∀ w', Below V.heap.size V w' → (w'.cell? ⟨w1.heap.size, 0, none⟩ = some (.bool s.ln) ∧ w'.cell? ⟨w1.heap.size, 1, none⟩ = some (.slice s.la s.lN s.lc) ∧ w'.cell? ⟨w1.heap.size, 2, none⟩ = some (.bool s.hn) ∧ w'.cell? ⟨w1.heap.size, 3, none⟩ = some (.slice s.ha s.hN s.hc) ∧ w'.cell? ⟨w1.heap.size, 4, none⟩ = some (.int .i64 s.bits)) from fun w' hB => ⟨(A.below hB).c0, (A.below hB).c1, (A.below hB).c2, (A.below hB).c3, (A.below hB).c4⟩)
  have hD0 : Below V.heap.size V V.drew := (Below.refl _ _).drew
  have HC1' := hide hc1
  have HC2' := hide hc2
  clear hs hb1 bV hc1 hc2
  go_wp2_with fail
  rw [← hV]
  clear hV
  obtain ⟨x0, x1, x2, x3, x4⟩ := A
  rcases unhide HC1' with hc1 | hc1 <;> rcases unhide HC2' with hc2 | hc2
  · have HC1 := hide hc1
    have HC2 := hide hc2
    clear hc1 hc2 HC1' HC2'
    go_region_held3 (fun w' => w'.cell? ⟨w1.heap.size, 0, none⟩ = some (.bool s.ln) ∧ w'.cell? ⟨w1.heap.size, 1, none⟩ = some (.slice s.la s.lN s.lc) ∧ w'.cell? ⟨w1.heap.size, 2, none⟩ = some (.bool s.hn) ∧ w'.cell? ⟨w1.heap.size, 3, none⟩ = some (.slice s.ha s.hN s.hc) ∧ w'.cell? ⟨w1.heap.size, 4, none⟩ = some (.int .i64 s.bits)) (first | exact unhide HK _ (by first | with_reducible exact hD0 | with_reducible exact hD5 | with_reducible exact hD4 | with_reducible exact hD3 | with_reducible exact hD2 | with_reducible exact hD1) | go_keep)
      (first
        | (go_at_call 49; have hq := hD4; refine (narrowBy_four _ s 20 L H ((unhide HS).below hD4) (unhide HSB) (by omega) hle (unhide HN)).mono ?_; rintro r g5 ⟨rfl, hg5⟩; have hD5 := bthen hD4 hg5; have i0 := unhide HK _ hD5)
        | (go_at_call 24; have hq := hD3; refine (cmp_int _ _ _ _ _ _ _ _ 250 4 H 883635 _ ((unhide HS).hi.below hD3) hint3).mono ?_; rintro r g4 ⟨rfl, hg4⟩; rw [unhide HC2]; have hD4 := bthen hD3 hg4)
        | (go_at_call 48; have hq := hD2; refine (numOf_int 883635 _ (by omega) (by omega)).mono ?_; rintro r g3 ⟨neg3, a3, n3, c3, rfl, hint3, hg3⟩; have hD3 := bthen hD2 hg3)
        | (go_at_call 24; have hq := hD1; refine (cmp_int _ _ _ _ _ _ _ _ 250 4 L 883636 _ ((unhide HS).lo.below hD1) hint1).mono ?_; rintro r g2 ⟨rfl, hg2⟩; rw [unhide HC1]; have hD2 := bthen hD1 hg2)
        | (go_at_call 48; refine (numOf_int 883636 _ (by omega) (by omega)).mono ?_; rintro r g1 ⟨neg1, a1, n1, c1, rfl, hint1, hg1⟩; have hD1 := bthen hD0 hg1))
    all_goals
      go_wp2_with fail
      exact bodyPost_ret (v := .bool true) (by simp [results, Try.results12]) rfl ⟨rfl, bthen hBW hD5⟩
  · have HC1 := hide hc1
    have HC2 := hide hc2
    clear hc1 hc2 HC1' HC2'
    go_region_held3 (fun w' => w'.cell? ⟨w1.heap.size, 0, none⟩ = some (.bool s.ln) ∧ w'.cell? ⟨w1.heap.size, 1, none⟩ = some (.slice s.la s.lN s.lc) ∧ w'.cell? ⟨w1.heap.size, 2, none⟩ = some (.bool s.hn) ∧ w'.cell? ⟨w1.heap.size, 3, none⟩ = some (.slice s.ha s.hN s.hc) ∧ w'.cell? ⟨w1.heap.size, 4, none⟩ = some (.int .i64 s.bits)) (first | exact unhide HK _ (by first | with_reducible exact hD0 | with_reducible exact hD5 | with_reducible exact hD4 | with_reducible exact hD3 | with_reducible exact hD2 | with_reducible exact hD1) | go_keep)
      (first
        | (go_at_call 49; have hq := hD4; refine (narrowBy_four _ s 20 L H ((unhide HS).below hD4) (unhide HSB) (by omega) hle (unhide HN)).mono ?_; rintro r g5 ⟨rfl, hg5⟩; have hD5 := bthen hD4 hg5; have i0 := unhide HK _ hD5)
        | (go_at_call 24; have hq := hD3; refine (cmp_int _ _ _ _ _ _ _ _ 250 4 H 883635 _ ((unhide HS).hi.below hD3) hint3).mono ?_; rintro r g4 ⟨rfl, hg4⟩; rw [unhide HC2]; have hD4 := bthen hD3 hg4)
        | (go_at_call 48; have hq := hD2; refine (numOf_int 883635 _ (by omega) (by omega)).mono ?_; rintro r g3 ⟨neg3, a3, n3, c3, rfl, hint3, hg3⟩; have hD3 := bthen hD2 hg3)
        | (go_at_call 24; have hq := hD1; refine (cmp_int _ _ _ _ _ _ _ _ 250 4 L 883636 _ ((unhide HS).lo.below hD1) hint1).mono ?_; rintro r g2 ⟨rfl, hg2⟩; rw [unhide HC1]; have hD2 := bthen hD1 hg2)
        | (go_at_call 48; refine (numOf_int 883636 _ (by omega) (by omega)).mono ?_; rintro r g1 ⟨neg1, a1, n1, c1, rfl, hint1, hg1⟩; have hD1 := bthen hD0 hg1))
    all_goals
      go_wp2_with fail
      exact bodyPost_ret (v := .bool true) (by simp [results, Try.results12]) rfl ⟨rfl, bthen hBW hD5⟩
  · have HC1 := hide hc1
    have HC2 := hide hc2
    clear hc1 hc2 HC1' HC2'
    go_region_held3 (fun w' => w'.cell? ⟨w1.heap.size, 0, none⟩ = some (.bool s.ln) ∧ w'.cell? ⟨w1.heap.size, 1, none⟩ = some (.slice s.la s.lN s.lc) ∧ w'.cell? ⟨w1.heap.size, 2, none⟩ = some (.bool s.hn) ∧ w'.cell? ⟨w1.heap.size, 3, none⟩ = some (.slice s.ha s.hN s.hc) ∧ w'.cell? ⟨w1.heap.size, 4, none⟩ = some (.int .i64 s.bits)) (first | exact unhide HK _ (by first | with_reducible exact hD0 | with_reducible exact hD5 | with_reducible exact hD4 | with_reducible exact hD3 | with_reducible exact hD2 | with_reducible exact hD1) | go_keep)
      (first
        | (go_at_call 49; have hq := hD4; refine (narrowBy_four _ s 20 L H ((unhide HS).below hD4) (unhide HSB) (by omega) hle (unhide HN)).mono ?_; rintro r g5 ⟨rfl, hg5⟩; have hD5 := bthen hD4 hg5; have i0 := unhide HK _ hD5)
        | (go_at_call 24; have hq := hD3; refine (cmp_int _ _ _ _ _ _ _ _ 250 4 H 883635 _ ((unhide HS).hi.below hD3) hint3).mono ?_; rintro r g4 ⟨rfl, hg4⟩; rw [unhide HC2]; have hD4 := bthen hD3 hg4)
        | (go_at_call 48; have hq := hD2; refine (numOf_int 883635 _ (by omega) (by omega)).mono ?_; rintro r g3 ⟨neg3, a3, n3, c3, rfl, hint3, hg3⟩; have hD3 := bthen hD2 hg3)
        | (go_at_call 24; have hq := hD1; refine (cmp_int _ _ _ _ _ _ _ _ 250 4 L 883636 _ ((unhide HS).lo.below hD1) hint1).mono ?_; rintro r g2 ⟨rfl, hg2⟩; rw [unhide HC1]; have hD2 := bthen hD1 hg2)
        | (go_at_call 48; refine (numOf_int 883636 _ (by omega) (by omega)).mono ?_; rintro r g1 ⟨neg1, a1, n1, c1, rfl, hint1, hg1⟩; have hD1 := bthen hD0 hg1))
    all_goals
      go_wp2_with fail
      exact bodyPost_ret (v := .bool true) (by simp [results, Try.results12]) rfl ⟨rfl, bthen hBW hD5⟩
  · have HC1 := hide hc1
    have HC2 := hide hc2
    clear hc1 hc2 HC1' HC2'
    go_region_held3 (fun w' => w'.cell? ⟨w1.heap.size, 0, none⟩ = some (.bool s.ln) ∧ w'.cell? ⟨w1.heap.size, 1, none⟩ = some (.slice s.la s.lN s.lc) ∧ w'.cell? ⟨w1.heap.size, 2, none⟩ = some (.bool s.hn) ∧ w'.cell? ⟨w1.heap.size, 3, none⟩ = some (.slice s.ha s.hN s.hc) ∧ w'.cell? ⟨w1.heap.size, 4, none⟩ = some (.int .i64 s.bits)) (first | exact unhide HK _ (by first | with_reducible exact hD0 | with_reducible exact hD5 | with_reducible exact hD4 | with_reducible exact hD3 | with_reducible exact hD2 | with_reducible exact hD1) | go_keep)
      (first
        | (go_at_call 49; have hq := hD4; refine (narrowBy_four _ s 20 L H ((unhide HS).below hD4) (unhide HSB) (by omega) hle (unhide HN)).mono ?_; rintro r g5 ⟨rfl, hg5⟩; have hD5 := bthen hD4 hg5; have i0 := unhide HK _ hD5)
        | (go_at_call 24; have hq := hD3; refine (cmp_int _ _ _ _ _ _ _ _ 250 4 H 883635 _ ((unhide HS).hi.below hD3) hint3).mono ?_; rintro r g4 ⟨rfl, hg4⟩; rw [unhide HC2]; have hD4 := bthen hD3 hg4)
        | (go_at_call 48; have hq := hD2; refine (numOf_int 883635 _ (by omega) (by omega)).mono ?_; rintro r g3 ⟨neg3, a3, n3, c3, rfl, hint3, hg3⟩; have hD3 := bthen hD2 hg3)
        | (go_at_call 24; have hq := hD1; refine (cmp_int _ _ _ _ _ _ _ _ 250 4 L 883636 _ ((unhide HS).lo.below hD1) hint1).mono ?_; rintro r g2 ⟨rfl, hg2⟩; rw [unhide HC1]; have hD2 := bthen hD1 hg2)
        | (go_at_call 48; refine (numOf_int 883636 _ (by omega) (by omega)).mono ?_; rintro r g1 ⟨neg1, a1, n1, c1, rfl, hint1, hg1⟩; have hD1 := bthen hD0 hg1))
    all_goals
      go_wp2_with fail
      exact bodyPost_ret (v := .bool true) (by simp [results, Try.results12]) rfl ⟨rfl, bthen hBW hD5⟩
end Go.Proofs.Ytgmnknmjainabab

namespace Go.Proofs.Ytgmnknmjainabab
set_option linter.unusedVariables false
set_option linter.unusedSimpArgs false
set_option linter.unnecessarySimpa false
open Go.RowKit
attribute [local go_sem ↓] Go.wp_at_zero Go.wp_at_succ

theorem chk_sp {w : World} {s : Sp} {k : Nat} {lo hi : Int} (h : SpAt w s k lo hi) (hk : k ≤ 250) (hle : lo ≤ hi) (h1 : 1 ≤ s.bits) (h2 : s.bits ≤ 120) : ∃ d e, SpDig w s d e ∧ chkE s d e = 0 ∧ lo = loZ s d ∧ hi = hiZ s e := by
  obtain ⟨⟨d, p1, p2, p3, p4, p5⟩, ⟨e, r1, r2, r3, r4, r5⟩⟩ := h
  refine ⟨d, e, ⟨p1, r1⟩, ?_, p5, r5⟩
  have l1 := lenZ_le s.lN d
  have l2 := lenZ_le s.hN e
  have g1 : rightB s.ln s.lN d ≠ false := by
    unfold rightB
    by_cases h0 : s.lN = 0
    · simp [h0, p3 h0]
    · rw [if_neg h0]; simpa using (show d (s.lN - 1) ≠ 0 by omega)
  have g2 : rightB s.hn s.hN e ≠ false := by
    unfold rightB
    by_cases h0 : s.hN = 0
    · simp [h0, r3 h0]
    · rw [if_neg h0]; simpa using (show e (s.hN - 1) ≠ 0 by omega)
  have g3 : ¬ 0 < cmpI s.ln s.hn d e s.lN s.hN := by
    rw [sgn_nonneg_lt p1.dgs r1.dgs s.ln s.hn s.lN s.hN p2 r2 p3 r3, ← p5, ← r5]
    exact cmpInt_le0 (by omega)
  unfold chkE
  rw [if_neg (by omega), if_neg (fun q => q.elim g1 g2), if_neg (by omega), if_neg g3]
theorem flt_ok {s t : Sp} {d e d' e' : Nat → Int} (h1 : chkE s d e = 0) (h2 : chkE t d' e' = 0) (h3 : s.bits = t.bits) : fltE2 (chkE s d e) (chkE t d' e') s.bits t.bits = 0 := by
  unfold fltE2; rw [h1, h2, h3]; simp
theorem small_fit {lo hi M : Int} (hM : M < Q 4000) (h : Abs (lo, hi) M) : fitE lo hi = 0 ∧ ∀ z, fitZ lo hi z = z := by
  obtain ⟨h1, h2, h3, h4⟩ := h
  simp only [] at h1 h2 h3 h4
  rcases fit_cases lo hi with ⟨f1, _, _⟩ | ⟨_, f2, f3⟩
  · exfalso
    rcases f1 with f1 | f1 <;> rcases f1 with f1 | f1 <;> omega
  · exact ⟨f2, f3⟩
theorem spanAdd_iv (w : World) (s t : Sp) (b : Nat) (a c : Int × Int) (hs : SpAt w s 250 a.1 a.2) (ht : SpAt w t 250 c.1 c.2) (h1 : s.bits = (b : Int)) (h2 : t.bits = (b : Int)) (hb1 : 1 ≤ b) (hb2 : b ≤ 120) (la : a.1 ≤ a.2) (lc : c.1 ≤ c.2) {M : Int} (hM : M < Q 4000) (hf : Abs (addI a c) M) :
    Calls Try.prog 20 #[.agg #[.bool s.ln, .slice s.la s.lN s.lc, .bool s.hn, .slice s.ha s.hN s.hc, .int .i64 s.bits], .agg #[.bool t.ln, .slice t.la t.lN t.lc, .bool t.hn, .slice t.ha t.hN t.hc, .int .i64 t.bits]] w (PairAns w b 600 (addI a c).1 (addI a c).2 0) := by
  obtain ⟨d, e, g1, g2, g3, g4⟩ := chk_sp hs (by omega) la (by omega) (by omega)
  obtain ⟨d', e', f1, f2, f3, f4⟩ := chk_sp ht (by omega) lc (by omega) (by omega)
  have hS := saidAdd s t d e d' e' (flt_ok g2 f2 (by omega)) a.1 a.2 c.1 c.2 g3 g4 f3 f4 w g1 f1
  obtain ⟨k1, k2⟩ := small_fit (lo := (addI a c).1) (hi := (addI a c).2) hM hf
  refine hS.mono fun r w' h => ?_
  have e1 : a.1 + c.1 = (addI a c).1 := rfl
  have e2 : a.2 + c.2 = (addI a c).2 := rfl
  rw [e1, e2, k1, k2, k2, k2, h1] at h
  exact h
end Go.Proofs.Ytgmnknmjainabab

namespace Go.Proofs.Ytgmnknmjainabab
set_option linter.unusedVariables false
set_option linter.unusedSimpArgs false
set_option linter.unnecessarySimpa false
open Go.RowKit
attribute [local go_sem ↓] Go.wp_at_zero Go.wp_at_succ

theorem neg_bad {p q bt : Int} (b1 : -9223372036854775808 ≤ p) (b2 : p ≤ 9223372036854775807) (h : ¬ (rok p q ∧ 8 ≤ bt ∧ bt ≤ 120)) : ¬ (rok (wrap64 (-p)) q ∧ 8 ≤ bt ∧ bt ≤ 120) := by
  rintro ⟨⟨h1, h2, h3, h4⟩, h5, h6⟩
  unfold wrap64 at h1 h2
  exact h ⟨⟨by omega, by omega, h3, h4⟩, h5, h6⟩

theorem cmp_npos2 {x y : Int} (h : x ≤ y) : cmpInt x y ≤ 0 := by unfold cmpInt; split <;> (try split) <;> omega
theorem prodBd {p q : Int} (h1 : -1048576 ≤ p) (h2 : p ≤ 1048576) (h3 : 1 ≤ q) (h4 : q ≤ 1024) : -1073741824 ≤ p * q ∧ p * q ≤ 1073741824 := by
  have := abs_mul h1 h2 (show -1024 ≤ q by omega) h4
  omega

set_option maxRecDepth 100000 in
set_option maxHeartbeats 8000000 in
theorem law_turns_bad (p1 q1 p2 q2 bt : Int) (w : World) (bp1 : -9223372036854775808 ≤ p1) (bp2 : p1 ≤ 9223372036854775807) (hbad : ¬ (rok p1 q1 ∧ 8 ≤ bt ∧ bt ≤ 120)) :
    Calls Try.prog 4 #[.agg #[.int .i64 p1, .int .i64 q1], .agg #[.int .i64 p2, .int .i64 q2], .int .i64 bt] w fun r w' => r = .returned (.bool true) ∧ Below w.heap.size w w' := by
  obtain ⟨W, hW⟩ : ∃ W, W = (w.alloc (.cells #[.int .i64 p1, .int .i64 q1] 23)).alloc (.cells #[.int .i64 p2, .int .i64 q2] 23) := ⟨_, rfl⟩
  have hBW : Below w.heap.size w W := by rw [hW]; exact bl2 _ _ _
  have A : RaC W w.heap.size p1 q1 := by rw [hW]; exact ⟨by simp [go_sem], by simp [go_sem]⟩
  have G : RaC W (w.heap.size + 1) p2 q2 := by rw [hW]; exact ⟨by simp [go_sem], by simp [go_sem]⟩
  have HBad := hide hbad
  have hbad2 : ¬ (rok (wrap64 (-p1)) q1 ∧ 8 ≤ bt ∧ bt ≤ 120) := neg_bad bp1 bp2 hbad
  have HBad2 := hide hbad2
  clear bp1 bp2
  clear hbad hbad2
  go_enter Try.func4, Try.ntmps4
  go_wp2_with fail
  rw [← hW]
  clear hW
  refine (errorBegun_any _).mono ?_
  rintro r w1 ⟨rfl, hb1⟩
  replace A := A.below hb1
  replace G := G.below hb1
  replace hBW := bthen hBW hb1
  clear hb1
  go_wp2_with fail
  refine (spanBegun_any _).mono ?_
  rintro r w2 ⟨rfl, hb2⟩
  replace A := A.below hb2
  replace G := G.below hb2
  replace hBW := bthen hBW hb2
  clear hb2
  have fA0 := A.c0
  have fA1 := A.c1
  have fAl := A.lt
  go_wp2_with fail
  clear fA0 fA1 fAl
  refine (cerf_bad p1 q1 bt _ (unhide HBad)).mono ?_
  rintro r w3 ⟨s, rfl, hsb, hsp, hb3⟩
  replace A := A.below hb3
  replace G := G.below hb3
  replace hBW := bthen hBW hb3
  clear hb3 hsb hsp
  obtain ⟨V3, hV3⟩ : ∃ V, V = w3.alloc (.cells #[.bool s.ln, .slice s.la s.lN s.lc, .bool s.hn, .slice s.ha s.hN s.hc, .int .i64 s.bits] 28) := ⟨_, rfl⟩
  have bV3 : Below w3.heap.size w3 V3 := by rw [hV3]; exact bl1 _ _
  have S : SpC V3 w3.heap.size s := by rw [hV3]; exact spc_new w3 s _
  have fA0 := A.c0
  have fA1 := A.c1
  have fAl := A.lt
  go_wp2_with fail
  rw [← hV3]
  clear hV3
  clear fA0 fA1 fAl
  replace A := A.below bV3
  replace G := G.below bV3
  replace hBW := bthen hBW bV3
  clear bV3
  refine (cerf_bad (wrap64 (-p1)) q1 bt _ (unhide HBad2)).mono ?_
  rintro r w4 ⟨t, rfl, htb, htp, hb4⟩
  replace A := A.below hb4
  replace G := G.below hb4
  replace hBW := bthen hBW hb4
  clear hb4 htb htp
  obtain ⟨V4, hV4⟩ : ∃ V, V = w4.alloc (.cells #[.bool t.ln, .slice t.la t.lN t.lc, .bool t.hn, .slice t.ha t.hN t.hc, .int .i64 t.bits] 28) := ⟨_, rfl⟩
  have bV4 : Below w4.heap.size w4 V4 := by rw [hV4]; exact bl1 _ _
  have T : SpC V4 w4.heap.size t := by rw [hV4]; exact spc_new w4 t _
  have fA0 := A.c0
  have fA1 := A.c1
  have fAl := A.lt
  go_wp2_with fail
  rw [← hV4]
  clear hV4
  clear fA0 fA1 fAl
  replace A := A.below bV4
  replace G := G.below bV4
  replace hBW := bthen hBW bV4
  clear bV4
  refine (cerfc_bad p1 q1 bt _ (unhide HBad)).mono ?_
  rintro r w5 ⟨c, rfl, hcb, hcp, hb5⟩
  replace A := A.below hb5
  replace G := G.below hb5
  replace hBW := bthen hBW hb5
  go_wp2_with fail
  exact bodyPost_ret (v := .bool true) (by simp [results, Try.results4]) rfl ⟨rfl, bthen hBW (bl1 _ _)⟩

set_option maxRecDepth 100000 in
set_option maxHeartbeats 8000000 in
theorem law_turns_ok (p1 q1 p2 q2 : Int) (w : World) (bp1 : -9223372036854775808 ≤ p1) (bp2 : p1 ≤ 9223372036854775807) (b : Nat) (hr : rok p1 q1) (h5 : 8 ≤ b) (h6 : b ≤ 120) :
    Calls Try.prog 4 #[.agg #[.int .i64 p1, .int .i64 q1], .agg #[.int .i64 p2, .int .i64 q2], .int .i64 (b : Int)] w fun r w' => r = .returned (.bool true) ∧ Below w.heap.size w w' := by
  obtain ⟨W, hW⟩ : ∃ W, W = (w.alloc (.cells #[.int .i64 p1, .int .i64 q1] 23)).alloc (.cells #[.int .i64 p2, .int .i64 q2] 23) := ⟨_, rfl⟩
  have hBW : Below w.heap.size w W := by rw [hW]; exact bl2 _ _ _
  have A : RaC W w.heap.size p1 q1 := by rw [hW]; exact ⟨by simp [go_sem], by simp [go_sem]⟩
  have G : RaC W (w.heap.size + 1) p2 q2 := by rw [hW]; exact ⟨by simp [go_sem], by simp [go_sem]⟩
  obtain ⟨R, hR⟩ := Ex.piR_ex
  obtain ⟨r1, r2, r3, r4⟩ := hr
  have HR := hide (show rok p1 q1 from ⟨r1, r2, r3, r4⟩)
  have HRn := hide (show rok (-p1) q1 from ⟨by omega, by omega, r3, r4⟩)
  have hQb := Q_pos b
  have HQ : Hid (4 * Q b < Q 4000) := hide (by
    have e : Q (b + 2) = 2 * (2 * Q b) := rfl
    have := Q_mono (show b + 3 ≤ 4000 by omega)
    have e2 : Q (b + 3) = 2 * Q (b + 2) := rfl
    omega)
  have HQ1 := hide (show 1 * Q b = Q b by omega)
  have HRR := hide hR
  clear hR
  go_enter Try.func4, Try.ntmps4
  go_wp2_with fail
  rw [← hW]
  clear hW
  refine (errorBegun_any _).mono ?_
  rintro r w1 ⟨rfl, hb1⟩
  replace A := A.below hb1
  replace G := G.below hb1
  replace hBW := bthen hBW hb1
  clear hb1
  go_wp2_with fail
  refine (spanBegun_any _).mono ?_
  rintro r w2 ⟨rfl, hb2⟩
  replace A := A.below hb2
  replace G := G.below hb2
  replace hBW := bthen hBW hb2
  clear hb2
  have fA0 := A.c0
  have fA1 := A.c1
  have fAl := A.lt
  go_wp2_with fail
  clear fA0 fA1 fAl
  refine (cerf_ok R (unhide HRR) p1 q1 b _ (unhide HR) h5 h6).mono ?_
  rintro r w3 ⟨L1, H1, hv, s, rfl, hxb, hxp, hxx⟩
  replace A := A.below hxx
  replace G := G.below hxx
  replace hBW := bthen hBW hxx
  clear hxx
  have HVs := hide hv
  have HBs := hide hxb
  have HPs := hide hxp
  clear hv hxb hxp
  obtain ⟨V3, hV3⟩ : ∃ V, V = w3.alloc (.cells #[.bool s.ln, .slice s.la s.lN s.lc, .bool s.hn, .slice s.ha s.hN s.hc, .int .i64 s.bits] 28) := ⟨_, rfl⟩
  have bV3 : Below w3.heap.size w3 V3 := by rw [hV3]; exact bl1 _ _
  have S : SpC V3 w3.heap.size s := by rw [hV3]; exact spc_new w3 s _
  have fA0 := A.c0
  have fA1 := A.c1
  have fAl := A.lt
  go_wp2_with fail
  rw [← hV3]
  clear hV3
  clear fA0 fA1 fAl
  replace A := A.below bV3
  replace G := G.below bV3
  replace HPs := hide ((unhide HPs).below bV3)
  replace hBW := bthen hBW bV3
  clear bV3
  refine (cerf_ok R (unhide HRR) (-p1) q1 b _ (unhide HRn) h5 h6).mono ?_
  rintro r w4 ⟨L2, H2, hv, t, rfl, hxb, hxp, hxx⟩
  replace A := A.below hxx
  replace G := G.below hxx
  replace HPs := hide ((unhide HPs).below hxx)
  replace S := S.below hxx
  replace hBW := bthen hBW hxx
  clear hxx
  have HVt := hide hv
  have HBt := hide hxb
  have HPt := hide hxp
  clear hv hxb hxp
  obtain ⟨V4, hV4⟩ : ∃ V, V = w4.alloc (.cells #[.bool t.ln, .slice t.la t.lN t.lc, .bool t.hn, .slice t.ha t.hN t.hc, .int .i64 t.bits] 28) := ⟨_, rfl⟩
  have bV4 : Below w4.heap.size w4 V4 := by rw [hV4]; exact bl1 _ _
  have T : SpC V4 w4.heap.size t := by rw [hV4]; exact spc_new w4 t _
  have fA0 := A.c0
  have fA1 := A.c1
  have fAl := A.lt
  go_wp2_with fail
  rw [← hV4]
  clear hV4
  clear fA0 fA1 fAl
  replace A := A.below bV4
  replace G := G.below bV4
  replace HPs := hide ((unhide HPs).below bV4)
  replace S := S.below bV4
  replace HPt := hide ((unhide HPt).below bV4)
  replace hBW := bthen hBW bV4
  clear bV4
  refine (cerfc_ok R (unhide HRR) p1 q1 b _ (unhide HR) h5 h6).mono ?_
  rintro r w5 ⟨L3, H3, hv, c, rfl, hxb, hxp, hxx⟩
  replace A := A.below hxx
  replace G := G.below hxx
  replace HPs := hide ((unhide HPs).below hxx)
  replace S := S.below hxx
  replace HPt := hide ((unhide HPt).below hxx)
  replace T := T.below hxx
  replace hBW := bthen hBW hxx
  clear hxx
  have HVc := hide hv
  have HBc := hide hxb
  have HPc := hide hxp
  clear hv hxb hxp
  obtain ⟨V5, hV5⟩ : ∃ V, V = w5.alloc (.cells #[.bool c.ln, .slice c.la c.lN c.lc, .bool c.hn, .slice c.ha c.hN c.hc, .int .i64 c.bits] 28) := ⟨_, rfl⟩
  have bV5 : Below w5.heap.size w5 V5 := by rw [hV5]; exact bl1 _ _
  have C : SpC V5 w5.heap.size c := by rw [hV5]; exact spc_new w5 c _
  have fS0 := S.c0
  have fS1 := S.c1
  have fS2 := S.c2
  have fS3 := S.c3
  have fS4 := S.c4
  have fSl := S.lt
  have fT0 := T.c0
  have fT1 := T.c1
  have fT2 := T.c2
  have fT3 := T.c3
  have fT4 := T.c4
  have fTl := T.lt
  go_wp2_with fail
  rw [← hV5]
  clear hV5
  clear fS0 fS1 fS2 fS3 fS4 fSl fT0 fT1 fT2 fT3 fT4 fTl
  replace A := A.below bV5
  replace G := G.below bV5
  replace HPs := hide ((unhide HPs).below bV5)
  replace S := S.below bV5
  replace HPt := hide ((unhide HPt).below bV5)
  replace T := T.below bV5
  replace HPc := hide ((unhide HPc).below bV5)
  replace hBW := bthen hBW bV5
  clear bV5
  obtain ⟨z1, z2⟩ := add_nought (by omega) (unhide HVs) (unhide HVt)
  obtain ⟨z3, z4⟩ := add_unit (by omega) (unhide HVs) (unhide HVc)
  have HZ := hide (And.intro (And.intro z1 z2) (And.intro z3 z4))
  clear z1 z2 z3 z4
  have les := (unhide HVs).le
  have let_ := (unhide HVt).le
  have lec := (unhide HVc).le
  have AA1 : Hid (Abs (addI (L1, H1) (L2, H2)) (4 * Q b)) := hide (by
    have a1 := (unhide HVs).lo; have a2 := (unhide HVs).hi; have a3 := (unhide HVt).lo; have a4 := (unhide HVt).hi
    exact ⟨by show -(4 * Q b) ≤ L1 + L2; omega, by show L1 + L2 ≤ 4 * Q b; omega, by show -(4 * Q b) ≤ H1 + H2; omega, by show H1 + H2 ≤ 4 * Q b; omega⟩)
  have AA2 : Hid (Abs (addI (L1, H1) (L3, H3)) (4 * Q b)) := hide (by
    have a1 := (unhide HVs).lo; have a2 := (unhide HVs).hi; have a3 := (unhide HVc).lo; have a4 := (unhide HVc).hi
    exact ⟨by show -(4 * Q b) ≤ L1 + L3; omega, by show L1 + L3 ≤ 4 * Q b; omega, by show -(4 * Q b) ≤ H1 + H3; omega, by show H1 + H3 ≤ 4 * Q b; omega⟩)
  refine (spanAdd_iv _ s t b (L1, H1) (L2, H2) (unhide HPs) (unhide HPt) (unhide HBs) (unhide HBt) (by omega) h6 les let_ (unhide HQ) (unhide AA1)).mono ?_
  rintro r w6 ⟨a, rfl, hxb, hxp, hxx⟩
  replace A := A.below hxx
  replace G := G.below hxx
  replace HPs := hide ((unhide HPs).below hxx)
  replace S := S.below hxx
  replace HPt := hide ((unhide HPt).below hxx)
  replace T := T.below hxx
  replace HPc := hide ((unhide HPc).below hxx)
  replace C := C.below hxx
  replace hBW := bthen hBW hxx
  clear hxx
  have HBa := hide hxb
  have HPa := hide hxp
  clear hxb hxp
  obtain ⟨V6, hV6⟩ : ∃ V, V = w6.alloc (.cells #[.bool a.ln, .slice a.la a.lN a.lc, .bool a.hn, .slice a.ha a.hN a.hc, .int .i64 a.bits] 28) := ⟨_, rfl⟩
  have bV6 : Below w6.heap.size w6 V6 := by rw [hV6]; exact bl1 _ _
  have SA : SpC V6 w6.heap.size a := by rw [hV6]; exact spc_new w6 a _
  have fS0 := S.c0
  have fS1 := S.c1
  have fS2 := S.c2
  have fS3 := S.c3
  have fS4 := S.c4
  have fSl := S.lt
  have fC0 := C.c0
  have fC1 := C.c1
  have fC2 := C.c2
  have fC3 := C.c3
  have fC4 := C.c4
  have fCl := C.lt
  go_wp2_with fail
  rw [← hV6]
  clear hV6
  clear fS0 fS1 fS2 fS3 fS4 fSl fC0 fC1 fC2 fC3 fC4 fCl
  replace A := A.below bV6
  replace G := G.below bV6
  replace HPs := hide ((unhide HPs).below bV6)
  replace S := S.below bV6
  replace HPt := hide ((unhide HPt).below bV6)
  replace T := T.below bV6
  replace HPc := hide ((unhide HPc).below bV6)
  replace C := C.below bV6
  replace HPa := hide ((unhide HPa).below bV6)
  replace hBW := bthen hBW bV6
  clear bV6
  refine (spanAdd_iv _ s c b (L1, H1) (L3, H3) (unhide HPs) (unhide HPc) (unhide HBs) (unhide HBc) (by omega) h6 les lec (unhide HQ) (unhide AA2)).mono ?_
  rintro r w7 ⟨e, rfl, hxb, hxp, hxx⟩
  replace A := A.below hxx
  replace G := G.below hxx
  replace HPs := hide ((unhide HPs).below hxx)
  replace S := S.below hxx
  replace HPt := hide ((unhide HPt).below hxx)
  replace T := T.below hxx
  replace HPc := hide ((unhide HPc).below hxx)
  replace C := C.below hxx
  replace HPa := hide ((unhide HPa).below hxx)
  replace SA := SA.below hxx
  replace hBW := bthen hBW hxx
  clear hxx
  have HBe := hide hxb
  have HPe := hide hxp
  clear hxb hxp
  obtain ⟨V7, hV7⟩ : ∃ V, V = w7.alloc (.cells #[.bool e.ln, .slice e.la e.lN e.lc, .bool e.hn, .slice e.ha e.hN e.hc, .int .i64 e.bits] 28) := ⟨_, rfl⟩
  have bV7 : Below w7.heap.size w7 V7 := by rw [hV7]; exact bl1 _ _
  have SE : SpC V7 w7.heap.size e := by rw [hV7]; exact spc_new w7 e _
  have fSA0 := SA.c0
  have fSA1 := SA.c1
  have fSA2 := SA.c2
  have fSA3 := SA.c3
  have fSA4 := SA.c4
  have fSAl := SA.lt
  go_wp2_with fail
  rw [← hV7]
  clear hV7
  clear fSA0 fSA1 fSA2 fSA3 fSA4 fSAl
  replace A := A.below bV7
  replace G := G.below bV7
  replace HPs := hide ((unhide HPs).below bV7)
  replace S := S.below bV7
  replace HPt := hide ((unhide HPt).below bV7)
  replace T := T.below bV7
  replace HPc := hide ((unhide HPc).below bV7)
  replace C := C.below bV7
  replace HPa := hide ((unhide HPa).below bV7)
  replace SA := SA.below bV7
  replace HPe := hide ((unhide HPe).below bV7)
  replace hBW := bthen hBW bV7
  clear bV7
  refine (refOf_any _ a).mono ?_
  rintro r w8 ⟨rfl, hxx⟩
  replace A := A.below hxx
  replace G := G.below hxx
  replace HPs := hide ((unhide HPs).below hxx)
  replace S := S.below hxx
  replace HPt := hide ((unhide HPt).below hxx)
  replace T := T.below hxx
  replace HPc := hide ((unhide HPc).below hxx)
  replace C := C.below hxx
  replace HPa := hide ((unhide HPa).below hxx)
  replace SA := SA.below hxx
  replace HPe := hide ((unhide HPe).below hxx)
  replace SE := SE.below hxx
  replace hBW := bthen hBW hxx
  clear hxx
  go_wp2_with fail
  refine (hasNought_int _ a 600 _ _ (unhide HPa)).mono ?_
  rintro r w9 ⟨rfl, hxx⟩
  replace A := A.below hxx
  replace G := G.below hxx
  replace HPs := hide ((unhide HPs).below hxx)
  replace S := S.below hxx
  replace HPt := hide ((unhide HPt).below hxx)
  replace T := T.below hxx
  replace HPc := hide ((unhide HPc).below hxx)
  replace C := C.below hxx
  replace HPa := hide ((unhide HPa).below hxx)
  replace SA := SA.below hxx
  replace HPe := hide ((unhide HPe).below hxx)
  replace SE := SE.below hxx
  replace hBW := bthen hBW hxx
  clear hxx
  rw [show (decide ((addI (L1, H1) (L2, H2)).1 ≤ 0) && decide (0 ≤ (addI (L1, H1) (L2, H2)).2)) = true from by rw [decide_eq_true (show (addI (L1, H1) (L2, H2)).1 ≤ 0 from (unhide HZ).1.1), decide_eq_true (show 0 ≤ (addI (L1, H1) (L2, H2)).2 from (unhide HZ).1.2)]; rfl]
  have fSE0 := SE.c0
  have fSE1 := SE.c1
  have fSE2 := SE.c2
  have fSE3 := SE.c3
  have fSE4 := SE.c4
  have fSEl := SE.lt
  go_wp2_with fail
  clear fSE0 fSE1 fSE2 fSE3 fSE4 fSEl
  refine (refOf_any _ e).mono ?_
  rintro r w10 ⟨rfl, hxx⟩
  replace A := A.below hxx
  replace G := G.below hxx
  replace HPs := hide ((unhide HPs).below hxx)
  replace S := S.below hxx
  replace HPt := hide ((unhide HPt).below hxx)
  replace T := T.below hxx
  replace HPc := hide ((unhide HPc).below hxx)
  replace C := C.below hxx
  replace HPa := hide ((unhide HPa).below hxx)
  replace SA := SA.below hxx
  replace HPe := hide ((unhide HPe).below hxx)
  replace SE := SE.below hxx
  replace hBW := bthen hBW hxx
  clear hxx
  go_wp2_with fail
  refine (refWhole _ 1 b (by omega) (by omega) (by omega)).mono ?_
  rintro r w11 ⟨y, rfl, hxb, hxp, hxx⟩
  replace A := A.below hxx
  replace G := G.below hxx
  replace HPs := hide ((unhide HPs).below hxx)
  replace S := S.below hxx
  replace HPt := hide ((unhide HPt).below hxx)
  replace T := T.below hxx
  replace HPc := hide ((unhide HPc).below hxx)
  replace C := C.below hxx
  replace HPa := hide ((unhide HPa).below hxx)
  replace SA := SA.below hxx
  replace HPe := hide ((unhide HPe).below hxx)
  replace SE := SE.below hxx
  replace hBW := bthen hBW hxx
  clear hxx
  have HBy := hide hxb
  have HPy := hide (hxp.mono (show b / 16 + 18 ≤ 600 by omega))
  clear hxb hxp
  go_wp2_with fail
  have tb : touB (addI (L1, H1) (L3, H3)).1 (addI (L1, H1) (L3, H3)).2 0 (1 * Q b) (1 * Q b) 0 = true := by
    unfold touB
    rw [unhide HQ1, decide_eq_true (show (addI (L1, H1) (L3, H3)).1 * Q 0 ≤ Q b * Q 0 by have h := (unhide HZ).2.1; have e : Q 0 = 1 := rfl; rw [e, Int.mul_one, Int.mul_one]; exact h), decide_eq_true (show Q b * Q 0 ≤ (addI (L1, H1) (L3, H3)).2 * Q 0 by have h := (unhide HZ).2.2; have e : Q 0 = 1 := rfl; rw [e, Int.mul_one, Int.mul_one]; exact h)]
    rfl
  have HTB := hide tb
  clear tb
  refine (touch_le _ e y 600 0 0 _ _ _ _ (unhide HPe) (unhide HPy) (by omega) (by have := unhide HBe; omega) (by have := unhide HBe; omega) (by have := unhide HBy; omega) (by have := unhide HBy; omega) (by have := unhide HBe; have := unhide HBy; omega) (by have := unhide HBe; have := unhide HBy; omega) (by have := unhide HBe; have := unhide HBy; omega)).mono ?_
  rintro r w12 ⟨rfl, hxx⟩
  rw [unhide HTB]
  replace A := A.below hxx
  replace G := G.below hxx
  replace HPs := hide ((unhide HPs).below hxx)
  replace S := S.below hxx
  replace HPt := hide ((unhide HPt).below hxx)
  replace T := T.below hxx
  replace HPc := hide ((unhide HPc).below hxx)
  replace C := C.below hxx
  replace HPa := hide ((unhide HPa).below hxx)
  replace SA := SA.below hxx
  replace HPe := hide ((unhide HPe).below hxx)
  replace SE := SE.below hxx
  replace HPy := hide ((unhide HPy).below hxx)
  replace hBW := bthen hBW hxx
  clear hxx
  clear HZ AA1 AA2 HTB HPy HPa HPe SA SE HPt T HBy HBa HBe HVt HBt HRn let_
  have fG0 := G.c0
  have fG1 := G.c1
  have fGl := G.lt
  go_wp2_with fail
  clear fG0 fG1 fGl
  by_cases hr2 : rok p2 q2
  · obtain ⟨t1, t2, t3, t4⟩ := hr2
    have HR2 := hide (show rok p2 q2 from ⟨t1, t2, t3, t4⟩)
    refine (cerf_ok R (unhide HRR) p2 q2 b _ (unhide HR2) h5 h6).mono ?_
    rintro r w13 ⟨L4, H4, hv, u, rfl, hxb, hxp, hxx⟩
    replace A := A.below hxx
    replace G := G.below hxx
    replace HPs := hide ((unhide HPs).below hxx)
    replace S := S.below hxx
    replace HPc := hide ((unhide HPc).below hxx)
    replace C := C.below hxx
    replace hBW := bthen hBW hxx
    clear hxx
    have HVu := hide hv
    have HPu := hide hxp
    clear hv hxb hxp
    obtain ⟨V13, hV13⟩ : ∃ V, V = w13.alloc (.cells #[.bool u.ln, .slice u.la u.lN u.lc, .bool u.hn, .slice u.ha u.hN u.hc, .int .i64 u.bits] 28) := ⟨_, rfl⟩
    have bV13 : Below w13.heap.size w13 V13 := by rw [hV13]; exact bl1 _ _
    have U : SpC V13 w13.heap.size u := by rw [hV13]; exact spc_new w13 u _
    have fG0 := G.c0
    have fG1 := G.c1
    have fGl := G.lt
    go_wp2_with fail
    rw [← hV13]
    clear hV13
    clear fG0 fG1 fGl
    replace A := A.below bV13
    replace G := G.below bV13
    replace HPs := hide ((unhide HPs).below bV13)
    replace S := S.below bV13
    replace HPc := hide ((unhide HPc).below bV13)
    replace C := C.below bV13
    replace HPu := hide ((unhide HPu).below bV13)
    replace hBW := bthen hBW bV13
    clear bV13
    refine (cerfc_ok R (unhide HRR) p2 q2 b _ (unhide HR2) h5 h6).mono ?_
    rintro r w14 ⟨L5, H5, hv, d, rfl, hxb, hxp, hxx⟩
    replace A := A.below hxx
    replace G := G.below hxx
    replace HPs := hide ((unhide HPs).below hxx)
    replace S := S.below hxx
    replace HPc := hide ((unhide HPc).below hxx)
    replace C := C.below hxx
    replace HPu := hide ((unhide HPu).below hxx)
    replace U := U.below hxx
    replace hBW := bthen hBW hxx
    clear hxx
    have HVd := hide hv
    have HPd := hide hxp
    clear hv hxb hxp
    obtain ⟨V14, hV14⟩ : ∃ V, V = w14.alloc (.cells #[.bool d.ln, .slice d.la d.lN d.lc, .bool d.hn, .slice d.ha d.hN d.hc, .int .i64 d.bits] 28) := ⟨_, rfl⟩
    have bV14 : Below w14.heap.size w14 V14 := by rw [hV14]; exact bl1 _ _
    have D : SpC V14 w14.heap.size d := by rw [hV14]; exact spc_new w14 d _
    obtain ⟨m1, m2⟩ := prodBd r1 r2 t3 t4
    obtain ⟨m3, m4⟩ := prodBd t1 t2 r3 r4
    by_cases hgt : p1 * q2 > p2 * q1
    · have fA0 := A.c0
      have fA1 := A.c1
      have fAl := A.lt
      have fG0 := G.c0
      have fG1 := G.c1
      have fGl := G.lt
      go_wp2_with fail
      rw [← hV14]
      exact bodyPost_ret (v := .bool true) (by simp [results, Try.results4]) rfl ⟨rfl, bthen hBW bV14⟩
    · have hle : p1 * q2 ≤ p2 * q1 := by omega
      have e1 := er_mono (unhide HRR) (by omega) (by omega) hle (unhide HVs) (unhide HVu)
      have e2 := ec_mono (unhide HRR) (by omega) (by omega) hle (unhide HVc) (unhide HVd)
      have c1 := cmp_npos2 e1
      have c2 := cmp_npos2 e2
      have fA0 := A.c0
      have fA1 := A.c1
      have fAl := A.lt
      have fG0 := G.c0
      have fG1 := G.c1
      have fGl := G.lt
      have fS0 := S.c0
      have fS1 := S.c1
      have fSl := S.lt
      have fU2 := U.c2
      have fU3 := U.c3
      have fUl := U.lt
      go_wp2_with fail
      rw [← hV14]
      clear hV14
      clear fA0 fA1 fAl fG0 fG1 fGl fS0 fS1 fSl fU2 fU3 fUl
      replace A := A.below bV14
      replace G := G.below bV14
      replace HPs := hide ((unhide HPs).below bV14)
      replace S := S.below bV14
      replace HPc := hide ((unhide HPc).below bV14)
      replace C := C.below bV14
      replace HPu := hide ((unhide HPu).below bV14)
      replace U := U.below bV14
      replace HPd := hide ((unhide HPd).below bV14)
      replace hBW := bthen hBW bV14
      clear bV14
      refine (cmp_int _ _ _ _ _ _ _ _ 250 250 L1 H4 _ (unhide HPs).lo (unhide HPu).hi).mono ?_
      rintro r w15 ⟨rfl, hxx⟩
      replace A := A.below hxx
      replace G := G.below hxx
      replace HPs := hide ((unhide HPs).below hxx)
      replace S := S.below hxx
      replace HPc := hide ((unhide HPc).below hxx)
      replace C := C.below hxx
      replace HPu := hide ((unhide HPu).below hxx)
      replace U := U.below hxx
      replace HPd := hide ((unhide HPd).below hxx)
      replace D := D.below hxx
      replace hBW := bthen hBW hxx
      clear hxx
      have fD0 := D.c0
      have fD1 := D.c1
      have fDl := D.lt
      have fC2 := C.c2
      have fC3 := C.c3
      have fCl := C.lt
      go_wp2_with fail
      clear fD0 fD1 fDl fC2 fC3 fCl
      refine (cmp_int _ _ _ _ _ _ _ _ 250 250 L5 H3 _ (unhide HPd).lo (unhide HPc).hi).mono ?_
      rintro r w16 ⟨rfl, hxx⟩
      replace A := A.below hxx
      replace G := G.below hxx
      replace HPs := hide ((unhide HPs).below hxx)
      replace S := S.below hxx
      replace HPc := hide ((unhide HPc).below hxx)
      replace C := C.below hxx
      replace HPu := hide ((unhide HPu).below hxx)
      replace U := U.below hxx
      replace HPd := hide ((unhide HPd).below hxx)
      replace D := D.below hxx
      replace hBW := bthen hBW hxx
      clear hxx
      go_wp2_with fail
      exact bodyPost_ret (v := .bool true) (by simp [results, Try.results4]) rfl ⟨rfl, hBW⟩
  · have HX2 := hide (show ¬ (rok p2 q2 ∧ 8 ≤ (b : Int) ∧ (b : Int) ≤ 120) from fun h => hr2 h.1)
    refine (cerf_bad p2 q2 b _ (unhide HX2)).mono ?_
    rintro r w13 ⟨u, rfl, hxb, hxp, hxx⟩
    replace A := A.below hxx
    replace G := G.below hxx
    replace HPs := hide ((unhide HPs).below hxx)
    replace S := S.below hxx
    replace HPc := hide ((unhide HPc).below hxx)
    replace C := C.below hxx
    replace hBW := bthen hBW hxx
    clear hxx hxb hxp
    obtain ⟨V13, hV13⟩ : ∃ V, V = w13.alloc (.cells #[.bool u.ln, .slice u.la u.lN u.lc, .bool u.hn, .slice u.ha u.hN u.hc, .int .i64 u.bits] 28) := ⟨_, rfl⟩
    have bV13 : Below w13.heap.size w13 V13 := by rw [hV13]; exact bl1 _ _
    have U : SpC V13 w13.heap.size u := by rw [hV13]; exact spc_new w13 u _
    have fG0 := G.c0
    have fG1 := G.c1
    have fGl := G.lt
    go_wp2_with fail
    rw [← hV13]
    clear hV13
    clear fG0 fG1 fGl
    replace A := A.below bV13
    replace G := G.below bV13
    replace HPs := hide ((unhide HPs).below bV13)
    replace S := S.below bV13
    replace HPc := hide ((unhide HPc).below bV13)
    replace C := C.below bV13
    replace hBW := bthen hBW bV13
    clear bV13
    refine (cerfc_bad p2 q2 b _ (unhide HX2)).mono ?_
    rintro r w14 ⟨d, rfl, hxb, hxp, hxx⟩
    replace A := A.below hxx
    replace G := G.below hxx
    replace HPs := hide ((unhide HPs).below hxx)
    replace S := S.below hxx
    replace HPc := hide ((unhide HPc).below hxx)
    replace C := C.below hxx
    replace hBW := bthen hBW hxx
    clear hxx hxb hxp
    go_wp2_with fail
    exact bodyPost_ret (v := .bool true) (by simp [results, Try.results4]) rfl ⟨rfl, bthen hBW (bl1 _ _)⟩
theorem law_errorfTurns (p1 q1 p2 q2 bt : Int) (w : World) (bp1 : -9223372036854775808 ≤ p1) (bp2 : p1 ≤ 9223372036854775807) :
    Calls Try.prog 4 #[.agg #[.int .i64 p1, .int .i64 q1], .agg #[.int .i64 p2, .int .i64 q2], .int .i64 bt] w fun r w' => r = .returned (.bool true) ∧ Below w.heap.size w w' := by
  by_cases h : rok p1 q1 ∧ 8 ≤ bt ∧ bt ≤ 120
  · obtain ⟨h1, h2, h3⟩ := h
    obtain ⟨b, rfl⟩ : ∃ b : Nat, bt = (b : Int) := ⟨bt.toNat, by omega⟩
    exact law_turns_ok p1 q1 p2 q2 w bp1 bp2 b h1 (by omega) (by omega)
  · exact law_turns_bad p1 q1 p2 q2 bt w bp1 bp2 h
end Go.Proofs.Ytgmnknmjainabab

namespace Go.Proofs.Ytgmnknmjainabab
set_option linter.unusedVariables false
set_option linter.unusedSimpArgs false
set_option linter.unnecessarySimpa false
open Go.ChangeShapes Go.WideShapes Go.ChangeAt Go.RowKit

theorem Try.own : ownKnob Try.prog.godebug = none := by kernel_rfl
theorem Try.laidOut : laidOutB Try.prog = true := by kernel_rfl
theorem Try.cellsI : Try.prog.cellsOf 3 = 1 := by kernel_rfl
end Go.Proofs.Ytgmnknmjainabab
