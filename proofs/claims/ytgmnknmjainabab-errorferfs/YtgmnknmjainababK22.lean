/-
  What tailsureref.Erf answers, and that it leaves old memory alone.
  What tailsureref.ErfOf answers, and that it leaves old memory alone.
  What the reference's error function has, beside the program's: the two are within 2 to the power of -198 of each other. Plain arithmetic: no statement of the seat is proved here.
  What the reference's error function of a point, and of a span, has. Plain arithmetic: no statement of the seat is proved here.
  The program's error function touches the reference's: told of their numbers. Plain arithmetic: no statement of the seat is proved here.
  The statement of the error function against the reference, walked.
  How a span that is handed to a statement is opened: its ends' digits, within the form's own reach; no statement of the seat is proved here.
-/
import Derived.Test.YtgmnknmjainababRows
import Derived.ProofKit
import Derived.OpenShut
import Derived.SizedLaws
import Derived.ChangeOld
import Derived.Test.YtgmnknmjainababK21
namespace Go.Proofs.Ytgmnknmjainabab
set_option linter.unusedVariables false
set_option linter.unusedSimpArgs false
set_option linter.unnecessarySimpa false
open Go.RowKit
attribute [local go_sem ↓] Go.wp_at_zero Go.wp_at_succ

/-- What every call of tailsureref.Erf answers of a point. -/
def RefErf (X : Int) (B : Nat) (lo hi : Int) : Prop := ∀ (w' : World) (x : Nm), IntAt w' x.neg x.a x.n x.cap 100 X → Calls Try.prog 51 #[.agg #[.bool x.neg, .slice x.a x.n x.cap], .int .i64 B] w' (SpanAns w' B 200001 lo hi)
theorem cmp_neg {x y : Int} (h : x < y) : cmpInt x y < 0 := by unfold cmpInt; rw [if_pos h]; omega
theorem cmp_gt {x y : Int} (h : y < x) : 0 < cmpInt x y := by unfold cmpInt; rw [if_neg (by omega), if_pos h]; omega
theorem cmp_le {x y : Int} (h : x ≤ y) : ¬ 0 < cmpInt x y := by unfold cmpInt; split <;> (try split) <;> omega

set_option maxRecDepth 100000 in
set_option maxHeartbeats 4000000 in
theorem refErf_far (X : Int) (B : Nat) (h0 : 0 ≤ X) (hB : B ≤ 1000) (hf : ((B : Int) + 8) * Q (2 * B) < X * X) : RefErf X B (Q B - 1) (Q B) := by
  intro w x hx
  have c1 := cmp_nneg h0
  have c2 := cmp_gt hf
  clear hf h0
  obtain ⟨W, hW⟩ : ∃ W, W = (w.alloc (.cells #[.bool x.neg, .slice x.a x.n x.cap] 26)).alloc (.cells #[.bool false, .slice none 0 0, .bool false, .slice none 0 0, .int .i64 0] 36) := ⟨_, rfl⟩
  have hBW : Below w.heap.size w W := by rw [hW]; exact bl2 _ _ _
  have A : NmC W w.heap.size x := by rw [hW]; exact ⟨by simp [go_sem], by simp [go_sem]⟩
  have R : NoC W (w.heap.size + 1) := by rw [hW]; exact ⟨by simp [go_sem], by simp [go_sem], by simp [go_sem], by simp [go_sem], by simp [go_sem], fun o => by simp [go_sem]⟩
  have HX := hide (hx.below hBW)
  have lR := R.lt
  have lA := A.lt
  clear hx
  have x0 := A.c0
  have x1 := A.c1
  go_enter Try.func51, Try.ntmps51
  go_wp2_with fail
  rw [← hW]
  clear hW
  refine (sign_int _ _ _ _ 100 X _ (unhide HX)).mono ?_
  rintro r w1 ⟨rfl, hb1⟩
  replace A := A.below hb1
  replace R := R.below hb1
  replace HX := hide ((unhide HX).below hb1)
  replace hBW := bthen hBW hb1
  clear hb1 x0 x1 lA lR
  have lA := A.lt
  have x0 := A.c0
  have x1 := A.c1
  go_wp2_with fail
  clear x0 x1 lA
  refine (mul_int _ _ _ _ _ _ _ _ 100 100 X X _ (unhide HX) (unhide HX) (by omega) (by omega)).mono ?_
  rintro r w2 ⟨neg2, a2, n2, c2, rfl, hint2, hb2⟩
  replace A := A.below hb2
  replace R := R.below hb2
  replace HX := hide ((unhide HX).below hb2)
  replace hBW := bthen hBW hb2
  clear hb2
  go_wp2_with fail
  refine (numOf_int ((B : Int) + 8) _ (by omega) (by omega)).mono ?_
  rintro r w3 ⟨neg3, a3, n3, c3, rfl, hint3, hb3⟩
  replace A := A.below hb3
  replace R := R.below hb3
  replace HX := hide ((unhide HX).below hb3)
  replace hBW := bthen hBW hb3
  replace hint2 := hint2.below hb3
  clear hb3
  go_wp2_with fail
  refine (power2_z (e := 2 * B) _ (by omega) _ (by omega)).mono ?_
  rintro r w4 ⟨neg4, a4, n4, c4, rfl, hint4, hb4⟩
  replace A := A.below hb4
  replace R := R.below hb4
  replace HX := hide ((unhide HX).below hb4)
  replace hBW := bthen hBW hb4
  replace hint2 := hint2.below hb4
  replace hint3 := hint3.below hb4
  clear hb4
  go_wp2_with fail
  refine (mul_int _ _ _ _ _ _ _ _ 4 (2 * B / 16 + 8) ((B : Int) + 8) (Q (2 * B)) _ hint3 hint4 (by omega) (by omega)).mono ?_
  rintro r w5 ⟨neg5, a5, n5, c5, rfl, hint5, hb5⟩
  replace A := A.below hb5
  replace R := R.below hb5
  replace HX := hide ((unhide HX).below hb5)
  replace hBW := bthen hBW hb5
  replace hint2 := hint2.below hb5
  clear hb5
  go_wp2_with fail
  refine (cmp_int _ _ _ _ _ _ _ _ (100 + 100) (4 + (2 * B / 16 + 8)) (X * X) (((B : Int) + 8) * Q (2 * B)) _ hint2 hint5).mono ?_
  rintro r w6 ⟨rfl, hb6⟩
  replace A := A.below hb6
  replace R := R.below hb6
  replace HX := hide ((unhide HX).below hb6)
  replace hBW := bthen hBW hb6
  clear hb6
  clear hint2 hint3 hint4 hint5
  go_wp2_with fail
  refine (power2_z (e := B) _ rfl _ (by omega)).mono ?_
  rintro r w7 ⟨neg7, a7, n7, c7, rfl, hint7, hb7⟩
  replace A := A.below hb7
  replace R := R.below hb7
  replace HX := hide ((unhide HX).below hb7)
  replace hBW := bthen hBW hb7
  clear hb7
  obtain ⟨y, hy⟩ : ∃ y : Nm, y = ⟨neg7, a7, n7, c7⟩ := ⟨_, rfl⟩
  obtain ⟨V7, hV7⟩ : ∃ V, V = w7.alloc (.cells #[.bool neg7, .slice a7 n7 c7] 26) := ⟨_, rfl⟩
  have bV7 : Below w7.heap.size w7 V7 := by rw [hV7]; exact bl1 _ _
  have O7 : NmC V7 w7.heap.size y := by rw [hV7, hy]; exact nmc_new w7 ⟨neg7, a7, n7, c7⟩ _
  have HI := hide (show IntAt V7 y.neg y.a y.n y.cap (B / 16 + 8) (Q B) by rw [hy]; exact hint7.below bV7)
  have lR7 := R.lt
  replace R := R.below bV7
  replace hBW := bthen hBW bV7
  have lO := O7.lt
  have lR8 := R.lt
  have HK := hide (show ∀ w', Below V7.heap.size V7 w' → (w'.cell? ⟨w7.heap.size, 0, none⟩ = some (.bool y.neg) ∧ w'.cell? ⟨w7.heap.size, 1, none⟩ = some (.slice y.a y.n y.cap)) from fun w' hB => ⟨(O7.below hB).c0, (O7.below hB).c1⟩)
  have hD0 : Below V7.heap.size V7 V7.drew := (Below.refl _ _).drew
  clear hint7 bV7 hy
  go_wp2_with fail
  rw [← hV7]
  clear hV7
  obtain ⟨x0, x1⟩ := unhide HK _ (Below.refl _ _)
  have nR : w.heap.size + 1 ≠ w7.heap.size := by omega
  go_region_held3 (fun w' => w'.cell? ⟨w7.heap.size, 0, none⟩ = some (.bool y.neg) ∧ w'.cell? ⟨w7.heap.size, 1, none⟩ = some (.slice y.a y.n y.cap)) (first | exact unhide HK _ (by first | with_reducible exact hD0 | with_reducible exact hD2 | with_reducible exact hD1) | go_keep)
    (first
      | (go_at_call 53; have hq := hD1; refine (sub_int _ _ _ _ _ _ _ _ (B / 16 + 8) 4 (Q B) 1 _ ((unhide HI).below hD1) hint8 (by omega) (by omega)).mono ?_; rintro r w9 ⟨neg9, a9, n9, c9, rfl, hint9, hb9⟩; have hD2 := bthen hD1 hb9; obtain ⟨q0, q1, q2, q3, q4, q5⟩ := R.below hD2; obtain ⟨i0, i1⟩ := unhide HK _ hD2)
      | (go_at_call 48; refine (numOf_int 1 _ (by omega) (by omega)).mono ?_; rintro r w8 ⟨neg8, a8, n8, c8, rfl, hint8, hb8⟩; have hD1 := bthen hD0 hb8))
  all_goals
    go_wp2_with fail
    refine bodyPost_ret (v := .agg #[.bool neg9, .slice a9 n9 c9, .bool y.neg, .slice y.a y.n y.cap, .int .i64 (B : Int)]) (by simp [results, Try.results51, go_sem, q0, q1, q2, q3, q4]) rfl ⟨⟨neg9, a9, n9, c9, y.neg, y.a, y.n, y.cap, (B : Int)⟩, rfl, rfl, ?_, ?_⟩
    · exact SpAt.put5 (show SpAt w9 ⟨neg9, a9, n9, c9, y.neg, y.a, y.n, y.cap, (B : Int)⟩ 200001 (Q B - 1) (Q B) from ⟨hint9.mono (by omega), ((unhide HI).below hD2).mono (by omega)⟩) q0 q1 q2 q3 q4 _ _ _ _ _
    · exact set5 (bthen hBW hD2) (Nat.le_succ _) _ _ _ _ _

set_option maxRecDepth 100000 in
set_option maxHeartbeats 4000000 in
theorem refErf_near (X : Int) (B : Nat) (lo hi : Int) (h0 : 0 ≤ X) (hB : B ≤ 1000) (hn : X * X ≤ ((B : Int) + 8) * Q (2 * B)) (hE : ∀ (w' : World) (x : Nm), IntAt w' x.neg x.a x.n x.cap 100 X → Calls Try.prog 88 #[.agg #[.bool x.neg, .slice x.a x.n x.cap], .int .i64 B] w' (SpanAns w' B 200000 lo hi)) : RefErf X B (clipL lo) (clipH B hi) := by
  intro w x hx
  have c1 := cmp_nneg h0
  have c2 := cmp_le hn
  have HE := hide hE
  clear hn h0 hE
  obtain ⟨W, hW⟩ : ∃ W, W = (w.alloc (.cells #[.bool x.neg, .slice x.a x.n x.cap] 26)).alloc (.cells #[.bool false, .slice none 0 0, .bool false, .slice none 0 0, .int .i64 0] 36) := ⟨_, rfl⟩
  have hBW : Below w.heap.size w W := by rw [hW]; exact bl2 _ _ _
  have A : NmC W w.heap.size x := by rw [hW]; exact ⟨by simp [go_sem], by simp [go_sem]⟩
  have R : NoC W (w.heap.size + 1) := by rw [hW]; exact ⟨by simp [go_sem], by simp [go_sem], by simp [go_sem], by simp [go_sem], by simp [go_sem], fun o => by simp [go_sem]⟩
  have HX := hide (hx.below hBW)
  have lR := R.lt
  have lA := A.lt
  clear hx
  have x0 := A.c0
  have x1 := A.c1
  go_enter Try.func51, Try.ntmps51
  go_wp2_with fail
  rw [← hW]
  clear hW
  refine (sign_int _ _ _ _ 100 X _ (unhide HX)).mono ?_
  rintro r w1 ⟨rfl, hb1⟩
  replace A := A.below hb1
  replace R := R.below hb1
  replace HX := hide ((unhide HX).below hb1)
  replace hBW := bthen hBW hb1
  clear hb1 x0 x1 lA lR
  have lA := A.lt
  have x0 := A.c0
  have x1 := A.c1
  go_wp2_with fail
  clear x0 x1 lA
  refine (mul_int _ _ _ _ _ _ _ _ 100 100 X X _ (unhide HX) (unhide HX) (by omega) (by omega)).mono ?_
  rintro r w2 ⟨neg2, a2, n2, c2, rfl, hint2, hb2⟩
  replace A := A.below hb2
  replace R := R.below hb2
  replace HX := hide ((unhide HX).below hb2)
  replace hBW := bthen hBW hb2
  clear hb2
  go_wp2_with fail
  refine (numOf_int ((B : Int) + 8) _ (by omega) (by omega)).mono ?_
  rintro r w3 ⟨neg3, a3, n3, c3, rfl, hint3, hb3⟩
  replace A := A.below hb3
  replace R := R.below hb3
  replace HX := hide ((unhide HX).below hb3)
  replace hBW := bthen hBW hb3
  replace hint2 := hint2.below hb3
  clear hb3
  go_wp2_with fail
  refine (power2_z (e := 2 * B) _ (by omega) _ (by omega)).mono ?_
  rintro r w4 ⟨neg4, a4, n4, c4, rfl, hint4, hb4⟩
  replace A := A.below hb4
  replace R := R.below hb4
  replace HX := hide ((unhide HX).below hb4)
  replace hBW := bthen hBW hb4
  replace hint2 := hint2.below hb4
  replace hint3 := hint3.below hb4
  clear hb4
  go_wp2_with fail
  refine (mul_int _ _ _ _ _ _ _ _ 4 (2 * B / 16 + 8) ((B : Int) + 8) (Q (2 * B)) _ hint3 hint4 (by omega) (by omega)).mono ?_
  rintro r w5 ⟨neg5, a5, n5, c5, rfl, hint5, hb5⟩
  replace A := A.below hb5
  replace R := R.below hb5
  replace HX := hide ((unhide HX).below hb5)
  replace hBW := bthen hBW hb5
  replace hint2 := hint2.below hb5
  clear hb5
  go_wp2_with fail
  refine (cmp_int _ _ _ _ _ _ _ _ (100 + 100) (4 + (2 * B / 16 + 8)) (X * X) (((B : Int) + 8) * Q (2 * B)) _ hint2 hint5).mono ?_
  rintro r w6 ⟨rfl, hb6⟩
  replace A := A.below hb6
  replace R := R.below hb6
  replace HX := hide ((unhide HX).below hb6)
  replace hBW := bthen hBW hb6
  clear hb6
  clear hint2 hint3 hint4 hint5
  have lA := A.lt
  have x0 := A.c0
  have x1 := A.c1
  go_wp2_with fail
  clear x0 x1 lA
  refine (unhide HE _ x (unhide HX)).mono ?_
  rintro r w7 ⟨u, rfl, hub, hup, hb7⟩
  have HU := hide hub
  replace A := A.below hb7
  replace R := R.below hb7
  replace HX := hide ((unhide HX).below hb7)
  replace hBW := bthen hBW hb7
  clear hb7
  clear hub
  go_wp2_with fail
  refine (refClip01 _ u 200000 B lo hi hup (unhide HU) (by omega) (by omega) (by omega)).mono ?_
  rintro r w8 ⟨t, rfl, htb, htp, hb8⟩
  obtain ⟨q0, q1, q2, q3, q4, q5⟩ := R.below hb8
  replace hBW := bthen hBW hb8
  have HT := hide htb
  clear htb
  go_wp2_with fail
  refine bodyPost_ret (v := .agg #[.bool t.ln, .slice t.la t.lN t.lc, .bool t.hn, .slice t.ha t.hN t.hc, .int .i64 t.bits]) (by simp [results, Try.results51, go_sem, q0, q1, q2, q3, q4]) rfl ⟨t, rfl, unhide HT, ?_, ?_⟩
  · exact SpAt.put5 (htp.mono (by omega)) q0 q1 q2 q3 q4 _ _ _ _ _
  · exact set5 hBW (Nat.le_succ _) _ _ _ _ _

set_option maxRecDepth 100000 in
set_option maxHeartbeats 4000000 in
theorem refErf_neg (X : Int) (B : Nat) (lo hi : Int) (h0 : X < 0) (hB : B ≤ 1000) (hE : RefErf (-X) B lo hi) : ∀ (w : World) (x : Nm), IntAt w x.neg x.a x.n x.cap 100 X → Calls Try.prog 51 #[.agg #[.bool x.neg, .slice x.a x.n x.cap], .int .i64 B] w (SpanAns w B 200002 (subI (0 * Q B, 0 * Q B) (lo, hi)).1 (subI (0 * Q B, 0 * Q B) (lo, hi)).2) := by
  intro w x hx
  have c1 := cmp_neg h0
  have HE := hide hE
  clear h0 hE
  obtain ⟨W, hW⟩ : ∃ W, W = (w.alloc (.cells #[.bool x.neg, .slice x.a x.n x.cap] 26)).alloc (.cells #[.bool false, .slice none 0 0, .bool false, .slice none 0 0, .int .i64 0] 36) := ⟨_, rfl⟩
  have hBW : Below w.heap.size w W := by rw [hW]; exact bl2 _ _ _
  have A : NmC W w.heap.size x := by rw [hW]; exact ⟨by simp [go_sem], by simp [go_sem]⟩
  have R : NoC W (w.heap.size + 1) := by rw [hW]; exact ⟨by simp [go_sem], by simp [go_sem], by simp [go_sem], by simp [go_sem], by simp [go_sem], fun o => by simp [go_sem]⟩
  have HX := hide (hx.below hBW)
  have lR := R.lt
  have lA := A.lt
  clear hx
  have x0 := A.c0
  have x1 := A.c1
  go_enter Try.func51, Try.ntmps51
  go_wp2_with fail
  rw [← hW]
  clear hW
  refine (sign_int _ _ _ _ 100 X _ (unhide HX)).mono ?_
  rintro r w1 ⟨rfl, hb1⟩
  replace A := A.below hb1
  replace R := R.below hb1
  replace HX := hide ((unhide HX).below hb1)
  replace hBW := bthen hBW hb1
  clear hb1 x0 x1 lA lR
  have lA := A.lt
  have lR1 := R.lt
  have HK := hide (show ∀ w', Below w1.heap.size w1 w' → (w'.cell? ⟨w.heap.size, 0, none⟩ = some (.bool x.neg) ∧ w'.cell? ⟨w.heap.size, 1, none⟩ = some (.slice x.a x.n x.cap)) from fun w' hB => ⟨(A.below hB).c0, (A.below hB).c1⟩)
  have hD0 : Below w1.heap.size w1 w1.drew := (Below.refl _ _).drew
  go_wp2_with fail
  obtain ⟨x0, x1⟩ := unhide HK _ (Below.refl _ _)
  go_region_held3 (fun w' => w'.cell? ⟨w.heap.size, 0, none⟩ = some (.bool x.neg) ∧ w'.cell? ⟨w.heap.size, 1, none⟩ = some (.slice x.a x.n x.cap)) (first | exact unhide HK _ (by first | with_reducible exact hD0 | with_reducible exact hD4 | with_reducible exact hD3 | with_reducible exact hD2 | with_reducible exact hD1) | go_keep)
    (first
      | (go_at_call 16; have hq := hD3; refine (refLess_ivE _ f1 f3 200001 B (0 * Q B, 0 * Q B) (lo, hi) ((hfp1.below (bthen hg2 hg3)).mono (by omega)) hfp3 (by omega) (unhide F1)).mono ?_; rintro r g4 ⟨t, rfl, htb, htp, hg4⟩; have HT := hide htb; clear htb; have hD4 := bthen hD3 hg4; obtain ⟨q0, q1, q2, q3, q4, q5⟩ := R.below hD4; obtain ⟨i0, i1⟩ := unhide HK _ hD4)
      | (go_at_call 51; have hq := hD2; refine (unhide HE _ ⟨neg2, a2, n2, c2⟩ hint2).mono ?_; rintro r g3 ⟨f3, rfl, hfb3, hfp3, hg3⟩; clear hfb3; have hD3 := bthen hD2 hg3)
      | (go_at_call 83; have hq := hD1; refine (neg_int _ _ _ _ 100 X _ ((unhide HX).below hD1) (by omega)).mono ?_; rintro r g2 ⟨neg2, a2, n2, c2, rfl, hint2, hg2⟩; have hD2 := bthen hD1 hg2)
      | (go_at_call 17; refine (refWhole _ 0 B (by omega) (by omega) (by omega)).mono ?_; rintro r g1 ⟨f1, rfl, hfb1, hfp1, hg1⟩; have F1 := hide hfb1; clear hfb1; have hD1 := bthen hD0 hg1))
  all_goals
    go_wp2_with fail
    refine bodyPost_ret (v := .agg #[.bool t.ln, .slice t.la t.lN t.lc, .bool t.hn, .slice t.ha t.hN t.hc, .int .i64 t.bits]) (by simp [results, Try.results51, go_sem, q0, q1, q2, q3, q4]) rfl ⟨t, rfl, unhide HT, ?_, ?_⟩
    · exact SpAt.put5 (htp.mono (by omega)) q0 q1 q2 q3 q4 _ _ _ _ _
    · exact set5 (bthen hBW hD4) (Nat.le_succ _) _ _ _ _ _
end Go.Proofs.Ytgmnknmjainabab

namespace Go.Proofs.Ytgmnknmjainabab
set_option linter.unusedVariables false
set_option linter.unusedSimpArgs false
set_option linter.unnecessarySimpa false
open Go.RowKit
attribute [local go_sem ↓] Go.wp_at_zero Go.wp_at_succ

/-- What every call of tailsureref.Erf answers of a point, whatever its sign. -/
def RefErf2 (X : Int) (B : Nat) (lo hi : Int) : Prop := ∀ (w' : World) (x : Nm), IntAt w' x.neg x.a x.n x.cap 100 X → Calls Try.prog 51 #[.agg #[.bool x.neg, .slice x.a x.n x.cap], .int .i64 B] w' (SpanAns w' B 200002 lo hi)
theorem RefErf.two {X : Int} {B : Nat} {lo hi : Int} (h : RefErf X B lo hi) : RefErf2 X B lo hi := fun w' x hx => (h w' x hx).mono fun r w'' ⟨s, e1, e2, e3, e4⟩ => ⟨s, e1, e2, e3.mono (by omega), e4⟩

set_option maxRecDepth 100000 in
set_option maxHeartbeats 4000000 in
theorem refErfOf_iv (w : World) (s : Sp) (B : Nat) (a o1 o2 : Int × Int) (hs : SpAt w s 100 a.1 a.2) (hbits : s.bits = (B : Int)) (h1 : RefErf2 a.1 B o1.1 o1.2) (h2 : RefErf2 a.2 B o2.1 o2.2) :
    Calls Try.prog 14 #[.agg #[.bool s.ln, .slice s.la s.lN s.lc, .bool s.hn, .slice s.ha s.hN s.hc, .int .i64 s.bits]] w (SpanAns w B 200002 o1.1 o2.2) := by
  obtain ⟨W, hW⟩ : ∃ W, W = (w.alloc (.cells #[.bool s.ln, .slice s.la s.lN s.lc, .bool s.hn, .slice s.ha s.hN s.hc, .int .i64 s.bits] 36)).alloc (.cells #[.bool false, .slice none 0 0, .bool false, .slice none 0 0, .int .i64 0] 36) := ⟨_, rfl⟩
  have hBW : Below w.heap.size w W := by rw [hW]; exact bl2 _ _ _
  have A : SpC W w.heap.size s := by rw [hW]; exact ⟨by simp [go_sem], by simp [go_sem], by simp [go_sem], by simp [go_sem], by simp [go_sem]⟩
  have R : NoC W (w.heap.size + 1) := by rw [hW]; exact ⟨by simp [go_sem], by simp [go_sem], by simp [go_sem], by simp [go_sem], by simp [go_sem], fun o => by simp [go_sem]⟩
  have HS := hide (hs.below hBW)
  have HB := hide hbits
  have H1 := hide h1
  have H2 := hide h2
  have lR := R.lt
  have HK := hide (show ∀ w', Below W.heap.size W w' → (w'.cell? ⟨w.heap.size, 0, none⟩ = some (.bool s.ln) ∧ w'.cell? ⟨w.heap.size, 1, none⟩ = some (.slice s.la s.lN s.lc) ∧ w'.cell? ⟨w.heap.size, 2, none⟩ = some (.bool s.hn) ∧ w'.cell? ⟨w.heap.size, 3, none⟩ = some (.slice s.ha s.hN s.hc) ∧ w'.cell? ⟨w.heap.size, 4, none⟩ = some (.int .i64 s.bits)) from fun w' hB => ⟨(A.below hB).c0, (A.below hB).c1, (A.below hB).c2, (A.below hB).c3, (A.below hB).c4⟩)
  clear A hs hbits h1 h2
  have hf0 := fieldS0
  have hf1 := fieldS1
  go_enter Try.func14, Try.ntmps14
  go_wp2
  rw [← hW]
  clear hW
  have n01 : w.heap.size ≠ w.heap.size + 1 := by omega
  have n10 : w.heap.size + 1 ≠ w.heap.size := by omega
  obtain ⟨x0, x1, x2, x3, x4⟩ := unhide HK _ (Below.refl _ _)
  have hD0 : Below W.heap.size W W.drew := (Below.refl _ _).drew
  go_region_held3 (fun w' => w'.cell? ⟨w.heap.size, 0, none⟩ = some (.bool s.ln) ∧ w'.cell? ⟨w.heap.size, 1, none⟩ = some (.slice s.la s.lN s.lc) ∧ w'.cell? ⟨w.heap.size, 2, none⟩ = some (.bool s.hn) ∧ w'.cell? ⟨w.heap.size, 3, none⟩ = some (.slice s.ha s.hN s.hc) ∧ w'.cell? ⟨w.heap.size, 4, none⟩ = some (.int .i64 s.bits)) (first | exact unhide HK _ (by first | with_reducible exact hD0 | with_reducible exact hD2 | with_reducible exact hD1) | go_keep)
    (first
      | (go_at_call 51; have hqq := hD1; (try rw [unhide HB]); refine (unhide H2 _ ⟨s.hn, s.ha, s.hN, s.hc⟩ ((unhide HS).hi.below hD1)).mono ?_; rintro r' w2 ⟨v2, rfl, hvb2, hint2, hb2⟩; have hD2 := bthen hD1 hb2; clear hvb2; replace hint1 := hint1.below hb2; obtain ⟨q0, q1, q2, q3, q4, q5⟩ := R.below hD2; obtain ⟨i0, i1, i2, i3, i4⟩ := unhide HK _ hD2)
      | (go_at_call 51; rw [unhide HB]; refine (unhide H1 _ ⟨s.ln, s.la, s.lN, s.lc⟩ ((unhide HS).lo.below hD0)).mono ?_; rintro r' w1 ⟨v1, rfl, hvb1, hint1, hb1⟩; have hD1 := bthen hD0 hb1; clear hvb1))
  all_goals
    go_wp2_with fail
    refine bodyPost_ret (v := .agg #[.bool v1.ln, .slice v1.la v1.lN v1.lc, .bool v2.hn, .slice v2.ha v2.hN v2.hc, .int .i64 (B : Int)]) (by simp [results, Try.results14, go_sem, q0, q1, q2, q3, q4]) rfl ⟨⟨v1.ln, v1.la, v1.lN, v1.lc, v2.hn, v2.ha, v2.hN, v2.hc, (B : Int)⟩, rfl, rfl, ?_, ?_⟩
    · exact SpAt.put5 (show SpAt _ (⟨v1.ln, v1.la, v1.lN, v1.lc, v2.hn, v2.ha, v2.hN, v2.hc, (B : Int)⟩ : Sp) 200002 o1.1 o2.2 from ⟨hint1.lo, hint2.hi⟩) q0 q1 q2 q3 q4 _ _ _ _ _
    · exact set5 (bthen hBW hD2) (Nat.le_succ _) _ _ _ _ _
end Go.Proofs.Ytgmnknmjainabab

namespace Go.Proofs.Ytgmnknmjainabab
set_option linter.unusedVariables false
open Ex

theorem prV_nonneg (n : Nat) : 0 ≤ prV n := by
  induction n with
  | zero => show (0 : Rat) ≤ 3; grind
  | succ n ih =>
    obtain ⟨d1, d2, d3⟩ := pr_den n
    exact Rat.mul_nonneg (rat_quarter d1 d2 d3).1 ih
theorem prS_three {M : Nat} (hM : 1 ≤ M) : 3 ≤ prS M := by
  obtain ⟨m, rfl⟩ : ∃ m, M = m + 1 := ⟨M - 1, by omega⟩
  induction m with
  | zero => show (3 : Rat) ≤ 0 + 3; grind
  | succ m ih => have := prV_nonneg (m + 1); have := ih (by omega); show 3 ≤ prS (m + 1) + prV (m + 1); grind
theorem prR_ex : ∃ R', RootS prS R' := root_seq (M0 := 1) (fun M hM => by have := prS_three hM; grind) (pr_has 0 0).bdd
/-- The two roots are near each other. -/
def tau : Rat := 1 / ((Q 200 : Int) : Rat)
theorem tau_pos : 0 < tau := rdiv_pos (by grind) (Qr_pos 200)
theorem root_close {R R' : Nat → Rat} (h : RootS piS R) (h' : RootS prS R') : ∃ z, Null z ∧ ∀ M, AB (R M - R' M) (tau + z M) := by
  obtain ⟨c1, c2⟩ := pi_close
  obtain ⟨z1, hz1, k1⟩ := c1.null
  obtain ⟨z2, hz2, k2⟩ := c2.null
  have t0 := tau_pos
  -- all that is null, as great as it is
  have ab : ∀ {f : Nat → Rat}, Null f → ∃ g, Null g ∧ ∀ M, AB (f M) (g M) ∧ 0 ≤ g M := fun {f} hf => by
    refine ⟨fun M => if 0 ≤ f M then f M else -f M, fun e he => ?_, fun M => ?_⟩
    · obtain ⟨N, k⟩ := hf e he
      refine ⟨N, fun M hM => ?_⟩
      obtain ⟨a, b⟩ := k M hM
      simp only []
      split <;> constructor <;> grind
    · simp only []
      split <;> exact ⟨by constructor <;> grind, by grind⟩
  obtain ⟨g1, hg1, b1⟩ := ab h.sq
  obtain ⟨g2, hg2, b2⟩ := ab h'.sq
  obtain ⟨g3, hg3, b3⟩ := ab hz1
  obtain ⟨g4, hg4, b4⟩ := ab hz2
  refine ⟨_, ((hg1.add hg2).add (hg3.add hg4)), fun M => ?_⟩
  have r1 := h.one M
  have r2 := h'.one M
  have a1 := k1 M
  have a2 := k2 M
  obtain ⟨⟨p1, p2⟩, p3⟩ := b1 M
  obtain ⟨⟨q1, q2⟩, q3⟩ := b2 M
  obtain ⟨⟨u1, u2⟩, u3⟩ := b3 M
  obtain ⟨⟨v1, v2⟩, v3⟩ := b4 M
  have ht : (1 : Rat) / ((Q 200 : Int) : Rat) = tau := rfl
  rw [ht] at a1 a2
  generalize R M = r at *
  generalize R' M = r' at *
  generalize piS M = p at *
  generalize prS M = p' at *
  generalize g1 M = w1 at *
  generalize g2 M = w2 at *
  generalize g3 M = w3 at *
  generalize g4 M = w4 at *
  generalize z1 M = y1 at *
  generalize z2 M = y2 at *
  generalize tau = t at *
  clear ab hg1 hg2 hg3 hg4 b1 b2 b3 b4 hz1 hz2 k1 k2 c1 c2
  have sq : (r - r') * (r + r') = r * r - r' * r' := by grind
  constructor
  · refine Rat.not_lt.1 fun hlt => ?_
    have m := Rat.mul_le_mul_of_nonneg_right (Rat.le_of_lt hlt) (show 0 ≤ r + r' by grind)
    have m2 := Rat.mul_le_mul_of_nonneg_left (show 2 ≤ r + r' by grind) (show 0 ≤ t + (w1 + w2 + (w3 + w4)) by grind)
    have hs : r - r' < 0 := by grind
    have e : -(t + (w1 + w2 + (w3 + w4))) * (r + r') = -((t + (w1 + w2 + (w3 + w4))) * (r + r')) := by grind
    rw [sq] at m
    grind
  · refine Rat.not_lt.1 fun hlt => ?_
    have m := Rat.mul_le_mul_of_nonneg_right (Rat.le_of_lt hlt) (show 0 ≤ r + r' by grind)
    have m2 := Rat.mul_le_mul_of_nonneg_left (show 2 ≤ r + r' by grind) (show 0 ≤ t + (w1 + w2 + (w3 + w4)) by grind)
    rw [sq] at m
    grind
/-- And so are the two error functions. -/
theorem erf_close {R R' : Nat → Rat} (h : RootS piS R) (h' : RootS prS R') {x : Rat} (hx : 0 ≤ x) : LeN (erfS R x) (fun M => erfS R' x M + tau) ∧ LeN (erfS R' x) (fun M => erfS R x M + tau) := by
  obtain ⟨z, hz, k⟩ := root_close h h'
  obtain ⟨z1, hz1, k1⟩ := (erf_one h hx).null
  have t0 := tau_pos
  have bz := hz.bdd
  -- (1 + z1) (tau + z) - tau
  have q1 := ((hz.bmul (Bdd.const 1)).add (hz1.bmul ((Bdd.const tau).add bz)))
  have key : ∀ M, 1 ≤ M → AB (erfS R x M - erfS R' x M) (tau + (z M * 1 + z1 M * (tau + z M))) := fun M hM => by
    have a := k M
    have r1 := h.one M
    have r2 := h'.one M
    have e1 := erf_eq h x hM
    have e2 := erf_eq h' x hM
    have o := k1 M
    have n0 := erf_nonneg h hx hM
    have c1 := rdm (a := 1) (show 0 < R M by grind)
    have c2 := rdm (a := 1) (show 0 < R' M by grind)
    have i2 := div_one (a := 1) (by grind) r2
    have s0 := a.nonneg
    -- erfS R' = erfS R * (R / R')
    have f1 : erfS R x M - erfS R' x M = erfS R x M * ((R' M - R M) * (1 / R' M)) := by
      rw [e2]
      generalize eS x M / ex (x * x) M = q at *
      rw [e1]
      have : q * (2 * (1 / R M)) * ((R' M - R M) * (1 / R' M)) = 2 * q * ((1 / R M) * (R' M * (1 / R' M)) - (1 / R M * R M) * (1 / R' M)) := by grind
      rw [this, c1, show R' M * (1 / R' M) = 1 by grind]
      grind
    rw [f1]
    have b1 : AB ((R' M - R M) * (1 / R' M)) (tau + z M) := by
      have m1 : AB (R' M - R M) (tau + z M) := ⟨by have := a.2; grind, by have := a.1; grind⟩
      have m2 : AB (1 / R' M) 1 := ⟨by grind, i2.2⟩
      have := m1.mul m2
      exact this.mono (by grind)
    have b2 : AB (erfS R x M) (1 + z1 M) := ⟨by grind, o⟩
    exact (b2.mul b1).mono (by grind)
  constructor
  · exact LeN.of_null q1 1 fun M hM => by have := (key M hM).2; grind
  · exact LeN.of_null q1 1 fun M hM => by have := (key M hM).1; grind
end Go.Proofs.Ytgmnknmjainabab

namespace Go.Proofs.Ytgmnknmjainabab
set_option linter.unusedVariables false
open Ex

theorem Iv.dvs {B : Nat} {s t : Int × Int} {x y : Nat → Rat} (h : Iv B s x) (k : Iv B t y) (h0 : 0 < t.1) : Iv B (dvLo s.1 s.2 t.1 t.2 B, dvHi s.1 s.2 t.1 t.2 B) (fun M => x M / y M) := by
  have ht2 := k.le
  have q := Q_pos B
  unfold dvLo dvHi
  rw [if_neg (by omega), if_neg (by omega)]
  unfold ovLo ovHi
  obtain ⟨l, hl⟩ : ∃ l, l = s.1 * Q B := ⟨_, rfl⟩
  obtain ⟨u, hu⟩ : ∃ u, u = s.2 * Q B := ⟨_, rfl⟩
  rw [← hl, ← hu]
  have f1 := dv_floor l h0
  have f2 := dv_floor l (show 0 < t.2 by omega)
  have g1 := dv_ceil u h0
  have g2 := dv_ceil u (show 0 < t.2 by omega)
  refine h.div k h0 ?_ ?_ ?_ ?_
  · rw [← hl]
    split
    · exact f1
    · have n0 : 0 ≤ l / t.2 := Int.ediv_nonneg (by omega) (by omega)
      have := Int.mul_le_mul_of_nonneg_left ht2 n0
      omega
  · rw [← hl]
    split
    · have n0 : l / t.1 ≤ 0 := Int.ediv_nonpos_of_nonpos_of_neg (by omega) h0
      have := Int.mul_le_mul_of_nonneg_left ht2 (show 0 ≤ -(l / t.1) by omega)
      have e1 : -(l / t.1) * t.1 = -(l / t.1 * t.1) := by grind
      have e2 : -(l / t.1) * t.2 = -(l / t.1 * t.2) := by grind
      omega
    · exact f2
  · rw [← hu]
    split
    · have n0 : 0 ≤ -u / t.2 := Int.ediv_nonneg (by omega) (by omega)
      have := Int.mul_le_mul_of_nonneg_left ht2 n0
      have e1 : -(-u / t.2) * t.1 = -(-u / t.2 * t.1) := by grind
      have e2 : -(-u / t.2) * t.2 = -(-u / t.2 * t.2) := by grind
      omega
    · exact g1
  · rw [← hu]
    split
    · exact g2
    · have n0 : -u / t.1 ≤ 0 := Int.ediv_nonpos_of_nonpos_of_neg (by omega) h0
      have := Int.mul_le_mul_of_nonneg_left ht2 (show 0 ≤ -(-u / t.1) by omega)
      omega
theorem pr_pos {m Np : Nat} (hm : 100 ≤ m) (hN : IsStop (prT (m + 16)) Np) : 0 < (downI (doneT (prT (m + 16)) Np) 16).1 ∧ Iv m (downI (doneT (prT (m + 16)) Np) 16) prS := by
  have iv := Iv.to (B := m) (m := 16) (doneT_has (pr_has (m + 16) Np) hN.1)
  refine ⟨?_, iv⟩
  -- the first one is 3
  have h0 : 3 * Q (m + 16) ≤ (sumI (prT (m + 16)) Np).1 := by
    have : ∀ n, 3 * Q (m + 16) ≤ (sumI (prT (m + 16)) n).1 := fun n => by
      induction n with
      | zero => exact Int.le_refl _
      | succ n ih => have := prT_nonneg (m + 16) (n + 1); show 3 * Q (m + 16) ≤ (sumI (prT (m + 16)) n).1 + (prT (m + 16) (n + 1)).1; omega
    exact this Np
  have e : Q (m + 16) = Q m * Q 16 := Q_add m 16
  have e16 : Q 16 = 65536 := rfl
  have qm := Q_pos m
  show 0 < ((sumI (prT (m + 16)) Np).1 + -1) / Q 16
  have : 1 ≤ ((sumI (prT (m + 16)) Np).1 + -1) / Q 16 := Int.le_ediv_of_mul_le (by omega) (by rw [e16]; rw [e, e16] at h0; omega)
  omega
theorem loOut_has {R' : Nat → Rat} (h' : RootS prS R') {X : Int} {B m N Np : Nat} (h : LoIn X B m) (hm : 100 ≤ m) (hN : LoStop X B m N) (hNp : IsStop (prT (m + 16)) Np) : Iv B (loOut X B m N Np) (erfS R' (loX X B)) := by
  have x0 := loX_nonneg (B := B) h.x0
  obtain ⟨p0, pv⟩ := pr_pos hm hNp
  have rf := root_facts p0
  have l := lo_has h hN
  have two := Iv.add l l
  obtain ⟨r0, r1, r2, r3⟩ := rootI_bounds (B := m) (a := downI (doneT (prT (m + 16)) Np) 16) (by omega) pv.le
  have rt : Iv m (rootI m (downI (doneT (prT (m + 16)) Np) 16)) R' := root_iv (r := (rootI m (downI (doneT (prT (m + 16)) Np) 16)).1) (t := (rootI m (downI (doneT (prT (m + 16)) Np) 16)).2) pv h' r2 (by omega) r3
  have dv := Iv.dvs two rt (by have := rf.2.2.1; omega)
  have dv2 : Iv m (dvLo (addI (addI (lsT X B m N) (-2, 2)) (addI (lsT X B m N) (-2, 2))).1 (addI (addI (lsT X B m N) (-2, 2)) (addI (lsT X B m N) (-2, 2))).2 (rootI m (downI (doneT (prT (m + 16)) Np) 16)).1 (rootI m (downI (doneT (prT (m + 16)) Np) 16)).2 m, dvHi (addI (addI (lsT X B m N) (-2, 2)) (addI (lsT X B m N) (-2, 2))).1 (addI (addI (lsT X B m N) (-2, 2)) (addI (lsT X B m N) (-2, 2))).2 (rootI m (downI (doneT (prT (m + 16)) Np) 16)).1 (rootI m (downI (doneT (prT (m + 16)) Np) 16)).2 m) (erfS R' (loX X B)) := by
    refine dv.congr ((erf_near2 h' (loX X B) x0).of_eq fun M => ?_)
    have : (eF (loX X B) M + eF (loX X B) M) / R' M = eF (loX X B) M * (2 * (1 / R' M)) := by
      rw [Rat.div_def, Rat.div_def]; grind
    rw [this]
  have e : m = B + (m - B) := by have := h.bm; omega
  have hto : ∀ (m' : Nat) (a : Int × Int), m' = B + (m - B) → Iv m' a (erfS R' (loX X B)) → Iv B (downI a (m - B)) (erfS R' (loX X B)) := fun m' a hm' ha => by subst hm'; exact Iv.to ha
  exact hto m _ e dv2
/-- e to the power of a whole number below 0 is at most as many halves. -/
theorem ex_halves (n : Nat) : LeN (ex (-(n : Rat))) (fun _ => q2 n) := by
  have one : LeN (ex (-1)) (fun _ => 1 / 2) := by
    have ad := ex_add 1 (-1)
    rw [show (1 : Rat) + -1 = 0 by decide +kernel] at ad
    obtain ⟨N, pos⟩ := ex_pos (-1)
    refine LeN.of_null (ad.bmul (Bdd.const (1 / 2))) (N + 2) fun M hM => ?_
    have p := pos M (by omega)
    have e1 : 1 + 1 ≤ ex 1 M := E_one1 (by grind) (by omega)
    have e0 : ex 0 M = 1 := by
      obtain ⟨m, rfl⟩ : ∃ m, M = m + 1 := ⟨M - 1, by omega⟩
      exact E_zero m
    have m1 := Rat.mul_le_mul_of_nonneg_right e1 p
    rw [e0]
    grind
  induction n with
  | zero =>
    refine LeN.of_le 1 fun M hM => ?_
    have e : -((0 : Nat) : Rat) = 0 := by decide +kernel
    rw [e]
    obtain ⟨m, rfl⟩ : ∃ m, M = m + 1 := ⟨M - 1, by omega⟩
    rw [show ex 0 (m + 1) = 1 from E_zero m]
    show (1 : Rat) ≤ 1
    grind
  | succ n ih =>
    have ec : ((n + 1 : Nat) : Rat) = (n : Rat) + 1 := by push_cast; rfl
    have ad := ex_add (-(n : Rat)) (-1)
    rw [show -(n : Rat) + -1 = -((n + 1 : Nat) : Rat) by rw [ec]; grind] at ad
    obtain ⟨z1, hz1, k1⟩ := ih.null
    obtain ⟨z2, hz2, k2⟩ := one.null
    obtain ⟨N, pos⟩ := ex_pos (-1)
    have b1 := ex_bdd (-1)
    refine LeN.of_null (((hz1.bmul b1).add (hz2.bmul (Bdd.const (q2 n)))).add ad.neg) N fun M hM => ?_
    have p := pos M (by omega)
    have q := q2_pos n
    have m1 := Rat.mul_le_mul_of_nonneg_right (k1 M) p
    have m2 := Rat.mul_le_mul_of_nonneg_left (k2 M) (Rat.le_of_lt q)
    have e2 : q2 (n + 1) = q2 n / 2 := rfl
    rw [e2]
    grind
/-- The error function of a point. -/
def erPt (R : Nat → Rat) (X : Int) (B : Nat) (M : Nat) : Rat := if X < 0 then -erfS R (loX (-X) B) M else erfS R (loX X B) M
/-- What the reference's answer has, but for very little. -/
def RefHas (R : Nat → Rat) (X : Int) (B : Nat) (lo hi : Int) : Prop := LeN (fun _ => (lo : Rat) / (Q B : Rat)) (fun M => erPt R X B M + tau) ∧ LeN (erPt R X B) (fun _ => (hi : Rat) / (Q B : Rat) + tau)
theorem div_QB {B : Nat} {a b : Int} (h : a ≤ b) : (a : Rat) / (Q B : Rat) ≤ (b : Rat) / (Q B : Rat) := rdiv_le (Qr_pos B) (by rw [rdm (Qr_pos B)]; exact cast_le h)
theorem one_QB (B : Nat) : ((Q B : Int) : Rat) / (Q B : Rat) = 1 := by
  have q := Qr_pos B
  rw [Rat.div_def, Rat.mul_inv_cancel _ (by grind)]
theorem leN_const {f g : Nat → Rat} (h : LeN f g) (c : Rat) : LeN (fun M => f M + c) (fun M => g M + c) := h.add (LeN.refl fun _ => c)
/-- A point that is not far. -/
theorem ref_near {R R' : Nat → Rat} (h : RootS piS R) (h' : RootS prS R') {X : Int} {B : Nat} (x0 : 0 ≤ X) {lo hi : Int} (iv : Iv B (lo, hi) (erfS R' (loX X B))) : RefHas R X B (clipL lo) (clipH B hi) := by
  have lx := loX_nonneg (B := B) x0
  obtain ⟨c1, c2⟩ := erf_close h h' lx
  have t0 := tau_pos
  have eP : erPt R X B = erfS R (loX X B) := by funext M; unfold erPt; rw [if_neg (by omega)]
  unfold RefHas
  rw [eP]
  have a1 : LeN (fun _ => (lo : Rat) / (Q B : Rat)) (erfS R' (loX X B)) := fun e he => by
    obtain ⟨N, k⟩ := iv e he
    exact ⟨N, fun M hM => by have := (k M hM).1; simp only [] at this; grind⟩
  have a2 : LeN (erfS R' (loX X B)) (fun _ => (hi : Rat) / (Q B : Rat)) := fun e he => by
    obtain ⟨N, k⟩ := iv e he
    exact ⟨N, fun M hM => (k M hM).2⟩
  constructor
  · unfold clipL
    split
    · refine LeN.of_le 1 fun M hM => ?_
      have := erf_nonneg h lx hM
      have e : ((0 : Int) : Rat) / (Q B : Rat) = 0 := by rw [Rat.div_def]; exact Rat.zero_mul _
      rw [e]; grind
    · exact a1.trans c2
  · unfold clipH
    split
    · rw [one_QB]
      exact (erf_one h lx).trans (LeN.of_le 0 fun M _ => by grind)
    · exact c1.trans (leN_const a2 tau)
/-- A point that is far. -/
theorem ref_far {R : Nat → Rat} (h : RootS piS R) {X : Int} {B : Nat} (x0 : 0 ≤ X) (hf : ((B : Int) + 8) * Q (2 * B) < X * X) : RefHas R X B (Q B - 1) (Q B) := by
  have lx := loX_nonneg (B := B) x0
  have t0 := tau_pos
  have eP : erPt R X B = erfS R (loX X B) := by funext M; unfold erPt; rw [if_neg (by omega)]
  have q := Qr_pos B
  unfold RefHas
  rw [eP]
  constructor
  · have low := erf_low h lx
    -- the square is more than B
    have sqb : (B : Rat) ≤ loX X B * loX X B := by
      rw [← loX_sq]
      refine rle_div (Qr_pos (2 * B)) ?_
      have q2 := Q_pos (2 * B)
      have := cast_le (show (B : Int) * Q (2 * B) ≤ X * X by
        have e : ((B : Int) + 8) * Q (2 * B) = (B : Int) * Q (2 * B) + 8 * Q (2 * B) := by grind
        omega)
      have e : (((B : Int) * Q (2 * B) : Int) : Rat) = (B : Rat) * ((Q (2 * B) : Int) : Rat) := by rw [Rat.intCast_mul]; rfl
      rw [e] at this
      exact this
    have m := (ex_mono (a := -(loX X B * loX X B)) (b := -(B : Rat)) (by grind)).trans (ex_halves B)
    obtain ⟨z, hz, k⟩ := m.null
    refine LeN.trans ?_ (low.trans (LeN.of_le 0 fun M _ => by grind))
    refine LeN.of_null hz 0 fun M _ => ?_
    have a := k M
    have e1 : ((Q B - 1 : Int) : Rat) / (Q B : Rat) = 1 - q2 B := by
      rw [Rat.intCast_sub, rdiv_sub, one_QB]
      congr 1
      have : ∀ n : Nat, ((1 : Int) : Rat) / (Q n : Rat) = q2 n := fun n => by
        induction n with
        | zero => decide +kernel
        | succ n ih =>
          have e : ((Q (n + 1) : Int) : Rat) = 2 * (Q n : Rat) := by
            have : Q (n + 1) = 2 * Q n := rfl
            rw [this, Rat.intCast_mul]; rfl
          have qn := Qr_pos n
          show _ = q2 n / 2
          rw [← ih, e, Rat.div_def, Rat.div_def, Rat.div_def, Rat.inv_mul_rev]
          grind
      exact this B
    rw [e1]
    grind
  · rw [one_QB]
    exact (erf_one h lx).trans (LeN.of_le 0 fun M _ => by grind)
/-- The opposite. -/
theorem ref_neg {R : Nat → Rat} {X : Int} {B : Nat} (x0 : X < 0) {lo hi : Int} (k : RefHas R (-X) B lo hi) : RefHas R X B (subI (0 * Q B, 0 * Q B) (lo, hi)).1 (subI (0 * Q B, 0 * Q B) (lo, hi)).2 := by
  have eP : ∀ M, erPt R X B M = -erPt R (-X) B M := fun M => by unfold erPt; rw [if_pos x0, if_neg (by omega)]
  have e1 : (subI (0 * Q B, 0 * Q B) (lo, hi)).1 = -hi := by show 0 * Q B - hi = -hi; omega
  have e2 : (subI (0 * Q B, 0 * Q B) (lo, hi)).2 = -lo := by show 0 * Q B - lo = -lo; omega
  have n1 : ∀ z : Int, ((-z : Int) : Rat) / (Q B : Rat) = -((z : Rat) / (Q B : Rat)) := fun z => by rw [Rat.intCast_neg, Rat.div_def, Rat.div_def, Rat.neg_mul]
  obtain ⟨k1, k2⟩ := k
  rw [e1, e2]
  unfold RefHas
  constructor
  · intro e he
    obtain ⟨N, h⟩ := k2 e he
    refine ⟨N, fun M hM => ?_⟩
    have t : erPt R (-X) B M ≤ (hi : Rat) / (Q B : Rat) + tau + e := h M hM
    show ((-hi : Int) : Rat) / (Q B : Rat) ≤ erPt R X B M + tau + e
    rw [n1, eP]
    grind
  · intro e he
    obtain ⟨N, h⟩ := k1 e he
    refine ⟨N, fun M hM => ?_⟩
    have t : (lo : Rat) / (Q B : Rat) ≤ erPt R (-X) B M + tau + e := h M hM
    show erPt R X B M ≤ ((-lo : Int) : Rat) / (Q B : Rat) + tau + e
    rw [n1, eP]
    grind
end Go.Proofs.Ytgmnknmjainabab

namespace Go.Proofs.Ytgmnknmjainabab
set_option linter.unusedVariables false
open Ex

theorem ref_point {R R' : Nat → Rat} (h : RootS piS R) (h' : RootS prS R') {X : Int} {B : Nat} (x0 : 0 ≤ X) (hB : 24 ≤ B) (hB2 : B ≤ 200) : ∃ lo hi, RefErf X B lo hi ∧ RefHas R X B lo hi := by
  by_cases hf : ((B : Int) + 8) * Q (2 * B) < X * X
  · exact ⟨_, _, refErf_far X B x0 (by omega) hf, ref_far h x0 hf⟩
  · obtain ⟨m, hm⟩ : ∃ m, m = 4 * B + 120 := ⟨_, rfl⟩
    have lo : LoIn X B m := ⟨x0, by omega, by omega, hB, hB2⟩
    obtain ⟨N, n1, n2⟩ := lo_stop lo
    obtain ⟨Np, p1, p2⟩ := pr_stop (m + 16)
    have hN : N ≤ 22 * B + 300 := by
      have e : loE B m = 36 * B + 380 := by unfold loE; omega
      rw [e] at n1
      omega
    exact ⟨_, _, refErf_near X B _ _ x0 (by omega) (by omega) (fun w' x hx => lowErf_iv w' x X B m N Np hx lo hm n2 hN p2 p1 (pr_pos (by omega) p2).1), ref_near h h' x0 (loOut_has h' lo (by omega) n2 p2)⟩
theorem ref_all {R R' : Nat → Rat} (h : RootS piS R) (h' : RootS prS R') (X : Int) {B : Nat} (hB : 24 ≤ B) (hB2 : B ≤ 200) : ∃ lo hi, RefErf2 X B lo hi ∧ RefHas R X B lo hi := by
  by_cases x0 : X < 0
  · obtain ⟨lo, hi, k1, k2⟩ := ref_point h h' (X := -X) (by omega) hB hB2
    exact ⟨_, _, refErf_neg X B lo hi x0 (by omega) k1, ref_neg x0 k2⟩
  · obtain ⟨lo, hi, k1, k2⟩ := ref_point h h' (X := X) (by omega) hB hB2
    exact ⟨_, _, k1.two, k2⟩
theorem erPt_erR (R : Nat → Rat) (X : Int) (B : Nat) : erPt R X B = erR R X (Q B) := by
  funext M
  unfold erPt erR absR loX
  by_cases hx : X < 0
  · rw [if_pos hx, if_pos hx, if_pos hx, Rat.intCast_neg]
  · rw [if_neg hx, if_neg hx, if_neg hx]
/-- Of two whole numbers that lie by less than 1 the wrong way, neither does. -/
theorem int_le {B : Nat} (hB : B ≤ 190) {a c : Int} (h : LeN (fun _ => (a : Rat) / (Q B : Rat)) (fun _ => (c : Rat) / (Q B : Rat) + tau)) : a ≤ c := by
  refine Int.not_lt.1 fun hlt => ?_
  have q := Qr_pos B
  have h1 := div_QB (B := B) (show c + 1 ≤ a by omega)
  rw [Rat.intCast_add, rdiv_add] at h1
  have small : tau + tau ≤ ((1 : Int) : Rat) / (Q B : Rat) := by
    refine rle_div q ?_
    have e : (tau + tau) * (Q B : Rat) = (tau * ((Q 200 : Int) : Rat)) * ((2 * Q B : Int) : Rat) / ((Q 200 : Int) : Rat) := by
      have q2 := Qr_pos 200
      have : tau * ((Q 200 : Int) : Rat) = 1 := rdm q2
      rw [this, Rat.intCast_mul]
      unfold tau
      rw [Rat.div_def, Rat.div_def]
      have e2 : ((2 : Int) : Rat) = 2 := rfl
      rw [e2]; grind
    rw [e, show tau * ((Q 200 : Int) : Rat) = 1 from rdm (Qr_pos 200)]
    refine rdiv_le (Qr_pos 200) ?_
    have := cast_le (show 2 * Q B ≤ Q 200 by
      have h1 := Q_mono (show B + 1 ≤ 200 by omega)
      have h2 : Q (B + 1) = 2 * Q B := rfl
      omega)
    have e1 : ((1 : Int) : Rat) = 1 := rfl
    rw [e1]; grind
  have t0 := tau_pos
  obtain ⟨N, k⟩ := h (tau / 2) (by grind)
  have := k N (Nat.le_refl _)
  simp only [] at this
  grind
theorem leN_lo {B : Nat} {a : Int × Int} {x : Nat → Rat} (h : Iv B a x) : LeN (fun _ => (a.1 : Rat) / (Q B : Rat)) x := fun e he => by
  obtain ⟨N, k⟩ := h e he
  exact ⟨N, fun M hM => by have := (k M hM).1; simp only []; grind⟩
theorem leN_hi {B : Nat} {a : Int × Int} {x : Nat → Rat} (h : Iv B a x) : LeN x (fun _ => (a.2 : Rat) / (Q B : Rat)) := fun e he => by
  obtain ⟨N, k⟩ := h e he
  exact ⟨N, fun M hM => (k M hM).2⟩
theorem up16 (b : Nat) (z : Int) : ((z * Q 16 : Int) : Rat) / ((Q (b + 16) : Int) : Rat) = (z : Rat) / (Q b : Rat) := by
  have q := Qr_pos b
  have q2 := Qr_pos (b + 16)
  have e : ((Q (b + 16) : Int) : Rat) = (Q b : Rat) * ((Q 16 : Int) : Rat) := by rw [Q_add, Rat.intCast_mul]
  have a := rdm (a := (z : Rat)) q
  have c := rdm (a := ((z * Q 16 : Int) : Rat)) q2
  have k : (z : Rat) / (Q b : Rat) * ((Q (b + 16) : Int) : Rat) = ((z * Q 16 : Int) : Rat) := by rw [e, ← Rat.mul_assoc, a, Rat.intCast_mul]
  exact Rat.le_antisymm (Rat.le_of_mul_le_mul_right (by rw [c, k]; exact Rat.le_refl) q2) (Rat.le_of_mul_le_mul_right (by rw [c, k]; exact Rat.le_refl) q2)
/-- Not far: the program's span touches the reference's. -/
theorem touch_near {R : Nat → Rat} (hR : RootS piS R) {p q : Int} (hq : 0 < q) {b : Nat} (hb : b ≤ 120) {L H lo hi lo' hi' : Int} (iv : Iv b (L, H) (erR R p q)) (k1 : RefHas R (ofI p q (b + 16)).1 (b + 16) lo lo') (k2 : RefHas R (ofI p q (b + 16)).2 (b + 16) hi' hi) : L * Q 16 ≤ hi ∧ lo ≤ H * Q 16 := by
  have qB := Q_pos (b + 16)
  have f1 := dv_floor (p * Q (b + 16)) hq
  have f2 := dv_ceil (p * Q (b + 16)) hq
  have m1 : LeN (erR R (ofI p q (b + 16)).1 (Q (b + 16))) (erR R p q) := erR_mono hR (by omega) hq f1
  have m2 : LeN (erR R p q) (erR R (ofI p q (b + 16)).2 (Q (b + 16))) := erR_mono hR hq (by omega) f2
  obtain ⟨a1, a2⟩ := k1
  obtain ⟨c1, c2⟩ := k2
  rw [erPt_erR] at c2
  simp only [erPt_erR] at a1
  constructor
  · refine int_le (B := b + 16) (by omega) ?_
    rw [up16]
    exact (leN_lo iv).trans (m2.trans c2)
  · refine int_le (B := b + 16) (by omega) ?_
    have s := leN_const (m1.trans (leN_hi iv)) tau
    refine a1.trans (s.trans (LeN.of_le 0 fun M _ => ?_))
    rw [up16]
    exact Rat.le_refl
theorem one_q2 : ∀ n : Nat, ((1 : Int) : Rat) / (Q n : Rat) = q2 n := fun n => by
  induction n with
  | zero => decide +kernel
  | succ n ih =>
    have e : ((Q (n + 1) : Int) : Rat) = 2 * (Q n : Rat) := by
      have : Q (n + 1) = 2 * Q n := rfl
      rw [this, Rat.intCast_mul]; rfl
    have qn := Qr_pos n
    show _ = q2 n / 2
    rw [← ih, e, Rat.div_def, Rat.div_def, Rat.div_def, Rat.inv_mul_rev]
    grind
/-- Far: what the program takes has it. -/
theorem far_iv {R : Nat → Rat} (hR : RootS piS R) {p q : Int} (hq : 0 < q) {b : Nat} (h : q * q * ((b : Int) + 32) ≤ p * p) : Iv b (Q b - 1, Q b) (erfS R (absR p q)) := by
  obtain ⟨a1, a2⟩ := absR_ok (p := p) hq
  have q0 : 0 < q * q := Int.mul_pos hq hq
  have sqb : (b : Rat) ≤ absR p q * absR p q := by
    have qr : (0 : Rat) < ((q * q : Int) : Rat) := by exact_mod_cast q0
    refine Rat.le_of_mul_le_mul_right ?_ qr
    rw [a2]
    have := cast_le (show (b : Int) * (q * q) ≤ p * p by
      have e : q * q * ((b : Int) + 32) = (b : Int) * (q * q) + 32 * (q * q) := by grind
      omega)
    rw [Rat.intCast_mul] at this
    exact this
  have low := erf_low hR a1
  have m := (ex_mono (a := -(absR p q * absR p q)) (b := -(b : Rat)) (by grind)).trans (ex_halves b)
  obtain ⟨z, hz, k⟩ := m.null
  obtain ⟨z2, hz2, k2⟩ := low.null
  have one := erf_one hR a1
  intro e he
  obtain ⟨N1, j1⟩ := hz (e / 2) (by grind)
  obtain ⟨N2, j2⟩ := hz2 (e / 2) (by grind)
  obtain ⟨N3, j3⟩ := one e he
  refine ⟨N1 + N2 + N3, fun M hM => ?_⟩
  have e1 : ((Q b - 1 : Int) : Rat) / (Q b : Rat) = 1 - q2 b := by rw [Rat.intCast_sub, rdiv_sub, one_QB, one_q2]
  simp only [one_QB, e1]
  have c1 := k M
  have c2 := k2 M
  have c3 := j1 M (by omega)
  have c4 := j2 M (by omega)
  have c5 := j3 M (by omega)
  have d1 := c3.1
  have d2 := c3.2
  have d3 := c4.1
  have d4 := c4.2
  simp only [] at c1 c2 c5
  exact ⟨by grind, by grind⟩
theorem erV_iv {R : Nat → Rat} (hR : RootS piS R) {p q : Int} (hq : 0 < q) {b : Nat} {L H : Int} (h : ErV R p q b L H) : Iv b (L, H) (erR R p q) := by
  rcases h.val with ⟨h1, h2⟩ | ⟨_, h2⟩
  · rw [h2]; exact sgn2_iv (far_iv hR hq h1)
  · exact h2
theorem ecV_iv {R : Nat → Rat} (hR : RootS piS R) {p q : Int} (hq : 0 < q) {b : Nat} {L H : Int} (h : EcV R p q b L H) : Iv b (L, H) (fun M => 1 - erR R p q M) := by
  rcases h.val with ⟨h1, h2⟩ | ⟨_, h2⟩
  · rw [h2]; exact rest_has (sgn2_iv (far_iv hR hq h1))
  · exact h2
theorem tou16 {L H lo hi : Int} (h1 : L * Q 16 ≤ hi) (h2 : lo ≤ H * Q 16) : touB L H 16 lo hi 0 = true := by
  have e0 : Q 0 = 1 := rfl
  unfold touB
  rw [e0]
  simp [h1, h2]
theorem er_tou {R : Nat → Rat} (hR : RootS piS R) {p q : Int} (hq : 0 < q) {b : Nat} (hb : b ≤ 120) {L H lo hi lo' hi' : Int} (h : ErV R p q b L H) (k1 : RefHas R (ofI p q (b + 16)).1 (b + 16) lo lo') (k2 : RefHas R (ofI p q (b + 16)).2 (b + 16) hi' hi) : touB L H 16 lo hi 0 = true := by
  obtain ⟨h1, h2⟩ := touch_near hR hq hb (erV_iv hR hq h) k1 k2
  exact tou16 h1 h2
theorem ec_tou {R : Nat → Rat} (hR : RootS piS R) {p q : Int} (hq : 0 < q) {b : Nat} (hb : b ≤ 120) {L H lo hi lo' hi' : Int} (h : EcV R p q b L H) (k1 : RefHas R (ofI p q (b + 16)).1 (b + 16) lo lo') (k2 : RefHas R (ofI p q (b + 16)).2 (b + 16) hi' hi) : touB L H 16 (subI (1 * Q (b + 16), 1 * Q (b + 16)) (lo, hi)).1 (subI (1 * Q (b + 16), 1 * Q (b + 16)) (lo, hi)).2 0 = true := by
  have iv : Iv b (Q b - H, Q b - L) (erR R p q) := by
    have i := (one_iv b).sub (ecV_iv hR hq h)
    have e : (fun M => (1 : Rat) - (1 - erR R p q M)) = erR R p q := by funext M; grind
    rw [e] at i
    exact i
  obtain ⟨h1, h2⟩ := touch_near hR hq hb iv k1 k2
  have e : Q (b + 16) = Q b * Q 16 := Q_add b 16
  have e1 : (Q b - H) * Q 16 = Q b * Q 16 - H * Q 16 := by grind
  have e2 : (Q b - L) * Q 16 = Q b * Q 16 - L * Q 16 := by grind
  refine tou16 ?_ ?_
  · show L * Q 16 ≤ 1 * Q (b + 16) - lo
    omega
  · show 1 * Q (b + 16) - hi ≤ H * Q 16
    omega
end Go.Proofs.Ytgmnknmjainabab

namespace Go.Proofs.Ytgmnknmjainabab
set_option linter.unusedVariables false
set_option linter.unusedSimpArgs false
set_option linter.unnecessarySimpa false
open Go.RowKit
attribute [local go_sem ↓] Go.wp_at_zero Go.wp_at_succ
open Ex

set_option maxRecDepth 100000 in
set_option maxHeartbeats 8000000 in
theorem law_erfs_bad (p q : Int) (bt : Int) (w : World) (hbad : ¬ (rok p q ∧ 8 ≤ bt ∧ bt ≤ 120)) :
    Calls Try.prog 3 #[.agg #[.int .i64 p, .int .i64 q], .int .i64 bt] w fun r w' => r = .returned (.bool true) ∧ Below w.heap.size w w' := by
  obtain ⟨W, hW⟩ : ∃ W, W = w.alloc (.cells #[.int .i64 p, .int .i64 q] 23) := ⟨_, rfl⟩
  have hBW : Below w.heap.size w W := by rw [hW]; exact bl1 _ _
  have A : RaC W w.heap.size p q := by rw [hW]; exact rac_new w p q _
  have d1 : ratE p q bt = 3 := by unfold ratE; rw [if_neg hbad]
  have HBad := hide hbad
  clear hbad
  have fA0 := A.c0
  have fA1 := A.c1
  have fAl := A.lt
  go_enter Try.func3, Try.ntmps3
  go_wp2_with fail
  rw [← hW]
  clear hW
  clear fA0 fA1 fAl
  refine (cerf_bad p q bt _ (unhide HBad)).mono ?_
  rintro r w3 ⟨s, rfl, hsb, hsp, hb3⟩
  replace A := A.below hb3
  replace hBW := bthen hBW hb3
  clear hb3
  have HPs := hide hsp
  have HBs := hide hsb
  clear hsp hsb
  obtain ⟨V3, hV3⟩ : ∃ V, V = w3.alloc (.cells #[.bool s.ln, .slice s.la s.lN s.lc, .bool s.hn, .slice s.ha s.hN s.hc, .int .i64 s.bits] 28) := ⟨_, rfl⟩
  have bV3 : Below w3.heap.size w3 V3 := by rw [hV3]; exact bl1 _ _
  have S : SpC V3 w3.heap.size s := by rw [hV3]; exact spc_new w3 s _
  have fA0 := A.c0
  have fA1 := A.c1
  have fAl := A.lt
  go_wp2_with fail
  rw [← hV3]
  clear hV3
  clear fA0 fA1 fAl
  replace A := A.below bV3
  replace HPs := hide ((unhide HPs).below bV3)
  replace hBW := bthen hBW bV3
  clear bV3
  refine (cerfc_bad p q bt _ (unhide HBad)).mono ?_
  rintro r w4 ⟨t, rfl, htb, htp, hb4⟩
  replace A := A.below hb4
  replace HPs := hide ((unhide HPs).below hb4)
  replace S := S.below hb4
  replace hBW := bthen hBW hb4
  clear hb4
  have HPt := hide htp
  have HBt := hide htb
  clear htp htb
  obtain ⟨V4, hV4⟩ : ∃ V, V = w4.alloc (.cells #[.bool t.ln, .slice t.la t.lN t.lc, .bool t.hn, .slice t.ha t.hN t.hc, .int .i64 t.bits] 28) := ⟨_, rfl⟩
  have bV4 : Below w4.heap.size w4 V4 := by rw [hV4]; exact bl1 _ _
  have T : SpC V4 w4.heap.size t := by rw [hV4]; exact spc_new w4 t _
  have hsz : V4.heap.size = w4.heap.size + 1 := by rw [hV4]; simp
  have fA0 := A.c0
  have fA1 := A.c1
  have fAl := A.lt
  go_wp2_with fail
  rw [← hV4]
  clear hV4
  clear fA0 fA1 fAl
  replace A := A.below bV4
  replace HPs := hide ((unhide HPs).below bV4)
  replace S := S.below bV4
  replace HPt := hide ((unhide HPt).below bV4)
  replace hBW := bthen hBW bV4
  clear bV4
  refine (refReady1 bt _ _ hsz p q _ _).mono ?_
  rintro r w5 ⟨rfl, hb5⟩
  rw [d1]
  replace A := A.below hb5
  replace HPs := hide ((unhide HPs).below hb5)
  replace S := S.below hb5
  replace HPt := hide ((unhide HPt).below hb5)
  replace T := T.below hb5
  replace hBW := bthen hBW hb5
  clear hb5
  clear hsz
  go_wp2_with fail
  refine (errorBegun_any _).mono ?_
  rintro r w6 ⟨rfl, hb6⟩
  replace A := A.below hb6
  replace HPs := hide ((unhide HPs).below hb6)
  replace S := S.below hb6
  replace HPt := hide ((unhide HPt).below hb6)
  replace T := T.below hb6
  replace hBW := bthen hBW hb6
  clear hb6
  have fS0 := S.c0
  have fS1 := S.c1
  have fS2 := S.c2
  have fS3 := S.c3
  have fS4 := S.c4
  have fSl := S.lt
  go_wp2_with fail
  clear fS0 fS1 fS2 fS3 fS4 fSl
  refine (lawSure_bad _ s ⟨false, none, 0, 0, false, none, 0, 0, 0⟩ _ _ _ (unhide HPs) (unhide HBs) (by omega)).mono ?_
  rintro r w7 ⟨rfl, hb7⟩
  replace A := A.below hb7
  replace HPs := hide ((unhide HPs).below hb7)
  replace S := S.below hb7
  replace HPt := hide ((unhide HPt).below hb7)
  replace T := T.below hb7
  replace hBW := bthen hBW hb7
  clear hb7
  have fT0 := T.c0
  have fT1 := T.c1
  have fT2 := T.c2
  have fT3 := T.c3
  have fT4 := T.c4
  have fTl := T.lt
  go_wp2_with fail
  clear fT0 fT1 fT2 fT3 fT4 fTl
  refine (lawSure_bad _ t ⟨false, none, 0, 0, false, none, 0, 0, 0⟩ _ _ _ (unhide HPt) (unhide HBt) (by omega)).mono ?_
  rintro r w8 ⟨rfl, hb8⟩
  replace A := A.below hb8
  replace HPs := hide ((unhide HPs).below hb8)
  replace S := S.below hb8
  replace HPt := hide ((unhide HPt).below hb8)
  replace T := T.below hb8
  replace hBW := bthen hBW hb8
  clear hb8
  go_wp2_with fail
  exact bodyPost_ret (v := .bool true) (by simp [results, Try.results3]) rfl ⟨rfl, hBW⟩

set_option maxRecDepth 100000 in
set_option maxHeartbeats 8000000 in
theorem law_erfs_ok (p q : Int) (b : Nat) (w : World) (hr : rok p q) (h5 : 8 ≤ b) (h6 : b ≤ 120) :
    Calls Try.prog 3 #[.agg #[.int .i64 p, .int .i64 q], .int .i64 (b : Int)] w fun r w' => r = .returned (.bool true) ∧ Below w.heap.size w w' := by
  obtain ⟨W, hW⟩ : ∃ W, W = w.alloc (.cells #[.int .i64 p, .int .i64 q] 23) := ⟨_, rfl⟩
  have hBW : Below w.heap.size w W := by rw [hW]; exact bl1 _ _
  have A : RaC W w.heap.size p q := by rw [hW]; exact rac_new w p q _
  have d1 : ratE p q (b : Int) = 0 := by unfold ratE; rw [if_pos]; exact ⟨hr, by omega, by omega⟩
  obtain ⟨R, hR⟩ := Ex.piR_ex
  obtain ⟨R', hR'⟩ := prR_ex
  have hq : 0 < q := by have := hr.2.2.1; omega
  obtain ⟨a1, a2, E1, K1⟩ := ref_all hR hR' (ofI p q (b + 16)).1 (B := b + 16) (by omega) (by omega)
  obtain ⟨c1, c2, E2, K2⟩ := ref_all hR hR' (ofI p q (b + 16)).2 (B := b + 16) (by omega) (by omega)
  have HR := hide hr
  have HRR := hide hR
  have HE1 := hide E1
  have HE2 := hide E2
  have HK1 := hide K1
  have HK2 := hide K2
  have HW := hide (show IntKind.i64.wrap ((b : Int) + 16) = ((b + 16 : Nat) : Int) from (i64_id _ (by omega) (by omega)).trans (by omega))
  have HW2 := hide (show ((b : Int) + 16) = ((b + 16 : Nat) : Int) by omega)
  clear hR hR' hr E1 E2 K1 K2
  have fA0 := A.c0
  have fA1 := A.c1
  have fAl := A.lt
  go_enter Try.func3, Try.ntmps3
  go_wp2_with fail
  rw [← hW]
  clear hW
  clear fA0 fA1 fAl
  refine (cerf_ok R (unhide HRR) p q b _ (unhide HR) h5 h6).mono ?_
  rintro r w3 ⟨L1, H1, hv, s, rfl, hxb, hxp, hxx⟩
  replace A := A.below hxx
  replace hBW := bthen hBW hxx
  clear hxx
  have HVs := hide hv
  have HBs := hide hxb
  have HPs := hide hxp
  clear hv hxb hxp
  obtain ⟨V3, hV3⟩ : ∃ V, V = w3.alloc (.cells #[.bool s.ln, .slice s.la s.lN s.lc, .bool s.hn, .slice s.ha s.hN s.hc, .int .i64 s.bits] 28) := ⟨_, rfl⟩
  have bV3 : Below w3.heap.size w3 V3 := by rw [hV3]; exact bl1 _ _
  have S : SpC V3 w3.heap.size s := by rw [hV3]; exact spc_new w3 s _
  have fA0 := A.c0
  have fA1 := A.c1
  have fAl := A.lt
  go_wp2_with fail
  rw [← hV3]
  clear hV3
  clear fA0 fA1 fAl
  replace A := A.below bV3
  replace HPs := hide ((unhide HPs).below bV3)
  replace hBW := bthen hBW bV3
  clear bV3
  refine (cerfc_ok R (unhide HRR) p q b _ (unhide HR) h5 h6).mono ?_
  rintro r w4 ⟨L2, H2, hv, t, rfl, hxb, hxp, hxx⟩
  replace A := A.below hxx
  replace HPs := hide ((unhide HPs).below hxx)
  replace S := S.below hxx
  replace hBW := bthen hBW hxx
  clear hxx
  have HVt := hide hv
  have HBt := hide hxb
  have HPt := hide hxp
  clear hv hxb hxp
  obtain ⟨V4, hV4⟩ : ∃ V, V = w4.alloc (.cells #[.bool t.ln, .slice t.la t.lN t.lc, .bool t.hn, .slice t.ha t.hN t.hc, .int .i64 t.bits] 28) := ⟨_, rfl⟩
  have bV4 : Below w4.heap.size w4 V4 := by rw [hV4]; exact bl1 _ _
  have T : SpC V4 w4.heap.size t := by rw [hV4]; exact spc_new w4 t _
  have hsz : V4.heap.size = w4.heap.size + 1 := by rw [hV4]; simp
  have fA0 := A.c0
  have fA1 := A.c1
  have fAl := A.lt
  go_wp2_with fail
  rw [← hV4]
  clear hV4
  clear fA0 fA1 fAl
  replace A := A.below bV4
  replace HPs := hide ((unhide HPs).below bV4)
  replace S := S.below bV4
  replace HPt := hide ((unhide HPt).below bV4)
  replace hBW := bthen hBW bV4
  clear bV4
  refine (refReady1 (b : Int) _ _ hsz p q _ _).mono ?_
  rintro r w5 ⟨rfl, hb5⟩
  rw [d1]
  replace A := A.below hb5
  replace HPs := hide ((unhide HPs).below hb5)
  replace S := S.below hb5
  replace HPt := hide ((unhide HPt).below hb5)
  replace T := T.below hb5
  replace hBW := bthen hBW hb5
  clear hb5
  clear hsz
  have fA0 := A.c0
  have fA1 := A.c1
  have fAl := A.lt
  go_wp2_with fail
  clear fA0 fA1 fAl
  (first | rw [unhide HW] | rw [unhide HW2])
  refine (refRatioOf_any p q (b + 16) _ (unhide HR) (by omega)).mono ?_
  rintro r w6 ⟨x, rfl, hxb, hxp, hxx⟩
  replace A := A.below hxx
  replace HPs := hide ((unhide HPs).below hxx)
  replace S := S.below hxx
  replace HPt := hide ((unhide HPt).below hxx)
  replace T := T.below hxx
  replace hBW := bthen hBW hxx
  clear hxx
  have HBx := hide hxb
  have HPx := hide (hxp.mono (show (b + 16) / 16 + 18 ≤ 100 by omega))
  clear hxb hxp
  go_wp2_with fail
  refine (refErfOf_iv _ x (b + 16) (ofI p q (b + 16)) (a1, a2) (c1, c2) (unhide HPx) (unhide HBx) (unhide HE1) (unhide HE2)).mono ?_
  rintro r w7 ⟨u, rfl, hxb, hxp, hxx⟩
  replace A := A.below hxx
  replace HPs := hide ((unhide HPs).below hxx)
  replace S := S.below hxx
  replace HPt := hide ((unhide HPt).below hxx)
  replace T := T.below hxx
  replace HPx := hide ((unhide HPx).below hxx)
  replace hBW := bthen hBW hxx
  clear hxx
  have HBu := hide hxb
  have HPu := hide hxp
  clear hxb hxp HPx HBx HE1 HE2
  obtain ⟨V7, hV7⟩ : ∃ V, V = w7.alloc (.cells #[.bool u.ln, .slice u.la u.lN u.lc, .bool u.hn, .slice u.ha u.hN u.hc, .int .i64 u.bits] 36) := ⟨_, rfl⟩
  have bV7 : Below w7.heap.size w7 V7 := by rw [hV7]; exact bl1 _ _
  have U : SpC V7 w7.heap.size u := by rw [hV7]; exact spc_new w7 u _
  go_wp2_with fail
  rw [← hV7]
  clear hV7
  replace A := A.below bV7
  replace HPs := hide ((unhide HPs).below bV7)
  replace S := S.below bV7
  replace HPt := hide ((unhide HPt).below bV7)
  replace T := T.below bV7
  replace HPu := hide ((unhide HPu).below bV7)
  replace hBW := bthen hBW bV7
  clear bV7 A
  have HK := hide (show ∀ w', Below V7.heap.size V7 w' → (w'.cell? ⟨w3.heap.size, 0, none⟩ = some (.bool s.ln) ∧ w'.cell? ⟨w3.heap.size, 1, none⟩ = some (.slice s.la s.lN s.lc) ∧ w'.cell? ⟨w3.heap.size, 2, none⟩ = some (.bool s.hn) ∧ w'.cell? ⟨w3.heap.size, 3, none⟩ = some (.slice s.ha s.hN s.hc) ∧ w'.cell? ⟨w3.heap.size, 4, none⟩ = some (.int .i64 s.bits) ∧ w'.cell? ⟨w4.heap.size, 0, none⟩ = some (.bool t.ln) ∧ w'.cell? ⟨w4.heap.size, 1, none⟩ = some (.slice t.la t.lN t.lc) ∧ w'.cell? ⟨w4.heap.size, 2, none⟩ = some (.bool t.hn) ∧ w'.cell? ⟨w4.heap.size, 3, none⟩ = some (.slice t.ha t.hN t.hc) ∧ w'.cell? ⟨w4.heap.size, 4, none⟩ = some (.int .i64 t.bits) ∧ w'.cell? ⟨w7.heap.size, 0, none⟩ = some (.bool u.ln) ∧ w'.cell? ⟨w7.heap.size, 1, none⟩ = some (.slice u.la u.lN u.lc) ∧ w'.cell? ⟨w7.heap.size, 2, none⟩ = some (.bool u.hn) ∧ w'.cell? ⟨w7.heap.size, 3, none⟩ = some (.slice u.ha u.hN u.hc) ∧ w'.cell? ⟨w7.heap.size, 4, none⟩ = some (.int .i64 u.bits)) from fun w' hB => ⟨(S.below hB).c0, (S.below hB).c1, (S.below hB).c2, (S.below hB).c3, (S.below hB).c4, (T.below hB).c0, (T.below hB).c1, (T.below hB).c2, (T.below hB).c3, (T.below hB).c4, (U.below hB).c0, (U.below hB).c1, (U.below hB).c2, (U.below hB).c3, (U.below hB).c4⟩)
  have HLs := hide (unhide HPs)
  clear S T U
  obtain ⟨x0, x1, x2, x3, x4, y0, y1, y2, y3, y4, z0, z1, z2, z3, z4⟩ := unhide HK _ (Below.refl _ _)
  have hD0 : Below V7.heap.size V7 V7.drew := (Below.refl _ _).drew
  have hT1 := hide (er_tou (unhide HRR) hq h6 (unhide HVs) (unhide HK1) (unhide HK2))
  have hT2 := hide (ec_tou (unhide HRR) hq h6 (unhide HVt) (unhide HK1) (unhide HK2))
  have B1 := hide (show -1 * Q b ≤ L1 by have := (unhide HVs).lo; omega)
  have B2 := hide (show H1 ≤ 1 * Q b by have := (unhide HVs).hi; omega)
  have B3 := hide (show 0 * Q b ≤ L2 by have := (unhide HVt).lo; omega)
  have B4 := hide (show H2 ≤ 2 * Q b from (unhide HVt).hi)
  go_region_held3 (fun w' => w'.cell? ⟨w3.heap.size, 0, none⟩ = some (.bool s.ln) ∧ w'.cell? ⟨w3.heap.size, 1, none⟩ = some (.slice s.la s.lN s.lc) ∧ w'.cell? ⟨w3.heap.size, 2, none⟩ = some (.bool s.hn) ∧ w'.cell? ⟨w3.heap.size, 3, none⟩ = some (.slice s.ha s.hN s.hc) ∧ w'.cell? ⟨w3.heap.size, 4, none⟩ = some (.int .i64 s.bits) ∧ w'.cell? ⟨w4.heap.size, 0, none⟩ = some (.bool t.ln) ∧ w'.cell? ⟨w4.heap.size, 1, none⟩ = some (.slice t.la t.lN t.lc) ∧ w'.cell? ⟨w4.heap.size, 2, none⟩ = some (.bool t.hn) ∧ w'.cell? ⟨w4.heap.size, 3, none⟩ = some (.slice t.ha t.hN t.hc) ∧ w'.cell? ⟨w4.heap.size, 4, none⟩ = some (.int .i64 t.bits) ∧ w'.cell? ⟨w7.heap.size, 0, none⟩ = some (.bool u.ln) ∧ w'.cell? ⟨w7.heap.size, 1, none⟩ = some (.slice u.la u.lN u.lc) ∧ w'.cell? ⟨w7.heap.size, 2, none⟩ = some (.bool u.hn) ∧ w'.cell? ⟨w7.heap.size, 3, none⟩ = some (.slice u.ha u.hN u.hc) ∧ w'.cell? ⟨w7.heap.size, 4, none⟩ = some (.int .i64 u.bits)) (first | exact unhide HK _ (by first | with_reducible exact hD0 | with_reducible exact hD7 | with_reducible exact hD6 | with_reducible exact hD5 | with_reducible exact hD4 | with_reducible exact hD3 | with_reducible exact hD2 | with_reducible exact hD1) | go_keep)
    (first
      | (go_at_call 18; have hq6 := hD6; refine (ins_ok _ t 250 b L2 H2 0 2 ((unhide HPt).below hD6) (unhide HBt) (by omega) (by decide) (by decide) (by decide) (by decide) (unhide B3) (unhide B4)).mono ?_; rintro r' w14 ⟨rfl, hb14⟩; have hD7 := bthen hD6 hb14)
      | (go_at_call 18; have hq5 := hD5; refine (ins_ok _ s 250 b L1 H1 (-1) 1 ((unhide HPs).below hD5) (unhide HBs) (by omega) (by decide) (by decide) (by decide) (by decide) (unhide B1) (unhide B2)).mono ?_; rintro r' w13 ⟨rfl, hb13⟩; have hD6 := bthen hD5 hb13)
      | (go_at_call 13; have hq4 := hD4; refine (lawSure_ok _ t v b 16 200003 L2 H2 _ _ ((unhide HPt).below hD4) hv4 (by omega) (by omega) (unhide HBt) h6 (unhide HVt).le (by omega) (by omega) (unhide HBv) (unhide HVt).nar (unhide hT2)).mono ?_; rintro r' w12 ⟨rfl, hb12⟩; have hD5 := bthen hD4 hb12)
      | (go_at_call 16; have hq3 := hD3; refine (refLess_ivE _ y u 200002 (b + 16) (1 * Q (b + 16), 1 * Q (b + 16)) (a1, c2) (hy3.mono (show (b + 16) / 16 + 18 ≤ 200002 by omega)) ((unhide HPu).below hD3) (by omega) (unhide HBy)).mono ?_; rintro r' w11 ⟨v, rfl, hvb, hv4, hb11⟩; have HBv := hide hvb; clear hvb; have hD4 := bthen hD3 hb11)
      | (go_at_call 17; have hq2 := hD2; (first | rw [unhide HW] | rw [unhide HW2]); refine (refWhole _ 1 (b + 16) (by omega) (by decide) (by decide)).mono ?_; rintro r' w10 ⟨y, rfl, hyb, hy3, hb10⟩; have HBy := hide hyb; clear hyb; have hD3 := bthen hD2 hb10)
      | (go_at_call 13; have hq1 := hD1; refine (lawSure_ok _ s u b 16 200002 L1 H1 _ _ ((unhide HPs).below hD1) ((unhide HPu).below hD1) (by omega) (by omega) (unhide HBs) h6 (unhide HVs).le (by omega) (by omega) (unhide HBu) (unhide HVs).nar (unhide hT1)).mono ?_; rintro r' w9 ⟨rfl, hb9⟩; have hD2 := bthen hD1 hb9)
      | (go_at_call 12; refine (errorBegun_any _).mono ?_; rintro r' w8 ⟨rfl, hb8⟩; have hD1 := bthen hD0 hb8))
  all_goals
    go_wp2_with fail
    go_ret
    exact ⟨rfl, bthen hBW hD7⟩
theorem law_errorfErfs (p q bt : Int) (w : World) :
    Calls Try.prog 3 #[.agg #[.int .i64 p, .int .i64 q], .int .i64 bt] w fun r w' => r = .returned (.bool true) ∧ Below w.heap.size w w' := by
  by_cases h : rok p q ∧ 8 ≤ bt ∧ bt ≤ 120
  · obtain ⟨h1, h2, h3⟩ := h
    obtain ⟨b, rfl⟩ : ∃ b : Nat, bt = (b : Int) := ⟨bt.toNat, by omega⟩
    exact law_erfs_ok p q b w h1 (by omega) (by omega)
  · exact law_erfs_bad p q bt w h
end Go.Proofs.Ytgmnknmjainabab

namespace Go.Proofs.Ytgmnknmjainabab
set_option linter.unusedVariables false
set_option linter.unusedSimpArgs false
set_option linter.unnecessarySimpa false
open Go.ChangeShapes Go.WideShapes Go.ChangeAt Go.RowKit

theorem Try.own : ownKnob Try.prog.godebug = none := by kernel_rfl
theorem Try.laidOut : laidOutB Try.prog = true := by kernel_rfl
theorem Try.cellsI : Try.prog.cellsOf 3 = 1 := by kernel_rfl
end Go.Proofs.Ytgmnknmjainabab
