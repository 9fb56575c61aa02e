/-
  What tailsureref.Erf answers, and that it leaves old memory alone.
  What tailsureref.ErfOf answers, and that it leaves old memory alone.
  What the reference's error function has, beside the program's: the two are within 2 to the power of -198 of each other. Plain arithmetic: no statement of the seat is proved here.
  What the reference's error function of a point, and of a span, has. Plain arithmetic: no statement of the seat is proved here.
  The program's error function touches the reference's: told of their numbers. Plain arithmetic: no statement of the seat is proved here.
  The normal law's numbers: what is made of the error function, and that the program's touch the reference's. Plain arithmetic: no statement of the seat is proved here.
  What Normal of a ratio is: told of its numbers. Plain arithmetic: no statement of the seat is proved here.
  What tailsureref.nearLog answers, and that it leaves old memory alone.
  What tailsureref.rootLog answers, and that it leaves old memory alone.
-/
import Derived.Test.YtgmnknmjainababGreatK20
namespace Go.Proofs.YtgmnknmjainababGreat
set_option linter.unusedVariables false
set_option linter.unusedSimpArgs false
set_option linter.unnecessarySimpa false
open Go.RowKit
attribute [local go_sem ↓] Go.wp_at_zero Go.wp_at_succ

/-- What every call of tailsureref.Erf answers of a point. -/
def RefErf (X : Int) (B : Nat) (lo hi : Int) : Prop := ∀ (w' : World) (x : Nm), IntAt w' x.neg x.a x.n x.cap 100 X → Calls Tryz.prog 110 #[.agg #[.bool x.neg, .slice x.a x.n x.cap], .int .i64 B] w' (SpanAns w' B 200001 lo hi)
theorem cmp_neg {x y : Int} (h : x < y) : cmpInt x y < 0 := by unfold cmpInt; rw [if_pos h]; omega
theorem cmp_gt {x y : Int} (h : y < x) : 0 < cmpInt x y := by unfold cmpInt; rw [if_neg (by omega), if_pos h]; omega
theorem cmp_le {x y : Int} (h : x ≤ y) : ¬ 0 < cmpInt x y := by unfold cmpInt; split <;> (try split) <;> omega

set_option maxRecDepth 100000 in
set_option maxHeartbeats 4000000 in
theorem refErf_far (X : Int) (B : Nat) (h0 : 0 ≤ X) (hB : B ≤ 1000) (hf : ((B : Int) + 8) * Q (2 * B) < X * X) : RefErf X B (Q B - 1) (Q B) := by
  intro w x hx
  have c1 := cmp_nneg h0
  have c2 := cmp_gt hf
  clear hf h0
  obtain ⟨W, hW⟩ : ∃ W, W = (w.alloc (.cells #[.bool x.neg, .slice x.a x.n x.cap] 26)).alloc (.cells #[.bool false, .slice none 0 0, .bool false, .slice none 0 0, .int .i64 0] 36) := ⟨_, rfl⟩
  have hBW : Below w.heap.size w W := by rw [hW]; exact bl2 _ _ _
  have A : NmC W w.heap.size x := by rw [hW]; exact ⟨by simp [go_sem], by simp [go_sem]⟩
  have R : NoC W (w.heap.size + 1) := by rw [hW]; exact ⟨by simp [go_sem], by simp [go_sem], by simp [go_sem], by simp [go_sem], by simp [go_sem], fun o => by simp [go_sem]⟩
  have HX := hide (hx.below hBW)
  have lR := R.lt
  have lA := A.lt
  clear hx
  have x0 := A.c0
  have x1 := A.c1
  go_enter Tryz.func110, Tryz.ntmps110
  go_wp2_with fail
  rw [← hW]
  clear hW
  refine (sign_int _ _ _ _ 100 X _ (unhide HX)).mono ?_
  rintro r w1 ⟨rfl, hb1⟩
  replace A := A.below hb1
  replace R := R.below hb1
  replace HX := hide ((unhide HX).below hb1)
  replace hBW := bthen hBW hb1
  clear hb1 x0 x1 lA lR
  have lA := A.lt
  have x0 := A.c0
  have x1 := A.c1
  go_wp2_with fail
  clear x0 x1 lA
  refine (mul_int _ _ _ _ _ _ _ _ 100 100 X X _ (unhide HX) (unhide HX) (by omega) (by omega)).mono ?_
  rintro r w2 ⟨neg2, a2, n2, c2, rfl, hint2, hb2⟩
  replace A := A.below hb2
  replace R := R.below hb2
  replace HX := hide ((unhide HX).below hb2)
  replace hBW := bthen hBW hb2
  clear hb2
  go_wp2_with fail
  refine (numOf_int ((B : Int) + 8) _ (by omega) (by omega)).mono ?_
  rintro r w3 ⟨neg3, a3, n3, c3, rfl, hint3, hb3⟩
  replace A := A.below hb3
  replace R := R.below hb3
  replace HX := hide ((unhide HX).below hb3)
  replace hBW := bthen hBW hb3
  replace hint2 := hint2.below hb3
  clear hb3
  go_wp2_with fail
  refine (power2_z (e := 2 * B) _ (by omega) _ (by omega)).mono ?_
  rintro r w4 ⟨neg4, a4, n4, c4, rfl, hint4, hb4⟩
  replace A := A.below hb4
  replace R := R.below hb4
  replace HX := hide ((unhide HX).below hb4)
  replace hBW := bthen hBW hb4
  replace hint2 := hint2.below hb4
  replace hint3 := hint3.below hb4
  clear hb4
  go_wp2_with fail
  refine (mul_int _ _ _ _ _ _ _ _ 4 (2 * B / 16 + 8) ((B : Int) + 8) (Q (2 * B)) _ hint3 hint4 (by omega) (by omega)).mono ?_
  rintro r w5 ⟨neg5, a5, n5, c5, rfl, hint5, hb5⟩
  replace A := A.below hb5
  replace R := R.below hb5
  replace HX := hide ((unhide HX).below hb5)
  replace hBW := bthen hBW hb5
  replace hint2 := hint2.below hb5
  clear hb5
  go_wp2_with fail
  refine (cmp_int _ _ _ _ _ _ _ _ (100 + 100) (4 + (2 * B / 16 + 8)) (X * X) (((B : Int) + 8) * Q (2 * B)) _ hint2 hint5).mono ?_
  rintro r w6 ⟨rfl, hb6⟩
  replace A := A.below hb6
  replace R := R.below hb6
  replace HX := hide ((unhide HX).below hb6)
  replace hBW := bthen hBW hb6
  clear hb6
  clear hint2 hint3 hint4 hint5
  go_wp2_with fail
  refine (power2_z (e := B) _ rfl _ (by omega)).mono ?_
  rintro r w7 ⟨neg7, a7, n7, c7, rfl, hint7, hb7⟩
  replace A := A.below hb7
  replace R := R.below hb7
  replace HX := hide ((unhide HX).below hb7)
  replace hBW := bthen hBW hb7
  clear hb7
  obtain ⟨y, hy⟩ : ∃ y : Nm, y = ⟨neg7, a7, n7, c7⟩ := ⟨_, rfl⟩
  obtain ⟨V7, hV7⟩ : ∃ V, V = w7.alloc (.cells #[.bool neg7, .slice a7 n7 c7] 26) := ⟨_, rfl⟩
  have bV7 : Below w7.heap.size w7 V7 := by rw [hV7]; exact bl1 _ _
  have O7 : NmC V7 w7.heap.size y := by rw [hV7, hy]; exact nmc_new w7 ⟨neg7, a7, n7, c7⟩ _
  have HI := hide (show IntAt V7 y.neg y.a y.n y.cap (B / 16 + 8) (Q B) by rw [hy]; exact hint7.below bV7)
  have lR7 := R.lt
  replace R := R.below bV7
  replace hBW := bthen hBW bV7
  have lO := O7.lt
  have lR8 := R.lt
  have HK := hide (show ∀ w', Below V7.heap.size V7 w' → (w'.cell? ⟨w7.heap.size, 0, none⟩ = some (.bool y.neg) ∧ w'.cell? ⟨w7.heap.size, 1, none⟩ = some (.slice y.a y.n y.cap)) from fun w' hB => ⟨(O7.below hB).c0, (O7.below hB).c1⟩)
  have hD0 : Below V7.heap.size V7 V7.drew := (Below.refl _ _).drew
  clear hint7 bV7 hy
  go_wp2_with fail
  rw [← hV7]
  clear hV7
  obtain ⟨x0, x1⟩ := unhide HK _ (Below.refl _ _)
  have nR : w.heap.size + 1 ≠ w7.heap.size := by omega
  go_region_held3 (fun w' => w'.cell? ⟨w7.heap.size, 0, none⟩ = some (.bool y.neg) ∧ w'.cell? ⟨w7.heap.size, 1, none⟩ = some (.slice y.a y.n y.cap)) (first | exact unhide HK _ (by first | with_reducible exact hD0 | with_reducible exact hD2 | with_reducible exact hD1) | go_keep)
    (first
      | (go_at_call 72; have hq := hD1; refine (sub_int _ _ _ _ _ _ _ _ (B / 16 + 8) 4 (Q B) 1 _ ((unhide HI).below hD1) hint8 (by omega) (by omega)).mono ?_; rintro r w9 ⟨neg9, a9, n9, c9, rfl, hint9, hb9⟩; have hD2 := bthen hD1 hb9; obtain ⟨q0, q1, q2, q3, q4, q5⟩ := R.below hD2; obtain ⟨i0, i1⟩ := unhide HK _ hD2)
      | (go_at_call 43; refine (numOf_int 1 _ (by omega) (by omega)).mono ?_; rintro r w8 ⟨neg8, a8, n8, c8, rfl, hint8, hb8⟩; have hD1 := bthen hD0 hb8))
  all_goals
    go_wp2_with fail
    refine bodyPost_ret (v := .agg #[.bool neg9, .slice a9 n9 c9, .bool y.neg, .slice y.a y.n y.cap, .int .i64 (B : Int)]) (by simp [results, Tryz.results110, go_sem, q0, q1, q2, q3, q4]) rfl ⟨⟨neg9, a9, n9, c9, y.neg, y.a, y.n, y.cap, (B : Int)⟩, rfl, rfl, ?_, ?_⟩
    · exact SpAt.put5 (show SpAt w9 ⟨neg9, a9, n9, c9, y.neg, y.a, y.n, y.cap, (B : Int)⟩ 200001 (Q B - 1) (Q B) from ⟨hint9.mono (by omega), ((unhide HI).below hD2).mono (by omega)⟩) q0 q1 q2 q3 q4 _ _ _ _ _
    · exact set5 (bthen hBW hD2) (Nat.le_succ _) _ _ _ _ _

set_option maxRecDepth 100000 in
set_option maxHeartbeats 4000000 in
theorem refErf_near (X : Int) (B : Nat) (lo hi : Int) (h0 : 0 ≤ X) (hB : B ≤ 1000) (hn : X * X ≤ ((B : Int) + 8) * Q (2 * B)) (hE : ∀ (w' : World) (x : Nm), IntAt w' x.neg x.a x.n x.cap 100 X → Calls Tryz.prog 164 #[.agg #[.bool x.neg, .slice x.a x.n x.cap], .int .i64 B] w' (SpanAns w' B 200000 lo hi)) : RefErf X B (clipL lo) (clipH B hi) := by
  intro w x hx
  have c1 := cmp_nneg h0
  have c2 := cmp_le hn
  have HE := hide hE
  clear hn h0 hE
  obtain ⟨W, hW⟩ : ∃ W, W = (w.alloc (.cells #[.bool x.neg, .slice x.a x.n x.cap] 26)).alloc (.cells #[.bool false, .slice none 0 0, .bool false, .slice none 0 0, .int .i64 0] 36) := ⟨_, rfl⟩
  have hBW : Below w.heap.size w W := by rw [hW]; exact bl2 _ _ _
  have A : NmC W w.heap.size x := by rw [hW]; exact ⟨by simp [go_sem], by simp [go_sem]⟩
  have R : NoC W (w.heap.size + 1) := by rw [hW]; exact ⟨by simp [go_sem], by simp [go_sem], by simp [go_sem], by simp [go_sem], by simp [go_sem], fun o => by simp [go_sem]⟩
  have HX := hide (hx.below hBW)
  have lR := R.lt
  have lA := A.lt
  clear hx
  have x0 := A.c0
  have x1 := A.c1
  go_enter Tryz.func110, Tryz.ntmps110
  go_wp2_with fail
  rw [← hW]
  clear hW
  refine (sign_int _ _ _ _ 100 X _ (unhide HX)).mono ?_
  rintro r w1 ⟨rfl, hb1⟩
  replace A := A.below hb1
  replace R := R.below hb1
  replace HX := hide ((unhide HX).below hb1)
  replace hBW := bthen hBW hb1
  clear hb1 x0 x1 lA lR
  have lA := A.lt
  have x0 := A.c0
  have x1 := A.c1
  go_wp2_with fail
  clear x0 x1 lA
  refine (mul_int _ _ _ _ _ _ _ _ 100 100 X X _ (unhide HX) (unhide HX) (by omega) (by omega)).mono ?_
  rintro r w2 ⟨neg2, a2, n2, c2, rfl, hint2, hb2⟩
  replace A := A.below hb2
  replace R := R.below hb2
  replace HX := hide ((unhide HX).below hb2)
  replace hBW := bthen hBW hb2
  clear hb2
  go_wp2_with fail
  refine (numOf_int ((B : Int) + 8) _ (by omega) (by omega)).mono ?_
  rintro r w3 ⟨neg3, a3, n3, c3, rfl, hint3, hb3⟩
  replace A := A.below hb3
  replace R := R.below hb3
  replace HX := hide ((unhide HX).below hb3)
  replace hBW := bthen hBW hb3
  replace hint2 := hint2.below hb3
  clear hb3
  go_wp2_with fail
  refine (power2_z (e := 2 * B) _ (by omega) _ (by omega)).mono ?_
  rintro r w4 ⟨neg4, a4, n4, c4, rfl, hint4, hb4⟩
  replace A := A.below hb4
  replace R := R.below hb4
  replace HX := hide ((unhide HX).below hb4)
  replace hBW := bthen hBW hb4
  replace hint2 := hint2.below hb4
  replace hint3 := hint3.below hb4
  clear hb4
  go_wp2_with fail
  refine (mul_int _ _ _ _ _ _ _ _ 4 (2 * B / 16 + 8) ((B : Int) + 8) (Q (2 * B)) _ hint3 hint4 (by omega) (by omega)).mono ?_
  rintro r w5 ⟨neg5, a5, n5, c5, rfl, hint5, hb5⟩
  replace A := A.below hb5
  replace R := R.below hb5
  replace HX := hide ((unhide HX).below hb5)
  replace hBW := bthen hBW hb5
  replace hint2 := hint2.below hb5
  clear hb5
  go_wp2_with fail
  refine (cmp_int _ _ _ _ _ _ _ _ (100 + 100) (4 + (2 * B / 16 + 8)) (X * X) (((B : Int) + 8) * Q (2 * B)) _ hint2 hint5).mono ?_
  rintro r w6 ⟨rfl, hb6⟩
  replace A := A.below hb6
  replace R := R.below hb6
  replace HX := hide ((unhide HX).below hb6)
  replace hBW := bthen hBW hb6
  clear hb6
  clear hint2 hint3 hint4 hint5
  have lA := A.lt
  have x0 := A.c0
  have x1 := A.c1
  go_wp2_with fail
  clear x0 x1 lA
  refine (unhide HE _ x (unhide HX)).mono ?_
  rintro r w7 ⟨u, rfl, hub, hup, hb7⟩
  have HU := hide hub
  replace A := A.below hb7
  replace R := R.below hb7
  replace HX := hide ((unhide HX).below hb7)
  replace hBW := bthen hBW hb7
  clear hb7
  clear hub
  go_wp2_with fail
  refine (refClip01 _ u 200000 B lo hi hup (unhide HU) (by omega) (by omega) (by omega)).mono ?_
  rintro r w8 ⟨t, rfl, htb, htp, hb8⟩
  obtain ⟨q0, q1, q2, q3, q4, q5⟩ := R.below hb8
  replace hBW := bthen hBW hb8
  have HT := hide htb
  clear htb
  go_wp2_with fail
  refine bodyPost_ret (v := .agg #[.bool t.ln, .slice t.la t.lN t.lc, .bool t.hn, .slice t.ha t.hN t.hc, .int .i64 t.bits]) (by simp [results, Tryz.results110, go_sem, q0, q1, q2, q3, q4]) rfl ⟨t, rfl, unhide HT, ?_, ?_⟩
  · exact SpAt.put5 (htp.mono (by omega)) q0 q1 q2 q3 q4 _ _ _ _ _
  · exact set5 hBW (Nat.le_succ _) _ _ _ _ _

set_option maxRecDepth 100000 in
set_option maxHeartbeats 4000000 in
theorem refErf_neg (X : Int) (B : Nat) (lo hi : Int) (h0 : X < 0) (hB : B ≤ 1000) (hE : RefErf (-X) B lo hi) : ∀ (w : World) (x : Nm), IntAt w x.neg x.a x.n x.cap 100 X → Calls Tryz.prog 110 #[.agg #[.bool x.neg, .slice x.a x.n x.cap], .int .i64 B] w (SpanAns w B 200002 (subI (0 * Q B, 0 * Q B) (lo, hi)).1 (subI (0 * Q B, 0 * Q B) (lo, hi)).2) := by
  intro w x hx
  have c1 := cmp_neg h0
  have HE := hide hE
  clear h0 hE
  obtain ⟨W, hW⟩ : ∃ W, W = (w.alloc (.cells #[.bool x.neg, .slice x.a x.n x.cap] 26)).alloc (.cells #[.bool false, .slice none 0 0, .bool false, .slice none 0 0, .int .i64 0] 36) := ⟨_, rfl⟩
  have hBW : Below w.heap.size w W := by rw [hW]; exact bl2 _ _ _
  have A : NmC W w.heap.size x := by rw [hW]; exact ⟨by simp [go_sem], by simp [go_sem]⟩
  have R : NoC W (w.heap.size + 1) := by rw [hW]; exact ⟨by simp [go_sem], by simp [go_sem], by simp [go_sem], by simp [go_sem], by simp [go_sem], fun o => by simp [go_sem]⟩
  have HX := hide (hx.below hBW)
  have lR := R.lt
  have lA := A.lt
  clear hx
  have x0 := A.c0
  have x1 := A.c1
  go_enter Tryz.func110, Tryz.ntmps110
  go_wp2_with fail
  rw [← hW]
  clear hW
  refine (sign_int _ _ _ _ 100 X _ (unhide HX)).mono ?_
  rintro r w1 ⟨rfl, hb1⟩
  replace A := A.below hb1
  replace R := R.below hb1
  replace HX := hide ((unhide HX).below hb1)
  replace hBW := bthen hBW hb1
  clear hb1 x0 x1 lA lR
  have lA := A.lt
  have lR1 := R.lt
  have HK := hide (show ∀ w', Below w1.heap.size w1 w' → (w'.cell? ⟨w.heap.size, 0, none⟩ = some (.bool x.neg) ∧ w'.cell? ⟨w.heap.size, 1, none⟩ = some (.slice x.a x.n x.cap)) from fun w' hB => ⟨(A.below hB).c0, (A.below hB).c1⟩)
  have hD0 : Below w1.heap.size w1 w1.drew := (Below.refl _ _).drew
  go_wp2_with fail
  obtain ⟨x0, x1⟩ := unhide HK _ (Below.refl _ _)
  go_region_held3 (fun w' => w'.cell? ⟨w.heap.size, 0, none⟩ = some (.bool x.neg) ∧ w'.cell? ⟨w.heap.size, 1, none⟩ = some (.slice x.a x.n x.cap)) (first | exact unhide HK _ (by first | with_reducible exact hD0 | with_reducible exact hD4 | with_reducible exact hD3 | with_reducible exact hD2 | with_reducible exact hD1) | go_keep)
    (first
      | (go_at_call 26; have hq := hD3; refine (refLess_ivE _ f1 f3 200001 B (0 * Q B, 0 * Q B) (lo, hi) ((hfp1.below (bthen hg2 hg3)).mono (by omega)) hfp3 (by omega) (unhide F1)).mono ?_; rintro r g4 ⟨t, rfl, htb, htp, hg4⟩; have HT := hide htb; clear htb; have hD4 := bthen hD3 hg4; obtain ⟨q0, q1, q2, q3, q4, q5⟩ := R.below hD4; obtain ⟨i0, i1⟩ := unhide HK _ hD4)
      | (go_at_call 110; have hq := hD2; refine (unhide HE _ ⟨neg2, a2, n2, c2⟩ hint2).mono ?_; rintro r g3 ⟨f3, rfl, hfb3, hfp3, hg3⟩; clear hfb3; have hD3 := bthen hD2 hg3)
      | (go_at_call 103; have hq := hD1; refine (neg_int _ _ _ _ 100 X _ ((unhide HX).below hD1) (by omega)).mono ?_; rintro r g2 ⟨neg2, a2, n2, c2, rfl, hint2, hg2⟩; have hD2 := bthen hD1 hg2)
      | (go_at_call 27; refine (refWhole _ 0 B (by omega) (by omega) (by omega)).mono ?_; rintro r g1 ⟨f1, rfl, hfb1, hfp1, hg1⟩; have F1 := hide hfb1; clear hfb1; have hD1 := bthen hD0 hg1))
  all_goals
    go_wp2_with fail
    refine bodyPost_ret (v := .agg #[.bool t.ln, .slice t.la t.lN t.lc, .bool t.hn, .slice t.ha t.hN t.hc, .int .i64 t.bits]) (by simp [results, Tryz.results110, go_sem, q0, q1, q2, q3, q4]) rfl ⟨t, rfl, unhide HT, ?_, ?_⟩
    · exact SpAt.put5 (htp.mono (by omega)) q0 q1 q2 q3 q4 _ _ _ _ _
    · exact set5 (bthen hBW hD4) (Nat.le_succ _) _ _ _ _ _
end Go.Proofs.YtgmnknmjainababGreat

namespace Go.Proofs.YtgmnknmjainababGreat
set_option linter.unusedVariables false
set_option linter.unusedSimpArgs false
set_option linter.unnecessarySimpa false
open Go.RowKit
attribute [local go_sem ↓] Go.wp_at_zero Go.wp_at_succ

/-- What every call of tailsureref.Erf answers of a point, whatever its sign. -/
def RefErf2 (X : Int) (B : Nat) (lo hi : Int) : Prop := ∀ (w' : World) (x : Nm), IntAt w' x.neg x.a x.n x.cap 100 X → Calls Tryz.prog 110 #[.agg #[.bool x.neg, .slice x.a x.n x.cap], .int .i64 B] w' (SpanAns w' B 200002 lo hi)
theorem RefErf.two {X : Int} {B : Nat} {lo hi : Int} (h : RefErf X B lo hi) : RefErf2 X B lo hi := fun w' x hx => (h w' x hx).mono fun r w'' ⟨s, e1, e2, e3, e4⟩ => ⟨s, e1, e2, e3.mono (by omega), e4⟩

set_option maxRecDepth 100000 in
set_option maxHeartbeats 4000000 in
theorem refErfOf_iv (w : World) (s : Sp) (B : Nat) (a o1 o2 : Int × Int) (hs : SpAt w s 100 a.1 a.2) (hbits : s.bits = (B : Int)) (h1 : RefErf2 a.1 B o1.1 o1.2) (h2 : RefErf2 a.2 B o2.1 o2.2) :
    Calls Tryz.prog 58 #[.agg #[.bool s.ln, .slice s.la s.lN s.lc, .bool s.hn, .slice s.ha s.hN s.hc, .int .i64 s.bits]] w (SpanAns w B 200002 o1.1 o2.2) := by
  obtain ⟨W, hW⟩ : ∃ W, W = (w.alloc (.cells #[.bool s.ln, .slice s.la s.lN s.lc, .bool s.hn, .slice s.ha s.hN s.hc, .int .i64 s.bits] 36)).alloc (.cells #[.bool false, .slice none 0 0, .bool false, .slice none 0 0, .int .i64 0] 36) := ⟨_, rfl⟩
  have hBW : Below w.heap.size w W := by rw [hW]; exact bl2 _ _ _
  have A : SpC W w.heap.size s := by rw [hW]; exact ⟨by simp [go_sem], by simp [go_sem], by simp [go_sem], by simp [go_sem], by simp [go_sem]⟩
  have R : NoC W (w.heap.size + 1) := by rw [hW]; exact ⟨by simp [go_sem], by simp [go_sem], by simp [go_sem], by simp [go_sem], by simp [go_sem], fun o => by simp [go_sem]⟩
  have HS := hide (hs.below hBW)
  have HB := hide hbits
  have H1 := hide h1
  have H2 := hide h2
  have lR := R.lt
  have HK := hide (show ∀ w', Below W.heap.size W w' → (w'.cell? ⟨w.heap.size, 0, none⟩ = some (.bool s.ln) ∧ w'.cell? ⟨w.heap.size, 1, none⟩ = some (.slice s.la s.lN s.lc) ∧ w'.cell? ⟨w.heap.size, 2, none⟩ = some (.bool s.hn) ∧ w'.cell? ⟨w.heap.size, 3, none⟩ = some (.slice s.ha s.hN s.hc) ∧ w'.cell? ⟨w.heap.size, 4, none⟩ = some (.int .i64 s.bits)) from fun w' hB => ⟨(A.below hB).c0, (A.below hB).c1, (A.below hB).c2, (A.below hB).c3, (A.below hB).c4⟩)
  clear A hs hbits h1 h2
  have hf0 := fieldS0
  have hf1 := fieldS1
  go_enter Tryz.func58, Tryz.ntmps58
  go_wp2
  rw [← hW]
  clear hW
  have n01 : w.heap.size ≠ w.heap.size + 1 := by omega
  have n10 : w.heap.size + 1 ≠ w.heap.size := by omega
  obtain ⟨x0, x1, x2, x3, x4⟩ := unhide HK _ (Below.refl _ _)
  have hD0 : Below W.heap.size W W.drew := (Below.refl _ _).drew
  go_region_held3 (fun w' => w'.cell? ⟨w.heap.size, 0, none⟩ = some (.bool s.ln) ∧ w'.cell? ⟨w.heap.size, 1, none⟩ = some (.slice s.la s.lN s.lc) ∧ w'.cell? ⟨w.heap.size, 2, none⟩ = some (.bool s.hn) ∧ w'.cell? ⟨w.heap.size, 3, none⟩ = some (.slice s.ha s.hN s.hc) ∧ w'.cell? ⟨w.heap.size, 4, none⟩ = some (.int .i64 s.bits)) (first | exact unhide HK _ (by first | with_reducible exact hD0 | with_reducible exact hD2 | with_reducible exact hD1) | go_keep)
    (first
      | (go_at_call 110; have hqq := hD1; (try rw [unhide HB]); refine (unhide H2 _ ⟨s.hn, s.ha, s.hN, s.hc⟩ ((unhide HS).hi.below hD1)).mono ?_; rintro r' w2 ⟨v2, rfl, hvb2, hint2, hb2⟩; have hD2 := bthen hD1 hb2; clear hvb2; replace hint1 := hint1.below hb2; obtain ⟨q0, q1, q2, q3, q4, q5⟩ := R.below hD2; obtain ⟨i0, i1, i2, i3, i4⟩ := unhide HK _ hD2)
      | (go_at_call 110; rw [unhide HB]; refine (unhide H1 _ ⟨s.ln, s.la, s.lN, s.lc⟩ ((unhide HS).lo.below hD0)).mono ?_; rintro r' w1 ⟨v1, rfl, hvb1, hint1, hb1⟩; have hD1 := bthen hD0 hb1; clear hvb1))
  all_goals
    go_wp2_with fail
    refine bodyPost_ret (v := .agg #[.bool v1.ln, .slice v1.la v1.lN v1.lc, .bool v2.hn, .slice v2.ha v2.hN v2.hc, .int .i64 (B : Int)]) (by simp [results, Tryz.results58, go_sem, q0, q1, q2, q3, q4]) rfl ⟨⟨v1.ln, v1.la, v1.lN, v1.lc, v2.hn, v2.ha, v2.hN, v2.hc, (B : Int)⟩, rfl, rfl, ?_, ?_⟩
    · exact SpAt.put5 (show SpAt _ (⟨v1.ln, v1.la, v1.lN, v1.lc, v2.hn, v2.ha, v2.hN, v2.hc, (B : Int)⟩ : Sp) 200002 o1.1 o2.2 from ⟨hint1.lo, hint2.hi⟩) q0 q1 q2 q3 q4 _ _ _ _ _
    · exact set5 (bthen hBW hD2) (Nat.le_succ _) _ _ _ _ _
end Go.Proofs.YtgmnknmjainababGreat

namespace Go.Proofs.YtgmnknmjainababGreat
set_option linter.unusedVariables false
open Ex

theorem prV_nonneg (n : Nat) : 0 ≤ prV n := by
  induction n with
  | zero => show (0 : Rat) ≤ 3; grind
  | succ n ih =>
    obtain ⟨d1, d2, d3⟩ := pr_den n
    exact Rat.mul_nonneg (rat_quarter d1 d2 d3).1 ih
theorem prS_three {M : Nat} (hM : 1 ≤ M) : 3 ≤ prS M := by
  obtain ⟨m, rfl⟩ : ∃ m, M = m + 1 := ⟨M - 1, by omega⟩
  induction m with
  | zero => show (3 : Rat) ≤ 0 + 3; grind
  | succ m ih => have := prV_nonneg (m + 1); have := ih (by omega); show 3 ≤ prS (m + 1) + prV (m + 1); grind
theorem prR_ex : ∃ R', RootS prS R' := root_seq (M0 := 1) (fun M hM => by have := prS_three hM; grind) (pr_has 0 0).bdd
/-- The two roots are near each other. -/
def tau : Rat := 1 / ((Q 200 : Int) : Rat)
theorem tau_pos : 0 < tau := rdiv_pos (by grind) (Qr_pos 200)
theorem root_close {R R' : Nat → Rat} (h : RootS piS R) (h' : RootS prS R') : ∃ z, Null z ∧ ∀ M, AB (R M - R' M) (tau + z M) := by
  obtain ⟨c1, c2⟩ := pi_close
  obtain ⟨z1, hz1, k1⟩ := c1.null
  obtain ⟨z2, hz2, k2⟩ := c2.null
  have t0 := tau_pos
  -- all that is null, as great as it is
  have ab : ∀ {f : Nat → Rat}, Null f → ∃ g, Null g ∧ ∀ M, AB (f M) (g M) ∧ 0 ≤ g M := fun {f} hf => by
    refine ⟨fun M => if 0 ≤ f M then f M else -f M, fun e he => ?_, fun M => ?_⟩
    · obtain ⟨N, k⟩ := hf e he
      refine ⟨N, fun M hM => ?_⟩
      obtain ⟨a, b⟩ := k M hM
      simp only []
      split <;> constructor <;> grind
    · simp only []
      split <;> exact ⟨by constructor <;> grind, by grind⟩
  obtain ⟨g1, hg1, b1⟩ := ab h.sq
  obtain ⟨g2, hg2, b2⟩ := ab h'.sq
  obtain ⟨g3, hg3, b3⟩ := ab hz1
  obtain ⟨g4, hg4, b4⟩ := ab hz2
  refine ⟨_, ((hg1.add hg2).add (hg3.add hg4)), fun M => ?_⟩
  have r1 := h.one M
  have r2 := h'.one M
  have a1 := k1 M
  have a2 := k2 M
  obtain ⟨⟨p1, p2⟩, p3⟩ := b1 M
  obtain ⟨⟨q1, q2⟩, q3⟩ := b2 M
  obtain ⟨⟨u1, u2⟩, u3⟩ := b3 M
  obtain ⟨⟨v1, v2⟩, v3⟩ := b4 M
  have ht : (1 : Rat) / ((Q 200 : Int) : Rat) = tau := rfl
  rw [ht] at a1 a2
  generalize R M = r at *
  generalize R' M = r' at *
  generalize piS M = p at *
  generalize prS M = p' at *
  generalize g1 M = w1 at *
  generalize g2 M = w2 at *
  generalize g3 M = w3 at *
  generalize g4 M = w4 at *
  generalize z1 M = y1 at *
  generalize z2 M = y2 at *
  generalize tau = t at *
  clear ab hg1 hg2 hg3 hg4 b1 b2 b3 b4 hz1 hz2 k1 k2 c1 c2
  have sq : (r - r') * (r + r') = r * r - r' * r' := by grind
  constructor
  · refine Rat.not_lt.1 fun hlt => ?_
    have m := Rat.mul_le_mul_of_nonneg_right (Rat.le_of_lt hlt) (show 0 ≤ r + r' by grind)
    have m2 := Rat.mul_le_mul_of_nonneg_left (show 2 ≤ r + r' by grind) (show 0 ≤ t + (w1 + w2 + (w3 + w4)) by grind)
    have hs : r - r' < 0 := by grind
    have e : -(t + (w1 + w2 + (w3 + w4))) * (r + r') = -((t + (w1 + w2 + (w3 + w4))) * (r + r')) := by grind
    rw [sq] at m
    grind
  · refine Rat.not_lt.1 fun hlt => ?_
    have m := Rat.mul_le_mul_of_nonneg_right (Rat.le_of_lt hlt) (show 0 ≤ r + r' by grind)
    have m2 := Rat.mul_le_mul_of_nonneg_left (show 2 ≤ r + r' by grind) (show 0 ≤ t + (w1 + w2 + (w3 + w4)) by grind)
    rw [sq] at m
    grind
/-- And so are the two error functions. -/
theorem erf_close {R R' : Nat → Rat} (h : RootS piS R) (h' : RootS prS R') {x : Rat} (hx : 0 ≤ x) : LeN (erfS R x) (fun M => erfS R' x M + tau) ∧ LeN (erfS R' x) (fun M => erfS R x M + tau) := by
  obtain ⟨z, hz, k⟩ := root_close h h'
  obtain ⟨z1, hz1, k1⟩ := (erf_one h hx).null
  have t0 := tau_pos
  have bz := hz.bdd
  -- (1 + z1) (tau + z) - tau
  have q1 := ((hz.bmul (Bdd.const 1)).add (hz1.bmul ((Bdd.const tau).add bz)))
  have key : ∀ M, 1 ≤ M → AB (erfS R x M - erfS R' x M) (tau + (z M * 1 + z1 M * (tau + z M))) := fun M hM => by
    have a := k M
    have r1 := h.one M
    have r2 := h'.one M
    have e1 := erf_eq h x hM
    have e2 := erf_eq h' x hM
    have o := k1 M
    have n0 := erf_nonneg h hx hM
    have c1 := rdm (a := 1) (show 0 < R M by grind)
    have c2 := rdm (a := 1) (show 0 < R' M by grind)
    have i2 := div_one (a := 1) (by grind) r2
    have s0 := a.nonneg
    -- erfS R' = erfS R * (R / R')
    have f1 : erfS R x M - erfS R' x M = erfS R x M * ((R' M - R M) * (1 / R' M)) := by
      rw [e2]
      generalize eS x M / ex (x * x) M = q at *
      rw [e1]
      have : q * (2 * (1 / R M)) * ((R' M - R M) * (1 / R' M)) = 2 * q * ((1 / R M) * (R' M * (1 / R' M)) - (1 / R M * R M) * (1 / R' M)) := by grind
      rw [this, c1, show R' M * (1 / R' M) = 1 by grind]
      grind
    rw [f1]
    have b1 : AB ((R' M - R M) * (1 / R' M)) (tau + z M) := by
      have m1 : AB (R' M - R M) (tau + z M) := ⟨by have := a.2; grind, by have := a.1; grind⟩
      have m2 : AB (1 / R' M) 1 := ⟨by grind, i2.2⟩
      have := m1.mul m2
      exact this.mono (by grind)
    have b2 : AB (erfS R x M) (1 + z1 M) := ⟨by grind, o⟩
    exact (b2.mul b1).mono (by grind)
  constructor
  · exact LeN.of_null q1 1 fun M hM => by have := (key M hM).2; grind
  · exact LeN.of_null q1 1 fun M hM => by have := (key M hM).1; grind
end Go.Proofs.YtgmnknmjainababGreat

namespace Go.Proofs.YtgmnknmjainababGreat
set_option linter.unusedVariables false
open Ex

theorem Iv.dvs {B : Nat} {s t : Int × Int} {x y : Nat → Rat} (h : Iv B s x) (k : Iv B t y) (h0 : 0 < t.1) : Iv B (dvLo s.1 s.2 t.1 t.2 B, dvHi s.1 s.2 t.1 t.2 B) (fun M => x M / y M) := by
  have ht2 := k.le
  have q := Q_pos B
  unfold dvLo dvHi
  rw [if_neg (by omega), if_neg (by omega)]
  unfold ovLo ovHi
  obtain ⟨l, hl⟩ : ∃ l, l = s.1 * Q B := ⟨_, rfl⟩
  obtain ⟨u, hu⟩ : ∃ u, u = s.2 * Q B := ⟨_, rfl⟩
  rw [← hl, ← hu]
  have f1 := dv_floor l h0
  have f2 := dv_floor l (show 0 < t.2 by omega)
  have g1 := dv_ceil u h0
  have g2 := dv_ceil u (show 0 < t.2 by omega)
  refine h.div k h0 ?_ ?_ ?_ ?_
  · rw [← hl]
    split
    · exact f1
    · have n0 : 0 ≤ l / t.2 := Int.ediv_nonneg (by omega) (by omega)
      have := Int.mul_le_mul_of_nonneg_left ht2 n0
      omega
  · rw [← hl]
    split
    · have n0 : l / t.1 ≤ 0 := Int.ediv_nonpos_of_nonpos_of_neg (by omega) h0
      have := Int.mul_le_mul_of_nonneg_left ht2 (show 0 ≤ -(l / t.1) by omega)
      have e1 : -(l / t.1) * t.1 = -(l / t.1 * t.1) := by grind
      have e2 : -(l / t.1) * t.2 = -(l / t.1 * t.2) := by grind
      omega
    · exact f2
  · rw [← hu]
    split
    · have n0 : 0 ≤ -u / t.2 := Int.ediv_nonneg (by omega) (by omega)
      have := Int.mul_le_mul_of_nonneg_left ht2 n0
      have e1 : -(-u / t.2) * t.1 = -(-u / t.2 * t.1) := by grind
      have e2 : -(-u / t.2) * t.2 = -(-u / t.2 * t.2) := by grind
      omega
    · exact g1
  · rw [← hu]
    split
    · exact g2
    · have n0 : -u / t.1 ≤ 0 := Int.ediv_nonpos_of_nonpos_of_neg (by omega) h0
      have := Int.mul_le_mul_of_nonneg_left ht2 (show 0 ≤ -(-u / t.1) by omega)
      omega
theorem pr_pos {m Np : Nat} (hm : 100 ≤ m) (hN : IsStop (prT (m + 16)) Np) : 0 < (downI (doneT (prT (m + 16)) Np) 16).1 ∧ Iv m (downI (doneT (prT (m + 16)) Np) 16) prS := by
  have iv := Iv.to (B := m) (m := 16) (doneT_has (pr_has (m + 16) Np) hN.1)
  refine ⟨?_, iv⟩
  -- the first one is 3
  have h0 : 3 * Q (m + 16) ≤ (sumI (prT (m + 16)) Np).1 := by
    have : ∀ n, 3 * Q (m + 16) ≤ (sumI (prT (m + 16)) n).1 := fun n => by
      induction n with
      | zero => exact Int.le_refl _
      | succ n ih => have := prT_nonneg (m + 16) (n + 1); show 3 * Q (m + 16) ≤ (sumI (prT (m + 16)) n).1 + (prT (m + 16) (n + 1)).1; omega
    exact this Np
  have e : Q (m + 16) = Q m * Q 16 := Q_add m 16
  have e16 : Q 16 = 65536 := rfl
  have qm := Q_pos m
  show 0 < ((sumI (prT (m + 16)) Np).1 + -1) / Q 16
  have : 1 ≤ ((sumI (prT (m + 16)) Np).1 + -1) / Q 16 := Int.le_ediv_of_mul_le (by omega) (by rw [e16]; rw [e, e16] at h0; omega)
  omega
theorem loOut_has {R' : Nat → Rat} (h' : RootS prS R') {X : Int} {B m N Np : Nat} (h : LoIn X B m) (hm : 100 ≤ m) (hN : LoStop X B m N) (hNp : IsStop (prT (m + 16)) Np) : Iv B (loOut X B m N Np) (erfS R' (loX X B)) := by
  have x0 := loX_nonneg (B := B) h.x0
  obtain ⟨p0, pv⟩ := pr_pos hm hNp
  have rf := root_facts p0
  have l := lo_has h hN
  have two := Iv.add l l
  obtain ⟨r0, r1, r2, r3⟩ := rootI_bounds (B := m) (a := downI (doneT (prT (m + 16)) Np) 16) (by omega) pv.le
  have rt : Iv m (rootI m (downI (doneT (prT (m + 16)) Np) 16)) R' := root_iv (r := (rootI m (downI (doneT (prT (m + 16)) Np) 16)).1) (t := (rootI m (downI (doneT (prT (m + 16)) Np) 16)).2) pv h' r2 (by omega) r3
  have dv := Iv.dvs two rt (by have := rf.2.2.1; omega)
  have dv2 : Iv m (dvLo (addI (addI (lsT X B m N) (-2, 2)) (addI (lsT X B m N) (-2, 2))).1 (addI (addI (lsT X B m N) (-2, 2)) (addI (lsT X B m N) (-2, 2))).2 (rootI m (downI (doneT (prT (m + 16)) Np) 16)).1 (rootI m (downI (doneT (prT (m + 16)) Np) 16)).2 m, dvHi (addI (addI (lsT X B m N) (-2, 2)) (addI (lsT X B m N) (-2, 2))).1 (addI (addI (lsT X B m N) (-2, 2)) (addI (lsT X B m N) (-2, 2))).2 (rootI m (downI (doneT (prT (m + 16)) Np) 16)).1 (rootI m (downI (doneT (prT (m + 16)) Np) 16)).2 m) (erfS R' (loX X B)) := by
    refine dv.congr ((erf_near2 h' (loX X B) x0).of_eq fun M => ?_)
    have : (eF (loX X B) M + eF (loX X B) M) / R' M = eF (loX X B) M * (2 * (1 / R' M)) := by
      rw [Rat.div_def, Rat.div_def]; grind
    rw [this]
  have e : m = B + (m - B) := by have := h.bm; omega
  have hto : ∀ (m' : Nat) (a : Int × Int), m' = B + (m - B) → Iv m' a (erfS R' (loX X B)) → Iv B (downI a (m - B)) (erfS R' (loX X B)) := fun m' a hm' ha => by subst hm'; exact Iv.to ha
  exact hto m _ e dv2
/-- e to the power of a whole number below 0 is at most as many halves. -/
theorem ex_halves (n : Nat) : LeN (ex (-(n : Rat))) (fun _ => q2 n) := by
  have one : LeN (ex (-1)) (fun _ => 1 / 2) := by
    have ad := ex_add 1 (-1)
    rw [show (1 : Rat) + -1 = 0 by decide +kernel] at ad
    obtain ⟨N, pos⟩ := ex_pos (-1)
    refine LeN.of_null (ad.bmul (Bdd.const (1 / 2))) (N + 2) fun M hM => ?_
    have p := pos M (by omega)
    have e1 : 1 + 1 ≤ ex 1 M := E_one1 (by grind) (by omega)
    have e0 : ex 0 M = 1 := by
      obtain ⟨m, rfl⟩ : ∃ m, M = m + 1 := ⟨M - 1, by omega⟩
      exact E_zero m
    have m1 := Rat.mul_le_mul_of_nonneg_right e1 p
    rw [e0]
    grind
  induction n with
  | zero =>
    refine LeN.of_le 1 fun M hM => ?_
    have e : -((0 : Nat) : Rat) = 0 := by decide +kernel
    rw [e]
    obtain ⟨m, rfl⟩ : ∃ m, M = m + 1 := ⟨M - 1, by omega⟩
    rw [show ex 0 (m + 1) = 1 from E_zero m]
    show (1 : Rat) ≤ 1
    grind
  | succ n ih =>
    have ec : ((n + 1 : Nat) : Rat) = (n : Rat) + 1 := by push_cast; rfl
    have ad := ex_add (-(n : Rat)) (-1)
    rw [show -(n : Rat) + -1 = -((n + 1 : Nat) : Rat) by rw [ec]; grind] at ad
    obtain ⟨z1, hz1, k1⟩ := ih.null
    obtain ⟨z2, hz2, k2⟩ := one.null
    obtain ⟨N, pos⟩ := ex_pos (-1)
    have b1 := ex_bdd (-1)
    refine LeN.of_null (((hz1.bmul b1).add (hz2.bmul (Bdd.const (q2 n)))).add ad.neg) N fun M hM => ?_
    have p := pos M (by omega)
    have q := q2_pos n
    have m1 := Rat.mul_le_mul_of_nonneg_right (k1 M) p
    have m2 := Rat.mul_le_mul_of_nonneg_left (k2 M) (Rat.le_of_lt q)
    have e2 : q2 (n + 1) = q2 n / 2 := rfl
    rw [e2]
    grind
/-- The error function of a point. -/
def erPt (R : Nat → Rat) (X : Int) (B : Nat) (M : Nat) : Rat := if X < 0 then -erfS R (loX (-X) B) M else erfS R (loX X B) M
/-- What the reference's answer has, but for very little. -/
def RefHas (R : Nat → Rat) (X : Int) (B : Nat) (lo hi : Int) : Prop := LeN (fun _ => (lo : Rat) / (Q B : Rat)) (fun M => erPt R X B M + tau) ∧ LeN (erPt R X B) (fun _ => (hi : Rat) / (Q B : Rat) + tau)
theorem div_QB {B : Nat} {a b : Int} (h : a ≤ b) : (a : Rat) / (Q B : Rat) ≤ (b : Rat) / (Q B : Rat) := rdiv_le (Qr_pos B) (by rw [rdm (Qr_pos B)]; exact cast_le h)
theorem one_QB (B : Nat) : ((Q B : Int) : Rat) / (Q B : Rat) = 1 := by
  have q := Qr_pos B
  rw [Rat.div_def, Rat.mul_inv_cancel _ (by grind)]
theorem leN_const {f g : Nat → Rat} (h : LeN f g) (c : Rat) : LeN (fun M => f M + c) (fun M => g M + c) := h.add (LeN.refl fun _ => c)
/-- A point that is not far. -/
theorem ref_near {R R' : Nat → Rat} (h : RootS piS R) (h' : RootS prS R') {X : Int} {B : Nat} (x0 : 0 ≤ X) {lo hi : Int} (iv : Iv B (lo, hi) (erfS R' (loX X B))) : RefHas R X B (clipL lo) (clipH B hi) := by
  have lx := loX_nonneg (B := B) x0
  obtain ⟨c1, c2⟩ := erf_close h h' lx
  have t0 := tau_pos
  have eP : erPt R X B = erfS R (loX X B) := by funext M; unfold erPt; rw [if_neg (by omega)]
  unfold RefHas
  rw [eP]
  have a1 : LeN (fun _ => (lo : Rat) / (Q B : Rat)) (erfS R' (loX X B)) := fun e he => by
    obtain ⟨N, k⟩ := iv e he
    exact ⟨N, fun M hM => by have := (k M hM).1; simp only [] at this; grind⟩
  have a2 : LeN (erfS R' (loX X B)) (fun _ => (hi : Rat) / (Q B : Rat)) := fun e he => by
    obtain ⟨N, k⟩ := iv e he
    exact ⟨N, fun M hM => (k M hM).2⟩
  constructor
  · unfold clipL
    split
    · refine LeN.of_le 1 fun M hM => ?_
      have := erf_nonneg h lx hM
      have e : ((0 : Int) : Rat) / (Q B : Rat) = 0 := by rw [Rat.div_def]; exact Rat.zero_mul _
      rw [e]; grind
    · exact a1.trans c2
  · unfold clipH
    split
    · rw [one_QB]
      exact (erf_one h lx).trans (LeN.of_le 0 fun M _ => by grind)
    · exact c1.trans (leN_const a2 tau)
/-- A point that is far. -/
theorem ref_far {R : Nat → Rat} (h : RootS piS R) {X : Int} {B : Nat} (x0 : 0 ≤ X) (hf : ((B : Int) + 8) * Q (2 * B) < X * X) : RefHas R X B (Q B - 1) (Q B) := by
  have lx := loX_nonneg (B := B) x0
  have t0 := tau_pos
  have eP : erPt R X B = erfS R (loX X B) := by funext M; unfold erPt; rw [if_neg (by omega)]
  have q := Qr_pos B
  unfold RefHas
  rw [eP]
  constructor
  · have low := erf_low h lx
    -- the square is more than B
    have sqb : (B : Rat) ≤ loX X B * loX X B := by
      rw [← loX_sq]
      refine rle_div (Qr_pos (2 * B)) ?_
      have q2 := Q_pos (2 * B)
      have := cast_le (show (B : Int) * Q (2 * B) ≤ X * X by
        have e : ((B : Int) + 8) * Q (2 * B) = (B : Int) * Q (2 * B) + 8 * Q (2 * B) := by grind
        omega)
      have e : (((B : Int) * Q (2 * B) : Int) : Rat) = (B : Rat) * ((Q (2 * B) : Int) : Rat) := by rw [Rat.intCast_mul]; rfl
      rw [e] at this
      exact this
    have m := (ex_mono (a := -(loX X B * loX X B)) (b := -(B : Rat)) (by grind)).trans (ex_halves B)
    obtain ⟨z, hz, k⟩ := m.null
    refine LeN.trans ?_ (low.trans (LeN.of_le 0 fun M _ => by grind))
    refine LeN.of_null hz 0 fun M _ => ?_
    have a := k M
    have e1 : ((Q B - 1 : Int) : Rat) / (Q B : Rat) = 1 - q2 B := by
      rw [Rat.intCast_sub, rdiv_sub, one_QB]
      congr 1
      have : ∀ n : Nat, ((1 : Int) : Rat) / (Q n : Rat) = q2 n := fun n => by
        induction n with
        | zero => decide +kernel
        | succ n ih =>
          have e : ((Q (n + 1) : Int) : Rat) = 2 * (Q n : Rat) := by
            have : Q (n + 1) = 2 * Q n := rfl
            rw [this, Rat.intCast_mul]; rfl
          have qn := Qr_pos n
          show _ = q2 n / 2
          rw [← ih, e, Rat.div_def, Rat.div_def, Rat.div_def, Rat.inv_mul_rev]
          grind
      exact this B
    rw [e1]
    grind
  · rw [one_QB]
    exact (erf_one h lx).trans (LeN.of_le 0 fun M _ => by grind)
/-- The opposite. -/
theorem ref_neg {R : Nat → Rat} {X : Int} {B : Nat} (x0 : X < 0) {lo hi : Int} (k : RefHas R (-X) B lo hi) : RefHas R X B (subI (0 * Q B, 0 * Q B) (lo, hi)).1 (subI (0 * Q B, 0 * Q B) (lo, hi)).2 := by
  have eP : ∀ M, erPt R X B M = -erPt R (-X) B M := fun M => by unfold erPt; rw [if_pos x0, if_neg (by omega)]
  have e1 : (subI (0 * Q B, 0 * Q B) (lo, hi)).1 = -hi := by show 0 * Q B - hi = -hi; omega
  have e2 : (subI (0 * Q B, 0 * Q B) (lo, hi)).2 = -lo := by show 0 * Q B - lo = -lo; omega
  have n1 : ∀ z : Int, ((-z : Int) : Rat) / (Q B : Rat) = -((z : Rat) / (Q B : Rat)) := fun z => by rw [Rat.intCast_neg, Rat.div_def, Rat.div_def, Rat.neg_mul]
  obtain ⟨k1, k2⟩ := k
  rw [e1, e2]
  unfold RefHas
  constructor
  · intro e he
    obtain ⟨N, h⟩ := k2 e he
    refine ⟨N, fun M hM => ?_⟩
    have t : erPt R (-X) B M ≤ (hi : Rat) / (Q B : Rat) + tau + e := h M hM
    show ((-hi : Int) : Rat) / (Q B : Rat) ≤ erPt R X B M + tau + e
    rw [n1, eP]
    grind
  · intro e he
    obtain ⟨N, h⟩ := k1 e he
    refine ⟨N, fun M hM => ?_⟩
    have t : (lo : Rat) / (Q B : Rat) ≤ erPt R (-X) B M + tau + e := h M hM
    show erPt R X B M ≤ ((-lo : Int) : Rat) / (Q B : Rat) + tau + e
    rw [n1, eP]
    grind
end Go.Proofs.YtgmnknmjainababGreat

namespace Go.Proofs.YtgmnknmjainababGreat
set_option linter.unusedVariables false
open Ex

theorem ref_point {R R' : Nat → Rat} (h : RootS piS R) (h' : RootS prS R') {X : Int} {B : Nat} (x0 : 0 ≤ X) (hB : 24 ≤ B) (hB2 : B ≤ 200) : ∃ lo hi, RefErf X B lo hi ∧ RefHas R X B lo hi := by
  by_cases hf : ((B : Int) + 8) * Q (2 * B) < X * X
  · exact ⟨_, _, refErf_far X B x0 (by omega) hf, ref_far h x0 hf⟩
  · obtain ⟨m, hm⟩ : ∃ m, m = 4 * B + 120 := ⟨_, rfl⟩
    have lo : LoIn X B m := ⟨x0, by omega, by omega, hB, hB2⟩
    obtain ⟨N, n1, n2⟩ := lo_stop lo
    obtain ⟨Np, p1, p2⟩ := pr_stop (m + 16)
    have hN : N ≤ 22 * B + 300 := by
      have e : loE B m = 36 * B + 380 := by unfold loE; omega
      rw [e] at n1
      omega
    exact ⟨_, _, refErf_near X B _ _ x0 (by omega) (by omega) (fun w' x hx => lowErf_iv w' x X B m N Np hx lo hm n2 hN p2 p1 (pr_pos (by omega) p2).1), ref_near h h' x0 (loOut_has h' lo (by omega) n2 p2)⟩
theorem ref_all {R R' : Nat → Rat} (h : RootS piS R) (h' : RootS prS R') (X : Int) {B : Nat} (hB : 24 ≤ B) (hB2 : B ≤ 200) : ∃ lo hi, RefErf2 X B lo hi ∧ RefHas R X B lo hi := by
  by_cases x0 : X < 0
  · obtain ⟨lo, hi, k1, k2⟩ := ref_point h h' (X := -X) (by omega) hB hB2
    exact ⟨_, _, refErf_neg X B lo hi x0 (by omega) k1, ref_neg x0 k2⟩
  · obtain ⟨lo, hi, k1, k2⟩ := ref_point h h' (X := X) (by omega) hB hB2
    exact ⟨_, _, k1.two, k2⟩
theorem erPt_erR (R : Nat → Rat) (X : Int) (B : Nat) : erPt R X B = erR R X (Q B) := by
  funext M
  unfold erPt erR absR loX
  by_cases hx : X < 0
  · rw [if_pos hx, if_pos hx, if_pos hx, Rat.intCast_neg]
  · rw [if_neg hx, if_neg hx, if_neg hx]
/-- Of two whole numbers that lie by less than 1 the wrong way, neither does. -/
theorem int_le {B : Nat} (hB : B ≤ 190) {a c : Int} (h : LeN (fun _ => (a : Rat) / (Q B : Rat)) (fun _ => (c : Rat) / (Q B : Rat) + tau)) : a ≤ c := by
  refine Int.not_lt.1 fun hlt => ?_
  have q := Qr_pos B
  have h1 := div_QB (B := B) (show c + 1 ≤ a by omega)
  rw [Rat.intCast_add, rdiv_add] at h1
  have small : tau + tau ≤ ((1 : Int) : Rat) / (Q B : Rat) := by
    refine rle_div q ?_
    have e : (tau + tau) * (Q B : Rat) = (tau * ((Q 200 : Int) : Rat)) * ((2 * Q B : Int) : Rat) / ((Q 200 : Int) : Rat) := by
      have q2 := Qr_pos 200
      have : tau * ((Q 200 : Int) : Rat) = 1 := rdm q2
      rw [this, Rat.intCast_mul]
      unfold tau
      rw [Rat.div_def, Rat.div_def]
      have e2 : ((2 : Int) : Rat) = 2 := rfl
      rw [e2]; grind
    rw [e, show tau * ((Q 200 : Int) : Rat) = 1 from rdm (Qr_pos 200)]
    refine rdiv_le (Qr_pos 200) ?_
    have := cast_le (show 2 * Q B ≤ Q 200 by
      have h1 := Q_mono (show B + 1 ≤ 200 by omega)
      have h2 : Q (B + 1) = 2 * Q B := rfl
      omega)
    have e1 : ((1 : Int) : Rat) = 1 := rfl
    rw [e1]; grind
  have t0 := tau_pos
  obtain ⟨N, k⟩ := h (tau / 2) (by grind)
  have := k N (Nat.le_refl _)
  simp only [] at this
  grind
theorem leN_lo {B : Nat} {a : Int × Int} {x : Nat → Rat} (h : Iv B a x) : LeN (fun _ => (a.1 : Rat) / (Q B : Rat)) x := fun e he => by
  obtain ⟨N, k⟩ := h e he
  exact ⟨N, fun M hM => by have := (k M hM).1; simp only []; grind⟩
theorem leN_hi {B : Nat} {a : Int × Int} {x : Nat → Rat} (h : Iv B a x) : LeN x (fun _ => (a.2 : Rat) / (Q B : Rat)) := fun e he => by
  obtain ⟨N, k⟩ := h e he
  exact ⟨N, fun M hM => (k M hM).2⟩
theorem up16 (b : Nat) (z : Int) : ((z * Q 16 : Int) : Rat) / ((Q (b + 16) : Int) : Rat) = (z : Rat) / (Q b : Rat) := by
  have q := Qr_pos b
  have q2 := Qr_pos (b + 16)
  have e : ((Q (b + 16) : Int) : Rat) = (Q b : Rat) * ((Q 16 : Int) : Rat) := by rw [Q_add, Rat.intCast_mul]
  have a := rdm (a := (z : Rat)) q
  have c := rdm (a := ((z * Q 16 : Int) : Rat)) q2
  have k : (z : Rat) / (Q b : Rat) * ((Q (b + 16) : Int) : Rat) = ((z * Q 16 : Int) : Rat) := by rw [e, ← Rat.mul_assoc, a, Rat.intCast_mul]
  exact Rat.le_antisymm (Rat.le_of_mul_le_mul_right (by rw [c, k]; exact Rat.le_refl) q2) (Rat.le_of_mul_le_mul_right (by rw [c, k]; exact Rat.le_refl) q2)
theorem one_q2 : ∀ n : Nat, ((1 : Int) : Rat) / (Q n : Rat) = q2 n := fun n => by
  induction n with
  | zero => decide +kernel
  | succ n ih =>
    have e : ((Q (n + 1) : Int) : Rat) = 2 * (Q n : Rat) := by
      have : Q (n + 1) = 2 * Q n := rfl
      rw [this, Rat.intCast_mul]; rfl
    have qn := Qr_pos n
    show _ = q2 n / 2
    rw [← ih, e, Rat.div_def, Rat.div_def, Rat.div_def, Rat.inv_mul_rev]
    grind
theorem tou16 {L H lo hi : Int} (h1 : L * Q 16 ≤ hi) (h2 : lo ≤ H * Q 16) : touB L H 16 lo hi 0 = true := by
  have e0 : Q 0 = 1 := rfl
  unfold touB
  rw [e0]
  simp [h1, h2]
end Go.Proofs.YtgmnknmjainababGreat

namespace Go.Proofs.YtgmnknmjainababGreat
set_option linter.unusedVariables false
open Ex

theorem rt2_ex : ∃ R2, RootS (fun _ => (2 : Rat)) R2 := root_seq (M0 := 0) (fun M _ => by grind) (Bdd.const 2)
theorem half_rt {R2 : Nat → Rat} (h : RootS (fun _ => (2 : Rat)) R2) {c : Rat} (hc : 0 ≤ c) : RtOf (c * c / 2) (fun M => c * (R2 M / 2)) := by
  refine ⟨fun M => Rat.mul_nonneg hc (by have := h.one M; grind), ?_⟩
  refine (h.sq.bmul (Bdd.const (c * c / 4))).of_eq fun M => ?_
  grind
/-- What lies at most at a root's place has at most its square. -/
theorem rt_sq_le {y : Rat} {r : Nat → Rat} (h : RtOf y r) {x : Rat} (hx : 0 ≤ x) (hl : LeN (fun _ => x) r) : x * x ≤ y := by
  refine Rat.not_lt.1 fun hlt => ?_
  have D0 : 0 < 2 * (2 * x + 1) := by grind
  obtain ⟨e, he⟩ : ∃ e, e = (x * x - y) / (2 * (2 * x + 1)) := ⟨_, rfl⟩
  have eD : e * (2 * (2 * x + 1)) = x * x - y := by rw [he]; exact rdm D0
  have e0 : 0 < e := by rw [he]; exact rdiv_pos (by grind) D0
  obtain ⟨N1, k1⟩ := hl e e0
  obtain ⟨N2, k2⟩ := h.sq e e0
  have a := k1 (N1 + N2) (by omega)
  have b := (k2 (N1 + N2) (by omega)).2
  have n := h.nn (N1 + N2)
  simp only [] at a b
  generalize r (N1 + N2) = z at *
  have key : x * x - 2 * (x * e) ≤ z * z := by
    by_cases c : x ≤ e
    · have m := Rat.mul_le_mul_of_nonneg_left c hx
      have := Rat.mul_nonneg n n
      have := Rat.mul_nonneg hx (Rat.le_of_lt e0)
      grind
    · have m1 := Rat.mul_le_mul_of_nonneg_left (show x - e ≤ z by grind) (show 0 ≤ x - e by grind)
      have m2 := Rat.mul_le_mul_of_nonneg_right (show x - e ≤ z by grind) n
      have := Rat.mul_nonneg (Rat.le_of_lt e0) (Rat.le_of_lt e0)
      grind
  have xe := Rat.mul_nonneg hx (Rat.le_of_lt e0)
  grind
theorem rt_sq_ge {y : Rat} {r : Nat → Rat} (h : RtOf y r) {x : Rat} (hl : LeN r (fun _ => x)) : 0 ≤ x ∧ y ≤ x * x := by
  have hx : 0 ≤ x := by
    refine Rat.not_lt.1 fun hlt => ?_
    obtain ⟨N, k⟩ := hl (-x / 2) (by grind)
    have a := k N (Nat.le_refl _)
    have n := h.nn N
    simp only [] at a
    grind
  refine ⟨hx, Rat.not_lt.1 fun hlt => ?_⟩
  have D0 : 0 < 2 * (2 * x + 2) := by grind
  obtain ⟨e1, he1⟩ : ∃ e, e = (y - x * x) / (2 * (2 * x + 2)) := ⟨_, rfl⟩
  have eD : e1 * (2 * (2 * x + 2)) = y - x * x := by rw [he1]; exact rdm D0
  have e10 : 0 < e1 := by rw [he1]; exact rdiv_pos (by grind) D0
  obtain ⟨e, e0, el, eu⟩ : ∃ e : Rat, 0 < e ∧ e ≤ e1 ∧ e ≤ 1 := by
    by_cases c : e1 ≤ 1
    · exact ⟨e1, e10, Rat.le_refl, c⟩
    · exact ⟨1, by grind, by grind, Rat.le_refl⟩
  obtain ⟨N1, k1⟩ := hl e e0
  obtain ⟨N2, k2⟩ := h.sq e e0
  have a := k1 (N1 + N2) (by omega)
  have b := (k2 (N1 + N2) (by omega)).1
  have n := h.nn (N1 + N2)
  simp only [] at a b
  generalize r (N1 + N2) = z at *
  have m1 := Rat.mul_le_mul_of_nonneg_left a n
  have m2 := Rat.mul_le_mul_of_nonneg_right a (show 0 ≤ x + e by grind)
  have m3 := Rat.mul_le_mul_of_nonneg_left eu (Rat.le_of_lt e0)
  have m4 := Rat.mul_le_mul_of_nonneg_right el (show 0 ≤ 2 * (2 * x + 2) by grind)
  grind
theorem absR_nonneg {X : Int} (hx : 0 ≤ X) (q : Int) : absR X q = (X : Rat) / (q : Rat) := by unfold absR; rw [if_neg (by omega)]
/-- A point at or below the root, and one at or above it. -/
theorem lowG {R : Nat → Rat} (hR : RootS piS R) {y : Rat} {r : Nat → Rat} (h : RtOf y r) {X : Int} {B : Nat} (hl : LeN (fun _ => (X : Rat) / (Q B : Rat)) r) : LeN (erR R X (Q B)) (erfG R y r) := by
  by_cases hx : X < 0
  · have e : erR R X (Q B) = fun M => -erfS R (absR X (Q B)) M := by funext M; unfold erR; rw [if_pos hx]
    rw [e]
    refine LeN.of_le 1 fun M hM => ?_
    have a := erfG_nonneg hR h hM
    have b := erf_nonneg hR (absR_ok (p := X) (Q_pos B)).1 hM
    grind
  · have e : erR R X (Q B) = erfS R (absR X (Q B)) := by funext M; unfold erR; rw [if_neg hx]
    have x0 := (absR_ok (p := X) (Q_pos B)).1
    rw [← absR_nonneg (by omega)] at hl
    rw [e]
    exact erfG_ge hR h x0 (rt_sq_le h x0 hl)
theorem upG {R : Nat → Rat} (hR : RootS piS R) {y : Rat} {r : Nat → Rat} (h : RtOf y r) {X : Int} {B : Nat} (hl : LeN r (fun _ => (X : Rat) / (Q B : Rat))) : LeN (erfG R y r) (erR R X (Q B)) := by
  obtain ⟨x0, x1⟩ := rt_sq_ge h hl
  have q := Qr_pos B
  have hx : ¬ X < 0 := fun hn => by
    have : (X : Rat) < 0 := by exact_mod_cast hn
    have m := Rat.mul_nonneg x0 (Rat.le_of_lt q)
    rw [rdm q] at m
    grind
  have e : erR R X (Q B) = erfS R (absR X (Q B)) := by funext M; unfold erR; rw [if_neg hx]
  rw [← absR_nonneg (by omega)] at x0 x1
  rw [e]
  exact erfG_le hR h x0 x1
/-- The error function with its sign, and what the normal law makes of it. -/
def nrE (E : Nat → Rat) (p : Int) (M : Nat) : Rat := if 0 < p then E M else -E M
def nrV (E : Nat → Rat) (p : Int) (M : Nat) : Rat := (1 : Int) / ((2 : Int) : Rat) * (1 + nrE E p M)
theorem leN_opp {f g : Nat → Rat} (h : LeN f g) : LeN (fun M => -g M) (fun M => -f M) := fun e he => by
  obtain ⟨N, k⟩ := h e he
  exact ⟨N, fun M hM => by have := k M hM; simp only []; grind⟩
/-- The root of y is the number without its sign. -/
structure NrAt (p q : Int) (y : Rat) (r sx : Nat → Rat) : Prop where
  rt : RtOf y r
  sg : ∀ M, sx M = if 0 < p then r M else -r M
theorem low_nr {R : Nat → Rat} (hR : RootS piS R) {p q : Int} {y : Rat} {r sx : Nat → Rat} (h : NrAt p q y r sx) {B : Nat} {z : Int × Int} (iv : Iv B z sx) : LeN (erR R z.1 (Q B)) (nrE (erfG R y r) p) ∧ LeN (nrE (erfG R y r) p) (erR R z.2 (Q B)) := by
  have l1 := leN_lo iv
  have l2 := leN_hi iv
  have neg : ∀ X : Int, ((-X : Int) : Rat) / (Q B : Rat) = -((X : Rat) / (Q B : Rat)) := fun X => by rw [Rat.intCast_neg, Rat.div_def, Rat.div_def, Rat.neg_mul]
  by_cases hp : 0 < p
  · have es : sx = r := by funext M; rw [h.sg, if_pos hp]
    have eE : nrE (erfG R y r) p = erfG R y r := by funext M; unfold nrE; rw [if_pos hp]
    rw [es] at l1 l2
    rw [eE]
    exact ⟨lowG hR h.rt l1, upG hR h.rt l2⟩
  · have es : sx = fun M => -r M := by funext M; rw [h.sg, if_neg hp]
    have eE : nrE (erfG R y r) p = fun M => -erfG R y r M := by funext M; unfold nrE; rw [if_neg hp]
    rw [es] at l1 l2
    rw [eE]
    have a1 : LeN r (fun _ => ((-z.1 : Int) : Rat) / (Q B : Rat)) := by
      have := leN_opp l1
      simp only [Rat.neg_neg] at this
      rw [neg]
      exact this
    have a2 : LeN (fun _ => ((-z.2 : Int) : Rat) / (Q B : Rat)) r := by
      have := leN_opp l2
      simp only [Rat.neg_neg] at this
      rw [neg]
      exact this
    have b1 := leN_opp (upG hR h.rt a1)
    have b2 := leN_opp (lowG hR h.rt a2)
    have e1 : (fun M => -erR R (-z.1) (Q B) M) = erR R z.1 (Q B) := by funext M; rw [erR_neg, Rat.neg_neg]
    have e2 : (fun M => -erR R (-z.2) (Q B) M) = erR R z.2 (Q B) := by funext M; rw [erR_neg, Rat.neg_neg]
    rw [e1] at b1
    rw [e2] at b2
    exact ⟨b1, b2⟩
/-- What the reference makes of both ends. -/
def norR (B : Nat) (o1 o2 : Int) : Int × Int := (clipL (byI (addI (1 * Q B, 1 * Q B) (o1, o2)) 1 2).1, clipH B (byI (addI (1 * Q B, 1 * Q B) (o1, o2)) 1 2).2)
theorem byI_ends (a : Int × Int) : (byI a 1 2).1 * 2 ≤ a.1 ∧ a.2 ≤ (byI a 1 2).2 * 2 := by
  have l : leastZ (pr (a.1 * 1) (a.2 * 1)) 1 ≤ a.1 := by simp only [leastZ, pr]; simp; omega
  have m : a.2 ≤ mostZ (pr (a.1 * 1) (a.2 * 1)) 1 := by simp only [mostZ, pr]; simp; omega
  have f1 := dv_floor (leastZ (pr (a.1 * 1) (a.2 * 1)) 1) (show (0 : Int) < 2 by decide)
  have f2 := dv_ceil (mostZ (pr (a.1 * 1) (a.2 * 1)) 1) (show (0 : Int) < 2 by decide)
  unfold byI
  simp only []
  exact ⟨by omega, by omega⟩
theorem half_up {B : Nat} {a o : Int} (h : Q B + o ≤ 2 * a) : (1 : Int) / ((2 : Int) : Rat) * (1 + (o : Rat) / (Q B : Rat)) ≤ (a : Rat) / (Q B : Rat) := by
  have q := Qr_pos B
  refine rle_div q ?_
  have e : (1 : Int) / ((2 : Int) : Rat) * (1 + (o : Rat) / (Q B : Rat)) * (Q B : Rat) = (1 : Int) / ((2 : Int) : Rat) * ((Q B : Rat) + (o : Rat) / (Q B : Rat) * (Q B : Rat)) := by grind
  rw [e, rdm q]
  have c := cast_le h
  rw [Rat.intCast_add, Rat.intCast_mul] at c
  have e2 : ((2 : Int) : Rat) = 2 := rfl
  have e1 : ((1 : Int) : Rat) = 1 := rfl
  rw [e2] at c ⊢
  rw [e1]
  grind
theorem half_dn {B : Nat} {a o : Int} (h : 2 * a ≤ Q B + o) : (a : Rat) / (Q B : Rat) ≤ (1 : Int) / ((2 : Int) : Rat) * (1 + (o : Rat) / (Q B : Rat)) := by
  have q := Qr_pos B
  refine rdiv_le q ?_
  have e : (1 : Int) / ((2 : Int) : Rat) * (1 + (o : Rat) / (Q B : Rat)) * (Q B : Rat) = (1 : Int) / ((2 : Int) : Rat) * ((Q B : Rat) + (o : Rat) / (Q B : Rat) * (Q B : Rat)) := by grind
  rw [e, rdm q]
  have c := cast_le h
  rw [Rat.intCast_add, Rat.intCast_mul] at c
  have e2 : ((2 : Int) : Rat) = 2 := rfl
  have e1 : ((1 : Int) : Rat) = 1 := rfl
  rw [e2] at c ⊢
  rw [e1]
  grind
theorem leN_half {f g : Nat → Rat} (h : LeN f g) : LeN (fun M => (1 : Int) / ((2 : Int) : Rat) * (1 + f M)) (fun M => (1 : Int) / ((2 : Int) : Rat) * (1 + g M)) := fun e he => by
  obtain ⟨N, k⟩ := h e he
  refine ⟨N, fun M hM => ?_⟩
  have := k M hM
  have e2 : ((2 : Int) : Rat) = 2 := rfl
  have e1 : ((1 : Int) : Rat) = 1 := rfl
  simp only [e1, e2]
  grind
/-- The program's touches the reference's. -/
theorem nor_tou {R : Nat → Rat} (hR : RootS piS R) {p q : Int} {y : Rat} {r sx : Nat → Rat} (h : NrAt p q y r sx) {b : Nat} (hb : b ≤ 120) {z : Int × Int} (iv : Iv (b + 16) z sx) {L H lo lo' hi hi' : Int} (v : Iv b (L, H) (nrV (erfG R y r) p)) (hL : L ≤ Q b) (hH : 0 ≤ H) (k1 : RefHas R z.1 (b + 16) lo lo') (k2 : RefHas R z.2 (b + 16) hi' hi) : touB L H 16 (norR (b + 16) lo hi).1 (norR (b + 16) lo hi).2 0 = true := by
  obtain ⟨m1, m2⟩ := low_nr hR h iv
  obtain ⟨b1, b2⟩ := byI_ends (addI (1 * Q (b + 16), 1 * Q (b + 16)) (lo, hi))
  have c1 : 2 * (byI (addI (1 * Q (b + 16), 1 * Q (b + 16)) (lo, hi)) 1 2).1 ≤ Q (b + 16) + lo := by
    have : (addI (1 * Q (b + 16), 1 * Q (b + 16)) (lo, hi)).1 = 1 * Q (b + 16) + lo := rfl
    omega
  have c2 : Q (b + 16) + hi ≤ 2 * (byI (addI (1 * Q (b + 16), 1 * Q (b + 16)) (lo, hi)) 1 2).2 := by
    have : (addI (1 * Q (b + 16), 1 * Q (b + 16)) (lo, hi)).2 = 1 * Q (b + 16) + hi := rfl
    omega
  obtain ⟨a1, a2⟩ := k1
  obtain ⟨d1, d2⟩ := k2
  rw [erPt_erR] at d2
  simp only [erPt_erR] at a1
  have e16 : Q (b + 16) = Q b * Q 16 := Q_add b 16
  have q16 := Q_pos 16
  have t0 := tau_pos
  unfold norR
  generalize (byI (addI (1 * Q (b + 16), 1 * Q (b + 16)) (lo, hi)) 1 2).1 = x1 at *
  generalize (byI (addI (1 * Q (b + 16), 1 * Q (b + 16)) (lo, hi)) 1 2).2 = x2 at *
  refine tou16 ?_ ?_
  · show L * Q 16 ≤ clipH (b + 16) x2
    unfold clipH
    split
    · rw [e16]; exact Int.mul_le_mul_of_nonneg_right hL (by omega)
    · refine int_le (B := b + 16) (by omega) ?_
      rw [up16]
      refine (leN_lo v).trans ((leN_half (m2.trans d2)).trans (LeN.of_le 0 fun M _ => ?_))
      have := half_up c2
      have e2 : ((2 : Int) : Rat) = 2 := rfl
      have e1 : ((1 : Int) : Rat) = 1 := rfl
      rw [e1, e2] at this ⊢
      grind
  · show clipL x1 ≤ H * Q 16
    unfold clipL
    split
    · exact Int.mul_nonneg hH (by omega)
    · refine int_le (B := b + 16) (by omega) ?_
      have s := leN_half (a1.trans (leN_const m1 tau))
      have s2 := leN_const (leN_hi v) tau
      refine LeN.trans ?_ (s.trans (LeN.trans ?_ s2)) |>.trans (LeN.of_le 0 fun M _ => ?_)
      · refine LeN.of_le 0 fun M _ => ?_
        have := half_dn c1
        exact this
      · refine LeN.of_le 0 fun M _ => ?_
        unfold nrV
        have e2 : ((2 : Int) : Rat) = 2 := rfl
        have e1 : ((1 : Int) : Rat) = 1 := rfl
        rw [e1, e2]
        grind
      · rw [up16]
        exact Rat.le_refl
end Go.Proofs.YtgmnknmjainababGreat

namespace Go.Proofs.YtgmnknmjainababGreat
set_option linter.unusedVariables false
open Ex

/-- What every call of wide.Erf answers of two numbers. -/
def ErfN (n d : Int) (B : Nat) (s e : Int) : Prop := ∀ (w' : World) (x y : Nm), IntAt w' x.neg x.a x.n x.cap 8 n → IntAt w' y.neg y.a y.n y.cap 8 d →
  Calls Tryz.prog 94 #[.agg #[.bool x.neg, .slice x.a x.n x.cap], .agg #[.bool y.neg, .slice y.a y.n y.cap], .int .i64 B] w' (SpanAns w' B 3000 s e)
/-- The square of the number, over 2; and its root. -/
def nrY (p q : Int) : Rat := ((p * p : Int) : Rat) / ((q * q * 2 : Int) : Rat)
def nrR (R2 : Nat → Rat) (p q : Int) (M : Nat) : Rat := absR p q * (R2 M / 2)
theorem nrY_eq {p q : Int} (hq : 0 < q) : nrY p q = absR p q * absR p q / 2 := by
  have q0 : (0 : Rat) < ((q * q : Int) : Rat) := by exact_mod_cast Int.mul_pos hq hq
  have q2 : (0 : Rat) < ((q * q * 2 : Int) : Rat) := by exact_mod_cast (show 0 < q * q * 2 by have := Int.mul_pos hq hq; omega)
  have e := (absR_ok (p := p) hq).2
  have r := rdm (a := ((p * p : Int) : Rat)) q2
  unfold nrY
  have e2 : ((q * q * 2 : Int) : Rat) = ((q * q : Int) : Rat) * 2 := by rw [Rat.intCast_mul (q * q) 2]; rfl
  have k : absR p q * absR p q / 2 * ((q * q * 2 : Int) : Rat) = ((p * p : Int) : Rat) := by rw [e2, ← e]; grind
  exact Rat.le_antisymm (Rat.le_of_mul_le_mul_right (by rw [r, k]; exact Rat.le_refl) q2) (Rat.le_of_mul_le_mul_right (by rw [r, k]; exact Rat.le_refl) q2)
theorem nr_rt {R2 : Nat → Rat} (h2 : RootS (fun _ => (2 : Rat)) R2) {p q : Int} (hq : 0 < q) : RtOf (nrY p q) (nrR R2 p q) := by
  rw [nrY_eq hq]
  exact half_rt h2 (absR_ok (p := p) hq).1
theorem sq_pos {p : Int} (hp : p ≠ 0) : 1 ≤ p * p := by
  rcases Int.lt_or_gt_of_ne hp with h | h
  · have := Int.mul_pos (show 0 < -p by omega) (show 0 < -p by omega)
    have e : -p * -p = p * p := by grind
    omega
  · have := Int.mul_pos h h; omega
theorem nor_in {R2 : Nat → Rat} (h2 : RootS (fun _ => (2 : Rat)) R2) {p q : Int} (hr : rok p q) (h : p * p < 152 * (q * q * 2)) : ErIn (p * p) (q * q * 2) (nrR R2 p q) := by
  obtain ⟨r1, r2, r3, r4⟩ := hr
  have q0 : 0 < q * q := Int.mul_pos (by omega) (by omega)
  have p0 := sq_bd r1 r2
  refine ⟨p0.1, by omega, nr_rt h2 (by omega), h, ?_⟩
  by_cases hp : p = 0
  · exact Or.inl (by rw [hp]; rfl)
  · refine Or.inr ?_
    have h1 := sq_pos hp
    have h2 := Int.mul_le_mul r4 r4 (by omega) (by omega)
    omega
/-- What is made of a number that is not far. -/
def NoCore (E : Nat → Rat) (B : Nat) (s e : Int) : Prop := Iv B (s, e) E ∧ 0 ≤ s ∧ s ≤ e ∧ e ≤ Q B ∧ e - s ≤ Q 4500
theorem nor_near {R R2 : Nat → Rat} (hR : RootS piS R) (h2 : RootS (fun _ => (2 : Rat)) R2) {p q : Int} (hr : rok p q) (h : p * p < 152 * (q * q * 2)) {B : Nat} (hB : 40 ≤ B) (hB2 : B ≤ 10000) (hlt : p * p < q * q * 2 * (B : Int)) : ∃ s e, ErfN (p * p) (q * q * 2) B s e ∧ NoCore (erfG R (nrY p q) (nrR R2 p q)) B s e := by
  have hin := nor_in h2 hr h
  obtain ⟨M, hM, hM2⟩ := erT_set hin B
  obtain ⟨l, t, N, e1, e2, e3, e4, e5⟩ := erX_set hin hB
  obtain ⟨N5, h5⟩ := ag_stop (m := 5) (by omega) (show 2 ≤ B by omega)
  obtain ⟨N9, h9⟩ := ag_stop (m := 239) (by omega) (show 2 ≤ B by omega)
  refine ⟨_, _, fun w' x y hx hy => erf_iv w' x y (p * p) (q * q * 2) B hx hy hB hB2 (nrR R2 p q) M t N N5 N9 l hin hlt hM hM2 e1 e2 e3 e4 e5 h5 h9, ?_⟩
  exact erf_ok hR hin hB hB2 hM hM2 e3 e4 e5 h5 h9
theorem nor_farN {p q : Int} {B : Nat} (hB : 40 ≤ B) (hB2 : B ≤ 10000) (h : q * q * 2 * (B : Int) ≤ p * p) : ErfN (p * p) (q * q * 2) B (Q B - 1) (Q B) := fun w' x y hx hy =>
  (erf_far w' x y (p * p) (q * q * 2) B hx hy hB hB2 h).mono fun r w'' ⟨s, e1, e2, e3, e4⟩ => ⟨s, e1, e2, e3.mono (by omega), e4⟩
/-- What wide.Normal makes of it. -/
def oppP (p : Int) (a : Int × Int) : Int × Int := if 0 < p then (-a.2, -a.1) else a
def norI (B : Nat) (p : Int) (a : Int × Int) : Int × Int := scaleI (restI B (oppP p a)) 1 2
theorem norI_ends (B : Nat) (p s e : Int) : (norI B p (s, e)).1 = (if 0 < p then (Q B + s) / 2 else (Q B - e) / 2) ∧ (norI B p (s, e)).2 = (if 0 < p then -(-(Q B + e) / 2) else -(-(Q B - s) / 2)) := by
  unfold norI scaleI restI oppP
  by_cases hp : 0 < p
  · rw [if_pos hp, if_pos hp, if_pos hp]
    simp only [Int.mul_one, Int.sub_neg, and_self]
  · rw [if_neg hp, if_neg hp, if_neg hp]
    simp only [Int.mul_one, and_self]
theorem norI_ok {B : Nat} {p s e : Int} (h0 : 0 ≤ s) (h1 : s ≤ e) (h2 : e ≤ Q B) (h3 : e - s ≤ Q 4500) : (norI B p (s, e)).1 ≤ (norI B p (s, e)).2 ∧ 0 ≤ (norI B p (s, e)).1 ∧ (norI B p (s, e)).2 ≤ Q B ∧ (norI B p (s, e)).2 - (norI B p (s, e)).1 ≤ Q 4500 := by
  obtain ⟨e1, e2⟩ := norI_ends B p s e
  have q := Q_pos B
  have q4 : 4 ≤ Q 4500 := by have := Q_mono (show 2 ≤ 4500 by omega); have : Q 2 = 4 := rfl; omega
  rw [e1, e2]
  clear e1 e2
  generalize Q 4500 = z at *
  by_cases hp : 0 < p
  · rw [if_pos hp, if_pos hp]; omega
  · rw [if_neg hp, if_neg hp]; omega
theorem norI_iv {B : Nat} {p : Int} {a : Int × Int} {E : Nat → Rat} (h : Iv B a E) : Iv B (norI B p a) (nrV E p) := by
  unfold norI
  have k : Iv B (restI B (oppP p a)) (fun M => 1 + nrE E p M) := by
    unfold oppP nrE
    by_cases hp : 0 < p
    · rw [if_pos hp]
      exact Has.of_eq (rest_has h.opp) fun M => by rw [if_pos hp]; grind
    · rw [if_neg hp]
      exact Has.of_eq (rest_has h) fun M => by rw [if_neg hp]; grind
  exact k.scale (n := 1) (d := 2) (by decide) (by decide)
def NoPr (E : Nat → Rat) (p : Int) (B : Nat) (lo hi : Int) : Prop := ∃ s e, NoCore E B s e ∧ lo = (norI B p (s, e)).1 ∧ hi = (norI B p (s, e)).2
theorem no_ends (E : Nat → Rat) (p : Int) {bits : Nat} (hb : bits ≤ 120) : SureEnds bits 4500 (NoPr E p) := fun m lo hi ⟨s, e, ⟨c1, c2, c3, c4, c5⟩, e1, e2⟩ => by
  obtain ⟨g1, g2, g3, g4⟩ := norI_ok (p := p) (B := bits + m) c2 c3 c4 c5
  rw [← e1, ← e2] at g1 g4
  rw [← e1] at g2
  rw [← e2] at g3
  have q := Q_pos (bits + m)
  have b1 := big_Q (z := -lo) hb (show -lo ≤ 2 * Q (bits + m) by omega)
  have b2 := big_Q (z := hi) hb (show hi ≤ 2 * Q (bits + m) by omega)
  exact ⟨g1, g4, by omega, b2⟩
/-- What Normal answers. -/
structure NoV (V : Nat → Rat) (b : Nat) (L H : Int) : Prop where
  le : L ≤ H
  lo : 0 ≤ L
  hi : H ≤ Q b
  nar : narB L H (Q b) 4 = true
  val : Iv b (L, H) V
theorem sure_no {E : Nat → Rat} {p : Int} {b : Nat} {L H : Int} (h : SureOf b (NoPr E p) L H) : NoV (nrV E p) b L H := by
  obtain ⟨m, lo, hi, ⟨s, e, ⟨c1, c2, c3, c4, c5⟩, f1, f2⟩, hm, e1, e2, h6⟩ := h
  obtain ⟨g1, g2, g3, g4⟩ := norI_ok (p := p) (B := b + m) c2 c3 c4 c5
  rw [← f1, ← f2] at g1
  rw [← f1] at g2
  rw [← f2] at g3
  obtain ⟨n1, n2⟩ := sure_nar g1 e1 e2 h6
  have iv := norI_iv (p := p) c1
  rw [show norI (b + m) p (s, e) = (lo, hi) by rw [f1, f2]] at iv
  have q0 := Q_pos m
  have qb := Q_pos b
  have e3 : Q (b + m) = Q b * Q m := Q_add b m
  have r2 := round_abs (x := hi) (m := Q b) (q := Q m) (by omega) (by omega) (by omega)
  refine ⟨n1, by rw [e1]; exact Int.ediv_nonneg (by omega) (by omega), by rw [e2]; exact r2.2.2.2, n2, ?_⟩
  have := Iv.to (B := b) (m := m) iv
  rw [e1, e2]; exact this
/-- Far away: as it comes at the first try. -/
def farN (p : Int) (b : Nat) : Int × Int := if 0 < p then (Q b - 1, Q b) else (0, 1)
theorem far_no (p : Int) (b : Nat) : (farN p b).1 = (norI (b + 32) p (Q (b + 32) - 1, Q (b + 32))).1 / Q 32 ∧ (farN p b).2 = -(-(norI (b + 32) p (Q (b + 32) - 1, Q (b + 32))).2 / Q 32) := by
  have q := Q_pos 32
  have e : Q (b + 32) = Q b * Q 32 := Q_add b 32
  obtain ⟨e1, e2⟩ := norI_ends (b + 32) p (Q (b + 32) - 1) (Q (b + 32))
  rw [e1, e2]
  unfold farN
  by_cases hp : 0 < p
  · rw [if_pos hp, if_pos hp, if_pos hp]
    have g1 : (Q (b + 32) + (Q (b + 32) - 1)) / 2 = Q (b + 32) - 1 := by omega
    have g2 : -(-(Q (b + 32) + Q (b + 32)) / 2) = Q (b + 32) := by omega
    rw [g1, g2, e]
    have q1 : 1 ≤ Q 32 := q
    refine ⟨?_, ?_⟩
    · show Q b - 1 = (Q b * Q 32 - 1) / Q 32
      have a := Int.le_ediv_of_mul_le q (show (Q b - 1) * Q 32 ≤ Q b * Q 32 - 1 by have : (Q b - 1) * Q 32 = Q b * Q 32 - Q 32 := by grind
                                                                                   omega)
      have c := Int.ediv_lt_of_lt_mul q (show Q b * Q 32 - 1 < Q b * Q 32 by omega)
      omega
    · show Q b = -(-(Q b * Q 32) / Q 32)
      rw [← Int.neg_mul, Int.mul_ediv_cancel _ (by omega)]; omega
  · rw [if_neg hp, if_neg hp, if_neg hp]
    have g1 : (Q (b + 32) - Q (b + 32)) / 2 = 0 := by omega
    have g2 : -(-(Q (b + 32) - (Q (b + 32) - 1)) / 2) = 1 := by omega
    rw [g1, g2]
    refine ⟨by show (0 : Int) = 0 / Q 32; simp, ?_⟩
    show (1 : Int) = -(-1 / Q 32)
    have a := Int.le_ediv_of_mul_le q (show -1 * Q 32 ≤ -1 by omega)
    have c := Int.ediv_lt_of_lt_mul q (show -1 < 0 * Q 32 by omega)
    omega
/-- What is left up to 1 is little. -/
theorem low_one {R : Nat → Rat} (hR : RootS piS R) {y : Rat} {r : Nat → Rat} (h : RtOf y r) {b : Nat} (hy : (b : Rat) + 32 ≤ y) : LeN (fun _ => 1 - q2 b) (erfG R y r) := by
  have y0 := h.y0
  obtain ⟨k, hk⟩ := rat_nat (2 * y + 3)
  obtain ⟨s, s0, s1, s2⟩ := root0 y y0 k
  have k0 : (0 : Rat) < (k : Rat) + 1 := pos1 k
  have um := rdm (a := 1) k0
  have u0 : (0 : Rat) ≤ 1 / ((k : Rat) + 1) := rle_div k0 (by grind)
  have kk : (0 : Rat) ≤ (k : Rat) := by exact_mod_cast Nat.zero_le k
  obtain ⟨u, hu⟩ : ∃ u, u = 1 / ((k : Rat) + 1) := ⟨_, rfl⟩
  rw [← hu] at s2 um u0
  have u1 : u ≤ 1 := by have := Rat.mul_nonneg u0 kk; grind
  have st := sq_step s0 s1 u0 u1
  have m := Rat.mul_le_mul_of_nonneg_right hk.2 u0
  have sb : (b : Rat) ≤ s * s := by grind
  have low := erf_low hR s0
  have ml := (ex_mono (a := -(s * s)) (b := -(b : Rat)) (by grind)).trans (ex_halves b)
  refine LeN.trans ?_ (low.trans (erfG_ge hR h s0 s1))
  obtain ⟨z, hz, kz⟩ := ml.null
  refine LeN.of_null hz 0 fun M _ => ?_
  have := kz M
  grind
theorem far_noV {R R2 : Nat → Rat} (hR : RootS piS R) (h2 : RootS (fun _ => (2 : Rat)) R2) {p q : Int} (hq : 0 < q) {b : Nat} (h : q * q * 2 * ((b : Int) + 32) ≤ p * p) : NoV (nrV (erfG R (nrY p q) (nrR R2 p q)) p) b (farN p b).1 (farN p b).2 := by
  have q0 : 0 < q * q := Int.mul_pos hq hq
  have yb : (b : Rat) + 32 ≤ nrY p q := by
    have q2 : (0 : Rat) < ((q * q * 2 : Int) : Rat) := by exact_mod_cast (show 0 < q * q * 2 by omega)
    refine rle_div q2 ?_
    have c := cast_le h
    rw [Rat.intCast_mul, Rat.intCast_add] at c
    have e1 : ((b : Int) : Rat) = (b : Rat) := rfl
    have e2 : ((32 : Int) : Rat) = 32 := rfl
    rw [e1, e2] at c
    grind
  have rt := nr_rt h2 (p := p) hq
  have lo := low_one hR rt yb
  have one := erfG_one hR rt
  have qb := Q_pos b
  have qr := Qr_pos b
  have f : (farN p b).2 - (farN p b).1 = 1 ∧ 0 ≤ (farN p b).1 ∧ (farN p b).2 ≤ Q b := by
    unfold farN
    by_cases hp : 0 < p
    · rw [if_pos hp]; exact ⟨by simp only []; omega, by simp only []; omega, by simp only []; omega⟩
    · rw [if_neg hp]; exact ⟨by simp only []; omega, by simp only []; omega, by simp only []; omega⟩
  refine ⟨by omega, f.2.1, f.2.2, narB_small (by omega) (by omega), ?_⟩
  have qp := q2_pos b
  intro e he
  obtain ⟨N1, k1⟩ := lo e he
  obtain ⟨N2, k2⟩ := one e he
  refine ⟨N1 + N2, fun M hM => ?_⟩
  have a1 := k1 M (by omega)
  have a2 := k2 M (by omega)
  simp only [] at a1 a2
  have o1 := one_QB b
  have o2 := one_q2 b
  have e2 : ((2 : Int) : Rat) = 2 := rfl
  have e1 : ((1 : Int) : Rat) = 1 := rfl
  unfold farN nrV nrE
  by_cases hp : 0 < p
  · rw [if_pos hp, if_pos hp]
    simp only []
    rw [Rat.intCast_sub, rdiv_sub, o1, o2, e1, e2]
    exact ⟨by grind, by grind⟩
  · rw [if_neg hp, if_neg hp]
    simp only []
    have z : ((0 : Int) : Rat) / (Q b : Rat) = 0 := by rw [Rat.div_def]; exact Rat.zero_mul _
    rw [z, o2, e1, e2]
    exact ⟨by grind, by grind⟩
/-- The reference's number is the same. -/
theorem nr_at {R2 : Nat → Rat} (h2 : RootS (fun _ => (2 : Rat)) R2) {p q : Int} (hq : 0 < q) : NrAt p q (nrY p q) (nrR R2 p q) (fun M => (p : Rat) / (q : Rat) * (R2 M / 2)) := by
  refine ⟨nr_rt h2 hq, fun M => ?_⟩
  unfold nrR absR
  by_cases hp : 0 < p
  · rw [if_pos hp, if_neg (by omega)]
  · rw [if_neg hp]
    by_cases hn : p < 0
    · have d : -(p : Rat) / (q : Rat) = -((p : Rat) / (q : Rat)) := by rw [Rat.div_def, Rat.div_def, Rat.neg_mul]
      rw [if_pos hn, d]
      generalize (p : Rat) / (q : Rat) = t
      grind
    · have : p = 0 := by omega
      subst this
      rw [if_neg (by omega)]
      have z : ((0 : Int) : Rat) / (q : Rat) = 0 := by rw [Rat.div_def]; exact Rat.zero_mul _
      rw [z]; grind
theorem ref_sx {R2 : Nat → Rat} (h2 : RootS (fun _ => (2 : Rat)) R2) {p q : Int} (hq : 0 < q) (B : Nat) : Iv B (mulI B (ofI p q B) (rootI B (ofI 1 2 B))) (fun M => (p : Rat) / (q : Rat) * (R2 M / 2)) := by
  have hr : RtOf ((1 : Int) / ((2 : Int) : Rat)) (fun M => R2 M / 2) := by
    have := half_rt h2 (c := 1) (by grind)
    have e : (fun M => (1 : Rat) * (R2 M / 2)) = fun M => R2 M / 2 := by funext M; grind
    rw [e] at this
    have e2 : ((1 : Int) / ((2 : Int) : Rat)) = 1 * 1 / 2 := by have e2 : ((2 : Int) : Rat) = 2 := rfl
                                                                have e1 : ((1 : Int) : Rat) = 1 := rfl
                                                                rw [e1, e2]; grind
    rw [e2]
    exact this
  have q0 := Q_pos B
  have a0 : 0 ≤ (ofI 1 2 B).1 := Int.ediv_nonneg (by omega) (by decide)
  have al := ofI_le (n := 1) (d := 2) (by decide) B
  obtain ⟨r0, r1, r2, r3⟩ := rootI_bounds (B := B) a0 al
  exact (Iv.of B (n := p) hq).mul (root_rtS hr (Iv.of B (n := 1) (d := 2) (by decide)) r0 r2 (by show 0 ≤ (rootI B (ofI 1 2 B)).2; omega) r3)
end Go.Proofs.YtgmnknmjainababGreat

namespace Go.Proofs.YtgmnknmjainababGreat
set_option linter.unusedVariables false
set_option linter.unusedSimpArgs false
set_option linter.unnecessarySimpa false
open Go.RowKit
attribute [local go_sem ↓] Go.wp_at_zero Go.wp_at_succ

theorem TwoP.drew {W wx : World} {b k1 k2 : Nat} {a c : Int × Int} {p q : Value} (h : TwoP W wx b k1 k2 a c p q) : TwoP W wx.drew b k1 k2 a c p q := by
  obtain ⟨B, B', x, y, h1, h2, h3, h4, h5, h6, h7, h8, h9, h10, h11, h12⟩ := h
  have hd : Below wx.heap.size wx wx.drew := (Below.refl _ _).drew
  exact ⟨B, B', x, y, h1, h2, h3, h4, h5, h6.below hd, h7.below hd, h8.below hd, h9.below hd, h10, h11, bthen h12 hd⟩
/-- Where tailsureref.nearLog is behind some rounds. -/
structure NearSt (w wr : World) (B5 B6 b K : Nat) (zz Pp Sm : Sp) (a pv sv : Int × Int) : Prop where
  z : SpC wr w.heap.size zz
  p : VrC wr B5 Pp
  s : VrC wr B6 Sm
  zp : SpAt wr zz K a.1 a.2
  pp : SpAt wr Pp K pv.1 pv.2
  sp : SpAt wr Sm K sv.1 sv.2
  pb : Pp.bits = (b : Int)
  sb : Sm.bits = (b : Int)
  no : NoC wr (w.heap.size + 1)
  be : Below w.heap.size w wr
  l1 : B5 ≠ w.heap.size + 1
  l2 : B6 ≠ w.heap.size + 1
  m1 : B5 ≠ w.heap.size
  m2 : B6 ≠ w.heap.size
  k1 : w.heap.size ≤ B5
  k2 : w.heap.size ≤ B6
  n : B5 ≠ B6
theorem NearSt.below {w wr wr' : World} {B5 B6 b K : Nat} {z Pp Sm : Sp} {a p s : Int × Int} (h : NearSt w wr B5 B6 b K z Pp Sm a p s) (hb : Below wr.heap.size wr wr') : NearSt w wr' B5 B6 b K z Pp Sm a p s :=
  ⟨h.z.below hb, h.p.below hb, h.s.below hb, h.zp.below hb, h.pp.below hb, h.sp.below hb, h.pb, h.sb, h.no.below hb, bthen h.be hb, h.l1, h.l2, h.m1, h.m2, h.k1, h.k2, h.n⟩

end Go.Proofs.YtgmnknmjainababGreat

namespace Go.Proofs.YtgmnknmjainababGreat
set_option linter.unusedVariables false
set_option linter.unusedSimpArgs false
set_option linter.unnecessarySimpa false
open Go.RowKit
attribute [local go_sem ↓] Go.wp_at_zero Go.wp_at_succ

/-- Where tailsureref.rootLog is behind some rounds. -/
structure RootSt (w wr : World) (b K i : Nat) (l : Nat → Rat) (ss : Sp) (a : Int × Int) : Prop where
  s : VrC wr w.heap.size ss
  sp : SpAt wr ss K a.1 a.2
  sb : ss.bits = (b : Int)
  iv : RInv b l i a
  no : NoC wr (w.heap.size + 1)
  be : Below w.heap.size w wr

theorem RootSt.below {w wr wr' : World} {b K i : Nat} {l : Nat → Rat} {ss : Sp} {a : Int × Int} (h : RootSt w wr b K i l ss a) (hb : Below wr.heap.size wr wr') : RootSt w wr' b K i l ss a :=
  ⟨h.s.below hb, h.sp.below hb, h.sb, h.iv, h.no.below hb, bthen h.be hb⟩

end Go.Proofs.YtgmnknmjainababGreat
