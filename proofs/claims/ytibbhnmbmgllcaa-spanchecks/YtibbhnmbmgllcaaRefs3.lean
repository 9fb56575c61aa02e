/-
  What tailsureref.Ratio answers, and that it leaves old memory alone.
-/
import Derived.Test.YtibbhnmbmgllcaaRefs2
namespace Go.Proofs.Ytibbhnmbmgllcaa
set_option linter.unusedVariables false
set_option linter.unusedSimpArgs false
set_option linter.unnecessarySimpa false
open Go.RowKit
attribute [local go_sem ↓] Go.wp_at_zero Go.wp_at_succ

theorem noi_new (w : World) (T : TypeId) : NoI (w.alloc (.cells #[.bool false, .slice none 0 0] T)) w.heap.size := ⟨by simp, by simp, fun o => by simp [go_sem]⟩

set_option maxRecDepth 100000 in
set_option maxHeartbeats 4000000 in
theorem refRatio_core (neg neg2 : Bool) (a c : Option Addr) (n m cap cap2 k k2 b : Nat) (x y : Int) (w : World) (h1 : IntAt w neg a n cap k x) (h2 : IntAt w neg2 c m cap2 k2 y) (hk : k ≤ 600000000) (hk2 : k2 ≤ 100000000) (hb : b ≤ 100000) (hy : 0 < y)
    (hfl : ∀ neg' a' n' cap' w', IntAt w' neg' a' n' cap' (k + b / 16 + 5) (x * Q b) → IntAt w' neg2 c m cap2 k2 y → Calls Try.prog 103 #[.agg #[.bool neg', .slice a' n' cap'], .agg #[.bool neg2, .slice c m cap2]] w' (FloorAns w' (k + b / 16 + 5) (x * Q b / y))) :
    Calls Try.prog 78 #[.agg #[.bool neg, .slice a n cap], .agg #[.bool neg2, .slice c m cap2], .int .i64 b] w (SpanAns w b (k + b / 16 + 14) (x * Q b / y) (-(-(x * Q b) / y))) := by
  have HF := hide hfl
  clear hfl
  obtain ⟨W, hW⟩ : ∃ W, W = ((w.alloc (.cells #[.bool neg, .slice a n cap] 24)).alloc (.cells #[.bool neg2, .slice c m cap2] 24)).alloc (.cells #[.bool false, .slice none 0 0, .bool false, .slice none 0 0, .int .i64 0] 38) := ⟨_, rfl⟩
  have hBW : Below w.heap.size w W := by rw [hW]; exact bl3 _ _ _ _
  have A : NmC W w.heap.size ⟨neg, a, n, cap⟩ := by rw [hW]; exact ⟨by simp [go_sem], by simp [go_sem]⟩
  have G : NmC W (w.heap.size + 1) ⟨neg2, c, m, cap2⟩ := by rw [hW]; exact ⟨by simp [go_sem], by simp [go_sem]⟩
  have R : NoC W (w.heap.size + 1 + 1) := by rw [hW]; exact ⟨by simp [go_sem], by simp [go_sem], by simp [go_sem], by simp [go_sem], by simp [go_sem], fun o => by simp [go_sem]⟩
  have HX := hide (h1.below hBW)
  have HY := hide (h2.below hBW)
  have HK := hide (show ∀ w', Below W.heap.size W w' → (w'.cell? ⟨w.heap.size, 0, none⟩ = some (.bool neg) ∧ w'.cell? ⟨w.heap.size, 1, none⟩ = some (.slice a n cap)) from fun w' hB => ⟨(A.below hB).c0, (A.below hB).c1⟩)
  go_enter Try.func78, Try.ntmps78
  go_wp2
  rw [← hW]
  clear hW
  obtain ⟨i0, i1⟩ := A
  have lW := G.lt
  have lR := R.lt
  go_cut [7] (fun p wx => VarAt wx p W.heap.size (k + b / 16 + 5) (x * Q b) ∧ Below W.heap.size W wx)
  case first =>
    go_region_held3 (fun w' => w'.cell? ⟨w.heap.size, 0, none⟩ = some (.bool neg) ∧ w'.cell? ⟨w.heap.size, 1, none⟩ = some (.slice a n cap)) (exact unhide HK _ (by repeat' (first | with_reducible exact hBX2 | with_reducible exact hBX1 | with_reducible exact Below.refl _ _ | with_reducible refine Below.drew ?_ | with_reducible refine balloc ?_ _ | with_reducible refine Below.setCell ?_ (by first | exact Nat.le_refl _ | exact hlX1 | exact hlX2) _)))
      (first
        | (go_at_call 52; have hq := hBX1; refine (mul_int _ _ _ _ _ _ _ _ k (b / 16 + 5) x (Q b) _ ((unhide HX).below (by first | with_reducible exact hBX1 | with_reducible exact balloc hBX1 _)) (hintX1.below (by first | with_reducible exact Below.refl _ _ | with_reducible exact bl1 _ _)) (by omega) (by omega)).mono ?_; rintro r wX2 ⟨negX2, aX2, nX2, cX2, rfl, hintX2, hbX2⟩; have hCX2 : Below wX1.heap.size wX1 wX2 := (by first | with_reducible exact hbX2 | with_reducible exact bthen (bl1 _ _) hbX2); have hBX2 := bthen hBX1 hCX2; (try with_reducible have gX2 := (noi_new wX1 24).below hbX2); replace hintX1 := hintX1.below hCX2; (try replace gX1 := gX1.below hCX2); have hlX2 := hBX2.size; (try have mX1 := gX1.lt); (try have eX1 := Nat.ne_of_lt mX1); (try have eX1' := Nat.ne_of_gt mX1); (try obtain ⟨zX10, zX11, zX12⟩ := gX1); (try have mX2 := gX2.lt); (try have eX2 := Nat.ne_of_lt mX2); (try have eX2' := Nat.ne_of_gt mX2); (try obtain ⟨zX20, zX21, zX22⟩ := gX2))
        | (go_at_call 51; refine (power2_int b _ (by omega)).mono ?_; rintro r wX1 ⟨negX1, aX1, nX1, cX1, rfl, hintX1, hbX1⟩; have hBX1 : Below W.heap.size W wX1 := (by first | with_reducible exact bthen (Below.refl _ _).drew hbX1 | with_reducible exact bthen (bl1 _ _).drew hbX1); (try with_reducible have gX1 := ((noi_new W 24).below (Below.refl _ _).drew).below hbX1); have hlX1 := hBX1.size))
    all_goals
      go_wp2_with fail
      go_meet
      refine ⟨⟨_, ⟨negX2, aX2, nX2, cX2⟩, rfl, ?_, ?_, ?_, ?_, ?_⟩, ?_⟩
      · simp [go_sem, *]
      · simp [go_sem, *]
      · first | with_reducible exact IntAt.mono (hintX2.below (bl1 _ _)) (by omega) | with_reducible exact IntAt.mono (hintX2.put2 (by assumption) (by assumption) _ _) (by omega)
      · first | exact Nat.le_refl _ | exact hlX1 | exact hlX2
      · simp [World.setCell]; try omega
      · repeat' (first | with_reducible exact hBX2 | with_reducible exact hBX1 | with_reducible exact Below.refl _ _ | with_reducible refine Below.drew ?_ | with_reducible refine balloc ?_ _ | with_reducible refine Below.setCell ?_ (by first | exact Nat.le_refl _ | exact hlX1 | exact hlX2) _)
  case rest =>
  obtain ⟨⟨BX, xX, rfl, jX0, jX1, hintX, hHX, hltX⟩, hblX⟩ := hcut
  have XX : NmC wc BX xX := ⟨jX0, jX1⟩
  clear i0 i1 HK
  replace G := G.below hblX
  replace R := R.below hblX
  replace HY := hide ((unhide HY).below hblX)
  replace hintX := hide hintX
  have lR2 := R.lt
  have lX2 := XX.lt
  have nR : BX ≠ w.heap.size + 1 + 1 := Nat.ne_of_gt (Nat.lt_of_lt_of_le lR hHX)
  have nR' : w.heap.size + 1 + 1 ≠ BX := fun e => nR e.symm
  have hBW2 := bthen hBW hblX
  have hD0 : Below wc.heap.size wc wc.drew := (Below.refl _ _).drew
  have HK := hide (show ∀ w', Below wc.heap.size wc w' → (w'.cell? ⟨BX, 0, none⟩ = some (.bool xX.neg) ∧ w'.cell? ⟨BX, 1, none⟩ = some (.slice xX.a xX.n xX.cap) ∧ w'.cell? ⟨w.heap.size + 1, 0, none⟩ = some (.bool neg2) ∧ w'.cell? ⟨w.heap.size + 1, 1, none⟩ = some (.slice c m cap2)) from fun w' hB => ⟨(XX.below hB).c0, (XX.below hB).c1, (G.below hB).c0, (G.below hB).c1⟩)
  obtain ⟨i2, i3⟩ := G
  go_wp2
  go_region_held3 (fun w' => w'.cell? ⟨BX, 0, none⟩ = some (.bool xX.neg) ∧ w'.cell? ⟨BX, 1, none⟩ = some (.slice xX.a xX.n xX.cap) ∧ w'.cell? ⟨w.heap.size + 1, 0, none⟩ = some (.bool neg2) ∧ w'.cell? ⟨w.heap.size + 1, 1, none⟩ = some (.slice c m cap2)) (first | exact unhide HK _ (by first | with_reducible exact hD0 | with_reducible exact hD2 | with_reducible exact hD1) | go_keep)
    (first
      | (go_at_call 99; refine (refDown_core _ _ _ _ _ _ _ _ (k + b / 16 + 5) k2 (x * Q b) y _ ((unhide hintX).below hD0) ((unhide HY).below hD0) (by omega) (by omega) (fun w' p q => unhide HF _ _ _ _ w' p q)).mono ?_; rintro r w1 ⟨neg1, a1, n1, c1, rfl, hint1, hb1⟩; have hD1 := bthen hD0 hb1)
      | (go_at_call 100; refine (refUp_core _ _ _ _ _ _ _ _ (k + b / 16 + 5) k2 (x * Q b) y _ ((unhide hintX).below hD1) ((unhide HY).below hD1) (by omega) (by omega) hy (fun w' p q => unhide HF _ _ _ _ w' p q)).mono ?_; rintro r w2 ⟨neg3, a3, n3, c3, rfl, hint3, hb2⟩; replace hint1 := hint1.below hb2; have hD2 := bthen hD1 hb2; obtain ⟨q0, q1, q2, q3, q4, q5⟩ := R.below hD2; obtain ⟨d0, d1, d2, d3⟩ := unhide HK _ hD2))
  go_wp2
  refine bodyPost_ret (v := .agg #[.bool neg1, .slice a1 n1 c1, .bool neg3, .slice a3 n3 c3, .int .i64 b]) (by simp [results, Try.results78, go_sem, q0, q1, q2, q3, q4]) rfl ⟨⟨neg1, a1, n1, c1, neg3, a3, n3, c3, b⟩, rfl, rfl, ?_, ?_⟩
  · exact SpAt.put5 ⟨hint1.mono (by omega), hint3.mono (by omega)⟩ q0 q1 q2 q3 q4 _ _ _ _ _
  · exact set5 (bthen hBW2 hD2) (by omega) _ _ _ _ _
end Go.Proofs.Ytibbhnmbmgllcaa
