/-
  What num.Root and span.Root answer lies in new memory.
  What span.Add, Mul, Hull, Meet, To, Root, Div answer of whatever spans: always the same, in new memory.
-/
import Derived.Test.YtgmnknmjainabaaK11
namespace Go.Proofs.Ytgmnknmjainabaa
set_option linter.unusedVariables false
set_option linter.unusedSimpArgs false
set_option linter.unnecessarySimpa false
open Go.RowKit
attribute [local go_sem ↓] Go.wp_at_zero Go.wp_at_succ
open Go.RowKit

def IntF (w : World) (k : Nat) (z : Int) (r : Ending) (w' : World) : Prop :=
  ∃ neg' a' n' cap', r = .returned (.agg #[.bool neg', .slice a' n' cap']) ∧ IntAt w' neg' a' n' cap' k z ∧ Below w.heap.size w w' ∧ Mine w.heap.size w' a' n'
def VarF (m : Nat) (w : World) (p : Value) (H k : Nat) (z : Int) : Prop :=
  ∃ (B : Nat) (x : Nm), p = .pointer (some ⟨B, 0, none⟩) ∧ w.cell? ⟨B, 0, none⟩ = some (.bool x.neg) ∧ w.cell? ⟨B, 1, none⟩ = some (.slice x.a x.n x.cap) ∧ IntAt w x.neg x.a x.n x.cap k z ∧ H ≤ B ∧ B < w.heap.size ∧ Mine m w x.a x.n

set_option maxRecDepth 100000 in
set_option maxHeartbeats 4000000 in
theorem rootPos_fr (neg : Bool) (a : Option Addr) (n cap k : Nat) (x : Int) (w : World) (h1 : IntAt w neg a n cap k x) (hk : k ≤ 100000000) (hx : 0 < x) :
    Calls Try.prog 131 #[.agg #[.bool neg, .slice a n cap]] w fun r w' => ∃ z, RootOf x z ∧ IntF w (k + 10) z r w' := by
  obtain ⟨d, g1, g2, g3, g4, g5⟩ := h1
  have h1 : IntAt w neg a n cap k x := ⟨d, g1, g2, g3, g4, g5⟩
  have hn : 0 < n := by
    rcases Nat.eq_zero_or_pos n with h0 | h0
    · subst h0; cases neg <;> simp [sgn, V] at g5 <;> omega
    · exact h0
  have hxV : V d n = x := by
    have := V_nonneg g1.dgs n
    cases neg
    · simpa [sgn] using g5.symm
    · simp [sgn] at g5; omega
  obtain ⟨l, l1, l2, l3⟩ := lenZ_Q g1.dgs hn (by omega)
  rw [hxV] at l2 l3
  obtain ⟨K0, hK0⟩ : ∃ K0 : Nat, ((l : Int) + 1) / 2 + 1 = (K0 : Int) := ⟨(l + 1) / 2 + 1, by omega⟩
  have hK0' : l + 1 ≤ 2 * K0 ∧ K0 ≤ l + 2 := by omega
  have hln : l + 1 ≤ 16 * n := by have := lenZ_le n d; omega
  have hl0 : 0 ≤ (l : Int) := by omega
  have hlb : (l : Int) ≤ 1600000000 := by omega
  have HW1 := hide (show IntKind.i64.wrap (IntKind.i64.wrap (((l : Int) + 1).tdiv 2) + 1) = (K0 : Int) by
    rw [Int.tdiv_eq_ediv_of_nonneg (by omega), i64_id (((l : Int) + 1) / 2) (by omega) (by omega), i64_id _ (by omega) (by omega)]
    exact hK0)
  have hq0 := Q_pos K0
  have hsq : x < Q K0 * Q K0 := by
    rw [← Q_add]
    have := Q_mono (show l + 1 ≤ K0 + K0 by omega); omega
  have hPk : Q K0 < P (k + 2) := by
    rw [← Q_P]
    have h5 := Q_mono (show K0 + 1 ≤ 16 * (k + 2) by omega)
    simp only [Q] at h5; omega
  have HSQ := hide (show x < (Q K0 + 1) * (Q K0 + 1) by
    have h5 : (Q K0 + 1) * (Q K0 + 1) = Q K0 * Q K0 + 2 * Q K0 + 1 := by rw [Int.add_mul, Int.mul_add]; omega
    omega)
  have t1 : ¬ cmpInt x 0 ≤ 0 := by unfold cmpInt; rw [if_neg (by omega), if_pos (by omega)]; omega
  obtain ⟨W, hW⟩ : ∃ W, W = (w.alloc (.cells #[.bool neg, .slice a n cap] 24)).alloc (.cells #[.bool false, .slice none 0 0] 24) := ⟨_, rfl⟩
  have hBW : Below w.heap.size w W := by rw [hW]; exact bl2 _ _ _
  have A : NmC W w.heap.size ⟨neg, a, n, cap⟩ := by rw [hW]; exact ⟨by simp [go_sem], by simp [go_sem]⟩
  have R : NoI W (w.heap.size + 1) := by rw [hW]; exact ⟨by simp [go_sem], by simp [go_sem], fun o => by simp [go_sem]⟩
  have GD := hide (g1.below hBW)
  have HX := hide (h1.below hBW)
  have HL := hide l1
  have HK0 := hide hK0'
  clear g1 h1 l1 hxV g5 hsq l2 l3 hK0'
  go_enter Try.func131, Try.ntmps131
  go_wp2_with fail
  rw [← hW]
  clear hW
  refine (sign_int _ _ _ _ k x _ (unhide HX)).mono ?_
  rintro r w0 ⟨rfl, hb0⟩
  replace A := A.below hb0
  replace R := R.below hb0
  replace hBW := bthen hBW hb0
  replace GD := hide ((unhide GD).below hb0)
  replace HX := hide ((unhide HX).below hb0)
  have HKA := hide (show ∀ w', Below w0.heap.size w0 w' → (w'.cell? ⟨w.heap.size, 0, none⟩ = some (.bool neg) ∧ w'.cell? ⟨w.heap.size, 1, none⟩ = some (.slice a n cap)) from fun w' hB => ⟨(A.below hB).c0, (A.below hB).c1⟩)
  have lA := A.lt
  have lR := R.lt
  obtain ⟨i0, i1⟩ := unhide HKA _ (Below.refl _ _)
  clear hb0
  go_wp2_with fail
  go_cut [3] (fun p wx => VarF w.heap.size wx p w0.heap.size (k + 10) (1 * Q K0) ∧ FzP wx p ∧ Below w0.heap.size w0 wx)
  case first =>
    go_region_held3 (fun w' => w'.cell? ⟨w.heap.size, 0, none⟩ = some (.bool neg) ∧ w'.cell? ⟨w.heap.size, 1, none⟩ = some (.slice a n cap)) (exact unhide HKA _ (by repeat' (first | with_reducible exact hBX3 | with_reducible exact hBX2 | with_reducible exact hBX1 | with_reducible exact Below.refl _ _ | with_reducible refine Below.drew ?_ | with_reducible refine balloc ?_ _ | with_reducible refine Below.setCell ?_ (by first | exact Nat.le_refl _ | exact hlX1 | exact hlX2 | exact hlX3) _)))
      (first
        | (go_at_call 107; have hq := hBX2; rw [unhide HW1]; refine (up_fr _ _ _ _ K0 4 1 _ (hintX1.below (by first | with_reducible exact Below.refl _ _ | with_reducible exact bl1 _ _)) (by omega) (by have := unhide HK0; omega)).mono ?_; rintro r wX3 ⟨negX3, aX3, nX3, cX3, rfl, hintX3, hbX3, frX3⟩; have frX3 := frX3.mono (m' := w.heap.size) (Nat.le_trans (bthen hBW hBX2).size (by first | with_reducible exact Nat.le_refl _ | with_reducible exact (bl1 _ _).size)); have hCX3 : Below wX2.heap.size wX2 wX3 := (by first | with_reducible exact hbX3 | with_reducible exact bthen (bl1 _ _) hbX3); have hBX3 := bthen hBX2 hCX3; (try with_reducible have gX3 := (noi_new wX2 24).below hbX3); replace hintX1 := hintX1.below hCX3; (try replace gX1 := gX1.below hCX3); (try replace gX2 := gX2.below hCX3); have hlX3 := hBX3.size; (try have mX1 := gX1.lt); (try have eX1 := Nat.ne_of_lt mX1); (try have eX1' := Nat.ne_of_gt mX1); (try obtain ⟨zX10, zX11, zX12⟩ := gX1); (try have mX2 := gX2.lt); (try have eX2 := Nat.ne_of_lt mX2); (try have eX2' := Nat.ne_of_gt mX2); (try obtain ⟨zX20, zX21, zX22⟩ := gX2); (try have mX3 := gX3.lt); (try have eX3 := Nat.ne_of_lt mX3); (try have eX3' := Nat.ne_of_gt mX3); (try obtain ⟨zX30, zX31, zX32⟩ := gX3))
        | (go_at_call 77; have hq := hBX1; refine (len_any _ _ _ _ d _ ((unhide GD).below (by first | with_reducible exact hBX1 | with_reducible exact balloc hBX1 _))).mono ?_; rintro r wX2 ⟨rfl, hbX2⟩; rw [unhide HL]; have hCX2 : Below wX1.heap.size wX1 wX2 := (by first | with_reducible exact hbX2 | with_reducible exact bthen (bl1 _ _) hbX2); have hBX2 := bthen hBX1 hCX2; (try with_reducible have gX2 := (noi_new wX1 24).below hbX2); replace hintX1 := hintX1.below hCX2; (try replace gX1 := gX1.below hCX2); have hlX2 := hBX2.size)
        | (go_at_call 62; refine (numOf_int 1 _ (by decide) (by decide)).mono ?_; rintro r wX1 ⟨negX1, aX1, nX1, cX1, rfl, hintX1, hbX1⟩; have hBX1 : Below w0.heap.size w0 wX1 := (by first | with_reducible exact bthen (Below.refl _ _).drew hbX1 | with_reducible exact bthen (bl1 _ _).drew hbX1); (try with_reducible have gX1 := ((noi_new w0 24).below (Below.refl _ _).drew).below hbX1); have hlX1 := hBX1.size))
    all_goals
      go_wp2_with fail
      go_meet
      refine ⟨⟨_, ⟨negX3, aX3, nX3, cX3⟩, rfl, ?_, ?_, ?_, ?_, ?_, ?_⟩, ?_, ?_⟩
      · simp [go_sem, *]
      · simp [go_sem, *]
      · first | with_reducible exact IntAt.mono (hintX3.below (bl1 _ _)) (by omega) | with_reducible exact IntAt.mono (hintX3.put2 (by assumption) (by assumption) _ _) (by omega)
      · first | exact Nat.le_refl _ | exact hlX1 | exact hlX2 | exact hlX3
      · simp [World.setCell]; try omega
      · first | with_reducible exact frX3.below (bl1 _ _) | with_reducible exact (frX3.set _ _).set _ _
      · intro B hB o; cases hB; simp [go_sem, *]
      · repeat' (first | with_reducible exact hBX3 | with_reducible exact hBX2 | with_reducible exact hBX1 | with_reducible exact Below.refl _ _ | with_reducible refine Below.drew ?_ | with_reducible refine balloc ?_ _ | with_reducible refine Below.setCell ?_ (by first | exact Nat.le_refl _ | exact hlX1 | exact hlX2 | exact hlX3) _)
  case rest =>
  obtain ⟨⟨BX, xX, rfl, jX0, jX1, hintX, hHX, hltX, hfrX⟩, hfzX, hblX⟩ := hcut
  have XX : NmC wc BX xX := ⟨jX0, jX1⟩
  have F0 : ∀ o, wc.frozen? ⟨BX, o, none⟩ = false := hfzX BX rfl
  replace A := A.below hblX
  replace R := R.below hblX
  replace hBW := bthen hBW hblX
  replace HX := hide ((unhide HX).below hblX)
  rw [Int.one_mul] at hintX
  have hint0 := hintX.fit (by omega) hPk
  have nXA' : w.heap.size ≠ BX := Nat.ne_of_lt (Nat.lt_of_lt_of_le lA hHX)
  have nXA : BX ≠ w.heap.size := fun e9 => nXA' e9.symm
  have hnXR : BX ≠ w.heap.size + 1 := Nat.ne_of_gt (Nat.lt_of_lt_of_le lR hHX)
  have hBXw : w.heap.size ≤ BX := by omega
  clear i0 i1 HKA hintX jX0 jX1 HL HW1 GD
  go_wp2_with fail
  go_loopg [4] (Q K0).toNat (fun gg p wr => ∃ (X : Nm) (z : Int), NmC wr BX X ∧ (∀ o, wr.frozen? ⟨BX, o, none⟩ = false) ∧ IntAt wr X.neg X.a X.n X.cap (k + 2) z ∧ 0 < z ∧ z ≤ Q K0 ∧ z.toNat ≤ gg ∧ x < (z + 1) * (z + 1) ∧ NmC wr w.heap.size ⟨neg, a, n, cap⟩ ∧ NoI wr (w.heap.size + 1) ∧ IntAt wr neg a n cap k x ∧ Below w.heap.size w wr ∧ Mine w.heap.size wr X.a X.n)
  case atStart => exact ⟨xX, Q K0, XX, F0, hint0, by omega, Int.le_refl _, Nat.le_refl _, unhide HSQ, A, R, unhide HX, hBW, hfrX⟩
  case round =>
    obtain ⟨X, z, hX, hF, hz, hz0, hzq, hzg, hzs, A, R, HXr, hBr, hMr⟩ := hrel
    obtain ⟨yv, hyv⟩ : ∃ yv, yv = (z + x / z) / 2 := ⟨_, rfl⟩
    have hxz : 0 ≤ x / z := Int.ediv_nonneg (by omega) (by omega)
    have hup : x < (yv + 1) * (yv + 1) := by rw [hyv]; exact newton_up hz0
    have hy0 : 0 < yv := by
      rcases Int.lt_or_le 0 yv with h5 | h5
      · exact h5
      · have h6 : yv = 0 := by omega
        rw [h6] at hup; omega
    have HYV := hide (show (z + x / z) / Q 1 = yv from hyv.symm)
    have HUP := hide hup
    have HZS := hide hzs
    have HEND := hide (show z ≤ yv → z * z ≤ x from fun h => newton_end hz0 (by omega) (by rw [← hyv]; exact h))
    clear hyv hup hzs
    have hz := hide hz
    have HXr := hide HXr
    have HKr := hide (show ∀ w', Below wr.heap.size wr w' → (w'.cell? ⟨w.heap.size, 0, none⟩ = some (.bool neg) ∧ w'.cell? ⟨w.heap.size, 1, none⟩ = some (.slice a n cap) ∧ w'.cell? ⟨BX, 0, none⟩ = some (.bool X.neg) ∧ w'.cell? ⟨BX, 1, none⟩ = some (.slice X.a X.n X.cap)) from fun w' hB => ⟨(A.below hB).c0, (A.below hB).c1, (hX.below hB).c0, (hX.below hB).c1⟩)
    have lA := A.lt
    have lX := hX.lt
    have lR := R.lt
    have nXR : BX ≠ w.heap.size + 1 := hnXR
    have nXR' : w.heap.size + 1 ≠ BX := fun e9 => nXR e9.symm
    obtain ⟨i0, i1, i2, i3⟩ := unhide HKr _ (Below.refl _ _)
    go_wp2_with fail
    go_cut [4] (fun p wx => VarF w.heap.size wx p wr.heap.size (k + 20) ((z + x / z) / Q 1) ∧ Below wr.heap.size wr wx)
    case first =>
      go_region_held3 (fun w' => w'.cell? ⟨w.heap.size, 0, none⟩ = some (.bool neg) ∧ w'.cell? ⟨w.heap.size, 1, none⟩ = some (.slice a n cap) ∧ w'.cell? ⟨BX, 0, none⟩ = some (.bool X.neg) ∧ w'.cell? ⟨BX, 1, none⟩ = some (.slice X.a X.n X.cap)) (exact unhide HKr _ (by repeat' (first | with_reducible exact hBY3 | with_reducible exact hBY2 | with_reducible exact hBY1 | with_reducible exact Below.refl _ _ | with_reducible refine Below.drew ?_ | with_reducible refine balloc ?_ _ | with_reducible refine Below.setCell ?_ (by first | exact Nat.le_refl _ | exact hlY1 | exact hlY2 | exact hlY3) _)))
        (first
          | (go_at_call 79; have hq := hBY2; refine (down_fr _ _ _ _ 1 (k + 9) (z + x / z) _ ((hintY2.below (by first | with_reducible exact Below.refl _ _ | with_reducible exact bl1 _ _)).mono (by omega)) (by omega) (by omega)).mono ?_; rintro r wY3 ⟨negY3, aY3, nY3, cY3, rfl, hintY3, hbY3, frY3⟩; have frY3 := frY3.mono (m' := w.heap.size) (Nat.le_trans (bthen hBr hBY2).size (by first | with_reducible exact Nat.le_refl _ | with_reducible exact (bl1 _ _).size)); have hCY3 : Below wY2.heap.size wY2 wY3 := (by first | with_reducible exact hbY3 | with_reducible exact bthen (bl1 _ _) hbY3); have hBY3 := bthen hBY2 hCY3; (try with_reducible have gY3 := (noi_new wY2 24).below hbY3); replace hintY1 := hintY1.below hCY3; (try replace gY1 := gY1.below hCY3); replace hintY2 := hintY2.below hCY3; (try replace gY2 := gY2.below hCY3); have hlY3 := hBY3.size; (try have mY1 := gY1.lt); (try have eY1 := Nat.ne_of_lt mY1); (try have eY1' := Nat.ne_of_gt mY1); (try obtain ⟨zY10, zY11, zY12⟩ := gY1); (try have mY2 := gY2.lt); (try have eY2 := Nat.ne_of_lt mY2); (try have eY2' := Nat.ne_of_gt mY2); (try obtain ⟨zY20, zY21, zY22⟩ := gY2); (try have mY3 := gY3.lt); (try have eY3 := Nat.ne_of_lt mY3); (try have eY3' := Nat.ne_of_gt mY3); (try obtain ⟨zY30, zY31, zY32⟩ := gY3))
          | (go_at_call 49; have hq := hBY1; refine (add_int _ _ _ _ _ _ _ _ (k + 2) (k + 8) z (x / z) _ ((unhide hz).below (by first | with_reducible exact hBY1 | with_reducible exact balloc hBY1 _)) (hintY1.below (by first | with_reducible exact Below.refl _ _ | with_reducible exact bl1 _ _)) (by omega) (by omega)).mono ?_; rintro r wY2 ⟨negY2, aY2, nY2, cY2, rfl, hintY2, hbY2⟩; have hCY2 : Below wY1.heap.size wY1 wY2 := (by first | with_reducible exact hbY2 | with_reducible exact bthen (bl1 _ _) hbY2); have hBY2 := bthen hBY1 hCY2; (try with_reducible have gY2 := (noi_new wY1 24).below hbY2); replace hintY1 := hintY1.below hCY2; (try replace gY1 := gY1.below hCY2); have hlY2 := hBY2.size)
          | (go_at_call 103; refine (floor_any _ _ _ _ _ _ _ _ k (k + 2) x z _ ((unhide HXr).below (by first | with_reducible exact (Below.refl _ _).drew | with_reducible exact (bl1 _ _).drew)) ((unhide hz).below (by first | with_reducible exact (Below.refl _ _).drew | with_reducible exact (bl1 _ _).drew)) (by omega) hz0).mono ?_; rintro r wY1 ⟨negY1, aY1, nY1, cY1, rfl, hintY1, hbY1⟩; have hBY1 : Below wr.heap.size wr wY1 := (by first | with_reducible exact bthen (Below.refl _ _).drew hbY1 | with_reducible exact bthen (bl1 _ _).drew hbY1); (try with_reducible have gY1 := ((noi_new wr 24).below (Below.refl _ _).drew).below hbY1); have hlY1 := hBY1.size))
      all_goals
        go_wp2_with fail
        go_meet
        refine ⟨⟨_, ⟨negY3, aY3, nY3, cY3⟩, rfl, ?_, ?_, ?_, ?_, ?_, ?_⟩, ?_⟩
        · simp [go_sem, *]
        · simp [go_sem, *]
        · first | with_reducible exact IntAt.mono (hintY3.below (bl1 _ _)) (by omega) | with_reducible exact IntAt.mono (hintY3.put2 (by assumption) (by assumption) _ _) (by omega)
        · first | exact Nat.le_refl _ | exact hlY1 | exact hlY2 | exact hlY3
        · simp [World.setCell]; try omega
        · first | with_reducible exact frY3.below (bl1 _ _) | with_reducible exact (frY3.set _ _).set _ _
        · repeat' (first | with_reducible exact hBY3 | with_reducible exact hBY2 | with_reducible exact hBY1 | with_reducible exact Below.refl _ _ | with_reducible refine Below.drew ?_ | with_reducible refine balloc ?_ _ | with_reducible refine Below.setCell ?_ (by first | exact Nat.le_refl _ | exact hlY1 | exact hlY2 | exact hlY3) _)
    case rest =>
    obtain ⟨⟨BY, xY, rfl, jY0, jY1, hintY, hHY, hltY, hfrY⟩, hblY⟩ := hcut
    have XY : NmC wc BY xY := ⟨jY0, jY1⟩
    rw [unhide HYV] at hintY
    have hC : Below wr.heap.size wr wc := hblY
    replace hX := hX.below hC
    replace A := A.below hC
    replace R := R.below hC
    have hF2 : ∀ o, wc.frozen? ⟨BX, o, none⟩ = false := fun o => (hC.frozen (p := ⟨BX, o, none⟩) lX).trans (hF o)
    have hz2 := (unhide hz).below hC
    have hM2 := hMr.below hC
    have HX2 := (unhide HXr).below hC
    replace hBr := bthen hBr hC
    have lX2 := hX.lt
    have lY2 := XY.lt
    have lR2 := R.lt
    have nXY : BX ≠ BY := Nat.ne_of_lt (Nat.lt_of_lt_of_le lX hHY)
    have nXY' : BY ≠ BX := fun e9 => nXY e9.symm
    obtain ⟨k0, k1⟩ := hX
    have hX : NmC wc BX X := ⟨k0, k1⟩
    clear i0 i1 i2 i3 HKr hblY hC hF hz HXr
    go_wp2_with fail
    refine (cmp_int _ _ _ _ _ _ _ _ (k + 20) (k + 2) yv z _ hintY hz2).mono ?_
    rintro r w5 ⟨rfl, hb5⟩
    have hX5 := hX.below hb5
    have hY5 := XY.below hb5
    have hR5 := R.below hb5
    have hA5 := A.below hb5
    have hz5 := hz2.below hb5
    have hy5 := hintY.below hb5
    have HX5 := HX2.below hb5
    have hF5 : ∀ o, w5.frozen? ⟨BX, o, none⟩ = false := fun o => (hb5.frozen (p := ⟨BX, o, none⟩) lX2).trans (hF2 o)
    have hB5 := bthen hBr hb5
    have l5 := hX5.lt
    have l6 := hY5.lt
    have l7 := hR5.lt
    obtain ⟨e0, e1⟩ := hX5
    obtain ⟨e2, e3⟩ := hY5
    obtain ⟨e4, e5, e6⟩ := hR5
    clear k0 k1 jY0 jY1
    by_cases hge : z ≤ yv
    · have t2 : 0 ≤ cmpInt yv z := by unfold cmpInt; rw [if_neg (by omega)]; split <;> omega
      have t2' : cmpInt yv z ≥ 0 := t2
      have HG := hide hge
      clear hge
      go_wp2_with fail
      refine bodyPost_ret (v := .agg #[.bool X.neg, .slice X.a X.n X.cap]) (by simp [results, Try.results131, go_sem, e4, e5]) rfl ⟨z, ⟨by omega, fun h9 => by omega, fun _ => ⟨unhide HEND (unhide HG), unhide HZS⟩⟩, X.neg, X.a, X.n, X.cap, rfl, ?_, ?_, ?_⟩
      · exact (hz5.put2 e4 e5 _ _).mono (by omega)
      · exact set2 hB5 (Nat.le_succ _) _ _
      · exact ((hM2.below hb5).set _ _).set _ _
    · have t2 : ¬ 0 ≤ cmpInt yv z := by unfold cmpInt; rw [if_pos (by omega)]; omega
      have t2' : ¬ cmpInt yv z ≥ 0 := t2
      have hylt : yv < z := by omega
      clear hge
      go_wp2_with fail
      go_roundg yv.toNat
      case rel =>
        refine ⟨xY, yv, ⟨by simp [go_sem, e0, e1], by simp [go_sem, e0, e1]⟩, fun o => by rw [frozen_set', frozen_set']; exact hF5 o, ?_, hy0, by omega, Nat.le_refl _, unhide HUP, ?_, ?_, ?_, ?_, ?_⟩
        · exact (hy5.put2 e0 e1 _ _).fit (by omega) (by omega)
        · exact ⟨by simp [go_sem, hA5.c0, nXA, nXA'], by simp [go_sem, hA5.c1, nXA, nXA']⟩
        · exact ⟨by simp [go_sem, e4, nXR, nXR'], by simp [go_sem, e5, nXR, nXR'], fun o => by rw [frozen_set', frozen_set']; exact e6 o⟩
        · exact HX5.put2 e0 e1 _ _
        · exact set2 hB5 (by omega) _ _
        · exact ((hfrY.below hb5).set _ _).set _ _
      case measure => omega

set_option maxRecDepth 100000 in
set_option maxHeartbeats 2000000 in
theorem root_fr (neg : Bool) (a : Option Addr) (n cap k : Nat) (x : Int) (w : World) (h1 : IntAt w neg a n cap k x) (hk : k ≤ 100000000) :
    Calls Try.prog 131 #[.agg #[.bool neg, .slice a n cap]] w fun r w' => ∃ z, RootOf x z ∧ IntF w (k + 10) z r w' := by
  by_cases hx : 0 < x
  · exact rootPos_fr neg a n cap k x w h1 hk hx
  · have t1 : cmpInt x 0 ≤ 0 := by unfold cmpInt; split <;> (try split) <;> omega
    have HX := hide hx
    clear hx
    go_enter Try.func131, Try.ntmps131
    go_wp2_with fail
    refine (sign_int _ _ _ _ k x _ (h1.below (bl2 _ _ _))).mono ?_
    rintro r w1 ⟨rfl, hb1⟩
    obtain ⟨hsz1, hcell1, hfz1⟩ := near (w.heap.size + 1 + 1) (by simp) hb1
    go_wp2_with fail
    have q0 : w1.cell? ⟨w.heap.size + 1, 0, none⟩ = some (.bool false) := by simp [hcell1, go_sem]
    have q1 : w1.cell? ⟨w.heap.size + 1, 1, none⟩ = some (.slice none 0 0) := by simp [hcell1, go_sem]
    refine bodyPost_ret (v := .agg #[.bool false, .slice none 0 0]) (by simp [results, Try.results131, go_sem, q0, q1]) rfl ⟨0, ⟨by omega, fun _ => rfl, fun h9 => by have h8 := unhide HX; omega⟩, false, none, 0, 0, rfl, zeroInt _ _, ?_, Mine.nil _ _ _⟩
    exact set2 (bthen (bl2 _ _ _) hb1) (Nat.le_succ _) _ _

theorem rootRt_fr (neg : Bool) (a : Option Addr) (n cap k : Nat) (x : Int) (w : World) (h1 : IntAt w neg a n cap k x) (hk : k ≤ 100000000) :
    Calls Try.prog 131 #[.agg #[.bool neg, .slice a n cap]] w (IntF w (k + 10) (rtZ x)) :=
  (root_fr neg a n cap k x w h1 hk).mono fun r w' ⟨z, hz, h⟩ => by rw [← hz.eq]; exact h

set_option maxRecDepth 100000 in
set_option maxHeartbeats 4000000 in
theorem wideRoot_fr (w : World) (s : Sp) (k b : Nat) (lo hi : Int) (hs : SpAt w s k lo hi) (hk : k ≤ 30000000) (hb : b ≤ 1000000) (hbits : s.bits = b) :
    Calls Try.prog 96 #[.agg #[.bool s.ln, .slice s.la s.lN s.lc, .bool s.hn, .slice s.ha s.hN s.hc, .int .i64 s.bits]] w (SpanF w b (b / 16 + k + 20) (rtZ (lo * Q b)) (rtU (hi * Q b))) := by
  have HBT := hide hbits
  clear hbits
  obtain ⟨W, hW⟩ : ∃ W, W = (w.alloc (.cells #[.bool s.ln, .slice s.la s.lN s.lc, .bool s.hn, .slice s.ha s.hN s.hc, .int .i64 s.bits] 26)).alloc (.cells #[.bool false, .slice none 0 0, .bool false, .slice none 0 0, .int .i64 0] 26) := ⟨_, rfl⟩
  have hBW : Below w.heap.size w W := by rw [hW]; exact bl2 _ _ _
  have A : SpC W w.heap.size s := by rw [hW]; exact ⟨by simp [go_sem], by simp [go_sem], by simp [go_sem], by simp [go_sem], by simp [go_sem]⟩
  have R : NoC W (w.heap.size + 1) := by rw [hW]; exact ⟨by simp [go_sem], by simp [go_sem], by simp [go_sem], by simp [go_sem], by simp [go_sem], fun o => by simp [go_sem]⟩
  replace hs := hs.below hBW
  go_enter Try.func96, Try.ntmps96
  go_wp2_with fail
  rw [← hW]
  clear hW
  rw [unhide HBT]
  refine (up_int _ _ _ _ b k hi _ hs.hi (by omega) (by omega)).mono ?_
  rintro r w1 ⟨neg1, a1, n1, c1, rfl, hint1, hb1⟩
  replace hBW := bthen hBW hb1
  replace A := A.below hb1
  replace R := R.below hb1
  replace hs := hs.below hb1
  clear hb1
  obtain ⟨x1, hx1⟩ : ∃ x : Nm, x = ⟨neg1, a1, n1, c1⟩ := ⟨_, rfl⟩
  obtain ⟨W1, hW1⟩ : ∃ W', W' = w1.alloc (.cells #[.bool neg1, .slice a1 n1 c1] 24) := ⟨_, rfl⟩
  have hc1 : Below w1.heap.size w1 W1 := by rw [hW1]; exact bl1 _ _
  have X1 : NmC W1 w1.heap.size ⟨neg1, a1, n1, c1⟩ := by rw [hW1]; exact nmc_new w1 ⟨neg1, a1, n1, c1⟩ _
  have nR1 : w1.heap.size ≠ w.heap.size + 1 := Nat.ne_of_gt R.lt
  obtain ⟨u0, u1⟩ := X1
  have X1 : NmC W1 w1.heap.size ⟨neg1, a1, n1, c1⟩ := ⟨u0, u1⟩
  have lX1 := X1.lt
  go_wp2_with fail
  rw [← hW1]
  clear hW1 u0 u1 lX1 hx1 x1
  replace hBW := bthen hBW hc1
  replace A := A.below hc1
  replace R := R.below hc1
  replace hs := hs.below hc1
  replace hint1 := hint1.below hc1
  clear hc1
  refine (rootRt_fr _ _ _ _ _ (hi * Q b) _ hint1 (by omega)).mono ?_
  rintro r w2 ⟨neg2, a2, n2, c2, rfl, hint2, hb2, fr2⟩
  replace fr2 := fr2.mono (m' := w.heap.size) hBW.size
  replace hBW := bthen hBW hb2
  replace A := A.below hb2
  replace R := R.below hb2
  replace hs := hs.below hb2
  replace hint1 := hint1.below hb2
  replace X1 := X1.below hb2
  clear hb2
  obtain ⟨W2, hW2⟩ : ∃ W', W' = w2.alloc (.cells #[.bool neg2, .slice a2 n2 c2] 24) := ⟨_, rfl⟩
  have hc2 : Below w2.heap.size w2 W2 := by rw [hW2]; exact bl1 _ _
  have X2 : NmC W2 w2.heap.size ⟨neg2, a2, n2, c2⟩ := by rw [hW2]; exact nmc_new w2 ⟨neg2, a2, n2, c2⟩ _
  have F2 : ∀ o, W2.frozen? ⟨w2.heap.size, o, none⟩ = false := by intro o; rw [hW2]; simp [go_sem]
  have n12 : w1.heap.size ≠ w2.heap.size := Nat.ne_of_lt X1.lt
  have nR2 : w2.heap.size ≠ w.heap.size + 1 := Nat.ne_of_gt R.lt
  have nR2' : w.heap.size + 1 ≠ w2.heap.size := Nat.ne_of_lt R.lt
  have nAR : w.heap.size ≠ w.heap.size + 1 := Nat.ne_of_lt (Nat.lt_succ_self _)
  have nA : w.heap.size ≠ w2.heap.size := Nat.ne_of_lt A.lt
  have hwB : w.heap.size ≤ w2.heap.size := Nat.le_of_lt A.lt
  replace hBW := bthen hBW hc2
  replace A := A.below hc2
  replace R := R.below hc2
  replace hs := hs.below hc2
  replace hint1 := hide (hint1.below hc2)
  replace hint2 := hide (hint2.below hc2)
  replace fr2 := fr2.below hc2
  replace X1 := X1.below hc2
  clear hc2
  go_wp2_with fail
  rw [← hW2]
  clear hW2
  have HK3 := hide (show ∀ w', Below W2.heap.size W2 w' → (w'.cell? ⟨w1.heap.size, 0, none⟩ = some (.bool (Nm.mk neg1 a1 n1 c1).neg) ∧ w'.cell? ⟨w1.heap.size, 1, none⟩ = some (.slice (Nm.mk neg1 a1 n1 c1).a (Nm.mk neg1 a1 n1 c1).n (Nm.mk neg1 a1 n1 c1).cap) ∧ w'.cell? ⟨w2.heap.size, 0, none⟩ = some (.bool (Nm.mk neg2 a2 n2 c2).neg) ∧ w'.cell? ⟨w2.heap.size, 1, none⟩ = some (.slice (Nm.mk neg2 a2 n2 c2).a (Nm.mk neg2 a2 n2 c2).n (Nm.mk neg2 a2 n2 c2).cap)) from fun w' hB => ⟨(X1.below hB).c0, (X1.below hB).c1, (X2.below hB).c0, (X2.below hB).c1⟩)
  have l1 := X1.lt
  have l2 := X2.lt
  obtain ⟨v0, v1, v2, v3⟩ := unhide HK3 _ (Below.refl _ _)
  go_wp2_with fail
  go_cut [17] (fun p wx => p = .bool (decide (rtZ (hi * Q b) * rtZ (hi * Q b) < (hi * Q b))) ∧ Below W2.heap.size W2 wx)
  case first =>
    go_region_held3 (fun w' => w'.cell? ⟨w1.heap.size, 0, none⟩ = some (.bool (Nm.mk neg1 a1 n1 c1).neg) ∧ w'.cell? ⟨w1.heap.size, 1, none⟩ = some (.slice (Nm.mk neg1 a1 n1 c1).a (Nm.mk neg1 a1 n1 c1).n (Nm.mk neg1 a1 n1 c1).cap) ∧ w'.cell? ⟨w2.heap.size, 0, none⟩ = some (.bool (Nm.mk neg2 a2 n2 c2).neg) ∧ w'.cell? ⟨w2.heap.size, 1, none⟩ = some (.slice (Nm.mk neg2 a2 n2 c2).a (Nm.mk neg2 a2 n2 c2).n (Nm.mk neg2 a2 n2 c2).cap)) (exact unhide HK3 _ (by (repeat' (first | with_reducible exact hB4 | with_reducible exact hB3 | with_reducible exact Below.refl _ _ | with_reducible refine Below.drew ?_ | with_reducible refine balloc ?_ _)) <;> fail))
      (first
        | (go_at_call 33; have hq := hB3; refine (cmp_int _ _ _ _ _ _ _ _ _ _ (rtZ (hi * Q b) * rtZ (hi * Q b)) (hi * Q b) _ (hint3.below (by (repeat' (first | with_reducible exact Below.refl _ _ | with_reducible refine Below.drew ?_ | with_reducible refine balloc ?_ _)) <;> fail)) ((unhide hint1).below (by (repeat' (first | with_reducible exact hB3 | with_reducible exact Below.refl _ _ | with_reducible refine Below.drew ?_ | with_reducible refine balloc ?_ _)) <;> fail))).mono ?_; rintro r w4 ⟨rfl, hb4⟩; have hB4 := bthen hB3 hb4)
        | (go_at_call 52; refine (mul_int _ _ _ _ _ _ _ _ _ _ (rtZ (hi * Q b)) (rtZ (hi * Q b)) _ ((unhide hint2).below (by (repeat' (first | with_reducible exact Below.refl _ _ | with_reducible refine Below.drew ?_ | with_reducible refine balloc ?_ _)) <;> fail)) ((unhide hint2).below (by (repeat' (first | with_reducible exact Below.refl _ _ | with_reducible refine Below.drew ?_ | with_reducible refine balloc ?_ _)) <;> fail)) (by omega) (by omega)).mono ?_; rintro r w3 ⟨neg3, a3, n3, c3, rfl, hint3, hb3⟩; have hB3 : Below W2.heap.size W2 w3 := bthen (by (repeat' (first | with_reducible exact Below.refl _ _ | with_reducible refine Below.drew ?_ | with_reducible refine balloc ?_ _)) <;> fail) hb3))
    all_goals
      go_wp2_with fail
      go_meet
      refine ⟨?_, (by (repeat' (first | with_reducible exact hB4 | with_reducible exact Below.refl _ _ | with_reducible refine Below.drew ?_ | with_reducible refine balloc ?_ _)) <;> fail)⟩
      congr 1
      exact cmp_lt_dec _ _
  case rest =>
  obtain ⟨rfl, hbl⟩ := hcut
  replace A := A.below hbl
  replace R := R.below hbl
  replace hs := hs.below hbl
  replace F2 : ∀ o, wc.frozen? ⟨w2.heap.size, o, none⟩ = false := fun o => (hbl.frozen (p := ⟨w2.heap.size, o, none⟩) X2.lt).trans (F2 o)
  replace X2 := X2.below hbl
  replace hint2 := hide ((unhide hint2).below hbl)
  replace fr2 := fr2.below hbl
  replace hBW := bthen hBW hbl
  clear hint1 X1 hbl
  clear v0 v1 v2 v3 HK3 l1 l2
  go_upto_if 17 with fail
  go_cut [18] (fun _ wx => ∃ x : Nm, NmC wx w2.heap.size x ∧ IntAt wx x.neg x.a x.n x.cap (b / 16 + k + 20) (rtU (hi * Q b)) ∧ SpC wx w.heap.size s ∧ NoC wx (w.heap.size + 1) ∧ SpAt wx s k lo hi ∧ Below w.heap.size w wx ∧ Mine w.heap.size wx x.a x.n)
  case first =>
    have l2 := X2.lt
    have HX2 := hide X2
    obtain ⟨v2, v3⟩ := X2
    by_cases hlt : rtZ (hi * Q b) * rtZ (hi * Q b) < (hi * Q b)
    · have hd : decide (rtZ (hi * Q b) * rtZ (hi * Q b) < (hi * Q b)) = true := decide_eq_true hlt
      have HU := hide (show rtU (hi * Q b) = rtZ (hi * Q b) + 1 by unfold rtU; rw [if_pos hlt])
      clear hlt
      rw [hd]
      go_wp2_with fail
      go_region_with
        (first
          | (go_at_call 49; have hq := hb5; refine (add_fr _ _ _ _ _ _ _ _ _ 4 (rtZ (hi * Q b)) 1 _ ((unhide hint2).below hB5) hint5 (by omega) (by omega)).mono ?_; rintro r w6 ⟨neg6, a6, n6, c6, rfl, hint6, hb6, fr6⟩; have hB6 := bthen hB5 hb6; have F6 : ∀ o, w6.frozen? ⟨w2.heap.size, o, none⟩ = false := (fun o => (hB6.frozen (p := ⟨w2.heap.size, o, none⟩) l2).trans (F2 o)); have l6 := Nat.lt_of_lt_of_le l2 hB6.size; obtain ⟨v7, v8⟩ := (unhide HX2).below hB6)
          | (go_at_call 62; refine (numOf_int 1 _ (by decide) (by decide)).mono ?_; rintro r w5 ⟨neg5, a5, n5, c5, rfl, hint5, hb5⟩; have hB5 : Below wc.heap.size wc w5 := bthen (by (repeat' (first | with_reducible exact Below.refl _ _ | with_reducible refine Below.drew ?_ | with_reducible refine balloc ?_ _)) <;> fail) hb5; have l5 := hB5.size; obtain ⟨v5, v6⟩ := (unhide HX2).below hB5))
      all_goals
        go_wp2_with fail
        go_meet
        rw [unhide HU]
        exact ⟨⟨neg6, a6, n6, c6⟩, ⟨by simp [go_sem, v7, v8], by simp [go_sem, v7, v8]⟩, (hint6.put2 v7 v8 _ _).mono (by omega), (A.below hB6).put2 nA _ _, (R.below hB6).put2 nR2' _ _, (hs.below hB6).put2 v7 v8 _ _, set2 (bthen hBW hB6) hwB _ _, ((fr6.mono (bthen hBW hB5).size).set _ _).set _ _⟩
    · have hd : decide (rtZ (hi * Q b) * rtZ (hi * Q b) < (hi * Q b)) = false := decide_eq_false hlt
      have HU := hide (show rtU (hi * Q b) = rtZ (hi * Q b) by unfold rtU; rw [if_neg hlt])
      clear hlt
      rw [hd]
      go_wp2_with fail
      go_meet
      rw [unhide HU]
      exact ⟨⟨neg2, a2, n2, c2⟩, ⟨v2, v3⟩, (unhide hint2).mono (by omega), A, R, hs, hBW, fr2⟩
  case rest =>
  obtain ⟨x, X2, hint, A, R, hs, hBW, frx⟩ := hcut
  clear F2 hint2
  have HK5 := hide (show ∀ w', Below wc.heap.size wc w' → (w'.cell? ⟨w.heap.size, 0, none⟩ = some (.bool s.ln) ∧ w'.cell? ⟨w.heap.size, 1, none⟩ = some (.slice s.la s.lN s.lc) ∧ w'.cell? ⟨w.heap.size, 2, none⟩ = some (.bool s.hn) ∧ w'.cell? ⟨w.heap.size, 3, none⟩ = some (.slice s.ha s.hN s.hc) ∧ w'.cell? ⟨w.heap.size, 4, none⟩ = some (.int .i64 (b : Int)) ∧ w'.cell? ⟨w2.heap.size, 0, none⟩ = some (.bool x.neg) ∧ w'.cell? ⟨w2.heap.size, 1, none⟩ = some (.slice x.a x.n x.cap)) from fun w' hB => ⟨(A.below hB).c0, (A.below hB).c1, (A.below hB).c2, (A.below hB).c3, by rw [← unhide HBT]; exact (A.below hB).c4, (X2.below hB).c0, (X2.below hB).c1⟩)
  have HK5s := hide (show ∀ w' u0 u1 u2 u3 u4, Below wc.heap.size wc w' → ((((((w'.setCell ⟨w.heap.size + 1, 0, none⟩ u0).setCell ⟨w.heap.size + 1, 1, none⟩ u1).setCell ⟨w.heap.size + 1, 2, none⟩ u2).setCell ⟨w.heap.size + 1, 3, none⟩ u3).setCell ⟨w.heap.size + 1, 4, none⟩ u4).cell? ⟨w.heap.size, 0, none⟩ = some (.bool s.ln) ∧ (((((w'.setCell ⟨w.heap.size + 1, 0, none⟩ u0).setCell ⟨w.heap.size + 1, 1, none⟩ u1).setCell ⟨w.heap.size + 1, 2, none⟩ u2).setCell ⟨w.heap.size + 1, 3, none⟩ u3).setCell ⟨w.heap.size + 1, 4, none⟩ u4).cell? ⟨w.heap.size, 1, none⟩ = some (.slice s.la s.lN s.lc) ∧ (((((w'.setCell ⟨w.heap.size + 1, 0, none⟩ u0).setCell ⟨w.heap.size + 1, 1, none⟩ u1).setCell ⟨w.heap.size + 1, 2, none⟩ u2).setCell ⟨w.heap.size + 1, 3, none⟩ u3).setCell ⟨w.heap.size + 1, 4, none⟩ u4).cell? ⟨w.heap.size, 2, none⟩ = some (.bool s.hn) ∧ (((((w'.setCell ⟨w.heap.size + 1, 0, none⟩ u0).setCell ⟨w.heap.size + 1, 1, none⟩ u1).setCell ⟨w.heap.size + 1, 2, none⟩ u2).setCell ⟨w.heap.size + 1, 3, none⟩ u3).setCell ⟨w.heap.size + 1, 4, none⟩ u4).cell? ⟨w.heap.size, 3, none⟩ = some (.slice s.ha s.hN s.hc) ∧ (((((w'.setCell ⟨w.heap.size + 1, 0, none⟩ u0).setCell ⟨w.heap.size + 1, 1, none⟩ u1).setCell ⟨w.heap.size + 1, 2, none⟩ u2).setCell ⟨w.heap.size + 1, 3, none⟩ u3).setCell ⟨w.heap.size + 1, 4, none⟩ u4).cell? ⟨w.heap.size, 4, none⟩ = some (.int .i64 (b : Int)) ∧ (((((w'.setCell ⟨w.heap.size + 1, 0, none⟩ u0).setCell ⟨w.heap.size + 1, 1, none⟩ u1).setCell ⟨w.heap.size + 1, 2, none⟩ u2).setCell ⟨w.heap.size + 1, 3, none⟩ u3).setCell ⟨w.heap.size + 1, 4, none⟩ u4).cell? ⟨w2.heap.size, 0, none⟩ = some (.bool x.neg) ∧ (((((w'.setCell ⟨w.heap.size + 1, 0, none⟩ u0).setCell ⟨w.heap.size + 1, 1, none⟩ u1).setCell ⟨w.heap.size + 1, 2, none⟩ u2).setCell ⟨w.heap.size + 1, 3, none⟩ u3).setCell ⟨w.heap.size + 1, 4, none⟩ u4).cell? ⟨w2.heap.size, 1, none⟩ = some (.slice x.a x.n x.cap)) from fun w' u0 u1 u2 u3 u4 hB => ⟨cell_put5' (A.below hB).c0 nAR _ _ _ _ _, cell_put5' (A.below hB).c1 nAR _ _ _ _ _, cell_put5' (A.below hB).c2 nAR _ _ _ _ _, cell_put5' (A.below hB).c3 nAR _ _ _ _ _, cell_put5' (by rw [← unhide HBT]; exact (A.below hB).c4) nAR _ _ _ _ _, cell_put5' (X2.below hB).c0 nR2 _ _ _ _ _, cell_put5' (X2.below hB).c1 nR2 _ _ _ _ _⟩)
  have lA := A.lt
  have lX := X2.lt
  have lR := R.lt
  replace hint := hide hint
  replace hs := hide hs
  obtain ⟨x0, x1, x2, x3, x4, v2, v3⟩ := unhide HK5 _ (Below.refl _ _)
  go_wp2_with fail
  go_region_held3 (fun w' => w'.cell? ⟨w.heap.size, 0, none⟩ = some (.bool s.ln) ∧ w'.cell? ⟨w.heap.size, 1, none⟩ = some (.slice s.la s.lN s.lc) ∧ w'.cell? ⟨w.heap.size, 2, none⟩ = some (.bool s.hn) ∧ w'.cell? ⟨w.heap.size, 3, none⟩ = some (.slice s.ha s.hN s.hc) ∧ w'.cell? ⟨w.heap.size, 4, none⟩ = some (.int .i64 (b : Int)) ∧ w'.cell? ⟨w2.heap.size, 0, none⟩ = some (.bool x.neg) ∧ w'.cell? ⟨w2.heap.size, 1, none⟩ = some (.slice x.a x.n x.cap)) (first | exact unhide HK5 _ (by first | with_reducible exact hB8 | with_reducible exact hB7 | with_reducible exact (Below.refl _ _).drew | with_reducible exact Below.refl _ _) | exact unhide HK5s _ _ _ _ _ _ hB8)
    (first
      | (go_at_call 131; have hq := hB7; refine (rootRt_fr _ _ _ _ _ (lo * Q b) _ hint7 (by omega)).mono ?_; rintro r w8 ⟨neg8, a8, n8, c8, rfl, hint8, hb8, fr8⟩; have hB8 := bthen hB7 hb8; have R8 := R.below hB8; have l8 := R8.lt; obtain ⟨q0, q1, q2, q3, q4, q5⟩ := R8; obtain ⟨y0, y1, y2, y3, y4, y5, y6⟩ := unhide HK5 _ hB8)
      | (go_at_call 107; refine (up_int _ _ _ _ b k lo _ ((unhide hs).lo.below (by (repeat' (first | with_reducible exact Below.refl _ _ | with_reducible refine Below.drew ?_ | with_reducible refine balloc ?_ _)) <;> fail)) (by omega) (by omega)).mono ?_; rintro r w7 ⟨neg7, a7, n7, c7, rfl, hint7, hb7⟩; have hB7 : Below wc.heap.size wc w7 := bthen (by (repeat' (first | with_reducible exact Below.refl _ _ | with_reducible refine Below.drew ?_ | with_reducible refine balloc ?_ _)) <;> fail) hb7))
  all_goals
    go_wp2_with fail
    refine bodyPost_ret (v := .agg #[.bool neg8, .slice a8 n8 c8, .bool x.neg, .slice x.a x.n x.cap, .int .i64 b]) (by simp [results, Try.results96, go_sem, l8, q0, q1, q2, q3, q4]) rfl ⟨⟨neg8, a8, n8, c8, x.neg, x.a, x.n, x.cap, b⟩, rfl, rfl, ?_, ?_, ?_⟩
    · exact SpAt.put5 ⟨hint8.mono (by omega), (unhide hint).below hB8⟩ q0 q1 q2 q3 q4 _ _ _ _ _
    · exact set5 (bthen hBW hB8) (by omega) _ _ _ _ _
    · exact MineS.put5 _ _ _ _ _ _ (h := ⟨fr8.mono (bthen hBW hB7).size, frx.below hB8⟩)

set_option maxRecDepth 100000 in
set_option maxHeartbeats 2000000 in
theorem sroot1_fr (w : World) (B0 : Nat) (s : Sp) (k b : Nat) (lo hi : Int) (hs : SpAt w s k lo hi) (hk : k ≤ 30000000) (hb : b ≤ 1000000) (hbits : s.bits = b) (hp : 0 ≤ lo) (a : SpC w B0 s) :
    Calls Try.prog 95 #[.pointer (some ⟨B0, 0, none⟩)] w (PairF w s.bits (b / 16 + k + 20) (rtZ (lo * Q b)) (rtU (hi * Q b)) 0) := by
  have HBT := hide hbits
  have t1 : ¬ cmpInt lo 0 < 0 := by unfold cmpInt; rw [if_neg (by omega)]; split <;> omega
  obtain ⟨W, hW⟩ : ∃ W, W = w.alloc (.cells #[.bool false, .slice none 0 0, .bool false, .slice none 0 0, .int .i64 0] 26) := ⟨_, rfl⟩
  have hBW : Below w.heap.size w W := by rw [hW]; exact bl1 _ _
  have R : NoC W w.heap.size := by rw [hW]; exact noc_new _ _
  have A := a.below hBW
  replace hs := hs.below hBW
  have lA := A.lt
  obtain ⟨y0, y1, y2, y3, y4⟩ := A
  clear a hp hbits
  go_enter Try.func95, Try.ntmps95
  go_upto_region 1 with fail
  rw [← hW]
  clear hW
  go_wp2_with fail
  refine (sign_int _ _ _ _ k lo _ hs.lo).mono ?_
  rintro r w1 ⟨rfl, hb1⟩
  have A := (SpC.mk y0 y1 y2 y3 y4).below hb1
  replace R := R.below hb1
  replace hs := hs.below hb1
  replace hBW := bthen hBW hb1
  clear y0 y1 y2 y3 y4 lA hb1
  have lA := A.lt
  obtain ⟨y0, y1, y2, y3, y4⟩ := A
  go_wp2_with fail
  refine (wideRoot_fr _ s k b lo hi hs hk hb (unhide HBT)).mono ?_
  rintro r w3 ⟨u, rfl, hub, hup, hb3, fr⟩
  replace fr := fr.mono (m' := w.heap.size) hBW.size
  have HU := hide hub
  clear hub
  replace R := R.below hb3
  replace hBW := bthen hBW hb3
  have lR := R.lt
  obtain ⟨q0, q1, q2, q3, q4, q5⟩ := R
  go_wp2_with fail
  refine bodyPost_ret (v := .tuple #[.agg #[.bool u.ln, .slice u.la u.lN u.lc, .bool u.hn, .slice u.ha u.hN u.hc, .int .i64 u.bits], .int .i64 0]) (by simp [results, Try.results95, go_sem, lR, q0, q1, q2, q3, q4]) rfl ⟨u, rfl, (unhide HU).trans (unhide HBT).symm, ?_, ?_, ?_⟩
  · exact SpAt.put5 hup q0 q1 q2 q3 q4 _ _ _ _ _
  · exact set5 hBW (Nat.le_refl _) _ _ _ _ _
  · exact fr.put5 _ _ _ _ _ _

set_option maxRecDepth 100000 in
set_option maxHeartbeats 2000000 in
theorem madeF_bad_Root (p1 : Value) (B : Nat) (W : World) (f : Nat → Sp) (d e : Nat → Nat → Int) (n cap : Nat) (hn : n ≤ 1000) (hS : Spans W B n f d e) (E : Int) (h0 : ∀ z, Flt (fun j => chkE (f j) (d j) (e j)) (fun j => (f j).bits) n z → z = E) (hE : E ≠ 0) (k : Nat) :
    Calls Try.prog 72 #[.func (.func 95) #[] #[p1], .slice (some ⟨B, 0, none⟩) n cap] W (PairF W 0 k 0 0 E) := by
  have HZ := hide h0
  have HS := hide hS
  have hE' : (E != 0) = true := by simpa using hE
  clear h0 hS hE
  go_enter Try.func72, Try.ntmps72
  go_wp2_with fail
  refine (fault_any _ _ _ f d e _ ((unhide HS).below (bl1 _ _)) hn).mono ?_
  rintro r w1 ⟨z, rfl, hz, hb1'⟩
  have hz0 := unhide HZ z hz
  subst hz0
  obtain ⟨q0, q1, q2, q3, q4, q5⟩ := (noc_new W 26).below hb1'
  have hB1 : Below W.heap.size W w1 := bthen (bl1 _ _) hb1'
  clear hz
  go_wp2_with fail
  refine bodyPost_ret (v := .tuple #[.agg #[.bool false, .slice none 0 0, .bool false, .slice none 0 0, .int .i64 0], .int .i64 z]) (by simp [results, Try.results72, go_sem, q0, q1, q2, q3, q4]) rfl ⟨⟨false, none, 0, 0, false, none, 0, 0, 0⟩, rfl, rfl, zeroSp _ _, ?_, zeroMine _ _⟩
  exact set5 hB1 (Nat.le_refl _) _ _ _ _ _

set_option maxRecDepth 100000 in
set_option maxHeartbeats 2000000 in
theorem madeF_err_Root (p1 : Value) (B : Nat) (W : World) (f : Nat → Sp) (d e : Nat → Nat → Int) (n cap : Nat) (hn : n ≤ 1000) (hS : Spans W B n f d e) (h0 : ∀ z, Flt (fun j => chkE (f j) (d j) (e j)) (fun j => (f j).bits) n z → z = 0) (b : Int) (k : Nat) (lo hi er : Int) (her : er ≠ 0)
    (hF : ∀ w', Below W.heap.size W w' → Calls Try.prog 95 #[p1] w' (PairAns w' b k lo hi er)) :
    Calls Try.prog 72 #[.func (.func 95) #[] #[p1], .slice (some ⟨B, 0, none⟩) n cap] W (PairF W 0 k 0 0 er) := by
  have HF := hide hF
  have HZ := hide h0
  have HS := hide hS
  have hE' : (er != 0) = true := by simpa using her
  clear hF h0 hS her
  go_enter Try.func72, Try.ntmps72
  go_wp2_with fail
  refine (fault_any _ _ _ f d e _ ((unhide HS).below (bl1 _ _)) hn).mono ?_
  rintro r w1 ⟨z, rfl, hz, hb1'⟩
  have hz0 := unhide HZ z hz
  subst hz0
  have hN1 := (noc_new W 26).below hb1'
  have hB1 : Below W.heap.size W w1 := bthen (bl1 _ _) hb1'
  clear hz
  go_wp2_with fail
  refine (unhide HF _ hB1).mono ?_
  rintro r w2 ⟨s, rfl, hsb, hsp, hb3⟩
  have hB2 := bthen hB1 hb3
  have hN2 := hN1.below hb3
  have hlt := hN2.lt
  obtain ⟨q0, q1, q2, q3, q4, q5⟩ := hN2
  have HB := hide hsb
  clear hsb hb1'
  go_wp2_with fail
  refine bodyPost_ret (v := .tuple #[.agg #[.bool false, .slice none 0 0, .bool false, .slice none 0 0, .int .i64 0], .int .i64 er]) (by simp [results, Try.results72, go_sem, hlt, q0, q1, q2, q3, q4]) rfl ⟨⟨false, none, 0, 0, false, none, 0, 0, 0⟩, rfl, rfl, zeroSp _ _, ?_, zeroMine _ _⟩
  first | with_reducible exact set5 (balloc hB2 _) (Nat.le_refl _) _ _ _ _ _ | with_reducible exact balloc (set5 hB2 (Nat.le_refl _) _ _ _ _ _) _

set_option maxRecDepth 100000 in
set_option maxHeartbeats 2000000 in
theorem madeF_fit_Root (p1 : Value) (B : Nat) (W : World) (f : Nat → Sp) (d e : Nat → Nat → Int) (n cap : Nat) (hn : n ≤ 1000) (hS : Spans W B n f d e) (h0 : ∀ z, Flt (fun j => chkE (f j) (d j) (e j)) (fun j => (f j).bits) n z → z = 0) (b : Int) (k : Nat) (lo hi : Int)
    (hF : ∀ w', Below W.heap.size W w' → Calls Try.prog 95 #[p1] w' (PairF w' b k lo hi 0)) (hle : lo ≤ hi) (hb1 : 1 ≤ b) (hb2 : b ≤ 120) :
    Calls Try.prog 72 #[.func (.func 95) #[] #[p1], .slice (some ⟨B, 0, none⟩) n cap] W (PairF W (fitZ lo hi b) k (fitZ lo hi lo) (fitZ lo hi hi) (fitE lo hi)) := by
  have HF := hide hF
  have HZ := hide h0
  have HS := hide hS
  clear hF h0 hS
  go_enter Try.func72, Try.ntmps72
  go_wp2_with fail
  refine (fault_any _ _ _ f d e _ ((unhide HS).below (bl1 _ _)) hn).mono ?_
  rintro r w1 ⟨z, rfl, hz, hb1'⟩
  have hz0 := unhide HZ z hz
  subst hz0
  have hN1 := (noc_new W 26).below hb1'
  have hB1 : Below W.heap.size W w1 := bthen (bl1 _ _) hb1'
  clear hz
  go_wp2_with fail
  refine (unhide HF _ hB1).mono ?_
  rintro r w2 ⟨s, rfl, hsb, hsp, hb3, fr⟩
  have hB2 := bthen hB1 hb3
  have hN2 := hN1.below hb3
  have hlt := hN2.lt
  obtain ⟨dd, ee, hdig, hchk⟩ := chk_fit hsp hle (by omega) (by omega)
  obtain ⟨q0, q1, q2, q3, q4, q5⟩ := hN2
  have HB := hide hsb
  have HC := hide hchk
  clear hsb hb1' hchk
  go_wp2_with fail
  refine (fit_any _ s dd ee (hdig.below (bl1 _ _))).mono ?_
  rintro r w3 ⟨hr, hb4⟩
  have hB3 : Below w2.heap.size w2 w3 := bthen (bl1 _ _) hb4
  have hN3 := (NoC.mk q0 q1 q2 q3 q4 q5).below hB3
  obtain ⟨t0, t1, t2, t3, t4, t5⟩ := hN3
  have hr' : ∃ u : Sp, r = .returned (.tuple #[.agg #[.bool u.ln, .slice u.la u.lN u.lc, .bool u.hn, .slice u.ha u.hN u.hc, .int .i64 u.bits], .int .i64 (fitE lo hi)]) ∧ u.bits = fitZ lo hi b ∧ SpAt w3 u k (fitZ lo hi lo) (fitZ lo hi hi) ∧ MineS W.heap.size w3 u := by
    have hc := unhide HC
    rcases fit_cases lo hi with ⟨_, f2, f3⟩ | ⟨_, f2, f3⟩
    · rcases hr with ⟨h1, h⟩ | ⟨h1, h⟩
      · omega
      · refine ⟨⟨false, none, 0, 0, false, none, 0, 0, 0⟩, by rw [h, hc], by rw [f3], ?_, zeroMine _ _⟩
        rw [f3, f3]; exact zeroSp _ _
    · rcases hr with ⟨h1, h⟩ | ⟨h1, h⟩
      · refine ⟨s, by rw [h, f2], by rw [f3]; exact unhide HB, ?_, (fr.mono hB1.size).below hB3⟩
        rw [f3, f3]; exact hsp.below hB3
      · omega
  obtain ⟨u, hru, hub, hup, fru⟩ := hr'
  clear hr
  rw [hru]
  clear hru
  have HU := hide hub
  clear hub
  have hB9 := bthen hB2 hB3
  generalize fitE lo hi = er at *
  go_wp2_with fail
  refine bodyPost_ret (v := .tuple #[.agg #[.bool u.ln, .slice u.la u.lN u.lc, .bool u.hn, .slice u.ha u.hN u.hc, .int .i64 u.bits], .int .i64 er]) (by simp [results, Try.results72, go_sem, t0, t1, t2, t3, t4]) rfl ⟨u, rfl, unhide HU, ?_, ?_, ?_⟩
  · exact SpAt.putN hup ⟨t0, t1, t2, t3, t4, t5⟩ _ _ _ _ _
  · exact set5 hB9 (Nat.le_refl _) _ _ _ _ _
  · exact fru.put5 _ _ _ _ _ _

set_option maxRecDepth 100000 in
set_option maxHeartbeats 2000000 in
theorem spanF_Root (w : World) (s : Sp) (d e : Nat → Int) (hs : SpDig w s d e) (b' : Int) (k : Nat) (lo hi er : Int)
    (hM : ∀ (W : World) (B0 B cap : Nat), Below w.heap.size w W → SpC W B0 s → Spans W B 1 (fun _ => s) (fun _ => d) (fun _ => e) → Calls Try.prog 72 #[.func (.func 95) #[] #[.pointer (some ⟨B0, 0, none⟩)], .slice (some ⟨B, 0, none⟩) 1 cap] W (PairF W b' k lo hi er)) :
    Calls Try.prog 38 #[.agg #[.bool s.ln, .slice s.la s.lN s.lc, .bool s.hn, .slice s.ha s.hN s.hc, .int .i64 s.bits]] w (PairF w b' k lo hi er) := by
  have HM := hide hM
  have HS := hide (fun W hS => spans1 W s d e 26 hS)
  clear hM
  go_enter Try.func38, Try.ntmps38
  go_wp2_with fail
  obtain ⟨W, hW⟩ : ∃ W, W = (w.alloc (.cells #[.bool s.ln, .slice s.la s.lN s.lc, .bool s.hn, .slice s.ha s.hN s.hc, .int .i64 s.bits] 26)).alloc (.cells #[.bool false, .slice none 0 0, .bool false, .slice none 0 0, .int .i64 0] 26) := ⟨_, rfl⟩
  have s3 : W.heap.size = w.heap.size + 1 + 1 := by rw [hW]; simp
  have hBW : Below w.heap.size w W := by rw [hW]; exact bl2 _ _ _
  have a0 : SpC W w.heap.size s := by rw [hW]; exact ⟨by simp [go_sem], by simp [go_sem], by simp [go_sem], by simp [go_sem], by simp [go_sem]⟩
  have r0 : NoC W (w.heap.size + 1) := by rw [hW]; exact ⟨by simp [go_sem], by simp [go_sem], by simp [go_sem], by simp [go_sem], by simp [go_sem], fun o => by simp [go_sem]⟩
  rw [← hW, ← s3]
  clear hW
  refine (unhide HM _ _ _ _ (bthen hBW (bl1 _ _)) (a0.below (bl1 _ _)) (unhide HS W (hs.below hBW))).mono ?_
  rintro r w1 ⟨u, rfl, hub, hup, hb1, fr⟩
  have hB1 : Below W.heap.size W w1 := bthen (bl1 _ _) hb1
  obtain ⟨q0, q1, q2, q3, q4, q5⟩ := r0.below hB1
  have HB := hide hub
  clear hub
  go_wp2_with fail
  refine bodyPost_ret (v := .tuple #[.agg #[.bool u.ln, .slice u.la u.lN u.lc, .bool u.hn, .slice u.ha u.hN u.hc, .int .i64 u.bits], .int .i64 er]) (by simp [results, Try.results38, go_sem, q0, q1, q2, q3, q4]) rfl ⟨u, rfl, unhide HB, ?_, ?_, ?_⟩
  · exact SpAt.put5 hup q0 q1 q2 q3 q4 _ _ _ _ _
  · exact set5 (bthen hBW hB1) (by omega) _ _ _ _ _
  · exact (fr.mono (bthen hBW (bl1 _ _)).size).put5 _ _ _ _ _ _

end Go.Proofs.Ytgmnknmjainabaa

namespace Go.Proofs.Ytgmnknmjainabaa
set_option linter.unusedVariables false
set_option linter.unusedSimpArgs false
set_option linter.unnecessarySimpa false
open Go.RowKit
attribute [local go_sem ↓] Go.wp_at_zero Go.wp_at_succ

def SaidPF (F : Nat) (s t : Sp) (d e d' e' : Nat → Int) (b : Int) (k : Nat) (lo hi er : Int) : Prop :=
  ∀ W, SpDig W s d e → SpDig W t d' e' → Calls Try.prog F #[.agg #[.bool s.ln, .slice s.la s.lN s.lc, .bool s.hn, .slice s.ha s.hN s.hc, .int .i64 s.bits], .agg #[.bool t.ln, .slice t.la t.lN t.lc, .bool t.hn, .slice t.ha t.hN t.hc, .int .i64 t.bits]] W (PairF W b k lo hi er)
def SaidTF (s : Sp) (bt : Int) (d e : Nat → Int) (b : Int) (k : Nat) (lo hi er : Int) : Prop :=
  ∀ W, SpDig W s d e → Calls Try.prog 16 #[.agg #[.bool s.ln, .slice s.la s.lN s.lc, .bool s.hn, .slice s.ha s.hN s.hc, .int .i64 s.bits], .int .i64 bt] W (PairF W b k lo hi er)
def SaidRF (s : Sp) (d e : Nat → Int) (b : Int) (k : Nat) (lo hi er : Int) : Prop :=
  ∀ W, SpDig W s d e → Calls Try.prog 38 #[.agg #[.bool s.ln, .slice s.la s.lN s.lc, .bool s.hn, .slice s.ha s.hN s.hc, .int .i64 s.bits]] W (PairF W b k lo hi er)
theorem add1_fr2 (w : World) (B0 B1 : Nat) (s t : Sp) (k : Nat) (lo hi lo' hi' : Int) (hs : SpAt w s k lo hi) (ht : SpAt w t k lo' hi') (hk : k ≤ 300000000) (a : SpC w B0 s) (g : SpC w B1 t) :
    Calls Try.prog 81 #[.pointer (some ⟨B0, 0, none⟩), .pointer (some ⟨B1, 0, none⟩)] w (PairF w s.bits (k + 1) (lo + lo') (hi + hi') 0) :=
  add1_fr w B0 B1 s t k lo hi lo' hi' hs ht (by omega) a.c0 a.c1 a.c2 a.c3 a.c4 g.c0 g.c1 g.c2 g.c3 g.c4

theorem spanFAdd_bad (w : World) (s t : Sp) (d e d' e' : Nat → Int) (hs : SpDig w s d e) (ht : SpDig w t d' e') (hE : fltE2 (chkE s d e) (chkE t d' e') s.bits t.bits ≠ 0) (k : Nat) :
    Calls Try.prog 27 #[.agg #[.bool s.ln, .slice s.la s.lN s.lc, .bool s.hn, .slice s.ha s.hN s.hc, .int .i64 s.bits], .agg #[.bool t.ln, .slice t.la t.lN t.lc, .bool t.hn, .slice t.ha t.hN t.hc, .int .i64 t.bits]] w (PairF w 0 k 0 0 (fltE2 (chkE s d e) (chkE t d' e') s.bits t.bits)) :=
  spanF_Add w s t d e d' e' hs ht _ _ _ _ _ fun W B0 B1 B cap _ _ _ hS => madeF_bad_Add _ _ B W _ _ _ 2 cap (by omega) hS _ (fun z hz => flt_pr hz) hE k
theorem saidFAdd (s t : Sp) (d e d' e' : Nat → Int) (hE : fltE2 (chkE s d e) (chkE t d' e') s.bits t.bits = 0) (lo hi lo' hi' : Int) (hlo : lo = loZ s d) (hhi : hi = hiZ s e) (hlo' : lo' = loZ t d') (hhi' : hi' = hiZ t e') :
    SaidPF 27 s t d e d' e' (fitZ (lo + lo') (hi + hi') s.bits) 600 (fitZ (lo + lo') (hi + hi') (lo + lo')) (fitZ (lo + lo') (hi + hi') (hi + hi')) (fitE (lo + lo') (hi + hi')) := by
  intro W hs ht
  obtain ⟨c1, c2, hbt⟩ := flt0 hE
  obtain ⟨p1, p2, p3, p4⟩ := chk_ok hs c1
  obtain ⟨r1, r2, r3, r4⟩ := chk_ok ht c2
  subst hlo hhi hlo' hhi'
  replace p1 : SpAt W s 250 (loZ s d) (hiZ s e) := p1
  replace r1 : SpAt W t 250 (loZ t d') (hiZ t e') := r1
  have hl : loZ s d ≤ hiZ s e := p4
  have hl' : loZ t d' ≤ hiZ t e' := r4
  refine spanF_Add W s t d e d' e' hs ht _ _ _ _ _ fun W1 B0 B1 B cap hB hA hG hS => ?_
  exact madeF_fit_Add _ _ B W1 _ _ _ 2 cap (by omega) hS (fun z hz => by rw [flt_pr hz, hE]) s.bits 600 _ _
    (fun w' hb => (add1_fr2 w' B0 B1 s t 250 _ _ _ _ ((p1.below hB).below hb) ((r1.below hB).below hb) (by omega) (hA.below hb) (hG.below hb)).mono fun r w2 h => h.mono (by omega)) (by omega) p2 p3
theorem frAdd (s t : Sp) (d e d' e' : Nat → Int) : ∃ b lo hi er, SaidPF 27 s t d e d' e' b 70000 lo hi er := by
  by_cases hE : fltE2 (chkE s d e) (chkE t d' e') s.bits t.bits = 0
  · exact ⟨_, _, _, _, fun W hs ht => (saidFAdd s t d e d' e' hE _ _ _ _ rfl rfl rfl rfl W hs ht).mono fun _ _ h => h.mono (by omega)⟩
  · exact ⟨_, _, _, _, fun W hs ht => spanFAdd_bad W s t d e d' e' hs ht hE 70000⟩

theorem spanFMul_bad (w : World) (s t : Sp) (d e d' e' : Nat → Int) (hs : SpDig w s d e) (ht : SpDig w t d' e') (hE : fltE2 (chkE s d e) (chkE t d' e') s.bits t.bits ≠ 0) (k : Nat) :
    Calls Try.prog 29 #[.agg #[.bool s.ln, .slice s.la s.lN s.lc, .bool s.hn, .slice s.ha s.hN s.hc, .int .i64 s.bits], .agg #[.bool t.ln, .slice t.la t.lN t.lc, .bool t.hn, .slice t.ha t.hN t.hc, .int .i64 t.bits]] w (PairF w 0 k 0 0 (fltE2 (chkE s d e) (chkE t d' e') s.bits t.bits)) :=
  spanF_Mul w s t d e d' e' hs ht _ _ _ _ _ fun W B0 B1 B cap _ _ _ hS => madeF_bad_Mul _ _ B W _ _ _ 2 cap (by omega) hS _ (fun z hz => flt_pr hz) hE k
theorem saidFMul (s t : Sp) (d e d' e' : Nat → Int) (hE : fltE2 (chkE s d e) (chkE t d' e') s.bits t.bits = 0) (lo hi lo' hi' : Int) (hlo : lo = loZ s d) (hhi : hi = hiZ s e) (hlo' : lo' = loZ t d') (hhi' : hi' = hiZ t e') :
    SaidPF 29 s t d e d' e' (fitZ (downZ (leastZ (pr4 (lo * lo') (lo * hi') (hi * lo') (hi * hi')) 3) s.bits) (-(downZ (-(mostZ (pr4 (lo * lo') (lo * hi') (hi * lo') (hi * hi')) 3)) s.bits)) s.bits) 600 (fitZ (downZ (leastZ (pr4 (lo * lo') (lo * hi') (hi * lo') (hi * hi')) 3) s.bits) (-(downZ (-(mostZ (pr4 (lo * lo') (lo * hi') (hi * lo') (hi * hi')) 3)) s.bits)) (downZ (leastZ (pr4 (lo * lo') (lo * hi') (hi * lo') (hi * hi')) 3) s.bits)) (fitZ (downZ (leastZ (pr4 (lo * lo') (lo * hi') (hi * lo') (hi * hi')) 3) s.bits) (-(downZ (-(mostZ (pr4 (lo * lo') (lo * hi') (hi * lo') (hi * hi')) 3)) s.bits)) (-(downZ (-(mostZ (pr4 (lo * lo') (lo * hi') (hi * lo') (hi * hi')) 3)) s.bits))) (fitE (downZ (leastZ (pr4 (lo * lo') (lo * hi') (hi * lo') (hi * hi')) 3) s.bits) (-(downZ (-(mostZ (pr4 (lo * lo') (lo * hi') (hi * lo') (hi * hi')) 3)) s.bits))) := by
  intro W hs ht
  obtain ⟨c1, c2, hbt⟩ := flt0 hE
  obtain ⟨p1, p2, p3, p4⟩ := chk_ok hs c1
  obtain ⟨r1, r2, r3, r4⟩ := chk_ok ht c2
  subst hlo hhi hlo' hhi'
  replace p1 : SpAt W s 250 (loZ s d) (hiZ s e) := p1
  replace r1 : SpAt W t 250 (loZ t d') (hiZ t e') := r1
  have hl : loZ s d ≤ hiZ s e := p4
  have hl' : loZ t d' ≤ hiZ t e' := r4
  refine spanF_Mul W s t d e d' e' hs ht _ _ _ _ _ fun W1 B0 B1 B cap hB hA hG hS => ?_
  exact madeF_fit_Mul _ _ B W1 _ _ _ 2 cap (by omega) hS (fun z hz => by rw [flt_pr hz, hE]) s.bits 600 _ _
    (fun w' hb => (mul1_fr w' B0 B1 s t 250 _ _ _ _ ((p1.below hB).below hb) ((r1.below hB).below hb) (by omega) (by omega) (by omega) (hA.below hb) (hG.below hb)).mono fun r w2 h => h.mono (by omega)) (Int.le_trans (downZ_le (least_le_most _ _)) (downZ_ceil _ _)) p2 p3
theorem frMul (s t : Sp) (d e d' e' : Nat → Int) : ∃ b lo hi er, SaidPF 29 s t d e d' e' b 70000 lo hi er := by
  by_cases hE : fltE2 (chkE s d e) (chkE t d' e') s.bits t.bits = 0
  · exact ⟨_, _, _, _, fun W hs ht => (saidFMul s t d e d' e' hE _ _ _ _ rfl rfl rfl rfl W hs ht).mono fun _ _ h => h.mono (by omega)⟩
  · exact ⟨_, _, _, _, fun W hs ht => spanFMul_bad W s t d e d' e' hs ht hE 70000⟩

theorem spanFHull_bad (w : World) (s t : Sp) (d e d' e' : Nat → Int) (hs : SpDig w s d e) (ht : SpDig w t d' e') (hE : fltE2 (chkE s d e) (chkE t d' e') s.bits t.bits ≠ 0) (k : Nat) :
    Calls Try.prog 30 #[.agg #[.bool s.ln, .slice s.la s.lN s.lc, .bool s.hn, .slice s.ha s.hN s.hc, .int .i64 s.bits], .agg #[.bool t.ln, .slice t.la t.lN t.lc, .bool t.hn, .slice t.ha t.hN t.hc, .int .i64 t.bits]] w (PairF w 0 k 0 0 (fltE2 (chkE s d e) (chkE t d' e') s.bits t.bits)) :=
  spanF_Hull w s t d e d' e' hs ht _ _ _ _ _ fun W B0 B1 B cap _ _ _ hS => madeF_bad_Hull _ _ B W _ _ _ 2 cap (by omega) hS _ (fun z hz => flt_pr hz) hE k
theorem saidFHull (s t : Sp) (d e d' e' : Nat → Int) (hE : fltE2 (chkE s d e) (chkE t d' e') s.bits t.bits = 0) (lo hi lo' hi' : Int) (hlo : lo = loZ s d) (hhi : hi = hiZ s e) (hlo' : lo' = loZ t d') (hhi' : hi' = hiZ t e') :
    SaidPF 30 s t d e d' e' (fitZ (minZ lo lo') (maxZ hi hi') s.bits) 600 (fitZ (minZ lo lo') (maxZ hi hi') (minZ lo lo')) (fitZ (minZ lo lo') (maxZ hi hi') (maxZ hi hi')) (fitE (minZ lo lo') (maxZ hi hi')) := by
  intro W hs ht
  obtain ⟨c1, c2, hbt⟩ := flt0 hE
  obtain ⟨p1, p2, p3, p4⟩ := chk_ok hs c1
  obtain ⟨r1, r2, r3, r4⟩ := chk_ok ht c2
  subst hlo hhi hlo' hhi'
  replace p1 : SpAt W s 250 (loZ s d) (hiZ s e) := p1
  replace r1 : SpAt W t 250 (loZ t d') (hiZ t e') := r1
  have hl : loZ s d ≤ hiZ s e := p4
  have hl' : loZ t d' ≤ hiZ t e' := r4
  refine spanF_Hull W s t d e d' e' hs ht _ _ _ _ _ fun W1 B0 B1 B cap hB hA hG hS => ?_
  exact madeF_fit_Hull _ _ B W1 _ _ _ 2 cap (by omega) hS (fun z hz => by rw [flt_pr hz, hE]) s.bits 600 _ _
    (fun w' hb => (hull1_fr w' B0 B1 s t 250 _ _ _ _ ((p1.below hB).below hb) ((r1.below hB).below hb) (by omega) (hA.below hb) (hG.below hb)).mono fun r w2 h => h.mono (by omega)) (minZ_le _ _ _ _ hl) p2 p3
theorem frHull (s t : Sp) (d e d' e' : Nat → Int) : ∃ b lo hi er, SaidPF 30 s t d e d' e' b 70000 lo hi er := by
  by_cases hE : fltE2 (chkE s d e) (chkE t d' e') s.bits t.bits = 0
  · exact ⟨_, _, _, _, fun W hs ht => (saidFHull s t d e d' e' hE _ _ _ _ rfl rfl rfl rfl W hs ht).mono fun _ _ h => h.mono (by omega)⟩
  · exact ⟨_, _, _, _, fun W hs ht => spanFHull_bad W s t d e d' e' hs ht hE 70000⟩

theorem spanFMeet_bad (w : World) (s t : Sp) (d e d' e' : Nat → Int) (hs : SpDig w s d e) (ht : SpDig w t d' e') (hE : fltE2 (chkE s d e) (chkE t d' e') s.bits t.bits ≠ 0) (k : Nat) :
    Calls Try.prog 39 #[.agg #[.bool s.ln, .slice s.la s.lN s.lc, .bool s.hn, .slice s.ha s.hN s.hc, .int .i64 s.bits], .agg #[.bool t.ln, .slice t.la t.lN t.lc, .bool t.hn, .slice t.ha t.hN t.hc, .int .i64 t.bits]] w (PairF w 0 k 0 0 (fltE2 (chkE s d e) (chkE t d' e') s.bits t.bits)) :=
  spanF_Meet w s t d e d' e' hs ht _ _ _ _ _ fun W B0 B1 B cap _ _ _ hS => madeF_bad_Meet _ _ B W _ _ _ 2 cap (by omega) hS _ (fun z hz => flt_pr hz) hE k
theorem saidFMeetA (s t : Sp) (d e d' e' : Nat → Int) :
    SaidPF 39 s t d e d' e' (anV (fltE2 (chkE s d e) (chkE t d' e') s.bits t.bits) (meG (loZ s d) (hiZ s e) (loZ t d') (hiZ t e')) (maxZ (loZ s d) (loZ t d')) (minZ (hiZ s e) (hiZ t e')) s.bits) 600 (anV (fltE2 (chkE s d e) (chkE t d' e') s.bits t.bits) (meG (loZ s d) (hiZ s e) (loZ t d') (hiZ t e')) (maxZ (loZ s d) (loZ t d')) (minZ (hiZ s e) (hiZ t e')) (maxZ (loZ s d) (loZ t d'))) (anV (fltE2 (chkE s d e) (chkE t d' e') s.bits t.bits) (meG (loZ s d) (hiZ s e) (loZ t d') (hiZ t e')) (maxZ (loZ s d) (loZ t d')) (minZ (hiZ s e) (hiZ t e')) (minZ (hiZ s e) (hiZ t e'))) (anE (fltE2 (chkE s d e) (chkE t d' e') s.bits t.bits) (meG (loZ s d) (hiZ s e) (loZ t d') (hiZ t e')) (maxZ (loZ s d) (loZ t d')) (minZ (hiZ s e) (hiZ t e'))) := by
  intro W hs ht
  by_cases hE : (fltE2 (chkE s d e) (chkE t d' e') s.bits t.bits) = 0
  · obtain ⟨c1, c2, hbt⟩ := flt0 hE
    obtain ⟨p1, p2, p3, p4⟩ := chk_ok hs c1
    obtain ⟨r1, r2, r3, r4⟩ := chk_ok ht c2
    replace p1 : SpAt W s 250 (loZ s d) (hiZ s e) := p1
    replace r1 : SpAt W t 250 (loZ t d') (hiZ t e') := r1
    have hl : loZ s d ≤ hiZ s e := p4
    have hl' : loZ t d' ≤ hiZ t e' := r4
    obtain ⟨b, hb⟩ : ∃ b : Nat, s.bits = (b : Int) := ⟨s.bits.toNat, by omega⟩
    have hbn : s.bits.toNat = b := by omega
    refine spanF_Meet W s t d e d' e' hs ht _ _ _ _ _ fun W1 B0 B1 B cap hB hA hG hS => ?_
    by_cases hn : minZ (hiZ s e) (hiZ t e') < maxZ (loZ s d) (loZ t d')
    · have hg : meG (loZ s d) (hiZ s e) (loZ t d') (hiZ t e') = 5 := if_pos hn
      rw [hE, hg]
      obtain ⟨a1, a2⟩ := an_own (g := 5) (L := maxZ (loZ s d) (loZ t d')) (H := minZ (hiZ s e) (hiZ t e')) (by decide)
      rw [a1, a2, a2, a2]
      exact madeF_err_Meet _ _ B W1 _ _ _ 2 cap (by omega) hS (fun z hz => by rw [flt_pr hz, hE]) 0 600 0 0 5 (by decide)
        (fun w' hb => (meet1_fr w' B0 B1 s t 250 _ _ _ _ ((p1.below hB).below hb) ((r1.below hB).below hb) (by omega) (hA.below hb) (hG.below hb)).mono fun r w2 h => (h.1 hn).mono (by omega))
    · have hg : meG (loZ s d) (hiZ s e) (loZ t d') (hiZ t e') = 0 := if_neg hn
      rw [hE, hg]
      obtain ⟨a1, a2⟩ := an_fit (L := maxZ (loZ s d) (loZ t d')) (H := minZ (hiZ s e) (hiZ t e'))
      rw [a1, a2, a2, a2]
      exact madeF_fit_Meet _ _ B W1 _ _ _ 2 cap (by omega) hS (fun z hz => by rw [flt_pr hz, hE]) s.bits 600 _ _
        (fun w' hb9 => (meet1_fr w' B0 B1 s t 250 _ _ _ _ ((p1.below hB).below hb9) ((r1.below hB).below hb9) (by omega) (hA.below hb9) (hG.below hb9)).mono fun r w2 h => (h.2 (by omega)).mono (by omega)) (by omega) p2 p3
  · obtain ⟨a1, a2⟩ := an_bad (g := (meG (loZ s d) (hiZ s e) (loZ t d') (hiZ t e'))) (L := maxZ (loZ s d) (loZ t d')) (H := minZ (hiZ s e) (hiZ t e')) hE
    rw [a1, a2, a2, a2]
    exact spanFMeet_bad W s t d e d' e' hs ht hE 600
theorem frMeet (s t : Sp) (d e d' e' : Nat → Int) : ∃ b lo hi er, SaidPF 39 s t d e d' e' b 70000 lo hi er :=
  ⟨_, _, _, _, fun W hs ht => (saidFMeetA s t d e d' e' W hs ht).mono fun _ _ h => h.mono (by omega)⟩

theorem spanFDiv_bad (w : World) (s t : Sp) (d e d' e' : Nat → Int) (hs : SpDig w s d e) (ht : SpDig w t d' e') (hE : fltE2 (chkE s d e) (chkE t d' e') s.bits t.bits ≠ 0) (k : Nat) :
    Calls Try.prog 37 #[.agg #[.bool s.ln, .slice s.la s.lN s.lc, .bool s.hn, .slice s.ha s.hN s.hc, .int .i64 s.bits], .agg #[.bool t.ln, .slice t.la t.lN t.lc, .bool t.hn, .slice t.ha t.hN t.hc, .int .i64 t.bits]] w (PairF w 0 k 0 0 (fltE2 (chkE s d e) (chkE t d' e') s.bits t.bits)) :=
  spanF_Div w s t d e d' e' hs ht _ _ _ _ _ fun W B0 B1 B cap _ _ _ hS => madeF_bad_Div _ _ B W _ _ _ 2 cap (by omega) hS _ (fun z hz => flt_pr hz) hE k
theorem saidFDivA (s t : Sp) (d e d' e' : Nat → Int) :
    SaidPF 37 s t d e d' e' (anV (fltE2 (chkE s d e) (chkE t d' e') s.bits t.bits) (dvG (loZ t d') (hiZ t e')) (dvLo (loZ s d) (hiZ s e) (loZ t d') (hiZ t e') s.bits.toNat) (dvHi (loZ s d) (hiZ s e) (loZ t d') (hiZ t e') s.bits.toNat) s.bits) 600 (anV (fltE2 (chkE s d e) (chkE t d' e') s.bits t.bits) (dvG (loZ t d') (hiZ t e')) (dvLo (loZ s d) (hiZ s e) (loZ t d') (hiZ t e') s.bits.toNat) (dvHi (loZ s d) (hiZ s e) (loZ t d') (hiZ t e') s.bits.toNat) (dvLo (loZ s d) (hiZ s e) (loZ t d') (hiZ t e') s.bits.toNat)) (anV (fltE2 (chkE s d e) (chkE t d' e') s.bits t.bits) (dvG (loZ t d') (hiZ t e')) (dvLo (loZ s d) (hiZ s e) (loZ t d') (hiZ t e') s.bits.toNat) (dvHi (loZ s d) (hiZ s e) (loZ t d') (hiZ t e') s.bits.toNat) (dvHi (loZ s d) (hiZ s e) (loZ t d') (hiZ t e') s.bits.toNat)) (anE (fltE2 (chkE s d e) (chkE t d' e') s.bits t.bits) (dvG (loZ t d') (hiZ t e')) (dvLo (loZ s d) (hiZ s e) (loZ t d') (hiZ t e') s.bits.toNat) (dvHi (loZ s d) (hiZ s e) (loZ t d') (hiZ t e') s.bits.toNat)) := by
  intro W hs ht
  by_cases hE : (fltE2 (chkE s d e) (chkE t d' e') s.bits t.bits) = 0
  · obtain ⟨c1, c2, hbt⟩ := flt0 hE
    obtain ⟨p1, p2, p3, p4⟩ := chk_ok hs c1
    obtain ⟨r1, r2, r3, r4⟩ := chk_ok ht c2
    replace p1 : SpAt W s 250 (loZ s d) (hiZ s e) := p1
    replace r1 : SpAt W t 250 (loZ t d') (hiZ t e') := r1
    have hl : loZ s d ≤ hiZ s e := p4
    have hl' : loZ t d' ≤ hiZ t e' := r4
    obtain ⟨b, hb⟩ : ∃ b : Nat, s.bits = (b : Int) := ⟨s.bits.toNat, by omega⟩
    have hbn : s.bits.toNat = b := by omega
    refine spanF_Div W s t d e d' e' hs ht _ _ _ _ _ fun W1 B0 B1 B cap hB hA hG hS => ?_
    by_cases hn : (loZ t d') ≤ 0 ∧ 0 ≤ (hiZ t e')
    · have hg : dvG (loZ t d') (hiZ t e') = 5 := if_pos hn
      rw [hE, hg]
      obtain ⟨a1, a2⟩ := an_own (g := 5) (L := dvLo (loZ s d) (hiZ s e) (loZ t d') (hiZ t e') s.bits.toNat) (H := dvHi (loZ s d) (hiZ s e) (loZ t d') (hiZ t e') s.bits.toNat) (by decide)
      rw [a1, a2, a2, a2]
      exact madeF_err_Div _ _ B W1 _ _ _ 2 cap (by omega) hS (fun z hz => by rw [flt_pr hz, hE]) 0 600 0 0 5 (by decide)
        (fun w' hb => (sdiv1_bad w' B0 B1 s t 250 _ _ ((r1.below hB).below hb) hn (hG.below hb)).mono fun r w2 h => h.mono (by omega))
    · have hg : dvG (loZ t d') (hiZ t e') = 0 := if_neg hn
      rw [hE, hg]
      obtain ⟨a1, a2⟩ := an_fit (L := dvLo (loZ s d) (hiZ s e) (loZ t d') (hiZ t e') s.bits.toNat) (H := dvHi (loZ s d) (hiZ s e) (loZ t d') (hiZ t e') s.bits.toNat)
      rw [a1, a2, a2, a2]
      exact madeF_fit_Div _ _ B W1 _ _ _ 2 cap (by omega) hS (fun z hz => by rw [flt_pr hz, hE]) s.bits 600 _ _
        (fun w' hb9 => by
          rw [hbn]
          exact (sdiv1_fr w' B0 B1 s t 250 b _ _ _ _ ((p1.below hB).below hb9) ((r1.below hB).below hb9) (by omega) (by omega) hb hl hn hl' (hA.below hb9) (hG.below hb9)).mono fun r w2 h => h.mono (by omega)) (dv_le _ _ _ _ _ hl hn hl') p2 p3
  · obtain ⟨a1, a2⟩ := an_bad (g := (dvG (loZ t d') (hiZ t e'))) (L := dvLo (loZ s d) (hiZ s e) (loZ t d') (hiZ t e') s.bits.toNat) (H := dvHi (loZ s d) (hiZ s e) (loZ t d') (hiZ t e') s.bits.toNat) hE
    rw [a1, a2, a2, a2]
    exact spanFDiv_bad W s t d e d' e' hs ht hE 600
theorem frDiv (s t : Sp) (d e d' e' : Nat → Int) : ∃ b lo hi er, SaidPF 37 s t d e d' e' b 70000 lo hi er :=
  ⟨_, _, _, _, fun W hs ht => (saidFDivA s t d e d' e' W hs ht).mono fun _ _ h => h.mono (by omega)⟩

theorem saidFRootA (s : Sp) (d e : Nat → Int) (W : World) (hs : SpDig W s d e) :
    Calls Try.prog 38 #[.agg #[.bool s.ln, .slice s.la s.lN s.lc, .bool s.hn, .slice s.ha s.hN s.hc, .int .i64 s.bits]] W (PairF W (anV (chkE s d e) (rtG (loZ s d)) (rtZ ((loZ s d) * Q s.bits.toNat)) (rtU ((hiZ s e) * Q s.bits.toNat)) s.bits) 600 (anV (chkE s d e) (rtG (loZ s d)) (rtZ ((loZ s d) * Q s.bits.toNat)) (rtU ((hiZ s e) * Q s.bits.toNat)) (rtZ ((loZ s d) * Q s.bits.toNat))) (anV (chkE s d e) (rtG (loZ s d)) (rtZ ((loZ s d) * Q s.bits.toNat)) (rtU ((hiZ s e) * Q s.bits.toNat)) (rtU ((hiZ s e) * Q s.bits.toNat))) (anE (chkE s d e) (rtG (loZ s d)) (rtZ ((loZ s d) * Q s.bits.toNat)) (rtU ((hiZ s e) * Q s.bits.toNat)))) := by
  by_cases hE : chkE s d e = 0
  · obtain ⟨p1, p2, p3, p4⟩ := chk_ok hs hE
    replace p1 : SpAt W s 250 (loZ s d) (hiZ s e) := p1
    have hl : loZ s d ≤ hiZ s e := p4
    obtain ⟨b, hb⟩ : ∃ b : Nat, s.bits = (b : Int) := ⟨s.bits.toNat, by omega⟩
    have hbn : s.bits.toNat = b := by omega
    refine spanF_Root W s d e hs _ _ _ _ _ fun W1 B0 B cap hB hA hS => ?_
    by_cases hn : (loZ s d) < 0
    · have hg : rtG (loZ s d) = 5 := if_pos hn
      rw [hE, hg]
      obtain ⟨a1, a2⟩ := an_own (g := 5) (L := rtZ ((loZ s d) * Q s.bits.toNat)) (H := rtU ((hiZ s e) * Q s.bits.toNat)) (by decide)
      rw [a1, a2, a2, a2]
      exact madeF_err_Root _ B W1 _ _ _ 1 cap (by omega) hS (fun z hz => by rw [flt_one hz, hE]) 0 600 0 0 5 (by decide)
        (fun w' hb => (sroot1_bad w' B0 s 250 _ _ ((p1.below hB).below hb) hn (hA.below hb)).mono fun r w2 h => h.mono (by omega))
    · have hg : rtG (loZ s d) = 0 := if_neg hn
      rw [hE, hg]
      obtain ⟨a1, a2⟩ := an_fit (L := rtZ ((loZ s d) * Q s.bits.toNat)) (H := rtU ((hiZ s e) * Q s.bits.toNat))
      rw [a1, a2, a2, a2]
      have hq := Q_pos s.bits.toNat
      exact madeF_fit_Root _ B W1 _ _ _ 1 cap (by omega) hS (fun z hz => by rw [flt_one hz, hE]) s.bits 600 _ _
        (fun w' hb9 => by
          rw [hbn]
          exact (sroot1_fr w' B0 s 250 b _ _ ((p1.below hB).below hb9) (by omega) (by omega) hb (by omega) (hA.below hb9)).mono fun r w2 h => h.mono (by omega)) (rtZ_le_rtU (Int.mul_le_mul_of_nonneg_right hl (by omega)) (Int.mul_nonneg (by omega) (by omega))) p2 p3
  · obtain ⟨a1, a2⟩ := an_bad (g := rtG (loZ s d)) (L := rtZ ((loZ s d) * Q s.bits.toNat)) (H := rtU ((hiZ s e) * Q s.bits.toNat)) hE
    rw [a1, a2, a2, a2]
    exact spanF_Root W s d e hs _ _ _ _ _ fun W1 B0 B cap hB hA hS => madeF_bad_Root _ B W1 _ _ _ 1 cap (by omega) hS _ (fun z hz => flt_one hz) hE 600
theorem frRoot (s : Sp) (d e : Nat → Int) : ∃ b lo hi er, SaidRF s d e b 70000 lo hi er :=
  ⟨_, _, _, _, fun W hs => (saidFRootA s d e W hs).mono fun _ _ h => h.mono (by omega)⟩

theorem saidFTo_bad (s : Sp) (bt : Int) (d e : Nat → Int) (hE : chkE s d e ≠ 0) : SaidTF s bt d e 0 70000 0 0 (chkE s d e) := fun W hs =>
  spanF_To W s bt d e hs _ _ _ _ _ fun W1 B0 B1 B cap _ _ _ _ hS => madeF_bad_To _ _ B W1 _ _ _ 1 cap (by omega) hS _ (fun z hz => flt_one hz) hE 70000
theorem saidFTo_err (s : Sp) (bt : Int) (d e : Nat → Int) (hE : chkE s d e = 0) (h : ¬ (8 ≤ bt ∧ bt ≤ 120)) : SaidTF s bt d e 0 70000 0 0 3 := fun W hs =>
  spanF_To W s bt d e hs _ _ _ _ _ fun W1 B0 B1 B cap _ _ g l hS => madeF_err_To _ _ B W1 _ _ _ 1 cap (by omega) hS (fun z hz => by rw [flt_one hz, hE]) 0 70000 0 0 3 (by omega)
    (fun w' hb => to1_bad w' B0 B1 bt 70000 h ((hb.cell (p := ⟨B1, 0, none⟩) l).trans g) (Nat.lt_of_lt_of_le l hb.size))
theorem saidFTo_fit (s : Sp) (bt : Int) (d e : Nat → Int) (hE : chkE s d e = 0) (h1 : 8 ≤ bt) (h2 : bt ≤ 120) (lo hi : Int) (hlo : lo = loZ s d) (hhi : hi = hiZ s e) :
    SaidTF s bt d e (fitZ (downZ lo (s.bits - bt)) (-(downZ (-hi) (s.bits - bt))) bt) 70000 (fitZ (downZ lo (s.bits - bt)) (-(downZ (-hi) (s.bits - bt))) (downZ lo (s.bits - bt))) (fitZ (downZ lo (s.bits - bt)) (-(downZ (-hi) (s.bits - bt))) (-(downZ (-hi) (s.bits - bt)))) (fitE (downZ lo (s.bits - bt)) (-(downZ (-hi) (s.bits - bt)))) := fun W hs => by
  obtain ⟨p1, p2, p3, p4⟩ := chk_ok hs hE
  subst hlo hhi
  replace p1 : SpAt W s 250 (loZ s d) (hiZ s e) := p1
  have hl : loZ s d ≤ hiZ s e := p4
  refine spanF_To W s bt d e hs _ _ _ _ _ fun W1 B0 B1 B cap hB hA g l hS => ?_
  exact madeF_fit_To _ _ B W1 _ _ _ 1 cap (by omega) hS (fun z hz => by rw [flt_one hz, hE]) bt 70000 _ _
    (fun w' hb => (to1_fr w' B0 B1 s bt 250 _ _ ((p1.below hB).below hb) (by omega) (by omega) (by omega) h1 h2 (hA.below hb) ((hb.cell (p := ⟨B1, 0, none⟩) l).trans g) (Nat.lt_of_lt_of_le l hb.size)).mono fun r w2 h => h.mono (by omega))
    (Int.le_trans (downZ_le hl) (downZ_ceil _ _)) (by omega) h2
theorem frTo (s : Sp) (bt : Int) (d e : Nat → Int) : ∃ b lo hi er, SaidTF s bt d e b 70000 lo hi er := by
  by_cases hE : chkE s d e = 0
  · by_cases h : 8 ≤ bt ∧ bt ≤ 120
    · exact ⟨_, _, _, _, saidFTo_fit s bt d e hE h.1 h.2 _ _ rfl rfl⟩
    · exact ⟨_, _, _, _, saidFTo_err s bt d e hE h⟩
  · exact ⟨_, _, _, _, saidFTo_bad s bt d e hE⟩

end Go.Proofs.Ytgmnknmjainabaa
