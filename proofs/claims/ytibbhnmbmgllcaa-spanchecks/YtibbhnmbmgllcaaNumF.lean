/-
  What num.Of answers, and that it leaves old memory alone.
-/
import Derived.Test.YtibbhnmbmgllcaaAppD
namespace Go.Proofs.Ytibbhnmbmgllcaa
set_option linter.unusedVariables false
set_option linter.unusedSimpArgs false
set_option linter.unnecessarySimpa false
open Go.RowKit

theorem P4 : P 4 = 18446744073709551616 := rfl

theorem of_step (d : Nat → Int) (k : Nat) (u X : Int) (h : V d k + u * P k = X) : V (upd d k (u % 65536)) (k + 1) + u / 65536 * P (k + 1) = X := by
  simp only [V, P]
  have h1 : V (upd d k (u % 65536)) k = V d k := V_congr k (fun j hj => by simp [upd]; omega)
  have h2 : upd d k (u % 65536) k = u % 65536 := by simp [upd]
  rw [h1, h2]
  have h3 : u % 65536 * P k + u / 65536 * (65536 * P k) = u * P k := by
    rw [← Int.mul_assoc, ← Int.add_mul]; congr 1; omega
  omega

set_option maxRecDepth 100000 in
set_option maxHeartbeats 1000000 in
theorem numOf_aux (x X : Int) (neg : Bool) (w : World) (h0 : -9223372036854775808 ≤ x) (h1 : x ≤ 9223372036854775807) (hneg : decide (x < 0) = neg) (hX : X = if neg then -x else x) :
    Calls Try.prog 62 #[.int .i64 x] w fun r w' =>
      ∃ neg' a' n' cap', r = .returned (.agg #[.bool neg', .slice a' n' cap']) ∧ IntAt w' neg' a' n' cap' 4 x ∧ Below w.heap.size w w' := by
  cases neg
  · have hx : ¬ x < 0 := by simpa using hneg
    simp at hX
    subst hX
    have hX0 : 0 ≤ X := by omega
    clear hneg h0
    go_enter Try.func62, Try.ntmps62
    go_wp2
    go_loopw [5, 4] (fun l u wr => ∃ (k : Nat) (a : Option Addr) (cap : Nat) (d : Nat → Int) (uu : Int), l = .slice a k cap ∧ u = .int .u64 uu ∧ 0 ≤ uu ∧ uu ≤ X ∧ Own wr (w.heap.size + 1) 96 a k cap d ∧ Dgs d ∧ V d k + uu * P k = X ∧ (k = 0 ∨ d (k - 1) ≠ 0 ∨ uu ≠ 0) ∧ k ≤ 4 ∧ Below (w.heap.size + 1) (w.alloc (.cells #[.bool false, .slice none 0 0] 24)) wr) (fun _ u _ => (intOf u).toNat)
    case atStart => exact ⟨0, none, 0, fun _ => 0, X, rfl, rfl, hX0, Int.le_refl _, Own.nil _ _ _ _, fun _ => ⟨by simp, by simp⟩, by simp [V, P], Or.inl rfl, by omega, Below.refl _ _⟩
    case round =>
      obtain ⟨k, a, cap, d, uu, rfl, rfl, hu0, hu1, hown, hd, hV, htop, hk4, hbl⟩ := hrel
      have hsz := hbl.size
      simp at hsz
      by_cases hz : uu = 0
      · subst hz
        have q0 : wr.cell? ⟨w.heap.size, 0, none⟩ = some (.bool false) := (hbl.cell (p := ⟨w.heap.size, 0, none⟩) (by simp)).trans (by simp [go_sem])
        have q1 : wr.cell? ⟨w.heap.size, 1, none⟩ = some (.slice none 0 0) := (hbl.cell (p := ⟨w.heap.size, 1, none⟩) (by simp)).trans (by simp [go_sem])
        have q5 : ∀ o, wr.frozen? ⟨w.heap.size, o, none⟩ = false := fun o => (hbl.frozen (p := ⟨w.heap.size, o, none⟩) (by simp)).trans (by simp [go_sem])
        have HD := hide (hown.dig hd (by omega))
        have HV := hide hV
        have HT := hide htop
        clear hV htop hown hd
        go_wp2
        refine bodyPost_ret (v := .agg #[.bool false, .slice a k cap]) (by simp [results, Try.results62, go_sem, q0, q1]) rfl ⟨false, a, k, cap, rfl, ?_, ?_⟩
        · refine IntAt.put2 ?_ q0 q1 _ _
          have hV := unhide HV
          simp at hV
          refine ⟨d, unhide HD, ?_, fun hk0 => ?_, hk4, by rw [hV]; simp [sgn]⟩
          · have := unhide HT; omega
          · subst hk0; simp [V] at hV; first | rfl | (exfalso; omega)
        · exact (((bl1 _ _).trans (hbl.mono (by omega))).setCell (by simp) _).setCell (by simp) _
      · have hup : 0 < uu := by omega
        have hk3 : k < 4 := by
          have hk4' : P k < P 4 ∨ 4 ≤ k := by
            by_cases hh : 4 ≤ k
            · exact Or.inr hh
            · left; have : P (k + 1) ≤ P 4 := P_mono (by omega)
              have := P_pos k; simp only [P] at *; omega
          rcases hk4' with hh | hh
          · by_cases h4 : k = 4
            · subst h4; omega
            · omega
          · have h5 : P 4 ≤ P k := P_mono hh
            have h6 : 1 * P k ≤ uu * P k := Int.mul_le_mul_of_nonneg_right (by omega) (by have := P_pos k; omega)
            have h7 := V_nonneg hd k
            rw [P4] at h5; omega
        have H1 := hide (of_step d k uu X hV)
        have H2 := hide (upd_dgs hd k (v := uu % 65536) (by omega) (by omega))
        clear hV htop
        go_wp2_with (at_builtin; refine wpList_append_digit _ rfl _ _ 22 rfl (w.heap.size + 1) 96 Try.underlying22 Try.infoU16 a k cap d rfl (hown.alloc _) wr.heap.size 1 (uu % 65536) rfl (by simp [go_sem, wrap16]) (by omega) (by simp; omega) ?_; intro a' cap' w1 hown1 hb1)
        go_roundw
        case rel =>
          refine ⟨k + 1, a', cap', upd d k (uu % 65536), uu / 65536, rfl, by go_num, by omega, by omega, hown1, unhide H2, unhide H1, ?_, by omega, ?_⟩
          · right; simp [upd]; omega
          · exact (hbl.alloc (by omega) _).trans hb1
        case measure => simp [intOf]; try omega
  · have hx : x < 0 := by simpa using hneg
    simp at hX
    have hw : IntKind.u64.wrap (-IntKind.u64.wrap x) = X := by rw [IntKind.wrap_u64, IntKind.wrap_u64]; omega
    have hX0 : 0 ≤ X := by omega
    have hX1 : X ≤ 9223372036854775808 := by omega
    have HX := hide hX
    clear hX
    go_enter Try.func62, Try.ntmps62
    go_wp2
    clear hw
    go_loopw [5, 4] (fun l u wr => ∃ (k : Nat) (a : Option Addr) (cap : Nat) (d : Nat → Int) (uu : Int), l = .slice a k cap ∧ u = .int .u64 uu ∧ 0 ≤ uu ∧ uu ≤ X ∧ Own wr (w.heap.size + 1) 96 a k cap d ∧ Dgs d ∧ V d k + uu * P k = X ∧ (k = 0 ∨ d (k - 1) ≠ 0 ∨ uu ≠ 0) ∧ k ≤ 4 ∧ Below (w.heap.size + 1) (w.alloc (.cells #[.bool false, .slice none 0 0] 24)) wr) (fun _ u _ => (intOf u).toNat)
    case atStart => exact ⟨0, none, 0, fun _ => 0, X, rfl, rfl, hX0, Int.le_refl _, Own.nil _ _ _ _, fun _ => ⟨by simp, by simp⟩, by simp [V, P], Or.inl rfl, by omega, Below.refl _ _⟩
    case round =>
      obtain ⟨k, a, cap, d, uu, rfl, rfl, hu0, hu1, hown, hd, hV, htop, hk4, hbl⟩ := hrel
      have hsz := hbl.size
      simp at hsz
      by_cases hz : uu = 0
      · subst hz
        have q0 : wr.cell? ⟨w.heap.size, 0, none⟩ = some (.bool false) := (hbl.cell (p := ⟨w.heap.size, 0, none⟩) (by simp)).trans (by simp [go_sem])
        have q1 : wr.cell? ⟨w.heap.size, 1, none⟩ = some (.slice none 0 0) := (hbl.cell (p := ⟨w.heap.size, 1, none⟩) (by simp)).trans (by simp [go_sem])
        have q5 : ∀ o, wr.frozen? ⟨w.heap.size, o, none⟩ = false := fun o => (hbl.frozen (p := ⟨w.heap.size, o, none⟩) (by simp)).trans (by simp [go_sem])
        have HD := hide (hown.dig hd (by omega))
        have HV := hide hV
        have HT := hide htop
        clear hV htop hown hd
        go_wp2
        refine bodyPost_ret (v := .agg #[.bool true, .slice a k cap]) (by simp [results, Try.results62, go_sem, q0, q1]) rfl ⟨true, a, k, cap, rfl, ?_, ?_⟩
        · refine IntAt.put2 ?_ q0 q1 _ _
          have hV := unhide HV
          simp at hV
          refine ⟨d, unhide HD, ?_, fun hk0 => ?_, hk4, by rw [hV]; simp [sgn]; have := unhide HX; omega⟩
          · have := unhide HT; omega
          · subst hk0; simp [V] at hV; have := unhide HX; exfalso; omega
        · exact (((bl1 _ _).trans (hbl.mono (by omega))).setCell (by simp) _).setCell (by simp) _
      · have hup : 0 < uu := by omega
        have hk3 : k < 4 := by
          have hk4' : P k < P 4 ∨ 4 ≤ k := by
            by_cases hh : 4 ≤ k
            · exact Or.inr hh
            · left; have : P (k + 1) ≤ P 4 := P_mono (by omega)
              have := P_pos k; simp only [P] at *; omega
          rcases hk4' with hh | hh
          · by_cases h4 : k = 4
            · subst h4; omega
            · omega
          · have h5 : P 4 ≤ P k := P_mono hh
            have h6 : 1 * P k ≤ uu * P k := Int.mul_le_mul_of_nonneg_right (by omega) (by have := P_pos k; omega)
            have h7 := V_nonneg hd k
            rw [P4] at h5; omega
        have H1 := hide (of_step d k uu X hV)
        have H2 := hide (upd_dgs hd k (v := uu % 65536) (by omega) (by omega))
        clear hV htop
        go_wp2_with (at_builtin; refine wpList_append_digit _ rfl _ _ 22 rfl (w.heap.size + 1) 96 Try.underlying22 Try.infoU16 a k cap d rfl (hown.alloc _) wr.heap.size 1 (uu % 65536) rfl (by simp [go_sem, wrap16]) (by omega) (by simp; omega) ?_; intro a' cap' w1 hown1 hb1)
        go_roundw
        case rel =>
          refine ⟨k + 1, a', cap', upd d k (uu % 65536), uu / 65536, rfl, by go_num, by omega, by omega, hown1, unhide H2, unhide H1, ?_, by omega, ?_⟩
          · right; simp [upd]; omega
          · exact (hbl.alloc (by omega) _).trans hb1
        case measure => simp [intOf]; try omega

theorem numOf_int (x : Int) (w : World) (h0 : -9223372036854775808 ≤ x) (h1 : x ≤ 9223372036854775807) :
    Calls Try.prog 62 #[.int .i64 x] w fun r w' =>
      ∃ neg' a' n' cap', r = .returned (.agg #[.bool neg', .slice a' n' cap']) ∧ IntAt w' neg' a' n' cap' 4 x ∧ Below w.heap.size w w' :=
  numOf_aux x _ _ w h0 h1 rfl rfl
end Go.Proofs.Ytibbhnmbmgllcaa
