/-
  What ratio.right and ratio.Fault answer, and that they leave old memory alone.
-/
import Derived.Test.YtibbhnmbmgllcaaSpanJ
namespace Go.Proofs.Ytibbhnmbmgllcaa
set_option linter.unusedVariables false
set_option linter.unusedSimpArgs false
set_option linter.unnecessarySimpa false
open Go.RowKit
attribute [local go_sem ↓] Go.wp_at_zero Go.wp_at_succ

/-- A ratio that is right. -/
def rok (p q : Int) : Prop := -1048576 ≤ p ∧ p ≤ 1048576 ∧ 1 ≤ q ∧ q ≤ 1024
instance (p q : Int) : Decidable (rok p q) := by unfold rok; infer_instance

theorem rok_no {p q : Int} (h : p < -1048576 ∨ 1048576 < p ∨ q < 1 ∨ 1024 < q) : decide (rok p q) = false := by
  rw [decide_eq_false_iff_not]; unfold rok; omega

set_option maxHeartbeats 400000 in
theorem ratioRight_any (p q : Int) (w : World) :
    Calls Try.prog 122 #[.agg #[.int .i64 p, .int .i64 q]] w fun r w' => r = .returned (.bool (decide (rok p q))) ∧ Below w.heap.size w w' := by
  by_cases h1 : -1048576 ≤ p
  · by_cases h2 : p ≤ 1048576
    · by_cases h3 : 1 ≤ q
      · go_enter Try.func122, Try.ntmps122
        go_wp2
        go_ret
        exact ⟨by simp [rok, h1, h2, h3], bl1 _ _⟩
      · go_enter Try.func122, Try.ntmps122
        go_wp2
        go_ret
        exact ⟨by rw [rok_no (p := p) (q := q) (by omega)]; rfl, bl1 _ _⟩
    · go_enter Try.func122, Try.ntmps122
      go_wp2
      go_ret
      exact ⟨by rw [rok_no (p := p) (q := q) (by omega)]; rfl, bl1 _ _⟩
  · go_enter Try.func122, Try.ntmps122
    go_wp2
    go_ret
    exact ⟨by rw [rok_no (p := p) (q := q) (by omega)]; rfl, bl1 _ _⟩

/-- What is said of bits, and of a ratio. -/
def bitE (bt : Int) : Int := if 8 ≤ bt ∧ bt ≤ 120 then 0 else 3
def ratE (p q bt : Int) : Int := if rok p q ∧ 8 ≤ bt ∧ bt ≤ 120 then 0 else 3

/-- A row of ratios. -/
structure Rats (w : World) (b n : Nat) (p q : Nat → Int) : Prop where
  lt : b < w.heap.size
  c0 : ∀ j, j < n → w.cell? ⟨b, j * 2, none⟩ = some (.int .i64 (p j))
  c1 : ∀ j, j < n → w.cell? ⟨b, j * 2 + 1, none⟩ = some (.int .i64 (q j))
theorem Rats.below {w w' : World} {b n : Nat} {p q : Nat → Int} (h : Rats w b n p q) (hb : Below w.heap.size w w') : Rats w' b n p q :=
  ⟨Nat.lt_of_lt_of_le h.lt hb.size, fun j hj => (hb.cell (p := ⟨b, j * 2, none⟩) h.lt).trans (h.c0 j hj), fun j hj => (hb.cell (p := ⟨b, j * 2 + 1, none⟩) h.lt).trans (h.c1 j hj)⟩

/-- What ratio.Fault says. -/
def RFlt (bt : Int) (p q : Nat → Int) (n : Nat) (z : Int) : Prop :=
  (z = 0 ∧ (8 ≤ bt ∧ bt ≤ 120) ∧ ∀ j, j < n → rok (p j) (q j)) ∨ (z = 3 ∧ ¬ ((8 ≤ bt ∧ bt ≤ 120) ∧ ∀ j, j < n → rok (p j) (q j)))

set_option maxRecDepth 100000 in
set_option maxHeartbeats 2000000 in
theorem ratioFault_any (bt : Int) (b n cap : Nat) (p q : Nat → Int) (w : World) (h : Rats w b n p q) (hn : n ≤ 1000) :
    Calls Try.prog 70 #[.int .i64 bt, .slice (some ⟨b, 0, none⟩) n cap] w fun r w' => ∃ z, r = .returned (.int .i64 z) ∧ RFlt bt p q n z ∧ Below w.heap.size w w' := by
  by_cases b1 : bt < 8
  · go_enter Try.func70, Try.ntmps70
    go_wp2
    go_ret
    exact ⟨3, rfl, Or.inr ⟨rfl, fun ⟨h1, _⟩ => by omega⟩, Below.refl _ _⟩
  by_cases b2 : 120 < bt
  · go_enter Try.func70, Try.ntmps70
    go_wp2
    go_ret
    exact ⟨3, rfl, Or.inr ⟨rfl, fun ⟨h1, _⟩ => by omega⟩, Below.refl _ _⟩
  have hblt := h.lt
  have HH := hide h
  clear h
  go_enter Try.func70, Try.ntmps70
  go_wp2
  go_loopw [15] (fun ii wr => ∃ i : Nat, i ≤ n ∧ ii = .int .i64 i ∧ (∀ j, j < i → rok (p j) (q j)) ∧ Below w.heap.size w wr) (fun ii _ => n - (intOf ii).toNat)
  case atStart => exact ⟨0, by omega, rfl, fun j hj => by omega, Below.refl _ _⟩
  case round =>
    obtain ⟨i, hi, rfl, hz, hB⟩ := hrel
    by_cases hin : i < n
    · have H2 := (unhide HH).below hB
      have g0 := H2.c0 i hin
      have g1 := H2.c1 i hin
      have hi1 : (i : Int) < (n : Int) := by omega
      have HZ := hide hz
      clear hz H2
      by_cases hc : rok (p i) (q i)
      · have hc' : decide (rok (p i) (q i)) = true := by simpa using hc
        have HC := hide hc
        clear hc
        go_wp2_with (go_at_call 122; refine (ratioRight_any _ _ _).mono ?_; rintro r w1 ⟨rfl, hb1⟩; rw [hc'])
        go_roundw
        case rel => exact ⟨i + 1, by omega, by go_num, fun j hj => by
                            by_cases hji : j = i
                            · subst hji; exact unhide HC
                            · exact unhide HZ j (by omega), bthen (balloc hB _) hb1⟩
        case measure => simp [intOf]; omega
      · have hc' : decide (rok (p i) (q i)) = false := by simpa using hc
        have HC := hide hc
        clear hc
        go_wp2_with (go_at_call 122; refine (ratioRight_any _ _ _).mono ?_; rintro r w1 ⟨rfl, hb1⟩; rw [hc'])
        go_ret
        exact ⟨3, rfl, Or.inr ⟨rfl, fun ⟨_, h2⟩ => unhide HC (h2 i hin)⟩, bthen (balloc hB _) hb1⟩
    · have hiE : i = n := by omega
      subst hiE
      have HZ := hide hz
      clear hz hin hi
      go_wp2
      go_ret
      exact ⟨0, rfl, Or.inl ⟨rfl, ⟨by omega, by omega⟩, unhide HZ⟩, hB⟩

set_option maxRecDepth 100000 in
set_option maxHeartbeats 2000000 in
theorem ratioFault_none (bt : Int) (w : World) :
    Calls Try.prog 70 #[.int .i64 bt, .slice none 0 0] w fun r w' => r = .returned (.int .i64 (bitE bt)) ∧ Below w.heap.size w w' := by
  by_cases b1 : bt < 8
  · have HE := hide (show bitE bt = 3 by unfold bitE; rw [if_neg (by omega)])
    go_enter Try.func70, Try.ntmps70
    go_wp2
    go_ret
    exact ⟨by rw [unhide HE]; rfl, Below.refl _ _⟩
  by_cases b2 : 120 < bt
  · have HE := hide (show bitE bt = 3 by unfold bitE; rw [if_neg (by omega)])
    go_enter Try.func70, Try.ntmps70
    go_wp2
    go_ret
    exact ⟨by rw [unhide HE]; rfl, Below.refl _ _⟩
  have HE := hide (show bitE bt = 0 by unfold bitE; rw [if_pos (by omega)])
  go_enter Try.func70, Try.ntmps70
  go_wp2
  go_loopw [15] (fun ii wr => ii = .int .i64 0 ∧ Below w.heap.size w wr) (fun ii _ => 0)
  case atStart => exact ⟨rfl, Below.refl _ _⟩
  case round =>
    obtain ⟨rfl, hB⟩ := hrel
    go_wp2
    go_ret
    exact ⟨by rw [unhide HE]; rfl, hB⟩
end Go.Proofs.Ytibbhnmbmgllcaa
