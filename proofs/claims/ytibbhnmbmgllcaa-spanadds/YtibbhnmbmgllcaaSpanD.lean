/-
  What span.fault and tailsureref.TwoSpans answer of whatever spans, and that they leave old memory alone.
-/
import Derived.Test.YtibbhnmbmgllcaaSpanC
namespace Go.Proofs.Ytibbhnmbmgllcaa
set_option linter.unusedVariables false
set_option linter.unusedSimpArgs false
set_option linter.unnecessarySimpa false
open Go.RowKit
attribute [local go_sem ↓] Go.wp_at_zero Go.wp_at_succ

/-- A row of spans. -/
structure Spans (w : World) (b n : Nat) (f : Nat → Sp) (d e : Nat → Nat → Int) : Prop where
  lt : b < w.heap.size
  c0 : ∀ j, j < n → w.cell? ⟨b, j * 5, none⟩ = some (.bool (f j).ln)
  c1 : ∀ j, j < n → w.cell? ⟨b, j * 5 + 1, none⟩ = some (.slice (f j).la (f j).lN (f j).lc)
  c2 : ∀ j, j < n → w.cell? ⟨b, j * 5 + 2, none⟩ = some (.bool (f j).hn)
  c3 : ∀ j, j < n → w.cell? ⟨b, j * 5 + 3, none⟩ = some (.slice (f j).ha (f j).hN (f j).hc)
  c4 : ∀ j, j < n → w.cell? ⟨b, j * 5 + 4, none⟩ = some (.int .i64 (f j).bits)
  dig : ∀ j, j < n → SpDig w (f j) (d j) (e j)

theorem Spans.below {w w' : World} {b n : Nat} {f : Nat → Sp} {d e : Nat → Nat → Int} (h : Spans w b n f d e) (hb : Below w.heap.size w w') : Spans w' b n f d e :=
  ⟨Nat.lt_of_lt_of_le h.lt hb.size, fun j hj => (hb.cell (p := ⟨b, j * 5, none⟩) h.lt).trans (h.c0 j hj), fun j hj => (hb.cell (p := ⟨b, j * 5 + 1, none⟩) h.lt).trans (h.c1 j hj), fun j hj => (hb.cell (p := ⟨b, j * 5 + 2, none⟩) h.lt).trans (h.c2 j hj),
    fun j hj => (hb.cell (p := ⟨b, j * 5 + 3, none⟩) h.lt).trans (h.c3 j hj), fun j hj => (hb.cell (p := ⟨b, j * 5 + 4, none⟩) h.lt).trans (h.c4 j hj), fun j hj => (h.dig j hj).below hb⟩

/-- What span.fault says. -/
def Flt (c bt : Nat → Int) (n : Nat) (r : Int) : Prop :=
  (∃ i, i < n ∧ c i ≠ 0 ∧ (∀ j, j < i → c j = 0) ∧ r = c i) ∨ ((∀ j, j < n → c j = 0) ∧ (∃ i, i < n ∧ bt i ≠ bt 0) ∧ r = 4) ∨ ((∀ j, j < n → c j = 0) ∧ (∀ j, j < n → bt j = bt 0) ∧ r = 0)

set_option maxRecDepth 100000 in
set_option maxHeartbeats 2000000 in
theorem fault_any (b n cap : Nat) (f : Nat → Sp) (d e : Nat → Nat → Int) (w : World) (h : Spans w b n f d e) (hn : n ≤ 1000) :
    Calls Try.prog 101 #[.slice (some ⟨b, 0, none⟩) n cap] w fun r w' =>
      ∃ z, r = .returned (.int .i64 z) ∧ Flt (fun j => chkE (f j) (d j) (e j)) (fun j => (f j).bits) n z ∧ Below w.heap.size w w' := by
  have hblt := h.lt
  have HH := hide h
  clear h
  go_enter Try.func101, Try.ntmps101
  go_wp2
  go_loopw [10] (fun ii wr => ∃ i : Nat, i ≤ n ∧ ii = .int .i64 i ∧ (∀ j, j < i → chkE (f j) (d j) (e j) = 0) ∧ Below w.heap.size w wr) (fun ii _ => n - (intOf ii).toNat)
  case atStart => exact ⟨0, by omega, rfl, fun j hj => by omega, Below.refl _ _⟩
  case round =>
    obtain ⟨i, hi, rfl, hz, hB⟩ := hrel
    by_cases hin : i < n
    · have H2 := (unhide HH).below hB
      have g0 := H2.c0 i hin
      have g1 := H2.c1 i hin
      have g2 := H2.c2 i hin
      have g3 := H2.c3 i hin
      have g4 := H2.c4 i hin
      have HD := hide (H2.dig i hin)
      have hi1 : (i : Int) < (n : Int) := by omega
      have HZ := hide hz
      clear hz H2
      by_cases hc : chkE (f i) (d i) (e i) = 0
      · go_wp2_with (go_at_call 25; refine (check_any (f i) (d i) (e i) _ ((unhide HD).below (bl1 _ _))).mono ?_; rintro r w1 ⟨rfl, hb1⟩)
        go_roundw
        case rel => exact ⟨i + 1, by omega, by go_num, fun j hj => by
                            by_cases hji : j = i
                            · subst hji; exact hc
                            · exact unhide HZ j (by omega), bthen (balloc hB _) hb1⟩
        case measure => simp [intOf]; omega
      · have hc' : (chkE (f i) (d i) (e i) != 0) = true := by simpa using hc
        go_wp2_with (go_at_call 25; refine (check_any (f i) (d i) (e i) _ ((unhide HD).below (bl1 _ _))).mono ?_; rintro r w1 ⟨rfl, hb1⟩)
        go_ret
        exact ⟨_, rfl, Or.inl ⟨i, hin, hc, unhide HZ, rfl⟩, bthen (balloc hB _) hb1⟩
    · have hiE : i = n := by omega
      subst hiE
      have HZ := hide hz
      clear hz hin hi
      go_wp2
      go_loopw [22] (fun ii wq => ∃ t : Nat, t ≤ i ∧ ii = .int .i64 t ∧ (∀ j, j < t → (f j).bits = (f 0).bits) ∧ Below w.heap.size w wq) (fun ii _ => i - (intOf ii).toNat)
      case atStart => exact ⟨0, by omega, rfl, fun j hj => by omega, hB⟩
      case round =>
        obtain ⟨t, ht, rfl, hz, hB⟩ := hrel
        by_cases hti : t < i
        · have H2 := (unhide HH).below hB
          have g0 := H2.c0 t hti
          have g1 := H2.c1 t hti
          have g2 := H2.c2 t hti
          have g3 := H2.c3 t hti
          have g4 := H2.c4 t hti
          have g5 := H2.c4 0 (by omega)
          have hlt := H2.lt
          simp only [Nat.zero_mul, Nat.zero_add] at g5
          have hi1 : (t : Int) < (i : Int) := by omega
          have hi0 : (0 : Int) < (i : Int) := by omega
          have HZ2 := hide hz
          clear hz H2
          by_cases hc : (f t).bits = (f 0).bits
          · have hc' : ((f t).bits != (f 0).bits) = false := by simp [hc]
            have HC := hide hc
            clear hc
            go_wp2
            go_quiet (fail)
            go_wp2
            go_roundw
            case rel => exact ⟨t + 1, by omega, by go_num, fun j hj => by
                                by_cases hji : j = t
                                · subst hji; exact unhide HC
                                · exact unhide HZ2 j (by omega), below_drewN (balloc hB _) _⟩
            case measure => simp [intOf]; omega
          · have hc' : ((f t).bits != (f 0).bits) = true := by simp [hc]
            go_wp2
            go_quiet (fail)
            go_wp2
            go_ret
            exact ⟨_, rfl, Or.inr (Or.inl ⟨unhide HZ, ⟨t, hti, hc⟩, rfl⟩), below_drewN (balloc hB _) _⟩
        · have htE : t = i := by omega
          subst htE
          go_wp2
          go_ret
          exact ⟨_, rfl, Or.inr (Or.inr ⟨unhide HZ, hz, rfl⟩), hB⟩
end Go.Proofs.Ytibbhnmbmgllcaa
