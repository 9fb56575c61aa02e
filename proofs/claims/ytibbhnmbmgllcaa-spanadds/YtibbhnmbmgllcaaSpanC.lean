/-
  What wide.farthest, wide.Least and wide.Most answer of right numbers, and that they leave old memory alone.
-/
import Derived.Test.YtibbhnmbmgllcaaSpanB
namespace Go.Proofs.Ytibbhnmbmgllcaa
set_option linter.unusedVariables false
set_option linter.unusedSimpArgs false
set_option linter.unnecessarySimpa false
open Go.RowKit
attribute [local go_sem ↓] Go.wp_at_zero Go.wp_at_succ

/-- The farthest one of n + 1 numbers. -/
def farZ (t : Int) (z : Nat → Int) : Nat → Int
  | 0 => z 0
  | n + 1 => if cmpInt (z (n + 1)) (farZ t z n) = t then z (n + 1) else farZ t z n

theorem farZ_most (z : Nat → Int) (n : Nat) : farZ 1 z n = mostZ z n := by
  induction n with
  | zero => rfl
  | succ n ih =>
    simp only [farZ, mostZ, ih]
    by_cases h : mostZ z n < z (n + 1)
    · have : cmpInt (z (n + 1)) (mostZ z n) = 1 := by unfold cmpInt; rw [if_neg (by omega), if_pos h]
      simp [this, h]
    · have : cmpInt (z (n + 1)) (mostZ z n) ≠ 1 := by have := cmpInt_le0 h; omega
      simp [this, h]
theorem farZ_least (z : Nat → Int) (n : Nat) : farZ (-1) z n = leastZ z n := by
  induction n with
  | zero => rfl
  | succ n ih =>
    simp only [farZ, leastZ, ih]
    by_cases h : z (n + 1) < leastZ z n
    · have : cmpInt (z (n + 1)) (leastZ z n) = -1 := by unfold cmpInt; rw [if_pos h]
      simp [this, h]
    · have : cmpInt (z (n + 1)) (leastZ z n) ≠ -1 := by have := cmpInt_ge0 h; omega
      simp [this, h]

theorem fz_past (w : World) (o : Obj) (p : Addr) (h : p.block < w.heap.size) : (w.alloc o).frozen? p = w.frozen? p := World.frozen?_of_block (Below.heap_alloc w o p.block h)

set_option maxRecDepth 100000 in
set_option maxHeartbeats 2000000 in
theorem farthest_int (t : Int) (b n cap k : Nat) (f : Nat → Nm) (z : Nat → Int) (w : World) (h : Nums w b (n + 1) k f z) (hk : k ≤ 1000000000) (hn : n ≤ 1000) :
    Calls Try.prog 128 #[.int .i64 t, .slice (some ⟨b, 0, none⟩) (n + 1) cap] w fun r w' =>
      ∃ neg' a' n' cap', r = .returned (.agg #[.bool neg', .slice a' n' cap']) ∧ IntAt w' neg' a' n' cap' (k + 1) (farZ t z n) ∧ Below w.heap.size w w' := by
  have hblt := h.lt
  go_enter Try.func128, Try.ntmps128
  go_wp2
  go_loopw [10] (fun ii wr => ∃ (i : Nat) (x : Nm), i ≤ n + 1 ∧ ii = .int .i64 i ∧ wr.cell? ⟨w.heap.size + 1, 0, none⟩ = some (.bool x.neg) ∧ wr.cell? ⟨w.heap.size + 1, 1, none⟩ = some (.slice x.a x.n x.cap) ∧ (∀ o, wr.frozen? ⟨w.heap.size + 1, o, none⟩ = false) ∧ (0 < i → IntAt wr x.neg x.a x.n x.cap k (farZ t z (i - 1))) ∧ w.heap.size + 1 + 1 ≤ wr.heap.size ∧
      Below (w.heap.size + 1) (w.alloc (.cells #[.bool false, .slice none 0 0] 24)) wr) (fun ii _ => n + 1 - (intOf ii).toNat)
  case atStart =>
    exact ⟨0, ⟨false, none, 0, 0⟩, by omega, rfl, by simp [go_sem], by simp [go_sem], by intro o; simp [go_sem], fun h => by omega, by simp, (Below.refl _ _).alloc (by simp) _⟩
  case round =>
    obtain ⟨i, x, hi, rfl, x0, x1, x2, hx, hsw, hbl⟩ := hrel
    have hB : Below w.heap.size w wr := (bl1 _ _).trans (hbl.mono (by omega))
    by_cases hin : i < n + 1
    · have g0 := (h.below hB).c0 i hin
      have g1 := (h.below hB).c1 i hin
      have hint := (h.below hB).int i hin
      have hi0 : (0 : Int) ≤ (i : Int) := by omega
      have hi1 : (i : Int) < (n : Int) + 1 := by omega
      have hbb : b ≤ w.heap.size + 1 := by omega
      have hne : w.heap.size + 1 ≠ b := by omega
      have hne' : b ≠ w.heap.size + 1 := by omega
      have hlw : w.heap.size + 1 < wr.heap.size := by omega
      have hne2 : w.heap.size + 1 ≠ wr.heap.size := by omega
      have hne3 : wr.heap.size ≠ w.heap.size + 1 := by omega
      have HH := hide h
      clear h
      by_cases hz : i = 0
      · subst hz
        go_wp2
        go_roundw
        case rel =>
          refine ⟨1, f 0, by omega, rfl, ?_, ?_, ?_, fun _ => ?_, ?_, ?_⟩
          · simp [go_sem, hlw, x0, x1]
          · simp [go_sem, hlw, x0, x1]
          · intro o; rw [fz_past _ _ _ (by simpa [World.setCell] using hlw)]; simp [go_sem, x2]
          · exact ((hint.put2 x0 x1 _ _).below (bl1 _ _))
          · simp [World.setCell]; omega
          · exact ((hbl.setCell (p := ⟨w.heap.size + 1, 0, none⟩) (Nat.le_refl _) _).setCell (p := ⟨w.heap.size + 1, 1, none⟩) (Nat.le_refl _) _).alloc (by simp [World.setCell]; omega) _
        case measure => simp [intOf]
      · have HX := hide (hx (by omega))
        have hz' : ((i : Int) == 0) = false := by simp; omega
        obtain ⟨j, hj⟩ : ∃ j, i = j + 1 := ⟨i - 1, by omega⟩
        have hfz : farZ t z (i + 1 - 1) = if cmpInt (z i) (farZ t z (i - 1)) = t then z i else farZ t z (i - 1) := by subst hj; rfl
        clear hj hx
        by_cases hc : cmpInt (z i) (farZ t z (i - 1)) = t
        · have hcm : (cmpInt (z i) (farZ t z (i - 1)) == t) = true := by simp [hc]
          rw [if_pos hc] at hfz
          have HF := hide hfz
          clear hfz hc
          go_wp2_with (go_at_call 33; refine (cmp_int _ _ _ _ _ _ _ _ k k (z i) (farZ t z (i - 1)) _ (hint.below (bl1 _ _)) ((unhide HX).below (bl1 _ _))).mono ?_; rintro r w1 ⟨rfl, hb1⟩; obtain ⟨hsz1, hcell1, hfz1⟩ := near (wr.heap.size + 1) (by simp) hb1; have y3 : w.heap.size + 1 + 1 ≤ wr.heap.size + 1 := Nat.le_succ_of_le hsw; have y0 : w1.cell? ⟨w.heap.size + 1, 0, none⟩ = some (.bool x.neg) := ((hcell1 _ _ y3).trans (World.cell?_alloc_past _ _ _ hlw)).trans x0; have y1 : w1.cell? ⟨w.heap.size + 1, 1, none⟩ = some (.slice x.a x.n x.cap) := ((hcell1 _ _ y3).trans (World.cell?_alloc_past _ _ _ hlw)).trans x1; have y2 : ∀ o, w1.frozen? ⟨w.heap.size + 1, o, none⟩ = false := fun o => ((hfz1 _ _ y3).trans (fz_past _ _ _ hlw)).trans (x2 o))
          go_roundw
          case rel =>
            refine ⟨i + 1, f i, by omega, by go_num, by simp [go_sem, y0, y1], by simp [go_sem, y0, y1], by intro o; simp [go_sem, y2], fun _ => ?_, ?_, ?_⟩
            · rw [unhide HF]; exact ((hint.below (bl1 _ _)).below hb1).put2 y0 y1 _ _
            · have := Nat.le_trans y3 hsz1; simpa [World.setCell] using this
            · exact ((hbl.trans ((bthen (bl1 _ _) hb1).mono (by omega))).setCell (p := ⟨w.heap.size + 1, 0, none⟩) (Nat.le_refl _) _).setCell (p := ⟨w.heap.size + 1, 1, none⟩) (Nat.le_refl _) _
          case measure => simp [intOf]; omega
        · have hcm : (cmpInt (z i) (farZ t z (i - 1)) == t) = false := by simp [hc]
          rw [if_neg hc] at hfz
          have HF := hide hfz
          clear hfz hc
          go_wp2_with (go_at_call 33; refine (cmp_int _ _ _ _ _ _ _ _ k k (z i) (farZ t z (i - 1)) _ (hint.below (bl1 _ _)) ((unhide HX).below (bl1 _ _))).mono ?_; rintro r w1 ⟨rfl, hb1⟩; obtain ⟨hsz1, hcell1, hfz1⟩ := near (wr.heap.size + 1) (by simp) hb1; have y3 : w.heap.size + 1 + 1 ≤ wr.heap.size + 1 := Nat.le_succ_of_le hsw; have y0 : w1.cell? ⟨w.heap.size + 1, 0, none⟩ = some (.bool x.neg) := ((hcell1 _ _ y3).trans (World.cell?_alloc_past _ _ _ hlw)).trans x0; have y1 : w1.cell? ⟨w.heap.size + 1, 1, none⟩ = some (.slice x.a x.n x.cap) := ((hcell1 _ _ y3).trans (World.cell?_alloc_past _ _ _ hlw)).trans x1; have y2 : ∀ o, w1.frozen? ⟨w.heap.size + 1, o, none⟩ = false := fun o => ((hfz1 _ _ y3).trans (fz_past _ _ _ hlw)).trans (x2 o))
          go_roundw
          case rel =>
            exact ⟨i + 1, x, by omega, by go_num, y0, y1, y2, fun _ => by rw [unhide HF]; exact ((unhide HX).below (bl1 _ _)).below hb1, Nat.le_trans y3 hsz1, hbl.trans ((bthen (bl1 _ _) hb1).mono (by omega))⟩
          case measure => simp [intOf]; omega
    · have hiE : i = n + 1 := by omega
      subst hiE
      have q3 : wr.cell? ⟨w.heap.size, 0, none⟩ = some (.bool false) := (hbl.cell (p := ⟨w.heap.size, 0, none⟩) (Nat.lt_succ_self _)).trans (by simp [go_sem])
      have q4 : wr.cell? ⟨w.heap.size, 1, none⟩ = some (.slice none 0 0) := (hbl.cell (p := ⟨w.heap.size, 1, none⟩) (Nat.lt_succ_self _)).trans (by simp [go_sem])
      have q5 : ∀ o, wr.frozen? ⟨w.heap.size, o, none⟩ = false := fun o => (hbl.frozen (p := ⟨w.heap.size, o, none⟩) (Nat.lt_succ_self _)).trans (by simp [go_sem])
      have HX := hide (hx (by omega))
      clear h hx
      go_wp2_with (go_at_call 146; refine (copied_int _ _ _ _ k _ _ (unhide HX) hk).mono ?_; rintro r w1 ⟨neg1, a1, n1, c1, rfl, hint1, hb1⟩; obtain ⟨hsz1, hcell1, hfz1⟩ := near (w.heap.size + 1 + 1) hsw hb1)
      have y0 : w1.cell? ⟨w.heap.size, 0, none⟩ = some (.bool false) := (hcell1 _ _ (by omega)).trans q3
      have y1 : w1.cell? ⟨w.heap.size, 1, none⟩ = some (.slice none 0 0) := (hcell1 _ _ (by omega)).trans q4
      refine bodyPost_ret (v := .agg #[.bool neg1, .slice a1 n1 c1]) (by simp [results, Try.results128, go_sem, y0, y1]) rfl ⟨neg1, a1, n1, c1, rfl, ?_, ?_⟩
      · simp only [Nat.add_sub_cancel] at hint1; exact hint1.put2 y0 y1 _ _
      · exact ((bthen hB hb1).setCell (p := ⟨w.heap.size, 0, none⟩) (Nat.le_refl _) _).setCell (p := ⟨w.heap.size, 1, none⟩) (Nat.le_refl _) _

set_option maxRecDepth 100000 in
set_option maxHeartbeats 1000000 in
theorem most_int (b n cap k : Nat) (f : Nat → Nm) (z : Nat → Int) (w : World) (h : Nums w b (n + 1) k f z) (hk : k ≤ 1000000000) (hn : n ≤ 1000) :
    Calls Try.prog 89 #[.slice (some ⟨b, 0, none⟩) (n + 1) cap] w fun r w' =>
      ∃ neg' a' n' cap', r = .returned (.agg #[.bool neg', .slice a' n' cap']) ∧ IntAt w' neg' a' n' cap' (k + 1) (mostZ z n) ∧ Below w.heap.size w w' := by
  rw [← farZ_most]
  go_enter Try.func89, Try.ntmps89
  go_wp2_with (go_at_call 128; refine (farthest_int (1) _ _ _ k f z _ (h.below (bl1 _ _)) hk hn).mono ?_; rintro r w1 ⟨neg1, a1, n1, c1, rfl, hint1, hb1⟩; obtain ⟨hsz1, hcell1, hfz1⟩ := near (w.heap.size + 1) (by simp) hb1)
  have y0 : w1.cell? ⟨w.heap.size, 0, none⟩ = some (.bool false) := by simp [hcell1, go_sem]
  have y1 : w1.cell? ⟨w.heap.size, 1, none⟩ = some (.slice none 0 0) := by simp [hcell1, go_sem]
  refine bodyPost_ret (v := .agg #[.bool neg1, .slice a1 n1 c1]) (by simp [results, Try.results89, go_sem, y0, y1]) rfl ⟨neg1, a1, n1, c1, rfl, hint1.put2 y0 y1 _ _, ?_⟩
  exact ((bthen (bl1 _ _) hb1).setCell (p := ⟨w.heap.size, 0, none⟩) (Nat.le_refl _) _).setCell (p := ⟨w.heap.size, 1, none⟩) (Nat.le_refl _) _

set_option maxRecDepth 100000 in
set_option maxHeartbeats 1000000 in
theorem leastw_int (b n cap k : Nat) (f : Nat → Nm) (z : Nat → Int) (w : World) (h : Nums w b (n + 1) k f z) (hk : k ≤ 1000000000) (hn : n ≤ 1000) :
    Calls Try.prog 88 #[.slice (some ⟨b, 0, none⟩) (n + 1) cap] w fun r w' =>
      ∃ neg' a' n' cap', r = .returned (.agg #[.bool neg', .slice a' n' cap']) ∧ IntAt w' neg' a' n' cap' (k + 1) (leastZ z n) ∧ Below w.heap.size w w' := by
  rw [← farZ_least]
  go_enter Try.func88, Try.ntmps88
  go_wp2_with (go_at_call 128; refine (farthest_int (-1) _ _ _ k f z _ (h.below (bl1 _ _)) hk hn).mono ?_; rintro r w1 ⟨neg1, a1, n1, c1, rfl, hint1, hb1⟩; obtain ⟨hsz1, hcell1, hfz1⟩ := near (w.heap.size + 1) (by simp) hb1)
  have y0 : w1.cell? ⟨w.heap.size, 0, none⟩ = some (.bool false) := by simp [hcell1, go_sem]
  have y1 : w1.cell? ⟨w.heap.size, 1, none⟩ = some (.slice none 0 0) := by simp [hcell1, go_sem]
  refine bodyPost_ret (v := .agg #[.bool neg1, .slice a1 n1 c1]) (by simp [results, Try.results88, go_sem, y0, y1]) rfl ⟨neg1, a1, n1, c1, rfl, hint1.put2 y0 y1 _ _, ?_⟩
  exact ((bthen (bl1 _ _) hb1).setCell (p := ⟨w.heap.size, 0, none⟩) (Nat.le_refl _) _).setCell (p := ⟨w.heap.size, 1, none⟩) (Nat.le_refl _) _

end Go.Proofs.Ytibbhnmbmgllcaa
