/-
  What wide.farthest, wide.Least, wide.Most, wide.copied, tailsureref.least, greatest and Power2 answer of right numbers, and that they leave old memory alone.
-/
import Derived.Test.YtibbhnmbmgllcaaSpanA
namespace Go.Proofs.Ytibbhnmbmgllcaa
set_option linter.unusedVariables false
set_option linter.unusedSimpArgs false
set_option linter.unnecessarySimpa false
open Go.RowKit
attribute [local go_sem ↓] Go.wp_at_zero Go.wp_at_succ

/-- A num.Int as it lies in a frame. -/
structure Nm where
  neg : Bool
  a : Option Addr
  n : Nat
  cap : Nat

/-- A row of right numbers. -/
structure Nums (w : World) (b n k : Nat) (f : Nat → Nm) (z : Nat → Int) : Prop where
  lt : b < w.heap.size
  c0 : ∀ j, j < n → w.cell? ⟨b, j * 2, none⟩ = some (.bool (f j).neg)
  c1 : ∀ j, j < n → w.cell? ⟨b, j * 2 + 1, none⟩ = some (.slice (f j).a (f j).n (f j).cap)
  int : ∀ j, j < n → IntAt w (f j).neg (f j).a (f j).n (f j).cap k (z j)

theorem Nums.below {w w' : World} {b n k : Nat} {f : Nat → Nm} {z : Nat → Int} (h : Nums w b n k f z) (hb : Below w.heap.size w w') : Nums w' b n k f z :=
  ⟨Nat.lt_of_lt_of_le h.lt hb.size, fun j hj => (hb.cell (p := ⟨b, j * 2, none⟩) h.lt).trans (h.c0 j hj), fun j hj => (hb.cell (p := ⟨b, j * 2 + 1, none⟩) h.lt).trans (h.c1 j hj), fun j hj => (h.int j hj).below hb⟩

/-- The greatest, and the least, of n + 1 numbers. -/
def mostZ (z : Nat → Int) : Nat → Int
  | 0 => z 0
  | n + 1 => if mostZ z n < z (n + 1) then z (n + 1) else mostZ z n
def leastZ (z : Nat → Int) : Nat → Int
  | 0 => z 0
  | n + 1 => if z (n + 1) < leastZ z n then z (n + 1) else leastZ z n

theorem cmpInt_le0 {x y : Int} (h : ¬ y < x) : ¬ 0 < cmpInt x y := by
  unfold cmpInt; simp only [h, if_false]; split <;> omega
theorem cmpInt_ge0 {x y : Int} (h : ¬ x < y) : ¬ cmpInt x y < 0 := by
  unfold cmpInt; rw [if_neg h]; split <;> omega
theorem mostZ_up {z : Nat → Int} {i : Nat} (h : mostZ z (i - 1) < z i) : mostZ z (i + 1 - 1) = z i := by
  cases i with
  | zero => rfl
  | succ j => simp only [Nat.add_sub_cancel] at *; simp only [mostZ, h, if_true]
theorem mostZ_stay {z : Nat → Int} {i : Nat} (h : ¬ mostZ z (i - 1) < z i) : mostZ z (i + 1 - 1) = mostZ z (i - 1) := by
  cases i with
  | zero => rfl
  | succ j => simp only [Nat.add_sub_cancel] at *; simp only [mostZ, h, if_false]
theorem leastZ_up {z : Nat → Int} {i : Nat} (h : z i < leastZ z (i - 1)) : leastZ z (i + 1 - 1) = z i := by
  cases i with
  | zero => rfl
  | succ j => simp only [Nat.add_sub_cancel] at *; simp only [leastZ, h, if_true]
theorem leastZ_stay {z : Nat → Int} {i : Nat} (h : ¬ z i < leastZ z (i - 1)) : leastZ z (i + 1 - 1) = leastZ z (i - 1) := by
  cases i with
  | zero => rfl
  | succ j => simp only [Nat.add_sub_cancel] at *; simp only [leastZ, h, if_false]

set_option maxRecDepth 100000 in
set_option maxHeartbeats 1000000 in
theorem power2_int (k : Nat) (w : World) (hk : k ≤ 1000000000) :
    Calls Try.prog 51 #[.int .i64 k] w fun r w' =>
      ∃ neg' a' n' cap', r = .returned (.agg #[.bool neg', .slice a' n' cap']) ∧ IntAt w' neg' a' n' cap' (k / 16 + 5) (Q k) ∧ Below w.heap.size w w' := by
  go_enter Try.func51, Try.ntmps51
  go_wp2_with (first
    | (go_at_call 62; refine (numOf_int 1 _ (by decide) (by decide)).mono ?_; rintro r w1 ⟨neg1, a1, n1, c1, rfl, hint1, hb1⟩; obtain ⟨hsz1, hcell1, hfz1⟩ := near (w.heap.size + 1) (by simp) hb1)
    | (go_at_call 107; refine (up_int _ _ _ _ k 4 1 _ hint1 (by omega) hk).mono ?_; rintro r w2 ⟨neg', a2, n2, c2, rfl, hint, hb2⟩; obtain ⟨hsz2, hcell2, hfz2⟩ := near (w.heap.size + 1) hsz1 hb2))
  have h0 : w2.cell? ⟨w.heap.size, 0, none⟩ = some (.bool false) := by simp [hcell2, hcell1, go_sem]
  have h1' : w2.cell? ⟨w.heap.size, 1, none⟩ = some (.slice none 0 0) := by simp [hcell2, hcell1, go_sem]
  refine bodyPost_ret (v := .agg #[.bool neg', .slice a2 n2 c2]) (by simp [results, Try.results51, go_sem, h0, h1']) rfl ⟨neg', a2, n2, c2, rfl, ?_, ?_⟩
  · rw [Int.one_mul] at hint
    exact (hint.put2 h0 h1' _ _).mono (by omega)
  · exact ((bthen (bthen (bl1 _ _) hb1) hb2).setCell (p := ⟨w.heap.size, 0, none⟩) (Nat.le_refl _) _).setCell (p := ⟨w.heap.size, 1, none⟩) (Nat.le_refl _) _

set_option maxRecDepth 100000 in
set_option maxHeartbeats 1000000 in
theorem copied_int (neg : Bool) (a : Option Addr) (n cap k1 : Nat) (x : Int) (w : World) (h1 : IntAt w neg a n cap k1 x) (hk1 : k1 ≤ 1000000000) :
    Calls Try.prog 146 #[.agg #[.bool neg, .slice a n cap]] w fun r w' =>
      ∃ neg' a' n' cap', r = .returned (.agg #[.bool neg', .slice a' n' cap']) ∧ IntAt w' neg' a' n' cap' (k1 + 1) x ∧ Below w.heap.size w w' := by
  go_enter Try.func146, Try.ntmps146
  go_wp2_with (go_at_call 107; refine (up_int _ _ _ _ 0 k1 x _ (h1.below (bl2 _ _ _)) hk1 (by omega)).mono ?_; rintro r w2 ⟨neg', a2, n2, c2, rfl, hint, hb2⟩; obtain ⟨hsz2, hcell2, hfz2⟩ := near (w.heap.size + 1 + 1) (by simp) hb2)
  have h0 : w2.cell? ⟨w.heap.size + 1, 0, none⟩ = some (.bool false) := by simp [hcell2, go_sem]
  have h1' : w2.cell? ⟨w.heap.size + 1, 1, none⟩ = some (.slice none 0 0) := by simp [hcell2, go_sem]
  refine bodyPost_ret (v := .agg #[.bool neg', .slice a2 n2 c2]) (by simp [results, Try.results146, go_sem, h0, h1']) rfl ⟨neg', a2, n2, c2, rfl, ?_, ?_⟩
  · simp only [Q, Int.mul_one] at hint
    exact (hint.put2 h0 h1' _ _).mono (by omega)
  · exact ((bthen (bl2 _ _ _) hb2).setCell (p := ⟨w.heap.size + 1, 0, none⟩) (Nat.le_succ _) _).setCell (p := ⟨w.heap.size + 1, 1, none⟩) (Nat.le_succ _) _

set_option maxRecDepth 100000 in
set_option maxHeartbeats 2000000 in
theorem greatest_int (b n cap k : Nat) (f : Nat → Nm) (z : Nat → Int) (w : World) (h : Nums w b (n + 1) k f z) (hn : n ≤ 1000) :
    Calls Try.prog 92 #[.slice (some ⟨b, 0, none⟩) (n + 1) cap] w fun r w' =>
      ∃ neg' a' n' cap', r = .returned (.agg #[.bool neg', .slice a' n' cap']) ∧ IntAt w' neg' a' n' cap' k (mostZ z n) ∧ Below w.heap.size w w' := by
  have h00 := h.c0 0 (by omega)
  have h01 := h.c1 0 (by omega)
  simp only [Nat.zero_mul, Nat.zero_add] at h00 h01
  have hnn : (0 : Int) < (n : Int) + 1 := by omega
  have hblt := h.lt
  go_enter Try.func92, Try.ntmps92
  go_wp2
  go_loopw [4] (fun ii wr => ∃ (i : Nat) (x : Nm), i ≤ n + 1 ∧ ii = .int .i64 i ∧ wr.cell? ⟨w.heap.size + 1, 0, none⟩ = some (.bool x.neg) ∧ wr.cell? ⟨w.heap.size + 1, 1, none⟩ = some (.slice x.a x.n x.cap) ∧ (∀ o, wr.frozen? ⟨w.heap.size + 1, o, none⟩ = false) ∧ IntAt wr x.neg x.a x.n x.cap k (mostZ z (i - 1)) ∧ w.heap.size + 1 + 1 ≤ wr.heap.size ∧
      Below (w.heap.size + 1) (w.alloc (.cells #[.bool false, .slice none 0 0] 24)) wr) (fun ii _ => n + 1 - (intOf ii).toNat)
  case atStart =>
    exact ⟨0, f 0, by omega, rfl, by simp [go_sem], by simp [go_sem], by intro o; simp [go_sem], (h.int 0 (by omega)).below (bl2 _ _ _), by simp, (Below.refl _ _).alloc (by simp) _⟩
  case round =>
    obtain ⟨i, x, hi, rfl, x0, x1, x2, hx, hsw, hbl⟩ := hrel
    have hB : Below w.heap.size w wr := (bl1 _ _).trans (hbl.mono (by omega))
    by_cases hin : i < n + 1
    · have g0 := (h.below hB).c0 i hin
      have g1 := (h.below hB).c1 i hin
      have hint := (h.below hB).int i hin
      have hi0 : (0 : Int) ≤ (i : Int) := by omega
      have hi1 : (i : Int) < (n : Int) + 1 := by omega
      have hbb : b ≤ w.heap.size + 1 := by omega
      have hne : w.heap.size + 1 ≠ b := by omega
      have hne' : b ≠ w.heap.size + 1 := by omega
      have HH := hide h
      clear h h00 h01
      by_cases hc : mostZ z (i - 1) < z i
      · have hcm : cmpInt (z i) (mostZ z (i - 1)) = 1 := by unfold cmpInt; rw [if_neg (by omega), if_pos hc]
        have HZ := hide (mostZ_up hc)
        go_wp2
        go_region_held3 (fun w' => w'.cell? ⟨b, i * 2, none⟩ = some (.bool (f i).neg) ∧ w'.cell? ⟨b, i * 2 + 1, none⟩ = some (.slice (f i).a (f i).n (f i).cap) ∧ w'.cell? ⟨w.heap.size + 1, 0, none⟩ = some (.bool x.neg) ∧ w'.cell? ⟨w.heap.size + 1, 1, none⟩ = some (.slice x.a x.n x.cap)) (go_keep)
          (first
            | (go_at_call 33; refine (cmp_int _ _ _ _ _ _ _ _ k k (z i) (mostZ z (i - 1)) _ (hint.below (Below.refl _ _).drew) (hx.below (Below.refl _ _).drew)).mono ?_; rintro r w1 ⟨rfl, hb1⟩; obtain ⟨hsz1, hcell1, hfz1⟩ := near (w.heap.size + 1 + 1) (by exact hsw) hb1; rw [hcm]))
        have y0 : w1.cell? ⟨w.heap.size + 1, 0, none⟩ = some (.bool x.neg) := (hcell1 _ _ (Nat.le_refl _)).trans x0
        have y1 : w1.cell? ⟨w.heap.size + 1, 1, none⟩ = some (.slice x.a x.n x.cap) := (hcell1 _ _ (Nat.le_refl _)).trans x1
        have y2 : ∀ o, w1.frozen? ⟨w.heap.size + 1, o, none⟩ = false := fun o => (hfz1 _ _ (Nat.le_refl _)).trans (x2 o)
        go_wp2
        go_roundw
        case rel =>
          refine ⟨i + 1, f i, by omega, by go_num, by simp [go_sem, y0, y1], by simp [go_sem, y0, y1], by intro o; simp [go_sem, y2], ?_, ?_, ?_⟩
          · rw [unhide HZ]; exact ((hint.below (Below.refl _ _).drew).below hb1).put2 y0 y1 _ _
          · simpa [World.setCell] using hsz1
          · exact ((hbl.trans ((bthen (Below.refl _ _).drew hb1).mono (by omega))).setCell (p := ⟨w.heap.size + 1, 0, none⟩) (Nat.le_refl _) _).setCell (p := ⟨w.heap.size + 1, 1, none⟩) (Nat.le_refl _) _
        case measure => simp [intOf]; omega
      · have hcm : ¬ 0 < cmpInt (z i) (mostZ z (i - 1)) := cmpInt_le0 hc
        have HZ := hide (mostZ_stay hc)
        go_wp2
        go_region_held3 (fun w' => w'.cell? ⟨b, i * 2, none⟩ = some (.bool (f i).neg) ∧ w'.cell? ⟨b, i * 2 + 1, none⟩ = some (.slice (f i).a (f i).n (f i).cap) ∧ w'.cell? ⟨w.heap.size + 1, 0, none⟩ = some (.bool x.neg) ∧ w'.cell? ⟨w.heap.size + 1, 1, none⟩ = some (.slice x.a x.n x.cap)) (go_keep)
          (first
            | (go_at_call 33; refine (cmp_int _ _ _ _ _ _ _ _ k k (z i) (mostZ z (i - 1)) _ (hint.below (Below.refl _ _).drew) (hx.below (Below.refl _ _).drew)).mono ?_; rintro r w1 ⟨rfl, hb1⟩; obtain ⟨hsz1, hcell1, hfz1⟩ := near (w.heap.size + 1 + 1) (by exact hsw) hb1))
        have y0 : w1.cell? ⟨w.heap.size + 1, 0, none⟩ = some (.bool x.neg) := (hcell1 _ _ (Nat.le_refl _)).trans x0
        have y1 : w1.cell? ⟨w.heap.size + 1, 1, none⟩ = some (.slice x.a x.n x.cap) := (hcell1 _ _ (Nat.le_refl _)).trans x1
        have y2 : ∀ o, w1.frozen? ⟨w.heap.size + 1, o, none⟩ = false := fun o => (hfz1 _ _ (Nat.le_refl _)).trans (x2 o)
        go_wp2
        go_roundw
        case rel =>
          exact ⟨i + 1, x, by omega, by go_num, y0, y1, y2, by rw [unhide HZ]; exact (hx.below (Below.refl _ _).drew).below hb1, hsz1, hbl.trans ((bthen (Below.refl _ _).drew hb1).mono (by omega))⟩
        case measure => simp [intOf]; omega
    · have hiE : i = n + 1 := by omega
      subst hiE
      have q3 : wr.cell? ⟨w.heap.size, 0, none⟩ = some (.bool false) := (hbl.cell (p := ⟨w.heap.size, 0, none⟩) (Nat.lt_succ_self _)).trans (by simp [go_sem])
      have q4 : wr.cell? ⟨w.heap.size, 1, none⟩ = some (.slice none 0 0) := (hbl.cell (p := ⟨w.heap.size, 1, none⟩) (Nat.lt_succ_self _)).trans (by simp [go_sem])
      have q5 : ∀ o, wr.frozen? ⟨w.heap.size, o, none⟩ = false := fun o => (hbl.frozen (p := ⟨w.heap.size, o, none⟩) (Nat.lt_succ_self _)).trans (by simp [go_sem])
      clear h h00 h01
      go_wp2
      refine bodyPost_ret (v := .agg #[.bool x.neg, .slice x.a x.n x.cap]) (by simp [results, Try.results92, go_sem, q3, q4]) rfl ⟨x.neg, x.a, x.n, x.cap, rfl, hx.put2 q3 q4 _ _, ?_⟩
      exact (hB.setCell (p := ⟨w.heap.size, 0, none⟩) (Nat.le_refl _) _).setCell (p := ⟨w.heap.size, 1, none⟩) (Nat.le_refl _) _

set_option maxRecDepth 100000 in
set_option maxHeartbeats 2000000 in
theorem least_int (b n cap k : Nat) (f : Nat → Nm) (z : Nat → Int) (w : World) (h : Nums w b (n + 1) k f z) (hn : n ≤ 1000) :
    Calls Try.prog 91 #[.slice (some ⟨b, 0, none⟩) (n + 1) cap] w fun r w' =>
      ∃ neg' a' n' cap', r = .returned (.agg #[.bool neg', .slice a' n' cap']) ∧ IntAt w' neg' a' n' cap' k (leastZ z n) ∧ Below w.heap.size w w' := by
  have h00 := h.c0 0 (by omega)
  have h01 := h.c1 0 (by omega)
  simp only [Nat.zero_mul, Nat.zero_add] at h00 h01
  have hnn : (0 : Int) < (n : Int) + 1 := by omega
  have hblt := h.lt
  go_enter Try.func91, Try.ntmps91
  go_wp2
  go_loopw [4] (fun ii wr => ∃ (i : Nat) (x : Nm), i ≤ n + 1 ∧ ii = .int .i64 i ∧ wr.cell? ⟨w.heap.size + 1, 0, none⟩ = some (.bool x.neg) ∧ wr.cell? ⟨w.heap.size + 1, 1, none⟩ = some (.slice x.a x.n x.cap) ∧ (∀ o, wr.frozen? ⟨w.heap.size + 1, o, none⟩ = false) ∧ IntAt wr x.neg x.a x.n x.cap k (leastZ z (i - 1)) ∧ w.heap.size + 1 + 1 ≤ wr.heap.size ∧
      Below (w.heap.size + 1) (w.alloc (.cells #[.bool false, .slice none 0 0] 24)) wr) (fun ii _ => n + 1 - (intOf ii).toNat)
  case atStart =>
    exact ⟨0, f 0, by omega, rfl, by simp [go_sem], by simp [go_sem], by intro o; simp [go_sem], (h.int 0 (by omega)).below (bl2 _ _ _), by simp, (Below.refl _ _).alloc (by simp) _⟩
  case round =>
    obtain ⟨i, x, hi, rfl, x0, x1, x2, hx, hsw, hbl⟩ := hrel
    have hB : Below w.heap.size w wr := (bl1 _ _).trans (hbl.mono (by omega))
    by_cases hin : i < n + 1
    · have g0 := (h.below hB).c0 i hin
      have g1 := (h.below hB).c1 i hin
      have hint := (h.below hB).int i hin
      have hi0 : (0 : Int) ≤ (i : Int) := by omega
      have hi1 : (i : Int) < (n : Int) + 1 := by omega
      have hbb : b ≤ w.heap.size + 1 := by omega
      have hne : w.heap.size + 1 ≠ b := by omega
      have hne' : b ≠ w.heap.size + 1 := by omega
      have HH := hide h
      clear h h00 h01
      by_cases hc : z i < leastZ z (i - 1)
      · have hcm : cmpInt (z i) (leastZ z (i - 1)) = -1 := by unfold cmpInt; rw [if_pos hc]
        have HZ := hide (leastZ_up hc)
        go_wp2
        go_region_held3 (fun w' => w'.cell? ⟨b, i * 2, none⟩ = some (.bool (f i).neg) ∧ w'.cell? ⟨b, i * 2 + 1, none⟩ = some (.slice (f i).a (f i).n (f i).cap) ∧ w'.cell? ⟨w.heap.size + 1, 0, none⟩ = some (.bool x.neg) ∧ w'.cell? ⟨w.heap.size + 1, 1, none⟩ = some (.slice x.a x.n x.cap)) (go_keep)
          (first
            | (go_at_call 33; refine (cmp_int _ _ _ _ _ _ _ _ k k (z i) (leastZ z (i - 1)) _ (hint.below (Below.refl _ _).drew) (hx.below (Below.refl _ _).drew)).mono ?_; rintro r w1 ⟨rfl, hb1⟩; obtain ⟨hsz1, hcell1, hfz1⟩ := near (w.heap.size + 1 + 1) (by exact hsw) hb1; rw [hcm]))
        have y0 : w1.cell? ⟨w.heap.size + 1, 0, none⟩ = some (.bool x.neg) := (hcell1 _ _ (Nat.le_refl _)).trans x0
        have y1 : w1.cell? ⟨w.heap.size + 1, 1, none⟩ = some (.slice x.a x.n x.cap) := (hcell1 _ _ (Nat.le_refl _)).trans x1
        have y2 : ∀ o, w1.frozen? ⟨w.heap.size + 1, o, none⟩ = false := fun o => (hfz1 _ _ (Nat.le_refl _)).trans (x2 o)
        go_wp2
        go_roundw
        case rel =>
          refine ⟨i + 1, f i, by omega, by go_num, by simp [go_sem, y0, y1], by simp [go_sem, y0, y1], by intro o; simp [go_sem, y2], ?_, ?_, ?_⟩
          · rw [unhide HZ]; exact ((hint.below (Below.refl _ _).drew).below hb1).put2 y0 y1 _ _
          · simpa [World.setCell] using hsz1
          · exact ((hbl.trans ((bthen (Below.refl _ _).drew hb1).mono (by omega))).setCell (p := ⟨w.heap.size + 1, 0, none⟩) (Nat.le_refl _) _).setCell (p := ⟨w.heap.size + 1, 1, none⟩) (Nat.le_refl _) _
        case measure => simp [intOf]; omega
      · have hcm : ¬ cmpInt (z i) (leastZ z (i - 1)) < 0 := cmpInt_ge0 hc
        have HZ := hide (leastZ_stay hc)
        go_wp2
        go_region_held3 (fun w' => w'.cell? ⟨b, i * 2, none⟩ = some (.bool (f i).neg) ∧ w'.cell? ⟨b, i * 2 + 1, none⟩ = some (.slice (f i).a (f i).n (f i).cap) ∧ w'.cell? ⟨w.heap.size + 1, 0, none⟩ = some (.bool x.neg) ∧ w'.cell? ⟨w.heap.size + 1, 1, none⟩ = some (.slice x.a x.n x.cap)) (go_keep)
          (first
            | (go_at_call 33; refine (cmp_int _ _ _ _ _ _ _ _ k k (z i) (leastZ z (i - 1)) _ (hint.below (Below.refl _ _).drew) (hx.below (Below.refl _ _).drew)).mono ?_; rintro r w1 ⟨rfl, hb1⟩; obtain ⟨hsz1, hcell1, hfz1⟩ := near (w.heap.size + 1 + 1) (by exact hsw) hb1))
        have y0 : w1.cell? ⟨w.heap.size + 1, 0, none⟩ = some (.bool x.neg) := (hcell1 _ _ (Nat.le_refl _)).trans x0
        have y1 : w1.cell? ⟨w.heap.size + 1, 1, none⟩ = some (.slice x.a x.n x.cap) := (hcell1 _ _ (Nat.le_refl _)).trans x1
        have y2 : ∀ o, w1.frozen? ⟨w.heap.size + 1, o, none⟩ = false := fun o => (hfz1 _ _ (Nat.le_refl _)).trans (x2 o)
        go_wp2
        go_roundw
        case rel =>
          exact ⟨i + 1, x, by omega, by go_num, y0, y1, y2, by rw [unhide HZ]; exact (hx.below (Below.refl _ _).drew).below hb1, hsz1, hbl.trans ((bthen (Below.refl _ _).drew hb1).mono (by omega))⟩
        case measure => simp [intOf]; omega
    · have hiE : i = n + 1 := by omega
      subst hiE
      have q3 : wr.cell? ⟨w.heap.size, 0, none⟩ = some (.bool false) := (hbl.cell (p := ⟨w.heap.size, 0, none⟩) (Nat.lt_succ_self _)).trans (by simp [go_sem])
      have q4 : wr.cell? ⟨w.heap.size, 1, none⟩ = some (.slice none 0 0) := (hbl.cell (p := ⟨w.heap.size, 1, none⟩) (Nat.lt_succ_self _)).trans (by simp [go_sem])
      have q5 : ∀ o, wr.frozen? ⟨w.heap.size, o, none⟩ = false := fun o => (hbl.frozen (p := ⟨w.heap.size, o, none⟩) (Nat.lt_succ_self _)).trans (by simp [go_sem])
      clear h h00 h01
      go_wp2
      refine bodyPost_ret (v := .agg #[.bool x.neg, .slice x.a x.n x.cap]) (by simp [results, Try.results91, go_sem, q3, q4]) rfl ⟨x.neg, x.a, x.n, x.cap, rfl, hx.put2 q3 q4 _ _, ?_⟩
      exact (hB.setCell (p := ⟨w.heap.size, 0, none⟩) (Nat.le_refl _) _).setCell (p := ⟨w.heap.size, 1, none⟩) (Nat.le_refl _) _

end Go.Proofs.Ytibbhnmbmgllcaa
