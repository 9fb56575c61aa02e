/-
  Texts SpanB, SpanC, SpanD, SpanE, SpanF, SpanG, SpanH, SpanI: what they hold is told in the last text.
-/
import Derived.Deep.DeepCutAuto
import Derived.Test.YtgmnknmjainababK06
set_option linter.unnecessarySimpa false
set_option linter.unusedSimpArgs false
set_option linter.unusedVariables false
namespace Go.Proofs.Ytgmnknmjainabab
open Go.RowKit
attribute [local go_sem ↓] Go.wp_at_zero Go.wp_at_succ
structure Nm where
  neg : Bool
  a : Option Addr
  n : Nat
  cap : Nat
structure Nums (w : World) (b n k : Nat) (f : Nat → Nm) (z : Nat → Int) : Prop where
  lt : b < w.heap.size
  c0 : ∀ j, j < n → w.cell? ⟨b, j * 2, none⟩ = some (.bool (f j).neg)
  c1 : ∀ j, j < n → w.cell? ⟨b, j * 2 + 1, none⟩ = some (.slice (f j).a (f j).n (f j).cap)
  int : ∀ j, j < n → IntAt w (f j).neg (f j).a (f j).n (f j).cap k (z j)
theorem Nums.below {w w' : World} {b n k : Nat} {f : Nat → Nm} {z : Nat → Int} (h : Nums w b n k f z) (hb : Below w.heap.size w w') : Nums w' b n k f z :=
  ⟨Nat.lt_of_lt_of_le h.lt hb.size, fun j hj => (hb.cell (p := ⟨b, j * 2, none⟩) h.lt).trans (h.c0 j hj), fun j hj => (hb.cell (p := ⟨b, j * 2 + 1, none⟩) h.lt).trans (h.c1 j hj), fun j hj => (h.int j hj).below hb⟩
def mostZ (z : Nat → Int) : Nat → Int
  | 0 => z 0
  | n + 1 => if mostZ z n < z (n + 1) then z (n + 1) else mostZ z n
def leastZ (z : Nat → Int) : Nat → Int
  | 0 => z 0
  | n + 1 => if z (n + 1) < leastZ z n then z (n + 1) else leastZ z n
theorem cmpInt_le0 {x y : Int} (h : ¬ y < x) : ¬ 0 < cmpInt x y := by
  unfold cmpInt; simp only [h, if_false]; split <;> omega
theorem cmpInt_ge0 {x y : Int} (h : ¬ x < y) : ¬ cmpInt x y < 0 := by
  unfold cmpInt; rw [if_neg h]; split <;> omega
theorem mostZ_up {z : Nat → Int} {i : Nat} (h : mostZ z (i - 1) < z i) : mostZ z (i + 1 - 1) = z i := by
  cases i with
  | zero => rfl
  | succ j => simp only [Nat.add_sub_cancel] at *; simp only [mostZ, h, if_true]
theorem mostZ_stay {z : Nat → Int} {i : Nat} (h : ¬ mostZ z (i - 1) < z i) : mostZ z (i + 1 - 1) = mostZ z (i - 1) := by
  cases i with
  | zero => rfl
  | succ j => simp only [Nat.add_sub_cancel] at *; simp only [mostZ, h, if_false]
set_option maxRecDepth 100000 in
set_option maxHeartbeats 1000000 in
theorem power2_int (k : Nat) (w : World) (hk : k ≤ 1000000000) :
    Calls Try.prog 85 #[.int .i64 k] w fun r w' =>
      ∃ neg' a' n' cap', r = .returned (.agg #[.bool neg', .slice a' n' cap']) ∧ IntAt w' neg' a' n' cap' (k / 16 + 5) (Q k) ∧ Below w.heap.size w w' := by
  go_enter Try.func85, Try.ntmps85
  go_wp2_with (first
    | (go_at_call 48; refine (numOf_int 1 _ (by decide) (by decide)).mono ?_; rintro r w1 ⟨neg1, a1, n1, c1, rfl, hint1, hb1⟩; obtain ⟨hsz1, hcell1, hfz1⟩ := near (w.heap.size + 1) (by simp) hb1)
    | (go_at_call 113; refine (up_int _ _ _ _ k 4 1 _ hint1 (by omega) hk).mono ?_; rintro r w2 ⟨neg', a2, n2, c2, rfl, hint, hb2⟩; obtain ⟨hsz2, hcell2, hfz2⟩ := near (w.heap.size + 1) hsz1 hb2))
  have h0 : w2.cell? ⟨w.heap.size, 0, none⟩ = some (.bool false) := by simp [hcell2, hcell1, go_sem]
  have h1' : w2.cell? ⟨w.heap.size, 1, none⟩ = some (.slice none 0 0) := by simp [hcell2, hcell1, go_sem]
  refine bodyPost_ret (v := .agg #[.bool neg', .slice a2 n2 c2]) (by simp [results, Try.results85, go_sem, h0, h1']) rfl ⟨neg', a2, n2, c2, rfl, ?_, ?_⟩
  · rw [Int.one_mul] at hint
    exact (hint.put2 h0 h1' _ _).mono (by omega)
  · exact ((bthen (bthen (bl1 _ _) hb1) hb2).setCell (p := ⟨w.heap.size, 0, none⟩) (Nat.le_refl _) _).setCell (p := ⟨w.heap.size, 1, none⟩) (Nat.le_refl _) _
set_option maxRecDepth 100000 in
set_option maxHeartbeats 1000000 in
theorem copied_int (neg : Bool) (a : Option Addr) (n cap k1 : Nat) (x : Int) (w : World) (h1 : IntAt w neg a n cap k1 x) (hk1 : k1 ≤ 1000000000) :
    Calls Try.prog 168 #[.agg #[.bool neg, .slice a n cap]] w fun r w' =>
      ∃ neg' a' n' cap', r = .returned (.agg #[.bool neg', .slice a' n' cap']) ∧ IntAt w' neg' a' n' cap' (k1 + 1) x ∧ Below w.heap.size w w' := by
  go_enter Try.func168, Try.ntmps168
  go_wp2_with (go_at_call 113; refine (up_int _ _ _ _ 0 k1 x _ (h1.below (bl2 _ _ _)) hk1 (by omega)).mono ?_; rintro r w2 ⟨neg', a2, n2, c2, rfl, hint, hb2⟩; obtain ⟨hsz2, hcell2, hfz2⟩ := near (w.heap.size + 1 + 1) (by simp) hb2)
  have h0 : w2.cell? ⟨w.heap.size + 1, 0, none⟩ = some (.bool false) := by simp [hcell2, go_sem]
  have h1' : w2.cell? ⟨w.heap.size + 1, 1, none⟩ = some (.slice none 0 0) := by simp [hcell2, go_sem]
  refine bodyPost_ret (v := .agg #[.bool neg', .slice a2 n2 c2]) (by simp [results, Try.results168, go_sem, h0, h1']) rfl ⟨neg', a2, n2, c2, rfl, ?_, ?_⟩
  · simp only [Q, Int.mul_one] at hint
    exact (hint.put2 h0 h1' _ _).mono (by omega)
  · exact ((bthen (bl2 _ _ _) hb2).setCell (p := ⟨w.heap.size + 1, 0, none⟩) (Nat.le_succ _) _).setCell (p := ⟨w.heap.size + 1, 1, none⟩) (Nat.le_succ _) _
set_option maxRecDepth 100000 in
set_option maxHeartbeats 2000000 in
theorem greatest_int (b n cap k : Nat) (f : Nat → Nm) (z : Nat → Int) (w : World) (h : Nums w b (n + 1) k f z) (hn : n ≤ 1000) :
    Calls Try.prog 82 #[.slice (some ⟨b, 0, none⟩) (n + 1) cap] w fun r w' =>
      ∃ neg' a' n' cap', r = .returned (.agg #[.bool neg', .slice a' n' cap']) ∧ IntAt w' neg' a' n' cap' k (mostZ z n) ∧ Below w.heap.size w w' := by
  have h00 := h.c0 0 (by omega)
  have h01 := h.c1 0 (by omega)
  simp only [Nat.zero_mul, Nat.zero_add] at h00 h01
  have hnn : (0 : Int) < (n : Int) + 1 := by omega
  have hblt := h.lt
  go_enter Try.func82, Try.ntmps82
  go_wp2
  go_loopw [4] (fun ii wr => ∃ (i : Nat) (x : Nm), i ≤ n + 1 ∧ ii = .int .i64 i ∧ wr.cell? ⟨w.heap.size + 1, 0, none⟩ = some (.bool x.neg) ∧ wr.cell? ⟨w.heap.size + 1, 1, none⟩ = some (.slice x.a x.n x.cap) ∧ (∀ o, wr.frozen? ⟨w.heap.size + 1, o, none⟩ = false) ∧ IntAt wr x.neg x.a x.n x.cap k (mostZ z (i - 1)) ∧ w.heap.size + 1 + 1 ≤ wr.heap.size ∧
      Below (w.heap.size + 1) (w.alloc (.cells #[.bool false, .slice none 0 0] 26)) wr) (fun ii _ => n + 1 - (intOf ii).toNat)
  case atStart =>
    exact ⟨0, f 0, by omega, rfl, by simp [go_sem], by simp [go_sem], by intro o; simp [go_sem], (h.int 0 (by omega)).below (bl2 _ _ _), by simp, (Below.refl _ _).alloc (by simp) _⟩
  case round =>
    obtain ⟨i, x, hi, rfl, x0, x1, x2, hx, hsw, hbl⟩ := hrel
    have hB : Below w.heap.size w wr := (bl1 _ _).trans (hbl.mono (by omega))
    by_cases hin : i < n + 1
    · have g0 := (h.below hB).c0 i hin
      have g1 := (h.below hB).c1 i hin
      have hint := (h.below hB).int i hin
      have hi0 : (0 : Int) ≤ (i : Int) := by omega
      have hi1 : (i : Int) < (n : Int) + 1 := by omega
      have hbb : b ≤ w.heap.size + 1 := by omega
      have hne : w.heap.size + 1 ≠ b := by omega
      have hne' : b ≠ w.heap.size + 1 := by omega
      have HH := hide h
      clear h h00 h01
      by_cases hc : mostZ z (i - 1) < z i
      · have hcm : cmpInt (z i) (mostZ z (i - 1)) = 1 := by unfold cmpInt; rw [if_neg (by omega), if_pos hc]
        have HZ := hide (mostZ_up hc)
        go_wp2
        go_region_held3 (fun w' => w'.cell? ⟨b, i * 2, none⟩ = some (.bool (f i).neg) ∧ w'.cell? ⟨b, i * 2 + 1, none⟩ = some (.slice (f i).a (f i).n (f i).cap) ∧ w'.cell? ⟨w.heap.size + 1, 0, none⟩ = some (.bool x.neg) ∧ w'.cell? ⟨w.heap.size + 1, 1, none⟩ = some (.slice x.a x.n x.cap)) (go_keep)
          (first
            | (go_at_call 24; refine (cmp_int _ _ _ _ _ _ _ _ k k (z i) (mostZ z (i - 1)) _ (hint.below (Below.refl _ _).drew) (hx.below (Below.refl _ _).drew)).mono ?_; rintro r w1 ⟨rfl, hb1⟩; obtain ⟨hsz1, hcell1, hfz1⟩ := near (w.heap.size + 1 + 1) (by exact hsw) hb1; rw [hcm]))
        have y0 : w1.cell? ⟨w.heap.size + 1, 0, none⟩ = some (.bool x.neg) := (hcell1 _ _ (Nat.le_refl _)).trans x0
        have y1 : w1.cell? ⟨w.heap.size + 1, 1, none⟩ = some (.slice x.a x.n x.cap) := (hcell1 _ _ (Nat.le_refl _)).trans x1
        have y2 : ∀ o, w1.frozen? ⟨w.heap.size + 1, o, none⟩ = false := fun o => (hfz1 _ _ (Nat.le_refl _)).trans (x2 o)
        go_wp2
        go_roundw
        case rel =>
          refine ⟨i + 1, f i, by omega, by go_num, by simp [go_sem, y0, y1], by simp [go_sem, y0, y1], by intro o; simp [go_sem, y2], ?_, ?_, ?_⟩
          · rw [unhide HZ]; exact ((hint.below (Below.refl _ _).drew).below hb1).put2 y0 y1 _ _
          · simpa [World.setCell] using hsz1
          · exact ((hbl.trans ((bthen (Below.refl _ _).drew hb1).mono (by omega))).setCell (p := ⟨w.heap.size + 1, 0, none⟩) (Nat.le_refl _) _).setCell (p := ⟨w.heap.size + 1, 1, none⟩) (Nat.le_refl _) _
        case measure => simp [intOf]; omega
      · have hcm : ¬ 0 < cmpInt (z i) (mostZ z (i - 1)) := cmpInt_le0 hc
        have HZ := hide (mostZ_stay hc)
        go_wp2
        go_region_held3 (fun w' => w'.cell? ⟨b, i * 2, none⟩ = some (.bool (f i).neg) ∧ w'.cell? ⟨b, i * 2 + 1, none⟩ = some (.slice (f i).a (f i).n (f i).cap) ∧ w'.cell? ⟨w.heap.size + 1, 0, none⟩ = some (.bool x.neg) ∧ w'.cell? ⟨w.heap.size + 1, 1, none⟩ = some (.slice x.a x.n x.cap)) (go_keep)
          (first
            | (go_at_call 24; refine (cmp_int _ _ _ _ _ _ _ _ k k (z i) (mostZ z (i - 1)) _ (hint.below (Below.refl _ _).drew) (hx.below (Below.refl _ _).drew)).mono ?_; rintro r w1 ⟨rfl, hb1⟩; obtain ⟨hsz1, hcell1, hfz1⟩ := near (w.heap.size + 1 + 1) (by exact hsw) hb1))
        have y0 : w1.cell? ⟨w.heap.size + 1, 0, none⟩ = some (.bool x.neg) := (hcell1 _ _ (Nat.le_refl _)).trans x0
        have y1 : w1.cell? ⟨w.heap.size + 1, 1, none⟩ = some (.slice x.a x.n x.cap) := (hcell1 _ _ (Nat.le_refl _)).trans x1
        have y2 : ∀ o, w1.frozen? ⟨w.heap.size + 1, o, none⟩ = false := fun o => (hfz1 _ _ (Nat.le_refl _)).trans (x2 o)
        go_wp2
        go_roundw
        case rel =>
          exact ⟨i + 1, x, by omega, by go_num, y0, y1, y2, by rw [unhide HZ]; exact (hx.below (Below.refl _ _).drew).below hb1, hsz1, hbl.trans ((bthen (Below.refl _ _).drew hb1).mono (by omega))⟩
        case measure => simp [intOf]; omega
    · have hiE : i = n + 1 := by omega
      subst hiE
      have q3 : wr.cell? ⟨w.heap.size, 0, none⟩ = some (.bool false) := (hbl.cell (p := ⟨w.heap.size, 0, none⟩) (Nat.lt_succ_self _)).trans (by simp [go_sem])
      have q4 : wr.cell? ⟨w.heap.size, 1, none⟩ = some (.slice none 0 0) := (hbl.cell (p := ⟨w.heap.size, 1, none⟩) (Nat.lt_succ_self _)).trans (by simp [go_sem])
      have q5 : ∀ o, wr.frozen? ⟨w.heap.size, o, none⟩ = false := fun o => (hbl.frozen (p := ⟨w.heap.size, o, none⟩) (Nat.lt_succ_self _)).trans (by simp [go_sem])
      clear h h00 h01
      go_wp2
      refine bodyPost_ret (v := .agg #[.bool x.neg, .slice x.a x.n x.cap]) (by simp [results, Try.results82, go_sem, q3, q4]) rfl ⟨x.neg, x.a, x.n, x.cap, rfl, hx.put2 q3 q4 _ _, ?_⟩
      exact (hB.setCell (p := ⟨w.heap.size, 0, none⟩) (Nat.le_refl _) _).setCell (p := ⟨w.heap.size, 1, none⟩) (Nat.le_refl _) _
end Go.Proofs.Ytgmnknmjainabab
namespace Go.Proofs.Ytgmnknmjainabab
open Go.RowKit
attribute [local go_sem ↓] Go.wp_at_zero Go.wp_at_succ
def farZ (t : Int) (z : Nat → Int) : Nat → Int
  | 0 => z 0
  | n + 1 => if cmpInt (z (n + 1)) (farZ t z n) = t then z (n + 1) else farZ t z n
theorem farZ_most (z : Nat → Int) (n : Nat) : farZ 1 z n = mostZ z n := by
  induction n with
  | zero => rfl
  | succ n ih =>
    simp only [farZ, mostZ, ih]
    by_cases h : mostZ z n < z (n + 1)
    · have : cmpInt (z (n + 1)) (mostZ z n) = 1 := by unfold cmpInt; rw [if_neg (by omega), if_pos h]
      simp [this, h]
    · have : cmpInt (z (n + 1)) (mostZ z n) ≠ 1 := by have := cmpInt_le0 h; omega
      simp [this, h]
theorem farZ_least (z : Nat → Int) (n : Nat) : farZ (-1) z n = leastZ z n := by
  induction n with
  | zero => rfl
  | succ n ih =>
    simp only [farZ, leastZ, ih]
    by_cases h : z (n + 1) < leastZ z n
    · have : cmpInt (z (n + 1)) (leastZ z n) = -1 := by unfold cmpInt; rw [if_pos h]
      simp [this, h]
    · have : cmpInt (z (n + 1)) (leastZ z n) ≠ -1 := by have := cmpInt_ge0 h; omega
      simp [this, h]
theorem fz_past (w : World) (o : Obj) (p : Addr) (h : p.block < w.heap.size) : (w.alloc o).frozen? p = w.frozen? p := World.frozen?_of_block (Below.heap_alloc w o p.block h)
set_option maxRecDepth 100000 in
set_option maxHeartbeats 2000000 in
theorem farthest_int (t : Int) (b n cap k : Nat) (f : Nat → Nm) (z : Nat → Int) (w : World) (h : Nums w b (n + 1) k f z) (hk : k ≤ 1000000000) (hn : n ≤ 1000) :
    Calls Try.prog 150 #[.int .i64 t, .slice (some ⟨b, 0, none⟩) (n + 1) cap] w fun r w' =>
      ∃ neg' a' n' cap', r = .returned (.agg #[.bool neg', .slice a' n' cap']) ∧ IntAt w' neg' a' n' cap' (k + 1) (farZ t z n) ∧ Below w.heap.size w w' := by
  have hblt := h.lt
  go_enter Try.func150, Try.ntmps150
  go_wp2
  go_loopw [10] (fun ii wr => ∃ (i : Nat) (x : Nm), i ≤ n + 1 ∧ ii = .int .i64 i ∧ wr.cell? ⟨w.heap.size + 1, 0, none⟩ = some (.bool x.neg) ∧ wr.cell? ⟨w.heap.size + 1, 1, none⟩ = some (.slice x.a x.n x.cap) ∧ (∀ o, wr.frozen? ⟨w.heap.size + 1, o, none⟩ = false) ∧ (0 < i → IntAt wr x.neg x.a x.n x.cap k (farZ t z (i - 1))) ∧ w.heap.size + 1 + 1 ≤ wr.heap.size ∧
      Below (w.heap.size + 1) (w.alloc (.cells #[.bool false, .slice none 0 0] 26)) wr) (fun ii _ => n + 1 - (intOf ii).toNat)
  case atStart =>
    exact ⟨0, ⟨false, none, 0, 0⟩, by omega, rfl, by simp [go_sem], by simp [go_sem], by intro o; simp [go_sem], fun h => by omega, by simp, (Below.refl _ _).alloc (by simp) _⟩
  case round =>
    obtain ⟨i, x, hi, rfl, x0, x1, x2, hx, hsw, hbl⟩ := hrel
    have hB : Below w.heap.size w wr := (bl1 _ _).trans (hbl.mono (by omega))
    by_cases hin : i < n + 1
    · have g0 := (h.below hB).c0 i hin
      have g1 := (h.below hB).c1 i hin
      have hint := (h.below hB).int i hin
      have hi0 : (0 : Int) ≤ (i : Int) := by omega
      have hi1 : (i : Int) < (n : Int) + 1 := by omega
      have hbb : b ≤ w.heap.size + 1 := by omega
      have hne : w.heap.size + 1 ≠ b := by omega
      have hne' : b ≠ w.heap.size + 1 := by omega
      have hlw : w.heap.size + 1 < wr.heap.size := by omega
      have hne2 : w.heap.size + 1 ≠ wr.heap.size := by omega
      have hne3 : wr.heap.size ≠ w.heap.size + 1 := by omega
      have HH := hide h
      clear h
      by_cases hz : i = 0
      · subst hz
        go_wp2
        go_roundw
        case rel =>
          refine ⟨1, f 0, by omega, rfl, ?_, ?_, ?_, fun _ => ?_, ?_, ?_⟩
          · simp [go_sem, hlw, x0, x1]
          · simp [go_sem, hlw, x0, x1]
          · intro o; rw [fz_past _ _ _ (by simpa [World.setCell] using hlw)]; simp [go_sem, x2]
          · exact ((hint.put2 x0 x1 _ _).below (bl1 _ _))
          · simp [World.setCell]; omega
          · exact ((hbl.setCell (p := ⟨w.heap.size + 1, 0, none⟩) (Nat.le_refl _) _).setCell (p := ⟨w.heap.size + 1, 1, none⟩) (Nat.le_refl _) _).alloc (by simp [World.setCell]; omega) _
        case measure => simp [intOf]
      · have HX := hide (hx (by omega))
        have hz' : ((i : Int) == 0) = false := by simp; omega
        obtain ⟨j, hj⟩ : ∃ j, i = j + 1 := ⟨i - 1, by omega⟩
        have hfz : farZ t z (i + 1 - 1) = if cmpInt (z i) (farZ t z (i - 1)) = t then z i else farZ t z (i - 1) := by subst hj; rfl
        clear hj hx
        by_cases hc : cmpInt (z i) (farZ t z (i - 1)) = t
        · have hcm : (cmpInt (z i) (farZ t z (i - 1)) == t) = true := by simp [hc]
          rw [if_pos hc] at hfz
          have HF := hide hfz
          clear hfz hc
          go_wp2_with (go_at_call 24; refine (cmp_int _ _ _ _ _ _ _ _ k k (z i) (farZ t z (i - 1)) _ (hint.below (bl1 _ _)) ((unhide HX).below (bl1 _ _))).mono ?_; rintro r w1 ⟨rfl, hb1⟩; obtain ⟨hsz1, hcell1, hfz1⟩ := near (wr.heap.size + 1) (by simp) hb1; have y3 : w.heap.size + 1 + 1 ≤ wr.heap.size + 1 := Nat.le_succ_of_le hsw; have y0 : w1.cell? ⟨w.heap.size + 1, 0, none⟩ = some (.bool x.neg) := ((hcell1 _ _ y3).trans (World.cell?_alloc_past _ _ _ hlw)).trans x0; have y1 : w1.cell? ⟨w.heap.size + 1, 1, none⟩ = some (.slice x.a x.n x.cap) := ((hcell1 _ _ y3).trans (World.cell?_alloc_past _ _ _ hlw)).trans x1; have y2 : ∀ o, w1.frozen? ⟨w.heap.size + 1, o, none⟩ = false := fun o => ((hfz1 _ _ y3).trans (fz_past _ _ _ hlw)).trans (x2 o))
          go_roundw
          case rel =>
            refine ⟨i + 1, f i, by omega, by go_num, by simp [go_sem, y0, y1], by simp [go_sem, y0, y1], by intro o; simp [go_sem, y2], fun _ => ?_, ?_, ?_⟩
            · rw [unhide HF]; exact ((hint.below (bl1 _ _)).below hb1).put2 y0 y1 _ _
            · have := Nat.le_trans y3 hsz1; simpa [World.setCell] using this
            · exact ((hbl.trans ((bthen (bl1 _ _) hb1).mono (by omega))).setCell (p := ⟨w.heap.size + 1, 0, none⟩) (Nat.le_refl _) _).setCell (p := ⟨w.heap.size + 1, 1, none⟩) (Nat.le_refl _) _
          case measure => simp [intOf]; omega
        · have hcm : (cmpInt (z i) (farZ t z (i - 1)) == t) = false := by simp [hc]
          rw [if_neg hc] at hfz
          have HF := hide hfz
          clear hfz hc
          go_wp2_with (go_at_call 24; refine (cmp_int _ _ _ _ _ _ _ _ k k (z i) (farZ t z (i - 1)) _ (hint.below (bl1 _ _)) ((unhide HX).below (bl1 _ _))).mono ?_; rintro r w1 ⟨rfl, hb1⟩; obtain ⟨hsz1, hcell1, hfz1⟩ := near (wr.heap.size + 1) (by simp) hb1; have y3 : w.heap.size + 1 + 1 ≤ wr.heap.size + 1 := Nat.le_succ_of_le hsw; have y0 : w1.cell? ⟨w.heap.size + 1, 0, none⟩ = some (.bool x.neg) := ((hcell1 _ _ y3).trans (World.cell?_alloc_past _ _ _ hlw)).trans x0; have y1 : w1.cell? ⟨w.heap.size + 1, 1, none⟩ = some (.slice x.a x.n x.cap) := ((hcell1 _ _ y3).trans (World.cell?_alloc_past _ _ _ hlw)).trans x1; have y2 : ∀ o, w1.frozen? ⟨w.heap.size + 1, o, none⟩ = false := fun o => ((hfz1 _ _ y3).trans (fz_past _ _ _ hlw)).trans (x2 o))
          go_roundw
          case rel =>
            exact ⟨i + 1, x, by omega, by go_num, y0, y1, y2, fun _ => by rw [unhide HF]; exact ((unhide HX).below (bl1 _ _)).below hb1, Nat.le_trans y3 hsz1, hbl.trans ((bthen (bl1 _ _) hb1).mono (by omega))⟩
          case measure => simp [intOf]; omega
    · have hiE : i = n + 1 := by omega
      subst hiE
      have q3 : wr.cell? ⟨w.heap.size, 0, none⟩ = some (.bool false) := (hbl.cell (p := ⟨w.heap.size, 0, none⟩) (Nat.lt_succ_self _)).trans (by simp [go_sem])
      have q4 : wr.cell? ⟨w.heap.size, 1, none⟩ = some (.slice none 0 0) := (hbl.cell (p := ⟨w.heap.size, 1, none⟩) (Nat.lt_succ_self _)).trans (by simp [go_sem])
      have q5 : ∀ o, wr.frozen? ⟨w.heap.size, o, none⟩ = false := fun o => (hbl.frozen (p := ⟨w.heap.size, o, none⟩) (Nat.lt_succ_self _)).trans (by simp [go_sem])
      have HX := hide (hx (by omega))
      clear h hx
      go_wp2_with (go_at_call 168; refine (copied_int _ _ _ _ k _ _ (unhide HX) hk).mono ?_; rintro r w1 ⟨neg1, a1, n1, c1, rfl, hint1, hb1⟩; obtain ⟨hsz1, hcell1, hfz1⟩ := near (w.heap.size + 1 + 1) hsw hb1)
      have y0 : w1.cell? ⟨w.heap.size, 0, none⟩ = some (.bool false) := (hcell1 _ _ (by omega)).trans q3
      have y1 : w1.cell? ⟨w.heap.size, 1, none⟩ = some (.slice none 0 0) := (hcell1 _ _ (by omega)).trans q4
      refine bodyPost_ret (v := .agg #[.bool neg1, .slice a1 n1 c1]) (by simp [results, Try.results150, go_sem, y0, y1]) rfl ⟨neg1, a1, n1, c1, rfl, ?_, ?_⟩
      · simp only [Nat.add_sub_cancel] at hint1; exact hint1.put2 y0 y1 _ _
      · exact ((bthen hB hb1).setCell (p := ⟨w.heap.size, 0, none⟩) (Nat.le_refl _) _).setCell (p := ⟨w.heap.size, 1, none⟩) (Nat.le_refl _) _
set_option maxRecDepth 100000 in
set_option maxHeartbeats 1000000 in
theorem most_int (b n cap k : Nat) (f : Nat → Nm) (z : Nat → Int) (w : World) (h : Nums w b (n + 1) k f z) (hk : k ≤ 1000000000) (hn : n ≤ 1000) :
    Calls Try.prog 118 #[.slice (some ⟨b, 0, none⟩) (n + 1) cap] w fun r w' =>
      ∃ neg' a' n' cap', r = .returned (.agg #[.bool neg', .slice a' n' cap']) ∧ IntAt w' neg' a' n' cap' (k + 1) (mostZ z n) ∧ Below w.heap.size w w' := by
  rw [← farZ_most]
  go_enter Try.func118, Try.ntmps118
  go_wp2_with (go_at_call 150; refine (farthest_int (1) _ _ _ k f z _ (h.below (bl1 _ _)) hk hn).mono ?_; rintro r w1 ⟨neg1, a1, n1, c1, rfl, hint1, hb1⟩; obtain ⟨hsz1, hcell1, hfz1⟩ := near (w.heap.size + 1) (by simp) hb1)
  have y0 : w1.cell? ⟨w.heap.size, 0, none⟩ = some (.bool false) := by simp [hcell1, go_sem]
  have y1 : w1.cell? ⟨w.heap.size, 1, none⟩ = some (.slice none 0 0) := by simp [hcell1, go_sem]
  refine bodyPost_ret (v := .agg #[.bool neg1, .slice a1 n1 c1]) (by simp [results, Try.results118, go_sem, y0, y1]) rfl ⟨neg1, a1, n1, c1, rfl, hint1.put2 y0 y1 _ _, ?_⟩
  exact ((bthen (bl1 _ _) hb1).setCell (p := ⟨w.heap.size, 0, none⟩) (Nat.le_refl _) _).setCell (p := ⟨w.heap.size, 1, none⟩) (Nat.le_refl _) _
set_option maxRecDepth 100000 in
set_option maxHeartbeats 1000000 in
theorem leastw_int (b n cap k : Nat) (f : Nat → Nm) (z : Nat → Int) (w : World) (h : Nums w b (n + 1) k f z) (hk : k ≤ 1000000000) (hn : n ≤ 1000) :
    Calls Try.prog 116 #[.slice (some ⟨b, 0, none⟩) (n + 1) cap] w fun r w' =>
      ∃ neg' a' n' cap', r = .returned (.agg #[.bool neg', .slice a' n' cap']) ∧ IntAt w' neg' a' n' cap' (k + 1) (leastZ z n) ∧ Below w.heap.size w w' := by
  rw [← farZ_least]
  go_enter Try.func116, Try.ntmps116
  go_wp2_with (go_at_call 150; refine (farthest_int (-1) _ _ _ k f z _ (h.below (bl1 _ _)) hk hn).mono ?_; rintro r w1 ⟨neg1, a1, n1, c1, rfl, hint1, hb1⟩; obtain ⟨hsz1, hcell1, hfz1⟩ := near (w.heap.size + 1) (by simp) hb1)
  have y0 : w1.cell? ⟨w.heap.size, 0, none⟩ = some (.bool false) := by simp [hcell1, go_sem]
  have y1 : w1.cell? ⟨w.heap.size, 1, none⟩ = some (.slice none 0 0) := by simp [hcell1, go_sem]
  refine bodyPost_ret (v := .agg #[.bool neg1, .slice a1 n1 c1]) (by simp [results, Try.results116, go_sem, y0, y1]) rfl ⟨neg1, a1, n1, c1, rfl, hint1.put2 y0 y1 _ _, ?_⟩
  exact ((bthen (bl1 _ _) hb1).setCell (p := ⟨w.heap.size, 0, none⟩) (Nat.le_refl _) _).setCell (p := ⟨w.heap.size, 1, none⟩) (Nat.le_refl _) _
end Go.Proofs.Ytgmnknmjainabab
namespace Go.Proofs.Ytgmnknmjainabab
open Go.RowKit
attribute [local go_sem ↓] Go.wp_at_zero Go.wp_at_succ
structure Spans (w : World) (b n : Nat) (f : Nat → Sp) (d e : Nat → Nat → Int) : Prop where
  lt : b < w.heap.size
  c0 : ∀ j, j < n → w.cell? ⟨b, j * 5, none⟩ = some (.bool (f j).ln)
  c1 : ∀ j, j < n → w.cell? ⟨b, j * 5 + 1, none⟩ = some (.slice (f j).la (f j).lN (f j).lc)
  c2 : ∀ j, j < n → w.cell? ⟨b, j * 5 + 2, none⟩ = some (.bool (f j).hn)
  c3 : ∀ j, j < n → w.cell? ⟨b, j * 5 + 3, none⟩ = some (.slice (f j).ha (f j).hN (f j).hc)
  c4 : ∀ j, j < n → w.cell? ⟨b, j * 5 + 4, none⟩ = some (.int .i64 (f j).bits)
  dig : ∀ j, j < n → SpDig w (f j) (d j) (e j)
theorem Spans.below {w w' : World} {b n : Nat} {f : Nat → Sp} {d e : Nat → Nat → Int} (h : Spans w b n f d e) (hb : Below w.heap.size w w') : Spans w' b n f d e :=
  ⟨Nat.lt_of_lt_of_le h.lt hb.size, fun j hj => (hb.cell (p := ⟨b, j * 5, none⟩) h.lt).trans (h.c0 j hj), fun j hj => (hb.cell (p := ⟨b, j * 5 + 1, none⟩) h.lt).trans (h.c1 j hj), fun j hj => (hb.cell (p := ⟨b, j * 5 + 2, none⟩) h.lt).trans (h.c2 j hj),
    fun j hj => (hb.cell (p := ⟨b, j * 5 + 3, none⟩) h.lt).trans (h.c3 j hj), fun j hj => (hb.cell (p := ⟨b, j * 5 + 4, none⟩) h.lt).trans (h.c4 j hj), fun j hj => (h.dig j hj).below hb⟩
def Flt (c bt : Nat → Int) (n : Nat) (r : Int) : Prop :=
  (∃ i, i < n ∧ c i ≠ 0 ∧ (∀ j, j < i → c j = 0) ∧ r = c i) ∨ ((∀ j, j < n → c j = 0) ∧ (∃ i, i < n ∧ bt i ≠ bt 0) ∧ r = 4) ∨ ((∀ j, j < n → c j = 0) ∧ (∀ j, j < n → bt j = bt 0) ∧ r = 0)
set_option maxRecDepth 100000 in
set_option maxHeartbeats 2000000 in
theorem fault_any (b n cap : Nat) (f : Nat → Sp) (d e : Nat → Nat → Int) (w : World) (h : Spans w b n f d e) (hn : n ≤ 1000) :
    Calls Try.prog 92 #[.slice (some ⟨b, 0, none⟩) n cap] w fun r w' =>
      ∃ z, r = .returned (.int .i64 z) ∧ Flt (fun j => chkE (f j) (d j) (e j)) (fun j => (f j).bits) n z ∧ Below w.heap.size w w' := by
  have hblt := h.lt
  have HH := hide h
  clear h
  go_enter Try.func92, Try.ntmps92
  go_wp2
  go_loopw [10] (fun ii wr => ∃ i : Nat, i ≤ n ∧ ii = .int .i64 i ∧ (∀ j, j < i → chkE (f j) (d j) (e j) = 0) ∧ Below w.heap.size w wr) (fun ii _ => n - (intOf ii).toNat)
  case atStart => exact ⟨0, by omega, rfl, fun j hj => by omega, Below.refl _ _⟩
  case round =>
    obtain ⟨i, hi, rfl, hz, hB⟩ := hrel
    by_cases hin : i < n
    · have H2 := (unhide HH).below hB
      have g0 := H2.c0 i hin
      have g1 := H2.c1 i hin
      have g2 := H2.c2 i hin
      have g3 := H2.c3 i hin
      have g4 := H2.c4 i hin
      have HD := hide (H2.dig i hin)
      have hi1 : (i : Int) < (n : Int) := by omega
      have HZ := hide hz
      clear hz H2
      by_cases hc : chkE (f i) (d i) (e i) = 0
      · go_wp2_with (go_at_call 144; refine (check_any (f i) (d i) (e i) _ ((unhide HD).below (bl1 _ _))).mono ?_; rintro r w1 ⟨rfl, hb1⟩)
        go_roundw
        case rel => exact ⟨i + 1, by omega, by go_num, fun j hj => by
                            by_cases hji : j = i
                            · subst hji; exact hc
                            · exact unhide HZ j (by omega), bthen (balloc hB _) hb1⟩
        case measure => simp [intOf]; omega
      · have hc' : (chkE (f i) (d i) (e i) != 0) = true := by simpa using hc
        go_wp2_with (go_at_call 144; refine (check_any (f i) (d i) (e i) _ ((unhide HD).below (bl1 _ _))).mono ?_; rintro r w1 ⟨rfl, hb1⟩)
        go_ret
        exact ⟨_, rfl, Or.inl ⟨i, hin, hc, unhide HZ, rfl⟩, bthen (balloc hB _) hb1⟩
    · have hiE : i = n := by omega
      subst hiE
      have HZ := hide hz
      clear hz hin hi
      go_wp2
      go_loopw [22] (fun ii wq => ∃ t : Nat, t ≤ i ∧ ii = .int .i64 t ∧ (∀ j, j < t → (f j).bits = (f 0).bits) ∧ Below w.heap.size w wq) (fun ii _ => i - (intOf ii).toNat)
      case atStart => exact ⟨0, by omega, rfl, fun j hj => by omega, hB⟩
      case round =>
        obtain ⟨t, ht, rfl, hz, hB⟩ := hrel
        by_cases hti : t < i
        · have H2 := (unhide HH).below hB
          have g0 := H2.c0 t hti
          have g1 := H2.c1 t hti
          have g2 := H2.c2 t hti
          have g3 := H2.c3 t hti
          have g4 := H2.c4 t hti
          have g5 := H2.c4 0 (by omega)
          have hlt := H2.lt
          simp only [Nat.zero_mul, Nat.zero_add] at g5
          have hi1 : (t : Int) < (i : Int) := by omega
          have hi0 : (0 : Int) < (i : Int) := by omega
          have HZ2 := hide hz
          clear hz H2
          by_cases hc : (f t).bits = (f 0).bits
          · have hc' : ((f t).bits != (f 0).bits) = false := by simp [hc]
            have HC := hide hc
            clear hc
            go_wp2
            go_quiet (fail)
            go_wp2
            go_roundw
            case rel => exact ⟨t + 1, by omega, by go_num, fun j hj => by
                                by_cases hji : j = t
                                · subst hji; exact unhide HC
                                · exact unhide HZ2 j (by omega), below_drewN (balloc hB _) _⟩
            case measure => simp [intOf]; omega
          · have hc' : ((f t).bits != (f 0).bits) = true := by simp [hc]
            go_wp2
            go_quiet (fail)
            go_wp2
            go_ret
            exact ⟨_, rfl, Or.inr (Or.inl ⟨unhide HZ, ⟨t, hti, hc⟩, rfl⟩), below_drewN (balloc hB _) _⟩
        · have htE : t = i := by omega
          subst htE
          go_wp2
          go_ret
          exact ⟨_, rfl, Or.inr (Or.inr ⟨unhide HZ, hz, rfl⟩), hB⟩
end Go.Proofs.Ytgmnknmjainabab
namespace Go.Proofs.Ytgmnknmjainabab
open Go.RowKit
attribute [local go_sem ↓] Go.wp_at_zero Go.wp_at_succ
def pr {α : Type} (x y : α) (j : Nat) : α := if j = 0 then x else y
def fltE2 (x y b1 b2 : Int) : Int := if x ≠ 0 then x else if y ≠ 0 then y else if b1 ≠ b2 then 4 else 0
theorem flt2 {x y b1 b2 r : Int} (h : Flt (fun j => pr x y j) (fun j => pr b1 b2 j) 2 r) : r = fltE2 x y b1 b2 := by
  unfold fltE2
  rcases h with ⟨i, hi, h1, h2, h3⟩ | ⟨h1, ⟨i, hi, h2⟩, h3⟩ | ⟨h1, h2, h3⟩
  · match i, hi with
    | 0, _ => simp [pr] at h1 h3; simp [h1, h3]
    | 1, _ => have := h2 0 (by omega); simp [pr] at h1 h3 this; simp [this, h1, h3]
  · have a0 := h1 0 (by omega)
    have a1 := h1 1 (by omega)
    simp [pr] at a0 a1
    match i, hi with
    | 0, _ => simp at h2
    | 1, _ => simp [pr] at h2; simp [a0, a1, h3]; omega
  · have a0 := h1 0 (by omega)
    have a1 := h1 1 (by omega)
    have a2 := h2 1 (by omega)
    simp [pr] at a0 a1 a2; simp [a0, a1, a2, h3]
theorem spans2 (w : World) (s t : Sp) (d e d' e' : Nat → Int) (T : TypeId) (hs : SpDig w s d e) (ht : SpDig w t d' e') :
    Spans (w.alloc (.cells #[.bool s.ln, .slice s.la s.lN s.lc, .bool s.hn, .slice s.ha s.hN s.hc, .int .i64 s.bits, .bool t.ln, .slice t.la t.lN t.lc, .bool t.hn, .slice t.ha t.hN t.hc, .int .i64 t.bits] T)) w.heap.size 2 (pr s t) (pr d d') (pr e e') := by
  refine ⟨by simp, ?_, ?_, ?_, ?_, ?_, ?_⟩
  all_goals
    intro j hj
    match j, hj with
    | 0, _ => first | (simp [pr]; done) | exact hs.below (bl1 _ _)
    | 1, _ => first | (simp [pr]; done) | exact ht.below (bl1 _ _)
end Go.Proofs.Ytgmnknmjainabab
namespace Go.Proofs.Ytgmnknmjainabab
open Go.RowKit
attribute [local go_sem ↓] Go.wp_at_zero Go.wp_at_succ
structure SpAt (w : World) (s : Sp) (k : Nat) (lo hi : Int) : Prop where
  lo : IntAt w s.ln s.la s.lN s.lc k lo
  hi : IntAt w s.hn s.ha s.hN s.hc k hi
theorem SpAt.below {w w' : World} {s : Sp} {k : Nat} {lo hi : Int} (h : SpAt w s k lo hi) (hb : Below w.heap.size w w') : SpAt w' s k lo hi := ⟨h.lo.below hb, h.hi.below hb⟩
theorem blenF_pos (f : Nat) {x : Int} (h : 0 < x) : 1 ≤ blenF (f + 1) x := by
  simp only [blenF]; rw [if_neg (by omega)]; have := blenF_bd f (x / 2); omega
theorem blen16_pos {x : Int} (h : 0 < x) : 1 ≤ blenF 16 x := blenF_pos 15 h
def maxZ (x y : Int) : Int := if x < y then y else x
def minZ (x y : Int) : Int := if y < x then y else x
theorem right_int {w : World} {neg : Bool} {a : Option Addr} {n cap : Nat} {d : Nat → Int} (h : Dig w a n cap d) (hr : rightB neg n d ≠ false) (hl : ¬ 4000 < lenZ n d) : IntAt w neg a n cap 250 (sgn neg (V d n)) := by
  have hd := h.dgs (n - 1)
  unfold rightB at hr
  unfold lenZ at hl
  by_cases h0 : n = 0
  · subst h0
    simp at hr
    exact ⟨d, h, Or.inl rfl, fun _ => hr, by omega, rfl⟩
  · rw [if_neg h0] at hr hl
    have hne : d (n - 1) ≠ 0 := by simpa using hr
    have := blen16_pos (show 0 < d (n - 1) by omega)
    exact ⟨d, h, Or.inr hne, fun h => absurd h h0, by omega, rfl⟩
theorem chk_ok {w : World} {s : Sp} {d e : Nat → Int} (h : SpDig w s d e) (hc : chkE s d e = 0) :
    SpAt w s 250 (sgn s.ln (V d s.lN)) (sgn s.hn (V e s.hN)) ∧ 1 ≤ s.bits ∧ s.bits ≤ 120 ∧ sgn s.ln (V d s.lN) ≤ sgn s.hn (V e s.hN) := by
  unfold chkE at hc
  split at hc
  · omega
  · split at hc
    · omega
    · split at hc
      · omega
      · split at hc
        · omega
        · rename_i c1 c2 c3 c4
          have i1 := right_int h.lo (neg := s.ln) (fun q => c2 (Or.inl q)) (fun q => c3 (Or.inl q))
          have i2 := right_int h.hi (neg := s.hn) (fun q => c2 (Or.inr q)) (fun q => c3 (Or.inr q))
          refine ⟨⟨i1, i2⟩, by omega, by omega, ?_⟩
          obtain ⟨d1, p1, p2, p3, p4, p5⟩ := i1
          obtain ⟨e1, r1, r2, r3, r4, r5⟩ := i2
          have q1 : s.lN = 0 ∨ d (s.lN - 1) ≠ 0 := by
            by_cases hh : s.lN = 0
            · exact Or.inl hh
            · right; intro h0; exact c2 (Or.inl (by simp [rightB, hh, h0]))
          have q2 : s.hN = 0 ∨ e (s.hN - 1) ≠ 0 := by
            by_cases hh : s.hN = 0
            · exact Or.inl hh
            · right; intro h0; exact c2 (Or.inr (by simp [rightB, hh, h0]))
          rw [sgn_nonneg_lt h.lo.dgs h.hi.dgs s.ln s.hn s.lN s.hN q1 q2 p3 r3] at c4
          by_cases hh : sgn s.hn (V e s.hN) < sgn s.ln (V d s.lN)
          · exact absurd (show 0 < cmpInt (sgn s.ln (V d s.lN)) (sgn s.hn (V e s.hN)) by unfold cmpInt; rw [if_neg (by omega), if_pos hh]; omega) c4
          · omega
theorem nums2 (w : World) (x y : Nm) (k : Nat) (zx zy : Int) (T : TypeId) (hx : IntAt w x.neg x.a x.n x.cap k zx) (hy : IntAt w y.neg y.a y.n y.cap k zy) :
    Nums (w.alloc (.cells #[.bool x.neg, .slice x.a x.n x.cap, .bool y.neg, .slice y.a y.n y.cap] T)) w.heap.size 2 k (pr x y) (pr zx zy) := by
  refine ⟨by simp, ?_, ?_, ?_⟩
  all_goals
    intro j hj
    match j, hj with
    | 0, _ => first | (simp [pr]; done) | exact hx.below (bl1 _ _)
    | 1, _ => first | (simp [pr]; done) | exact hy.below (bl1 _ _)
theorem most2 (w : World) (B : Nat) (hB : w.heap.size = B) (x y : Nm) (k : Nat) (zx zy : Int) (T : TypeId) (cap : Nat) (hx : IntAt w x.neg x.a x.n x.cap k zx) (hy : IntAt w y.neg y.a y.n y.cap k zy) (hk : k ≤ 1000000000) :
    Calls Try.prog 118 #[.slice (some ⟨B, 0, none⟩) 2 cap] (w.alloc (.cells #[.bool x.neg, .slice x.a x.n x.cap, .bool y.neg, .slice y.a y.n y.cap] T)) fun r w' =>
      ∃ neg' a' n' cap', r = .returned (.agg #[.bool neg', .slice a' n' cap']) ∧ IntAt w' neg' a' n' cap' (k + 1) (maxZ zx zy) ∧ Below w.heap.size w w' := by
  subst hB
  exact (most_int w.heap.size 1 cap k (pr x y) (pr zx zy) _ (nums2 w x y k zx zy T hx hy) hk (by omega)).mono fun _ _ ⟨n1, n2, n3, n4, q1, q2, q3⟩ => ⟨n1, n2, n3, n4, q1, q2, (bl1 _ _).trans (q3.mono (by simp))⟩
theorem least2 (w : World) (B : Nat) (hB : w.heap.size = B) (x y : Nm) (k : Nat) (zx zy : Int) (T : TypeId) (cap : Nat) (hx : IntAt w x.neg x.a x.n x.cap k zx) (hy : IntAt w y.neg y.a y.n y.cap k zy) (hk : k ≤ 1000000000) :
    Calls Try.prog 116 #[.slice (some ⟨B, 0, none⟩) 2 cap] (w.alloc (.cells #[.bool x.neg, .slice x.a x.n x.cap, .bool y.neg, .slice y.a y.n y.cap] T)) fun r w' =>
      ∃ neg' a' n' cap', r = .returned (.agg #[.bool neg', .slice a' n' cap']) ∧ IntAt w' neg' a' n' cap' (k + 1) (minZ zx zy) ∧ Below w.heap.size w w' := by
  subst hB
  exact (leastw_int w.heap.size 1 cap k (pr x y) (pr zx zy) _ (nums2 w x y k zx zy T hx hy) hk (by omega)).mono fun _ _ ⟨n1, n2, n3, n4, q1, q2, q3⟩ => ⟨n1, n2, n3, n4, q1, q2, (bl1 _ _).trans (q3.mono (by simp))⟩
set_option maxRecDepth 100000 in
set_option maxHeartbeats 2000000 in
theorem reach_int (w : World) (s : Sp) (k : Nat) (lo hi : Int) (h : SpAt w s k lo hi) (hk : k ≤ 900000000) :
    Calls Try.prog 154 #[.agg #[.bool s.ln, .slice s.la s.lN s.lc, .bool s.hn, .slice s.ha s.hN s.hc, .int .i64 s.bits]] w fun r w' =>
      ∃ neg' a' n' cap', r = .returned (.agg #[.bool neg', .slice a' n' cap']) ∧ IntAt w' neg' a' n' cap' (k + 1) (maxZ hi (-lo)) ∧ Below w.heap.size w w' := by
  go_enter Try.func154, Try.ntmps154
  go_wp2
  go_region_held3 (fun w' => w'.cell? ⟨w.heap.size, 0, none⟩ = some (.bool s.ln) ∧ w'.cell? ⟨w.heap.size, 1, none⟩ = some (.slice s.la s.lN s.lc) ∧ w'.cell? ⟨w.heap.size, 2, none⟩ = some (.bool s.hn) ∧ w'.cell? ⟨w.heap.size, 3, none⟩ = some (.slice s.ha s.hN s.hc)) (go_keep)
    (first
      | (go_at_call 83; refine (neg_int _ _ _ _ k lo _ (h.lo.below (bl2 _ _ _).drew) (by omega)).mono ?_; rintro r w1 ⟨neg1, a1, n1, c1, rfl, hint1, hb1⟩; obtain ⟨hsz1, hcell1, hfz1⟩ := near (w.heap.size + 1 + 1) (by simp) hb1; have hz0 := Nat.lt_of_lt_of_le (Nat.lt_succ_of_lt (Nat.lt_succ_self w.heap.size)) hsz1; have hz1 := Nat.lt_of_lt_of_le (Nat.lt_succ_self (w.heap.size + 1)) hsz1)
      | (go_at_call 118; refine (most2 w1 _ rfl ⟨s.hn, s.ha, s.hN, s.hc⟩ ⟨neg1, a1, n1, c1⟩ k hi (-lo) _ _ (h.hi.below (bthen (bl2 _ _ _).drew hb1)) hint1 (by omega)).mono ?_; rintro r w2 ⟨neg2, a2, n2, c2, rfl, hint2, hb2⟩; obtain ⟨hsz2, hcell2, hfz2⟩ := near (w.heap.size + 1 + 1) hsz1 hb2))
  go_wp2
  have y0 : w2.cell? ⟨w.heap.size + 1, 0, none⟩ = some (.bool false) := by simp [hcell2, hcell1, go_sem]
  have y1 : w2.cell? ⟨w.heap.size + 1, 1, none⟩ = some (.slice none 0 0) := by simp [hcell2, hcell1, go_sem]
  refine bodyPost_ret (v := .agg #[.bool neg2, .slice a2 n2 c2]) (by simp [results, Try.results154, go_sem, y0, y1]) rfl ⟨neg2, a2, n2, c2, rfl, hint2.put2 y0 y1 _ _, ?_⟩
  exact ((bthen (bthen (bl2 _ _ _).drew hb1) hb2).setCell (p := ⟨w.heap.size + 1, 0, none⟩) (Nat.le_succ _) _).setCell (p := ⟨w.heap.size + 1, 1, none⟩) (Nat.le_succ _) _
end Go.Proofs.Ytgmnknmjainabab
namespace Go.Proofs.Ytgmnknmjainabab
open Go.RowKit
attribute [local go_sem ↓] Go.wp_at_zero Go.wp_at_succ
def narB (lo hi K n : Int) : Bool := decide ((hi - lo) * K ≤ n * (K + maxZ hi (-lo)))
theorem cmp_le0 (x y : Int) : decide (cmpInt x y ≤ 0) = decide (x ≤ y) := by
  rw [decide_eq_decide]; unfold cmpInt
  by_cases h : x < y
  · rw [if_pos h]; omega
  · rw [if_neg h]
    by_cases h2 : y < x
    · rw [if_pos h2]; omega
    · rw [if_neg h2]; omega
def VarAt (w : World) (p : Value) (H k : Nat) (z : Int) : Prop :=
  ∃ (B : Nat) (x : Nm), p = .pointer (some ⟨B, 0, none⟩) ∧ w.cell? ⟨B, 0, none⟩ = some (.bool x.neg) ∧ w.cell? ⟨B, 1, none⟩ = some (.slice x.a x.n x.cap) ∧ IntAt w x.neg x.a x.n x.cap k z ∧ H ≤ B ∧ B < w.heap.size
theorem varA {w : World} {neg : Bool} {a : Option Addr} {n cap k : Nat} {z : Int} (h : IntAt w neg a n cap k z) (T : TypeId) (H : Nat) (hH : H ≤ w.heap.size) : VarAt (w.alloc (.cells #[.bool neg, .slice a n cap] T)) (.pointer (some ⟨w.heap.size, 0, none⟩)) H k z :=
  ⟨w.heap.size, ⟨neg, a, n, cap⟩, rfl, by simp, by simp, h.below (bl1 _ _), hH, by simp⟩
theorem varB {w : World} {neg : Bool} {a : Option Addr} {n cap k : Nat} {z : Int} (h : IntAt w neg a n cap k z) (H B : Nat) (h0 : w.cell? ⟨B, 0, none⟩ = some (.bool false)) (h1 : w.cell? ⟨B, 1, none⟩ = some (.slice none 0 0)) (hH : H ≤ B) :
    VarAt ((w.setCell ⟨B, 0, none⟩ (.bool neg)).setCell ⟨B, 1, none⟩ (.slice a n cap)) (.pointer (some ⟨B, 0, none⟩)) H k z :=
  ⟨B, ⟨neg, a, n, cap⟩, rfl, by simp [go_sem, h0, h1], by simp [go_sem, h0, h1], h.put2 h0 h1 _ _, hH, by
    have := World.block_lt_of_cell? w ⟨B, 0, none⟩ h0
    simpa [World.setCell] using this⟩
theorem VarAt.mono {w : World} {p : Value} {H k k' : Nat} {z : Int} (h : VarAt w p H k z) (hk : k ≤ k') : VarAt w p H k' z := by
  obtain ⟨B, x, h1, h2, h3, h4, h5, h6⟩ := h
  exact ⟨B, x, h1, h2, h3, h4.mono hk, h5, h6⟩
set_option maxRecDepth 100000 in
set_option maxHeartbeats 2000000 in
theorem narrow_int (w : World) (s : Sp) (b n : Nat) (lo hi : Int) (h : SpAt w s 250 lo hi) (hb : s.bits = b) (hb1 : b ≤ 120) (hn : n ≤ 1000000) :
    Calls Try.prog 124 #[.agg #[.bool s.ln, .slice s.la s.lN s.lc, .bool s.hn, .slice s.ha s.hN s.hc, .int .i64 s.bits], .int .i64 n] w fun r w' =>
      r = .returned (.bool (narB lo hi (Q b) n)) ∧ Below w.heap.size w w' := by
  rw [hb]
  go_enter Try.func124, Try.ntmps124
  go_wp2
  go_cut [5] (fun p wx => VarAt wx p (w.heap.size + 1) 400 ((hi - lo) * Q b) ∧ Below (w.heap.size + 1) (w.alloc (.cells #[.bool s.ln, .slice s.la s.lN s.lc, .bool s.hn, .slice s.ha s.hN s.hc, .int .i64 b] 28)) wx)
  case first =>
    go_region_held3 (fun w' => w'.cell? ⟨w.heap.size, 0, none⟩ = some (.bool s.ln) ∧ w'.cell? ⟨w.heap.size, 1, none⟩ = some (.slice s.la s.lN s.lc) ∧ w'.cell? ⟨w.heap.size, 2, none⟩ = some (.bool s.hn) ∧ w'.cell? ⟨w.heap.size, 3, none⟩ = some (.slice s.ha s.hN s.hc) ∧ w'.cell? ⟨w.heap.size, 4, none⟩ = some (.int .i64 b)) (go_keep)
      (first
        | (go_at_call 53; refine (sub_int _ _ _ _ _ _ _ _ 250 250 hi lo _ (h.hi.below (by first | exact (bl1 _ _).drew | exact (bl2 _ _ _).drew)) (h.lo.below (by first | exact (bl1 _ _).drew | exact (bl2 _ _ _).drew)) (by omega) (by omega)).mono ?_; rintro r w1 ⟨neg1, a1, n1, c1, rfl, hint1, hb1⟩; obtain ⟨hs1, hcell1, hfz1⟩ := near _ (Nat.le_refl _) hb1; (try simp at hs1); have hl1 : w.heap.size < w1.heap.size := Nat.lt_of_lt_of_le (by first | exact Nat.lt_succ_self _ | exact Nat.lt_succ_of_lt (Nat.lt_succ_self _)) hs1; have hl1' := Nat.le_of_lt hl1; have hl1s : w.heap.size + 1 ≤ w1.heap.size := hl1; have hn1 := Nat.ne_of_gt hl1; have hn1' := Nat.ne_of_lt hl1)
        | (go_at_call 113; refine (up_int _ _ _ _ b 251 (hi - lo) _ (hint1.below (by first | exact Below.refl _ _ | exact bl1 _ _)) (by omega) (by omega)).mono ?_; rintro r w2 ⟨neg2, a2, n2, c2, rfl, hint2, hb2⟩; obtain ⟨hs2, hcell2, hfz2⟩ := near _ (Nat.le_refl _) hb2; have hl2 : w1.heap.size ≤ w2.heap.size := Nat.le_trans (by simp) hs2; have hl2' := Nat.lt_of_lt_of_le hl1 hl2; have hn2 := Nat.ne_of_gt hl2'; have hl2s : w.heap.size + 1 ≤ w2.heap.size := hl2'; have hn2' := Nat.ne_of_lt hl2'; (try simp at hs2)))
    · go_wp2_with fail
      go_meet
      refine ⟨(varA hint2 _ _ hl2s).mono (by omega), ?_⟩
      exact (((bthen (Below.refl _ _).drew hb1).mono (by simp)).trans (hb2.mono hl1s)).alloc hl2s _
    · go_wp2_with fail
      go_meet
      have h0 : w2.cell? ⟨w1.heap.size, 0, none⟩ = some (.bool false) := by simp [hcell2]
      have h1 : w2.cell? ⟨w1.heap.size, 1, none⟩ = some (.slice none 0 0) := by simp [hcell2]
      refine ⟨(varB hint2 _ _ h0 h1 hl1s).mono (by omega), ?_⟩
      exact (((((bthen (Below.refl _ _).drew hb1).mono (by simp)).alloc hl1s _).trans (hb2.mono (by simp; omega))).setCell hl1s _).setCell hl1s _
    · go_wp2_with fail
      go_meet
      have h0 : w2.cell? ⟨w.heap.size + 1, 0, none⟩ = some (.bool false) := by simp [hcell2, hcell1, hs1, go_sem]
      have h1 : w2.cell? ⟨w.heap.size + 1, 1, none⟩ = some (.slice none 0 0) := by simp [hcell2, hcell1, hs1, go_sem]
      refine ⟨(varB hint2 _ _ h0 h1 (Nat.le_refl _)).mono (by omega), ?_⟩
      exact ((((((Below.refl _ _).alloc (by simp) _).drew.trans (hb1.mono (by simp))).trans (hb2.mono hl1s)).setCell (p := ⟨w.heap.size + 1, 0, none⟩) (Nat.le_refl _) _).setCell (p := ⟨w.heap.size + 1, 1, none⟩) (Nat.le_refl _) _)
  case rest =>
  obtain ⟨⟨B5, x5, rfl, c50, c51, hint5, hB5, hlt5⟩, hbl5⟩ := hcut
  rename World => wA
  have hw5 := hbl5.size
  simp at hw5
  have b50 : wA.cell? ⟨w.heap.size, 0, none⟩ = some (.bool s.ln) := (hbl5.cell (p := ⟨w.heap.size, 0, none⟩) (Nat.lt_succ_self _)).trans (by simp)
  have b51 : wA.cell? ⟨w.heap.size, 1, none⟩ = some (.slice s.la s.lN s.lc) := (hbl5.cell (p := ⟨w.heap.size, 1, none⟩) (Nat.lt_succ_self _)).trans (by simp)
  have b52 : wA.cell? ⟨w.heap.size, 2, none⟩ = some (.bool s.hn) := (hbl5.cell (p := ⟨w.heap.size, 2, none⟩) (Nat.lt_succ_self _)).trans (by simp)
  have b53 : wA.cell? ⟨w.heap.size, 3, none⟩ = some (.slice s.ha s.hN s.hc) := (hbl5.cell (p := ⟨w.heap.size, 3, none⟩) (Nat.lt_succ_self _)).trans (by simp)
  have b54 : wA.cell? ⟨w.heap.size, 4, none⟩ = some (.int .i64 b) := (hbl5.cell (p := ⟨w.heap.size, 4, none⟩) (Nat.lt_succ_self _)).trans (by simp)
  have hws : w.heap.size < wA.heap.size := hw5
  have hws1 : w.heap.size + 1 ≤ wA.heap.size := hw5
  have hws2 : w.heap.size ≤ wA.heap.size := Nat.le_of_lt hw5
  have hdr : wA.drew.heap.size = wA.heap.size := rfl
  have hwn : wA.heap.size ≠ w.heap.size := by omega
  have hwn' : w.heap.size ≠ wA.heap.size := by omega
  go_wp2
  go_cut [6] (fun p wx => VarAt wx p (w.heap.size + 1) 20 (Q b) ∧ Below wA.heap.size wA wx)
  case first =>
    go_region_held3 (fun w' => w'.cell? ⟨w.heap.size, 4, none⟩ = some (.int .i64 b)) (go_keep)
      (first
        | (go_at_call 48; refine (numOf_int 1 _ (by decide) (by decide)).mono ?_; rintro r w1 ⟨neg1, a1, n1, c1, rfl, hint1, hb1⟩; obtain ⟨hs1, hcell1, hfz1⟩ := near _ (Nat.le_refl _) hb1; (try simp at hs1); have hl0 : wA.heap.size ≤ w1.heap.size := Nat.le_trans (by simp) hs1; have hl1 : w.heap.size < w1.heap.size := Nat.lt_of_lt_of_le hws hl0; have hl1' := Nat.le_of_lt hl1; have hl1s : w.heap.size + 1 ≤ w1.heap.size := hl1; have hn1 := Nat.ne_of_gt hl1; have hn1' := Nat.ne_of_lt hl1)
        | (go_at_call 113; refine (up_int _ _ _ _ b 4 1 _ (hint1.below (by first | exact Below.refl _ _ | exact bl1 _ _)) (by omega) (by omega)).mono ?_; rintro r w2 ⟨neg2, a2, n2, c2, rfl, hint2, hb2⟩; obtain ⟨hs2, hcell2, hfz2⟩ := near _ (Nat.le_refl _) hb2; have hl2 : w1.heap.size ≤ w2.heap.size := Nat.le_trans (by simp) hs2; have hl2' := Nat.lt_of_lt_of_le hl1 hl2; have hn2 := Nat.ne_of_gt hl2'; have hl2s : w.heap.size + 1 ≤ w2.heap.size := hl2'; have hn2' := Nat.ne_of_lt hl2'; (try simp at hs2)))
    all_goals rw [Int.one_mul] at hint2
    · go_wp2_with fail
      go_meet
      refine ⟨(varA hint2 _ _ hl2s).mono (by omega), ?_⟩
      exact balloc (bthen (bthen (Below.refl _ _).drew hb1) hb2) _
    · go_wp2_with fail
      go_meet
      have h0 : w2.cell? ⟨w1.heap.size, 0, none⟩ = some (.bool false) := by simp [hcell2]
      have h1 : w2.cell? ⟨w1.heap.size, 1, none⟩ = some (.slice none 0 0) := by simp [hcell2]
      refine ⟨(varB hint2 _ _ h0 h1 hl1s).mono (by omega), ?_⟩
      exact ((bthen (balloc (bthen (Below.refl _ _).drew hb1) _) hb2).setCell (p := ⟨w1.heap.size, 0, none⟩) hl0 _).setCell (p := ⟨w1.heap.size, 1, none⟩) hl0 _
    · go_wp2_with fail
      go_meet
      have h0 : w2.cell? ⟨wA.heap.size, 0, none⟩ = some (.bool false) := by simp [hcell2, hcell1, hs1, go_sem]
      have h1 : w2.cell? ⟨wA.heap.size, 1, none⟩ = some (.slice none 0 0) := by simp [hcell2, hcell1, hs1, go_sem]
      refine ⟨(varB hint2 _ _ h0 h1 hws1).mono (by omega), ?_⟩
      exact ((bthen (bthen (bl1 _ _).drew hb1) hb2).setCell (p := ⟨wA.heap.size, 0, none⟩) (Nat.le_refl _) _).setCell (p := ⟨wA.heap.size, 1, none⟩) (Nat.le_refl _) _
  case rest =>
  obtain ⟨⟨B6, x6, rfl, c60, c61, hint6, hB6, hlt6⟩, hbl6⟩ := hcut
  have hsd := hbl6.size
  have d50 : wc.cell? ⟨B5, 0, none⟩ = some (.bool x5.neg) := (hbl6.cell (p := ⟨B5, 0, none⟩) hlt5).trans c50
  have d51 : wc.cell? ⟨B5, 1, none⟩ = some (.slice x5.a x5.n x5.cap) := (hbl6.cell (p := ⟨B5, 1, none⟩) hlt5).trans c51
  have hwd : w.heap.size + 1 ≤ wc.heap.size := Nat.le_trans hws1 hsd
  have e50 : wc.cell? ⟨w.heap.size, 0, none⟩ = some (.bool s.ln) := (hbl6.cell (p := ⟨w.heap.size, 0, none⟩) hws).trans b50
  have e51 : wc.cell? ⟨w.heap.size, 1, none⟩ = some (.slice s.la s.lN s.lc) := (hbl6.cell (p := ⟨w.heap.size, 1, none⟩) hws).trans b51
  have e52 : wc.cell? ⟨w.heap.size, 2, none⟩ = some (.bool s.hn) := (hbl6.cell (p := ⟨w.heap.size, 2, none⟩) hws).trans b52
  have e53 : wc.cell? ⟨w.heap.size, 3, none⟩ = some (.slice s.ha s.hN s.hc) := (hbl6.cell (p := ⟨w.heap.size, 3, none⟩) hws).trans b53
  have e54 : wc.cell? ⟨w.heap.size, 4, none⟩ = some (.int .i64 b) := (hbl6.cell (p := ⟨w.heap.size, 4, none⟩) hws).trans b54
  have hB : Below w.heap.size w wc := ((bl1 _ _).trans (hbl5.mono (by omega))).trans (hbl6.mono hws2)
  have HI5 := hide (hint5.below hbl6)
  have HI6 := hide hint6
  have HS := hide (h.below hB)
  have hl5 : B5 + 1 ≤ wc.heap.size := Nat.lt_of_lt_of_le hlt5 hsd
  have hl6 : B6 + 1 ≤ wc.heap.size := hlt6
  have HE := hide (show (decide (cmpInt ((hi - lo) * Q b) (n * (Q b + maxZ hi (-lo))) ≤ 0)) = narB lo hi (Q b) n from cmp_le0 _ _)
  clear hint5 hint6 c50 c51 b50 b51 b52 b53 b54 h hbl5
  go_wp2
  go_region_held3 (fun w' => w'.cell? ⟨B5, 0, none⟩ = some (.bool x5.neg) ∧ w'.cell? ⟨B5, 1, none⟩ = some (.slice x5.a x5.n x5.cap) ∧ w'.cell? ⟨B6, 0, none⟩ = some (.bool x6.neg) ∧ w'.cell? ⟨B6, 1, none⟩ = some (.slice x6.a x6.n x6.cap) ∧ w'.cell? ⟨w.heap.size, 0, none⟩ = some (.bool s.ln) ∧ w'.cell? ⟨w.heap.size, 1, none⟩ = some (.slice s.la s.lN s.lc) ∧ w'.cell? ⟨w.heap.size, 2, none⟩ = some (.bool s.hn) ∧ w'.cell? ⟨w.heap.size, 3, none⟩ = some (.slice s.ha s.hN s.hc) ∧ w'.cell? ⟨w.heap.size, 4, none⟩ = some (.int .i64 b)) (go_keep)
    (first
      | (go_at_call 48; refine (numOf_int (n : Int) _ (by omega) (by omega)).mono ?_; rintro r w1 ⟨neg1, a1, n1, c1, rfl, hint1, hb1⟩; obtain ⟨hs1, hcell1, hfz1⟩ := near wc.heap.size (by exact Nat.le_refl _) hb1)
      | (go_at_call 154; refine (reach_int _ ⟨s.ln, s.la, s.lN, s.lc, s.hn, s.ha, s.hN, s.hc, b⟩ 250 lo hi ⟨((unhide HS).below (bthen (Below.refl _ _).drew hb1)).lo, ((unhide HS).below (bthen (Below.refl _ _).drew hb1)).hi⟩ (by omega)).mono ?_; rintro r w2 ⟨neg2, a2, n2, c2, rfl, hint2, hb2⟩; obtain ⟨hs2, hcell2, hfz2⟩ := near wc.heap.size hs1 hb2)
      | (go_at_call 86; refine (add_int _ _ _ _ _ _ _ _ 20 251 _ _ _ ((unhide HI6).below (bthen (bthen (Below.refl _ _).drew hb1) hb2)) hint2 (by omega) (by omega)).mono ?_; rintro r w3 ⟨neg3, a3, n3, c3, rfl, hint3, hb3⟩; obtain ⟨hs3, hcell3, hfz3⟩ := near wc.heap.size hs2 hb3)
      | (go_at_call 84; refine (mul_int _ _ _ _ _ _ _ _ 4 252 _ _ _ (hint1.below (bthen hb2 hb3)) hint3 (by omega) (by omega)).mono ?_; rintro r w4 ⟨neg4, a4, n4, c4, rfl, hint4, hb4⟩; obtain ⟨hs4, hcell4, hfz4⟩ := near wc.heap.size hs3 hb4)
      | (go_at_call 24; refine (cmp_int _ _ _ _ _ _ _ _ 400 256 _ _ _ ((unhide HI5).below (bthen (bthen (bthen (bthen (Below.refl _ _).drew hb1) hb2) hb3) hb4)) hint4).mono ?_; rintro r w5 ⟨rfl, hb5⟩; obtain ⟨hs5, hcell5, hfz5⟩ := near wc.heap.size hs4 hb5))
  go_wp2
  go_ret
  exact ⟨by rw [← unhide HE]; rfl, bthen (bthen (bthen (bthen (bthen hB.drew hb1) hb2) hb3) hb4) hb5⟩
end Go.Proofs.Ytgmnknmjainabab
namespace Go.Proofs.Ytgmnknmjainabab
open Go.RowKit
attribute [local go_sem ↓] Go.wp_at_zero Go.wp_at_succ
def pr4 {α : Type} (x y z t : α) (j : Nat) : α := if j = 0 then x else if j = 1 then y else if j = 2 then z else t
theorem nums4 (w : World) (B : Nat) (hB : w.heap.size = B) (x y z t : Nm) (k : Nat) (zx zy zz zt : Int) (T : TypeId) (hx : IntAt w x.neg x.a x.n x.cap k zx) (hy : IntAt w y.neg y.a y.n y.cap k zy) (hz : IntAt w z.neg z.a z.n z.cap k zz) (ht : IntAt w t.neg t.a t.n t.cap k zt) :
    Nums (w.alloc (.cells #[.bool x.neg, .slice x.a x.n x.cap, .bool y.neg, .slice y.a y.n y.cap, .bool z.neg, .slice z.a z.n z.cap, .bool t.neg, .slice t.a t.n t.cap] T)) B 4 k (pr4 x y z t) (pr4 zx zy zz zt) := by
  subst hB
  refine ⟨by simp, ?_, ?_, ?_⟩
  all_goals
    intro j hj
    match j, hj with
    | 0, _ => first | (simp [pr4]; done) | exact hx.below (bl1 _ _)
    | 1, _ => first | (simp [pr4]; done) | exact hy.below (bl1 _ _)
    | 2, _ => first | (simp [pr4]; done) | exact hz.below (bl1 _ _)
    | 3, _ => first | (simp [pr4]; done) | exact ht.below (bl1 _ _)
theorem most4 (lo hi : Int) (h : lo ≤ hi) : mostZ (pr4 lo hi (-lo) (-hi)) 3 = maxZ hi (-lo) := by
  have e1 : mostZ (pr4 lo hi (-lo) (-hi)) 1 = hi := by
    show (if lo < hi then hi else lo) = hi
    split <;> omega
  have e2 : mostZ (pr4 lo hi (-lo) (-hi)) 2 = maxZ hi (-lo) := by
    show (if mostZ (pr4 lo hi (-lo) (-hi)) 1 < -lo then -lo else mostZ (pr4 lo hi (-lo) (-hi)) 1) = _
    rw [e1]; rfl
  show (if mostZ (pr4 lo hi (-lo) (-hi)) 2 < -hi then -hi else mostZ (pr4 lo hi (-lo) (-hi)) 2) = _
  rw [e2, if_neg]
  unfold maxZ; split <;> omega
set_option maxRecDepth 100000 in
set_option maxHeartbeats 4000000 in
theorem narrowBy_int (w : World) (s : Sp) (b n : Nat) (lo hi : Int) (h : SpAt w s 250 lo hi) (hb : s.bits = b) (hb1 : b ≤ 120) (hn : n ≤ 1000000) (hle : lo ≤ hi) :
    Calls Try.prog 49 #[.agg #[.bool s.ln, .slice s.la s.lN s.lc, .bool s.hn, .slice s.ha s.hN s.hc, .int .i64 s.bits], .int .i64 n] w fun r w' =>
      r = .returned (.bool (narB lo hi (Q b) n)) ∧ Below w.heap.size w w' := by
  rw [hb]
  have HM := hide (most4 lo hi hle)
  go_enter Try.func49, Try.ntmps49
  go_wp2
  obtain ⟨W, hW⟩ : ∃ W, W = w.alloc (.cells #[.bool s.ln, .slice s.la s.lN s.lc, .bool s.hn, .slice s.ha s.hN s.hc, .int .i64 b] 28) := ⟨_, rfl⟩
  have k0 : W.cell? ⟨w.heap.size, 0, none⟩ = some (.bool s.ln) := by rw [hW]; simp
  have k1 : W.cell? ⟨w.heap.size, 1, none⟩ = some (.slice s.la s.lN s.lc) := by rw [hW]; simp
  have k2 : W.cell? ⟨w.heap.size, 2, none⟩ = some (.bool s.hn) := by rw [hW]; simp
  have k3 : W.cell? ⟨w.heap.size, 3, none⟩ = some (.slice s.ha s.hN s.hc) := by rw [hW]; simp
  have k4 : W.cell? ⟨w.heap.size, 4, none⟩ = some (.int .i64 b) := by rw [hW]; simp
  have hlt : w.heap.size < W.heap.size := by rw [hW]; simp
  have hlt1 : w.heap.size + 1 ≤ W.heap.size := hlt
  have hBW : Below w.heap.size w W := by rw [hW]; exact bl1 _ _
  have hdr : W.drew.heap.size = W.heap.size := rfl
  have HS := hide (h.below hBW)
  have hne : W.heap.size ≠ w.heap.size := by omega
  have hne' : w.heap.size ≠ W.heap.size := by omega
  rw [← hW]
  clear hW h
  have keepS : ∀ w', Below W.heap.size W w' → (w'.cell? ⟨w.heap.size, 0, none⟩ = some (.bool s.ln) ∧ w'.cell? ⟨w.heap.size, 1, none⟩ = some (.slice s.la s.lN s.lc) ∧ w'.cell? ⟨w.heap.size, 2, none⟩ = some (.bool s.hn) ∧ w'.cell? ⟨w.heap.size, 3, none⟩ = some (.slice s.ha s.hN s.hc)) := fun w' hB =>
    ⟨(hB.cell (p := ⟨w.heap.size, 0, none⟩) hlt).trans k0, (hB.cell (p := ⟨w.heap.size, 1, none⟩) hlt).trans k1, (hB.cell (p := ⟨w.heap.size, 2, none⟩) hlt).trans k2, (hB.cell (p := ⟨w.heap.size, 3, none⟩) hlt).trans k3⟩
  have HK := hide keepS
  clear keepS
  go_cut [5] (fun p wx => VarAt wx p W.heap.size 260 (maxZ hi (-lo)) ∧ Below W.heap.size W wx)
  case first =>
    go_region_held3 (fun w' => w'.cell? ⟨w.heap.size, 0, none⟩ = some (.bool s.ln) ∧ w'.cell? ⟨w.heap.size, 1, none⟩ = some (.slice s.la s.lN s.lc) ∧ w'.cell? ⟨w.heap.size, 2, none⟩ = some (.bool s.hn) ∧ w'.cell? ⟨w.heap.size, 3, none⟩ = some (.slice s.ha s.hN s.hc)) (exact unhide HK _ (by first | exact (Below.refl _ _).drew | exact (bl1 _ _).drew | exact hB1 | exact balloc hB1 _ | exact hB2 | exact balloc hB2 _ | exact balloc (balloc hB2 _) _ | exact hB3 | exact balloc hB3 _ | exact (hB3.setCell (by first | exact Nat.le_refl _ | exact hB1.size | exact hB2.size | exact Nat.le_succ_of_le hB2.size) _).setCell (by first | exact Nat.le_refl _ | exact hB1.size | exact hB2.size | exact Nat.le_succ_of_le hB2.size) _))
      (first
        | (go_at_call_of 83 s.la; refine (neg_int _ _ _ _ 250 lo _ ((unhide HS).lo.below (by first | exact (Below.refl _ _).drew | exact (bl1 _ _).drew)) (by omega)).mono ?_; rintro r w1 ⟨neg1, a1, n1, c1, rfl, hint1, hb1⟩; obtain ⟨hs1, hcell1, hfz1⟩ := near _ (Nat.le_refl _) hb1; have hB1 : Below W.heap.size W w1 := (by first | exact bthen (Below.refl _ _).drew hb1 | exact bthen (bl1 _ _).drew hb1); have hl1 := hB1.size; have hm1 := Nat.lt_of_lt_of_le hlt hl1; have hm1s : w.heap.size + 1 ≤ w1.heap.size := hm1; have hm1l := Nat.le_of_lt hm1; have hm1ll := Nat.le_succ_of_le hm1l; have hn1 := Nat.ne_of_gt hm1; have hn1' := Nat.ne_of_lt hm1; (try simp at hs1); (try have hq1 : W.heap.size < w1.heap.size := hs1); (try have hq1s : W.heap.size + 1 ≤ w1.heap.size := hs1))
        | (go_at_call_of 83 s.ha; refine (neg_int _ _ _ _ 250 hi _ ((unhide HS).hi.below (by first | exact hB1 | exact balloc hB1 _)) (by omega)).mono ?_; rintro r w2 ⟨neg2, a2, n2, c2, rfl, hint2, hb2⟩; obtain ⟨hs2, hcell2, hfz2⟩ := near _ (Nat.le_refl _) hb2; have hB12 : Below w1.heap.size w1 w2 := (by first | exact hb2 | exact bthen (bl1 _ _) hb2); have hB2 := bthen hB1 hB12; have hl2 := hB12.size; have hw2 := hB2.size; (try have hq2 := Nat.lt_of_lt_of_le hs1 hl2); have hm2 := Nat.lt_of_lt_of_le hm1 hl2; have hm2s : w.heap.size + 1 ≤ w2.heap.size := hm2; have hm2l := Nat.le_of_lt hm2; have hm2ll := Nat.le_succ_of_le hm2l; have hn2 := Nat.ne_of_gt hm2; have hn2' := Nat.ne_of_lt hm2; (try simp at hs2); (try have hq12 : w1.heap.size < w2.heap.size := hs2); (try have hq12s : w1.heap.size + 1 ≤ w2.heap.size := hs2); (try have hq2s : W.heap.size + 1 ≤ w2.heap.size := hq2))
        | (go_at_call_of 82 (Addr.mk w2.heap.size 0 none); refine (greatest_int w2.heap.size 3 _ 250 (pr4 ⟨s.ln, s.la, s.lN, s.lc⟩ ⟨s.hn, s.ha, s.hN, s.hc⟩ ⟨neg1, a1, n1, c1⟩ ⟨neg2, a2, n2, c2⟩) (pr4 lo hi (-lo) (-hi)) _ (by first | exact nums4 w2 w2.heap.size rfl ⟨s.ln, s.la, s.lN, s.lc⟩ ⟨s.hn, s.ha, s.hN, s.hc⟩ ⟨neg1, a1, n1, c1⟩ ⟨neg2, a2, n2, c2⟩ 250 _ _ _ _ _ ((unhide HS).lo.below hB2) ((unhide HS).hi.below hB2) (hint1.below hB12) hint2 | exact (nums4 w2 w2.heap.size rfl ⟨s.ln, s.la, s.lN, s.lc⟩ ⟨s.hn, s.ha, s.hN, s.hc⟩ ⟨neg1, a1, n1, c1⟩ ⟨neg2, a2, n2, c2⟩ 250 _ _ _ _ _ ((unhide HS).lo.below hB2) ((unhide HS).hi.below hB2) (hint1.below hB12) hint2).below (bl1 _ _)) (by omega)).mono ?_; rintro r w3 ⟨neg3, a3, n3, c3, rfl, hint3, hb3⟩; obtain ⟨hs3, hcell3, hfz3⟩ := near _ (Nat.le_refl _) hb3; have hB23 : Below w2.heap.size w2 w3 := (by first | exact bthen (bl1 _ _) hb3 | exact bthen (bl2 _ _ _) hb3); have hB3 := bthen hB2 hB23; have hl3 := hB23.size; have hm3 := Nat.lt_of_lt_of_le hm2 hl3; have hm3s : w.heap.size + 1 ≤ w3.heap.size := hm3; have hm3l := Nat.le_of_lt hm3; have hm3ll := Nat.le_succ_of_le hm3l; have hn3 := Nat.ne_of_gt hm3; have hn3' := Nat.ne_of_lt hm3; (try simp at hs3))
        | (go_at_call 82; refine (greatest_int (w2.heap.size + 1) 3 _ 250 (pr4 ⟨s.ln, s.la, s.lN, s.lc⟩ ⟨s.hn, s.ha, s.hN, s.hc⟩ ⟨neg1, a1, n1, c1⟩ ⟨neg2, a2, n2, c2⟩) (pr4 lo hi (-lo) (-hi)) _ (by exact nums4 (w2.alloc (.cells #[.bool false, .slice none 0 0] 26)) (w2.heap.size + 1) (Go.Deep.nblk_alloc _ _) ⟨s.ln, s.la, s.lN, s.lc⟩ ⟨s.hn, s.ha, s.hN, s.hc⟩ ⟨neg1, a1, n1, c1⟩ ⟨neg2, a2, n2, c2⟩ 250 _ _ _ _ _ ((unhide HS).lo.below (balloc hB2 _)) ((unhide HS).hi.below (balloc hB2 _)) (hint1.below (balloc hB12 _)) (hint2.below (bl1 _ _))) (by omega)).mono ?_; rintro r w3 ⟨neg3, a3, n3, c3, rfl, hint3, hb3⟩; obtain ⟨hs3, hcell3, hfz3⟩ := near _ (Nat.le_refl _) hb3; have hB23 : Below w2.heap.size w2 w3 := (by first | exact bthen (bl1 _ _) hb3 | exact bthen (bl2 _ _ _) hb3); have hB3 := bthen hB2 hB23; have hl3 := hB23.size; have hm3 := Nat.lt_of_lt_of_le hm2 hl3; have hm3s : w.heap.size + 1 ≤ w3.heap.size := hm3; have hm3l := Nat.le_of_lt hm3; have hm3ll := Nat.le_succ_of_le hm3l; have hn3 := Nat.ne_of_gt hm3; have hn3' := Nat.ne_of_lt hm3; (try simp at hs3)))
    all_goals rw [unhide HM] at hint3
    · go_wp2_with fail
      go_meet
      exact ⟨(varA hint3 _ _ hB3.size).mono (by omega), balloc hB3 _⟩
    · go_wp2_with fail
      go_meet
      have h0 : w3.cell? ⟨w2.heap.size + 1, 0, none⟩ = some (.bool false) := by simp [hcell3, go_sem]
      have h1 : w3.cell? ⟨w2.heap.size + 1, 1, none⟩ = some (.slice none 0 0) := by simp [hcell3, go_sem]
      exact ⟨(varB hint3 _ _ h0 h1 (Nat.le_succ_of_le hw2)).mono (by omega), (hB3.setCell (p := ⟨w2.heap.size + 1, 0, none⟩) (Nat.le_succ_of_le hw2) _).setCell (p := ⟨w2.heap.size + 1, 1, none⟩) (Nat.le_succ_of_le hw2) _⟩
    · go_wp2_with fail
      go_meet
      have h0 : w3.cell? ⟨w2.heap.size, 0, none⟩ = some (.bool false) := by simp [hcell3, go_sem]
      have h1 : w3.cell? ⟨w2.heap.size, 1, none⟩ = some (.slice none 0 0) := by simp [hcell3, go_sem]
      exact ⟨(varB hint3 _ _ h0 h1 hw2).mono (by omega), (hB3.setCell (p := ⟨w2.heap.size, 0, none⟩) hw2 _).setCell (p := ⟨w2.heap.size, 1, none⟩) hw2 _⟩
    · go_wp2_with fail
      go_meet
      have h0 : w3.cell? ⟨w1.heap.size, 0, none⟩ = some (.bool false) := by simp [hcell3, hcell2, hq12, hl2, go_sem]
      have h1 : w3.cell? ⟨w1.heap.size, 1, none⟩ = some (.slice none 0 0) := by simp [hcell3, hcell2, hq12, hl2, go_sem]
      exact ⟨(varB hint3 _ _ h0 h1 hl1).mono (by omega), (hB3.setCell (p := ⟨w1.heap.size, 0, none⟩) hl1 _).setCell (p := ⟨w1.heap.size, 1, none⟩) hl1 _⟩
    · go_wp2_with fail
      go_meet
      have h0 : w3.cell? ⟨W.heap.size, 0, none⟩ = some (.bool false) := by simp [hcell3, hcell2, hcell1, hq1, hq1s, hq2, hq2s, hw2, go_sem]
      have h1 : w3.cell? ⟨W.heap.size, 1, none⟩ = some (.slice none 0 0) := by simp [hcell3, hcell2, hcell1, hq1, hq1s, hq2, hq2s, hw2, go_sem]
      exact ⟨(varB hint3 _ _ h0 h1 (Nat.le_refl _)).mono (by omega), (hB3.setCell (p := ⟨W.heap.size, 0, none⟩) (Nat.le_refl _) _).setCell (p := ⟨W.heap.size, 1, none⟩) (Nat.le_refl _) _⟩
  case rest =>
  obtain ⟨⟨B5, x5, rfl, c50, c51, hint5, hB5, hlt5⟩, hbl5⟩ := hcut
  have HI5 := hide hint5
  have HS2 := hide ((unhide HS).below hbl5)
  have hltc := Nat.lt_of_lt_of_le hlt hbl5.size
  have e4 : wc.cell? ⟨w.heap.size, 4, none⟩ = some (.int .i64 b) := (hbl5.cell (p := ⟨w.heap.size, 4, none⟩) hlt).trans k4
  obtain ⟨e0, e1, e2, e3⟩ := unhide HK wc hbl5
  have HK2 := hide (show ∀ w', Below wc.heap.size wc w' → (w'.cell? ⟨w.heap.size, 0, none⟩ = some (.bool s.ln) ∧ w'.cell? ⟨w.heap.size, 1, none⟩ = some (.slice s.la s.lN s.lc) ∧ w'.cell? ⟨w.heap.size, 2, none⟩ = some (.bool s.hn) ∧ w'.cell? ⟨w.heap.size, 3, none⟩ = some (.slice s.ha s.hN s.hc) ∧ w'.cell? ⟨w.heap.size, 4, none⟩ = some (.int .i64 b) ∧ w'.cell? ⟨B5, 0, none⟩ = some (.bool x5.neg) ∧ w'.cell? ⟨B5, 1, none⟩ = some (.slice x5.a x5.n x5.cap)) from fun w' hB =>
    ⟨(hB.cell (p := ⟨w.heap.size, 0, none⟩) hltc).trans e0, (hB.cell (p := ⟨w.heap.size, 1, none⟩) hltc).trans e1, (hB.cell (p := ⟨w.heap.size, 2, none⟩) hltc).trans e2, (hB.cell (p := ⟨w.heap.size, 3, none⟩) hltc).trans e3, (hB.cell (p := ⟨w.heap.size, 4, none⟩) hltc).trans e4, (hB.cell (p := ⟨B5, 0, none⟩) hlt5).trans c50, (hB.cell (p := ⟨B5, 1, none⟩) hlt5).trans c51⟩)
  have HE := hide (show (decide (cmpInt ((hi - lo) * Q b) (n * (Q b + maxZ hi (-lo))) ≤ 0)) = narB lo hi (Q b) n from cmp_le0 _ _)
  have hBw : Below w.heap.size w wc := hBW.trans (hbl5.mono (Nat.le_of_lt hlt))
  clear hint5 k0 k1 k2 k3 k4 hbl5 HK HS HM
  go_wp2
  go_region_held3 (fun w' => w'.cell? ⟨w.heap.size, 0, none⟩ = some (.bool s.ln) ∧ w'.cell? ⟨w.heap.size, 1, none⟩ = some (.slice s.la s.lN s.lc) ∧ w'.cell? ⟨w.heap.size, 2, none⟩ = some (.bool s.hn) ∧ w'.cell? ⟨w.heap.size, 3, none⟩ = some (.slice s.ha s.hN s.hc) ∧ w'.cell? ⟨w.heap.size, 4, none⟩ = some (.int .i64 b) ∧ w'.cell? ⟨B5, 0, none⟩ = some (.bool x5.neg) ∧ w'.cell? ⟨B5, 1, none⟩ = some (.slice x5.a x5.n x5.cap)) (exact unhide HK2 _ (by first | exact (Below.refl _ _).drew | exact hB1 | exact hB2 | exact hB3 | exact hB4 | exact hB5' | exact hB6 | exact hB7 | exact hB8))
    (first
      | (go_at_call 53; refine (sub_int _ _ _ _ _ _ _ _ 250 250 hi lo _ ((unhide HS2).hi.below (Below.refl _ _).drew) ((unhide HS2).lo.below (Below.refl _ _).drew) (by omega) (by omega)).mono ?_; rintro r w1 ⟨neg1, a1, n1, c1, rfl, hint1, hb1⟩; have hB1 : Below wc.heap.size wc w1 := bthen (Below.refl _ _).drew hb1)
      | (go_at_call_of 84 a1; refine (mul_int _ _ _ _ _ _ _ _ 251 20 _ _ _ (hint1.below hb2) hint2 (by omega) (by omega)).mono ?_; rintro r w3 ⟨neg3, a3, n3, c3, rfl, hint3, hb3⟩; have hB3 := bthen hB2 hb3)
      | (go_at_call 48; refine (numOf_int (n : Int) _ (by omega) (by omega)).mono ?_; rintro r w4 ⟨neg4, a4, n4, c4, rfl, hint4, hb4⟩; have hB4 := bthen hB3 hb4)
      | (go_at_call 85; have hB4' := hB4; refine (power2_int b _ (by omega)).mono ?_; rintro r w5 ⟨neg5, a5, n5, c5, rfl, hint5, hb5⟩; have hB5' := bthen hB4 hb5)
      | (go_at_call 85; refine (power2_int b _ (by omega)).mono ?_; rintro r w2 ⟨neg2, a2, n2, c2, rfl, hint2, hb2⟩; have hint2 := hint2.mono (show b / 16 + 5 ≤ 20 by omega); have hB2 := bthen hB1 hb2)
      | (go_at_call 86; refine (add_int _ _ _ _ _ _ _ _ (b / 16 + 5) 260 _ _ _ hint5 ((unhide HI5).below hB5') (by omega) (by omega)).mono ?_; rintro r w6 ⟨neg6, a6, n6, c6, rfl, hint6, hb6⟩; have hint6 := hint6.mono (show max (b / 16 + 5) 260 + 1 ≤ 300 by omega); have hB6 := bthen hB5' hb6)
      | (go_at_call 84; refine (mul_int _ _ _ _ _ _ _ _ 4 300 _ _ _ (hint4.below (bthen hb5 hb6)) hint6 (by omega) (by omega)).mono ?_; rintro r w7 ⟨neg7, a7, n7, c7, rfl, hint7, hb7⟩; have hB7 := bthen hB6 hb7)
      | (go_at_call 24; refine (cmp_int _ _ _ _ _ _ _ _ 271 304 _ _ _ (hint3.below (bthen (bthen (bthen hb4 hb5) hb6) hb7)) hint7).mono ?_; rintro r w8 ⟨rfl, hb8⟩; have hB8 := bthen hB7 hb8))
  go_wp2
  go_ret
  exact ⟨by rw [← unhide HE]; rfl, hBw.trans (hB8.mono (Nat.le_of_lt hltc))⟩
end Go.Proofs.Ytgmnknmjainabab
namespace Go.Proofs.Ytgmnknmjainabab
open Go.RowKit
def loZ (s : Sp) (d : Nat → Int) : Int := sgn s.ln (V d s.lN)
def hiZ (s : Sp) (e : Nat → Int) : Int := sgn s.hn (V e s.hN)
end Go.Proofs.Ytgmnknmjainabab
