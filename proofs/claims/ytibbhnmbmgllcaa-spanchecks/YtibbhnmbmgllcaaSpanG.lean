/-
  What wide.Narrow answers of right spans, and that it leaves old memory alone.
-/
import Derived.Test.YtibbhnmbmgllcaaSpanF
import Derived.Deep.DeepCutAuto
namespace Go.Proofs.Ytibbhnmbmgllcaa
set_option linter.unusedVariables false
set_option linter.unusedSimpArgs false
set_option linter.unnecessarySimpa false
open Go.RowKit
attribute [local go_sem ↓] Go.wp_at_zero Go.wp_at_succ

/-- Is a span from lo to hi, by K over 1, narrow by n? -/
def narB (lo hi K n : Int) : Bool := decide ((hi - lo) * K ≤ n * (K + maxZ hi (-lo)))

theorem cmp_le0 (x y : Int) : decide (cmpInt x y ≤ 0) = decide (x ≤ y) := by
  rw [decide_eq_decide]; unfold cmpInt
  by_cases h : x < y
  · rw [if_pos h]; omega
  · rw [if_neg h]
    by_cases h2 : y < x
    · rw [if_pos h2]; omega
    · rw [if_neg h2]; omega

/-- A pointer to a variable that holds a right number. -/
def VarAt (w : World) (p : Value) (H k : Nat) (z : Int) : Prop :=
  ∃ (B : Nat) (x : Nm), p = .pointer (some ⟨B, 0, none⟩) ∧ w.cell? ⟨B, 0, none⟩ = some (.bool x.neg) ∧ w.cell? ⟨B, 1, none⟩ = some (.slice x.a x.n x.cap) ∧ IntAt w x.neg x.a x.n x.cap k z ∧ H ≤ B ∧ B < w.heap.size

theorem varA {w : World} {neg : Bool} {a : Option Addr} {n cap k : Nat} {z : Int} (h : IntAt w neg a n cap k z) (T : TypeId) (H : Nat) (hH : H ≤ w.heap.size) : VarAt (w.alloc (.cells #[.bool neg, .slice a n cap] T)) (.pointer (some ⟨w.heap.size, 0, none⟩)) H k z :=
  ⟨w.heap.size, ⟨neg, a, n, cap⟩, rfl, by simp, by simp, h.below (bl1 _ _), hH, by simp⟩
theorem varB {w : World} {neg : Bool} {a : Option Addr} {n cap k : Nat} {z : Int} (h : IntAt w neg a n cap k z) (H B : Nat) (h0 : w.cell? ⟨B, 0, none⟩ = some (.bool false)) (h1 : w.cell? ⟨B, 1, none⟩ = some (.slice none 0 0)) (hH : H ≤ B) :
    VarAt ((w.setCell ⟨B, 0, none⟩ (.bool neg)).setCell ⟨B, 1, none⟩ (.slice a n cap)) (.pointer (some ⟨B, 0, none⟩)) H k z :=
  ⟨B, ⟨neg, a, n, cap⟩, rfl, by simp [go_sem, h0, h1], by simp [go_sem, h0, h1], h.put2 h0 h1 _ _, hH, by
    have := World.block_lt_of_cell? w ⟨B, 0, none⟩ h0
    simpa [World.setCell] using this⟩
theorem VarAt.mono {w : World} {p : Value} {H k k' : Nat} {z : Int} (h : VarAt w p H k z) (hk : k ≤ k') : VarAt w p H k' z := by
  obtain ⟨B, x, h1, h2, h3, h4, h5, h6⟩ := h
  exact ⟨B, x, h1, h2, h3, h4.mono hk, h5, h6⟩

set_option maxRecDepth 100000 in
set_option maxHeartbeats 2000000 in
theorem narrow_int (w : World) (s : Sp) (b n : Nat) (lo hi : Int) (h : SpAt w s 250 lo hi) (hb : s.bits = b) (hb1 : b ≤ 120) (hn : n ≤ 1000000) :
    Calls Try.prog 102 #[.agg #[.bool s.ln, .slice s.la s.lN s.lc, .bool s.hn, .slice s.ha s.hN s.hc, .int .i64 s.bits], .int .i64 n] w fun r w' =>
      r = .returned (.bool (narB lo hi (Q b) n)) ∧ Below w.heap.size w w' := by
  rw [hb]
  go_enter Try.func102, Try.ntmps102
  go_wp2
  go_cut [5] (fun p wx => VarAt wx p (w.heap.size + 1) 400 ((hi - lo) * Q b) ∧ Below (w.heap.size + 1) (w.alloc (.cells #[.bool s.ln, .slice s.la s.lN s.lc, .bool s.hn, .slice s.ha s.hN s.hc, .int .i64 b] 26)) wx)
  case first =>
    go_region_held3 (fun w' => w'.cell? ⟨w.heap.size, 0, none⟩ = some (.bool s.ln) ∧ w'.cell? ⟨w.heap.size, 1, none⟩ = some (.slice s.la s.lN s.lc) ∧ w'.cell? ⟨w.heap.size, 2, none⟩ = some (.bool s.hn) ∧ w'.cell? ⟨w.heap.size, 3, none⟩ = some (.slice s.ha s.hN s.hc) ∧ w'.cell? ⟨w.heap.size, 4, none⟩ = some (.int .i64 b)) (go_keep)
      (first
        | (go_at_call 50; refine (sub_int _ _ _ _ _ _ _ _ 250 250 hi lo _ (h.hi.below (by first | exact (bl1 _ _).drew | exact (bl2 _ _ _).drew)) (h.lo.below (by first | exact (bl1 _ _).drew | exact (bl2 _ _ _).drew)) (by omega) (by omega)).mono ?_; rintro r w1 ⟨neg1, a1, n1, c1, rfl, hint1, hb1⟩; obtain ⟨hs1, hcell1, hfz1⟩ := near _ (Nat.le_refl _) hb1; (try simp at hs1); have hl1 : w.heap.size < w1.heap.size := Nat.lt_of_lt_of_le (by first | exact Nat.lt_succ_self _ | exact Nat.lt_succ_of_lt (Nat.lt_succ_self _)) hs1; have hl1' := Nat.le_of_lt hl1; have hl1s : w.heap.size + 1 ≤ w1.heap.size := hl1; have hn1 := Nat.ne_of_gt hl1; have hn1' := Nat.ne_of_lt hl1)
        | (go_at_call 107; refine (up_int _ _ _ _ b 251 (hi - lo) _ (hint1.below (by first | exact Below.refl _ _ | exact bl1 _ _)) (by omega) (by omega)).mono ?_; rintro r w2 ⟨neg2, a2, n2, c2, rfl, hint2, hb2⟩; obtain ⟨hs2, hcell2, hfz2⟩ := near _ (Nat.le_refl _) hb2; have hl2 : w1.heap.size ≤ w2.heap.size := Nat.le_trans (by simp) hs2; have hl2' := Nat.lt_of_lt_of_le hl1 hl2; have hn2 := Nat.ne_of_gt hl2'; have hl2s : w.heap.size + 1 ≤ w2.heap.size := hl2'; have hn2' := Nat.ne_of_lt hl2'; (try simp at hs2)))
    · go_wp2_with fail
      go_meet
      refine ⟨(varA hint2 _ _ hl2s).mono (by omega), ?_⟩
      exact (((bthen (Below.refl _ _).drew hb1).mono (by simp)).trans (hb2.mono hl1s)).alloc hl2s _
    · go_wp2_with fail
      go_meet
      have h0 : w2.cell? ⟨w1.heap.size, 0, none⟩ = some (.bool false) := by simp [hcell2]
      have h1 : w2.cell? ⟨w1.heap.size, 1, none⟩ = some (.slice none 0 0) := by simp [hcell2]
      refine ⟨(varB hint2 _ _ h0 h1 hl1s).mono (by omega), ?_⟩
      exact (((((bthen (Below.refl _ _).drew hb1).mono (by simp)).alloc hl1s _).trans (hb2.mono (by simp; omega))).setCell hl1s _).setCell hl1s _
    · go_wp2_with fail
      go_meet
      have h0 : w2.cell? ⟨w.heap.size + 1, 0, none⟩ = some (.bool false) := by simp [hcell2, hcell1, hs1, go_sem]
      have h1 : w2.cell? ⟨w.heap.size + 1, 1, none⟩ = some (.slice none 0 0) := by simp [hcell2, hcell1, hs1, go_sem]
      refine ⟨(varB hint2 _ _ h0 h1 (Nat.le_refl _)).mono (by omega), ?_⟩
      exact ((((((Below.refl _ _).alloc (by simp) _).drew.trans (hb1.mono (by simp))).trans (hb2.mono hl1s)).setCell (p := ⟨w.heap.size + 1, 0, none⟩) (Nat.le_refl _) _).setCell (p := ⟨w.heap.size + 1, 1, none⟩) (Nat.le_refl _) _)
  case rest =>
  obtain ⟨⟨B5, x5, rfl, c50, c51, hint5, hB5, hlt5⟩, hbl5⟩ := hcut
  rename World => wA
  have hw5 := hbl5.size
  simp at hw5
  have b50 : wA.cell? ⟨w.heap.size, 0, none⟩ = some (.bool s.ln) := (hbl5.cell (p := ⟨w.heap.size, 0, none⟩) (Nat.lt_succ_self _)).trans (by simp)
  have b51 : wA.cell? ⟨w.heap.size, 1, none⟩ = some (.slice s.la s.lN s.lc) := (hbl5.cell (p := ⟨w.heap.size, 1, none⟩) (Nat.lt_succ_self _)).trans (by simp)
  have b52 : wA.cell? ⟨w.heap.size, 2, none⟩ = some (.bool s.hn) := (hbl5.cell (p := ⟨w.heap.size, 2, none⟩) (Nat.lt_succ_self _)).trans (by simp)
  have b53 : wA.cell? ⟨w.heap.size, 3, none⟩ = some (.slice s.ha s.hN s.hc) := (hbl5.cell (p := ⟨w.heap.size, 3, none⟩) (Nat.lt_succ_self _)).trans (by simp)
  have b54 : wA.cell? ⟨w.heap.size, 4, none⟩ = some (.int .i64 b) := (hbl5.cell (p := ⟨w.heap.size, 4, none⟩) (Nat.lt_succ_self _)).trans (by simp)
  have hws : w.heap.size < wA.heap.size := hw5
  have hws1 : w.heap.size + 1 ≤ wA.heap.size := hw5
  have hws2 : w.heap.size ≤ wA.heap.size := Nat.le_of_lt hw5
  have hdr : wA.drew.heap.size = wA.heap.size := rfl
  have hwn : wA.heap.size ≠ w.heap.size := by omega
  have hwn' : w.heap.size ≠ wA.heap.size := by omega
  go_wp2
  go_cut [6] (fun p wx => VarAt wx p (w.heap.size + 1) 20 (Q b) ∧ Below wA.heap.size wA wx)
  case first =>
    go_region_held3 (fun w' => w'.cell? ⟨w.heap.size, 4, none⟩ = some (.int .i64 b)) (go_keep)
      (first
        | (go_at_call 62; refine (numOf_int 1 _ (by decide) (by decide)).mono ?_; rintro r w1 ⟨neg1, a1, n1, c1, rfl, hint1, hb1⟩; obtain ⟨hs1, hcell1, hfz1⟩ := near _ (Nat.le_refl _) hb1; (try simp at hs1); have hl0 : wA.heap.size ≤ w1.heap.size := Nat.le_trans (by simp) hs1; have hl1 : w.heap.size < w1.heap.size := Nat.lt_of_lt_of_le hws hl0; have hl1' := Nat.le_of_lt hl1; have hl1s : w.heap.size + 1 ≤ w1.heap.size := hl1; have hn1 := Nat.ne_of_gt hl1; have hn1' := Nat.ne_of_lt hl1)
        | (go_at_call 107; refine (up_int _ _ _ _ b 4 1 _ (hint1.below (by first | exact Below.refl _ _ | exact bl1 _ _)) (by omega) (by omega)).mono ?_; rintro r w2 ⟨neg2, a2, n2, c2, rfl, hint2, hb2⟩; obtain ⟨hs2, hcell2, hfz2⟩ := near _ (Nat.le_refl _) hb2; have hl2 : w1.heap.size ≤ w2.heap.size := Nat.le_trans (by simp) hs2; have hl2' := Nat.lt_of_lt_of_le hl1 hl2; have hn2 := Nat.ne_of_gt hl2'; have hl2s : w.heap.size + 1 ≤ w2.heap.size := hl2'; have hn2' := Nat.ne_of_lt hl2'; (try simp at hs2)))
    all_goals rw [Int.one_mul] at hint2
    · go_wp2_with fail
      go_meet
      refine ⟨(varA hint2 _ _ hl2s).mono (by omega), ?_⟩
      exact balloc (bthen (bthen (Below.refl _ _).drew hb1) hb2) _
    · go_wp2_with fail
      go_meet
      have h0 : w2.cell? ⟨w1.heap.size, 0, none⟩ = some (.bool false) := by simp [hcell2]
      have h1 : w2.cell? ⟨w1.heap.size, 1, none⟩ = some (.slice none 0 0) := by simp [hcell2]
      refine ⟨(varB hint2 _ _ h0 h1 hl1s).mono (by omega), ?_⟩
      exact ((bthen (balloc (bthen (Below.refl _ _).drew hb1) _) hb2).setCell (p := ⟨w1.heap.size, 0, none⟩) hl0 _).setCell (p := ⟨w1.heap.size, 1, none⟩) hl0 _
    · go_wp2_with fail
      go_meet
      have h0 : w2.cell? ⟨wA.heap.size, 0, none⟩ = some (.bool false) := by simp [hcell2, hcell1, hs1, go_sem]
      have h1 : w2.cell? ⟨wA.heap.size, 1, none⟩ = some (.slice none 0 0) := by simp [hcell2, hcell1, hs1, go_sem]
      refine ⟨(varB hint2 _ _ h0 h1 hws1).mono (by omega), ?_⟩
      exact ((bthen (bthen (bl1 _ _).drew hb1) hb2).setCell (p := ⟨wA.heap.size, 0, none⟩) (Nat.le_refl _) _).setCell (p := ⟨wA.heap.size, 1, none⟩) (Nat.le_refl _) _
  case rest =>
  obtain ⟨⟨B6, x6, rfl, c60, c61, hint6, hB6, hlt6⟩, hbl6⟩ := hcut
  have hsd := hbl6.size
  have d50 : wc.cell? ⟨B5, 0, none⟩ = some (.bool x5.neg) := (hbl6.cell (p := ⟨B5, 0, none⟩) hlt5).trans c50
  have d51 : wc.cell? ⟨B5, 1, none⟩ = some (.slice x5.a x5.n x5.cap) := (hbl6.cell (p := ⟨B5, 1, none⟩) hlt5).trans c51
  have hwd : w.heap.size + 1 ≤ wc.heap.size := Nat.le_trans hws1 hsd
  have e50 : wc.cell? ⟨w.heap.size, 0, none⟩ = some (.bool s.ln) := (hbl6.cell (p := ⟨w.heap.size, 0, none⟩) hws).trans b50
  have e51 : wc.cell? ⟨w.heap.size, 1, none⟩ = some (.slice s.la s.lN s.lc) := (hbl6.cell (p := ⟨w.heap.size, 1, none⟩) hws).trans b51
  have e52 : wc.cell? ⟨w.heap.size, 2, none⟩ = some (.bool s.hn) := (hbl6.cell (p := ⟨w.heap.size, 2, none⟩) hws).trans b52
  have e53 : wc.cell? ⟨w.heap.size, 3, none⟩ = some (.slice s.ha s.hN s.hc) := (hbl6.cell (p := ⟨w.heap.size, 3, none⟩) hws).trans b53
  have e54 : wc.cell? ⟨w.heap.size, 4, none⟩ = some (.int .i64 b) := (hbl6.cell (p := ⟨w.heap.size, 4, none⟩) hws).trans b54
  have hB : Below w.heap.size w wc := ((bl1 _ _).trans (hbl5.mono (by omega))).trans (hbl6.mono hws2)
  have HI5 := hide (hint5.below hbl6)
  have HI6 := hide hint6
  have HS := hide (h.below hB)
  have hl5 : B5 + 1 ≤ wc.heap.size := Nat.lt_of_lt_of_le hlt5 hsd
  have hl6 : B6 + 1 ≤ wc.heap.size := hlt6
  have HE := hide (show (decide (cmpInt ((hi - lo) * Q b) (n * (Q b + maxZ hi (-lo))) ≤ 0)) = narB lo hi (Q b) n from cmp_le0 _ _)
  clear hint5 hint6 c50 c51 b50 b51 b52 b53 b54 h hbl5
  go_wp2
  go_region_held3 (fun w' => w'.cell? ⟨B5, 0, none⟩ = some (.bool x5.neg) ∧ w'.cell? ⟨B5, 1, none⟩ = some (.slice x5.a x5.n x5.cap) ∧ w'.cell? ⟨B6, 0, none⟩ = some (.bool x6.neg) ∧ w'.cell? ⟨B6, 1, none⟩ = some (.slice x6.a x6.n x6.cap) ∧ w'.cell? ⟨w.heap.size, 0, none⟩ = some (.bool s.ln) ∧ w'.cell? ⟨w.heap.size, 1, none⟩ = some (.slice s.la s.lN s.lc) ∧ w'.cell? ⟨w.heap.size, 2, none⟩ = some (.bool s.hn) ∧ w'.cell? ⟨w.heap.size, 3, none⟩ = some (.slice s.ha s.hN s.hc) ∧ w'.cell? ⟨w.heap.size, 4, none⟩ = some (.int .i64 b)) (go_keep)
    (first
      | (go_at_call 62; refine (numOf_int (n : Int) _ (by omega) (by omega)).mono ?_; rintro r w1 ⟨neg1, a1, n1, c1, rfl, hint1, hb1⟩; obtain ⟨hs1, hcell1, hfz1⟩ := near wc.heap.size (by exact Nat.le_refl _) hb1)
      | (go_at_call 132; refine (reach_int _ ⟨s.ln, s.la, s.lN, s.lc, s.hn, s.ha, s.hN, s.hc, b⟩ 250 lo hi ⟨((unhide HS).below (bthen (Below.refl _ _).drew hb1)).lo, ((unhide HS).below (bthen (Below.refl _ _).drew hb1)).hi⟩ (by omega)).mono ?_; rintro r w2 ⟨neg2, a2, n2, c2, rfl, hint2, hb2⟩; obtain ⟨hs2, hcell2, hfz2⟩ := near wc.heap.size hs1 hb2)
      | (go_at_call 49; refine (add_int _ _ _ _ _ _ _ _ 20 251 _ _ _ ((unhide HI6).below (bthen (bthen (Below.refl _ _).drew hb1) hb2)) hint2 (by omega) (by omega)).mono ?_; rintro r w3 ⟨neg3, a3, n3, c3, rfl, hint3, hb3⟩; obtain ⟨hs3, hcell3, hfz3⟩ := near wc.heap.size hs2 hb3)
      | (go_at_call 52; refine (mul_int _ _ _ _ _ _ _ _ 4 252 _ _ _ (hint1.below (bthen hb2 hb3)) hint3 (by omega) (by omega)).mono ?_; rintro r w4 ⟨neg4, a4, n4, c4, rfl, hint4, hb4⟩; obtain ⟨hs4, hcell4, hfz4⟩ := near wc.heap.size hs3 hb4)
      | (go_at_call 33; refine (cmp_int _ _ _ _ _ _ _ _ 400 256 _ _ _ ((unhide HI5).below (bthen (bthen (bthen (bthen (Below.refl _ _).drew hb1) hb2) hb3) hb4)) hint4).mono ?_; rintro r w5 ⟨rfl, hb5⟩; obtain ⟨hs5, hcell5, hfz5⟩ := near wc.heap.size hs4 hb5))
  go_wp2
  go_ret
  exact ⟨by rw [← unhide HE]; rfl, bthen (bthen (bthen (bthen (bthen hB.drew hb1) hb2) hb3) hb4) hb5⟩
end Go.Proofs.Ytibbhnmbmgllcaa
