/-
  Texts SpanG, SpanH, SpanI, SpanJ, Rat, SpanK, SpanL: what they hold is told in the last text.
-/
import Derived.Deep.DeepCutAuto
import Derived.Test.YtgmnknmjainababK03
set_option linter.unnecessarySimpa false
set_option linter.unusedSimpArgs false
set_option linter.unusedVariables false
namespace Go.Proofs.Ytgmnknmjainabab
open Go.RowKit
attribute [local go_sem ↓] Go.wp_at_zero Go.wp_at_succ
def narB (lo hi K n : Int) : Bool := decide ((hi - lo) * K ≤ n * (K + maxZ hi (-lo)))
theorem cmp_le0 (x y : Int) : decide (cmpInt x y ≤ 0) = decide (x ≤ y) := by
  rw [decide_eq_decide]; unfold cmpInt
  by_cases h : x < y
  · rw [if_pos h]; omega
  · rw [if_neg h]
    by_cases h2 : y < x
    · rw [if_pos h2]; omega
    · rw [if_neg h2]; omega
def VarAt (w : World) (p : Value) (H k : Nat) (z : Int) : Prop :=
  ∃ (B : Nat) (x : Nm), p = .pointer (some ⟨B, 0, none⟩) ∧ w.cell? ⟨B, 0, none⟩ = some (.bool x.neg) ∧ w.cell? ⟨B, 1, none⟩ = some (.slice x.a x.n x.cap) ∧ IntAt w x.neg x.a x.n x.cap k z ∧ H ≤ B ∧ B < w.heap.size
theorem varA {w : World} {neg : Bool} {a : Option Addr} {n cap k : Nat} {z : Int} (h : IntAt w neg a n cap k z) (T : TypeId) (H : Nat) (hH : H ≤ w.heap.size) : VarAt (w.alloc (.cells #[.bool neg, .slice a n cap] T)) (.pointer (some ⟨w.heap.size, 0, none⟩)) H k z :=
  ⟨w.heap.size, ⟨neg, a, n, cap⟩, rfl, by simp, by simp, h.below (bl1 _ _), hH, by simp⟩
theorem varB {w : World} {neg : Bool} {a : Option Addr} {n cap k : Nat} {z : Int} (h : IntAt w neg a n cap k z) (H B : Nat) (h0 : w.cell? ⟨B, 0, none⟩ = some (.bool false)) (h1 : w.cell? ⟨B, 1, none⟩ = some (.slice none 0 0)) (hH : H ≤ B) :
    VarAt ((w.setCell ⟨B, 0, none⟩ (.bool neg)).setCell ⟨B, 1, none⟩ (.slice a n cap)) (.pointer (some ⟨B, 0, none⟩)) H k z :=
  ⟨B, ⟨neg, a, n, cap⟩, rfl, by simp [go_sem, h0, h1], by simp [go_sem, h0, h1], h.put2 h0 h1 _ _, hH, by
    have := World.block_lt_of_cell? w ⟨B, 0, none⟩ h0
    simpa [World.setCell] using this⟩
theorem VarAt.mono {w : World} {p : Value} {H k k' : Nat} {z : Int} (h : VarAt w p H k z) (hk : k ≤ k') : VarAt w p H k' z := by
  obtain ⟨B, x, h1, h2, h3, h4, h5, h6⟩ := h
  exact ⟨B, x, h1, h2, h3, h4.mono hk, h5, h6⟩
set_option maxRecDepth 100000 in
set_option maxHeartbeats 2000000 in
theorem narrow_int (w : World) (s : Sp) (b n : Nat) (lo hi : Int) (h : SpAt w s 250 lo hi) (hb : s.bits = b) (hb1 : b ≤ 120) (hn : n ≤ 1000000) :
    Calls Try.prog 124 #[.agg #[.bool s.ln, .slice s.la s.lN s.lc, .bool s.hn, .slice s.ha s.hN s.hc, .int .i64 s.bits], .int .i64 n] w fun r w' =>
      r = .returned (.bool (narB lo hi (Q b) n)) ∧ Below w.heap.size w w' := by
  rw [hb]
  go_enter Try.func124, Try.ntmps124
  go_wp2
  go_cut [5] (fun p wx => VarAt wx p (w.heap.size + 1) 400 ((hi - lo) * Q b) ∧ Below (w.heap.size + 1) (w.alloc (.cells #[.bool s.ln, .slice s.la s.lN s.lc, .bool s.hn, .slice s.ha s.hN s.hc, .int .i64 b] 28)) wx)
  case first =>
    go_region_held3 (fun w' => w'.cell? ⟨w.heap.size, 0, none⟩ = some (.bool s.ln) ∧ w'.cell? ⟨w.heap.size, 1, none⟩ = some (.slice s.la s.lN s.lc) ∧ w'.cell? ⟨w.heap.size, 2, none⟩ = some (.bool s.hn) ∧ w'.cell? ⟨w.heap.size, 3, none⟩ = some (.slice s.ha s.hN s.hc) ∧ w'.cell? ⟨w.heap.size, 4, none⟩ = some (.int .i64 b)) (go_keep)
      (first
        | (go_at_call 53; refine (sub_int _ _ _ _ _ _ _ _ 250 250 hi lo _ (h.hi.below (by first | exact (bl1 _ _).drew | exact (bl2 _ _ _).drew)) (h.lo.below (by first | exact (bl1 _ _).drew | exact (bl2 _ _ _).drew)) (by omega) (by omega)).mono ?_; rintro r w1 ⟨neg1, a1, n1, c1, rfl, hint1, hb1⟩; obtain ⟨hs1, hcell1, hfz1⟩ := near _ (Nat.le_refl _) hb1; (try simp at hs1); have hl1 : w.heap.size < w1.heap.size := Nat.lt_of_lt_of_le (by first | exact Nat.lt_succ_self _ | exact Nat.lt_succ_of_lt (Nat.lt_succ_self _)) hs1; have hl1' := Nat.le_of_lt hl1; have hl1s : w.heap.size + 1 ≤ w1.heap.size := hl1; have hn1 := Nat.ne_of_gt hl1; have hn1' := Nat.ne_of_lt hl1)
        | (go_at_call 113; refine (up_int _ _ _ _ b 251 (hi - lo) _ (hint1.below (by first | exact Below.refl _ _ | exact bl1 _ _)) (by omega) (by omega)).mono ?_; rintro r w2 ⟨neg2, a2, n2, c2, rfl, hint2, hb2⟩; obtain ⟨hs2, hcell2, hfz2⟩ := near _ (Nat.le_refl _) hb2; have hl2 : w1.heap.size ≤ w2.heap.size := Nat.le_trans (by simp) hs2; have hl2' := Nat.lt_of_lt_of_le hl1 hl2; have hn2 := Nat.ne_of_gt hl2'; have hl2s : w.heap.size + 1 ≤ w2.heap.size := hl2'; have hn2' := Nat.ne_of_lt hl2'; (try simp at hs2)))
    · go_wp2_with fail
      go_meet
      refine ⟨(varA hint2 _ _ hl2s).mono (by omega), ?_⟩
      exact (((bthen (Below.refl _ _).drew hb1).mono (by simp)).trans (hb2.mono hl1s)).alloc hl2s _
    · go_wp2_with fail
      go_meet
      have h0 : w2.cell? ⟨w1.heap.size, 0, none⟩ = some (.bool false) := by simp [hcell2]
      have h1 : w2.cell? ⟨w1.heap.size, 1, none⟩ = some (.slice none 0 0) := by simp [hcell2]
      refine ⟨(varB hint2 _ _ h0 h1 hl1s).mono (by omega), ?_⟩
      exact (((((bthen (Below.refl _ _).drew hb1).mono (by simp)).alloc hl1s _).trans (hb2.mono (by simp; omega))).setCell hl1s _).setCell hl1s _
    · go_wp2_with fail
      go_meet
      have h0 : w2.cell? ⟨w.heap.size + 1, 0, none⟩ = some (.bool false) := by simp [hcell2, hcell1, hs1, go_sem]
      have h1 : w2.cell? ⟨w.heap.size + 1, 1, none⟩ = some (.slice none 0 0) := by simp [hcell2, hcell1, hs1, go_sem]
      refine ⟨(varB hint2 _ _ h0 h1 (Nat.le_refl _)).mono (by omega), ?_⟩
      exact ((((((Below.refl _ _).alloc (by simp) _).drew.trans (hb1.mono (by simp))).trans (hb2.mono hl1s)).setCell (p := ⟨w.heap.size + 1, 0, none⟩) (Nat.le_refl _) _).setCell (p := ⟨w.heap.size + 1, 1, none⟩) (Nat.le_refl _) _)
  case rest =>
  obtain ⟨⟨B5, x5, rfl, c50, c51, hint5, hB5, hlt5⟩, hbl5⟩ := hcut
  rename World => wA
  have hw5 := hbl5.size
  simp at hw5
  have b50 : wA.cell? ⟨w.heap.size, 0, none⟩ = some (.bool s.ln) := (hbl5.cell (p := ⟨w.heap.size, 0, none⟩) (Nat.lt_succ_self _)).trans (by simp)
  have b51 : wA.cell? ⟨w.heap.size, 1, none⟩ = some (.slice s.la s.lN s.lc) := (hbl5.cell (p := ⟨w.heap.size, 1, none⟩) (Nat.lt_succ_self _)).trans (by simp)
  have b52 : wA.cell? ⟨w.heap.size, 2, none⟩ = some (.bool s.hn) := (hbl5.cell (p := ⟨w.heap.size, 2, none⟩) (Nat.lt_succ_self _)).trans (by simp)
  have b53 : wA.cell? ⟨w.heap.size, 3, none⟩ = some (.slice s.ha s.hN s.hc) := (hbl5.cell (p := ⟨w.heap.size, 3, none⟩) (Nat.lt_succ_self _)).trans (by simp)
  have b54 : wA.cell? ⟨w.heap.size, 4, none⟩ = some (.int .i64 b) := (hbl5.cell (p := ⟨w.heap.size, 4, none⟩) (Nat.lt_succ_self _)).trans (by simp)
  have hws : w.heap.size < wA.heap.size := hw5
  have hws1 : w.heap.size + 1 ≤ wA.heap.size := hw5
  have hws2 : w.heap.size ≤ wA.heap.size := Nat.le_of_lt hw5
  have hdr : wA.drew.heap.size = wA.heap.size := rfl
  have hwn : wA.heap.size ≠ w.heap.size := by omega
  have hwn' : w.heap.size ≠ wA.heap.size := by omega
  go_wp2
  go_cut [6] (fun p wx => VarAt wx p (w.heap.size + 1) 20 (Q b) ∧ Below wA.heap.size wA wx)
  case first =>
    go_region_held3 (fun w' => w'.cell? ⟨w.heap.size, 4, none⟩ = some (.int .i64 b)) (go_keep)
      (first
        | (go_at_call 48; refine (numOf_int 1 _ (by decide) (by decide)).mono ?_; rintro r w1 ⟨neg1, a1, n1, c1, rfl, hint1, hb1⟩; obtain ⟨hs1, hcell1, hfz1⟩ := near _ (Nat.le_refl _) hb1; (try simp at hs1); have hl0 : wA.heap.size ≤ w1.heap.size := Nat.le_trans (by simp) hs1; have hl1 : w.heap.size < w1.heap.size := Nat.lt_of_lt_of_le hws hl0; have hl1' := Nat.le_of_lt hl1; have hl1s : w.heap.size + 1 ≤ w1.heap.size := hl1; have hn1 := Nat.ne_of_gt hl1; have hn1' := Nat.ne_of_lt hl1)
        | (go_at_call 113; refine (up_int _ _ _ _ b 4 1 _ (hint1.below (by first | exact Below.refl _ _ | exact bl1 _ _)) (by omega) (by omega)).mono ?_; rintro r w2 ⟨neg2, a2, n2, c2, rfl, hint2, hb2⟩; obtain ⟨hs2, hcell2, hfz2⟩ := near _ (Nat.le_refl _) hb2; have hl2 : w1.heap.size ≤ w2.heap.size := Nat.le_trans (by simp) hs2; have hl2' := Nat.lt_of_lt_of_le hl1 hl2; have hn2 := Nat.ne_of_gt hl2'; have hl2s : w.heap.size + 1 ≤ w2.heap.size := hl2'; have hn2' := Nat.ne_of_lt hl2'; (try simp at hs2)))
    all_goals rw [Int.one_mul] at hint2
    · go_wp2_with fail
      go_meet
      refine ⟨(varA hint2 _ _ hl2s).mono (by omega), ?_⟩
      exact balloc (bthen (bthen (Below.refl _ _).drew hb1) hb2) _
    · go_wp2_with fail
      go_meet
      have h0 : w2.cell? ⟨w1.heap.size, 0, none⟩ = some (.bool false) := by simp [hcell2]
      have h1 : w2.cell? ⟨w1.heap.size, 1, none⟩ = some (.slice none 0 0) := by simp [hcell2]
      refine ⟨(varB hint2 _ _ h0 h1 hl1s).mono (by omega), ?_⟩
      exact ((bthen (balloc (bthen (Below.refl _ _).drew hb1) _) hb2).setCell (p := ⟨w1.heap.size, 0, none⟩) hl0 _).setCell (p := ⟨w1.heap.size, 1, none⟩) hl0 _
    · go_wp2_with fail
      go_meet
      have h0 : w2.cell? ⟨wA.heap.size, 0, none⟩ = some (.bool false) := by simp [hcell2, hcell1, hs1, go_sem]
      have h1 : w2.cell? ⟨wA.heap.size, 1, none⟩ = some (.slice none 0 0) := by simp [hcell2, hcell1, hs1, go_sem]
      refine ⟨(varB hint2 _ _ h0 h1 hws1).mono (by omega), ?_⟩
      exact ((bthen (bthen (bl1 _ _).drew hb1) hb2).setCell (p := ⟨wA.heap.size, 0, none⟩) (Nat.le_refl _) _).setCell (p := ⟨wA.heap.size, 1, none⟩) (Nat.le_refl _) _
  case rest =>
  obtain ⟨⟨B6, x6, rfl, c60, c61, hint6, hB6, hlt6⟩, hbl6⟩ := hcut
  have hsd := hbl6.size
  have d50 : wc.cell? ⟨B5, 0, none⟩ = some (.bool x5.neg) := (hbl6.cell (p := ⟨B5, 0, none⟩) hlt5).trans c50
  have d51 : wc.cell? ⟨B5, 1, none⟩ = some (.slice x5.a x5.n x5.cap) := (hbl6.cell (p := ⟨B5, 1, none⟩) hlt5).trans c51
  have hwd : w.heap.size + 1 ≤ wc.heap.size := Nat.le_trans hws1 hsd
  have e50 : wc.cell? ⟨w.heap.size, 0, none⟩ = some (.bool s.ln) := (hbl6.cell (p := ⟨w.heap.size, 0, none⟩) hws).trans b50
  have e51 : wc.cell? ⟨w.heap.size, 1, none⟩ = some (.slice s.la s.lN s.lc) := (hbl6.cell (p := ⟨w.heap.size, 1, none⟩) hws).trans b51
  have e52 : wc.cell? ⟨w.heap.size, 2, none⟩ = some (.bool s.hn) := (hbl6.cell (p := ⟨w.heap.size, 2, none⟩) hws).trans b52
  have e53 : wc.cell? ⟨w.heap.size, 3, none⟩ = some (.slice s.ha s.hN s.hc) := (hbl6.cell (p := ⟨w.heap.size, 3, none⟩) hws).trans b53
  have e54 : wc.cell? ⟨w.heap.size, 4, none⟩ = some (.int .i64 b) := (hbl6.cell (p := ⟨w.heap.size, 4, none⟩) hws).trans b54
  have hB : Below w.heap.size w wc := ((bl1 _ _).trans (hbl5.mono (by omega))).trans (hbl6.mono hws2)
  have HI5 := hide (hint5.below hbl6)
  have HI6 := hide hint6
  have HS := hide (h.below hB)
  have hl5 : B5 + 1 ≤ wc.heap.size := Nat.lt_of_lt_of_le hlt5 hsd
  have hl6 : B6 + 1 ≤ wc.heap.size := hlt6
  have HE := hide (show (decide (cmpInt ((hi - lo) * Q b) (n * (Q b + maxZ hi (-lo))) ≤ 0)) = narB lo hi (Q b) n from cmp_le0 _ _)
  clear hint5 hint6 c50 c51 b50 b51 b52 b53 b54 h hbl5
  go_wp2
  go_region_held3 (fun w' => w'.cell? ⟨B5, 0, none⟩ = some (.bool x5.neg) ∧ w'.cell? ⟨B5, 1, none⟩ = some (.slice x5.a x5.n x5.cap) ∧ w'.cell? ⟨B6, 0, none⟩ = some (.bool x6.neg) ∧ w'.cell? ⟨B6, 1, none⟩ = some (.slice x6.a x6.n x6.cap) ∧ w'.cell? ⟨w.heap.size, 0, none⟩ = some (.bool s.ln) ∧ w'.cell? ⟨w.heap.size, 1, none⟩ = some (.slice s.la s.lN s.lc) ∧ w'.cell? ⟨w.heap.size, 2, none⟩ = some (.bool s.hn) ∧ w'.cell? ⟨w.heap.size, 3, none⟩ = some (.slice s.ha s.hN s.hc) ∧ w'.cell? ⟨w.heap.size, 4, none⟩ = some (.int .i64 b)) (go_keep)
    (first
      | (go_at_call 48; refine (numOf_int (n : Int) _ (by omega) (by omega)).mono ?_; rintro r w1 ⟨neg1, a1, n1, c1, rfl, hint1, hb1⟩; obtain ⟨hs1, hcell1, hfz1⟩ := near wc.heap.size (by exact Nat.le_refl _) hb1)
      | (go_at_call 154; refine (reach_int _ ⟨s.ln, s.la, s.lN, s.lc, s.hn, s.ha, s.hN, s.hc, b⟩ 250 lo hi ⟨((unhide HS).below (bthen (Below.refl _ _).drew hb1)).lo, ((unhide HS).below (bthen (Below.refl _ _).drew hb1)).hi⟩ (by omega)).mono ?_; rintro r w2 ⟨neg2, a2, n2, c2, rfl, hint2, hb2⟩; obtain ⟨hs2, hcell2, hfz2⟩ := near wc.heap.size hs1 hb2)
      | (go_at_call 86; refine (add_int _ _ _ _ _ _ _ _ 20 251 _ _ _ ((unhide HI6).below (bthen (bthen (Below.refl _ _).drew hb1) hb2)) hint2 (by omega) (by omega)).mono ?_; rintro r w3 ⟨neg3, a3, n3, c3, rfl, hint3, hb3⟩; obtain ⟨hs3, hcell3, hfz3⟩ := near wc.heap.size hs2 hb3)
      | (go_at_call 84; refine (mul_int _ _ _ _ _ _ _ _ 4 252 _ _ _ (hint1.below (bthen hb2 hb3)) hint3 (by omega) (by omega)).mono ?_; rintro r w4 ⟨neg4, a4, n4, c4, rfl, hint4, hb4⟩; obtain ⟨hs4, hcell4, hfz4⟩ := near wc.heap.size hs3 hb4)
      | (go_at_call 24; refine (cmp_int _ _ _ _ _ _ _ _ 400 256 _ _ _ ((unhide HI5).below (bthen (bthen (bthen (bthen (Below.refl _ _).drew hb1) hb2) hb3) hb4)) hint4).mono ?_; rintro r w5 ⟨rfl, hb5⟩; obtain ⟨hs5, hcell5, hfz5⟩ := near wc.heap.size hs4 hb5))
  go_wp2
  go_ret
  exact ⟨by rw [← unhide HE]; rfl, bthen (bthen (bthen (bthen (bthen hB.drew hb1) hb2) hb3) hb4) hb5⟩
end Go.Proofs.Ytgmnknmjainabab
namespace Go.Proofs.Ytgmnknmjainabab
open Go.RowKit
attribute [local go_sem ↓] Go.wp_at_zero Go.wp_at_succ
def pr4 {α : Type} (x y z t : α) (j : Nat) : α := if j = 0 then x else if j = 1 then y else if j = 2 then z else t
theorem nums4 (w : World) (B : Nat) (hB : w.heap.size = B) (x y z t : Nm) (k : Nat) (zx zy zz zt : Int) (T : TypeId) (hx : IntAt w x.neg x.a x.n x.cap k zx) (hy : IntAt w y.neg y.a y.n y.cap k zy) (hz : IntAt w z.neg z.a z.n z.cap k zz) (ht : IntAt w t.neg t.a t.n t.cap k zt) :
    Nums (w.alloc (.cells #[.bool x.neg, .slice x.a x.n x.cap, .bool y.neg, .slice y.a y.n y.cap, .bool z.neg, .slice z.a z.n z.cap, .bool t.neg, .slice t.a t.n t.cap] T)) B 4 k (pr4 x y z t) (pr4 zx zy zz zt) := by
  subst hB
  refine ⟨by simp, ?_, ?_, ?_⟩
  all_goals
    intro j hj
    match j, hj with
    | 0, _ => first | (simp [pr4]; done) | exact hx.below (bl1 _ _)
    | 1, _ => first | (simp [pr4]; done) | exact hy.below (bl1 _ _)
    | 2, _ => first | (simp [pr4]; done) | exact hz.below (bl1 _ _)
    | 3, _ => first | (simp [pr4]; done) | exact ht.below (bl1 _ _)
theorem most4 (lo hi : Int) (h : lo ≤ hi) : mostZ (pr4 lo hi (-lo) (-hi)) 3 = maxZ hi (-lo) := by
  have e1 : mostZ (pr4 lo hi (-lo) (-hi)) 1 = hi := by
    show (if lo < hi then hi else lo) = hi
    split <;> omega
  have e2 : mostZ (pr4 lo hi (-lo) (-hi)) 2 = maxZ hi (-lo) := by
    show (if mostZ (pr4 lo hi (-lo) (-hi)) 1 < -lo then -lo else mostZ (pr4 lo hi (-lo) (-hi)) 1) = _
    rw [e1]; rfl
  show (if mostZ (pr4 lo hi (-lo) (-hi)) 2 < -hi then -hi else mostZ (pr4 lo hi (-lo) (-hi)) 2) = _
  rw [e2, if_neg]
  unfold maxZ; split <;> omega
set_option maxRecDepth 100000 in
set_option maxHeartbeats 4000000 in
theorem narrowBy_int (w : World) (s : Sp) (b n : Nat) (lo hi : Int) (h : SpAt w s 250 lo hi) (hb : s.bits = b) (hb1 : b ≤ 120) (hn : n ≤ 1000000) (hle : lo ≤ hi) :
    Calls Try.prog 49 #[.agg #[.bool s.ln, .slice s.la s.lN s.lc, .bool s.hn, .slice s.ha s.hN s.hc, .int .i64 s.bits], .int .i64 n] w fun r w' =>
      r = .returned (.bool (narB lo hi (Q b) n)) ∧ Below w.heap.size w w' := by
  rw [hb]
  have HM := hide (most4 lo hi hle)
  go_enter Try.func49, Try.ntmps49
  go_wp2
  obtain ⟨W, hW⟩ : ∃ W, W = w.alloc (.cells #[.bool s.ln, .slice s.la s.lN s.lc, .bool s.hn, .slice s.ha s.hN s.hc, .int .i64 b] 28) := ⟨_, rfl⟩
  have k0 : W.cell? ⟨w.heap.size, 0, none⟩ = some (.bool s.ln) := by rw [hW]; simp
  have k1 : W.cell? ⟨w.heap.size, 1, none⟩ = some (.slice s.la s.lN s.lc) := by rw [hW]; simp
  have k2 : W.cell? ⟨w.heap.size, 2, none⟩ = some (.bool s.hn) := by rw [hW]; simp
  have k3 : W.cell? ⟨w.heap.size, 3, none⟩ = some (.slice s.ha s.hN s.hc) := by rw [hW]; simp
  have k4 : W.cell? ⟨w.heap.size, 4, none⟩ = some (.int .i64 b) := by rw [hW]; simp
  have hlt : w.heap.size < W.heap.size := by rw [hW]; simp
  have hlt1 : w.heap.size + 1 ≤ W.heap.size := hlt
  have hBW : Below w.heap.size w W := by rw [hW]; exact bl1 _ _
  have hdr : W.drew.heap.size = W.heap.size := rfl
  have HS := hide (h.below hBW)
  have hne : W.heap.size ≠ w.heap.size := by omega
  have hne' : w.heap.size ≠ W.heap.size := by omega
  rw [← hW]
  clear hW h
  have keepS : ∀ w', Below W.heap.size W w' → (w'.cell? ⟨w.heap.size, 0, none⟩ = some (.bool s.ln) ∧ w'.cell? ⟨w.heap.size, 1, none⟩ = some (.slice s.la s.lN s.lc) ∧ w'.cell? ⟨w.heap.size, 2, none⟩ = some (.bool s.hn) ∧ w'.cell? ⟨w.heap.size, 3, none⟩ = some (.slice s.ha s.hN s.hc)) := fun w' hB =>
    ⟨(hB.cell (p := ⟨w.heap.size, 0, none⟩) hlt).trans k0, (hB.cell (p := ⟨w.heap.size, 1, none⟩) hlt).trans k1, (hB.cell (p := ⟨w.heap.size, 2, none⟩) hlt).trans k2, (hB.cell (p := ⟨w.heap.size, 3, none⟩) hlt).trans k3⟩
  have HK := hide keepS
  clear keepS
  go_cut [5] (fun p wx => VarAt wx p W.heap.size 260 (maxZ hi (-lo)) ∧ Below W.heap.size W wx)
  case first =>
    go_region_held3 (fun w' => w'.cell? ⟨w.heap.size, 0, none⟩ = some (.bool s.ln) ∧ w'.cell? ⟨w.heap.size, 1, none⟩ = some (.slice s.la s.lN s.lc) ∧ w'.cell? ⟨w.heap.size, 2, none⟩ = some (.bool s.hn) ∧ w'.cell? ⟨w.heap.size, 3, none⟩ = some (.slice s.ha s.hN s.hc)) (exact unhide HK _ (by first | exact (Below.refl _ _).drew | exact (bl1 _ _).drew | exact hB1 | exact balloc hB1 _ | exact hB2 | exact balloc hB2 _ | exact balloc (balloc hB2 _) _ | exact hB3 | exact balloc hB3 _ | exact (hB3.setCell (by first | exact Nat.le_refl _ | exact hB1.size | exact hB2.size | exact Nat.le_succ_of_le hB2.size) _).setCell (by first | exact Nat.le_refl _ | exact hB1.size | exact hB2.size | exact Nat.le_succ_of_le hB2.size) _))
      (first
        | (go_at_call_of 83 s.la; refine (neg_int _ _ _ _ 250 lo _ ((unhide HS).lo.below (by first | exact (Below.refl _ _).drew | exact (bl1 _ _).drew)) (by omega)).mono ?_; rintro r w1 ⟨neg1, a1, n1, c1, rfl, hint1, hb1⟩; obtain ⟨hs1, hcell1, hfz1⟩ := near _ (Nat.le_refl _) hb1; have hB1 : Below W.heap.size W w1 := (by first | exact bthen (Below.refl _ _).drew hb1 | exact bthen (bl1 _ _).drew hb1); have hl1 := hB1.size; have hm1 := Nat.lt_of_lt_of_le hlt hl1; have hm1s : w.heap.size + 1 ≤ w1.heap.size := hm1; have hm1l := Nat.le_of_lt hm1; have hm1ll := Nat.le_succ_of_le hm1l; have hn1 := Nat.ne_of_gt hm1; have hn1' := Nat.ne_of_lt hm1; (try simp at hs1); (try have hq1 : W.heap.size < w1.heap.size := hs1); (try have hq1s : W.heap.size + 1 ≤ w1.heap.size := hs1))
        | (go_at_call_of 83 s.ha; refine (neg_int _ _ _ _ 250 hi _ ((unhide HS).hi.below (by first | exact hB1 | exact balloc hB1 _)) (by omega)).mono ?_; rintro r w2 ⟨neg2, a2, n2, c2, rfl, hint2, hb2⟩; obtain ⟨hs2, hcell2, hfz2⟩ := near _ (Nat.le_refl _) hb2; have hB12 : Below w1.heap.size w1 w2 := (by first | exact hb2 | exact bthen (bl1 _ _) hb2); have hB2 := bthen hB1 hB12; have hl2 := hB12.size; have hw2 := hB2.size; (try have hq2 := Nat.lt_of_lt_of_le hs1 hl2); have hm2 := Nat.lt_of_lt_of_le hm1 hl2; have hm2s : w.heap.size + 1 ≤ w2.heap.size := hm2; have hm2l := Nat.le_of_lt hm2; have hm2ll := Nat.le_succ_of_le hm2l; have hn2 := Nat.ne_of_gt hm2; have hn2' := Nat.ne_of_lt hm2; (try simp at hs2); (try have hq12 : w1.heap.size < w2.heap.size := hs2); (try have hq12s : w1.heap.size + 1 ≤ w2.heap.size := hs2); (try have hq2s : W.heap.size + 1 ≤ w2.heap.size := hq2))
        | (go_at_call_of 82 (Addr.mk w2.heap.size 0 none); refine (greatest_int w2.heap.size 3 _ 250 (pr4 ⟨s.ln, s.la, s.lN, s.lc⟩ ⟨s.hn, s.ha, s.hN, s.hc⟩ ⟨neg1, a1, n1, c1⟩ ⟨neg2, a2, n2, c2⟩) (pr4 lo hi (-lo) (-hi)) _ (by first | exact nums4 w2 w2.heap.size rfl ⟨s.ln, s.la, s.lN, s.lc⟩ ⟨s.hn, s.ha, s.hN, s.hc⟩ ⟨neg1, a1, n1, c1⟩ ⟨neg2, a2, n2, c2⟩ 250 _ _ _ _ _ ((unhide HS).lo.below hB2) ((unhide HS).hi.below hB2) (hint1.below hB12) hint2 | exact (nums4 w2 w2.heap.size rfl ⟨s.ln, s.la, s.lN, s.lc⟩ ⟨s.hn, s.ha, s.hN, s.hc⟩ ⟨neg1, a1, n1, c1⟩ ⟨neg2, a2, n2, c2⟩ 250 _ _ _ _ _ ((unhide HS).lo.below hB2) ((unhide HS).hi.below hB2) (hint1.below hB12) hint2).below (bl1 _ _)) (by omega)).mono ?_; rintro r w3 ⟨neg3, a3, n3, c3, rfl, hint3, hb3⟩; obtain ⟨hs3, hcell3, hfz3⟩ := near _ (Nat.le_refl _) hb3; have hB23 : Below w2.heap.size w2 w3 := (by first | exact bthen (bl1 _ _) hb3 | exact bthen (bl2 _ _ _) hb3); have hB3 := bthen hB2 hB23; have hl3 := hB23.size; have hm3 := Nat.lt_of_lt_of_le hm2 hl3; have hm3s : w.heap.size + 1 ≤ w3.heap.size := hm3; have hm3l := Nat.le_of_lt hm3; have hm3ll := Nat.le_succ_of_le hm3l; have hn3 := Nat.ne_of_gt hm3; have hn3' := Nat.ne_of_lt hm3; (try simp at hs3))
        | (go_at_call 82; refine (greatest_int (w2.heap.size + 1) 3 _ 250 (pr4 ⟨s.ln, s.la, s.lN, s.lc⟩ ⟨s.hn, s.ha, s.hN, s.hc⟩ ⟨neg1, a1, n1, c1⟩ ⟨neg2, a2, n2, c2⟩) (pr4 lo hi (-lo) (-hi)) _ (by exact nums4 (w2.alloc (.cells #[.bool false, .slice none 0 0] 26)) (w2.heap.size + 1) (Go.Deep.nblk_alloc _ _) ⟨s.ln, s.la, s.lN, s.lc⟩ ⟨s.hn, s.ha, s.hN, s.hc⟩ ⟨neg1, a1, n1, c1⟩ ⟨neg2, a2, n2, c2⟩ 250 _ _ _ _ _ ((unhide HS).lo.below (balloc hB2 _)) ((unhide HS).hi.below (balloc hB2 _)) (hint1.below (balloc hB12 _)) (hint2.below (bl1 _ _))) (by omega)).mono ?_; rintro r w3 ⟨neg3, a3, n3, c3, rfl, hint3, hb3⟩; obtain ⟨hs3, hcell3, hfz3⟩ := near _ (Nat.le_refl _) hb3; have hB23 : Below w2.heap.size w2 w3 := (by first | exact bthen (bl1 _ _) hb3 | exact bthen (bl2 _ _ _) hb3); have hB3 := bthen hB2 hB23; have hl3 := hB23.size; have hm3 := Nat.lt_of_lt_of_le hm2 hl3; have hm3s : w.heap.size + 1 ≤ w3.heap.size := hm3; have hm3l := Nat.le_of_lt hm3; have hm3ll := Nat.le_succ_of_le hm3l; have hn3 := Nat.ne_of_gt hm3; have hn3' := Nat.ne_of_lt hm3; (try simp at hs3)))
    all_goals rw [unhide HM] at hint3
    · go_wp2_with fail
      go_meet
      exact ⟨(varA hint3 _ _ hB3.size).mono (by omega), balloc hB3 _⟩
    · go_wp2_with fail
      go_meet
      have h0 : w3.cell? ⟨w2.heap.size + 1, 0, none⟩ = some (.bool false) := by simp [hcell3, go_sem]
      have h1 : w3.cell? ⟨w2.heap.size + 1, 1, none⟩ = some (.slice none 0 0) := by simp [hcell3, go_sem]
      exact ⟨(varB hint3 _ _ h0 h1 (Nat.le_succ_of_le hw2)).mono (by omega), (hB3.setCell (p := ⟨w2.heap.size + 1, 0, none⟩) (Nat.le_succ_of_le hw2) _).setCell (p := ⟨w2.heap.size + 1, 1, none⟩) (Nat.le_succ_of_le hw2) _⟩
    · go_wp2_with fail
      go_meet
      have h0 : w3.cell? ⟨w2.heap.size, 0, none⟩ = some (.bool false) := by simp [hcell3, go_sem]
      have h1 : w3.cell? ⟨w2.heap.size, 1, none⟩ = some (.slice none 0 0) := by simp [hcell3, go_sem]
      exact ⟨(varB hint3 _ _ h0 h1 hw2).mono (by omega), (hB3.setCell (p := ⟨w2.heap.size, 0, none⟩) hw2 _).setCell (p := ⟨w2.heap.size, 1, none⟩) hw2 _⟩
    · go_wp2_with fail
      go_meet
      have h0 : w3.cell? ⟨w1.heap.size, 0, none⟩ = some (.bool false) := by simp [hcell3, hcell2, hq12, hl2, go_sem]
      have h1 : w3.cell? ⟨w1.heap.size, 1, none⟩ = some (.slice none 0 0) := by simp [hcell3, hcell2, hq12, hl2, go_sem]
      exact ⟨(varB hint3 _ _ h0 h1 hl1).mono (by omega), (hB3.setCell (p := ⟨w1.heap.size, 0, none⟩) hl1 _).setCell (p := ⟨w1.heap.size, 1, none⟩) hl1 _⟩
    · go_wp2_with fail
      go_meet
      have h0 : w3.cell? ⟨W.heap.size, 0, none⟩ = some (.bool false) := by simp [hcell3, hcell2, hcell1, hq1, hq1s, hq2, hq2s, hw2, go_sem]
      have h1 : w3.cell? ⟨W.heap.size, 1, none⟩ = some (.slice none 0 0) := by simp [hcell3, hcell2, hcell1, hq1, hq1s, hq2, hq2s, hw2, go_sem]
      exact ⟨(varB hint3 _ _ h0 h1 (Nat.le_refl _)).mono (by omega), (hB3.setCell (p := ⟨W.heap.size, 0, none⟩) (Nat.le_refl _) _).setCell (p := ⟨W.heap.size, 1, none⟩) (Nat.le_refl _) _⟩
  case rest =>
  obtain ⟨⟨B5, x5, rfl, c50, c51, hint5, hB5, hlt5⟩, hbl5⟩ := hcut
  have HI5 := hide hint5
  have HS2 := hide ((unhide HS).below hbl5)
  have hltc := Nat.lt_of_lt_of_le hlt hbl5.size
  have e4 : wc.cell? ⟨w.heap.size, 4, none⟩ = some (.int .i64 b) := (hbl5.cell (p := ⟨w.heap.size, 4, none⟩) hlt).trans k4
  obtain ⟨e0, e1, e2, e3⟩ := unhide HK wc hbl5
  have HK2 := hide (show ∀ w', Below wc.heap.size wc w' → (w'.cell? ⟨w.heap.size, 0, none⟩ = some (.bool s.ln) ∧ w'.cell? ⟨w.heap.size, 1, none⟩ = some (.slice s.la s.lN s.lc) ∧ w'.cell? ⟨w.heap.size, 2, none⟩ = some (.bool s.hn) ∧ w'.cell? ⟨w.heap.size, 3, none⟩ = some (.slice s.ha s.hN s.hc) ∧ w'.cell? ⟨w.heap.size, 4, none⟩ = some (.int .i64 b) ∧ w'.cell? ⟨B5, 0, none⟩ = some (.bool x5.neg) ∧ w'.cell? ⟨B5, 1, none⟩ = some (.slice x5.a x5.n x5.cap)) from fun w' hB =>
    ⟨(hB.cell (p := ⟨w.heap.size, 0, none⟩) hltc).trans e0, (hB.cell (p := ⟨w.heap.size, 1, none⟩) hltc).trans e1, (hB.cell (p := ⟨w.heap.size, 2, none⟩) hltc).trans e2, (hB.cell (p := ⟨w.heap.size, 3, none⟩) hltc).trans e3, (hB.cell (p := ⟨w.heap.size, 4, none⟩) hltc).trans e4, (hB.cell (p := ⟨B5, 0, none⟩) hlt5).trans c50, (hB.cell (p := ⟨B5, 1, none⟩) hlt5).trans c51⟩)
  have HE := hide (show (decide (cmpInt ((hi - lo) * Q b) (n * (Q b + maxZ hi (-lo))) ≤ 0)) = narB lo hi (Q b) n from cmp_le0 _ _)
  have hBw : Below w.heap.size w wc := hBW.trans (hbl5.mono (Nat.le_of_lt hlt))
  clear hint5 k0 k1 k2 k3 k4 hbl5 HK HS HM
  go_wp2
  go_region_held3 (fun w' => w'.cell? ⟨w.heap.size, 0, none⟩ = some (.bool s.ln) ∧ w'.cell? ⟨w.heap.size, 1, none⟩ = some (.slice s.la s.lN s.lc) ∧ w'.cell? ⟨w.heap.size, 2, none⟩ = some (.bool s.hn) ∧ w'.cell? ⟨w.heap.size, 3, none⟩ = some (.slice s.ha s.hN s.hc) ∧ w'.cell? ⟨w.heap.size, 4, none⟩ = some (.int .i64 b) ∧ w'.cell? ⟨B5, 0, none⟩ = some (.bool x5.neg) ∧ w'.cell? ⟨B5, 1, none⟩ = some (.slice x5.a x5.n x5.cap)) (exact unhide HK2 _ (by first | exact (Below.refl _ _).drew | exact hB1 | exact hB2 | exact hB3 | exact hB4 | exact hB5' | exact hB6 | exact hB7 | exact hB8))
    (first
      | (go_at_call 53; refine (sub_int _ _ _ _ _ _ _ _ 250 250 hi lo _ ((unhide HS2).hi.below (Below.refl _ _).drew) ((unhide HS2).lo.below (Below.refl _ _).drew) (by omega) (by omega)).mono ?_; rintro r w1 ⟨neg1, a1, n1, c1, rfl, hint1, hb1⟩; have hB1 : Below wc.heap.size wc w1 := bthen (Below.refl _ _).drew hb1)
      | (go_at_call_of 84 a1; refine (mul_int _ _ _ _ _ _ _ _ 251 20 _ _ _ (hint1.below hb2) hint2 (by omega) (by omega)).mono ?_; rintro r w3 ⟨neg3, a3, n3, c3, rfl, hint3, hb3⟩; have hB3 := bthen hB2 hb3)
      | (go_at_call 48; refine (numOf_int (n : Int) _ (by omega) (by omega)).mono ?_; rintro r w4 ⟨neg4, a4, n4, c4, rfl, hint4, hb4⟩; have hB4 := bthen hB3 hb4)
      | (go_at_call 85; have hB4' := hB4; refine (power2_int b _ (by omega)).mono ?_; rintro r w5 ⟨neg5, a5, n5, c5, rfl, hint5, hb5⟩; have hB5' := bthen hB4 hb5)
      | (go_at_call 85; refine (power2_int b _ (by omega)).mono ?_; rintro r w2 ⟨neg2, a2, n2, c2, rfl, hint2, hb2⟩; have hint2 := hint2.mono (show b / 16 + 5 ≤ 20 by omega); have hB2 := bthen hB1 hb2)
      | (go_at_call 86; refine (add_int _ _ _ _ _ _ _ _ (b / 16 + 5) 260 _ _ _ hint5 ((unhide HI5).below hB5') (by omega) (by omega)).mono ?_; rintro r w6 ⟨neg6, a6, n6, c6, rfl, hint6, hb6⟩; have hint6 := hint6.mono (show max (b / 16 + 5) 260 + 1 ≤ 300 by omega); have hB6 := bthen hB5' hb6)
      | (go_at_call 84; refine (mul_int _ _ _ _ _ _ _ _ 4 300 _ _ _ (hint4.below (bthen hb5 hb6)) hint6 (by omega) (by omega)).mono ?_; rintro r w7 ⟨neg7, a7, n7, c7, rfl, hint7, hb7⟩; have hB7 := bthen hB6 hb7)
      | (go_at_call 24; refine (cmp_int _ _ _ _ _ _ _ _ 271 304 _ _ _ (hint3.below (bthen (bthen (bthen hb4 hb5) hb6) hb7)) hint7).mono ?_; rintro r w8 ⟨rfl, hb8⟩; have hB8 := bthen hB7 hb8))
  go_wp2
  go_ret
  exact ⟨by rw [← unhide HE]; rfl, hBw.trans (hB8.mono (Nat.le_of_lt hltc))⟩
end Go.Proofs.Ytgmnknmjainabab
namespace Go.Proofs.Ytgmnknmjainabab
open Go.RowKit
def loZ (s : Sp) (d : Nat → Int) : Int := sgn s.ln (V d s.lN)
def hiZ (s : Sp) (e : Nat → Int) : Int := sgn s.hn (V e s.hN)
end Go.Proofs.Ytgmnknmjainabab
namespace Go.Proofs.Ytgmnknmjainabab
open Go.RowKit
attribute [local go_sem ↓] Go.wp_at_zero Go.wp_at_succ
theorem IntAt.put5 {w : World} {neg : Bool} {a : Option Addr} {n cap k : Nat} {z : Int} (h : IntAt w neg a n cap k z) {B : Nat} {x0 x2 : Bool} {y0 y3 : Option Addr} {y1 y2 y4 y5 : Nat} {i : Int}
    (h0 : w.cell? ⟨B, 0, none⟩ = some (.bool x0)) (h1 : w.cell? ⟨B, 1, none⟩ = some (.slice y0 y1 y2)) (h2 : w.cell? ⟨B, 2, none⟩ = some (.bool x2)) (h3 : w.cell? ⟨B, 3, none⟩ = some (.slice y3 y4 y5)) (h4 : w.cell? ⟨B, 4, none⟩ = some (.int .i64 i)) (u0 u1 u2 u3 u4 : Value) :
    IntAt (((((w.setCell ⟨B, 0, none⟩ u0).setCell ⟨B, 1, none⟩ u1).setCell ⟨B, 2, none⟩ u2).setCell ⟨B, 3, none⟩ u3).setCell ⟨B, 4, none⟩ u4) neg a n cap k z := by
  have ne : ∀ i j : Nat, i ≠ j → (⟨B, i, none⟩ : Addr) ≠ ⟨B, j, none⟩ := fun i j hij e => hij (by injection e)
  have g1 : (w.setCell ⟨B, 0, none⟩ u0).cell? ⟨B, 1, none⟩ = some (.slice y0 y1 y2) := (World.cell?_setCell_other _ _ _ _ (ne 0 1 (by omega))).trans h1
  have g2 : ((w.setCell ⟨B, 0, none⟩ u0).setCell ⟨B, 1, none⟩ u1).cell? ⟨B, 2, none⟩ = some (.bool x2) := (World.cell?_setCell_other _ _ _ _ (ne 1 2 (by omega))).trans ((World.cell?_setCell_other _ _ _ _ (ne 0 2 (by omega))).trans h2)
  have g3 : (((w.setCell ⟨B, 0, none⟩ u0).setCell ⟨B, 1, none⟩ u1).setCell ⟨B, 2, none⟩ u2).cell? ⟨B, 3, none⟩ = some (.slice y3 y4 y5) := (World.cell?_setCell_other _ _ _ _ (ne 2 3 (by omega))).trans ((World.cell?_setCell_other _ _ _ _ (ne 1 3 (by omega))).trans ((World.cell?_setCell_other _ _ _ _ (ne 0 3 (by omega))).trans h3))
  have g4 : ((((w.setCell ⟨B, 0, none⟩ u0).setCell ⟨B, 1, none⟩ u1).setCell ⟨B, 2, none⟩ u2).setCell ⟨B, 3, none⟩ u3).cell? ⟨B, 4, none⟩ = some (.int .i64 i) := (World.cell?_setCell_other _ _ _ _ (ne 3 4 (by omega))).trans ((World.cell?_setCell_other _ _ _ _ (ne 2 4 (by omega))).trans ((World.cell?_setCell_other _ _ _ _ (ne 1 4 (by omega))).trans ((World.cell?_setCell_other _ _ _ _ (ne 0 4 (by omega))).trans h4)))
  exact ((((h.store h0 (fun _ e => by cases e) u0).store g1 (fun _ e => by cases e) u1).store g2 (fun _ e => by cases e) u2).store g3 (fun _ e => by cases e) u3).store g4 (fun _ e => by cases e) u4
theorem SpAt.put5 {w : World} {s : Sp} {k : Nat} {lo hi : Int} (h : SpAt w s k lo hi) {B : Nat} {x0 x2 : Bool} {y0 y3 : Option Addr} {y1 y2 y4 y5 : Nat} {i : Int}
    (h0 : w.cell? ⟨B, 0, none⟩ = some (.bool x0)) (h1 : w.cell? ⟨B, 1, none⟩ = some (.slice y0 y1 y2)) (h2 : w.cell? ⟨B, 2, none⟩ = some (.bool x2)) (h3 : w.cell? ⟨B, 3, none⟩ = some (.slice y3 y4 y5)) (h4 : w.cell? ⟨B, 4, none⟩ = some (.int .i64 i)) (u0 u1 u2 u3 u4 : Value) :
    SpAt (((((w.setCell ⟨B, 0, none⟩ u0).setCell ⟨B, 1, none⟩ u1).setCell ⟨B, 2, none⟩ u2).setCell ⟨B, 3, none⟩ u3).setCell ⟨B, 4, none⟩ u4) s k lo hi := ⟨h.lo.put5 h0 h1 h2 h3 h4 u0 u1 u2 u3 u4, h.hi.put5 h0 h1 h2 h3 h4 u0 u1 u2 u3 u4⟩
theorem set5 {B B' : Nat} {a w : World} (h : Below B a w) (hB : B ≤ B') (u0 u1 u2 u3 u4 : Value) : Below B a (((((w.setCell ⟨B', 0, none⟩ u0).setCell ⟨B', 1, none⟩ u1).setCell ⟨B', 2, none⟩ u2).setCell ⟨B', 3, none⟩ u3).setCell ⟨B', 4, none⟩ u4) :=
  ((((h.setCell (p := ⟨B', 0, none⟩) hB u0).setCell (p := ⟨B', 1, none⟩) hB u1).setCell (p := ⟨B', 2, none⟩) hB u2).setCell (p := ⟨B', 3, none⟩) hB u3).setCell (p := ⟨B', 4, none⟩) hB u4
set_option maxRecDepth 100000 in
set_option maxHeartbeats 2000000 in
theorem ceil_core (neg neg2 : Bool) (a c : Option Addr) (n m cap cap2 k k2 : Nat) (x y : Int) (w : World) (h1 : IntAt w neg a n cap k x) (h2 : IntAt w neg2 c m cap2 k2 y) (hk : k ≤ 800000000)
    (hfl : ∀ w' neg' a' n' cap', IntAt w' neg' a' n' cap' k (-x) → IntAt w' neg2 c m cap2 k2 y → Calls Try.prog 105 #[.agg #[.bool neg', .slice a' n' cap'], .agg #[.bool neg2, .slice c m cap2]] w' (FloorAns w' k (-x / y))) :
    Calls Try.prog 114 #[.agg #[.bool neg, .slice a n cap], .agg #[.bool neg2, .slice c m cap2]] w (FloorAns w k (-(-x / y))) := by
  have ne1 : w.heap.size ≠ w.heap.size + 1 + 1 := by omega
  have ne2 : w.heap.size + 1 + 1 ≠ w.heap.size := by omega
  have le2 : w.heap.size ≤ w.heap.size + 1 + 1 := by omega
  have HF := hide hfl
  clear hfl
  go_enter Try.func114, Try.ntmps114
  go_wp2
  go_region_held3 (fun w' => w'.cell? ⟨w.heap.size, 0, none⟩ = some (.bool neg) ∧ w'.cell? ⟨w.heap.size, 1, none⟩ = some (.slice a n cap) ∧ w'.cell? ⟨w.heap.size + 1, 0, none⟩ = some (.bool neg2) ∧ w'.cell? ⟨w.heap.size + 1, 1, none⟩ = some (.slice c m cap2)) (go_keep)
    (first
      | (go_at_call 105; refine (unhide HF _ _ _ _ _ hint1 (h2.below (bthen (bl3 _ _ _ _).drew hb1))).mono ?_; rintro r w2 ⟨neg2', a2, n2, c2, rfl, hint2, hb2⟩; obtain ⟨hsz2, hcell2, hfz2⟩ := near (w.heap.size + 1 + 1 + 1) hsz1 hb2)
      | (go_at_call 83; have hq := hb2; refine (neg_int _ _ _ _ (k + 8) _ _ hint2 (by omega)).mono ?_; rintro r w3 ⟨neg3, a3, n3, c3, rfl, hint3, hb3⟩; obtain ⟨hsz3, hcell3, hfz3⟩ := near (w.heap.size + 1 + 1 + 1) hsz2 hb3)
      | (go_at_call 83; refine (neg_int _ _ _ _ k x _ (h1.below (bl3 _ _ _ _).drew) (by omega)).mono ?_; rintro r w1 ⟨neg1, a1, n1, c1, rfl, hint1, hb1⟩; obtain ⟨hsz1, hcell1, hfz1⟩ := near (w.heap.size + 1 + 1 + 1) (by simp) hb1))
  go_wp2
  have h0 : w3.cell? ⟨w.heap.size + 1 + 1, 0, none⟩ = some (.bool false) := by simp [hcell3, hcell2, hcell1, go_sem]
  have h1' : w3.cell? ⟨w.heap.size + 1 + 1, 1, none⟩ = some (.slice none 0 0) := by simp [hcell3, hcell2, hcell1, go_sem]
  refine bodyPost_ret (v := .agg #[.bool neg3, .slice a3 n3 c3]) (by simp [results, Try.results114, go_sem, h0, h1']) rfl ⟨neg3, a3, n3, c3, rfl, hint3.put2 h0 h1' _ _, ?_⟩
  exact ((bthen (bthen (bthen (bl3 _ _ _ _).drew hb1) hb2) hb3).setCell (p := ⟨w.heap.size + 1 + 1, 0, none⟩) le2 _).setCell (p := ⟨w.heap.size + 1 + 1, 1, none⟩) le2 _
theorem ceil_small (neg neg2 : Bool) (a c : Option Addr) (n m cap cap2 k k2 : Nat) (x y : Int) (w : World) (h1 : IntAt w neg a n cap k x) (h2 : IntAt w neg2 c m cap2 k2 y) (hk : k ≤ 800000000) (hy : 0 < y) (hy3 : y < 281474976710656) :
    Calls Try.prog 114 #[.agg #[.bool neg, .slice a n cap], .agg #[.bool neg2, .slice c m cap2]] w (FloorAns w k (-(-x / y))) :=
  ceil_core neg neg2 a c n m cap cap2 k k2 x y w h1 h2 hk (fun w' neg' a' n' cap' g1 g2 => floor_small neg' neg2 a' c n' m cap' cap2 k k2 (-x) y w' g1 g2 (by omega) hy hy3)
def SpanAns (w : World) (b : Int) (k : Nat) (lo hi : Int) (r : Ending) (w' : World) : Prop :=
  ∃ s : Sp, r = .returned (.agg #[.bool s.ln, .slice s.la s.lN s.lc, .bool s.hn, .slice s.ha s.hN s.hc, .int .i64 s.bits]) ∧ s.bits = b ∧ SpAt w' s k lo hi ∧ Below w.heap.size w w'
set_option maxRecDepth 100000 in
set_option maxHeartbeats 2000000 in
theorem wideOf_small (neg neg2 : Bool) (a c : Option Addr) (n m cap cap2 k k2 b : Nat) (x y : Int) (w : World) (h1 : IntAt w neg a n cap k x) (h2 : IntAt w neg2 c m cap2 k2 y) (hk : k ≤ 700000000) (hb : b ≤ 1000) (hy : 0 < y) (hy3 : y < 281474976710656) :
    Calls Try.prog 66 #[.agg #[.bool neg, .slice a n cap], .agg #[.bool neg2, .slice c m cap2], .int .i64 b] w (SpanAns w b (k + 80) (x * Q b / y) (-(-(x * Q b) / y))) := by
  go_enter Try.func66, Try.ntmps66
  go_wp2_with (go_at_call 113; refine (up_int _ _ _ _ b k x _ (h1.below (bl3 _ _ _ _)) (by omega) (by omega)).mono ?_; rintro r w1 ⟨neg1, a1, n1, c1, rfl, hint1, hb1⟩; obtain ⟨hsz1, hcell1, hfz1⟩ := near (w.heap.size + 1 + 1 + 1) (by simp) hb1; have hz1 := Nat.lt_of_lt_of_le (Nat.lt_succ_self (w.heap.size + 1 + 1)) hsz1; have hz0 := Nat.lt_of_succ_lt hz1)
  have hint1 := hint1.mono (show b / 16 + k + 1 ≤ k + 70 by omega)
  have hBw : Below w.heap.size w w1 := bthen (bl3 _ _ _ _) hb1
  have k0 : w1.cell? ⟨w.heap.size + 1, 0, none⟩ = some (.bool neg2) := by simp [hcell1, go_sem]
  have k1 : w1.cell? ⟨w.heap.size + 1, 1, none⟩ = some (.slice c m cap2) := by simp [hcell1, go_sem]
  have r0 : w1.cell? ⟨w.heap.size + 1 + 1, 0, none⟩ = some (.bool false) := by simp [hcell1, go_sem]
  have r1 : w1.cell? ⟨w.heap.size + 1 + 1, 1, none⟩ = some (.slice none 0 0) := by simp [hcell1, go_sem]
  have r2 : w1.cell? ⟨w.heap.size + 1 + 1, 2, none⟩ = some (.bool false) := by simp [hcell1, go_sem]
  have r3 : w1.cell? ⟨w.heap.size + 1 + 1, 3, none⟩ = some (.slice none 0 0) := by simp [hcell1, go_sem]
  have r4 : w1.cell? ⟨w.heap.size + 1 + 1, 4, none⟩ = some (.int .i64 0) := by simp [hcell1, go_sem]
  have r5 : ∀ o, w1.frozen? ⟨w.heap.size + 1 + 1, o, none⟩ = false := by intro o; simp [hfz1, go_sem]
  have H2 := hide (h2.below hBw)
  clear hcell1 hfz1
  obtain ⟨W, hW⟩ : ∃ W, W = w1.alloc (.cells #[.bool neg1, .slice a1 n1 c1] 26) := ⟨_, rfl⟩
  have hBW : Below w1.heap.size w1 W := by rw [hW]; exact bl1 _ _
  have u0 : W.cell? ⟨w1.heap.size, 0, none⟩ = some (.bool neg1) := by rw [hW]; simp
  have u1 : W.cell? ⟨w1.heap.size, 1, none⟩ = some (.slice a1 n1 c1) := by rw [hW]; simp
  have hlW : w1.heap.size < W.heap.size := by rw [hW]; simp
  have HI := hide (hint1.below hBW)
  have HI2 := hide ((unhide H2).below hBW)
  have hl1 : w.heap.size + 1 < W.heap.size := Nat.lt_trans hz0 hlW
  have hl2 : w.heap.size + 1 + 1 < W.heap.size := Nat.lt_trans hz1 hlW
  have HK := hide (show ∀ w', Below W.heap.size W w' → (w'.cell? ⟨w1.heap.size, 0, none⟩ = some (.bool neg1) ∧ w'.cell? ⟨w1.heap.size, 1, none⟩ = some (.slice a1 n1 c1) ∧ w'.cell? ⟨w.heap.size + 1, 0, none⟩ = some (.bool neg2) ∧ w'.cell? ⟨w.heap.size + 1, 1, none⟩ = some (.slice c m cap2)) from fun w' hB =>
    ⟨(hB.cell (p := ⟨w1.heap.size, 0, none⟩) hlW).trans u0, (hB.cell (p := ⟨w1.heap.size, 1, none⟩) hlW).trans u1, (hB.cell (p := ⟨w.heap.size + 1, 0, none⟩) hl1).trans ((hBW.cell (p := ⟨w.heap.size + 1, 0, none⟩) hz0).trans k0), (hB.cell (p := ⟨w.heap.size + 1, 1, none⟩) hl1).trans ((hBW.cell (p := ⟨w.heap.size + 1, 1, none⟩) hz0).trans k1)⟩)
  have HR := hide (show ∀ w', Below W.heap.size W w' → (w'.cell? ⟨w.heap.size + 1 + 1, 0, none⟩ = some (.bool false) ∧ w'.cell? ⟨w.heap.size + 1 + 1, 1, none⟩ = some (.slice none 0 0) ∧ w'.cell? ⟨w.heap.size + 1 + 1, 2, none⟩ = some (.bool false) ∧ w'.cell? ⟨w.heap.size + 1 + 1, 3, none⟩ = some (.slice none 0 0) ∧ w'.cell? ⟨w.heap.size + 1 + 1, 4, none⟩ = some (.int .i64 0) ∧ ∀ o, w'.frozen? ⟨w.heap.size + 1 + 1, o, none⟩ = false) from fun w' hB =>
    ⟨(hB.cell (p := ⟨w.heap.size + 1 + 1, 0, none⟩) hl2).trans ((hBW.cell (p := ⟨w.heap.size + 1 + 1, 0, none⟩) hz1).trans r0), (hB.cell (p := ⟨w.heap.size + 1 + 1, 1, none⟩) hl2).trans ((hBW.cell (p := ⟨w.heap.size + 1 + 1, 1, none⟩) hz1).trans r1), (hB.cell (p := ⟨w.heap.size + 1 + 1, 2, none⟩) hl2).trans ((hBW.cell (p := ⟨w.heap.size + 1 + 1, 2, none⟩) hz1).trans r2), (hB.cell (p := ⟨w.heap.size + 1 + 1, 3, none⟩) hl2).trans ((hBW.cell (p := ⟨w.heap.size + 1 + 1, 3, none⟩) hz1).trans r3), (hB.cell (p := ⟨w.heap.size + 1 + 1, 4, none⟩) hl2).trans ((hBW.cell (p := ⟨w.heap.size + 1 + 1, 4, none⟩) hz1).trans r4), fun o => (hB.frozen (p := ⟨w.heap.size + 1 + 1, o, none⟩) hl2).trans ((hBW.frozen (p := ⟨w.heap.size + 1 + 1, o, none⟩) hz1).trans (r5 o))⟩)
  have hBW2 : Below w.heap.size w W := bthen hBw hBW
  have ne1 : w.heap.size + 1 + 1 ≠ w1.heap.size := by omega
  have ne2 : w1.heap.size ≠ w.heap.size + 1 + 1 := by omega
  rw [← hW]
  clear hW k0 k1 r0 r1 r2 r3 r4 r5 u0 u1 H2 hint1 hb1 hBw hBW
  go_region_held3 (fun w' => w'.cell? ⟨w1.heap.size, 0, none⟩ = some (.bool neg1) ∧ w'.cell? ⟨w1.heap.size, 1, none⟩ = some (.slice a1 n1 c1) ∧ w'.cell? ⟨w.heap.size + 1, 0, none⟩ = some (.bool neg2) ∧ w'.cell? ⟨w.heap.size + 1, 1, none⟩ = some (.slice c m cap2)) (first | exact unhide HK _ (by first | exact (Below.refl _ _).drew | exact hB2 | exact hB3) | go_keep)
    (first
      | (go_at_call 105; refine (floor_small _ _ _ _ _ _ _ _ (k + 70) k2 (x * Q b) y _ ((unhide HI).below (Below.refl _ _).drew) ((unhide HI2).below (Below.refl _ _).drew) (by omega) hy hy3).mono ?_; rintro r w2 ⟨neg4, a4, n4, c4, rfl, hint4, hb4⟩; have hB2 : Below W.heap.size W w2 := bthen (Below.refl _ _).drew hb4)
      | (go_at_call 114; refine (ceil_small _ _ _ _ _ _ _ _ (k + 70) k2 (x * Q b) y _ ((unhide HI).below hB2) ((unhide HI2).below hB2) (by omega) hy hy3).mono ?_; rintro r w3 ⟨neg5, a5, n5, c5, rfl, hint5, hb5⟩; have hB3 := bthen hB2 hb5; obtain ⟨q0, q1, q2, q3, q4, q5⟩ := unhide HR w3 hB3; obtain ⟨q6, q7, q8, q9⟩ := unhide HK w3 hB3))
  go_wp2
  refine bodyPost_ret (v := .agg #[.bool neg4, .slice a4 n4 c4, .bool neg5, .slice a5 n5 c5, .int .i64 b]) (by simp [results, Try.results66, go_sem, q0, q1, q2, q3, q4]) rfl ⟨⟨neg4, a4, n4, c4, neg5, a5, n5, c5, b⟩, rfl, rfl, ?_, ?_⟩
  · exact SpAt.put5 ⟨(hint4.below hb5).mono (by omega), hint5.mono (by omega)⟩ q0 q1 q2 q3 q4 _ _ _ _ _
  · exact set5 (hBW2.trans (hB3.mono hBW2.size)) (by omega) _ _ _ _ _
end Go.Proofs.Ytgmnknmjainabab
namespace Go.Proofs.Ytgmnknmjainabab
open Go.RowKit
attribute [local go_sem ↓] Go.wp_at_zero Go.wp_at_succ
def rok (p q : Int) : Prop := -1048576 ≤ p ∧ p ≤ 1048576 ∧ 1 ≤ q ∧ q ≤ 1024
instance (p q : Int) : Decidable (rok p q) := by unfold rok; infer_instance
theorem rok_no {p q : Int} (h : p < -1048576 ∨ 1048576 < p ∨ q < 1 ∨ 1024 < q) : decide (rok p q) = false := by
  rw [decide_eq_false_iff_not]; unfold rok; omega
set_option maxHeartbeats 400000 in
theorem ratioRight_any (p q : Int) (w : World) :
    Calls Try.prog 112 #[.agg #[.int .i64 p, .int .i64 q]] w fun r w' => r = .returned (.bool (decide (rok p q))) ∧ Below w.heap.size w w' := by
  by_cases h1 : -1048576 ≤ p
  · by_cases h2 : p ≤ 1048576
    · by_cases h3 : 1 ≤ q
      · go_enter Try.func112, Try.ntmps112
        go_wp2
        go_ret
        exact ⟨by simp [rok, h1, h2, h3], bl1 _ _⟩
      · go_enter Try.func112, Try.ntmps112
        go_wp2
        go_ret
        exact ⟨by rw [rok_no (p := p) (q := q) (by omega)]; rfl, bl1 _ _⟩
    · go_enter Try.func112, Try.ntmps112
      go_wp2
      go_ret
      exact ⟨by rw [rok_no (p := p) (q := q) (by omega)]; rfl, bl1 _ _⟩
  · go_enter Try.func112, Try.ntmps112
    go_wp2
    go_ret
    exact ⟨by rw [rok_no (p := p) (q := q) (by omega)]; rfl, bl1 _ _⟩
def ratE (p q bt : Int) : Int := if rok p q ∧ 8 ≤ bt ∧ bt ≤ 120 then 0 else 3
structure Rats (w : World) (b n : Nat) (p q : Nat → Int) : Prop where
  lt : b < w.heap.size
  c0 : ∀ j, j < n → w.cell? ⟨b, j * 2, none⟩ = some (.int .i64 (p j))
  c1 : ∀ j, j < n → w.cell? ⟨b, j * 2 + 1, none⟩ = some (.int .i64 (q j))
theorem Rats.below {w w' : World} {b n : Nat} {p q : Nat → Int} (h : Rats w b n p q) (hb : Below w.heap.size w w') : Rats w' b n p q :=
  ⟨Nat.lt_of_lt_of_le h.lt hb.size, fun j hj => (hb.cell (p := ⟨b, j * 2, none⟩) h.lt).trans (h.c0 j hj), fun j hj => (hb.cell (p := ⟨b, j * 2 + 1, none⟩) h.lt).trans (h.c1 j hj)⟩
def RFlt (bt : Int) (p q : Nat → Int) (n : Nat) (z : Int) : Prop :=
  (z = 0 ∧ (8 ≤ bt ∧ bt ≤ 120) ∧ ∀ j, j < n → rok (p j) (q j)) ∨ (z = 3 ∧ ¬ ((8 ≤ bt ∧ bt ≤ 120) ∧ ∀ j, j < n → rok (p j) (q j)))
set_option maxRecDepth 100000 in
set_option maxHeartbeats 2000000 in
theorem ratioFault_any (bt : Int) (b n cap : Nat) (p q : Nat → Int) (w : World) (h : Rats w b n p q) (hn : n ≤ 1000) :
    Calls Try.prog 65 #[.int .i64 bt, .slice (some ⟨b, 0, none⟩) n cap] w fun r w' => ∃ z, r = .returned (.int .i64 z) ∧ RFlt bt p q n z ∧ Below w.heap.size w w' := by
  by_cases b1 : bt < 8
  · go_enter Try.func65, Try.ntmps65
    go_wp2
    go_ret
    exact ⟨3, rfl, Or.inr ⟨rfl, fun ⟨h1, _⟩ => by omega⟩, Below.refl _ _⟩
  by_cases b2 : 120 < bt
  · go_enter Try.func65, Try.ntmps65
    go_wp2
    go_ret
    exact ⟨3, rfl, Or.inr ⟨rfl, fun ⟨h1, _⟩ => by omega⟩, Below.refl _ _⟩
  have hblt := h.lt
  have HH := hide h
  clear h
  go_enter Try.func65, Try.ntmps65
  go_wp2
  go_loopw [15] (fun ii wr => ∃ i : Nat, i ≤ n ∧ ii = .int .i64 i ∧ (∀ j, j < i → rok (p j) (q j)) ∧ Below w.heap.size w wr) (fun ii _ => n - (intOf ii).toNat)
  case atStart => exact ⟨0, by omega, rfl, fun j hj => by omega, Below.refl _ _⟩
  case round =>
    obtain ⟨i, hi, rfl, hz, hB⟩ := hrel
    by_cases hin : i < n
    · have H2 := (unhide HH).below hB
      have g0 := H2.c0 i hin
      have g1 := H2.c1 i hin
      have hi1 : (i : Int) < (n : Int) := by omega
      have HZ := hide hz
      clear hz H2
      by_cases hc : rok (p i) (q i)
      · have hc' : decide (rok (p i) (q i)) = true := by simpa using hc
        have HC := hide hc
        clear hc
        go_wp2_with (go_at_call 112; refine (ratioRight_any _ _ _).mono ?_; rintro r w1 ⟨rfl, hb1⟩; rw [hc'])
        go_roundw
        case rel => exact ⟨i + 1, by omega, by go_num, fun j hj => by
                            by_cases hji : j = i
                            · subst hji; exact unhide HC
                            · exact unhide HZ j (by omega), bthen (balloc hB _) hb1⟩
        case measure => simp [intOf]; omega
      · have hc' : decide (rok (p i) (q i)) = false := by simpa using hc
        have HC := hide hc
        clear hc
        go_wp2_with (go_at_call 112; refine (ratioRight_any _ _ _).mono ?_; rintro r w1 ⟨rfl, hb1⟩; rw [hc'])
        go_ret
        exact ⟨3, rfl, Or.inr ⟨rfl, fun ⟨_, h2⟩ => unhide HC (h2 i hin)⟩, bthen (balloc hB _) hb1⟩
    · have hiE : i = n := by omega
      subst hiE
      have HZ := hide hz
      clear hz hin hi
      go_wp2
      go_ret
      exact ⟨0, rfl, Or.inl ⟨rfl, ⟨by omega, by omega⟩, unhide HZ⟩, hB⟩
end Go.Proofs.Ytgmnknmjainabab
namespace Go.Proofs.Ytgmnknmjainabab
open Go.RowKit
attribute [local go_sem ↓] Go.wp_at_zero Go.wp_at_succ
def PairAns (w : World) (b : Int) (k : Nat) (lo hi er : Int) (r : Ending) (w' : World) : Prop :=
  ∃ s : Sp, r = .returned (.tuple #[.agg #[.bool s.ln, .slice s.la s.lN s.lc, .bool s.hn, .slice s.ha s.hN s.hc, .int .i64 s.bits], .int .i64 er]) ∧ s.bits = b ∧ SpAt w' s k lo hi ∧ Below w.heap.size w w'
theorem zeroInt (w : World) (k : Nat) : IntAt w false none 0 0 k 0 :=
  ⟨fun _ => 0, ⟨fun h => by omega, fun _ => ⟨by simp, by simp⟩, Nat.le_refl _, by omega⟩, Or.inl rfl, fun _ => rfl, by omega, by simp [sgn, V]⟩
theorem zeroSp (w : World) (k : Nat) : SpAt w ⟨false, none, 0, 0, false, none, 0, 0, 0⟩ k 0 0 := ⟨zeroInt w k, zeroInt w k⟩
theorem rats1 (w : World) (p q : Int) (T : TypeId) : Rats (w.alloc (.cells #[.int .i64 p, .int .i64 q] T)) w.heap.size 1 (fun _ => p) (fun _ => q) := by
  refine ⟨by simp, ?_, ?_⟩
  all_goals
    intro j hj
    match j, hj with
    | 0, _ => simp
theorem ratioFault1 (bt : Int) (w : World) (B : Nat) (hB : w.heap.size = B) (p q : Int) (T : TypeId) (cap : Nat) :
    Calls Try.prog 65 #[.int .i64 bt, .slice (some ⟨B, 0, none⟩) 1 cap] (w.alloc (.cells #[.int .i64 p, .int .i64 q] T)) fun r w' =>
      r = .returned (.int .i64 (ratE p q bt)) ∧ Below w.heap.size w w' := by
  subst hB
  exact (ratioFault_any bt w.heap.size 1 cap (fun _ => p) (fun _ => q) _ (rats1 w p q T) (by omega)).mono fun r w' ⟨z, h1, h2, h3⟩ => by
    refine ⟨?_, (bl1 _ _).trans (h3.mono (by simp))⟩
    rw [h1]; unfold ratE
    rcases h2 with ⟨rfl, h4, h5⟩ | ⟨rfl, h4⟩
    · rw [if_pos ⟨h5 0 (by omega), h4⟩]
    · rw [if_neg (fun ⟨h5, h6⟩ => h4 ⟨h6, fun _ _ => h5⟩)]
set_option maxRecDepth 100000 in
set_option maxHeartbeats 2000000 in
theorem spanOf_ok (p q : Int) (b : Nat) (w : World) (h1 : -1048576 ≤ p) (h2 : p ≤ 1048576) (h3 : 1 ≤ q) (h4 : q ≤ 1024) (h5 : 8 ≤ b) (h6 : b ≤ 120) :
    Calls Try.prog 31 #[.agg #[.int .i64 p, .int .i64 q], .int .i64 b] w (PairAns w b 100 (p * Q b / q) (-(-(p * Q b) / q)) 0) := by
  have d1 : ratE p q b = 0 := by unfold ratE; rw [if_pos]; exact ⟨⟨h1, h2, h3, h4⟩, by omega, by omega⟩
  go_enter Try.func31, Try.ntmps31
  go_wp2_with (go_at_call 65; refine (ratioFault1 _ _ _ (by simp) _ _ _ _).mono ?_; rintro r w1 ⟨rfl, hb1⟩; rw [d1]; obtain ⟨hsz1, hcell1, hfz1⟩ := near (w.heap.size + 1 + 1) (by simp) hb1)
  have k0 : w1.cell? ⟨w.heap.size, 0, none⟩ = some (.int .i64 p) := by simp [hcell1, go_sem]
  have k1 : w1.cell? ⟨w.heap.size, 1, none⟩ = some (.int .i64 q) := by simp [hcell1, go_sem]
  have r0 : w1.cell? ⟨w.heap.size + 1, 0, none⟩ = some (.bool false) := by simp [hcell1, go_sem]
  have r1 : w1.cell? ⟨w.heap.size + 1, 1, none⟩ = some (.slice none 0 0) := by simp [hcell1, go_sem]
  have r2 : w1.cell? ⟨w.heap.size + 1, 2, none⟩ = some (.bool false) := by simp [hcell1, go_sem]
  have r3 : w1.cell? ⟨w.heap.size + 1, 3, none⟩ = some (.slice none 0 0) := by simp [hcell1, go_sem]
  have r4 : w1.cell? ⟨w.heap.size + 1, 4, none⟩ = some (.int .i64 0) := by simp [hcell1, go_sem]
  have r5 : ∀ o, w1.frozen? ⟨w.heap.size + 1, o, none⟩ = false := by intro o; simp [hfz1, go_sem]
  have hBw : Below w.heap.size w w1 := bthen (bl2 _ _ _) hb1
  have hl0 : w.heap.size < w1.heap.size := by omega
  have hl1 : w.heap.size + 1 < w1.heap.size := by omega
  have HK := hide (show ∀ w', Below w1.heap.size w1 w' → (w'.cell? ⟨w.heap.size, 0, none⟩ = some (.int .i64 p) ∧ w'.cell? ⟨w.heap.size, 1, none⟩ = some (.int .i64 q)) from fun w' hB => ⟨(hB.cell (p := ⟨w.heap.size, 0, none⟩) hl0).trans k0, (hB.cell (p := ⟨w.heap.size, 1, none⟩) hl0).trans k1⟩)
  have HR := hide (show ∀ w', Below w1.heap.size w1 w' → (w'.cell? ⟨w.heap.size + 1, 0, none⟩ = some (.bool false) ∧ w'.cell? ⟨w.heap.size + 1, 1, none⟩ = some (.slice none 0 0) ∧ w'.cell? ⟨w.heap.size + 1, 2, none⟩ = some (.bool false) ∧ w'.cell? ⟨w.heap.size + 1, 3, none⟩ = some (.slice none 0 0) ∧ w'.cell? ⟨w.heap.size + 1, 4, none⟩ = some (.int .i64 0) ∧ ∀ o, w'.frozen? ⟨w.heap.size + 1, o, none⟩ = false) from fun w' hB =>
    ⟨(hB.cell (p := ⟨w.heap.size + 1, 0, none⟩) hl1).trans r0, (hB.cell (p := ⟨w.heap.size + 1, 1, none⟩) hl1).trans r1, (hB.cell (p := ⟨w.heap.size + 1, 2, none⟩) hl1).trans r2, (hB.cell (p := ⟨w.heap.size + 1, 3, none⟩) hl1).trans r3, (hB.cell (p := ⟨w.heap.size + 1, 4, none⟩) hl1).trans r4, fun o => (hB.frozen (p := ⟨w.heap.size + 1, o, none⟩) hl1).trans (r5 o)⟩)
  clear r0 r1 r2 r3 r4 r5 hcell1 hfz1 hb1
  go_region_held3 (fun w' => w'.cell? ⟨w.heap.size, 0, none⟩ = some (.int .i64 p) ∧ w'.cell? ⟨w.heap.size, 1, none⟩ = some (.int .i64 q)) (first | exact unhide HK _ (by first | exact (Below.refl _ _).drew | exact hB2 | exact hB3 | exact hB4) | go_keep)
    (first
      | (go_at_call 48; have hq := hb2; refine (numOf_int q _ (by omega) (by omega)).mono ?_; rintro r w3 ⟨neg3, a3, n3, c3, rfl, hint3, hb3⟩; have hB3 := bthen hB2 hb3)
      | (go_at_call 48; refine (numOf_int p _ (by omega) (by omega)).mono ?_; rintro r w2 ⟨neg2, a2, n2, c2, rfl, hint2, hb2⟩; have hB2 : Below w1.heap.size w1 w2 := bthen (Below.refl _ _).drew hb2)
      | (go_at_call 66; refine (wideOf_small _ _ _ _ _ _ _ _ 4 4 b p q _ (hint2.below hb3) hint3 (by omega) (by omega) (by omega) (by omega)).mono ?_; rintro r w4 ⟨s, rfl, hsb, hsp, hb4⟩; have HSB := hide hsb; clear hsb; have hB4 := bthen hB3 hb4; obtain ⟨q0, q1, q2, q3, q4, q5⟩ := unhide HR w4 hB4; obtain ⟨q6, q7⟩ := unhide HK w4 hB4))
  go_wp2
  refine bodyPost_ret (v := .tuple #[.agg #[.bool s.ln, .slice s.la s.lN s.lc, .bool s.hn, .slice s.ha s.hN s.hc, .int .i64 s.bits], .int .i64 0]) (by simp [results, Try.results31, go_sem, q0, q1, q2, q3, q4]) rfl ⟨s, rfl, unhide HSB, ?_, ?_⟩
  · exact SpAt.put5 ⟨hsp.lo.mono (by omega), hsp.hi.mono (by omega)⟩ q0 q1 q2 q3 q4 _ _ _ _ _
  · exact set5 (hBw.trans (hB4.mono hBw.size)) (Nat.le_succ _) _ _ _ _ _
end Go.Proofs.Ytgmnknmjainabab
namespace Go.Proofs.Ytgmnknmjainabab
open Go.RowKit
attribute [local go_sem ↓] Go.wp_at_zero Go.wp_at_succ
def FitAns (w : World) (s : Sp) (d e : Nat → Int) (r : Ending) (w' : World) : Prop :=
  ((chkE s d e = 0 ∧ r = .returned (.tuple #[.agg #[.bool s.ln, .slice s.la s.lN s.lc, .bool s.hn, .slice s.ha s.hN s.hc, .int .i64 s.bits], .int .i64 0])) ∨
   (chkE s d e ≠ 0 ∧ r = .returned (.tuple #[.agg #[.bool false, .slice none 0 0, .bool false, .slice none 0 0, .int .i64 0], .int .i64 (chkE s d e)]))) ∧ Below w.heap.size w w'
set_option maxRecDepth 100000 in
set_option maxHeartbeats 2000000 in
theorem fit_any (w : World) (s : Sp) (d e : Nat → Int) (h : SpDig w s d e) :
    Calls Try.prog 93 #[.agg #[.bool s.ln, .slice s.la s.lN s.lc, .bool s.hn, .slice s.ha s.hN s.hc, .int .i64 s.bits]] w (FitAns w s d e) := by
  by_cases h1 : chkE s d e = 0
  · have h1' : (chkE s d e != 0) = false := by simp [h1]
    have HE := hide h1
    clear h1
    go_enter Try.func93, Try.ntmps93
    go_wp2_with (go_at_call 144; refine (check_any s d e _ (h.below (bl2 _ _ _))).mono ?_; rintro r w1 ⟨rfl, hb1⟩; obtain ⟨hsz1, hcell1, hfz1⟩ := near (w.heap.size + 1 + 1) (by simp) hb1)
    refine bodyPost_ret (v := .tuple #[.agg #[.bool s.ln, .slice s.la s.lN s.lc, .bool s.hn, .slice s.ha s.hN s.hc, .int .i64 s.bits], .int .i64 0]) (by simp [results, Try.results93, go_sem, hcell1]) rfl ⟨Or.inl ⟨unhide HE, rfl⟩, ?_⟩
    exact set5 (bthen (bl2 _ _ _) hb1) (Nat.le_succ _) _ _ _ _ _
  · have h1' : (chkE s d e != 0) = true := by simp [h1]
    have HE := hide h1
    clear h1
    go_enter Try.func93, Try.ntmps93
    go_wp2_with (go_at_call 144; refine (check_any s d e _ (h.below (bl2 _ _ _))).mono ?_; rintro r w1 ⟨rfl, hb1⟩; obtain ⟨hsz1, hcell1, hfz1⟩ := near (w.heap.size + 1 + 1) (by simp) hb1)
    refine bodyPost_ret (v := .tuple #[.agg #[.bool false, .slice none 0 0, .bool false, .slice none 0 0, .int .i64 0], .int .i64 (chkE s d e)]) (by simp [results, Try.results93, go_sem, hcell1]) rfl ⟨Or.inr ⟨unhide HE, rfl⟩, ?_⟩
    exact set5 (bthen (bl2 _ _ _) hb1) (Nat.le_succ _) _ _ _ _ _
set_option maxRecDepth 100000 in
set_option maxHeartbeats 2000000 in
theorem wideAdd_int (w : World) (s t : Sp) (k : Nat) (lo hi lo' hi' : Int) (hs : SpAt w s k lo hi) (ht : SpAt w t k lo' hi') (hk : k ≤ 700000000) :
    Calls Try.prog 56 #[.agg #[.bool s.ln, .slice s.la s.lN s.lc, .bool s.hn, .slice s.ha s.hN s.hc, .int .i64 s.bits], .agg #[.bool t.ln, .slice t.la t.lN t.lc, .bool t.hn, .slice t.ha t.hN t.hc, .int .i64 t.bits]] w (SpanAns w s.bits (k + 1) (lo + lo') (hi + hi')) := by
  have ne1 : w.heap.size ≠ w.heap.size + 1 + 1 := by omega
  have ne2 : w.heap.size + 1 + 1 ≠ w.heap.size := by omega
  have le2 : w.heap.size ≤ w.heap.size + 1 + 1 := by omega
  go_enter Try.func56, Try.ntmps56
  go_wp2
  go_region_held3 (fun w' => w'.cell? ⟨w.heap.size, 0, none⟩ = some (.bool s.ln) ∧ w'.cell? ⟨w.heap.size, 1, none⟩ = some (.slice s.la s.lN s.lc) ∧ w'.cell? ⟨w.heap.size, 2, none⟩ = some (.bool s.hn) ∧ w'.cell? ⟨w.heap.size, 3, none⟩ = some (.slice s.ha s.hN s.hc) ∧ w'.cell? ⟨w.heap.size, 4, none⟩ = some (.int .i64 s.bits) ∧ w'.cell? ⟨w.heap.size + 1, 0, none⟩ = some (.bool t.ln) ∧ w'.cell? ⟨w.heap.size + 1, 1, none⟩ = some (.slice t.la t.lN t.lc) ∧ w'.cell? ⟨w.heap.size + 1, 2, none⟩ = some (.bool t.hn) ∧ w'.cell? ⟨w.heap.size + 1, 3, none⟩ = some (.slice t.ha t.hN t.hc)) (go_keep)
    (first
      | (go_at_call 86; have hq := hb1; refine (add_int _ _ _ _ _ _ _ _ k k hi hi' _ (hs.hi.below (bthen (bl3 _ _ _ _).drew hb1)) (ht.hi.below (bthen (bl3 _ _ _ _).drew hb1)) (by omega) (by omega)).mono ?_; rintro r w2 ⟨neg2, a2, n2, c2, rfl, hint2, hb2⟩; obtain ⟨hsz2, hcell2, hfz2⟩ := near (w.heap.size + 1 + 1 + 1) hsz1 hb2)
      | (go_at_call 86; refine (add_int _ _ _ _ _ _ _ _ k k lo lo' _ (hs.lo.below (bl3 _ _ _ _).drew) (ht.lo.below (bl3 _ _ _ _).drew) (by omega) (by omega)).mono ?_; rintro r w1 ⟨neg1, a1, n1, c1, rfl, hint1, hb1⟩; obtain ⟨hsz1, hcell1, hfz1⟩ := near (w.heap.size + 1 + 1 + 1) (by simp) hb1))
  go_wp2
  have q0 : w2.cell? ⟨w.heap.size + 1 + 1, 0, none⟩ = some (.bool false) := by simp [hcell2, hcell1, go_sem]
  have q1 : w2.cell? ⟨w.heap.size + 1 + 1, 1, none⟩ = some (.slice none 0 0) := by simp [hcell2, hcell1, go_sem]
  have q2 : w2.cell? ⟨w.heap.size + 1 + 1, 2, none⟩ = some (.bool false) := by simp [hcell2, hcell1, go_sem]
  have q3 : w2.cell? ⟨w.heap.size + 1 + 1, 3, none⟩ = some (.slice none 0 0) := by simp [hcell2, hcell1, go_sem]
  have q4 : w2.cell? ⟨w.heap.size + 1 + 1, 4, none⟩ = some (.int .i64 0) := by simp [hcell2, hcell1, go_sem]
  refine bodyPost_ret (v := .agg #[.bool neg1, .slice a1 n1 c1, .bool neg2, .slice a2 n2 c2, .int .i64 s.bits]) (by simp [results, Try.results56, go_sem, q0, q1, q2, q3, q4]) rfl ⟨⟨neg1, a1, n1, c1, neg2, a2, n2, c2, s.bits⟩, rfl, rfl, ?_, ?_⟩
  · exact SpAt.put5 ⟨(hint1.below hb2).mono (by omega), hint2.mono (by omega)⟩ q0 q1 q2 q3 q4 _ _ _ _ _
  · exact set5 (bthen (bthen (bl3 _ _ _ _).drew hb1) hb2) le2 _ _ _ _ _
theorem lenZ_le (n : Nat) (d : Nat → Int) : lenZ n d ≤ 16 * n := by
  unfold lenZ
  have := blenF_bd 16 (d (n - 1))
  split <;> omega
theorem chk_small {w : World} {s : Sp} {k : Nat} {lo hi : Int} (h : SpAt w s k lo hi) (hk : k ≤ 250) (hle : lo ≤ hi) (h1 : 1 ≤ s.bits) (h2 : s.bits ≤ 120) : ∃ d e, SpDig w s d e ∧ chkE s d e = 0 := by
  obtain ⟨⟨d, p1, p2, p3, p4, p5⟩, ⟨e, r1, r2, r3, r4, r5⟩⟩ := h
  refine ⟨d, e, ⟨p1, r1⟩, ?_⟩
  have l1 := lenZ_le s.lN d
  have l2 := lenZ_le s.hN e
  have g1 : rightB s.ln s.lN d ≠ false := by
    unfold rightB
    by_cases h0 : s.lN = 0
    · simp [h0, p3 h0]
    · rw [if_neg h0]; simpa using (show d (s.lN - 1) ≠ 0 by omega)
  have g2 : rightB s.hn s.hN e ≠ false := by
    unfold rightB
    by_cases h0 : s.hN = 0
    · simp [h0, r3 h0]
    · rw [if_neg h0]; simpa using (show e (s.hN - 1) ≠ 0 by omega)
  have g3 : ¬ 0 < cmpI s.ln s.hn d e s.lN s.hN := by
    rw [sgn_nonneg_lt p1.dgs r1.dgs s.ln s.hn s.lN s.hN p2 r2 p3 r3, ← p5, ← r5]
    exact cmpInt_le0 (by omega)
  unfold chkE
  rw [if_neg (by omega), if_neg (fun q => q.elim g1 g2), if_neg (by omega), if_neg g3]
set_option maxRecDepth 100000 in
set_option maxHeartbeats 2000000 in
theorem made_ok_Add (p1 p2 : Value) (B : Nat) (W : World) (f : Nat → Sp) (d e : Nat → Nat → Int) (n cap : Nat) (hn : n ≤ 1000) (hS : Spans W B n f d e) (h0 : ∀ z, Flt (fun j => chkE (f j) (d j) (e j)) (fun j => (f j).bits) n z → z = 0)
    (b : Int) (k : Nat) (lo hi : Int) (hF : ∀ w', Below W.heap.size W w' → Calls Try.prog 55 #[p1, p2] w' (PairAns w' b k lo hi 0)) (hk : k ≤ 250) (hle : lo ≤ hi) (hb1 : 1 ≤ b) (hb2 : b ≤ 120) :
    Calls Try.prog 54 #[.func (.func 55) #[] #[p1, p2], .slice (some ⟨B, 0, none⟩) n cap] W (PairAns W b k lo hi 0) := by
  have HF := hide hF
  have HZ := hide h0
  have HS := hide hS
  clear hF h0 hS
  go_enter Try.func54, Try.ntmps54
  go_wp2_with fail
  refine (fault_any _ _ _ f d e _ ((unhide HS).below (bl1 _ _)) hn).mono ?_
  rintro r w1 ⟨z, rfl, hz, hb1'⟩
  have hz0 := unhide HZ z hz
  subst hz0
  obtain ⟨hsz1, hcell1, hfz1⟩ := near (W.heap.size + 1) (by simp) hb1'
  have hB1 : Below W.heap.size W w1 := bthen (bl1 _ _) hb1'
  clear hz
  go_wp2_with fail
  refine (unhide HF _ hB1).mono ?_
  rintro r w2 ⟨s, rfl, hsb, hsp, hb3⟩
  have hB2 := bthen hB1 hb3
  obtain ⟨hsz2, hcell2, hfz2⟩ := near (W.heap.size + 1) hsz1 hb3
  have hz0 := Nat.lt_of_lt_of_le (Nat.lt_succ_self W.heap.size) hsz2
  obtain ⟨dd, ee, hdig, hchk⟩ := chk_small hsp hk hle (by omega) (by omega)
  have q0 : w2.cell? ⟨W.heap.size, 0, none⟩ = some (.bool false) := by simp [hcell2, hcell1]
  have q1 : w2.cell? ⟨W.heap.size, 1, none⟩ = some (.slice none 0 0) := by simp [hcell2, hcell1]
  have q2 : w2.cell? ⟨W.heap.size, 2, none⟩ = some (.bool false) := by simp [hcell2, hcell1]
  have q3 : w2.cell? ⟨W.heap.size, 3, none⟩ = some (.slice none 0 0) := by simp [hcell2, hcell1]
  have q4 : w2.cell? ⟨W.heap.size, 4, none⟩ = some (.int .i64 0) := by simp [hcell2, hcell1]
  have q5 : ∀ o, w2.frozen? ⟨W.heap.size, o, none⟩ = false := by intro o; simp [hfz2, hfz1, go_sem]
  have HB := hide hsb
  have HC := hide hchk
  clear hsb hcell2 hcell1 hfz2 hfz1 hb1' hchk
  go_wp2_with fail
  refine (fit_any _ s dd ee (hdig.below (bl1 _ _))).mono ?_
  rintro r w3 ⟨hr, hb4⟩
  have hr' : r = .returned (.tuple #[.agg #[.bool s.ln, .slice s.la s.lN s.lc, .bool s.hn, .slice s.ha s.hN s.hc, .int .i64 s.bits], .int .i64 0]) := by
    rcases hr with ⟨_, h⟩ | ⟨h, _⟩
    · exact h
    · exact absurd (unhide HC) h
  subst hr'
  clear hr
  have hB3 : Below w2.heap.size w2 w3 := bthen (bl1 _ _) hb4
  have t0 := (hB3.cell (p := ⟨W.heap.size, 0, none⟩) hz0).trans q0
  have t1 := (hB3.cell (p := ⟨W.heap.size, 1, none⟩) hz0).trans q1
  have t2 := (hB3.cell (p := ⟨W.heap.size, 2, none⟩) hz0).trans q2
  have t3 := (hB3.cell (p := ⟨W.heap.size, 3, none⟩) hz0).trans q3
  have t4 := (hB3.cell (p := ⟨W.heap.size, 4, none⟩) hz0).trans q4
  have t5 : ∀ o, w3.frozen? ⟨W.heap.size, o, none⟩ = false := fun o => (hB3.frozen (p := ⟨W.heap.size, o, none⟩) hz0).trans (q5 o)
  go_wp2_with fail
  refine bodyPost_ret (v := .tuple #[.agg #[.bool s.ln, .slice s.la s.lN s.lc, .bool s.hn, .slice s.ha s.hN s.hc, .int .i64 s.bits], .int .i64 0]) (by simp [results, Try.results54, go_sem, t0, t1, t2, t3, t4]) rfl ⟨s, rfl, unhide HB, ?_, ?_⟩
  · exact SpAt.put5 (hsp.below hB3) t0 t1 t2 t3 t4 _ _ _ _ _
  · exact set5 (bthen hB2 hB3) (Nat.le_refl _) _ _ _ _ _
set_option maxRecDepth 100000 in
set_option maxHeartbeats 2000000 in
theorem add1_int (w : World) (B0 B1 : Nat) (s t : Sp) (k : Nat) (lo hi lo' hi' : Int) (hs : SpAt w s k lo hi) (ht : SpAt w t k lo' hi') (hk : k ≤ 700000000)
    (a0 : w.cell? ⟨B0, 0, none⟩ = some (.bool s.ln)) (a1 : w.cell? ⟨B0, 1, none⟩ = some (.slice s.la s.lN s.lc)) (a2 : w.cell? ⟨B0, 2, none⟩ = some (.bool s.hn)) (a3 : w.cell? ⟨B0, 3, none⟩ = some (.slice s.ha s.hN s.hc)) (a4 : w.cell? ⟨B0, 4, none⟩ = some (.int .i64 s.bits))
    (b0 : w.cell? ⟨B1, 0, none⟩ = some (.bool t.ln)) (b1 : w.cell? ⟨B1, 1, none⟩ = some (.slice t.la t.lN t.lc)) (b2 : w.cell? ⟨B1, 2, none⟩ = some (.bool t.hn)) (b3 : w.cell? ⟨B1, 3, none⟩ = some (.slice t.ha t.hN t.hc)) (b4 : w.cell? ⟨B1, 4, none⟩ = some (.int .i64 t.bits)) :
    Calls Try.prog 55 #[.pointer (some ⟨B0, 0, none⟩), .pointer (some ⟨B1, 0, none⟩)] w (PairAns w s.bits (k + 1) (lo + lo') (hi + hi') 0) := by
  have l0 : B0 < w.heap.size := World.block_lt_of_cell? w ⟨B0, 0, none⟩ a0
  have l1 : B1 < w.heap.size := World.block_lt_of_cell? w ⟨B1, 0, none⟩ b0
  go_enter Try.func55, Try.ntmps55
  go_wp2_with fail
  refine (wideAdd_int _ s t k lo hi lo' hi' (hs.below (bl1 _ _)) (ht.below (bl1 _ _)) hk).mono ?_
  rintro r w1 ⟨u, rfl, hub, hup, hb1⟩
  obtain ⟨hsz1, hcell1, hfz1⟩ := near (w.heap.size + 1) (by simp) hb1
  have q0 : w1.cell? ⟨w.heap.size, 0, none⟩ = some (.bool false) := by simp [hcell1]
  have q1 : w1.cell? ⟨w.heap.size, 1, none⟩ = some (.slice none 0 0) := by simp [hcell1]
  have q2 : w1.cell? ⟨w.heap.size, 2, none⟩ = some (.bool false) := by simp [hcell1]
  have q3 : w1.cell? ⟨w.heap.size, 3, none⟩ = some (.slice none 0 0) := by simp [hcell1]
  have q4 : w1.cell? ⟨w.heap.size, 4, none⟩ = some (.int .i64 0) := by simp [hcell1]
  have q5 : ∀ o, w1.frozen? ⟨w.heap.size, o, none⟩ = false := by intro o; simp [hfz1, go_sem]
  have HB := hide hub
  clear hub
  go_wp2_with fail
  refine bodyPost_ret (v := .tuple #[.agg #[.bool u.ln, .slice u.la u.lN u.lc, .bool u.hn, .slice u.ha u.hN u.hc, .int .i64 u.bits], .int .i64 0]) (by simp [results, Try.results55, go_sem, q0, q1, q2, q3, q4]) rfl ⟨u, rfl, unhide HB, ?_, ?_⟩
  · exact SpAt.put5 hup q0 q1 q2 q3 q4 _ _ _ _ _
  · exact set5 (bthen (bl1 _ _) hb1) (Nat.le_refl _) _ _ _ _ _
end Go.Proofs.Ytgmnknmjainabab
