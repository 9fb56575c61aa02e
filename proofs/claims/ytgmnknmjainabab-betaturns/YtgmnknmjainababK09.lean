/-
  Texts Muls, Hull, SpanM, AddsA, AddsC, Refs2, Refs3, Refs4, Refs5: what they hold is told in the last text.
-/
import Derived.Test.YtgmnknmjainababK08
set_option linter.unnecessarySimpa false
set_option linter.unusedSimpArgs false
set_option linter.unusedVariables false
namespace Go.Proofs.Ytgmnknmjainabab
open Go.RowKit
attribute [local go_sem ↓] Go.wp_at_zero Go.wp_at_succ
set_option maxRecDepth 100000 in
set_option maxHeartbeats 2000000 in
theorem ceilDown_z (neg : Bool) (a : Option Addr) (n cap k1 : Nat) (k x : Int) (w : World) (h1 : IntAt w neg a n cap k1 x) (hk1 : k1 ≤ 900000000) (hk0 : -1000000000 ≤ k) (hk : k ≤ 1000000000) :
    Calls Try.prog 117 #[.agg #[.bool neg, .slice a n cap], .int .i64 k] w fun r w' =>
      ∃ neg' a' n' cap', r = .returned (.agg #[.bool neg', .slice a' n' cap']) ∧ IntAt w' neg' a' n' cap' ((-k).toNat / 16 + k1 + 5) (-(downZ (-x) k)) ∧ Below w.heap.size w w' := by
  go_enter Try.func117, Try.ntmps117
  go_wp2_with (first
    | (go_at_call 83; have hq := hb2; refine (neg_int _ _ _ _ ((-k).toNat / 16 + k1 + 5) _ _ hint2 (by omega)).mono ?_; rintro r w3 ⟨neg3, a3, n3, c3, rfl, hint3, hb3⟩; obtain ⟨hsz3, hcell3, hfz3⟩ := near (w.heap.size + 1 + 1) hsz2 hb3)
    | (go_at_call 83; refine (neg_int _ _ _ _ k1 x _ (h1.below (bl2 _ _ _)) (by omega)).mono ?_; rintro r w1 ⟨neg1, a1, n1, c1, rfl, hint1, hb1⟩; obtain ⟨hsz1, hcell1, hfz1⟩ := near (w.heap.size + 1 + 1) (by simp) hb1)
    | (go_at_call 94; refine (down_z _ _ _ _ k1 k (-x) _ hint1 (by omega) hk0 hk).mono ?_; rintro r w2 ⟨neg2, a2, n2, c2, rfl, hint2, hb2⟩; obtain ⟨hsz2, hcell2, hfz2⟩ := near (w.heap.size + 1 + 1) hsz1 hb2))
  have h0 : w3.cell? ⟨w.heap.size + 1, 0, none⟩ = some (.bool false) := by simp [hcell3, hcell2, hcell1, go_sem]
  have h1' : w3.cell? ⟨w.heap.size + 1, 1, none⟩ = some (.slice none 0 0) := by simp [hcell3, hcell2, hcell1, go_sem]
  refine bodyPost_ret (v := .agg #[.bool neg3, .slice a3 n3 c3]) (by simp [results, Try.results117, go_sem, h0, h1']) rfl ⟨neg3, a3, n3, c3, rfl, hint3.put2 h0 h1' _ _, ?_⟩
  exact ((bthen (bthen (bthen (bl2 _ _ _) hb1) hb2) hb3).setCell (p := ⟨w.heap.size + 1, 0, none⟩) (Nat.le_succ _) _).setCell (p := ⟨w.heap.size + 1, 1, none⟩) (Nat.le_succ _) _
set_option maxRecDepth 100000 in
set_option maxHeartbeats 2000000 in
theorem corners_mul (w : World) (s t : Sp) (k : Nat) (lo hi lo' hi' : Int) (hs : SpAt w s k lo hi) (ht : SpAt w t k lo' hi') (hk : k ≤ 300000000) :
    Calls Try.prog 115 #[.agg #[.bool s.ln, .slice s.la s.lN s.lc, .bool s.hn, .slice s.ha s.hN s.hc, .int .i64 s.bits], .agg #[.bool t.ln, .slice t.la t.lN t.lc, .bool t.hn, .slice t.ha t.hN t.hc, .int .i64 t.bits], .func (.func 84) #[] #[]] w fun r w' =>
      ∃ B f, r = .returned (.slice (some ⟨B, 0, none⟩) 4 4) ∧ Nums w' B 4 (k + k) f (pr4 (lo * lo') (lo * hi') (hi * lo') (hi * hi')) ∧ Below w.heap.size w w' := by
  obtain ⟨W, hW⟩ : ∃ W, W = (w.alloc (.cells #[.bool s.ln, .slice s.la s.lN s.lc, .bool s.hn, .slice s.ha s.hN s.hc, .int .i64 s.bits] 28)).alloc (.cells #[.bool t.ln, .slice t.la t.lN t.lc, .bool t.hn, .slice t.ha t.hN t.hc, .int .i64 t.bits] 28) := ⟨_, rfl⟩
  have hBW : Below w.heap.size w W := by rw [hW]; exact bl2 _ _ _
  have a0 : SpC W w.heap.size s := by rw [hW]; exact ⟨by simp [go_sem], by simp [go_sem], by simp [go_sem], by simp [go_sem], by simp [go_sem]⟩
  have g0 : SpC W (w.heap.size + 1) t := by rw [hW]; exact ⟨by simp [go_sem], by simp [go_sem], by simp [go_sem], by simp [go_sem], by simp [go_sem]⟩
  have HS := hide (hs.below hBW)
  have HT := hide (ht.below hBW)
  have hB0 : Below W.heap.size W W.drew := (Below.refl _ _).drew
  have HK := hide (show ∀ w', Below W.heap.size W w' → (w'.cell? ⟨w.heap.size, 0, none⟩ = some (.bool s.ln) ∧ w'.cell? ⟨w.heap.size, 1, none⟩ = some (.slice s.la s.lN s.lc) ∧ w'.cell? ⟨w.heap.size, 2, none⟩ = some (.bool s.hn) ∧ w'.cell? ⟨w.heap.size, 3, none⟩ = some (.slice s.ha s.hN s.hc) ∧ w'.cell? ⟨w.heap.size + 1, 0, none⟩ = some (.bool t.ln) ∧ w'.cell? ⟨w.heap.size + 1, 1, none⟩ = some (.slice t.la t.lN t.lc) ∧ w'.cell? ⟨w.heap.size + 1, 2, none⟩ = some (.bool t.hn) ∧ w'.cell? ⟨w.heap.size + 1, 3, none⟩ = some (.slice t.ha t.hN t.hc)) from fun w' hB => by
    obtain ⟨x0, x1, x2, x3, x4⟩ := a0.below hB
    obtain ⟨y0, y1, y2, y3, y4⟩ := g0.below hB
    exact ⟨x0, x1, x2, x3, y0, y1, y2, y3⟩)
  go_enter Try.func115, Try.ntmps115
  go_wp2
  obtain ⟨x0, x1, x2, x3, x4⟩ := a0
  obtain ⟨y0, y1, y2, y3, y4⟩ := g0
  rw [← hW]
  clear hW
  go_region_held3 (fun w' => w'.cell? ⟨w.heap.size, 0, none⟩ = some (.bool s.ln) ∧ w'.cell? ⟨w.heap.size, 1, none⟩ = some (.slice s.la s.lN s.lc) ∧ w'.cell? ⟨w.heap.size, 2, none⟩ = some (.bool s.hn) ∧ w'.cell? ⟨w.heap.size, 3, none⟩ = some (.slice s.ha s.hN s.hc) ∧ w'.cell? ⟨w.heap.size + 1, 0, none⟩ = some (.bool t.ln) ∧ w'.cell? ⟨w.heap.size + 1, 1, none⟩ = some (.slice t.la t.lN t.lc) ∧ w'.cell? ⟨w.heap.size + 1, 2, none⟩ = some (.bool t.hn) ∧ w'.cell? ⟨w.heap.size + 1, 3, none⟩ = some (.slice t.ha t.hN t.hc)) (exact unhide HK _ (by first | exact hB0 | exact balloc hB4 _ | exact hB4 | exact hB3 | exact hB2 | exact hB1))
    (first
      | (go_at_call 84; have hq := hB3; refine (mul_int _ _ _ _ _ _ _ _ k k hi hi' _ ((unhide HS).hi.below hB3) ((unhide HT).hi.below hB3) (by omega) (by omega)).mono ?_; rintro r w4 ⟨neg4, a4, n4, c4, rfl, hint4, hb4⟩; have hint1 := hint1.below hb4; have hint2 := hint2.below hb4; have hint3 := hint3.below hb4; have hB4 := bthen hB3 hb4)
      | (go_at_call 84; have hq := hB2; refine (mul_int _ _ _ _ _ _ _ _ k k hi lo' _ ((unhide HS).hi.below hB2) ((unhide HT).lo.below hB2) (by omega) (by omega)).mono ?_; rintro r w3 ⟨neg3, a3, n3, c3, rfl, hint3, hb3⟩; have hint1 := hint1.below hb3; have hint2 := hint2.below hb3; have hB3 := bthen hB2 hb3)
      | (go_at_call 84; have hq := hB1; refine (mul_int _ _ _ _ _ _ _ _ k k lo hi' _ ((unhide HS).lo.below hB1) ((unhide HT).hi.below hB1) (by omega) (by omega)).mono ?_; rintro r w2 ⟨neg2, a2, n2, c2, rfl, hint2, hb2⟩; have hint1 := hint1.below hb2; have hB2 := bthen hB1 hb2)
      | (go_at_call 84; have hq := hB0; refine (mul_int _ _ _ _ _ _ _ _ k k lo lo' _ ((unhide HS).lo.below hB0) ((unhide HT).lo.below hB0) (by omega) (by omega)).mono ?_; rintro r w1 ⟨neg1, a1, n1, c1, rfl, hint1, hb1⟩; have hB1 := bthen hB0 hb1))
  go_wp2
  go_ret
  exact ⟨w4.heap.size, pr4 ⟨neg1, a1, n1, c1⟩ ⟨neg2, a2, n2, c2⟩ ⟨neg3, a3, n3, c3⟩ ⟨neg4, a4, n4, c4⟩, rfl, nums4 w4 _ rfl ⟨neg1, a1, n1, c1⟩ ⟨neg2, a2, n2, c2⟩ ⟨neg3, a3, n3, c3⟩ ⟨neg4, a4, n4, c4⟩ _ _ _ _ _ _ hint1 hint2 hint3 hint4, bthen hBW (balloc hB4 _)⟩
set_option maxRecDepth 100000 in
set_option maxHeartbeats 2000000 in
theorem wideMul_int (w : World) (s t : Sp) (k : Nat) (lo hi lo' hi' : Int) (hs : SpAt w s k lo hi) (ht : SpAt w t k lo' hi') (hk : k ≤ 300000000) (hb0 : 0 ≤ s.bits) (hbm : s.bits ≤ 1000000) :
    Calls Try.prog 68 #[.agg #[.bool s.ln, .slice s.la s.lN s.lc, .bool s.hn, .slice s.ha s.hN s.hc, .int .i64 s.bits], .agg #[.bool t.ln, .slice t.la t.lN t.lc, .bool t.hn, .slice t.ha t.hN t.hc, .int .i64 t.bits]] w (SpanAns w s.bits (k + k + 8) (downZ (leastZ (pr4 (lo * lo') (lo * hi') (hi * lo') (hi * hi')) 3) s.bits) (-(downZ (-(mostZ (pr4 (lo * lo') (lo * hi') (hi * lo') (hi * hi')) 3)) s.bits))) := by
  have hbz : (-s.bits).toNat = 0 := by omega
  have ne1 : w.heap.size ≠ w.heap.size + 1 + 1 := by omega
  have ne2 : w.heap.size + 1 + 1 ≠ w.heap.size := by omega
  obtain ⟨W, hW⟩ : ∃ W, W = ((w.alloc (.cells #[.bool s.ln, .slice s.la s.lN s.lc, .bool s.hn, .slice s.ha s.hN s.hc, .int .i64 s.bits] 28)).alloc (.cells #[.bool t.ln, .slice t.la t.lN t.lc, .bool t.hn, .slice t.ha t.hN t.hc, .int .i64 t.bits] 28)).alloc (.cells #[.bool false, .slice none 0 0, .bool false, .slice none 0 0, .int .i64 0] 28) := ⟨_, rfl⟩
  have hBW : Below w.heap.size w W := by rw [hW]; exact bl3 _ _ _ _
  have a0 : SpC W w.heap.size s := by rw [hW]; exact ⟨by simp [go_sem], by simp [go_sem], by simp [go_sem], by simp [go_sem], by simp [go_sem]⟩
  have g0 : SpC W (w.heap.size + 1) t := by rw [hW]; exact ⟨by simp [go_sem], by simp [go_sem], by simp [go_sem], by simp [go_sem], by simp [go_sem]⟩
  have r0 : NoC W (w.heap.size + 1 + 1) := by rw [hW]; exact ⟨by simp [go_sem], by simp [go_sem], by simp [go_sem], by simp [go_sem], by simp [go_sem], fun o => by simp [go_sem]⟩
  have HS := hide (hs.below hBW)
  have HT := hide (ht.below hBW)
  have hB0 : Below W.heap.size W W.drew := (Below.refl _ _).drew
  have HK := hide (show ∀ w', Below W.heap.size W w' → (w'.cell? ⟨w.heap.size, 0, none⟩ = some (.bool s.ln) ∧ w'.cell? ⟨w.heap.size, 1, none⟩ = some (.slice s.la s.lN s.lc) ∧ w'.cell? ⟨w.heap.size, 2, none⟩ = some (.bool s.hn) ∧ w'.cell? ⟨w.heap.size, 3, none⟩ = some (.slice s.ha s.hN s.hc) ∧ w'.cell? ⟨w.heap.size + 1, 0, none⟩ = some (.bool t.ln) ∧ w'.cell? ⟨w.heap.size + 1, 1, none⟩ = some (.slice t.la t.lN t.lc) ∧ w'.cell? ⟨w.heap.size + 1, 2, none⟩ = some (.bool t.hn) ∧ w'.cell? ⟨w.heap.size + 1, 3, none⟩ = some (.slice t.ha t.hN t.hc)) from fun w' hB => by
    obtain ⟨x0, x1, x2, x3, x4⟩ := a0.below hB
    obtain ⟨y0, y1, y2, y3, y4⟩ := g0.below hB
    exact ⟨x0, x1, x2, x3, y0, y1, y2, y3⟩)
  go_enter Try.func68, Try.ntmps68
  go_wp2_with fail
  rw [← hW]
  clear hW
  refine (corners_mul _ s t k lo hi lo' hi' (unhide HS) (unhide HT) hk).mono ?_
  rintro r w1 ⟨B, f, rfl, hN, hb1⟩
  have hN1 := r0.below hb1
  have hl1 := hN1.lt
  obtain ⟨x0, x1, x2, x3, x4⟩ := a0.below hb1
  have a1 : SpC w1 w.heap.size s := ⟨x0, x1, x2, x3, x4⟩
  have HK1 := hide (show ∀ w', Below w1.heap.size w1 w' → w'.cell? ⟨w.heap.size, 4, none⟩ = some (.int .i64 s.bits) from fun w' hB => (a1.below hB).c4)
  have hD0 : Below w1.heap.size w1 w1.drew := (Below.refl _ _).drew
  clear x0 x1 x2 x3
  go_wp2_with fail
  go_region_held3 (fun w' => w'.cell? ⟨w.heap.size, 4, none⟩ = some (.int .i64 s.bits)) (first | exact unhide HK1 _ (by first | exact hD0 | exact hD5 | exact hD4 | exact hD3 | exact hD2) | go_keep)
    (first
      | (go_at_call 116; refine (leastw_int _ 3 _ (k + k) f _ _ (hN.below hD0) (by omega) (by omega)).mono ?_; rintro r w2 ⟨neg2, a2, n2, c2, rfl, hint2, hb2⟩; have hD2 := bthen hD0 hb2)
      | (go_at_call 94; refine (down_z _ _ _ _ (k + k + 1) s.bits _ _ hint2 (by omega) (by omega) (by omega)).mono ?_; rintro r w3 ⟨neg3, a3, n3, c3, rfl, hint3, hb3⟩; have hD3 := bthen hD2 hb3)
      | (go_at_call 118; refine (most_int _ 3 _ (k + k) f _ _ (hN.below hD3) (by omega) (by omega)).mono ?_; rintro r w4 ⟨neg4, a4, n4, c4, rfl, hint4, hb4⟩; have hint3 := hint3.below hb4; have hD4 := bthen hD3 hb4)
      | (go_at_call 117; refine (ceilDown_z _ _ _ _ (k + k + 1) s.bits _ _ hint4 (by omega) (by omega) (by omega)).mono ?_; rintro r w5 ⟨neg5, a5, n5, c5, rfl, hint5, hb5⟩; have hint3 := hint3.below hb5; have hD5 := bthen hD4 hb5; obtain ⟨q0, q1, q2, q3, q4, q5⟩ := hN1.below hD5; have x5 := unhide HK1 _ hD5))
  go_wp2
  refine bodyPost_ret (v := .agg #[.bool neg3, .slice a3 n3 c3, .bool neg5, .slice a5 n5 c5, .int .i64 s.bits]) (by simp [results, Try.results68, go_sem, q0, q1, q2, q3, q4]) rfl ⟨⟨neg3, a3, n3, c3, neg5, a5, n5, c5, s.bits⟩, rfl, rfl, ?_, ?_⟩
  · exact SpAt.put5 ⟨hint3.mono (by omega), hint5.mono (by omega)⟩ q0 q1 q2 q3 q4 _ _ _ _ _
  · exact set5 (bthen (bthen hBW hb1) hD5) (by omega) _ _ _ _ _
end Go.Proofs.Ytgmnknmjainabab
namespace Go.Proofs.Ytgmnknmjainabab
open Go.RowKit
attribute [local go_sem ↓] Go.wp_at_zero Go.wp_at_succ
theorem cell_put5 {w : World} {B B' o : Nat} {v : Option Value} (h : w.cell? ⟨B, o, none⟩ = v) (hne : B ≠ B') (u0 u1 u2 u3 u4 : Value) :
    (((((w.setCell ⟨B', 0, none⟩ u0).setCell ⟨B', 1, none⟩ u1).setCell ⟨B', 2, none⟩ u2).setCell ⟨B', 3, none⟩ u3).setCell ⟨B', 4, none⟩ u4).cell? ⟨B, o, none⟩ = v := by
  have ne : ∀ i : Nat, (⟨B', i, none⟩ : Addr) ≠ ⟨B, o, none⟩ := fun i e => hne (by injection e with e1; exact e1.symm)
  rw [World.cell?_setCell_other _ _ _ _ (ne 4), World.cell?_setCell_other _ _ _ _ (ne 3), World.cell?_setCell_other _ _ _ _ (ne 2), World.cell?_setCell_other _ _ _ _ (ne 1), World.cell?_setCell_other _ _ _ _ (ne 0)]
  exact h
theorem SpC.put {w : World} {B B' : Nat} {s : Sp} (h : SpC w B s) (hne : B ≠ B') (u0 u1 u2 u3 u4 : Value) :
    SpC (((((w.setCell ⟨B', 0, none⟩ u0).setCell ⟨B', 1, none⟩ u1).setCell ⟨B', 2, none⟩ u2).setCell ⟨B', 3, none⟩ u3).setCell ⟨B', 4, none⟩ u4) B s :=
  ⟨cell_put5 h.c0 hne _ _ _ _ _, cell_put5 h.c1 hne _ _ _ _ _, cell_put5 h.c2 hne _ _ _ _ _, cell_put5 h.c3 hne _ _ _ _ _, cell_put5 h.c4 hne _ _ _ _ _⟩
end Go.Proofs.Ytgmnknmjainabab
namespace Go.Proofs.Ytgmnknmjainabab
open Go.RowKit
attribute [local go_sem ↓] Go.wp_at_zero Go.wp_at_succ
set_option maxRecDepth 100000 in
set_option maxHeartbeats 2000000 in
theorem spanAdd_ok (w : World) (s t : Sp) (d e d' e' : Nat → Int) (k : Nat) (lo hi lo' hi' : Int) (hs : SpDig w s d e) (ht : SpDig w t d' e') (c1 : chkE s d e = 0) (c2 : chkE t d' e' = 0) (hbt : s.bits = t.bits) (ps : SpAt w s k lo hi) (pt : SpAt w t k lo' hi')
    (hk : k ≤ 249) (l1 : lo ≤ hi) (l2 : lo' ≤ hi') (b1 : 1 ≤ s.bits) (b2 : s.bits ≤ 120) :
    Calls Try.prog 20 #[.agg #[.bool s.ln, .slice s.la s.lN s.lc, .bool s.hn, .slice s.ha s.hN s.hc, .int .i64 s.bits], .agg #[.bool t.ln, .slice t.la t.lN t.lc, .bool t.hn, .slice t.ha t.hN t.hc, .int .i64 t.bits]] w (PairAns w s.bits (k + 1) (lo + lo') (hi + hi') 0) := by
  have HM := hide (fun p1 p2 B W cap hS hF => made_ok_Add p1 p2 B W (pr s t) (pr d d') (pr e e') 2 cap (by omega) hS (fun z hz => by
    have e1 : (fun j => chkE (pr s t j) (pr d d' j) (pr e e' j)) = (fun j => pr (chkE s d e) (chkE t d' e') j) := by
      funext j; unfold pr; split <;> rfl
    have e2 : (fun j => (pr s t j).bits) = (fun j => pr s.bits t.bits j) := by
      funext j; unfold pr; split <;> rfl
    rw [e1, e2] at hz
    rw [flt2 hz]; simp [fltE2, c1, c2, hbt]) s.bits (k + 1) (lo + lo') (hi + hi') hF (by omega) (by omega) b1 b2)
  have HS := hide (fun W hS hT => spans2 W s t d e d' e' 28 hS hT)
  clear c1 c2 hbt b1 b2 l1 l2
  go_enter Try.func20, Try.ntmps20
  go_wp2_with fail
  obtain ⟨W, hW⟩ : ∃ W, W = ((w.alloc (.cells #[.bool s.ln, .slice s.la s.lN s.lc, .bool s.hn, .slice s.ha s.hN s.hc, .int .i64 s.bits] 28)).alloc (.cells #[.bool t.ln, .slice t.la t.lN t.lc, .bool t.hn, .slice t.ha t.hN t.hc, .int .i64 t.bits] 28)).alloc (.cells #[.bool false, .slice none 0 0, .bool false, .slice none 0 0, .int .i64 0] 28) := ⟨_, rfl⟩
  have s3 : W.heap.size = w.heap.size + 1 + 1 + 1 := by rw [hW]; simp
  have hBW : Below w.heap.size w W := by rw [hW]; exact bl3 _ _ _ _
  have a0 : W.cell? ⟨w.heap.size, 0, none⟩ = some (.bool s.ln) := by rw [hW]; simp [go_sem]
  have a1 : W.cell? ⟨w.heap.size, 1, none⟩ = some (.slice s.la s.lN s.lc) := by rw [hW]; simp [go_sem]
  have a2 : W.cell? ⟨w.heap.size, 2, none⟩ = some (.bool s.hn) := by rw [hW]; simp [go_sem]
  have a3 : W.cell? ⟨w.heap.size, 3, none⟩ = some (.slice s.ha s.hN s.hc) := by rw [hW]; simp [go_sem]
  have a4 : W.cell? ⟨w.heap.size, 4, none⟩ = some (.int .i64 s.bits) := by rw [hW]; simp [go_sem]
  have g0 : W.cell? ⟨w.heap.size + 1, 0, none⟩ = some (.bool t.ln) := by rw [hW]; simp [go_sem]
  have g1 : W.cell? ⟨w.heap.size + 1, 1, none⟩ = some (.slice t.la t.lN t.lc) := by rw [hW]; simp [go_sem]
  have g2 : W.cell? ⟨w.heap.size + 1, 2, none⟩ = some (.bool t.hn) := by rw [hW]; simp [go_sem]
  have g3 : W.cell? ⟨w.heap.size + 1, 3, none⟩ = some (.slice t.ha t.hN t.hc) := by rw [hW]; simp [go_sem]
  have g4 : W.cell? ⟨w.heap.size + 1, 4, none⟩ = some (.int .i64 t.bits) := by rw [hW]; simp [go_sem]
  have r0 : W.cell? ⟨w.heap.size + 1 + 1, 0, none⟩ = some (.bool false) := by rw [hW]; simp [go_sem]
  have r1 : W.cell? ⟨w.heap.size + 1 + 1, 1, none⟩ = some (.slice none 0 0) := by rw [hW]; simp [go_sem]
  have r2 : W.cell? ⟨w.heap.size + 1 + 1, 2, none⟩ = some (.bool false) := by rw [hW]; simp [go_sem]
  have r3 : W.cell? ⟨w.heap.size + 1 + 1, 3, none⟩ = some (.slice none 0 0) := by rw [hW]; simp [go_sem]
  have r4 : W.cell? ⟨w.heap.size + 1 + 1, 4, none⟩ = some (.int .i64 0) := by rw [hW]; simp [go_sem]
  have r5 : ∀ o, W.frozen? ⟨w.heap.size + 1 + 1, o, none⟩ = false := by intro o; rw [hW]; simp [go_sem]
  rw [← hW, ← s3]
  clear hW
  have n0 : w.heap.size < W.heap.size := by omega
  have n1 : w.heap.size + 1 < W.heap.size := by omega
  have n2 : w.heap.size + 1 + 1 < W.heap.size := by omega
  refine (unhide HM _ _ _ _ _ (unhide HS W (hs.below hBW) (ht.below hBW)) (fun w' hB => add1_int w' _ _ s t k lo hi lo' hi' ((ps.below hBW).below (bthen (bl1 _ _) hB)) ((pt.below hBW).below (bthen (bl1 _ _) hB)) (by omega)
    (((bthen (bl1 _ _) hB).cell (p := ⟨w.heap.size, 0, none⟩) n0).trans a0) (((bthen (bl1 _ _) hB).cell (p := ⟨w.heap.size, 1, none⟩) n0).trans a1) (((bthen (bl1 _ _) hB).cell (p := ⟨w.heap.size, 2, none⟩) n0).trans a2) (((bthen (bl1 _ _) hB).cell (p := ⟨w.heap.size, 3, none⟩) n0).trans a3) (((bthen (bl1 _ _) hB).cell (p := ⟨w.heap.size, 4, none⟩) n0).trans a4)
    (((bthen (bl1 _ _) hB).cell (p := ⟨w.heap.size + 1, 0, none⟩) n1).trans g0) (((bthen (bl1 _ _) hB).cell (p := ⟨w.heap.size + 1, 1, none⟩) n1).trans g1) (((bthen (bl1 _ _) hB).cell (p := ⟨w.heap.size + 1, 2, none⟩) n1).trans g2) (((bthen (bl1 _ _) hB).cell (p := ⟨w.heap.size + 1, 3, none⟩) n1).trans g3) (((bthen (bl1 _ _) hB).cell (p := ⟨w.heap.size + 1, 4, none⟩) n1).trans g4))).mono ?_
  rintro r w1 ⟨u, rfl, hub, hup, hb1⟩
  have hB1 : Below W.heap.size W w1 := bthen (bl1 _ _) hb1
  have q0 := (hB1.cell (p := ⟨w.heap.size + 1 + 1, 0, none⟩) n2).trans r0
  have q1 := (hB1.cell (p := ⟨w.heap.size + 1 + 1, 1, none⟩) n2).trans r1
  have q2 := (hB1.cell (p := ⟨w.heap.size + 1 + 1, 2, none⟩) n2).trans r2
  have q3 := (hB1.cell (p := ⟨w.heap.size + 1 + 1, 3, none⟩) n2).trans r3
  have q4 := (hB1.cell (p := ⟨w.heap.size + 1 + 1, 4, none⟩) n2).trans r4
  have q5 : ∀ o, w1.frozen? ⟨w.heap.size + 1 + 1, o, none⟩ = false := fun o => (hB1.frozen (p := ⟨w.heap.size + 1 + 1, o, none⟩) n2).trans (r5 o)
  have HB := hide hub
  clear hub
  go_wp2_with fail
  refine bodyPost_ret (v := .tuple #[.agg #[.bool u.ln, .slice u.la u.lN u.lc, .bool u.hn, .slice u.ha u.hN u.hc, .int .i64 u.bits], .int .i64 0]) (by simp [results, Try.results20, go_sem, q0, q1, q2, q3, q4]) rfl ⟨u, rfl, unhide HB, ?_, ?_⟩
  · exact SpAt.put5 hup q0 q1 q2 q3 q4 _ _ _ _ _
  · exact set5 (bthen hBW hB1) (by omega) _ _ _ _ _
set_option maxRecDepth 100000 in
set_option maxHeartbeats 4000000 in
theorem spanBegun_any (w : World) : Calls Try.prog 19 #[] w fun r w' => r = .returned (.bool true) ∧ Below w.heap.size w w' := by
  have e1 : (1 : Int) * Q 8 / 3 = 85 := by decide
  have e2 : -(-((1 : Int) * Q 8) / 3) = 86 := by decide
  have HO := hide (fun W => spanOf_ok 1 3 8 W (by omega) (by omega) (by omega) (by omega) (by omega) (by omega))
  rw [e1, e2] at HO
  clear e1 e2
  go_enter Try.func19, Try.ntmps19
  go_wp2_with fail
  refine (unhide HO _).mono ?_
  rintro r w1 ⟨s, rfl, hsb, hsp, hb1⟩
  obtain ⟨dd, ee, hdig, hchk⟩ := chk_small hsp (by omega) (by omega) (by omega) (by omega)
  have HB := hide hsb
  have HC := hide hchk
  have hs1 : 1 ≤ s.bits := by omega
  have hs2 : s.bits ≤ 120 := by omega
  clear hsb hchk
  go_wp2_with fail
  refine (spanAdd_ok _ s s dd ee dd ee 100 85 86 85 86 (hdig.below (bl1 _ _)) (hdig.below (bl1 _ _)) (unhide HC) (unhide HC) rfl (hsp.below (bl1 _ _)) (hsp.below (bl1 _ _)) (by omega) (by omega) (by omega) hs1 hs2).mono ?_
  rintro r w2 ⟨t, rfl, htb, htp, hb2⟩
  have hB2 : Below w.heap.size w w2 := bthen (balloc hb1 _) hb2
  have hB12 : Below w1.heap.size w1 w2 := bthen (bl1 _ _) hb2
  have HB2 := hide htb
  clear htb
  obtain ⟨hsz2, hcell2, hfz2⟩ := near (w1.heap.size + 1) (by simp) hb2
  have z1 := Nat.lt_of_lt_of_le (Nat.lt_succ_self w1.heap.size) hsz2
  have a0 : w2.cell? ⟨w1.heap.size, 0, none⟩ = some (.bool s.ln) := by simp [hcell2]
  have a1 : w2.cell? ⟨w1.heap.size, 1, none⟩ = some (.slice s.la s.lN s.lc) := by simp [hcell2]
  have a2 : w2.cell? ⟨w1.heap.size, 2, none⟩ = some (.bool s.hn) := by simp [hcell2]
  have a3 : w2.cell? ⟨w1.heap.size, 3, none⟩ = some (.slice s.ha s.hN s.hc) := by simp [hcell2]
  go_wp2_with fail
  obtain ⟨W, hW⟩ : ∃ W, W = w2.alloc (.cells #[.bool t.ln, .slice t.la t.lN t.lc, .bool t.hn, .slice t.ha t.hN t.hc, .int .i64 t.bits] 28) := ⟨_, rfl⟩
  have hBW : Below w2.heap.size w2 W := by rw [hW]; exact bl1 _ _
  have g0 : W.cell? ⟨w2.heap.size, 0, none⟩ = some (.bool t.ln) := by rw [hW]; simp
  have g1 : W.cell? ⟨w2.heap.size, 1, none⟩ = some (.slice t.la t.lN t.lc) := by rw [hW]; simp
  have hl2 : w2.heap.size < W.heap.size := by rw [hW]; simp
  have hl1 : w1.heap.size < W.heap.size := Nat.lt_trans z1 hl2
  have HS := hide ((hsp.below hB12).below hBW)
  have HT := hide (htp.below hBW)
  have HK := hide (show ∀ w', Below W.heap.size W w' → (w'.cell? ⟨w1.heap.size, 0, none⟩ = some (.bool s.ln) ∧ w'.cell? ⟨w1.heap.size, 1, none⟩ = some (.slice s.la s.lN s.lc) ∧ w'.cell? ⟨w1.heap.size, 2, none⟩ = some (.bool s.hn) ∧ w'.cell? ⟨w1.heap.size, 3, none⟩ = some (.slice s.ha s.hN s.hc) ∧ w'.cell? ⟨w2.heap.size, 0, none⟩ = some (.bool t.ln) ∧ w'.cell? ⟨w2.heap.size, 1, none⟩ = some (.slice t.la t.lN t.lc)) from fun w' hB =>
    ⟨(hB.cell (p := ⟨w1.heap.size, 0, none⟩) hl1).trans ((hBW.cell (p := ⟨w1.heap.size, 0, none⟩) z1).trans a0), (hB.cell (p := ⟨w1.heap.size, 1, none⟩) hl1).trans ((hBW.cell (p := ⟨w1.heap.size, 1, none⟩) z1).trans a1), (hB.cell (p := ⟨w1.heap.size, 2, none⟩) hl1).trans ((hBW.cell (p := ⟨w1.heap.size, 2, none⟩) z1).trans a2), (hB.cell (p := ⟨w1.heap.size, 3, none⟩) hl1).trans ((hBW.cell (p := ⟨w1.heap.size, 3, none⟩) z1).trans a3), (hB.cell (p := ⟨w2.heap.size, 0, none⟩) hl2).trans g0, (hB.cell (p := ⟨w2.heap.size, 1, none⟩) hl2).trans g1⟩)
  have hBw : Below w.heap.size w W := bthen hB2 hBW
  have f1 : cmpInt 85 85 = 0 := rfl
  have f2 : cmpInt 86 86 = 0 := rfl
  have f3 : cmpInt (85 + 85) 170 = 0 := rfl
  have F1 := hide f1
  have F2 := hide f2
  have F3 := hide f3
  obtain ⟨k0, k1, k2, k3, k4, k5⟩ := unhide HK W (Below.refl _ _)
  rw [← hW]
  clear hW a0 a1 a2 a3 g0 g1 hcell2 hfz2 hb2 hb1 hdig hsp htp hBW hB2 hB12 HO f1 f2 f3
  go_region_held3 (fun w' => w'.cell? ⟨w1.heap.size, 0, none⟩ = some (.bool s.ln) ∧ w'.cell? ⟨w1.heap.size, 1, none⟩ = some (.slice s.la s.lN s.lc) ∧ w'.cell? ⟨w1.heap.size, 2, none⟩ = some (.bool s.hn) ∧ w'.cell? ⟨w1.heap.size, 3, none⟩ = some (.slice s.ha s.hN s.hc) ∧ w'.cell? ⟨w2.heap.size, 0, none⟩ = some (.bool t.ln) ∧ w'.cell? ⟨w2.heap.size, 1, none⟩ = some (.slice t.la t.lN t.lc)) (exact unhide HK _ (by first | exact (Below.refl _ _).drew | exact hB8 | exact hB7 | exact hB6 | exact hB5 | exact hB4 | exact hB3))
    (first
      | (go_at_call 48; have hq := hB6; refine (numOf_int 170 _ (by decide) (by decide)).mono ?_; rintro r w7 ⟨neg7, a7, n7, c7, rfl, hint7, hb7⟩; have hB7 := bthen hB6 hb7)
      | (go_at_call 48; have hq := hB4; refine (numOf_int 86 _ (by decide) (by decide)).mono ?_; rintro r w5 ⟨neg5, a5, n5, c5, rfl, hint5, hb5⟩; have hB5 := bthen hB4 hb5)
      | (go_at_call 48; refine (numOf_int 85 _ (by decide) (by decide)).mono ?_; rintro r w3 ⟨neg3, a3, n3, c3, rfl, hint3, hb3⟩; have hB3 : Below W.heap.size W w3 := bthen (Below.refl _ _).drew hb3)
      | (go_at_call 24; have hq := hB7; refine (cmp_int _ _ _ _ _ _ _ _ 101 4 (85 + 85) 170 _ ((unhide HT).lo.below hB7) hint7).mono ?_; rintro r w8 ⟨rfl, hb8⟩; have hB8 := bthen hB7 hb8; rw [unhide F3])
      | (go_at_call 24; have hq := hB5; refine (cmp_int _ _ _ _ _ _ _ _ 100 4 86 86 _ ((unhide HS).hi.below hB5) hint5).mono ?_; rintro r w6 ⟨rfl, hb6⟩; have hB6 := bthen hB5 hb6; rw [unhide F2])
      | (go_at_call 24; refine (cmp_int _ _ _ _ _ _ _ _ 100 4 85 85 _ ((unhide HS).lo.below hB3) hint3).mono ?_; rintro r w4 ⟨rfl, hb4⟩; have hB4 := bthen hB3 hb4; rw [unhide F1]))
  go_wp2
  go_ret
  exact ⟨rfl, bthen hBw hB8⟩
end Go.Proofs.Ytgmnknmjainabab
namespace Go.Proofs.Ytgmnknmjainabab
open Go.RowKit
attribute [local go_sem ↓] Go.wp_at_zero Go.wp_at_succ
def SaidP (F : Nat) (s t : Sp) (d e d' e' : Nat → Int) (b : Int) (k : Nat) (lo hi er : Int) : Prop :=
  ∀ W, SpDig W s d e → SpDig W t d' e' → Calls Try.prog F #[.agg #[.bool s.ln, .slice s.la s.lN s.lc, .bool s.hn, .slice s.ha s.hN s.hc, .int .i64 s.bits], .agg #[.bool t.ln, .slice t.la t.lN t.lc, .bool t.hn, .slice t.ha t.hN t.hc, .int .i64 t.bits]] W (PairAns W b k lo hi er)
end Go.Proofs.Ytgmnknmjainabab
namespace Go.Proofs.Ytgmnknmjainabab
open Go.RowKit
attribute [local go_sem ↓] Go.wp_at_zero Go.wp_at_succ
theorem flt0 {x y b1 b2 : Int} (h : fltE2 x y b1 b2 = 0) : x = 0 ∧ y = 0 ∧ b1 = b2 := by
  unfold fltE2 at h
  by_cases hx : x = 0
  · by_cases hy : y = 0
    · by_cases hb : b1 = b2
      · exact ⟨hx, hy, hb⟩
      · simp [hx, hy, hb] at h
    · simp [hx, hy] at h
  · simp [hx] at h
theorem add1_int2 (w : World) (B0 B1 : Nat) (s t : Sp) (k : Nat) (lo hi lo' hi' : Int) (hs : SpAt w s k lo hi) (ht : SpAt w t k lo' hi') (hk : k ≤ 300000000) (a : SpC w B0 s) (g : SpC w B1 t) :
    Calls Try.prog 55 #[.pointer (some ⟨B0, 0, none⟩), .pointer (some ⟨B1, 0, none⟩)] w (PairAns w s.bits (k + 1) (lo + lo') (hi + hi') 0) :=
  add1_int w B0 B1 s t k lo hi lo' hi' hs ht (by omega) a.c0 a.c1 a.c2 a.c3 a.c4 g.c0 g.c1 g.c2 g.c3 g.c4
theorem saidAdd (s t : Sp) (d e d' e' : Nat → Int) (hE : fltE2 (chkE s d e) (chkE t d' e') s.bits t.bits = 0) (lo hi lo' hi' : Int) (hlo : lo = loZ s d) (hhi : hi = hiZ s e) (hlo' : lo' = loZ t d') (hhi' : hi' = hiZ t e') :
    SaidP 20 s t d e d' e' (fitZ (lo + lo') (hi + hi') s.bits) 600 (fitZ (lo + lo') (hi + hi') (lo + lo')) (fitZ (lo + lo') (hi + hi') (hi + hi')) (fitE (lo + lo') (hi + hi')) := by
  intro W hs ht
  obtain ⟨c1, c2, hbt⟩ := flt0 hE
  obtain ⟨p1, p2, p3, p4⟩ := chk_ok hs c1
  obtain ⟨r1, r2, r3, r4⟩ := chk_ok ht c2
  subst hlo hhi hlo' hhi'
  replace p1 : SpAt W s 250 (loZ s d) (hiZ s e) := p1
  replace r1 : SpAt W t 250 (loZ t d') (hiZ t e') := r1
  have hl : loZ s d ≤ hiZ s e := p4
  have hl' : loZ t d' ≤ hiZ t e' := r4
  refine span2_Add W s t d e d' e' hs ht _ _ _ _ _ fun W1 B0 B1 B cap hB hA hG hS => ?_
  exact made_fit_Add _ _ B W1 _ _ _ 2 cap (by omega) hS (fun z hz => by rw [flt_pr hz, hE]) s.bits 600 _ _
    (fun w' hb => (add1_int2 w' B0 B1 s t 250 _ _ _ _ ((p1.below hB).below hb) ((r1.below hB).below hb) (by omega) (hA.below hb) (hG.below hb)).mono fun r w2 h => h.mono (by omega)) (by omega) p2 p3
end Go.Proofs.Ytgmnknmjainabab
namespace Go.Proofs.Ytgmnknmjainabab
open Go.RowKit
attribute [local go_sem ↓] Go.wp_at_zero Go.wp_at_succ
structure NmC (w : World) (B : Nat) (x : Nm) : Prop where
  c0 : w.cell? ⟨B, 0, none⟩ = some (.bool x.neg)
  c1 : w.cell? ⟨B, 1, none⟩ = some (.slice x.a x.n x.cap)
theorem NmC.lt {w : World} {B : Nat} {x : Nm} (h : NmC w B x) : B < w.heap.size := World.block_lt_of_cell? w ⟨B, 0, none⟩ h.c0
theorem NmC.below {w w' : World} {B : Nat} {x : Nm} (h : NmC w B x) (hb : Below w.heap.size w w') : NmC w' B x :=
  ⟨(hb.cell (p := ⟨B, 0, none⟩) h.lt).trans h.c0, (hb.cell (p := ⟨B, 1, none⟩) h.lt).trans h.c1⟩
theorem nmc_new (w : World) (x : Nm) (T : TypeId) : NmC (w.alloc (.cells #[.bool x.neg, .slice x.a x.n x.cap] T)) w.heap.size x := ⟨by simp, by simp⟩
structure NoI (w : World) (B : Nat) : Prop where
  c0 : w.cell? ⟨B, 0, none⟩ = some (.bool false)
  c1 : w.cell? ⟨B, 1, none⟩ = some (.slice none 0 0)
  fz : ∀ o, w.frozen? ⟨B, o, none⟩ = false
theorem NoI.lt {w : World} {B : Nat} (h : NoI w B) : B < w.heap.size := World.block_lt_of_cell? w ⟨B, 0, none⟩ h.c0
theorem NoI.below {w w' : World} {B : Nat} (h : NoI w B) (hb : Below w.heap.size w w') : NoI w' B :=
  ⟨(hb.cell (p := ⟨B, 0, none⟩) h.lt).trans h.c0, (hb.cell (p := ⟨B, 1, none⟩) h.lt).trans h.c1, fun o => (hb.frozen (p := ⟨B, o, none⟩) h.lt).trans (h.fz o)⟩
theorem set2 {B B' : Nat} {a w : World} (h : Below B a w) (hB : B ≤ B') (u0 u1 : Value) : Below B a ((w.setCell ⟨B', 0, none⟩ u0).setCell ⟨B', 1, none⟩ u1) :=
  (h.setCell (p := ⟨B', 0, none⟩) hB u0).setCell (p := ⟨B', 1, none⟩) hB u1
def IntAns (w : World) (k : Nat) (z : Int) (r : Ending) (w' : World) : Prop :=
  ∃ neg' a' n' cap', r = .returned (.agg #[.bool neg', .slice a' n' cap']) ∧ IntAt w' neg' a' n' cap' k z ∧ Below w.heap.size w w'
theorem IntAns.mono {w : World} {k k' : Nat} {z : Int} {r : Ending} {w' : World} (h : IntAns w k z r w') (hk : k ≤ k') : IntAns w k' z r w' := by
  obtain ⟨n1, n2, n3, n4, h1, h2, h3⟩ := h
  exact ⟨n1, n2, n3, n4, h1, h2.mono hk, h3⟩
set_option maxRecDepth 100000 in
set_option maxHeartbeats 2000000 in
theorem refDown_core (neg neg2 : Bool) (a c : Option Addr) (n m cap cap2 k k2 : Nat) (x y : Int) (w : World) (h1 : IntAt w neg a n cap k x) (h2 : IntAt w neg2 c m cap2 k2 y) (hk : k ≤ 700000000) (hk2 : k2 ≤ 100000000) (hfl : ∀ w', IntAt w' neg a n cap k x → IntAt w' neg2 c m cap2 k2 y → Calls Try.prog 105 #[.agg #[.bool neg, .slice a n cap], .agg #[.bool neg2, .slice c m cap2]] w' (FloorAns w' k (x / y))) :
    Calls Try.prog 89 #[.agg #[.bool neg, .slice a n cap], .agg #[.bool neg2, .slice c m cap2]] w (IntAns w (k + 8) (x / y)) := by
  have HF := hide hfl
  clear hfl
  have le2 : w.heap.size ≤ w.heap.size + 1 + 1 := by omega
  go_enter Try.func89, Try.ntmps89
  go_wp2_with fail
  refine (unhide HF _ (h1.below (bl3 _ _ _ _)) (h2.below (bl3 _ _ _ _))).mono ?_
  rintro r w1 ⟨neg1, a1, n1, c1, rfl, hint1, hb1⟩
  obtain ⟨hsz1, hcell1, hfz1⟩ := near (w.heap.size + 1 + 1 + 1) (by simp) hb1
  go_wp2_with fail
  have q0 : w1.cell? ⟨w.heap.size + 1 + 1, 0, none⟩ = some (.bool false) := by simp [hcell1, go_sem]
  have q1 : w1.cell? ⟨w.heap.size + 1 + 1, 1, none⟩ = some (.slice none 0 0) := by simp [hcell1, go_sem]
  refine bodyPost_ret (v := .agg #[.bool neg1, .slice a1 n1 c1]) (by simp [results, Try.results89, go_sem, q0, q1]) rfl ⟨neg1, a1, n1, c1, rfl, hint1.put2 q0 q1 _ _, ?_⟩
  exact set2 (bthen (bl3 _ _ _ _) hb1) le2 _ _
theorem ceil_up {x y : Int} (hy : 0 < y) (h : x / y * y < x) : x / y + 1 = -(-x / y) := by
  have h1 := Int.mul_ediv_add_emod x y
  have h2 := Int.mul_ediv_add_emod (-x) y
  have h3 := Int.emod_lt_of_pos x hy
  have h4 := Int.emod_nonneg (-x) (show y ≠ 0 by omega)
  have h5 := Int.emod_lt_of_pos (-x) hy
  rw [Int.mul_comm y] at h1 h2
  generalize x / y = p at *
  generalize -x / y = q at *
  generalize x % y = r at *
  generalize -x % y = t at *
  have h6 : (p + q) * y = p * y + q * y := Int.add_mul _ _ _
  have h7 : p + q < 0 := by
    rcases Int.lt_or_le (p + q) 0 with h | h
    · exact h
    · have := Int.mul_nonneg h (show 0 ≤ y by omega); omega
  have h8 : -2 < p + q := by
    rcases Int.lt_or_le (-2) (p + q) with h | h
    · exact h
    · have := Int.mul_le_mul_of_nonneg_right h (show 0 ≤ y by omega); omega
  omega
theorem ceil_same {x y : Int} (hy : 0 < y) (h : ¬ x / y * y < x) : x / y = -(-x / y) := by
  have h1 := Int.mul_ediv_add_emod x y
  have h3 := Int.emod_nonneg x (show y ≠ 0 by omega)
  rw [Int.mul_comm y] at h1
  have h4 : x = x / y * y := by omega
  have h5 : -x = -(x / y) * y := by rw [Int.neg_mul]; omega
  rw [h5, Int.mul_ediv_cancel _ (show y ≠ 0 by omega)]; omega
set_option maxRecDepth 100000 in
set_option maxHeartbeats 4000000 in
theorem refUp_core (neg neg2 : Bool) (a c : Option Addr) (n m cap cap2 k k2 : Nat) (x y : Int) (w : World) (h1 : IntAt w neg a n cap k x) (h2 : IntAt w neg2 c m cap2 k2 y) (hk : k ≤ 700000000) (hk2 : k2 ≤ 100000000) (hy : 0 < y) (hfl : ∀ w', IntAt w' neg a n cap k x → IntAt w' neg2 c m cap2 k2 y → Calls Try.prog 105 #[.agg #[.bool neg, .slice a n cap], .agg #[.bool neg2, .slice c m cap2]] w' (FloorAns w' k (x / y))) :
    Calls Try.prog 90 #[.agg #[.bool neg, .slice a n cap], .agg #[.bool neg2, .slice c m cap2]] w (IntAns w (k + 9) (-(-x / y))) := by
  have HF := hide hfl
  clear hfl
  by_cases hlt : x / y * y < x
  · have t1 : cmpInt (x / y * y) x < 0 := by simp [cmpInt, hlt]
    have HE := hide (ceil_up hy hlt)
    clear hlt
    go_enter Try.func90, Try.ntmps90
    go_wp2_with fail
    refine (unhide HF _ (h1.below (bl3 _ _ _ _)) (h2.below (bl3 _ _ _ _))).mono ?_
    rintro r w1 ⟨neg1, a1, n1, c1, rfl, hint1, hb1⟩
    have hBw : Below w.heap.size w w1 := bthen (bl3 _ _ _ _) hb1
    obtain ⟨hsz1, hcell1, hfz1⟩ := near (w.heap.size + 1 + 1 + 1) (by simp) hb1
    have A : NmC w1 w.heap.size ⟨neg, a, n, cap⟩ := ⟨by simp [hcell1, go_sem], by simp [hcell1, go_sem]⟩
    have G : NmC w1 (w.heap.size + 1) ⟨neg2, c, m, cap2⟩ := ⟨by simp [hcell1, go_sem], by simp [hcell1, go_sem]⟩
    have R : NoI w1 (w.heap.size + 1 + 1) := ⟨by simp [hcell1, go_sem], by simp [hcell1, go_sem], fun o => by simp [hfz1, go_sem]⟩
    have hnr := R.lt
    clear hcell1 hfz1 hb1 hsz1
    obtain ⟨W1, hW1⟩ : ∃ W', W' = w1.alloc (.cells #[.bool neg1, .slice a1 n1 c1] 26) := ⟨_, rfl⟩
    have hc1 : Below w1.heap.size w1 W1 := by rw [hW1]; exact bl1 _ _
    have X : NmC W1 w1.heap.size ⟨neg1, a1, n1, c1⟩ := by rw [hW1]; exact nmc_new w1 ⟨neg1, a1, n1, c1⟩ _
    replace A := A.below hc1
    replace G := G.below hc1
    replace R := R.below hc1
    have hB2 := bthen hBw hc1
    have HX := hide (h1.below hB2)
    have HY := hide (h2.below hB2)
    replace hint1 := hide (hint1.below hc1)
    have lR := R.lt
    have lX := X.lt
    have nR : w1.heap.size ≠ w.heap.size + 1 + 1 := Nat.ne_of_gt hnr
    have nR' : w.heap.size + 1 + 1 ≠ w1.heap.size := fun e => nR e.symm
    have hB0 : Below W1.heap.size W1 W1.drew := (Below.refl _ _).drew
    have HK := hide (show ∀ w', Below W1.heap.size W1 w' → (w'.cell? ⟨w.heap.size, 0, none⟩ = some (.bool neg) ∧ w'.cell? ⟨w.heap.size, 1, none⟩ = some (.slice a n cap) ∧ w'.cell? ⟨w.heap.size + 1, 0, none⟩ = some (.bool neg2) ∧ w'.cell? ⟨w.heap.size + 1, 1, none⟩ = some (.slice c m cap2) ∧ w'.cell? ⟨w1.heap.size, 0, none⟩ = some (.bool neg1) ∧ w'.cell? ⟨w1.heap.size, 1, none⟩ = some (.slice a1 n1 c1)) from fun w' hB =>
      ⟨(A.below hB).c0, (A.below hB).c1, (G.below hB).c0, (G.below hB).c1, (X.below hB).c0, (X.below hB).c1⟩)
    go_wp2
    rw [← hW1]
    clear hW1
    obtain ⟨j0, j1, j2, j3, j4, j5⟩ := unhide HK _ (Below.refl _ _)
    go_region_held3 (fun w' => w'.cell? ⟨w.heap.size, 0, none⟩ = some (.bool neg) ∧ w'.cell? ⟨w.heap.size, 1, none⟩ = some (.slice a n cap) ∧ w'.cell? ⟨w.heap.size + 1, 0, none⟩ = some (.bool neg2) ∧ w'.cell? ⟨w.heap.size + 1, 1, none⟩ = some (.slice c m cap2) ∧ w'.cell? ⟨w1.heap.size, 0, none⟩ = some (.bool neg1) ∧ w'.cell? ⟨w1.heap.size, 1, none⟩ = some (.slice a1 n1 c1)) (exact unhide HK _ (by first | with_reducible exact hB0 | with_reducible exact hB5 | with_reducible exact hB4))
      (first
        | (go_at_call 84; refine (mul_int _ _ _ _ _ _ _ _ (k + 8) k2 (x / y) y _ ((unhide hint1).below hB0) ((unhide HY).below hB0) (by omega) (by omega)).mono ?_; rintro r w4 ⟨neg4, a4, n4, c4, rfl, hint4, hb4⟩; have hB4 := bthen hB0 hb4)
        | (go_at_call 24; refine (cmp_int _ _ _ _ _ _ _ _ (k + 8 + k2) k (x / y * y) x _ hint4 ((unhide HX).below hB4)).mono ?_; rintro r w5 ⟨rfl, hb5⟩; have hB5 := bthen hB4 hb5))
    clear j0 j1 j2 j3 j4 j5
    have X5 := X.below hB5
    have R5 := R.below hB5
    have lR5 := R5.lt
    have lX5 := X5.lt
    obtain ⟨j4, j5⟩ := X5
    obtain ⟨q0, q1, q2⟩ := R5
    have hD0 : Below w5.heap.size w5 w5.drew := (Below.refl _ _).drew
    have X5 : NmC w5 w1.heap.size ⟨neg1, a1, n1, c1⟩ := ⟨j4, j5⟩
    have R5 : NoI w5 (w.heap.size + 1 + 1) := ⟨q0, q1, q2⟩
    have HK5 := hide (show ∀ w', Below w5.heap.size w5 w' → (w'.cell? ⟨w1.heap.size, 0, none⟩ = some (.bool neg1) ∧ w'.cell? ⟨w1.heap.size, 1, none⟩ = some (.slice a1 n1 c1)) from fun w' hB => ⟨(X5.below hB).c0, (X5.below hB).c1⟩)
    go_wp2
    go_region_held3 (fun w' => w'.cell? ⟨w1.heap.size, 0, none⟩ = some (.bool neg1) ∧ w'.cell? ⟨w1.heap.size, 1, none⟩ = some (.slice a1 n1 c1)) (first | exact unhide HK5 _ (by first | with_reducible exact hD0 | with_reducible exact hD7 | with_reducible exact hD6) | go_keep)
      (first
        | (go_at_call 48; refine (numOf_int 1 _ (by decide) (by decide)).mono ?_; rintro r w6 ⟨neg6, a6, n6, c6, rfl, hint6, hb6⟩; have hD6 := bthen hD0 hb6)
        | (go_at_call 86; refine (add_int _ _ _ _ _ _ _ _ (k + 8) 4 (x / y) 1 _ (((unhide hint1).below hB5).below hD6) hint6 (by omega) (by omega)).mono ?_; rintro r w7 ⟨neg7, a7, n7, c7, rfl, hint7, hb7⟩; have hD7 := bthen hD6 hb7; obtain ⟨p0, p1, p2⟩ := R5.below hD7; obtain ⟨i0, i1⟩ := unhide HK5 _ hD7))
    go_wp2
    refine bodyPost_ret (v := .agg #[.bool neg7, .slice a7 n7 c7]) (by simp [results, Try.results90, go_sem, p0, p1]) rfl ⟨neg7, a7, n7, c7, rfl, ?_, ?_⟩
    · rw [unhide HE] at hint7
      exact (hint7.put2 p0 p1 _ _).mono (by omega)
    · exact set2 (bthen (bthen hB2 hB5) hD7) (by omega) _ _
  · have t1 : ¬ cmpInt (x / y * y) x < 0 := cmpInt_ge0 hlt
    have HE := hide (ceil_same hy hlt)
    clear hlt
    go_enter Try.func90, Try.ntmps90
    go_wp2_with fail
    refine (unhide HF _ (h1.below (bl3 _ _ _ _)) (h2.below (bl3 _ _ _ _))).mono ?_
    rintro r w1 ⟨neg1, a1, n1, c1, rfl, hint1, hb1⟩
    have hBw : Below w.heap.size w w1 := bthen (bl3 _ _ _ _) hb1
    obtain ⟨hsz1, hcell1, hfz1⟩ := near (w.heap.size + 1 + 1 + 1) (by simp) hb1
    have A : NmC w1 w.heap.size ⟨neg, a, n, cap⟩ := ⟨by simp [hcell1, go_sem], by simp [hcell1, go_sem]⟩
    have G : NmC w1 (w.heap.size + 1) ⟨neg2, c, m, cap2⟩ := ⟨by simp [hcell1, go_sem], by simp [hcell1, go_sem]⟩
    have R : NoI w1 (w.heap.size + 1 + 1) := ⟨by simp [hcell1, go_sem], by simp [hcell1, go_sem], fun o => by simp [hfz1, go_sem]⟩
    have hnr := R.lt
    clear hcell1 hfz1 hb1 hsz1
    obtain ⟨W1, hW1⟩ : ∃ W', W' = w1.alloc (.cells #[.bool neg1, .slice a1 n1 c1] 26) := ⟨_, rfl⟩
    have hc1 : Below w1.heap.size w1 W1 := by rw [hW1]; exact bl1 _ _
    have X : NmC W1 w1.heap.size ⟨neg1, a1, n1, c1⟩ := by rw [hW1]; exact nmc_new w1 ⟨neg1, a1, n1, c1⟩ _
    replace A := A.below hc1
    replace G := G.below hc1
    replace R := R.below hc1
    have hB2 := bthen hBw hc1
    have HX := hide (h1.below hB2)
    have HY := hide (h2.below hB2)
    replace hint1 := hide (hint1.below hc1)
    have lR := R.lt
    have lX := X.lt
    have nR : w1.heap.size ≠ w.heap.size + 1 + 1 := Nat.ne_of_gt hnr
    have nR' : w.heap.size + 1 + 1 ≠ w1.heap.size := fun e => nR e.symm
    have hB0 : Below W1.heap.size W1 W1.drew := (Below.refl _ _).drew
    have HK := hide (show ∀ w', Below W1.heap.size W1 w' → (w'.cell? ⟨w.heap.size, 0, none⟩ = some (.bool neg) ∧ w'.cell? ⟨w.heap.size, 1, none⟩ = some (.slice a n cap) ∧ w'.cell? ⟨w.heap.size + 1, 0, none⟩ = some (.bool neg2) ∧ w'.cell? ⟨w.heap.size + 1, 1, none⟩ = some (.slice c m cap2) ∧ w'.cell? ⟨w1.heap.size, 0, none⟩ = some (.bool neg1) ∧ w'.cell? ⟨w1.heap.size, 1, none⟩ = some (.slice a1 n1 c1)) from fun w' hB =>
      ⟨(A.below hB).c0, (A.below hB).c1, (G.below hB).c0, (G.below hB).c1, (X.below hB).c0, (X.below hB).c1⟩)
    go_wp2
    rw [← hW1]
    clear hW1
    obtain ⟨j0, j1, j2, j3, j4, j5⟩ := unhide HK _ (Below.refl _ _)
    go_region_held3 (fun w' => w'.cell? ⟨w.heap.size, 0, none⟩ = some (.bool neg) ∧ w'.cell? ⟨w.heap.size, 1, none⟩ = some (.slice a n cap) ∧ w'.cell? ⟨w.heap.size + 1, 0, none⟩ = some (.bool neg2) ∧ w'.cell? ⟨w.heap.size + 1, 1, none⟩ = some (.slice c m cap2) ∧ w'.cell? ⟨w1.heap.size, 0, none⟩ = some (.bool neg1) ∧ w'.cell? ⟨w1.heap.size, 1, none⟩ = some (.slice a1 n1 c1)) (exact unhide HK _ (by first | with_reducible exact hB0 | with_reducible exact hB5 | with_reducible exact hB4))
      (first
        | (go_at_call 84; refine (mul_int _ _ _ _ _ _ _ _ (k + 8) k2 (x / y) y _ ((unhide hint1).below hB0) ((unhide HY).below hB0) (by omega) (by omega)).mono ?_; rintro r w4 ⟨neg4, a4, n4, c4, rfl, hint4, hb4⟩; have hB4 := bthen hB0 hb4)
        | (go_at_call 24; refine (cmp_int _ _ _ _ _ _ _ _ (k + 8 + k2) k (x / y * y) x _ hint4 ((unhide HX).below hB4)).mono ?_; rintro r w5 ⟨rfl, hb5⟩; have hB5 := bthen hB4 hb5))
    clear j0 j1 j2 j3 j4 j5
    have X5 := X.below hB5
    have R5 := R.below hB5
    have lR5 := R5.lt
    have lX5 := X5.lt
    obtain ⟨j4, j5⟩ := X5
    obtain ⟨q0, q1, q2⟩ := R5
    go_wp2
    refine bodyPost_ret (v := .agg #[.bool neg1, .slice a1 n1 c1]) (by simp [results, Try.results90, go_sem, q0, q1]) rfl ⟨neg1, a1, n1, c1, rfl, ?_, ?_⟩
    · replace hint1 := (unhide hint1).below hB5
      rw [unhide HE] at hint1
      exact (hint1.put2 q0 q1 _ _).mono (by omega)
    · exact set2 (bthen hB2 hB5) (by omega) _ _
end Go.Proofs.Ytgmnknmjainabab
namespace Go.Proofs.Ytgmnknmjainabab
open Go.RowKit
attribute [local go_sem ↓] Go.wp_at_zero Go.wp_at_succ
theorem noi_new (w : World) (T : TypeId) : NoI (w.alloc (.cells #[.bool false, .slice none 0 0] T)) w.heap.size := ⟨by simp, by simp, fun o => by simp [go_sem]⟩
set_option maxRecDepth 100000 in
set_option maxHeartbeats 4000000 in
theorem refRatio_core (neg neg2 : Bool) (a c : Option Addr) (n m cap cap2 k k2 b : Nat) (x y : Int) (w : World) (h1 : IntAt w neg a n cap k x) (h2 : IntAt w neg2 c m cap2 k2 y) (hk : k ≤ 600000000) (hk2 : k2 ≤ 100000000) (hb : b ≤ 100000) (hy : 0 < y)
    (hfl : ∀ neg' a' n' cap' w', IntAt w' neg' a' n' cap' (k + b / 16 + 5) (x * Q b) → IntAt w' neg2 c m cap2 k2 y → Calls Try.prog 105 #[.agg #[.bool neg', .slice a' n' cap'], .agg #[.bool neg2, .slice c m cap2]] w' (FloorAns w' (k + b / 16 + 5) (x * Q b / y))) :
    Calls Try.prog 52 #[.agg #[.bool neg, .slice a n cap], .agg #[.bool neg2, .slice c m cap2], .int .i64 b] w (SpanAns w b (k + b / 16 + 14) (x * Q b / y) (-(-(x * Q b) / y))) := by
  have HF := hide hfl
  clear hfl
  obtain ⟨W, hW⟩ : ∃ W, W = ((w.alloc (.cells #[.bool neg, .slice a n cap] 26)).alloc (.cells #[.bool neg2, .slice c m cap2] 26)).alloc (.cells #[.bool false, .slice none 0 0, .bool false, .slice none 0 0, .int .i64 0] 36) := ⟨_, rfl⟩
  have hBW : Below w.heap.size w W := by rw [hW]; exact bl3 _ _ _ _
  have A : NmC W w.heap.size ⟨neg, a, n, cap⟩ := by rw [hW]; exact ⟨by simp [go_sem], by simp [go_sem]⟩
  have G : NmC W (w.heap.size + 1) ⟨neg2, c, m, cap2⟩ := by rw [hW]; exact ⟨by simp [go_sem], by simp [go_sem]⟩
  have R : NoC W (w.heap.size + 1 + 1) := by rw [hW]; exact ⟨by simp [go_sem], by simp [go_sem], by simp [go_sem], by simp [go_sem], by simp [go_sem], fun o => by simp [go_sem]⟩
  have HX := hide (h1.below hBW)
  have HY := hide (h2.below hBW)
  have HK := hide (show ∀ w', Below W.heap.size W w' → (w'.cell? ⟨w.heap.size, 0, none⟩ = some (.bool neg) ∧ w'.cell? ⟨w.heap.size, 1, none⟩ = some (.slice a n cap)) from fun w' hB => ⟨(A.below hB).c0, (A.below hB).c1⟩)
  go_enter Try.func52, Try.ntmps52
  go_wp2
  rw [← hW]
  clear hW
  obtain ⟨i0, i1⟩ := A
  have lW := G.lt
  have lR := R.lt
  go_cut [7] (fun p wx => VarAt wx p W.heap.size (k + b / 16 + 5) (x * Q b) ∧ Below W.heap.size W wx)
  case first =>
    go_region_held3 (fun w' => w'.cell? ⟨w.heap.size, 0, none⟩ = some (.bool neg) ∧ w'.cell? ⟨w.heap.size, 1, none⟩ = some (.slice a n cap)) (exact unhide HK _ (by repeat' (first | with_reducible exact hBX2 | with_reducible exact hBX1 | with_reducible exact Below.refl _ _ | with_reducible refine Below.drew ?_ | with_reducible refine balloc ?_ _ | with_reducible refine Below.setCell ?_ (by first | exact Nat.le_refl _ | exact hlX1 | exact hlX2) _)))
      (first
        | (go_at_call 84; have hq := hBX1; refine (mul_int _ _ _ _ _ _ _ _ k (b / 16 + 5) x (Q b) _ ((unhide HX).below (by first | with_reducible exact hBX1 | with_reducible exact balloc hBX1 _)) (hintX1.below (by first | with_reducible exact Below.refl _ _ | with_reducible exact bl1 _ _)) (by omega) (by omega)).mono ?_; rintro r wX2 ⟨negX2, aX2, nX2, cX2, rfl, hintX2, hbX2⟩; have hCX2 : Below wX1.heap.size wX1 wX2 := (by first | with_reducible exact hbX2 | with_reducible exact bthen (bl1 _ _) hbX2); have hBX2 := bthen hBX1 hCX2; (try with_reducible have gX2 := (noi_new wX1 26).below hbX2); replace hintX1 := hintX1.below hCX2; (try replace gX1 := gX1.below hCX2); have hlX2 := hBX2.size; (try have mX1 := gX1.lt); (try have eX1 := Nat.ne_of_lt mX1); (try have eX1' := Nat.ne_of_gt mX1); (try obtain ⟨zX10, zX11, zX12⟩ := gX1); (try have mX2 := gX2.lt); (try have eX2 := Nat.ne_of_lt mX2); (try have eX2' := Nat.ne_of_gt mX2); (try obtain ⟨zX20, zX21, zX22⟩ := gX2))
        | (go_at_call 85; refine (power2_int b _ (by omega)).mono ?_; rintro r wX1 ⟨negX1, aX1, nX1, cX1, rfl, hintX1, hbX1⟩; have hBX1 : Below W.heap.size W wX1 := (by first | with_reducible exact bthen (Below.refl _ _).drew hbX1 | with_reducible exact bthen (bl1 _ _).drew hbX1); (try with_reducible have gX1 := ((noi_new W 26).below (Below.refl _ _).drew).below hbX1); have hlX1 := hBX1.size))
    all_goals
      go_wp2_with fail
      go_meet
      refine ⟨⟨_, ⟨negX2, aX2, nX2, cX2⟩, rfl, ?_, ?_, ?_, ?_, ?_⟩, ?_⟩
      · simp [go_sem, *]
      · simp [go_sem, *]
      · first | with_reducible exact IntAt.mono (hintX2.below (bl1 _ _)) (by omega) | with_reducible exact IntAt.mono (hintX2.put2 (by assumption) (by assumption) _ _) (by omega)
      · first | exact Nat.le_refl _ | exact hlX1 | exact hlX2
      · simp [World.setCell]; try omega
      · repeat' (first | with_reducible exact hBX2 | with_reducible exact hBX1 | with_reducible exact Below.refl _ _ | with_reducible refine Below.drew ?_ | with_reducible refine balloc ?_ _ | with_reducible refine Below.setCell ?_ (by first | exact Nat.le_refl _ | exact hlX1 | exact hlX2) _)
  case rest =>
  obtain ⟨⟨BX, xX, rfl, jX0, jX1, hintX, hHX, hltX⟩, hblX⟩ := hcut
  have XX : NmC wc BX xX := ⟨jX0, jX1⟩
  clear i0 i1 HK
  replace G := G.below hblX
  replace R := R.below hblX
  replace HY := hide ((unhide HY).below hblX)
  replace hintX := hide hintX
  have lR2 := R.lt
  have lX2 := XX.lt
  have nR : BX ≠ w.heap.size + 1 + 1 := Nat.ne_of_gt (Nat.lt_of_lt_of_le lR hHX)
  have nR' : w.heap.size + 1 + 1 ≠ BX := fun e => nR e.symm
  have hBW2 := bthen hBW hblX
  have hD0 : Below wc.heap.size wc wc.drew := (Below.refl _ _).drew
  have HK := hide (show ∀ w', Below wc.heap.size wc w' → (w'.cell? ⟨BX, 0, none⟩ = some (.bool xX.neg) ∧ w'.cell? ⟨BX, 1, none⟩ = some (.slice xX.a xX.n xX.cap) ∧ w'.cell? ⟨w.heap.size + 1, 0, none⟩ = some (.bool neg2) ∧ w'.cell? ⟨w.heap.size + 1, 1, none⟩ = some (.slice c m cap2)) from fun w' hB => ⟨(XX.below hB).c0, (XX.below hB).c1, (G.below hB).c0, (G.below hB).c1⟩)
  obtain ⟨i2, i3⟩ := G
  go_wp2
  go_region_held3 (fun w' => w'.cell? ⟨BX, 0, none⟩ = some (.bool xX.neg) ∧ w'.cell? ⟨BX, 1, none⟩ = some (.slice xX.a xX.n xX.cap) ∧ w'.cell? ⟨w.heap.size + 1, 0, none⟩ = some (.bool neg2) ∧ w'.cell? ⟨w.heap.size + 1, 1, none⟩ = some (.slice c m cap2)) (first | exact unhide HK _ (by first | with_reducible exact hD0 | with_reducible exact hD2 | with_reducible exact hD1) | go_keep)
    (first
      | (go_at_call 89; refine (refDown_core _ _ _ _ _ _ _ _ (k + b / 16 + 5) k2 (x * Q b) y _ ((unhide hintX).below hD0) ((unhide HY).below hD0) (by omega) (by omega) (fun w' p q => unhide HF _ _ _ _ w' p q)).mono ?_; rintro r w1 ⟨neg1, a1, n1, c1, rfl, hint1, hb1⟩; have hD1 := bthen hD0 hb1)
      | (go_at_call 90; refine (refUp_core _ _ _ _ _ _ _ _ (k + b / 16 + 5) k2 (x * Q b) y _ ((unhide hintX).below hD1) ((unhide HY).below hD1) (by omega) (by omega) hy (fun w' p q => unhide HF _ _ _ _ w' p q)).mono ?_; rintro r w2 ⟨neg3, a3, n3, c3, rfl, hint3, hb2⟩; replace hint1 := hint1.below hb2; have hD2 := bthen hD1 hb2; obtain ⟨q0, q1, q2, q3, q4, q5⟩ := R.below hD2; obtain ⟨d0, d1, d2, d3⟩ := unhide HK _ hD2))
  go_wp2
  refine bodyPost_ret (v := .agg #[.bool neg1, .slice a1 n1 c1, .bool neg3, .slice a3 n3 c3, .int .i64 b]) (by simp [results, Try.results52, go_sem, q0, q1, q2, q3, q4]) rfl ⟨⟨neg1, a1, n1, c1, neg3, a3, n3, c3, b⟩, rfl, rfl, ?_, ?_⟩
  · exact SpAt.put5 ⟨hint1.mono (by omega), hint3.mono (by omega)⟩ q0 q1 q2 q3 q4 _ _ _ _ _
  · exact set5 (bthen hBW2 hD2) (by omega) _ _ _ _ _
end Go.Proofs.Ytgmnknmjainabab
namespace Go.Proofs.Ytgmnknmjainabab
open Go.RowKit
attribute [local go_sem ↓] Go.wp_at_zero Go.wp_at_succ
set_option maxRecDepth 100000 in
set_option maxHeartbeats 2000000 in
theorem refRatioOf_any (p q : Int) (b : Nat) (w : World) (h : rok p q) (hb : b ≤ 100000) :
    Calls Try.prog 15 #[.agg #[.int .i64 p, .int .i64 q], .int .i64 b] w (SpanAns w b (b / 16 + 18) (p * Q b / q) (-(-(p * Q b) / q))) := by
  obtain ⟨r1, r2, r3, r4⟩ := h
  obtain ⟨W, hW⟩ : ∃ W, W = (w.alloc (.cells #[.int .i64 p, .int .i64 q] 23)).alloc (.cells #[.bool false, .slice none 0 0, .bool false, .slice none 0 0, .int .i64 0] 36) := ⟨_, rfl⟩
  have hBW : Below w.heap.size w W := by rw [hW]; exact bl2 _ _ _
  have k0 : W.cell? ⟨w.heap.size, 0, none⟩ = some (.int .i64 p) := by rw [hW]; simp [go_sem]
  have k1 : W.cell? ⟨w.heap.size, 1, none⟩ = some (.int .i64 q) := by rw [hW]; simp [go_sem]
  have lw : w.heap.size < W.heap.size := by rw [hW]; simp; omega
  have R : NoC W (w.heap.size + 1) := by rw [hW]; exact ⟨by simp [go_sem], by simp [go_sem], by simp [go_sem], by simp [go_sem], by simp [go_sem], fun o => by simp [go_sem]⟩
  have lR := R.lt
  have hB0 : Below W.heap.size W W.drew := (Below.refl _ _).drew
  have HK := hide (show ∀ w', Below W.heap.size W w' → (w'.cell? ⟨w.heap.size, 0, none⟩ = some (.int .i64 p) ∧ w'.cell? ⟨w.heap.size, 1, none⟩ = some (.int .i64 q)) from fun w' hB => ⟨(hB.cell (p := ⟨w.heap.size, 0, none⟩) lw).trans k0, (hB.cell (p := ⟨w.heap.size, 1, none⟩) lw).trans k1⟩)
  go_enter Try.func15, Try.ntmps15
  go_wp2
  rw [← hW]
  clear hW
  go_region_held3 (fun w' => w'.cell? ⟨w.heap.size, 0, none⟩ = some (.int .i64 p) ∧ w'.cell? ⟨w.heap.size, 1, none⟩ = some (.int .i64 q)) (first | exact unhide HK _ (by first | with_reducible exact hB0 | with_reducible exact hB3 | with_reducible exact hB2 | with_reducible exact hB1) | go_keep)
    (first
      | (go_at_call 48; have hq := hB1; refine (numOf_int q _ (by omega) (by omega)).mono ?_; rintro r w2 ⟨neg2, a2, n2, c2, rfl, hint2, hb2⟩; replace hint1 := hint1.below hb2; have hB2 := bthen hB1 hb2)
      | (go_at_call 48; refine (numOf_int p _ (by omega) (by omega)).mono ?_; rintro r w1 ⟨neg1, a1, n1, c1, rfl, hint1, hb1⟩; have hB1 := bthen hB0 hb1)
      | (go_at_call 52; refine (refRatio_core _ _ _ _ _ _ _ _ 4 4 b p q _ hint1 hint2 (by omega) (by omega) hb (by omega) (fun neg' a' n' cap' w' p1 p2 => floor_small neg' _ a' _ n' _ cap' _ _ 4 (p * Q b) q w' p1 p2 (by omega) (by omega) (by omega))).mono ?_; rintro r w3 ⟨s, rfl, hsb, hsp, hb3⟩; have HSB := hide hsb; clear hsb; have hB3 := bthen hB2 hb3; obtain ⟨q0, q1, q2, q3, q4, q5⟩ := R.below hB3; obtain ⟨i0, i1⟩ := unhide HK _ hB3))
  go_wp2
  refine bodyPost_ret (v := .agg #[.bool s.ln, .slice s.la s.lN s.lc, .bool s.hn, .slice s.ha s.hN s.hc, .int .i64 s.bits]) (by simp [results, Try.results15, go_sem, q0, q1, q2, q3, q4]) rfl ⟨s, rfl, unhide HSB, ?_, ?_⟩
  · exact SpAt.put5 (hsp.mono (by omega)) q0 q1 q2 q3 q4 _ _ _ _ _
  · exact set5 (bthen hBW hB3) (Nat.le_succ _) _ _ _ _ _
set_option maxRecDepth 100000 in
set_option maxHeartbeats 2000000 in
theorem wideTo_int (w : World) (s : Sp) (k : Nat) (bt lo hi : Int) (hs : SpAt w s k lo hi) (hk : k ≤ 300000000) (hb0 : 0 ≤ s.bits) (hbm : s.bits ≤ 1000000) (hc0 : 0 ≤ bt) (hcm : bt ≤ 1000000) :
    Calls Try.prog 98 #[.agg #[.bool s.ln, .slice s.la s.lN s.lc, .bool s.hn, .slice s.ha s.hN s.hc, .int .i64 s.bits], .int .i64 bt] w (SpanAns w bt (k + 62505) (downZ lo (s.bits - bt)) (-(downZ (-hi) (s.bits - bt)))) := by
  obtain ⟨W, hW⟩ : ∃ W, W = (w.alloc (.cells #[.bool s.ln, .slice s.la s.lN s.lc, .bool s.hn, .slice s.ha s.hN s.hc, .int .i64 s.bits] 28)).alloc (.cells #[.bool false, .slice none 0 0, .bool false, .slice none 0 0, .int .i64 0] 28) := ⟨_, rfl⟩
  have hBW : Below w.heap.size w W := by rw [hW]; exact bl2 _ _ _
  have A : SpC W w.heap.size s := by rw [hW]; exact ⟨by simp [go_sem], by simp [go_sem], by simp [go_sem], by simp [go_sem], by simp [go_sem]⟩
  have R : NoC W (w.heap.size + 1) := by rw [hW]; exact ⟨by simp [go_sem], by simp [go_sem], by simp [go_sem], by simp [go_sem], by simp [go_sem], fun o => by simp [go_sem]⟩
  have HS := hide (hs.below hBW)
  have lA := A.lt
  have lR := R.lt
  have hB0 : Below W.heap.size W W.drew := (Below.refl _ _).drew
  have HK := hide (show ∀ w', Below W.heap.size W w' → (w'.cell? ⟨w.heap.size, 0, none⟩ = some (.bool s.ln) ∧ w'.cell? ⟨w.heap.size, 1, none⟩ = some (.slice s.la s.lN s.lc) ∧ w'.cell? ⟨w.heap.size, 2, none⟩ = some (.bool s.hn) ∧ w'.cell? ⟨w.heap.size, 3, none⟩ = some (.slice s.ha s.hN s.hc)) from fun w' hB => by
    obtain ⟨x0, x1, x2, x3, x4⟩ := A.below hB
    exact ⟨x0, x1, x2, x3⟩)
  go_enter Try.func98, Try.ntmps98
  go_wp2
  obtain ⟨x0, x1, x2, x3, x4⟩ := A
  rw [← hW]
  clear hW
  go_region_held3 (fun w' => w'.cell? ⟨w.heap.size, 0, none⟩ = some (.bool s.ln) ∧ w'.cell? ⟨w.heap.size, 1, none⟩ = some (.slice s.la s.lN s.lc) ∧ w'.cell? ⟨w.heap.size, 2, none⟩ = some (.bool s.hn) ∧ w'.cell? ⟨w.heap.size, 3, none⟩ = some (.slice s.ha s.hN s.hc)) (first | exact unhide HK _ (by first | with_reducible exact hB0 | with_reducible exact hB2 | with_reducible exact hB1) | go_keep)
    (first
      | (go_at_call 94; refine (down_z _ _ _ _ k (s.bits - bt) lo _ ((unhide HS).lo.below hB0) (by omega) (by omega) (by omega)).mono ?_; rintro r w1 ⟨neg1, a1, n1, c1, rfl, hint1, hb1⟩; have hB1 := bthen hB0 hb1)
      | (go_at_call 117; refine (ceilDown_z _ _ _ _ k (s.bits - bt) hi _ ((unhide HS).hi.below hB1) (by omega) (by omega) (by omega)).mono ?_; rintro r w2 ⟨neg2, a2, n2, c2, rfl, hint2, hb2⟩; replace hint1 := hint1.below hb2; have hB2 := bthen hB1 hb2; obtain ⟨q0, q1, q2, q3, q4, q5⟩ := R.below hB2; obtain ⟨i0, i1, i2, i3⟩ := unhide HK _ hB2))
  go_wp2
  refine bodyPost_ret (v := .agg #[.bool neg1, .slice a1 n1 c1, .bool neg2, .slice a2 n2 c2, .int .i64 bt]) (by simp [results, Try.results98, go_sem, q0, q1, q2, q3, q4]) rfl ⟨⟨neg1, a1, n1, c1, neg2, a2, n2, c2, bt⟩, rfl, rfl, ?_, ?_⟩
  · exact SpAt.put5 ⟨hint1.mono (by omega), hint2.mono (by omega)⟩ q0 q1 q2 q3 q4 _ _ _ _ _
  · exact set5 (bthen hBW hB2) (Nat.le_succ _) _ _ _ _ _
end Go.Proofs.Ytgmnknmjainabab
namespace Go.Proofs.Ytgmnknmjainabab
open Go.RowKit
attribute [local go_sem ↓] Go.wp_at_zero Go.wp_at_succ
set_option maxRecDepth 100000 in
set_option maxHeartbeats 2000000 in
theorem refTurn_int (w : World) (s : Sp) (k : Nat) (bt lo hi : Int) (hs : SpAt w s k lo hi) (hk : k ≤ 300000000) (hb0 : 0 ≤ s.bits) (hbm : s.bits ≤ 1000000) (hc0 : 0 ≤ bt) (hcm : bt ≤ 1000000) :
    Calls Try.prog 58 #[.agg #[.bool s.ln, .slice s.la s.lN s.lc, .bool s.hn, .slice s.ha s.hN s.hc, .int .i64 s.bits], .int .i64 bt] w (SpanAns w bt (k + 62505) (downZ lo (s.bits - bt)) (-(downZ (-hi) (s.bits - bt)))) := by
  by_cases hge : s.bits ≤ bt
  · obtain ⟨K, hK⟩ : ∃ K : Nat, bt - s.bits = K := ⟨(bt - s.bits).toNat, by omega⟩
    have e1 : ∀ x, downZ x (s.bits - bt) = x * Q K := by
      intro x; unfold downZ
      by_cases h0 : 0 ≤ s.bits - bt
      · have hz : s.bits - bt = 0 := by omega
        have hz2 : K = 0 := by omega
        rw [if_pos h0, hz, hz2]; simp [Q]
      · rw [if_neg h0, show (-(s.bits - bt)).toNat = K by omega]
    have HL := hide (e1 lo)
    have HH := hide (show -(downZ (-hi) (s.bits - bt)) = hi * Q K by rw [e1, Int.neg_mul, Int.neg_neg])
    clear e1
    have hK1 : K ≤ 1000000 := by omega
    rw [unhide HL, unhide HH]
    obtain ⟨W, hW⟩ : ∃ W, W = (w.alloc (.cells #[.bool s.ln, .slice s.la s.lN s.lc, .bool s.hn, .slice s.ha s.hN s.hc, .int .i64 s.bits] 36)).alloc (.cells #[.bool false, .slice none 0 0, .bool false, .slice none 0 0, .int .i64 0] 36) := ⟨_, rfl⟩
    have hBW : Below w.heap.size w W := by rw [hW]; exact bl2 _ _ _
    have A : SpC W w.heap.size s := by rw [hW]; exact ⟨by simp [go_sem], by simp [go_sem], by simp [go_sem], by simp [go_sem], by simp [go_sem]⟩
    have R : NoC W (w.heap.size + 1) := by rw [hW]; exact ⟨by simp [go_sem], by simp [go_sem], by simp [go_sem], by simp [go_sem], by simp [go_sem], fun o => by simp [go_sem]⟩
    have HS := hide (hs.below hBW)
    have lA := A.lt
    have lR := R.lt
    have hB0 : Below W.heap.size W W.drew := (Below.refl _ _).drew
    have HK := hide (show ∀ w', Below W.heap.size W w' → (w'.cell? ⟨w.heap.size, 0, none⟩ = some (.bool s.ln) ∧ w'.cell? ⟨w.heap.size, 1, none⟩ = some (.slice s.la s.lN s.lc) ∧ w'.cell? ⟨w.heap.size, 2, none⟩ = some (.bool s.hn) ∧ w'.cell? ⟨w.heap.size, 3, none⟩ = some (.slice s.ha s.hN s.hc)) from fun w' hB => by
      obtain ⟨x0, x1, x2, x3, x4⟩ := A.below hB
      exact ⟨x0, x1, x2, x3⟩)
    go_enter Try.func58, Try.ntmps58
    go_wp2_with fail
    rw [← hW]
    clear hW
    refine (power2_int K _ (by omega)).mono ?_
    rintro r w1 ⟨neg1, a1, n1, c1, rfl, hint1, hb1⟩
    obtain ⟨W1, hW1⟩ : ∃ W', W' = w1.alloc (.cells #[.bool neg1, .slice a1 n1 c1] 26) := ⟨_, rfl⟩
    have hc1 : Below w1.heap.size w1 W1 := by rw [hW1]; exact bl1 _ _
    have X : NmC W1 w1.heap.size ⟨neg1, a1, n1, c1⟩ := by rw [hW1]; exact nmc_new w1 ⟨neg1, a1, n1, c1⟩ _
    have nR : w1.heap.size ≠ w.heap.size + 1 := Nat.ne_of_gt (R.below hb1).lt
    have nR' : w.heap.size + 1 ≠ w1.heap.size := fun e => nR e.symm
    have hB1 := bthen hb1 hc1
    have R1 := R.below hB1
    have A1 := A.below hB1
    have lA1 := A1.lt
    have lR1 := R1.lt
    have lX := X.lt
    replace hint1 := hide (hint1.below hc1)
    replace HS := hide ((unhide HS).below hB1)
    have hD0 : Below W1.heap.size W1 W1.drew := (Below.refl _ _).drew
    have HK1 := hide (show ∀ w', Below W1.heap.size W1 w' → (w'.cell? ⟨w.heap.size, 0, none⟩ = some (.bool s.ln) ∧ w'.cell? ⟨w.heap.size, 1, none⟩ = some (.slice s.la s.lN s.lc) ∧ w'.cell? ⟨w.heap.size, 2, none⟩ = some (.bool s.hn) ∧ w'.cell? ⟨w.heap.size, 3, none⟩ = some (.slice s.ha s.hN s.hc) ∧ w'.cell? ⟨w1.heap.size, 0, none⟩ = some (.bool neg1) ∧ w'.cell? ⟨w1.heap.size, 1, none⟩ = some (.slice a1 n1 c1)) from fun w' hB => by
      obtain ⟨x0, x1, x2, x3, x4⟩ := A1.below hB
      exact ⟨x0, x1, x2, x3, (X.below hB).c0, (X.below hB).c1⟩)
    clear HK hB0
    go_wp2
    rw [← hW1]
    clear hW1
    obtain ⟨i0, i1, i2, i3, i4, i5⟩ := unhide HK1 _ (Below.refl _ _)
    go_region_held3 (fun w' => w'.cell? ⟨w.heap.size, 0, none⟩ = some (.bool s.ln) ∧ w'.cell? ⟨w.heap.size, 1, none⟩ = some (.slice s.la s.lN s.lc) ∧ w'.cell? ⟨w.heap.size, 2, none⟩ = some (.bool s.hn) ∧ w'.cell? ⟨w.heap.size, 3, none⟩ = some (.slice s.ha s.hN s.hc) ∧ w'.cell? ⟨w1.heap.size, 0, none⟩ = some (.bool neg1) ∧ w'.cell? ⟨w1.heap.size, 1, none⟩ = some (.slice a1 n1 c1)) (first | exact unhide HK1 _ (by first | with_reducible exact hD0 | with_reducible exact hD3 | with_reducible exact hD2) | go_keep)
      (first
        | (go_at_call 84; have hq := hD2; refine (mul_int _ _ _ _ _ _ _ _ k (K / 16 + 5) hi (Q K) _ ((unhide HS).hi.below hD2) ((unhide hint1).below hD2) (by omega) (by omega)).mono ?_; rintro r w3 ⟨neg3, a3, n3, c3, rfl, hint3, hb3⟩; replace hint2 := hint2.below hb3; have hD3 := bthen hD2 hb3; obtain ⟨q0, q1, q2, q3, q4, q5⟩ := R1.below hD3; obtain ⟨d0, d1, d2, d3, d4, d5⟩ := unhide HK1 _ hD3)
        | (go_at_call 84; refine (mul_int _ _ _ _ _ _ _ _ k (K / 16 + 5) lo (Q K) _ ((unhide HS).lo.below hD0) ((unhide hint1).below hD0) (by omega) (by omega)).mono ?_; rintro r w2 ⟨neg2, a2, n2, c2, rfl, hint2, hb2⟩; have hD2 := bthen hD0 hb2))
    clear i0 i1 i2 i3 i4 i5
    go_wp2
    refine bodyPost_ret (v := .agg #[.bool neg2, .slice a2 n2 c2, .bool neg3, .slice a3 n3 c3, .int .i64 bt]) (by simp [results, Try.results58, go_sem, q0, q1, q2, q3, q4]) rfl ⟨⟨neg2, a2, n2, c2, neg3, a3, n3, c3, bt⟩, rfl, rfl, ?_, ?_⟩
    · exact SpAt.put5 ⟨hint2.mono (by omega), hint3.mono (by omega)⟩ q0 q1 q2 q3 q4 _ _ _ _ _
    · exact set5 (bthen (bthen hBW hB1) hD3) (Nat.le_succ _) _ _ _ _ _
  · have e0 : ¬ bt ≥ s.bits := hge
    obtain ⟨W, hW⟩ : ∃ W, W = (w.alloc (.cells #[.bool s.ln, .slice s.la s.lN s.lc, .bool s.hn, .slice s.ha s.hN s.hc, .int .i64 s.bits] 36)).alloc (.cells #[.bool false, .slice none 0 0, .bool false, .slice none 0 0, .int .i64 0] 36) := ⟨_, rfl⟩
    have hBW : Below w.heap.size w W := by rw [hW]; exact bl2 _ _ _
    have A : SpC W w.heap.size s := by rw [hW]; exact ⟨by simp [go_sem], by simp [go_sem], by simp [go_sem], by simp [go_sem], by simp [go_sem]⟩
    have R : NoC W (w.heap.size + 1) := by rw [hW]; exact ⟨by simp [go_sem], by simp [go_sem], by simp [go_sem], by simp [go_sem], by simp [go_sem], fun o => by simp [go_sem]⟩
    have HS := hide (hs.below hBW)
    have lA := A.lt
    have lR := R.lt
    have hB0 : Below W.heap.size W W.drew := (Below.refl _ _).drew
    have HK := hide (show ∀ w', Below W.heap.size W w' → (w'.cell? ⟨w.heap.size, 0, none⟩ = some (.bool s.ln) ∧ w'.cell? ⟨w.heap.size, 1, none⟩ = some (.slice s.la s.lN s.lc) ∧ w'.cell? ⟨w.heap.size, 2, none⟩ = some (.bool s.hn) ∧ w'.cell? ⟨w.heap.size, 3, none⟩ = some (.slice s.ha s.hN s.hc)) from fun w' hB => by
      obtain ⟨x0, x1, x2, x3, x4⟩ := A.below hB
      exact ⟨x0, x1, x2, x3⟩)
    go_enter Try.func58, Try.ntmps58
    go_wp2
    obtain ⟨x0, x1, x2, x3, x4⟩ := A
    rw [← hW]
    clear hW
    go_region_held3 (fun w' => w'.cell? ⟨w.heap.size, 0, none⟩ = some (.bool s.ln) ∧ w'.cell? ⟨w.heap.size, 1, none⟩ = some (.slice s.la s.lN s.lc) ∧ w'.cell? ⟨w.heap.size, 2, none⟩ = some (.bool s.hn) ∧ w'.cell? ⟨w.heap.size, 3, none⟩ = some (.slice s.ha s.hN s.hc)) (first | exact unhide HK _ (by first | with_reducible exact hB0 | with_reducible exact hB4 | with_reducible exact hB3 | with_reducible exact hB2 | with_reducible exact hB1) | go_keep)
      (first
        | (go_at_call 83; have hq := hB3; refine (neg_int _ _ _ _ (k + 62505) _ _ (hint3.mono (by omega)) (by omega)).mono ?_; rintro r w4 ⟨neg4, a4, n4, c4, rfl, hint4, hb4⟩; replace hint1 := hint1.below hb4; have hB4 := bthen hB3 hb4; obtain ⟨q0, q1, q2, q3, q4, q5⟩ := R.below hB4; obtain ⟨i0, i1, i2, i3⟩ := unhide HK _ hB4)
        | (go_at_call 94; have hq := hB2; refine (down_z _ _ _ _ k (s.bits - bt) (-hi) _ hint2 (by omega) (by omega) (by omega)).mono ?_; rintro r w3 ⟨neg3, a3, n3, c3, rfl, hint3, hb3⟩; replace hint1 := hint1.below hb3; have hB3 := bthen hB2 hb3)
        | (go_at_call 83; have hq := hB1; refine (neg_int _ _ _ _ k hi _ ((unhide HS).hi.below hB1) (by omega)).mono ?_; rintro r w2 ⟨neg2, a2, n2, c2, rfl, hint2, hb2⟩; replace hint1 := hint1.below hb2; have hB2 := bthen hB1 hb2)
        | (go_at_call 94; refine (down_z _ _ _ _ k (s.bits - bt) lo _ ((unhide HS).lo.below hB0) (by omega) (by omega) (by omega)).mono ?_; rintro r w1 ⟨neg1, a1, n1, c1, rfl, hint1, hb1⟩; have hB1 := bthen hB0 hb1))
    go_wp2
    refine bodyPost_ret (v := .agg #[.bool neg1, .slice a1 n1 c1, .bool neg4, .slice a4 n4 c4, .int .i64 bt]) (by simp [results, Try.results58, go_sem, q0, q1, q2, q3, q4]) rfl ⟨⟨neg1, a1, n1, c1, neg4, a4, n4, c4, bt⟩, rfl, rfl, ?_, ?_⟩
    · exact SpAt.put5 ⟨hint1.mono (by omega), hint4.mono (by omega)⟩ q0 q1 q2 q3 q4 _ _ _ _ _
    · exact set5 (bthen hBW hB4) (Nat.le_succ _) _ _ _ _ _
end Go.Proofs.Ytgmnknmjainabab
