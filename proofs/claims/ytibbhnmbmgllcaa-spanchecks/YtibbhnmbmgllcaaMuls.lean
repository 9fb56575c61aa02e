/-
  What wide.ceilDown, wide.corners of num.Mul, wide.Mul and tailsureref.Times answer of right spans, and that they leave old memory alone.
-/
import Derived.Test.YtibbhnmbmgllcaaRefs
namespace Go.Proofs.Ytibbhnmbmgllcaa
set_option linter.unusedVariables false
set_option linter.unusedSimpArgs false
set_option linter.unnecessarySimpa false
open Go.RowKit
attribute [local go_sem ↓] Go.wp_at_zero Go.wp_at_succ

set_option maxRecDepth 100000 in
set_option maxHeartbeats 2000000 in
theorem ceilDown_z (neg : Bool) (a : Option Addr) (n cap k1 : Nat) (k x : Int) (w : World) (h1 : IntAt w neg a n cap k1 x) (hk1 : k1 ≤ 900000000) (hk0 : -1000000000 ≤ k) (hk : k ≤ 1000000000) :
    Calls Try.prog 125 #[.agg #[.bool neg, .slice a n cap], .int .i64 k] w fun r w' =>
      ∃ neg' a' n' cap', r = .returned (.agg #[.bool neg', .slice a' n' cap']) ∧ IntAt w' neg' a' n' cap' ((-k).toNat / 16 + k1 + 5) (-(downZ (-x) k)) ∧ Below w.heap.size w w' := by
  go_enter Try.func125, Try.ntmps125
  go_wp2_with (first
    | (go_at_call 80; have hq := hb2; refine (neg_int _ _ _ _ ((-k).toNat / 16 + k1 + 5) _ _ hint2 (by omega)).mono ?_; rintro r w3 ⟨neg3, a3, n3, c3, rfl, hint3, hb3⟩; obtain ⟨hsz3, hcell3, hfz3⟩ := near (w.heap.size + 1 + 1) hsz2 hb3)
    | (go_at_call 80; refine (neg_int _ _ _ _ k1 x _ (h1.below (bl2 _ _ _)) (by omega)).mono ?_; rintro r w1 ⟨neg1, a1, n1, c1, rfl, hint1, hb1⟩; obtain ⟨hsz1, hcell1, hfz1⟩ := near (w.heap.size + 1 + 1) (by simp) hb1)
    | (go_at_call 79; refine (down_z _ _ _ _ k1 k (-x) _ hint1 (by omega) hk0 hk).mono ?_; rintro r w2 ⟨neg2, a2, n2, c2, rfl, hint2, hb2⟩; obtain ⟨hsz2, hcell2, hfz2⟩ := near (w.heap.size + 1 + 1) hsz1 hb2))
  have h0 : w3.cell? ⟨w.heap.size + 1, 0, none⟩ = some (.bool false) := by simp [hcell3, hcell2, hcell1, go_sem]
  have h1' : w3.cell? ⟨w.heap.size + 1, 1, none⟩ = some (.slice none 0 0) := by simp [hcell3, hcell2, hcell1, go_sem]
  refine bodyPost_ret (v := .agg #[.bool neg3, .slice a3 n3 c3]) (by simp [results, Try.results125, go_sem, h0, h1']) rfl ⟨neg3, a3, n3, c3, rfl, hint3.put2 h0 h1' _ _, ?_⟩
  exact ((bthen (bthen (bthen (bl2 _ _ _) hb1) hb2) hb3).setCell (p := ⟨w.heap.size + 1, 0, none⟩) (Nat.le_succ _) _).setCell (p := ⟨w.heap.size + 1, 1, none⟩) (Nat.le_succ _) _

set_option maxRecDepth 100000 in
set_option maxHeartbeats 2000000 in
theorem corners_mul (w : World) (s t : Sp) (k : Nat) (lo hi lo' hi' : Int) (hs : SpAt w s k lo hi) (ht : SpAt w t k lo' hi') (hk : k ≤ 300000000) :
    Calls Try.prog 127 #[.agg #[.bool s.ln, .slice s.la s.lN s.lc, .bool s.hn, .slice s.ha s.hN s.hc, .int .i64 s.bits], .agg #[.bool t.ln, .slice t.la t.lN t.lc, .bool t.hn, .slice t.ha t.hN t.hc, .int .i64 t.bits], .func (.func 52) #[] #[]] w fun r w' =>
      ∃ B f, r = .returned (.slice (some ⟨B, 0, none⟩) 4 4) ∧ Nums w' B 4 (k + k) f (pr4 (lo * lo') (lo * hi') (hi * lo') (hi * hi')) ∧ Below w.heap.size w w' := by
  obtain ⟨W, hW⟩ : ∃ W, W = (w.alloc (.cells #[.bool s.ln, .slice s.la s.lN s.lc, .bool s.hn, .slice s.ha s.hN s.hc, .int .i64 s.bits] 26)).alloc (.cells #[.bool t.ln, .slice t.la t.lN t.lc, .bool t.hn, .slice t.ha t.hN t.hc, .int .i64 t.bits] 26) := ⟨_, rfl⟩
  have hBW : Below w.heap.size w W := by rw [hW]; exact bl2 _ _ _
  have a0 : SpC W w.heap.size s := by rw [hW]; exact ⟨by simp [go_sem], by simp [go_sem], by simp [go_sem], by simp [go_sem], by simp [go_sem]⟩
  have g0 : SpC W (w.heap.size + 1) t := by rw [hW]; exact ⟨by simp [go_sem], by simp [go_sem], by simp [go_sem], by simp [go_sem], by simp [go_sem]⟩
  have HS := hide (hs.below hBW)
  have HT := hide (ht.below hBW)
  have hB0 : Below W.heap.size W W.drew := (Below.refl _ _).drew
  have HK := hide (show ∀ w', Below W.heap.size W w' → (w'.cell? ⟨w.heap.size, 0, none⟩ = some (.bool s.ln) ∧ w'.cell? ⟨w.heap.size, 1, none⟩ = some (.slice s.la s.lN s.lc) ∧ w'.cell? ⟨w.heap.size, 2, none⟩ = some (.bool s.hn) ∧ w'.cell? ⟨w.heap.size, 3, none⟩ = some (.slice s.ha s.hN s.hc) ∧ w'.cell? ⟨w.heap.size + 1, 0, none⟩ = some (.bool t.ln) ∧ w'.cell? ⟨w.heap.size + 1, 1, none⟩ = some (.slice t.la t.lN t.lc) ∧ w'.cell? ⟨w.heap.size + 1, 2, none⟩ = some (.bool t.hn) ∧ w'.cell? ⟨w.heap.size + 1, 3, none⟩ = some (.slice t.ha t.hN t.hc)) from fun w' hB => by
    obtain ⟨x0, x1, x2, x3, x4⟩ := a0.below hB
    obtain ⟨y0, y1, y2, y3, y4⟩ := g0.below hB
    exact ⟨x0, x1, x2, x3, y0, y1, y2, y3⟩)
  go_enter Try.func127, Try.ntmps127
  go_wp2
  obtain ⟨x0, x1, x2, x3, x4⟩ := a0
  obtain ⟨y0, y1, y2, y3, y4⟩ := g0
  rw [← hW]
  clear hW
  go_region_held3 (fun w' => w'.cell? ⟨w.heap.size, 0, none⟩ = some (.bool s.ln) ∧ w'.cell? ⟨w.heap.size, 1, none⟩ = some (.slice s.la s.lN s.lc) ∧ w'.cell? ⟨w.heap.size, 2, none⟩ = some (.bool s.hn) ∧ w'.cell? ⟨w.heap.size, 3, none⟩ = some (.slice s.ha s.hN s.hc) ∧ w'.cell? ⟨w.heap.size + 1, 0, none⟩ = some (.bool t.ln) ∧ w'.cell? ⟨w.heap.size + 1, 1, none⟩ = some (.slice t.la t.lN t.lc) ∧ w'.cell? ⟨w.heap.size + 1, 2, none⟩ = some (.bool t.hn) ∧ w'.cell? ⟨w.heap.size + 1, 3, none⟩ = some (.slice t.ha t.hN t.hc)) (exact unhide HK _ (by first | exact hB0 | exact balloc hB4 _ | exact hB4 | exact hB3 | exact hB2 | exact hB1))
    (first
      | (go_at_call 52; have hq := hB3; refine (mul_int _ _ _ _ _ _ _ _ k k hi hi' _ ((unhide HS).hi.below hB3) ((unhide HT).hi.below hB3) (by omega) (by omega)).mono ?_; rintro r w4 ⟨neg4, a4, n4, c4, rfl, hint4, hb4⟩; have hint1 := hint1.below hb4; have hint2 := hint2.below hb4; have hint3 := hint3.below hb4; have hB4 := bthen hB3 hb4)
      | (go_at_call 52; have hq := hB2; refine (mul_int _ _ _ _ _ _ _ _ k k hi lo' _ ((unhide HS).hi.below hB2) ((unhide HT).lo.below hB2) (by omega) (by omega)).mono ?_; rintro r w3 ⟨neg3, a3, n3, c3, rfl, hint3, hb3⟩; have hint1 := hint1.below hb3; have hint2 := hint2.below hb3; have hB3 := bthen hB2 hb3)
      | (go_at_call 52; have hq := hB1; refine (mul_int _ _ _ _ _ _ _ _ k k lo hi' _ ((unhide HS).lo.below hB1) ((unhide HT).hi.below hB1) (by omega) (by omega)).mono ?_; rintro r w2 ⟨neg2, a2, n2, c2, rfl, hint2, hb2⟩; have hint1 := hint1.below hb2; have hB2 := bthen hB1 hb2)
      | (go_at_call 52; have hq := hB0; refine (mul_int _ _ _ _ _ _ _ _ k k lo lo' _ ((unhide HS).lo.below hB0) ((unhide HT).lo.below hB0) (by omega) (by omega)).mono ?_; rintro r w1 ⟨neg1, a1, n1, c1, rfl, hint1, hb1⟩; have hB1 := bthen hB0 hb1))
  go_wp2
  go_ret
  exact ⟨w4.heap.size, pr4 ⟨neg1, a1, n1, c1⟩ ⟨neg2, a2, n2, c2⟩ ⟨neg3, a3, n3, c3⟩ ⟨neg4, a4, n4, c4⟩, rfl, nums4 w4 _ rfl ⟨neg1, a1, n1, c1⟩ ⟨neg2, a2, n2, c2⟩ ⟨neg3, a3, n3, c3⟩ ⟨neg4, a4, n4, c4⟩ _ _ _ _ _ _ hint1 hint2 hint3 hint4, bthen hBW (balloc hB4 _)⟩

set_option maxRecDepth 100000 in
set_option maxHeartbeats 2000000 in
theorem wideMul_int (w : World) (s t : Sp) (k : Nat) (lo hi lo' hi' : Int) (hs : SpAt w s k lo hi) (ht : SpAt w t k lo' hi') (hk : k ≤ 300000000) (hb0 : 0 ≤ s.bits) (hbm : s.bits ≤ 1000000) :
    Calls Try.prog 86 #[.agg #[.bool s.ln, .slice s.la s.lN s.lc, .bool s.hn, .slice s.ha s.hN s.hc, .int .i64 s.bits], .agg #[.bool t.ln, .slice t.la t.lN t.lc, .bool t.hn, .slice t.ha t.hN t.hc, .int .i64 t.bits]] w (SpanAns w s.bits (k + k + 8) (downZ (leastZ (pr4 (lo * lo') (lo * hi') (hi * lo') (hi * hi')) 3) s.bits) (-(downZ (-(mostZ (pr4 (lo * lo') (lo * hi') (hi * lo') (hi * hi')) 3)) s.bits))) := by
  have hbz : (-s.bits).toNat = 0 := by omega
  have ne1 : w.heap.size ≠ w.heap.size + 1 + 1 := by omega
  have ne2 : w.heap.size + 1 + 1 ≠ w.heap.size := by omega
  obtain ⟨W, hW⟩ : ∃ W, W = ((w.alloc (.cells #[.bool s.ln, .slice s.la s.lN s.lc, .bool s.hn, .slice s.ha s.hN s.hc, .int .i64 s.bits] 26)).alloc (.cells #[.bool t.ln, .slice t.la t.lN t.lc, .bool t.hn, .slice t.ha t.hN t.hc, .int .i64 t.bits] 26)).alloc (.cells #[.bool false, .slice none 0 0, .bool false, .slice none 0 0, .int .i64 0] 26) := ⟨_, rfl⟩
  have hBW : Below w.heap.size w W := by rw [hW]; exact bl3 _ _ _ _
  have a0 : SpC W w.heap.size s := by rw [hW]; exact ⟨by simp [go_sem], by simp [go_sem], by simp [go_sem], by simp [go_sem], by simp [go_sem]⟩
  have g0 : SpC W (w.heap.size + 1) t := by rw [hW]; exact ⟨by simp [go_sem], by simp [go_sem], by simp [go_sem], by simp [go_sem], by simp [go_sem]⟩
  have r0 : NoC W (w.heap.size + 1 + 1) := by rw [hW]; exact ⟨by simp [go_sem], by simp [go_sem], by simp [go_sem], by simp [go_sem], by simp [go_sem], fun o => by simp [go_sem]⟩
  have HS := hide (hs.below hBW)
  have HT := hide (ht.below hBW)
  have hB0 : Below W.heap.size W W.drew := (Below.refl _ _).drew
  have HK := hide (show ∀ w', Below W.heap.size W w' → (w'.cell? ⟨w.heap.size, 0, none⟩ = some (.bool s.ln) ∧ w'.cell? ⟨w.heap.size, 1, none⟩ = some (.slice s.la s.lN s.lc) ∧ w'.cell? ⟨w.heap.size, 2, none⟩ = some (.bool s.hn) ∧ w'.cell? ⟨w.heap.size, 3, none⟩ = some (.slice s.ha s.hN s.hc) ∧ w'.cell? ⟨w.heap.size + 1, 0, none⟩ = some (.bool t.ln) ∧ w'.cell? ⟨w.heap.size + 1, 1, none⟩ = some (.slice t.la t.lN t.lc) ∧ w'.cell? ⟨w.heap.size + 1, 2, none⟩ = some (.bool t.hn) ∧ w'.cell? ⟨w.heap.size + 1, 3, none⟩ = some (.slice t.ha t.hN t.hc)) from fun w' hB => by
    obtain ⟨x0, x1, x2, x3, x4⟩ := a0.below hB
    obtain ⟨y0, y1, y2, y3, y4⟩ := g0.below hB
    exact ⟨x0, x1, x2, x3, y0, y1, y2, y3⟩)
  go_enter Try.func86, Try.ntmps86
  go_wp2_with fail
  rw [← hW]
  clear hW
  refine (corners_mul _ s t k lo hi lo' hi' (unhide HS) (unhide HT) hk).mono ?_
  rintro r w1 ⟨B, f, rfl, hN, hb1⟩
  have hN1 := r0.below hb1
  have hl1 := hN1.lt
  obtain ⟨x0, x1, x2, x3, x4⟩ := a0.below hb1
  have a1 : SpC w1 w.heap.size s := ⟨x0, x1, x2, x3, x4⟩
  have HK1 := hide (show ∀ w', Below w1.heap.size w1 w' → w'.cell? ⟨w.heap.size, 4, none⟩ = some (.int .i64 s.bits) from fun w' hB => (a1.below hB).c4)
  have hD0 : Below w1.heap.size w1 w1.drew := (Below.refl _ _).drew
  clear x0 x1 x2 x3
  go_wp2_with fail
  go_region_held3 (fun w' => w'.cell? ⟨w.heap.size, 4, none⟩ = some (.int .i64 s.bits)) (first | exact unhide HK1 _ (by first | exact hD0 | exact hD5 | exact hD4 | exact hD3 | exact hD2) | go_keep)
    (first
      | (go_at_call 88; refine (leastw_int _ 3 _ (k + k) f _ _ (hN.below hD0) (by omega) (by omega)).mono ?_; rintro r w2 ⟨neg2, a2, n2, c2, rfl, hint2, hb2⟩; have hD2 := bthen hD0 hb2)
      | (go_at_call 79; refine (down_z _ _ _ _ (k + k + 1) s.bits _ _ hint2 (by omega) (by omega) (by omega)).mono ?_; rintro r w3 ⟨neg3, a3, n3, c3, rfl, hint3, hb3⟩; have hD3 := bthen hD2 hb3)
      | (go_at_call 89; refine (most_int _ 3 _ (k + k) f _ _ (hN.below hD3) (by omega) (by omega)).mono ?_; rintro r w4 ⟨neg4, a4, n4, c4, rfl, hint4, hb4⟩; have hint3 := hint3.below hb4; have hD4 := bthen hD3 hb4)
      | (go_at_call 125; refine (ceilDown_z _ _ _ _ (k + k + 1) s.bits _ _ hint4 (by omega) (by omega) (by omega)).mono ?_; rintro r w5 ⟨neg5, a5, n5, c5, rfl, hint5, hb5⟩; have hint3 := hint3.below hb5; have hD5 := bthen hD4 hb5; obtain ⟨q0, q1, q2, q3, q4, q5⟩ := hN1.below hD5; have x5 := unhide HK1 _ hD5))
  go_wp2
  refine bodyPost_ret (v := .agg #[.bool neg3, .slice a3 n3 c3, .bool neg5, .slice a5 n5 c5, .int .i64 s.bits]) (by simp [results, Try.results86, go_sem, q0, q1, q2, q3, q4]) rfl ⟨⟨neg3, a3, n3, c3, neg5, a5, n5, c5, s.bits⟩, rfl, rfl, ?_, ?_⟩
  · exact SpAt.put5 ⟨hint3.mono (by omega), hint5.mono (by omega)⟩ q0 q1 q2 q3 q4 _ _ _ _ _
  · exact set5 (bthen (bthen hBW hb1) hD5) (by omega) _ _ _ _ _
end Go.Proofs.Ytibbhnmbmgllcaa
