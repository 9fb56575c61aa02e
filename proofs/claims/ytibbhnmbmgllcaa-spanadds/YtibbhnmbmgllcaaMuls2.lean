/-
  What tailsureref.Times answers of right spans, and that it leaves old memory alone.
-/
import Derived.Test.YtibbhnmbmgllcaaRefs
namespace Go.Proofs.Ytibbhnmbmgllcaa
set_option linter.unusedVariables false
set_option linter.unusedSimpArgs false
set_option linter.unnecessarySimpa false
open Go.RowKit
attribute [local go_sem ↓] Go.wp_at_zero Go.wp_at_succ

set_option maxRecDepth 100000 in
set_option maxHeartbeats 2000000 in
theorem refTimes_int (w : World) (s t : Sp) (k : Nat) (lo hi lo' hi' : Int) (hs : SpAt w s k lo hi) (ht : SpAt w t k lo' hi') (hk : k ≤ 300000000) (hb0 : 0 ≤ s.bits) (hbm : s.bits ≤ 1000000) :
    Calls Try.prog 36 #[.agg #[.bool s.ln, .slice s.la s.lN s.lc, .bool s.hn, .slice s.ha s.hN s.hc, .int .i64 s.bits], .agg #[.bool t.ln, .slice t.la t.lN t.lc, .bool t.hn, .slice t.ha t.hN t.hc, .int .i64 t.bits]] w (SpanAns w s.bits (k + k + 8) (downZ (leastZ (pr4 (lo * lo') (lo * hi') (hi * lo') (hi * hi')) 3) s.bits) (-(downZ (-(mostZ (pr4 (lo * lo') (lo * hi') (hi * lo') (hi * hi')) 3)) s.bits))) := by
  have hbz : (-s.bits).toNat = 0 := by omega
  have ne1 : w.heap.size ≠ w.heap.size + 1 + 1 := by omega
  have ne2 : w.heap.size + 1 + 1 ≠ w.heap.size := by omega
  obtain ⟨W, hW⟩ : ∃ W, W = ((w.alloc (.cells #[.bool s.ln, .slice s.la s.lN s.lc, .bool s.hn, .slice s.ha s.hN s.hc, .int .i64 s.bits] 38)).alloc (.cells #[.bool t.ln, .slice t.la t.lN t.lc, .bool t.hn, .slice t.ha t.hN t.hc, .int .i64 t.bits] 38)).alloc (.cells #[.bool false, .slice none 0 0, .bool false, .slice none 0 0, .int .i64 0] 38) := ⟨_, rfl⟩
  have hBW : Below w.heap.size w W := by rw [hW]; exact bl3 _ _ _ _
  have a0 : SpC W w.heap.size s := by rw [hW]; exact ⟨by simp [go_sem], by simp [go_sem], by simp [go_sem], by simp [go_sem], by simp [go_sem]⟩
  have g0 : SpC W (w.heap.size + 1) t := by rw [hW]; exact ⟨by simp [go_sem], by simp [go_sem], by simp [go_sem], by simp [go_sem], by simp [go_sem]⟩
  have r0 : NoC W (w.heap.size + 1 + 1) := by rw [hW]; exact ⟨by simp [go_sem], by simp [go_sem], by simp [go_sem], by simp [go_sem], by simp [go_sem], fun o => by simp [go_sem]⟩
  have HS := hide (hs.below hBW)
  have HT := hide (ht.below hBW)
  have hB0 : Below W.heap.size W W.drew := (Below.refl _ _).drew
  have HK := hide (show ∀ w', Below W.heap.size W w' → (w'.cell? ⟨w.heap.size, 0, none⟩ = some (.bool s.ln) ∧ w'.cell? ⟨w.heap.size, 1, none⟩ = some (.slice s.la s.lN s.lc) ∧ w'.cell? ⟨w.heap.size, 2, none⟩ = some (.bool s.hn) ∧ w'.cell? ⟨w.heap.size, 3, none⟩ = some (.slice s.ha s.hN s.hc) ∧ w'.cell? ⟨w.heap.size + 1, 0, none⟩ = some (.bool t.ln) ∧ w'.cell? ⟨w.heap.size + 1, 1, none⟩ = some (.slice t.la t.lN t.lc) ∧ w'.cell? ⟨w.heap.size + 1, 2, none⟩ = some (.bool t.hn) ∧ w'.cell? ⟨w.heap.size + 1, 3, none⟩ = some (.slice t.ha t.hN t.hc)) from fun w' hB => by
    obtain ⟨x0, x1, x2, x3, x4⟩ := a0.below hB
    obtain ⟨y0, y1, y2, y3, y4⟩ := g0.below hB
    exact ⟨x0, x1, x2, x3, y0, y1, y2, y3⟩)
  go_enter Try.func36, Try.ntmps36
  go_wp2
  obtain ⟨x0, x1, x2, x3, x4⟩ := a0
  obtain ⟨y0, y1, y2, y3, y4⟩ := g0
  have a0 : SpC W w.heap.size s := ⟨x0, x1, x2, x3, x4⟩
  rw [← hW]
  clear hW
  go_region_held3 (fun w' => w'.cell? ⟨w.heap.size, 0, none⟩ = some (.bool s.ln) ∧ w'.cell? ⟨w.heap.size, 1, none⟩ = some (.slice s.la s.lN s.lc) ∧ w'.cell? ⟨w.heap.size, 2, none⟩ = some (.bool s.hn) ∧ w'.cell? ⟨w.heap.size, 3, none⟩ = some (.slice s.ha s.hN s.hc) ∧ w'.cell? ⟨w.heap.size + 1, 0, none⟩ = some (.bool t.ln) ∧ w'.cell? ⟨w.heap.size + 1, 1, none⟩ = some (.slice t.la t.lN t.lc) ∧ w'.cell? ⟨w.heap.size + 1, 2, none⟩ = some (.bool t.hn) ∧ w'.cell? ⟨w.heap.size + 1, 3, none⟩ = some (.slice t.ha t.hN t.hc)) (exact unhide HK _ (by first | exact hB0 | exact balloc hB4 _ | exact hB4 | exact hB3 | exact hB2 | exact hB1))
    (first
      | (go_at_call 52; have hq := hB3; refine (mul_int _ _ _ _ _ _ _ _ k k hi hi' _ ((unhide HS).hi.below hB3) ((unhide HT).hi.below hB3) (by omega) (by omega)).mono ?_; rintro r w4 ⟨neg4, a4, n4, c4, rfl, hint4, hb4⟩; have hint1 := hint1.below hb4; have hint2 := hint2.below hb4; have hint3 := hint3.below hb4; have hB4 := bthen hB3 hb4)
      | (go_at_call 52; have hq := hB2; refine (mul_int _ _ _ _ _ _ _ _ k k hi lo' _ ((unhide HS).hi.below hB2) ((unhide HT).lo.below hB2) (by omega) (by omega)).mono ?_; rintro r w3 ⟨neg3, a3, n3, c3, rfl, hint3, hb3⟩; have hint1 := hint1.below hb3; have hint2 := hint2.below hb3; have hB3 := bthen hB2 hb3)
      | (go_at_call 52; have hq := hB1; refine (mul_int _ _ _ _ _ _ _ _ k k lo hi' _ ((unhide HS).lo.below hB1) ((unhide HT).hi.below hB1) (by omega) (by omega)).mono ?_; rintro r w2 ⟨neg2, a2, n2, c2, rfl, hint2, hb2⟩; have hint1 := hint1.below hb2; have hB2 := bthen hB1 hb2)
      | (go_at_call 52; have hq := hB0; refine (mul_int _ _ _ _ _ _ _ _ k k lo lo' _ ((unhide HS).lo.below hB0) ((unhide HT).lo.below hB0) (by omega) (by omega)).mono ?_; rintro r w1 ⟨neg1, a1, n1, c1, rfl, hint1, hb1⟩; have hB1 := bthen hB0 hb1))
  obtain ⟨w5, hw5⟩ : ∃ w5, w5 = w4.alloc (.cells #[.bool neg1, .slice a1 n1 c1, .bool neg2, .slice a2 n2 c2, .bool neg3, .slice a3 n3 c3, .bool neg4, .slice a4 n4 c4] 24) := ⟨_, rfl⟩
  have hB5 : Below W.heap.size W w5 := by rw [hw5]; exact balloc hB4 _
  have hN : Nums w5 w4.heap.size 4 (k + k) (pr4 ⟨neg1, a1, n1, c1⟩ ⟨neg2, a2, n2, c2⟩ ⟨neg3, a3, n3, c3⟩ ⟨neg4, a4, n4, c4⟩) (pr4 (lo * lo') (lo * hi') (hi * lo') (hi * hi')) := by rw [hw5]; exact nums4 w4 _ rfl ⟨neg1, a1, n1, c1⟩ ⟨neg2, a2, n2, c2⟩ ⟨neg3, a3, n3, c3⟩ ⟨neg4, a4, n4, c4⟩ _ _ _ _ _ _ hint1 hint2 hint3 hint4
  have hN1 := r0.below hB5
  have a5 := a0.below hB5
  have hl1 := hN1.lt
  have x45 := a5.c4
  have HK1 := hide (show ∀ w', Below w5.heap.size w5 w' → w'.cell? ⟨w.heap.size, 4, none⟩ = some (.int .i64 s.bits) from fun w' hB => (a5.below hB).c4)
  have hD0 : Below w5.heap.size w5 w5.drew := (Below.refl _ _).drew
  clear x0 x1 x2 x3 x4 y0 y1 y2 y3 y4 hb1 hb2 hb3 hb4 hint1 hint2 hint3 hint4 hB1 hB2 hB3 hB4 hB0 a0 HK HS HT
  go_wp2
  rw [← hw5]
  clear hw5
  go_region_held3 (fun w' => w'.cell? ⟨w.heap.size, 4, none⟩ = some (.int .i64 s.bits)) (first | exact unhide HK1 _ (by first | exact hD0 | exact hD11 | exact hD10 | exact hD9 | exact hD8 | exact hD7 | exact hD6) | go_keep)
    (first
      | (go_at_call 91; refine (least_int _ 3 _ (k + k) _ _ _ (hN.below hD0) (by omega)).mono ?_; rintro r w6 ⟨neg6, a6, n6, c6, rfl, hint6, hb6⟩; have hD6 := bthen hD0 hb6)
      | (go_at_call 80; have hq := hD10; refine (neg_int _ _ _ _ (k + k + 5) _ _ hint10 (by omega)).mono ?_; rintro r w11 ⟨neg11, a11, n11, c11, rfl, hint11, hb11⟩; have hint7 := hint7.below hb11; have hD11 := bthen hD10 hb11; obtain ⟨q0, q1, q2, q3, q4, q5⟩ := hN1.below hD11; have x5 := unhide HK1 _ hD11)
      | (go_at_call 79; have hq := hD9; refine (down_z _ _ _ _ (k + k) s.bits _ _ hint9 (by omega) (by omega) (by omega)).mono ?_; rintro r w10 ⟨neg10, a10, n10, c10, rfl, hint10, hb10⟩; have hint10 := hint10.mono (show _ ≤ k + k + 5 by omega); have hint7 := hint7.below hb10; have hD10 := bthen hD9 hb10)
      | (go_at_call 80; have hq := hD8; refine (neg_int _ _ _ _ (k + k) _ _ hint8 (by omega)).mono ?_; rintro r w9 ⟨neg9, a9, n9, c9, rfl, hint9, hb9⟩; have hint7 := hint7.below hb9; have hD9 := bthen hD8 hb9)
      | (go_at_call 92; refine (greatest_int _ 3 _ (k + k) _ _ _ (hN.below hD7) (by omega)).mono ?_; rintro r w8 ⟨neg8, a8, n8, c8, rfl, hint8, hb8⟩; have hint7 := hint7.below hb8; have hD8 := bthen hD7 hb8)
      | (go_at_call 79; refine (down_z _ _ _ _ (k + k) s.bits _ _ hint6 (by omega) (by omega) (by omega)).mono ?_; rintro r w7 ⟨neg7, a7, n7, c7, rfl, hint7, hb7⟩; have hD7 := bthen hD6 hb7))
  go_wp2
  refine bodyPost_ret (v := .agg #[.bool neg7, .slice a7 n7 c7, .bool neg11, .slice a11 n11 c11, .int .i64 s.bits]) (by simp [results, Try.results36, go_sem, q0, q1, q2, q3, q4]) rfl ⟨⟨neg7, a7, n7, c7, neg11, a11, n11, c11, s.bits⟩, rfl, rfl, ?_, ?_⟩
  · exact SpAt.put5 ⟨hint7.mono (by omega), hint11.mono (by omega)⟩ q0 q1 q2 q3 q4 _ _ _ _ _
  · exact set5 (bthen (bthen hBW hB5) hD11) (by omega) _ _ _ _ _
end Go.Proofs.Ytibbhnmbmgllcaa
