/-
  What the ways that wide.Div hands to wide.corners answer, and wide.corners of them, and that they leave old memory alone.
  What wide.Div answers of right spans, the second one more than 0, and that it leaves old memory alone.
  What wide.Div answers of right spans, the second one less than 0; and both ways together; and that it leaves old memory alone.
  The numbers of wide.Erf: what they have, how far from 0 they are, how wide. Plain arithmetic: no statement of the seat is proved here.
-/
import Derived.Test.YtgmnknmjainababK12
namespace Go.Proofs.Ytgmnknmjainabab
set_option linter.unusedVariables false
set_option linter.unusedSimpArgs false
set_option linter.unnecessarySimpa false
open Go.RowKit
attribute [local go_sem ↓] Go.wp_at_zero Go.wp_at_succ

set_option maxRecDepth 100000 in
set_option maxHeartbeats 2000000 in
theorem div1_int (neg neg2 : Bool) (a c : Option Addr) (n m cap cap2 k k2 b B : Nat) (x y : Int) (w : World) (h1 : IntAt w neg a n cap k x) (h2 : IntAt w neg2 c m cap2 k2 y) (hk : k ≤ 300000000) (hb : b ≤ 1000000) (hy : 0 < y) (hc : w.cell? ⟨B, 4, none⟩ = some (.int .i64 b)) :
    Calls Try.prog 157 #[.agg #[.bool neg, .slice a n cap], .agg #[.bool neg2, .slice c m cap2], .pointer (some ⟨B, 0, none⟩)] w (IntAns w (b / 16 + k + 9) (x * Q b / y)) := by
  have lB : B < w.heap.size := World.block_lt_of_cell? w ⟨B, 4, none⟩ hc
  have ne1 : w.heap.size ≠ w.heap.size + 1 + 1 := by omega
  have ne2 : w.heap.size + 1 + 1 ≠ w.heap.size := by omega
  obtain ⟨W, hW⟩ : ∃ W, W = ((w.alloc (.cells #[.bool neg, .slice a n cap] 26)).alloc (.cells #[.bool neg2, .slice c m cap2] 26)).alloc (.cells #[.bool false, .slice none 0 0] 26) := ⟨_, rfl⟩
  have hBW : Below w.heap.size w W := by rw [hW]; exact bl3 _ _ _ _
  have A : NmC W w.heap.size ⟨neg, a, n, cap⟩ := by rw [hW]; exact ⟨by simp [go_sem], by simp [go_sem]⟩
  have G : NmC W (w.heap.size + 1) ⟨neg2, c, m, cap2⟩ := by rw [hW]; exact ⟨by simp [go_sem], by simp [go_sem]⟩
  have R : NoI W (w.heap.size + 1 + 1) := by rw [hW]; exact ⟨by simp [go_sem], by simp [go_sem], fun o => by simp [go_sem]⟩
  have hcW := (hBW.cell (p := ⟨B, 4, none⟩) lB).trans hc
  have lBW := Nat.lt_of_lt_of_le lB hBW.size
  have HX := hide (h1.below hBW)
  have HY := hide (h2.below hBW)
  have hB0 : Below W.heap.size W W.drew := (Below.refl _ _).drew
  have lR := R.lt
  have nB : B ≠ w.heap.size + 1 + 1 := by omega
  have nB' : w.heap.size + 1 + 1 ≠ B := by omega
  have HK := hide (show ∀ w', Below W.heap.size W w' → (w'.cell? ⟨w.heap.size, 0, none⟩ = some (.bool neg) ∧ w'.cell? ⟨w.heap.size, 1, none⟩ = some (.slice a n cap) ∧ w'.cell? ⟨w.heap.size + 1, 0, none⟩ = some (.bool neg2) ∧ w'.cell? ⟨w.heap.size + 1, 1, none⟩ = some (.slice c m cap2) ∧ w'.cell? ⟨B, 4, none⟩ = some (.int .i64 b)) from fun w' hB => ⟨(A.below hB).c0, (A.below hB).c1, (G.below hB).c0, (G.below hB).c1, (hB.cell (p := ⟨B, 4, none⟩) lBW).trans hcW⟩)
  go_enter Try.func157, Try.ntmps157
  go_wp2
  rw [← hW]
  clear hW
  obtain ⟨i0, i1, i2, i3, i4⟩ := unhide HK _ (Below.refl _ _)
  go_region_held3 (fun w' => w'.cell? ⟨w.heap.size, 0, none⟩ = some (.bool neg) ∧ w'.cell? ⟨w.heap.size, 1, none⟩ = some (.slice a n cap) ∧ w'.cell? ⟨w.heap.size + 1, 0, none⟩ = some (.bool neg2) ∧ w'.cell? ⟨w.heap.size + 1, 1, none⟩ = some (.slice c m cap2) ∧ w'.cell? ⟨B, 4, none⟩ = some (.int .i64 b)) (first | exact unhide HK _ (by first | with_reducible exact hB0 | with_reducible exact hB2 | with_reducible exact hB1) | go_keep)
    (first
      | (go_at_call 113; refine (up_int _ _ _ _ b k x _ ((unhide HX).below hB0) (by omega) (by omega)).mono ?_; rintro r w1 ⟨neg1, a1, n1, c1, rfl, hint1, hb1⟩; have hB1 := bthen hB0 hb1)
      | (go_at_call 105; refine (floor_any _ _ _ _ _ _ _ _ (b / 16 + k + 1) k2 (x * Q b) y _ hint1 ((unhide HY).below hB1) (by omega) hy).mono ?_; rintro r w2 ⟨neg3, a3, n3, c3, rfl, hint3, hb2⟩; have hB2 := bthen hB1 hb2; obtain ⟨q0, q1, q2⟩ := R.below hB2; obtain ⟨d0, d1, d2, d3, d4⟩ := unhide HK _ hB2))
  clear i0 i1 i2 i3 i4
  go_wp2
  refine bodyPost_ret (v := .agg #[.bool neg3, .slice a3 n3 c3]) (by simp [results, Try.results157, go_sem, q0, q1]) rfl ⟨neg3, a3, n3, c3, rfl, (hint3.put2 q0 q1 _ _).mono (by omega), ?_⟩
  exact set2 (bthen hBW hB2) (by omega) _ _

set_option maxRecDepth 100000 in
set_option maxHeartbeats 2000000 in
theorem div2_int (neg neg2 : Bool) (a c : Option Addr) (n m cap cap2 k k2 b B : Nat) (x y : Int) (w : World) (h1 : IntAt w neg a n cap k x) (h2 : IntAt w neg2 c m cap2 k2 y) (hk : k ≤ 300000000) (hb : b ≤ 1000000) (hy : 0 < y) (hc : w.cell? ⟨B, 4, none⟩ = some (.int .i64 b)) :
    Calls Try.prog 158 #[.agg #[.bool neg, .slice a n cap], .agg #[.bool neg2, .slice c m cap2], .pointer (some ⟨B, 0, none⟩)] w (IntAns w (b / 16 + k + 9) (-(-(x * Q b) / y))) := by
  have lB : B < w.heap.size := World.block_lt_of_cell? w ⟨B, 4, none⟩ hc
  have ne1 : w.heap.size ≠ w.heap.size + 1 + 1 := by omega
  have ne2 : w.heap.size + 1 + 1 ≠ w.heap.size := by omega
  obtain ⟨W, hW⟩ : ∃ W, W = ((w.alloc (.cells #[.bool neg, .slice a n cap] 26)).alloc (.cells #[.bool neg2, .slice c m cap2] 26)).alloc (.cells #[.bool false, .slice none 0 0] 26) := ⟨_, rfl⟩
  have hBW : Below w.heap.size w W := by rw [hW]; exact bl3 _ _ _ _
  have A : NmC W w.heap.size ⟨neg, a, n, cap⟩ := by rw [hW]; exact ⟨by simp [go_sem], by simp [go_sem]⟩
  have G : NmC W (w.heap.size + 1) ⟨neg2, c, m, cap2⟩ := by rw [hW]; exact ⟨by simp [go_sem], by simp [go_sem]⟩
  have R : NoI W (w.heap.size + 1 + 1) := by rw [hW]; exact ⟨by simp [go_sem], by simp [go_sem], fun o => by simp [go_sem]⟩
  have hcW := (hBW.cell (p := ⟨B, 4, none⟩) lB).trans hc
  have lBW := Nat.lt_of_lt_of_le lB hBW.size
  have HX := hide (h1.below hBW)
  have HY := hide (h2.below hBW)
  have hB0 : Below W.heap.size W W.drew := (Below.refl _ _).drew
  have lR := R.lt
  have nB : B ≠ w.heap.size + 1 + 1 := by omega
  have nB' : w.heap.size + 1 + 1 ≠ B := by omega
  have HK := hide (show ∀ w', Below W.heap.size W w' → (w'.cell? ⟨w.heap.size, 0, none⟩ = some (.bool neg) ∧ w'.cell? ⟨w.heap.size, 1, none⟩ = some (.slice a n cap) ∧ w'.cell? ⟨w.heap.size + 1, 0, none⟩ = some (.bool neg2) ∧ w'.cell? ⟨w.heap.size + 1, 1, none⟩ = some (.slice c m cap2) ∧ w'.cell? ⟨B, 4, none⟩ = some (.int .i64 b)) from fun w' hB => ⟨(A.below hB).c0, (A.below hB).c1, (G.below hB).c0, (G.below hB).c1, (hB.cell (p := ⟨B, 4, none⟩) lBW).trans hcW⟩)
  go_enter Try.func158, Try.ntmps158
  go_wp2
  rw [← hW]
  clear hW
  obtain ⟨i0, i1, i2, i3, i4⟩ := unhide HK _ (Below.refl _ _)
  go_region_held3 (fun w' => w'.cell? ⟨w.heap.size, 0, none⟩ = some (.bool neg) ∧ w'.cell? ⟨w.heap.size, 1, none⟩ = some (.slice a n cap) ∧ w'.cell? ⟨w.heap.size + 1, 0, none⟩ = some (.bool neg2) ∧ w'.cell? ⟨w.heap.size + 1, 1, none⟩ = some (.slice c m cap2) ∧ w'.cell? ⟨B, 4, none⟩ = some (.int .i64 b)) (first | exact unhide HK _ (by first | with_reducible exact hB0 | with_reducible exact hB2 | with_reducible exact hB1) | go_keep)
    (first
      | (go_at_call 113; refine (up_int _ _ _ _ b k x _ ((unhide HX).below hB0) (by omega) (by omega)).mono ?_; rintro r w1 ⟨neg1, a1, n1, c1, rfl, hint1, hb1⟩; have hB1 := bthen hB0 hb1)
      | (go_at_call 114; refine (ceil_any _ _ _ _ _ _ _ _ (b / 16 + k + 1) k2 (x * Q b) y _ hint1 ((unhide HY).below hB1) (by omega) hy).mono ?_; rintro r w2 ⟨neg3, a3, n3, c3, rfl, hint3, hb2⟩; have hB2 := bthen hB1 hb2; obtain ⟨q0, q1, q2⟩ := R.below hB2; obtain ⟨d0, d1, d2, d3, d4⟩ := unhide HK _ hB2))
  clear i0 i1 i2 i3 i4
  go_wp2
  refine bodyPost_ret (v := .agg #[.bool neg3, .slice a3 n3 c3]) (by simp [results, Try.results158, go_sem, q0, q1]) rfl ⟨neg3, a3, n3, c3, rfl, (hint3.put2 q0 q1 _ _).mono (by omega), ?_⟩
  exact set2 (bthen hBW hB2) (by omega) _ _

set_option maxRecDepth 100000 in
set_option maxHeartbeats 2000000 in
theorem corners_div1 (w : World) (s t : Sp) (k b B : Nat) (lo hi lo' hi' : Int) (hs : SpAt w s k lo hi) (ht : SpAt w t k lo' hi') (hk : k ≤ 300000000) (hb : b ≤ 1000000) (hp : 0 < lo') (hp2 : 0 < hi') (hc : w.cell? ⟨B, 4, none⟩ = some (.int .i64 b)) :
    Calls Try.prog 115 #[.agg #[.bool s.ln, .slice s.la s.lN s.lc, .bool s.hn, .slice s.ha s.hN s.hc, .int .i64 s.bits], .agg #[.bool t.ln, .slice t.la t.lN t.lc, .bool t.hn, .slice t.ha t.hN t.hc, .int .i64 t.bits], .func (.func 157) #[] #[.pointer (some ⟨B, 0, none⟩)]] w fun r w' =>
      ∃ B' f, r = .returned (.slice (some ⟨B', 0, none⟩) 4 4) ∧ Nums w' B' 4 (b / 16 + k + 9) f (pr4 (lo * Q b / lo') (lo * Q b / hi') (hi * Q b / lo') (hi * Q b / hi')) ∧ Below w.heap.size w w' := by
  have lB : B < w.heap.size := World.block_lt_of_cell? w ⟨B, 4, none⟩ hc
  obtain ⟨W, hW⟩ : ∃ W, W = (w.alloc (.cells #[.bool s.ln, .slice s.la s.lN s.lc, .bool s.hn, .slice s.ha s.hN s.hc, .int .i64 s.bits] 28)).alloc (.cells #[.bool t.ln, .slice t.la t.lN t.lc, .bool t.hn, .slice t.ha t.hN t.hc, .int .i64 t.bits] 28) := ⟨_, rfl⟩
  have hBW : Below w.heap.size w W := by rw [hW]; exact bl2 _ _ _
  have a0 : SpC W w.heap.size s := by rw [hW]; exact ⟨by simp [go_sem], by simp [go_sem], by simp [go_sem], by simp [go_sem], by simp [go_sem]⟩
  have g0 : SpC W (w.heap.size + 1) t := by rw [hW]; exact ⟨by simp [go_sem], by simp [go_sem], by simp [go_sem], by simp [go_sem], by simp [go_sem]⟩
  have hcW := (hBW.cell (p := ⟨B, 4, none⟩) lB).trans hc
  have lBW := Nat.lt_of_lt_of_le lB hBW.size
  have HS := hide (hs.below hBW)
  have HT := hide (ht.below hBW)
  have hB0 : Below W.heap.size W W.drew := (Below.refl _ _).drew
  have HKB := hide (show ∀ w', Below W.heap.size W w' → w'.cell? ⟨B, 4, none⟩ = some (.int .i64 b) from fun w' hB => (hB.cell (p := ⟨B, 4, none⟩) lBW).trans hcW)
  have HK := hide (show ∀ w', Below W.heap.size W w' → (w'.cell? ⟨w.heap.size, 0, none⟩ = some (.bool s.ln) ∧ w'.cell? ⟨w.heap.size, 1, none⟩ = some (.slice s.la s.lN s.lc) ∧ w'.cell? ⟨w.heap.size, 2, none⟩ = some (.bool s.hn) ∧ w'.cell? ⟨w.heap.size, 3, none⟩ = some (.slice s.ha s.hN s.hc) ∧ w'.cell? ⟨w.heap.size + 1, 0, none⟩ = some (.bool t.ln) ∧ w'.cell? ⟨w.heap.size + 1, 1, none⟩ = some (.slice t.la t.lN t.lc) ∧ w'.cell? ⟨w.heap.size + 1, 2, none⟩ = some (.bool t.hn) ∧ w'.cell? ⟨w.heap.size + 1, 3, none⟩ = some (.slice t.ha t.hN t.hc)) from fun w' hB => by
    obtain ⟨x0, x1, x2, x3, x4⟩ := a0.below hB
    obtain ⟨y0, y1, y2, y3, y4⟩ := g0.below hB
    exact ⟨x0, x1, x2, x3, y0, y1, y2, y3⟩)
  go_enter Try.func115, Try.ntmps115
  go_wp2
  obtain ⟨x0, x1, x2, x3, x4⟩ := a0
  obtain ⟨y0, y1, y2, y3, y4⟩ := g0
  rw [← hW]
  clear hW
  go_region_held3 (fun w' => w'.cell? ⟨w.heap.size, 0, none⟩ = some (.bool s.ln) ∧ w'.cell? ⟨w.heap.size, 1, none⟩ = some (.slice s.la s.lN s.lc) ∧ w'.cell? ⟨w.heap.size, 2, none⟩ = some (.bool s.hn) ∧ w'.cell? ⟨w.heap.size, 3, none⟩ = some (.slice s.ha s.hN s.hc) ∧ w'.cell? ⟨w.heap.size + 1, 0, none⟩ = some (.bool t.ln) ∧ w'.cell? ⟨w.heap.size + 1, 1, none⟩ = some (.slice t.la t.lN t.lc) ∧ w'.cell? ⟨w.heap.size + 1, 2, none⟩ = some (.bool t.hn) ∧ w'.cell? ⟨w.heap.size + 1, 3, none⟩ = some (.slice t.ha t.hN t.hc)) (exact unhide HK _ (by first | with_reducible exact hB0 | with_reducible exact balloc hB4 _ | with_reducible exact hB4 | with_reducible exact hB3 | with_reducible exact hB2 | with_reducible exact hB1))
    (first
      | (go_at_call 157; have hq := hB3; refine (div1_int _ _ _ _ _ _ _ _ k k b B hi hi' _ ((unhide HS).hi.below hB3) ((unhide HT).hi.below hB3) hk hb hp2 (unhide HKB _ hB3)).mono ?_; rintro r w4 ⟨neg4, a4, n4, c4, rfl, hint4, hb4⟩; replace hint1 := hint1.below hb4; replace hint2 := hint2.below hb4; replace hint3 := hint3.below hb4; have hB4 := bthen hB3 hb4)
      | (go_at_call 157; have hq := hB2; refine (div1_int _ _ _ _ _ _ _ _ k k b B hi lo' _ ((unhide HS).hi.below hB2) ((unhide HT).lo.below hB2) hk hb hp (unhide HKB _ hB2)).mono ?_; rintro r w3 ⟨neg3, a3, n3, c3, rfl, hint3, hb3⟩; replace hint1 := hint1.below hb3; replace hint2 := hint2.below hb3; have hB3 := bthen hB2 hb3)
      | (go_at_call 157; have hq := hB1; refine (div1_int _ _ _ _ _ _ _ _ k k b B lo hi' _ ((unhide HS).lo.below hB1) ((unhide HT).hi.below hB1) hk hb hp2 (unhide HKB _ hB1)).mono ?_; rintro r w2 ⟨neg2, a2, n2, c2, rfl, hint2, hb2⟩; replace hint1 := hint1.below hb2; have hB2 := bthen hB1 hb2)
      | (go_at_call 157; have hq := hB0; refine (div1_int _ _ _ _ _ _ _ _ k k b B lo lo' _ ((unhide HS).lo.below hB0) ((unhide HT).lo.below hB0) hk hb hp (unhide HKB _ hB0)).mono ?_; rintro r w1 ⟨neg1, a1, n1, c1, rfl, hint1, hb1⟩; have hB1 := bthen hB0 hb1))
  go_wp2
  go_ret
  exact ⟨w4.heap.size, pr4 ⟨neg1, a1, n1, c1⟩ ⟨neg2, a2, n2, c2⟩ ⟨neg3, a3, n3, c3⟩ ⟨neg4, a4, n4, c4⟩, rfl, nums4 w4 _ rfl ⟨neg1, a1, n1, c1⟩ ⟨neg2, a2, n2, c2⟩ ⟨neg3, a3, n3, c3⟩ ⟨neg4, a4, n4, c4⟩ _ _ _ _ _ _ hint1 hint2 hint3 hint4, bthen hBW (balloc hB4 _)⟩

set_option maxRecDepth 100000 in
set_option maxHeartbeats 2000000 in
theorem corners_div2 (w : World) (s t : Sp) (k b B : Nat) (lo hi lo' hi' : Int) (hs : SpAt w s k lo hi) (ht : SpAt w t k lo' hi') (hk : k ≤ 300000000) (hb : b ≤ 1000000) (hp : 0 < lo') (hp2 : 0 < hi') (hc : w.cell? ⟨B, 4, none⟩ = some (.int .i64 b)) :
    Calls Try.prog 115 #[.agg #[.bool s.ln, .slice s.la s.lN s.lc, .bool s.hn, .slice s.ha s.hN s.hc, .int .i64 s.bits], .agg #[.bool t.ln, .slice t.la t.lN t.lc, .bool t.hn, .slice t.ha t.hN t.hc, .int .i64 t.bits], .func (.func 158) #[] #[.pointer (some ⟨B, 0, none⟩)]] w fun r w' =>
      ∃ B' f, r = .returned (.slice (some ⟨B', 0, none⟩) 4 4) ∧ Nums w' B' 4 (b / 16 + k + 9) f (pr4 (-(-(lo * Q b) / lo')) (-(-(lo * Q b) / hi')) (-(-(hi * Q b) / lo')) (-(-(hi * Q b) / hi'))) ∧ Below w.heap.size w w' := by
  have lB : B < w.heap.size := World.block_lt_of_cell? w ⟨B, 4, none⟩ hc
  obtain ⟨W, hW⟩ : ∃ W, W = (w.alloc (.cells #[.bool s.ln, .slice s.la s.lN s.lc, .bool s.hn, .slice s.ha s.hN s.hc, .int .i64 s.bits] 28)).alloc (.cells #[.bool t.ln, .slice t.la t.lN t.lc, .bool t.hn, .slice t.ha t.hN t.hc, .int .i64 t.bits] 28) := ⟨_, rfl⟩
  have hBW : Below w.heap.size w W := by rw [hW]; exact bl2 _ _ _
  have a0 : SpC W w.heap.size s := by rw [hW]; exact ⟨by simp [go_sem], by simp [go_sem], by simp [go_sem], by simp [go_sem], by simp [go_sem]⟩
  have g0 : SpC W (w.heap.size + 1) t := by rw [hW]; exact ⟨by simp [go_sem], by simp [go_sem], by simp [go_sem], by simp [go_sem], by simp [go_sem]⟩
  have hcW := (hBW.cell (p := ⟨B, 4, none⟩) lB).trans hc
  have lBW := Nat.lt_of_lt_of_le lB hBW.size
  have HS := hide (hs.below hBW)
  have HT := hide (ht.below hBW)
  have hB0 : Below W.heap.size W W.drew := (Below.refl _ _).drew
  have HKB := hide (show ∀ w', Below W.heap.size W w' → w'.cell? ⟨B, 4, none⟩ = some (.int .i64 b) from fun w' hB => (hB.cell (p := ⟨B, 4, none⟩) lBW).trans hcW)
  have HK := hide (show ∀ w', Below W.heap.size W w' → (w'.cell? ⟨w.heap.size, 0, none⟩ = some (.bool s.ln) ∧ w'.cell? ⟨w.heap.size, 1, none⟩ = some (.slice s.la s.lN s.lc) ∧ w'.cell? ⟨w.heap.size, 2, none⟩ = some (.bool s.hn) ∧ w'.cell? ⟨w.heap.size, 3, none⟩ = some (.slice s.ha s.hN s.hc) ∧ w'.cell? ⟨w.heap.size + 1, 0, none⟩ = some (.bool t.ln) ∧ w'.cell? ⟨w.heap.size + 1, 1, none⟩ = some (.slice t.la t.lN t.lc) ∧ w'.cell? ⟨w.heap.size + 1, 2, none⟩ = some (.bool t.hn) ∧ w'.cell? ⟨w.heap.size + 1, 3, none⟩ = some (.slice t.ha t.hN t.hc)) from fun w' hB => by
    obtain ⟨x0, x1, x2, x3, x4⟩ := a0.below hB
    obtain ⟨y0, y1, y2, y3, y4⟩ := g0.below hB
    exact ⟨x0, x1, x2, x3, y0, y1, y2, y3⟩)
  go_enter Try.func115, Try.ntmps115
  go_wp2
  obtain ⟨x0, x1, x2, x3, x4⟩ := a0
  obtain ⟨y0, y1, y2, y3, y4⟩ := g0
  rw [← hW]
  clear hW
  go_region_held3 (fun w' => w'.cell? ⟨w.heap.size, 0, none⟩ = some (.bool s.ln) ∧ w'.cell? ⟨w.heap.size, 1, none⟩ = some (.slice s.la s.lN s.lc) ∧ w'.cell? ⟨w.heap.size, 2, none⟩ = some (.bool s.hn) ∧ w'.cell? ⟨w.heap.size, 3, none⟩ = some (.slice s.ha s.hN s.hc) ∧ w'.cell? ⟨w.heap.size + 1, 0, none⟩ = some (.bool t.ln) ∧ w'.cell? ⟨w.heap.size + 1, 1, none⟩ = some (.slice t.la t.lN t.lc) ∧ w'.cell? ⟨w.heap.size + 1, 2, none⟩ = some (.bool t.hn) ∧ w'.cell? ⟨w.heap.size + 1, 3, none⟩ = some (.slice t.ha t.hN t.hc)) (exact unhide HK _ (by first | with_reducible exact hB0 | with_reducible exact balloc hB4 _ | with_reducible exact hB4 | with_reducible exact hB3 | with_reducible exact hB2 | with_reducible exact hB1))
    (first
      | (go_at_call 158; have hq := hB3; refine (div2_int _ _ _ _ _ _ _ _ k k b B hi hi' _ ((unhide HS).hi.below hB3) ((unhide HT).hi.below hB3) hk hb hp2 (unhide HKB _ hB3)).mono ?_; rintro r w4 ⟨neg4, a4, n4, c4, rfl, hint4, hb4⟩; replace hint1 := hint1.below hb4; replace hint2 := hint2.below hb4; replace hint3 := hint3.below hb4; have hB4 := bthen hB3 hb4)
      | (go_at_call 158; have hq := hB2; refine (div2_int _ _ _ _ _ _ _ _ k k b B hi lo' _ ((unhide HS).hi.below hB2) ((unhide HT).lo.below hB2) hk hb hp (unhide HKB _ hB2)).mono ?_; rintro r w3 ⟨neg3, a3, n3, c3, rfl, hint3, hb3⟩; replace hint1 := hint1.below hb3; replace hint2 := hint2.below hb3; have hB3 := bthen hB2 hb3)
      | (go_at_call 158; have hq := hB1; refine (div2_int _ _ _ _ _ _ _ _ k k b B lo hi' _ ((unhide HS).lo.below hB1) ((unhide HT).hi.below hB1) hk hb hp2 (unhide HKB _ hB1)).mono ?_; rintro r w2 ⟨neg2, a2, n2, c2, rfl, hint2, hb2⟩; replace hint1 := hint1.below hb2; have hB2 := bthen hB1 hb2)
      | (go_at_call 158; have hq := hB0; refine (div2_int _ _ _ _ _ _ _ _ k k b B lo lo' _ ((unhide HS).lo.below hB0) ((unhide HT).lo.below hB0) hk hb hp (unhide HKB _ hB0)).mono ?_; rintro r w1 ⟨neg1, a1, n1, c1, rfl, hint1, hb1⟩; have hB1 := bthen hB0 hb1))
  go_wp2
  go_ret
  exact ⟨w4.heap.size, pr4 ⟨neg1, a1, n1, c1⟩ ⟨neg2, a2, n2, c2⟩ ⟨neg3, a3, n3, c3⟩ ⟨neg4, a4, n4, c4⟩, rfl, nums4 w4 _ rfl ⟨neg1, a1, n1, c1⟩ ⟨neg2, a2, n2, c2⟩ ⟨neg3, a3, n3, c3⟩ ⟨neg4, a4, n4, c4⟩ _ _ _ _ _ _ hint1 hint2 hint3 hint4, bthen hBW (balloc hB4 _)⟩
end Go.Proofs.Ytgmnknmjainabab

namespace Go.Proofs.Ytgmnknmjainabab
set_option linter.unusedVariables false
set_option linter.unusedSimpArgs false
set_option linter.unnecessarySimpa false
open Go.RowKit
attribute [local go_sem ↓] Go.wp_at_zero Go.wp_at_succ

set_option maxRecDepth 100000 in
set_option maxHeartbeats 2000000 in
theorem wideDiv_pos (w : World) (s t : Sp) (k b : Nat) (lo hi lo' hi' : Int) (hs : SpAt w s k lo hi) (ht : SpAt w t k lo' hi') (hk : k ≤ 300000000) (hb : b ≤ 1000000) (hbits : s.bits = b) (hp : 0 < lo') (hp2 : 0 < hi') :
    Calls Try.prog 130 #[.agg #[.bool s.ln, .slice s.la s.lN s.lc, .bool s.hn, .slice s.ha s.hN s.hc, .int .i64 s.bits], .agg #[.bool t.ln, .slice t.la t.lN t.lc, .bool t.hn, .slice t.ha t.hN t.hc, .int .i64 t.bits]] w (SpanAns w b (b / 16 + k + 10) (leastZ (pr4 (lo * Q b / lo') (lo * Q b / hi') (hi * Q b / lo') (hi * Q b / hi')) 3) (mostZ (pr4 (-(-(lo * Q b) / lo')) (-(-(lo * Q b) / hi')) (-(-(hi * Q b) / lo')) (-(-(hi * Q b) / hi'))) 3)) := by
  have HBT := hide hbits
  have t1 : ¬ cmpInt hi' 0 < 0 := by unfold cmpInt; rw [if_neg (by omega)]; split <;> omega
  clear hbits
  obtain ⟨W, hW⟩ : ∃ W, W = ((w.alloc (.cells #[.bool s.ln, .slice s.la s.lN s.lc, .bool s.hn, .slice s.ha s.hN s.hc, .int .i64 s.bits] 28)).alloc (.cells #[.bool t.ln, .slice t.la t.lN t.lc, .bool t.hn, .slice t.ha t.hN t.hc, .int .i64 t.bits] 28)).alloc (.cells #[.bool false, .slice none 0 0, .bool false, .slice none 0 0, .int .i64 0] 28) := ⟨_, rfl⟩
  have hBW : Below w.heap.size w W := by rw [hW]; exact bl3 _ _ _ _
  have A : SpC W w.heap.size s := by rw [hW]; exact ⟨by simp [go_sem], by simp [go_sem], by simp [go_sem], by simp [go_sem], by simp [go_sem]⟩
  have G : SpC W (w.heap.size + 1) t := by rw [hW]; exact ⟨by simp [go_sem], by simp [go_sem], by simp [go_sem], by simp [go_sem], by simp [go_sem]⟩
  have R : NoC W (w.heap.size + 1 + 1) := by rw [hW]; exact ⟨by simp [go_sem], by simp [go_sem], by simp [go_sem], by simp [go_sem], by simp [go_sem], fun o => by simp [go_sem]⟩
  replace hs := hs.below hBW
  replace ht := ht.below hBW
  go_enter Try.func130, Try.ntmps130
  go_wp2_with fail
  rw [← hW]
  clear hW
  refine (sign_int _ _ _ _ k hi' _ ht.hi).mono ?_
  rintro r w0 ⟨rfl, hb0⟩
  replace hBW := bthen hBW hb0
  replace A := A.below hb0
  replace G := G.below hb0
  replace R := R.below hb0
  replace hs := hs.below hb0
  replace ht := ht.below hb0
  clear hb0
  have lA := A.lt
  have lG := G.lt
  obtain ⟨x0, x1, x2, x3, x4⟩ := A
  obtain ⟨y0, y1, y2, y3, y4⟩ := G
  have A : SpC w0 w.heap.size s := ⟨x0, x1, x2, x3, x4⟩
  have G : SpC w0 (w.heap.size + 1) t := ⟨y0, y1, y2, y3, y4⟩
  go_wp2_with fail
  clear lA lG x0 x1 x2 x3 x4 y0 y1 y2 y3 y4
  refine (corners_div1 _ s t k b w.heap.size lo hi lo' hi' hs ht hk hb hp hp2 (by rw [← unhide HBT]; exact A.c4)).mono ?_
  rintro r w1 ⟨B1, f1, rfl, hN1, hb1⟩
  replace hBW := bthen hBW hb1
  replace A := A.below hb1
  replace G := G.below hb1
  replace R := R.below hb1
  replace hs := hs.below hb1
  replace ht := ht.below hb1
  clear hb1
  go_wp2_with fail
  refine (leastw_int _ 3 _ (b / 16 + k + 9) f1 _ _ hN1 (by omega) (by omega)).mono ?_
  rintro r w2 ⟨neg2, a2, n2, c2, rfl, hint2, hb2⟩
  replace hBW := bthen hBW hb2
  replace A := A.below hb2
  replace G := G.below hb2
  replace R := R.below hb2
  replace hs := hs.below hb2
  replace ht := ht.below hb2
  clear hb2 hN1
  obtain ⟨W2, hW2⟩ : ∃ W', W' = w2.alloc (.cells #[.bool neg2, .slice a2 n2 c2] 26) := ⟨_, rfl⟩
  have hc2 : Below w2.heap.size w2 W2 := by rw [hW2]; exact bl1 _ _
  have X2 : NmC W2 w2.heap.size ⟨neg2, a2, n2, c2⟩ := by rw [hW2]; exact nmc_new w2 ⟨neg2, a2, n2, c2⟩ _
  have lA := A.lt
  have lG := G.lt
  obtain ⟨x0, x1, x2, x3, x4⟩ := A
  obtain ⟨y0, y1, y2, y3, y4⟩ := G
  have A : SpC w2 w.heap.size s := ⟨x0, x1, x2, x3, x4⟩
  have G : SpC w2 (w.heap.size + 1) t := ⟨y0, y1, y2, y3, y4⟩
  go_wp2_with fail
  rw [← hW2]
  clear hW2
  clear lA lG x0 x1 x2 x3 x4 y0 y1 y2 y3 y4
  have nR2 : w2.heap.size ≠ w.heap.size + 1 + 1 := Nat.ne_of_gt R.lt
  replace hBW := bthen hBW hc2
  replace A := A.below hc2
  replace G := G.below hc2
  replace R := R.below hc2
  replace hs := hs.below hc2
  replace ht := ht.below hc2
  replace hint2 := hint2.below hc2
  clear hc2
  refine (corners_div2 _ s t k b w.heap.size lo hi lo' hi' hs ht hk hb hp hp2 (by rw [← unhide HBT]; exact A.c4)).mono ?_
  rintro r w3 ⟨B3, f3, rfl, hN3, hb3⟩
  replace hBW := bthen hBW hb3
  replace A := A.below hb3
  replace R := R.below hb3
  replace hint2 := hint2.below hb3
  replace X2 := X2.below hb3
  clear hb3
  go_wp2_with fail
  refine (most_int _ 3 _ (b / 16 + k + 9) f3 _ _ hN3 (by omega) (by omega)).mono ?_
  rintro r w4 ⟨neg4, a4, n4, c4, rfl, hint4, hb4⟩
  replace hBW := bthen hBW hb4
  replace A := A.below hb4
  replace R := R.below hb4
  replace hint2 := hint2.below hb4
  replace X2 := X2.below hb4
  clear hb4 hN3
  have lA := A.lt
  have lX := X2.lt
  have lR := R.lt
  have nR2' : w.heap.size + 1 + 1 ≠ w2.heap.size := fun e9 => nR2 e9.symm
  have nR4 : w4.heap.size ≠ w.heap.size + 1 + 1 := Nat.ne_of_gt lR
  have nR4' : w.heap.size + 1 + 1 ≠ w4.heap.size := Nat.ne_of_lt lR
  have nX4 : w2.heap.size ≠ w4.heap.size := Nat.ne_of_lt lX
  obtain ⟨x0, x1, x2, x3, x4⟩ := A
  obtain ⟨z0, z1⟩ := X2
  obtain ⟨q0, q1, q2, q3, q4, q5⟩ := R
  go_wp2_with fail
  refine bodyPost_ret (v := .agg #[.bool neg2, .slice a2 n2 c2, .bool neg4, .slice a4 n4 c4, .int .i64 s.bits]) (by simp [results, Try.results130, go_sem, lR, q0, q1, q2, q3, q4]) rfl ⟨⟨neg2, a2, n2, c2, neg4, a4, n4, c4, s.bits⟩, rfl, unhide HBT, ?_, ?_⟩
  · first | with_reducible exact SpAt.put5 ⟨(hint2.below (bl1 _ _)).mono (by omega), (hint4.below (bl1 _ _)).mono (by omega)⟩ (by simp [go_sem, lR, q0]) (by simp [go_sem, lR, q1]) (by simp [go_sem, lR, q2]) (by simp [go_sem, lR, q3]) (by simp [go_sem, lR, q4]) _ _ _ _ _ | with_reducible exact SpAt.below (SpAt.put5 ⟨hint2.mono (by omega), hint4.mono (by omega)⟩ q0 q1 q2 q3 q4 _ _ _ _ _) (bl1 _ _)
  · first | with_reducible exact set5 (balloc hBW _) (by omega) _ _ _ _ _ | with_reducible exact balloc (set5 hBW (by omega) _ _ _ _ _) _
end Go.Proofs.Ytgmnknmjainabab

namespace Go.Proofs.Ytgmnknmjainabab
set_option linter.unusedVariables false
set_option linter.unusedSimpArgs false
set_option linter.unnecessarySimpa false
open Go.RowKit
attribute [local go_sem ↓] Go.wp_at_zero Go.wp_at_succ

theorem SpC.put5n {w : World} {B B' : Nat} {s : Sp} (h : SpC w B s) (hne : B ≠ B') (u0 u1 u2 u3 u4 : Value) :
    SpC (((((w.setCell ⟨B', 0, none⟩ u0).setCell ⟨B', 1, none⟩ u1).setCell ⟨B', 2, none⟩ u2).setCell ⟨B', 3, none⟩ u3).setCell ⟨B', 4, none⟩ u4) B s :=
  ⟨cell_put5' h.c0 hne _ _ _ _ _, cell_put5' h.c1 hne _ _ _ _ _, cell_put5' h.c2 hne _ _ _ _ _, cell_put5' h.c3 hne _ _ _ _ _, cell_put5' h.c4 hne _ _ _ _ _⟩
theorem NoC.put5n {w : World} {B B' : Nat} (h : NoC w B) (hne : B ≠ B') (u0 u1 u2 u3 u4 : Value) :
    NoC (((((w.setCell ⟨B', 0, none⟩ u0).setCell ⟨B', 1, none⟩ u1).setCell ⟨B', 2, none⟩ u2).setCell ⟨B', 3, none⟩ u3).setCell ⟨B', 4, none⟩ u4) B := by
  obtain ⟨q0, q1, q2, q3, q4, q5⟩ := h
  exact ⟨cell_put5' q0 hne _ _ _ _ _, cell_put5' q1 hne _ _ _ _ _, cell_put5' q2 hne _ _ _ _ _, cell_put5' q3 hne _ _ _ _ _, cell_put5' q4 hne _ _ _ _ _, fun o => by rw [frozen_set', frozen_set', frozen_set', frozen_set', frozen_set']; exact q5 o⟩
theorem sp_put {w : World} {B : Nat} {t : Sp} (h : SpC w B t) (s : Sp) : SpC (((((w.setCell ⟨B, 0, none⟩ (.bool s.ln)).setCell ⟨B, 1, none⟩ (.slice s.la s.lN s.lc)).setCell ⟨B, 2, none⟩ (.bool s.hn)).setCell ⟨B, 3, none⟩ (.slice s.ha s.hN s.hc)).setCell ⟨B, 4, none⟩ (.int .i64 s.bits)) B s := by
  obtain ⟨q0, q1, q2, q3, q4⟩ := h
  constructor <;> simp [go_sem, q0, q1, q2, q3, q4]
/-- Two spans that are written anew, one behind the other. -/
theorem two_sp {w : World} {B B' : Nat} {s t : Sp} (hA : SpC w B s) (hG : SpC w B' t) (hne : B ≠ B') (u v : Sp) :
    let w1 := ((((w.setCell ⟨B, 0, none⟩ (.bool u.ln)).setCell ⟨B, 1, none⟩ (.slice u.la u.lN u.lc)).setCell ⟨B, 2, none⟩ (.bool u.hn)).setCell ⟨B, 3, none⟩ (.slice u.ha u.hN u.hc)).setCell ⟨B, 4, none⟩ (.int .i64 u.bits)
    let w2 := ((((w1.setCell ⟨B', 0, none⟩ (.bool v.ln)).setCell ⟨B', 1, none⟩ (.slice v.la v.lN v.lc)).setCell ⟨B', 2, none⟩ (.bool v.hn)).setCell ⟨B', 3, none⟩ (.slice v.ha v.hN v.hc)).setCell ⟨B', 4, none⟩ (.int .i64 v.bits)
    SpC w2 B u ∧ SpC w2 B' v ∧ (∀ {x : Sp} {k : Nat} {lo hi : Int}, SpAt w x k lo hi → SpAt w2 x k lo hi) ∧ (∀ {C : Nat}, NoC w C → C ≠ B → C ≠ B' → NoC w2 C) := by
  intro w1 w2
  have h1 : SpC w1 B u := sp_put hA u
  have h2 : SpC w1 B' t := hG.put5n (fun e => hne e.symm) _ _ _ _ _
  exact ⟨h1.put5n hne _ _ _ _ _, sp_put h2 v, fun h => SpAt.put5 (SpAt.put5 h hA.c0 hA.c1 hA.c2 hA.c3 hA.c4 _ _ _ _ _) h2.c0 h2.c1 h2.c2 h2.c3 h2.c4 _ _ _ _ _, fun h n1 n2 => (h.put5n n1 _ _ _ _ _).put5n n2 _ _ _ _ _⟩

set_option maxRecDepth 100000 in
set_option maxHeartbeats 4000000 in
theorem wideDiv_neg (w : World) (s t : Sp) (k b : Nat) (lo hi lo' hi' : Int) (hs : SpAt w s k lo hi) (ht : SpAt w t k lo' hi') (hk : k ≤ 300000000) (hb : b ≤ 1000000) (hbits : s.bits = b) (hp : lo' < 0) (hp2 : hi' < 0) :
    Calls Try.prog 130 #[.agg #[.bool s.ln, .slice s.la s.lN s.lc, .bool s.hn, .slice s.ha s.hN s.hc, .int .i64 s.bits], .agg #[.bool t.ln, .slice t.la t.lN t.lc, .bool t.hn, .slice t.ha t.hN t.hc, .int .i64 t.bits]] w (SpanAns w b (b / 16 + k + 10) (leastZ (pr4 ((-hi) * Q b / (-hi')) ((-hi) * Q b / (-lo')) ((-lo) * Q b / (-hi')) ((-lo) * Q b / (-lo'))) 3) (mostZ (pr4 (-(-((-hi) * Q b) / (-hi'))) (-(-((-hi) * Q b) / (-lo'))) (-(-((-lo) * Q b) / (-hi'))) (-(-((-lo) * Q b) / (-lo')))) 3)) := by
  have HBT := hide hbits
  have t1 : cmpInt hi' 0 < 0 := by unfold cmpInt; rw [if_pos (by omega)]; omega
  clear hbits
  obtain ⟨W, hW⟩ : ∃ W, W = ((w.alloc (.cells #[.bool s.ln, .slice s.la s.lN s.lc, .bool s.hn, .slice s.ha s.hN s.hc, .int .i64 s.bits] 28)).alloc (.cells #[.bool t.ln, .slice t.la t.lN t.lc, .bool t.hn, .slice t.ha t.hN t.hc, .int .i64 t.bits] 28)).alloc (.cells #[.bool false, .slice none 0 0, .bool false, .slice none 0 0, .int .i64 0] 28) := ⟨_, rfl⟩
  have hBW : Below w.heap.size w W := by rw [hW]; exact bl3 _ _ _ _
  have A : SpC W w.heap.size s := by rw [hW]; exact ⟨by simp [go_sem], by simp [go_sem], by simp [go_sem], by simp [go_sem], by simp [go_sem]⟩
  have G : SpC W (w.heap.size + 1) t := by rw [hW]; exact ⟨by simp [go_sem], by simp [go_sem], by simp [go_sem], by simp [go_sem], by simp [go_sem]⟩
  have R : NoC W (w.heap.size + 1 + 1) := by rw [hW]; exact ⟨by simp [go_sem], by simp [go_sem], by simp [go_sem], by simp [go_sem], by simp [go_sem], fun o => by simp [go_sem]⟩
  have FA : ∀ o, W.frozen? ⟨w.heap.size, o, none⟩ = false := by intro o; rw [hW]; simp [go_sem]
  have FG : ∀ o, W.frozen? ⟨w.heap.size + 1, o, none⟩ = false := by intro o; rw [hW]; simp [go_sem]
  replace hs := hs.below hBW
  replace ht := ht.below hBW
  go_enter Try.func130, Try.ntmps130
  go_wp2_with fail
  rw [← hW]
  clear hW
  refine (sign_int _ _ _ _ k hi' _ ht.hi).mono ?_
  rintro r w0 ⟨rfl, hb0⟩
  replace hBW := bthen hBW hb0
  replace FA : ∀ o, w0.frozen? ⟨w.heap.size, o, none⟩ = false := fun o => (hb0.frozen (p := ⟨w.heap.size, o, none⟩) A.lt).trans (FA o)
  replace FG : ∀ o, w0.frozen? ⟨w.heap.size + 1, o, none⟩ = false := fun o => (hb0.frozen (p := ⟨w.heap.size + 1, o, none⟩) G.lt).trans (FG o)
  replace A := A.below hb0
  replace G := G.below hb0
  replace R := R.below hb0
  replace hs := hs.below hb0
  replace ht := ht.below hb0
  clear hb0
  have nAG : w.heap.size ≠ w.heap.size + 1 := by omega
  have nRA : w.heap.size + 1 + 1 ≠ w.heap.size := by omega
  have nRG : w.heap.size + 1 + 1 ≠ w.heap.size + 1 := by omega
  have HS := hide hs
  have HT := hide ht
  have HR := hide R
  have HA := hide A
  have HG := hide G
  have lA := A.lt
  have lG := G.lt
  have hB0 : Below w0.heap.size w0 w0.drew := (Below.refl _ _).drew
  obtain ⟨x0, x1, x2, x3, x4⟩ := A
  obtain ⟨y0, y1, y2, y3, y4⟩ := G
  go_wp2_with fail
  go_cut [12] (fun p wx => ∃ s2 t2 : Sp, s2.bits = s.bits ∧ SpC wx w.heap.size s2 ∧ SpC wx (w.heap.size + 1) t2 ∧ SpAt wx s2 k (-hi) (-lo) ∧ SpAt wx t2 k (-hi') (-lo') ∧ NoC wx (w.heap.size + 1 + 1) ∧ Below w.heap.size w wx)
  case first =>
    go_region_with
      (first
        | (go_at_call 78; have hq := hB1; refine (opposite_int _ t k lo' hi' ((unhide HT).below hB1) (by omega)).mono ?_; rintro r w2 ⟨u2, rfl, hub2, hup2, hb2⟩; have HU2 := hide hub2; clear hub2; have hB2 := bthen hB1 hb2; replace hup1 := hup1.below hb2; have l2A := Nat.lt_of_lt_of_le lA hB2.size; have l2G := Nat.lt_of_lt_of_le lG hB2.size; obtain ⟨a0, a1, a2, a3, a4⟩ := (unhide HA).below hB2; obtain ⟨g0, g1, g2, g3, g4⟩ := (unhide HG).below hB2; have fA2 : ∀ o, w2.frozen? ⟨w.heap.size, o, none⟩ = false := (fun o => (hB2.frozen (p := ⟨w.heap.size, o, none⟩) lA).trans (FA o)); have fG2 : ∀ o, w2.frozen? ⟨w.heap.size + 1, o, none⟩ = false := (fun o => (hB2.frozen (p := ⟨w.heap.size + 1, o, none⟩) lG).trans (FG o)))
        | (go_at_call 78; refine (opposite_int _ s k lo hi ((unhide HS).below (by repeat' (first | with_reducible exact Below.refl _ _ | with_reducible refine Below.drew ?_))) (by omega)).mono ?_; rintro r w1 ⟨u1, rfl, hub1, hup1, hb1⟩; have HU1 := hide hub1; clear hub1; have hB1 : Below w0.heap.size w0 w1 := bthen (by repeat' (first | with_reducible exact Below.refl _ _ | with_reducible refine Below.drew ?_)) hb1; obtain ⟨b0, b1, b2, b3, b4⟩ := (unhide HA).below hB1; obtain ⟨d0, d1, d2, d3, d4⟩ := (unhide HG).below hB1; have l1A := Nat.lt_of_lt_of_le lA hB1.size; have l1G := Nat.lt_of_lt_of_le lG hB1.size))
    all_goals
      go_wp2_with fail
      go_meet
      have A2 : SpC w2 w.heap.size s := ⟨a0, a1, a2, a3, a4⟩
      have G2 : SpC w2 (w.heap.size + 1) t := ⟨g0, g1, g2, g3, g4⟩
      obtain ⟨p1, p2, p3, p4⟩ := two_sp A2 G2 nAG u1 u2
      exact ⟨u1, u2, unhide HU1, p1, p2, p3 hup1, p3 hup2, p4 ((unhide HR).below hB2) nRA nRG, set5 (set5 (bthen hBW hB2) (Nat.le_refl _) _ _ _ _ _) (Nat.le_succ _) _ _ _ _ _⟩
  case rest =>
  obtain ⟨s2, t2, hsb, A, G, hs, ht, R, hBW⟩ := hcut
  replace HBT := hide (hsb.trans (unhide HBT))
  clear hsb HA HG HS HT HR lA lG x0 x1 x2 x3 x4 y0 y1 y2 y3 y4 FA FG hB0
  have lA := A.lt
  have lG := G.lt
  obtain ⟨x0, x1, x2, x3, x4⟩ := A
  obtain ⟨y0, y1, y2, y3, y4⟩ := G
  have A : SpC wc w.heap.size s2 := ⟨x0, x1, x2, x3, x4⟩
  have G : SpC wc (w.heap.size + 1) t2 := ⟨y0, y1, y2, y3, y4⟩
  go_wp2_with fail
  clear lA lG x0 x1 x2 x3 x4 y0 y1 y2 y3 y4
  refine (corners_div1 _ s2 t2 k b w.heap.size (-hi) (-lo) (-hi') (-lo') hs ht hk hb (by omega) (by omega) (by rw [← unhide HBT]; exact A.c4)).mono ?_
  rintro r w1 ⟨B1, f1, rfl, hN1, hb1⟩
  replace hBW := bthen hBW hb1
  replace A := A.below hb1
  replace G := G.below hb1
  replace R := R.below hb1
  replace hs := hs.below hb1
  replace ht := ht.below hb1
  clear hb1
  go_wp2_with fail
  refine (leastw_int _ 3 _ (b / 16 + k + 9) f1 _ _ hN1 (by omega) (by omega)).mono ?_
  rintro r w2 ⟨neg2, a2, n2, c2, rfl, hint2, hb2⟩
  replace hBW := bthen hBW hb2
  replace A := A.below hb2
  replace G := G.below hb2
  replace R := R.below hb2
  replace hs := hs.below hb2
  replace ht := ht.below hb2
  clear hb2 hN1
  obtain ⟨W2, hW2⟩ : ∃ W', W' = w2.alloc (.cells #[.bool neg2, .slice a2 n2 c2] 26) := ⟨_, rfl⟩
  have hc2 : Below w2.heap.size w2 W2 := by rw [hW2]; exact bl1 _ _
  have X2 : NmC W2 w2.heap.size ⟨neg2, a2, n2, c2⟩ := by rw [hW2]; exact nmc_new w2 ⟨neg2, a2, n2, c2⟩ _
  have lA := A.lt
  have lG := G.lt
  obtain ⟨x0, x1, x2, x3, x4⟩ := A
  obtain ⟨y0, y1, y2, y3, y4⟩ := G
  have A : SpC w2 w.heap.size s2 := ⟨x0, x1, x2, x3, x4⟩
  have G : SpC w2 (w.heap.size + 1) t2 := ⟨y0, y1, y2, y3, y4⟩
  go_wp2_with fail
  rw [← hW2]
  clear hW2
  clear lA lG x0 x1 x2 x3 x4 y0 y1 y2 y3 y4
  have nR2 : w2.heap.size ≠ w.heap.size + 1 + 1 := Nat.ne_of_gt R.lt
  replace hBW := bthen hBW hc2
  replace A := A.below hc2
  replace G := G.below hc2
  replace R := R.below hc2
  replace hs := hs.below hc2
  replace ht := ht.below hc2
  replace hint2 := hint2.below hc2
  clear hc2
  refine (corners_div2 _ s2 t2 k b w.heap.size (-hi) (-lo) (-hi') (-lo') hs ht hk hb (by omega) (by omega) (by rw [← unhide HBT]; exact A.c4)).mono ?_
  rintro r w3 ⟨B3, f3, rfl, hN3, hb3⟩
  replace hBW := bthen hBW hb3
  replace A := A.below hb3
  replace R := R.below hb3
  replace hint2 := hint2.below hb3
  replace X2 := X2.below hb3
  clear hb3
  go_wp2_with fail
  refine (most_int _ 3 _ (b / 16 + k + 9) f3 _ _ hN3 (by omega) (by omega)).mono ?_
  rintro r w4 ⟨neg4, a4, n4, c4, rfl, hint4, hb4⟩
  replace hBW := bthen hBW hb4
  replace A := A.below hb4
  replace R := R.below hb4
  replace hint2 := hint2.below hb4
  replace X2 := X2.below hb4
  clear hb4 hN3
  have lA := A.lt
  have lX := X2.lt
  have lR := R.lt
  have nR2' : w.heap.size + 1 + 1 ≠ w2.heap.size := fun e9 => nR2 e9.symm
  have nR4 : w4.heap.size ≠ w.heap.size + 1 + 1 := Nat.ne_of_gt lR
  have nR4' : w.heap.size + 1 + 1 ≠ w4.heap.size := Nat.ne_of_lt lR
  have nX4 : w2.heap.size ≠ w4.heap.size := Nat.ne_of_lt lX
  obtain ⟨x0, x1, x2, x3, x4⟩ := A
  obtain ⟨z0, z1⟩ := X2
  obtain ⟨q0, q1, q2, q3, q4, q5⟩ := R
  go_wp2_with fail
  refine bodyPost_ret (v := .agg #[.bool neg2, .slice a2 n2 c2, .bool neg4, .slice a4 n4 c4, .int .i64 s2.bits]) (by simp [results, Try.results130, go_sem, lR, q0, q1, q2, q3, q4]) rfl ⟨⟨neg2, a2, n2, c2, neg4, a4, n4, c4, s2.bits⟩, rfl, unhide HBT, ?_, ?_⟩
  · first | with_reducible exact SpAt.put5 ⟨(hint2.below (bl1 _ _)).mono (by omega), (hint4.below (bl1 _ _)).mono (by omega)⟩ (by simp [go_sem, lR, q0]) (by simp [go_sem, lR, q1]) (by simp [go_sem, lR, q2]) (by simp [go_sem, lR, q3]) (by simp [go_sem, lR, q4]) _ _ _ _ _ | with_reducible exact SpAt.below (SpAt.put5 ⟨hint2.mono (by omega), hint4.mono (by omega)⟩ q0 q1 q2 q3 q4 _ _ _ _ _) (bl1 _ _)
  · first | with_reducible exact set5 (balloc hBW _) (by omega) _ _ _ _ _ | with_reducible exact balloc (set5 hBW (by omega) _ _ _ _ _) _

theorem wideDiv_any (w : World) (s t : Sp) (k b : Nat) (lo hi lo' hi' : Int) (hs : SpAt w s k lo hi) (ht : SpAt w t k lo' hi') (hk : k ≤ 300000000) (hb : b ≤ 1000000) (hbits : s.bits = b) (hl : lo ≤ hi) (hp : ¬ (lo' ≤ 0 ∧ 0 ≤ hi')) (hp2 : lo' ≤ hi') :
    Calls Try.prog 130 #[.agg #[.bool s.ln, .slice s.la s.lN s.lc, .bool s.hn, .slice s.ha s.hN s.hc, .int .i64 s.bits], .agg #[.bool t.ln, .slice t.la t.lN t.lc, .bool t.hn, .slice t.ha t.hN t.hc, .int .i64 t.bits]] w (SpanAns w b (b / 16 + k + 10) (dvLo lo hi lo' hi' b) (dvHi lo hi lo' hi' b)) := by
  have hq := Q_pos b
  unfold dvLo dvHi
  by_cases h : hi' < 0
  · rw [if_pos h, if_pos h]
    have := wideDiv_neg w s t k b lo hi lo' hi' hs ht hk hb hbits (by omega) h
    rw [over_least (Int.mul_le_mul_of_nonneg_right (by omega) (by omega)) (by omega) (by omega), over_most (Int.mul_le_mul_of_nonneg_right (by omega) (by omega)) (by omega) (by omega)] at this
    exact this
  · rw [if_neg h, if_neg h]
    have := wideDiv_pos w s t k b lo hi lo' hi' hs ht hk hb hbits (by omega) (by omega)
    rw [over_least (Int.mul_le_mul_of_nonneg_right hl (by omega)) (by omega) (by omega), over_most (Int.mul_le_mul_of_nonneg_right hl (by omega)) (by omega) (by omega)] at this
    exact this
end Go.Proofs.Ytgmnknmjainabab

namespace Go.Proofs.Ytgmnknmjainabab
set_option linter.unusedVariables false
open Ex

theorem Has.of_const {a b c : Rat} (h : Has a b (fun _ => c)) : a ≤ c ∧ c ≤ b := by
  constructor
  · refine Rat.not_lt.1 fun hlt => ?_
    obtain ⟨N, k⟩ := h ((a - c) / 2) (by grind)
    have := (k N (Nat.le_refl _)).1
    grind
  · refine Rat.not_lt.1 fun hlt => ?_
    obtain ⟨N, k⟩ := h ((c - b) / 2) (by grind)
    have := (k N (Nat.le_refl _)).2
    grind
theorem sq_le_sq {a b : Rat} (ha : 0 ≤ a) (hb : 0 ≤ b) (h : a * a ≤ b * b) : a ≤ b := by
  refine Rat.not_lt.1 fun hlt => ?_
  have m1 := Rat.mul_lt_mul_of_pos_left hlt (show 0 < a by grind)
  have m2 := Rat.mul_le_mul_of_nonneg_right (Rat.le_of_lt hlt) hb
  grind
theorem root_sq (B : Nat) (x : Int) : ((x : Rat) / (Q B : Rat)) * ((x : Rat) / (Q B : Rat)) * ((Q B : Rat) * (Q B : Rat)) = (x : Rat) * (x : Rat) := by
  have q := Qr_pos B
  have := rdm (a := (x : Rat)) q
  have e : ((x : Rat) / (Q B : Rat)) * ((x : Rat) / (Q B : Rat)) * ((Q B : Rat) * (Q B : Rat)) = ((x : Rat) / (Q B : Rat) * (Q B : Rat)) * ((x : Rat) / (Q B : Rat) * (Q B : Rat)) := by grind
  rw [e, this]
/-- The root of a ratio that is a square. -/
theorem root_const {B : Nat} {a : Int × Int} {x : Rat} (hx : 0 ≤ x) (h : Iv B a (fun _ => x * x)) {r t : Int} (hr0 : 0 ≤ r) (hr : r * r ≤ a.1 * Q B) (ht0 : 0 ≤ t) (ht : a.2 * Q B ≤ t * t) : Iv B (r, t) (fun _ => x) := by
  have q := Qr_pos B
  obtain ⟨h1, h2⟩ := Has.of_const h
  have qq : (0 : Rat) < (Q B : Rat) * (Q B : Rat) := Rat.mul_pos q q
  have pos : ∀ y : Int, 0 ≤ y → (0 : Rat) ≤ (y : Rat) / (Q B : Rat) := fun y hy => rle_div q (by
    have : (0 : Rat) ≤ (y : Rat) := by exact_mod_cast hy
    grind)
  have mid : ∀ y : Int, (y : Rat) / (Q B : Rat) * ((Q B : Rat) * (Q B : Rat)) = (y : Rat) * (Q B : Rat) := fun y => by
    rw [← Rat.mul_assoc, rdm (a := (y : Rat)) q]
  refine Has.const (sq_le_sq (pos r hr0) hx (Rat.le_trans ?_ h1)) (sq_le_sq hx (pos t ht0) (Rat.le_trans h2 ?_))
  · refine Rat.le_of_mul_le_mul_right (c := (Q B : Rat) * (Q B : Rat)) ?_ qq
    rw [root_sq, mid]
    have := cast_le hr
    rw [Rat.intCast_mul, Rat.intCast_mul] at this
    exact this
  · refine Rat.le_of_mul_le_mul_right (c := (Q B : Rat) * (Q B : Rat)) ?_ qq
    rw [root_sq, mid]
    have := cast_le ht
    rw [Rat.intCast_mul, Rat.intCast_mul] at this
    exact this
/-- What wide.Root makes. -/
def rootI (B : Nat) (a : Int × Int) : Int × Int := (rtZ (a.1 * Q B), rtU (a.2 * Q B))
theorem sqI_le {a b : Int} (ha : 0 ≤ a) (hb : 0 ≤ b) (h : a * a ≤ b * b) : a ≤ b := by
  refine Int.not_lt.1 fun hlt => ?_
  have m1 := Int.mul_lt_mul_of_pos_left hlt (show 0 < a by omega)
  have m2 := Int.mul_le_mul_of_nonneg_right (show b ≤ a by omega) hb
  omega
theorem rtU_lt {x : Int} (h : 0 ≤ x) (h0 : 0 < rtU x) : (rtU x - 1) * (rtU x - 1) < x := by
  obtain ⟨h3, h4⟩ := rtZ_sq h
  have := rtZ_nonneg x
  unfold rtU at *
  split
  · rename_i hh; rw [Int.add_sub_cancel]; exact hh
  · rename_i hh
    rw [if_neg hh] at h0
    have e : (rtZ x - 1) * (rtZ x - 1) = rtZ x * rtZ x - 2 * rtZ x + 1 := by grind
    omega
theorem rootI_bounds {B : Nat} {a : Int × Int} (ha : 0 ≤ a.1) (hl : a.1 ≤ a.2) : 0 ≤ (rootI B a).1 ∧ (rootI B a).1 ≤ (rootI B a).2 ∧ (rootI B a).1 * (rootI B a).1 ≤ a.1 * Q B ∧ a.2 * Q B ≤ (rootI B a).2 * (rootI B a).2 := by
  have q := Q_pos B
  have p1 := Int.mul_nonneg ha (show 0 ≤ Q B by omega)
  have p2 := Int.mul_le_mul_of_nonneg_right hl (show 0 ≤ Q B by omega)
  exact ⟨rtZ_nonneg _, rtZ_le_rtU p2 p1, (rtZ_sq p1).1, rtU_sq (by omega)⟩
/-- How wide a root is: g times it is at least 1. -/
theorem rootI_wide {B : Nat} {a : Int × Int} {W g : Int} (ha : 0 ≤ a.1) (hl : a.1 ≤ a.2) (hw : a.2 - a.1 ≤ W) (hg : 0 < g) (hr : Q B ≤ g * (rootI B a).2) : (rootI B a).2 - (rootI B a).1 ≤ g * W + 2 := by
  obtain ⟨r0, r1, r2, r3⟩ := rootI_bounds (B := B) ha hl
  have q := Q_pos B
  have p1 := Int.mul_nonneg ha (show 0 ≤ Q B by omega)
  have p2 := Int.mul_le_mul_of_nonneg_right hl (show 0 ≤ Q B by omega)
  have z := (rtZ_sq p1).2
  have t0 : 0 < (rootI B a).2 := by
    refine Int.not_le.1 fun h => ?_
    have := Int.mul_le_mul_of_nonneg_left h (show 0 ≤ g by omega)
    omega
  have u := rtU_lt (show 0 ≤ a.2 * Q B by omega) t0
  have e1 : rtZ (a.1 * Q B) = (rootI B a).1 := rfl
  have e2 : rtU (a.2 * Q B) = (rootI B a).2 := rfl
  rw [e1] at z
  rw [e2] at u
  generalize (rootI B a).1 = r at *
  generalize (rootI B a).2 = t at *
  -- (t - r - 2) (t + r) < W Q
  have k1 : (t - r - 2) * (t + r) < W * Q B := by
    have m := Int.mul_le_mul_of_nonneg_right hw (show 0 ≤ Q B by omega)
    have e : (t - r - 2) * (t + r) = (t - 1) * (t - 1) - (r + 1) * (r + 1) := by grind
    have e3 : (a.2 - a.1) * Q B = a.2 * Q B - a.1 * Q B := by grind
    omega
  refine Int.not_lt.1 fun hn => ?_
  have W0 : 0 ≤ W := by omega
  have m1 := Int.mul_le_mul_of_nonneg_right (show g * W ≤ t - r - 2 by omega) (show 0 ≤ t + r by omega)
  have m2 := Int.mul_le_mul_of_nonneg_left hr W0
  have m3 := Int.mul_nonneg (Int.mul_nonneg (show 0 ≤ g by omega) W0) r0
  have e4 : g * W * (t + r) = W * (g * t) + g * W * r := by grind
  omega
theorem rootI_up {B : Nat} {a : Int × Int} {c : Int} (ha : 0 ≤ a.2) (hc : 0 ≤ c) (h : a.2 ≤ c * c * Q B) : (rootI B a).2 ≤ c * Q B + 1 := by
  have q := Q_pos B
  have p := Int.mul_nonneg ha (show 0 ≤ Q B by omega)
  have z := (rtZ_sq p).1
  have m := Int.mul_le_mul_of_nonneg_right h (show 0 ≤ Q B by omega)
  have h1 : rtZ (a.2 * Q B) ≤ c * Q B := sqI_le (rtZ_nonneg _) (Int.mul_nonneg hc (by omega)) (by
    have e : c * Q B * (c * Q B) = c * c * Q B * Q B := by grind
    omega)
  show rtU (a.2 * Q B) ≤ _
  unfold rtU
  split <;> omega

/-- The series of wide.Erf. -/
def erU (n : Int) (_ : Nat) : Int := 2 * n
def erD (d : Int) (k : Nat) : Int := d * (2 * (k : Int) + 1)
theorem er_ok {n d : Int} (hn : 0 ≤ n) (hd : 0 < d) : RiOk (erU n) (erD d) := ⟨fun _ => by unfold erU; omega, fun k => Int.mul_pos hd (by omega)⟩
def erTurn (n d : Int) : Nat := (2 * n / d).toNat
theorem er_34 {n d : Int} (hn : 0 ≤ n) (hd : 0 < d) (k : Nat) (h : erTurn n d ≤ k) : 4 * erU n (k + 1) ≤ 3 * erD d (k + 1) := by
  have h1 : 2 * n / d ≤ (k : Int) := by unfold erTurn at h; omega
  have h2 := Int.lt_ediv_add_one_mul_self (2 * n) hd
  have h3 := Int.mul_le_mul_of_nonneg_right (show 2 * n / d + 1 ≤ (k : Int) + 1 by omega) (show 0 ≤ d by omega)
  have k0 := Int.mul_nonneg (show 0 ≤ d by omega) (show 0 ≤ (k : Int) by omega)
  unfold erU erD
  have e1 : ((k : Int) + 1) * d = d * (k : Int) + d := by grind
  have e2 : 3 * (d * (2 * ((k + 1 : Nat) : Int) + 1)) = 6 * (d * (k : Int)) + 9 * d := by push_cast; grind
  omega
theorem er_val {n d : Int} {x : Rat} (hd : 0 < d) (hx : x * x * (d : Rat) = (n : Rat)) (k M : Nat) : riV (fun _ => x) (erU n) (erD d) k M = eT x k := by
  induction k with
  | zero => rfl
  | succ k ih =>
    show ((erU n (k + 1) : Int) : Rat) / ((erD d (k + 1) : Int) : Rat) * riV (fun _ => x) (erU n) (erD d) k M = 2 * (x * x) / (2 * ((k : Rat) + 1) + 1) * eT x k
    rw [ih]
    congr 1
    have d0 : (0 : Rat) < (d : Rat) := by exact_mod_cast hd
    have p := odd_pos k
    have e1 : ((erU n (k + 1) : Int) : Rat) = 2 * (n : Rat) := by unfold erU; rw [Rat.intCast_mul]; rfl
    have e2 : ((erD d (k + 1) : Int) : Rat) = (d : Rat) * (2 * ((k : Rat) + 1) + 1) := by
      unfold erD
      rw [Rat.intCast_mul]
      congr 1
      rw [Rat.intCast_add, Rat.intCast_mul]
      push_cast
      rfl
    rw [e1, e2, ← hx]
    have q : (0 : Rat) < (d : Rat) * (2 * ((k : Rat) + 1) + 1) := Rat.mul_pos d0 p
    have r1 := rdm (a := 2 * (x * x * (d : Rat))) q
    have r2 := rdm (a := 2 * (x * x)) p
    have lhs : 2 * (x * x) / (2 * ((k : Rat) + 1) + 1) * ((d : Rat) * (2 * ((k : Rat) + 1) + 1)) = 2 * (x * x * (d : Rat)) := by
      have : 2 * (x * x) / (2 * ((k : Rat) + 1) + 1) * ((d : Rat) * (2 * ((k : Rat) + 1) + 1)) = (2 * (x * x) / (2 * ((k : Rat) + 1) + 1) * (2 * ((k : Rat) + 1) + 1)) * (d : Rat) := by grind
      rw [this, r2]; grind
    exact Rat.le_antisymm (Rat.le_of_mul_le_mul_right (by rw [lhs, r1]; exact Rat.le_refl) q) (Rat.le_of_mul_le_mul_right (by rw [lhs, r1]; exact Rat.le_refl) q)
theorem er_has {B N : Nat} {a : Int × Int} {n d : Int} {x : Rat} (hx0 : 0 ≤ x) (hn : 0 ≤ n) (hd : 0 < d) (hx : x * x * (d : Rat) = (n : Rat)) (ha : Iv B a (fun _ => x)) (hN : IsRise (riT a (erU n) (erD d)) (erTurn n d) N) : Iv B (riseI (riT a (erU n) (erD d)) N) (eS x) := by
  have h := rising_has (er_ok hn hd) ha 0 (fun M _ => hx0) (fun k hk => er_34 hn hd k hk) hN
  refine Has.of_eq h fun M => ?_
  exact S_congr M fun k _ => (er_val hd hx k M).symm
/-- How far they go, and how wide they are: crude bounds. -/
theorem er_turn {n d : Int} (hn : 0 ≤ n) (hd : 0 < d) (h : n < 152 * d) : erTurn n d ≤ 303 := by
  have : 2 * n / d < 304 := Int.ediv_lt_of_lt_mul hd (by omega)
  unfold erTurn; omega
theorem ceil_mul {x u v c : Int} (hv : 0 < v) (hx : 0 ≤ x) (h : u ≤ c * v) : -(-(x * u) / v) ≤ c * x := by
  have h1 := Int.mul_le_mul_of_nonneg_left h hx
  have h2 : -(c * x) ≤ -(x * u) / v := Int.le_ediv_of_mul_le hv (by
    have e : -(c * x) * v = -(x * (c * v)) := by grind
    omega)
  omega
theorem er_step {n d : Int} (hn : 0 ≤ n) (hd : 0 < d) (h : n < 152 * d) (k : Nat) : erU n (k + 1) ≤ 512 * erD d (k + 1) := by
  have k0 := Int.mul_nonneg (show 0 ≤ d by omega) (show 0 ≤ (k : Int) by omega)
  unfold erU erD
  have e : 512 * (d * (2 * ((k + 1 : Nat) : Int) + 1)) = 1024 * (d * (k : Int)) + 1536 * d := by push_cast; grind
  omega
theorem er_hi {B : Nat} {a : Int × Int} {n d : Int} (hn : 0 ≤ n) (hd : 0 < d) (h : n < 152 * d) (ha : 0 ≤ a.1) (hl : a.1 ≤ a.2) (hb : a.2 ≤ Q (B + 4)) (k : Nat) : (riT a (erU n) (erD d) k).2 ≤ Q (B + 2740) := by
  have ok := er_ok hn hd
  have low : ∀ j, j ≤ 304 → (riT a (erU n) (erD d) j).2 ≤ Q (B + 4 + 9 * j) := fun j => by
    induction j with
    | zero => intro _; exact hb
    | succ j ih =>
      intro hj
      have i1 := ih (by omega)
      have n1 := riT_nonneg ok ha j
      have n2 := riT_le ok hl j
      have c := ceil_mul (ok.d0 (j + 1)) (show 0 ≤ (riT a (erU n) (erD d) j).2 by omega) (er_step hn hd h j)
      have e : Q (B + 4 + 9 * (j + 1)) = 512 * Q (B + 4 + 9 * j) := by
        rw [show B + 4 + 9 * (j + 1) = (B + 4 + 9 * j) + 9 by omega, Q_add]
        have : Q 9 = 512 := rfl
        rw [this]; omega
      show -(-((riT a (erU n) (erD d) j).2 * erU n (j + 1)) / erD d (j + 1)) ≤ _
      omega
  have hturn := er_turn hn hd h
  have up : ∀ j, (riT a (erU n) (erD d) (303 + j)).2 ≤ Q (B + 2740) := fun j => by
    induction j with
    | zero =>
      have := low 303 (by omega)
      have := Q_mono (show B + 4 + 9 * 303 ≤ B + 2740 by omega)
      simp only [Nat.add_zero]
      omega
    | succ j ih =>
      have n1 := riT_nonneg ok ha (303 + j)
      have n2 := riT_le ok hl (303 + j)
      have f := fall34 (x := (riT a (erU n) (erD d) (303 + j)).2) (ok.d0 (303 + j + 1)) (by omega) (er_34 hn hd (303 + j) (by omega))
      have q := Q_mono (show 2 ≤ B + 2740 by omega)
      have q2 : Q 2 = 4 := rfl
      show -(-((riT a (erU n) (erD d) (303 + j)).2 * erU n (303 + j + 1)) / erD d (303 + j + 1)) ≤ _
      omega
  by_cases hk : k ≤ 303
  · have := low k (by omega)
    have := Q_mono (show B + 4 + 9 * k ≤ B + 2740 by omega)
    omega
  · have := up (k - 303)
    rwa [show 303 + (k - 303) = k by omega] at this
theorem er_wide {a : Int × Int} {n d : Int} (hn : 0 ≤ n) (hd : 0 < d) (h : n < 152 * d) (hl : a.1 ≤ a.2) (hw : a.2 - a.1 + 1 ≤ Q 22) (k : Nat) : (riT a (erU n) (erD d) k).2 - (riT a (erU n) (erD d) k).1 ≤ Q 2760 := by
  have ok := er_ok hn hd
  have low : ∀ j, j ≤ 304 → (riT a (erU n) (erD d) j).2 - (riT a (erU n) (erD d) j).1 + 1 ≤ Q (22 + 9 * j) := fun j => by
    induction j with
    | zero => intro _; exact hw
    | succ j ih =>
      intro hj
      have i1 := ih (by omega)
      have n2 := riT_le ok hl j
      have c := scaleI_wide (a := riT a (erU n) (erD d) j) (n := erU n (j + 1)) (d := erD d (j + 1)) (c := 512 * ((riT a (erU n) (erD d) j).2 - (riT a (erU n) (erD d) j).1)) (ok.d0 (j + 1)) (by
        have := Int.mul_le_mul_of_nonneg_left (er_step hn hd h j) (show 0 ≤ (riT a (erU n) (erD d) j).2 - (riT a (erU n) (erD d) j).1 by omega)
        have e : ((riT a (erU n) (erD d) j).2 - (riT a (erU n) (erD d) j).1) * (512 * erD d (j + 1)) = 512 * ((riT a (erU n) (erD d) j).2 - (riT a (erU n) (erD d) j).1) * erD d (j + 1) := by grind
        omega)
      have e : Q (22 + 9 * (j + 1)) = 512 * Q (22 + 9 * j) := by
        rw [show 22 + 9 * (j + 1) = (22 + 9 * j) + 9 by omega, Q_add]
        have : Q 9 = 512 := rfl
        rw [this]; omega
      show (scaleI (riT a (erU n) (erD d) j) (erU n (j + 1)) (erD d (j + 1))).2 - (scaleI (riT a (erU n) (erD d) j) (erU n (j + 1)) (erD d (j + 1))).1 + 1 ≤ _
      omega
  have hturn := er_turn hn hd h
  have q9 : 9 ≤ Q 2760 := by
    have := Q_mono (show 4 ≤ 2760 by omega)
    have : Q 4 = 16 := rfl
    omega
  have up : ∀ j, (riT a (erU n) (erD d) (303 + j)).2 - (riT a (erU n) (erD d) (303 + j)).1 ≤ Q 2760 := fun j => by
    induction j with
    | zero =>
      have := low 303 (by omega)
      have := Q_mono (show 22 + 9 * 303 ≤ 2760 by omega)
      simp only [Nat.add_zero]
      omega
    | succ j ih =>
      have n2 := riT_le ok hl (303 + j)
      obtain ⟨D, hD⟩ : ∃ D, D = (riT a (erU n) (erD d) (303 + j)).2 - (riT a (erU n) (erD d) (303 + j)).1 := ⟨_, rfl⟩
      have c := scaleI_wide (a := riT a (erU n) (erD d) (303 + j)) (n := erU n (303 + j + 1)) (d := erD d (303 + j + 1)) (c := Q 2760 - 1) (ok.d0 (303 + j + 1)) (by
        rw [← hD] at ih ⊢
        have f := er_34 hn hd (303 + j) (by omega)
        have d0 := ok.d0 (303 + j + 1)
        have u0 := ok.u0 (303 + j + 1)
        generalize erU n (303 + j + 1) = u at *
        generalize erD d (303 + j + 1) = v at *
        generalize Q 2760 = q at *
        have m1 := Int.mul_le_mul_of_nonneg_right ih u0
        have m2 := Int.mul_le_mul_of_nonneg_left f (show 0 ≤ q by omega)
        have m3 := Int.mul_le_mul_of_nonneg_right (show 4 ≤ q by omega) (show 0 ≤ v by omega)
        have e1 : q * (4 * u) = 4 * (q * u) := by grind
        have e2 : q * (3 * v) = 3 * (q * v) := by grind
        have e3 : (q - 1) * v = q * v - v := by grind
        omega)
      show (scaleI (riT a (erU n) (erD d) (303 + j)) (erU n (303 + j + 1)) (erD d (303 + j + 1))).2 - (scaleI (riT a (erU n) (erD d) (303 + j)) (erU n (303 + j + 1)) (erD d (303 + j + 1))).1 ≤ _
      omega
  by_cases hk : k ≤ 303
  · have := low k (by omega)
    have := Q_mono (show 22 + 9 * k ≤ 2760 by omega)
    omega
  · have := up (k - 303)
    rwa [show 303 + (k - 303) = k by omega] at this
end Go.Proofs.Ytgmnknmjainabab
