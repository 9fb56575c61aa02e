/-
  What the ways that wide.Div hands to wide.corners answer, and wide.corners of them, and that they leave old memory alone.
  What wide.Div answers of right spans, the second one more than 0, and that it leaves old memory alone.
  What wide.Div answers of right spans, the second one less than 0; and both ways together; and that it leaves old memory alone.
  A region that draws its order and ends in a store that overwrites what the region has read: a load may be taken first where the store waits for it. No statement of the seat is proved here.
  What wide.upToOne, wide.overExp and wide.RareOne answer, and that they leave old memory alone.
-/
import Derived.Deep.RegionHeld3
import Derived.Test.YtgmnknmjainababGreatK11
namespace Go.Proofs.YtgmnknmjainababGreat
set_option linter.unusedVariables false
set_option linter.unusedSimpArgs false
set_option linter.unnecessarySimpa false
open Go.RowKit
attribute [local go_sem ↓] Go.wp_at_zero Go.wp_at_succ

set_option maxRecDepth 100000 in
set_option maxHeartbeats 2000000 in
theorem div1_int (neg neg2 : Bool) (a c : Option Addr) (n m cap cap2 k k2 b B : Nat) (x y : Int) (w : World) (h1 : IntAt w neg a n cap k x) (h2 : IntAt w neg2 c m cap2 k2 y) (hk : k ≤ 300000000) (hb : b ≤ 1000000) (hy : 0 < y) (hc : w.cell? ⟨B, 4, none⟩ = some (.int .i64 b)) :
    Calls Tryz.prog 179 #[.agg #[.bool neg, .slice a n cap], .agg #[.bool neg2, .slice c m cap2], .pointer (some ⟨B, 0, none⟩)] w (IntAns w (b / 16 + k + 9) (x * Q b / y)) := by
  have lB : B < w.heap.size := World.block_lt_of_cell? w ⟨B, 4, none⟩ hc
  have ne1 : w.heap.size ≠ w.heap.size + 1 + 1 := by omega
  have ne2 : w.heap.size + 1 + 1 ≠ w.heap.size := by omega
  obtain ⟨W, hW⟩ : ∃ W, W = ((w.alloc (.cells #[.bool neg, .slice a n cap] 26)).alloc (.cells #[.bool neg2, .slice c m cap2] 26)).alloc (.cells #[.bool false, .slice none 0 0] 26) := ⟨_, rfl⟩
  have hBW : Below w.heap.size w W := by rw [hW]; exact bl3 _ _ _ _
  have A : NmC W w.heap.size ⟨neg, a, n, cap⟩ := by rw [hW]; exact ⟨by simp [go_sem], by simp [go_sem]⟩
  have G : NmC W (w.heap.size + 1) ⟨neg2, c, m, cap2⟩ := by rw [hW]; exact ⟨by simp [go_sem], by simp [go_sem]⟩
  have R : NoI W (w.heap.size + 1 + 1) := by rw [hW]; exact ⟨by simp [go_sem], by simp [go_sem], fun o => by simp [go_sem]⟩
  have hcW := (hBW.cell (p := ⟨B, 4, none⟩) lB).trans hc
  have lBW := Nat.lt_of_lt_of_le lB hBW.size
  have HX := hide (h1.below hBW)
  have HY := hide (h2.below hBW)
  have hB0 : Below W.heap.size W W.drew := (Below.refl _ _).drew
  have lR := R.lt
  have nB : B ≠ w.heap.size + 1 + 1 := by omega
  have nB' : w.heap.size + 1 + 1 ≠ B := by omega
  have HK := hide (show ∀ w', Below W.heap.size W w' → (w'.cell? ⟨w.heap.size, 0, none⟩ = some (.bool neg) ∧ w'.cell? ⟨w.heap.size, 1, none⟩ = some (.slice a n cap) ∧ w'.cell? ⟨w.heap.size + 1, 0, none⟩ = some (.bool neg2) ∧ w'.cell? ⟨w.heap.size + 1, 1, none⟩ = some (.slice c m cap2) ∧ w'.cell? ⟨B, 4, none⟩ = some (.int .i64 b)) from fun w' hB => ⟨(A.below hB).c0, (A.below hB).c1, (G.below hB).c0, (G.below hB).c1, (hB.cell (p := ⟨B, 4, none⟩) lBW).trans hcW⟩)
  go_enter Tryz.func179, Tryz.ntmps179
  go_wp2
  rw [← hW]
  clear hW
  obtain ⟨i0, i1, i2, i3, i4⟩ := unhide HK _ (Below.refl _ _)
  go_region_held3 (fun w' => w'.cell? ⟨w.heap.size, 0, none⟩ = some (.bool neg) ∧ w'.cell? ⟨w.heap.size, 1, none⟩ = some (.slice a n cap) ∧ w'.cell? ⟨w.heap.size + 1, 0, none⟩ = some (.bool neg2) ∧ w'.cell? ⟨w.heap.size + 1, 1, none⟩ = some (.slice c m cap2) ∧ w'.cell? ⟨B, 4, none⟩ = some (.int .i64 b)) (first | exact unhide HK _ (by first | with_reducible exact hB0 | with_reducible exact hB2 | with_reducible exact hB1) | go_keep)
    (first
      | (go_at_call 95; refine (up_int _ _ _ _ b k x _ ((unhide HX).below hB0) (by omega) (by omega)).mono ?_; rintro r w1 ⟨neg1, a1, n1, c1, rfl, hint1, hb1⟩; have hB1 := bthen hB0 hb1)
      | (go_at_call 119; refine (floor_any _ _ _ _ _ _ _ _ (b / 16 + k + 1) k2 (x * Q b) y _ hint1 ((unhide HY).below hB1) (by omega) hy).mono ?_; rintro r w2 ⟨neg3, a3, n3, c3, rfl, hint3, hb2⟩; have hB2 := bthen hB1 hb2; obtain ⟨q0, q1, q2⟩ := R.below hB2; obtain ⟨d0, d1, d2, d3, d4⟩ := unhide HK _ hB2))
  clear i0 i1 i2 i3 i4
  go_wp2
  refine bodyPost_ret (v := .agg #[.bool neg3, .slice a3 n3 c3]) (by simp [results, Tryz.results179, go_sem, q0, q1]) rfl ⟨neg3, a3, n3, c3, rfl, (hint3.put2 q0 q1 _ _).mono (by omega), ?_⟩
  exact set2 (bthen hBW hB2) (by omega) _ _

set_option maxRecDepth 100000 in
set_option maxHeartbeats 2000000 in
theorem div2_int (neg neg2 : Bool) (a c : Option Addr) (n m cap cap2 k k2 b B : Nat) (x y : Int) (w : World) (h1 : IntAt w neg a n cap k x) (h2 : IntAt w neg2 c m cap2 k2 y) (hk : k ≤ 300000000) (hb : b ≤ 1000000) (hy : 0 < y) (hc : w.cell? ⟨B, 4, none⟩ = some (.int .i64 b)) :
    Calls Tryz.prog 181 #[.agg #[.bool neg, .slice a n cap], .agg #[.bool neg2, .slice c m cap2], .pointer (some ⟨B, 0, none⟩)] w (IntAns w (b / 16 + k + 9) (-(-(x * Q b) / y))) := by
  have lB : B < w.heap.size := World.block_lt_of_cell? w ⟨B, 4, none⟩ hc
  have ne1 : w.heap.size ≠ w.heap.size + 1 + 1 := by omega
  have ne2 : w.heap.size + 1 + 1 ≠ w.heap.size := by omega
  obtain ⟨W, hW⟩ : ∃ W, W = ((w.alloc (.cells #[.bool neg, .slice a n cap] 26)).alloc (.cells #[.bool neg2, .slice c m cap2] 26)).alloc (.cells #[.bool false, .slice none 0 0] 26) := ⟨_, rfl⟩
  have hBW : Below w.heap.size w W := by rw [hW]; exact bl3 _ _ _ _
  have A : NmC W w.heap.size ⟨neg, a, n, cap⟩ := by rw [hW]; exact ⟨by simp [go_sem], by simp [go_sem]⟩
  have G : NmC W (w.heap.size + 1) ⟨neg2, c, m, cap2⟩ := by rw [hW]; exact ⟨by simp [go_sem], by simp [go_sem]⟩
  have R : NoI W (w.heap.size + 1 + 1) := by rw [hW]; exact ⟨by simp [go_sem], by simp [go_sem], fun o => by simp [go_sem]⟩
  have hcW := (hBW.cell (p := ⟨B, 4, none⟩) lB).trans hc
  have lBW := Nat.lt_of_lt_of_le lB hBW.size
  have HX := hide (h1.below hBW)
  have HY := hide (h2.below hBW)
  have hB0 : Below W.heap.size W W.drew := (Below.refl _ _).drew
  have lR := R.lt
  have nB : B ≠ w.heap.size + 1 + 1 := by omega
  have nB' : w.heap.size + 1 + 1 ≠ B := by omega
  have HK := hide (show ∀ w', Below W.heap.size W w' → (w'.cell? ⟨w.heap.size, 0, none⟩ = some (.bool neg) ∧ w'.cell? ⟨w.heap.size, 1, none⟩ = some (.slice a n cap) ∧ w'.cell? ⟨w.heap.size + 1, 0, none⟩ = some (.bool neg2) ∧ w'.cell? ⟨w.heap.size + 1, 1, none⟩ = some (.slice c m cap2) ∧ w'.cell? ⟨B, 4, none⟩ = some (.int .i64 b)) from fun w' hB => ⟨(A.below hB).c0, (A.below hB).c1, (G.below hB).c0, (G.below hB).c1, (hB.cell (p := ⟨B, 4, none⟩) lBW).trans hcW⟩)
  go_enter Tryz.func181, Tryz.ntmps181
  go_wp2
  rw [← hW]
  clear hW
  obtain ⟨i0, i1, i2, i3, i4⟩ := unhide HK _ (Below.refl _ _)
  go_region_held3 (fun w' => w'.cell? ⟨w.heap.size, 0, none⟩ = some (.bool neg) ∧ w'.cell? ⟨w.heap.size, 1, none⟩ = some (.slice a n cap) ∧ w'.cell? ⟨w.heap.size + 1, 0, none⟩ = some (.bool neg2) ∧ w'.cell? ⟨w.heap.size + 1, 1, none⟩ = some (.slice c m cap2) ∧ w'.cell? ⟨B, 4, none⟩ = some (.int .i64 b)) (first | exact unhide HK _ (by first | with_reducible exact hB0 | with_reducible exact hB2 | with_reducible exact hB1) | go_keep)
    (first
      | (go_at_call 95; refine (up_int _ _ _ _ b k x _ ((unhide HX).below hB0) (by omega) (by omega)).mono ?_; rintro r w1 ⟨neg1, a1, n1, c1, rfl, hint1, hb1⟩; have hB1 := bthen hB0 hb1)
      | (go_at_call 176; refine (ceil_any _ _ _ _ _ _ _ _ (b / 16 + k + 1) k2 (x * Q b) y _ hint1 ((unhide HY).below hB1) (by omega) hy).mono ?_; rintro r w2 ⟨neg3, a3, n3, c3, rfl, hint3, hb2⟩; have hB2 := bthen hB1 hb2; obtain ⟨q0, q1, q2⟩ := R.below hB2; obtain ⟨d0, d1, d2, d3, d4⟩ := unhide HK _ hB2))
  clear i0 i1 i2 i3 i4
  go_wp2
  refine bodyPost_ret (v := .agg #[.bool neg3, .slice a3 n3 c3]) (by simp [results, Tryz.results181, go_sem, q0, q1]) rfl ⟨neg3, a3, n3, c3, rfl, (hint3.put2 q0 q1 _ _).mono (by omega), ?_⟩
  exact set2 (bthen hBW hB2) (by omega) _ _

set_option maxRecDepth 100000 in
set_option maxHeartbeats 2000000 in
theorem corners_div1 (w : World) (s t : Sp) (k b B : Nat) (lo hi lo' hi' : Int) (hs : SpAt w s k lo hi) (ht : SpAt w t k lo' hi') (hk : k ≤ 300000000) (hb : b ≤ 1000000) (hp : 0 < lo') (hp2 : 0 < hi') (hc : w.cell? ⟨B, 4, none⟩ = some (.int .i64 b)) :
    Calls Tryz.prog 178 #[.agg #[.bool s.ln, .slice s.la s.lN s.lc, .bool s.hn, .slice s.ha s.hN s.hc, .int .i64 s.bits], .agg #[.bool t.ln, .slice t.la t.lN t.lc, .bool t.hn, .slice t.ha t.hN t.hc, .int .i64 t.bits], .func (.func 179) #[] #[.pointer (some ⟨B, 0, none⟩)]] w fun r w' =>
      ∃ B' f, r = .returned (.slice (some ⟨B', 0, none⟩) 4 4) ∧ Nums w' B' 4 (b / 16 + k + 9) f (pr4 (lo * Q b / lo') (lo * Q b / hi') (hi * Q b / lo') (hi * Q b / hi')) ∧ Below w.heap.size w w' := by
  have lB : B < w.heap.size := World.block_lt_of_cell? w ⟨B, 4, none⟩ hc
  obtain ⟨W, hW⟩ : ∃ W, W = (w.alloc (.cells #[.bool s.ln, .slice s.la s.lN s.lc, .bool s.hn, .slice s.ha s.hN s.hc, .int .i64 s.bits] 28)).alloc (.cells #[.bool t.ln, .slice t.la t.lN t.lc, .bool t.hn, .slice t.ha t.hN t.hc, .int .i64 t.bits] 28) := ⟨_, rfl⟩
  have hBW : Below w.heap.size w W := by rw [hW]; exact bl2 _ _ _
  have a0 : SpC W w.heap.size s := by rw [hW]; exact ⟨by simp [go_sem], by simp [go_sem], by simp [go_sem], by simp [go_sem], by simp [go_sem]⟩
  have g0 : SpC W (w.heap.size + 1) t := by rw [hW]; exact ⟨by simp [go_sem], by simp [go_sem], by simp [go_sem], by simp [go_sem], by simp [go_sem]⟩
  have hcW := (hBW.cell (p := ⟨B, 4, none⟩) lB).trans hc
  have lBW := Nat.lt_of_lt_of_le lB hBW.size
  have HS := hide (hs.below hBW)
  have HT := hide (ht.below hBW)
  have hB0 : Below W.heap.size W W.drew := (Below.refl _ _).drew
  have HKB := hide (show ∀ w', Below W.heap.size W w' → w'.cell? ⟨B, 4, none⟩ = some (.int .i64 b) from fun w' hB => (hB.cell (p := ⟨B, 4, none⟩) lBW).trans hcW)
  have HK := hide (show ∀ w', Below W.heap.size W w' → (w'.cell? ⟨w.heap.size, 0, none⟩ = some (.bool s.ln) ∧ w'.cell? ⟨w.heap.size, 1, none⟩ = some (.slice s.la s.lN s.lc) ∧ w'.cell? ⟨w.heap.size, 2, none⟩ = some (.bool s.hn) ∧ w'.cell? ⟨w.heap.size, 3, none⟩ = some (.slice s.ha s.hN s.hc) ∧ w'.cell? ⟨w.heap.size + 1, 0, none⟩ = some (.bool t.ln) ∧ w'.cell? ⟨w.heap.size + 1, 1, none⟩ = some (.slice t.la t.lN t.lc) ∧ w'.cell? ⟨w.heap.size + 1, 2, none⟩ = some (.bool t.hn) ∧ w'.cell? ⟨w.heap.size + 1, 3, none⟩ = some (.slice t.ha t.hN t.hc)) from fun w' hB => by
    obtain ⟨x0, x1, x2, x3, x4⟩ := a0.below hB
    obtain ⟨y0, y1, y2, y3, y4⟩ := g0.below hB
    exact ⟨x0, x1, x2, x3, y0, y1, y2, y3⟩)
  go_enter Tryz.func178, Tryz.ntmps178
  go_wp2
  obtain ⟨x0, x1, x2, x3, x4⟩ := a0
  obtain ⟨y0, y1, y2, y3, y4⟩ := g0
  rw [← hW]
  clear hW
  go_region_held3 (fun w' => w'.cell? ⟨w.heap.size, 0, none⟩ = some (.bool s.ln) ∧ w'.cell? ⟨w.heap.size, 1, none⟩ = some (.slice s.la s.lN s.lc) ∧ w'.cell? ⟨w.heap.size, 2, none⟩ = some (.bool s.hn) ∧ w'.cell? ⟨w.heap.size, 3, none⟩ = some (.slice s.ha s.hN s.hc) ∧ w'.cell? ⟨w.heap.size + 1, 0, none⟩ = some (.bool t.ln) ∧ w'.cell? ⟨w.heap.size + 1, 1, none⟩ = some (.slice t.la t.lN t.lc) ∧ w'.cell? ⟨w.heap.size + 1, 2, none⟩ = some (.bool t.hn) ∧ w'.cell? ⟨w.heap.size + 1, 3, none⟩ = some (.slice t.ha t.hN t.hc)) (exact unhide HK _ (by first | with_reducible exact hB0 | with_reducible exact balloc hB4 _ | with_reducible exact hB4 | with_reducible exact hB3 | with_reducible exact hB2 | with_reducible exact hB1))
    (first
      | (go_at_call 179; have hq := hB3; refine (div1_int _ _ _ _ _ _ _ _ k k b B hi hi' _ ((unhide HS).hi.below hB3) ((unhide HT).hi.below hB3) hk hb hp2 (unhide HKB _ hB3)).mono ?_; rintro r w4 ⟨neg4, a4, n4, c4, rfl, hint4, hb4⟩; replace hint1 := hint1.below hb4; replace hint2 := hint2.below hb4; replace hint3 := hint3.below hb4; have hB4 := bthen hB3 hb4)
      | (go_at_call 179; have hq := hB2; refine (div1_int _ _ _ _ _ _ _ _ k k b B hi lo' _ ((unhide HS).hi.below hB2) ((unhide HT).lo.below hB2) hk hb hp (unhide HKB _ hB2)).mono ?_; rintro r w3 ⟨neg3, a3, n3, c3, rfl, hint3, hb3⟩; replace hint1 := hint1.below hb3; replace hint2 := hint2.below hb3; have hB3 := bthen hB2 hb3)
      | (go_at_call 179; have hq := hB1; refine (div1_int _ _ _ _ _ _ _ _ k k b B lo hi' _ ((unhide HS).lo.below hB1) ((unhide HT).hi.below hB1) hk hb hp2 (unhide HKB _ hB1)).mono ?_; rintro r w2 ⟨neg2, a2, n2, c2, rfl, hint2, hb2⟩; replace hint1 := hint1.below hb2; have hB2 := bthen hB1 hb2)
      | (go_at_call 179; have hq := hB0; refine (div1_int _ _ _ _ _ _ _ _ k k b B lo lo' _ ((unhide HS).lo.below hB0) ((unhide HT).lo.below hB0) hk hb hp (unhide HKB _ hB0)).mono ?_; rintro r w1 ⟨neg1, a1, n1, c1, rfl, hint1, hb1⟩; have hB1 := bthen hB0 hb1))
  go_wp2
  go_ret
  exact ⟨w4.heap.size, pr4 ⟨neg1, a1, n1, c1⟩ ⟨neg2, a2, n2, c2⟩ ⟨neg3, a3, n3, c3⟩ ⟨neg4, a4, n4, c4⟩, rfl, nums4 w4 _ rfl ⟨neg1, a1, n1, c1⟩ ⟨neg2, a2, n2, c2⟩ ⟨neg3, a3, n3, c3⟩ ⟨neg4, a4, n4, c4⟩ _ _ _ _ _ _ hint1 hint2 hint3 hint4, bthen hBW (balloc hB4 _)⟩

set_option maxRecDepth 100000 in
set_option maxHeartbeats 2000000 in
theorem corners_div2 (w : World) (s t : Sp) (k b B : Nat) (lo hi lo' hi' : Int) (hs : SpAt w s k lo hi) (ht : SpAt w t k lo' hi') (hk : k ≤ 300000000) (hb : b ≤ 1000000) (hp : 0 < lo') (hp2 : 0 < hi') (hc : w.cell? ⟨B, 4, none⟩ = some (.int .i64 b)) :
    Calls Tryz.prog 178 #[.agg #[.bool s.ln, .slice s.la s.lN s.lc, .bool s.hn, .slice s.ha s.hN s.hc, .int .i64 s.bits], .agg #[.bool t.ln, .slice t.la t.lN t.lc, .bool t.hn, .slice t.ha t.hN t.hc, .int .i64 t.bits], .func (.func 181) #[] #[.pointer (some ⟨B, 0, none⟩)]] w fun r w' =>
      ∃ B' f, r = .returned (.slice (some ⟨B', 0, none⟩) 4 4) ∧ Nums w' B' 4 (b / 16 + k + 9) f (pr4 (-(-(lo * Q b) / lo')) (-(-(lo * Q b) / hi')) (-(-(hi * Q b) / lo')) (-(-(hi * Q b) / hi'))) ∧ Below w.heap.size w w' := by
  have lB : B < w.heap.size := World.block_lt_of_cell? w ⟨B, 4, none⟩ hc
  obtain ⟨W, hW⟩ : ∃ W, W = (w.alloc (.cells #[.bool s.ln, .slice s.la s.lN s.lc, .bool s.hn, .slice s.ha s.hN s.hc, .int .i64 s.bits] 28)).alloc (.cells #[.bool t.ln, .slice t.la t.lN t.lc, .bool t.hn, .slice t.ha t.hN t.hc, .int .i64 t.bits] 28) := ⟨_, rfl⟩
  have hBW : Below w.heap.size w W := by rw [hW]; exact bl2 _ _ _
  have a0 : SpC W w.heap.size s := by rw [hW]; exact ⟨by simp [go_sem], by simp [go_sem], by simp [go_sem], by simp [go_sem], by simp [go_sem]⟩
  have g0 : SpC W (w.heap.size + 1) t := by rw [hW]; exact ⟨by simp [go_sem], by simp [go_sem], by simp [go_sem], by simp [go_sem], by simp [go_sem]⟩
  have hcW := (hBW.cell (p := ⟨B, 4, none⟩) lB).trans hc
  have lBW := Nat.lt_of_lt_of_le lB hBW.size
  have HS := hide (hs.below hBW)
  have HT := hide (ht.below hBW)
  have hB0 : Below W.heap.size W W.drew := (Below.refl _ _).drew
  have HKB := hide (show ∀ w', Below W.heap.size W w' → w'.cell? ⟨B, 4, none⟩ = some (.int .i64 b) from fun w' hB => (hB.cell (p := ⟨B, 4, none⟩) lBW).trans hcW)
  have HK := hide (show ∀ w', Below W.heap.size W w' → (w'.cell? ⟨w.heap.size, 0, none⟩ = some (.bool s.ln) ∧ w'.cell? ⟨w.heap.size, 1, none⟩ = some (.slice s.la s.lN s.lc) ∧ w'.cell? ⟨w.heap.size, 2, none⟩ = some (.bool s.hn) ∧ w'.cell? ⟨w.heap.size, 3, none⟩ = some (.slice s.ha s.hN s.hc) ∧ w'.cell? ⟨w.heap.size + 1, 0, none⟩ = some (.bool t.ln) ∧ w'.cell? ⟨w.heap.size + 1, 1, none⟩ = some (.slice t.la t.lN t.lc) ∧ w'.cell? ⟨w.heap.size + 1, 2, none⟩ = some (.bool t.hn) ∧ w'.cell? ⟨w.heap.size + 1, 3, none⟩ = some (.slice t.ha t.hN t.hc)) from fun w' hB => by
    obtain ⟨x0, x1, x2, x3, x4⟩ := a0.below hB
    obtain ⟨y0, y1, y2, y3, y4⟩ := g0.below hB
    exact ⟨x0, x1, x2, x3, y0, y1, y2, y3⟩)
  go_enter Tryz.func178, Tryz.ntmps178
  go_wp2
  obtain ⟨x0, x1, x2, x3, x4⟩ := a0
  obtain ⟨y0, y1, y2, y3, y4⟩ := g0
  rw [← hW]
  clear hW
  go_region_held3 (fun w' => w'.cell? ⟨w.heap.size, 0, none⟩ = some (.bool s.ln) ∧ w'.cell? ⟨w.heap.size, 1, none⟩ = some (.slice s.la s.lN s.lc) ∧ w'.cell? ⟨w.heap.size, 2, none⟩ = some (.bool s.hn) ∧ w'.cell? ⟨w.heap.size, 3, none⟩ = some (.slice s.ha s.hN s.hc) ∧ w'.cell? ⟨w.heap.size + 1, 0, none⟩ = some (.bool t.ln) ∧ w'.cell? ⟨w.heap.size + 1, 1, none⟩ = some (.slice t.la t.lN t.lc) ∧ w'.cell? ⟨w.heap.size + 1, 2, none⟩ = some (.bool t.hn) ∧ w'.cell? ⟨w.heap.size + 1, 3, none⟩ = some (.slice t.ha t.hN t.hc)) (exact unhide HK _ (by first | with_reducible exact hB0 | with_reducible exact balloc hB4 _ | with_reducible exact hB4 | with_reducible exact hB3 | with_reducible exact hB2 | with_reducible exact hB1))
    (first
      | (go_at_call 181; have hq := hB3; refine (div2_int _ _ _ _ _ _ _ _ k k b B hi hi' _ ((unhide HS).hi.below hB3) ((unhide HT).hi.below hB3) hk hb hp2 (unhide HKB _ hB3)).mono ?_; rintro r w4 ⟨neg4, a4, n4, c4, rfl, hint4, hb4⟩; replace hint1 := hint1.below hb4; replace hint2 := hint2.below hb4; replace hint3 := hint3.below hb4; have hB4 := bthen hB3 hb4)
      | (go_at_call 181; have hq := hB2; refine (div2_int _ _ _ _ _ _ _ _ k k b B hi lo' _ ((unhide HS).hi.below hB2) ((unhide HT).lo.below hB2) hk hb hp (unhide HKB _ hB2)).mono ?_; rintro r w3 ⟨neg3, a3, n3, c3, rfl, hint3, hb3⟩; replace hint1 := hint1.below hb3; replace hint2 := hint2.below hb3; have hB3 := bthen hB2 hb3)
      | (go_at_call 181; have hq := hB1; refine (div2_int _ _ _ _ _ _ _ _ k k b B lo hi' _ ((unhide HS).lo.below hB1) ((unhide HT).hi.below hB1) hk hb hp2 (unhide HKB _ hB1)).mono ?_; rintro r w2 ⟨neg2, a2, n2, c2, rfl, hint2, hb2⟩; replace hint1 := hint1.below hb2; have hB2 := bthen hB1 hb2)
      | (go_at_call 181; have hq := hB0; refine (div2_int _ _ _ _ _ _ _ _ k k b B lo lo' _ ((unhide HS).lo.below hB0) ((unhide HT).lo.below hB0) hk hb hp (unhide HKB _ hB0)).mono ?_; rintro r w1 ⟨neg1, a1, n1, c1, rfl, hint1, hb1⟩; have hB1 := bthen hB0 hb1))
  go_wp2
  go_ret
  exact ⟨w4.heap.size, pr4 ⟨neg1, a1, n1, c1⟩ ⟨neg2, a2, n2, c2⟩ ⟨neg3, a3, n3, c3⟩ ⟨neg4, a4, n4, c4⟩, rfl, nums4 w4 _ rfl ⟨neg1, a1, n1, c1⟩ ⟨neg2, a2, n2, c2⟩ ⟨neg3, a3, n3, c3⟩ ⟨neg4, a4, n4, c4⟩ _ _ _ _ _ _ hint1 hint2 hint3 hint4, bthen hBW (balloc hB4 _)⟩
end Go.Proofs.YtgmnknmjainababGreat

namespace Go.Proofs.YtgmnknmjainababGreat
set_option linter.unusedVariables false
set_option linter.unusedSimpArgs false
set_option linter.unnecessarySimpa false
open Go.RowKit
attribute [local go_sem ↓] Go.wp_at_zero Go.wp_at_succ

set_option maxRecDepth 100000 in
set_option maxHeartbeats 2000000 in
theorem wideDiv_pos (w : World) (s t : Sp) (k b : Nat) (lo hi lo' hi' : Int) (hs : SpAt w s k lo hi) (ht : SpAt w t k lo' hi') (hk : k ≤ 300000000) (hb : b ≤ 1000000) (hbits : s.bits = b) (hp : 0 < lo') (hp2 : 0 < hi') :
    Calls Tryz.prog 146 #[.agg #[.bool s.ln, .slice s.la s.lN s.lc, .bool s.hn, .slice s.ha s.hN s.hc, .int .i64 s.bits], .agg #[.bool t.ln, .slice t.la t.lN t.lc, .bool t.hn, .slice t.ha t.hN t.hc, .int .i64 t.bits]] w (SpanAns w b (b / 16 + k + 10) (leastZ (pr4 (lo * Q b / lo') (lo * Q b / hi') (hi * Q b / lo') (hi * Q b / hi')) 3) (mostZ (pr4 (-(-(lo * Q b) / lo')) (-(-(lo * Q b) / hi')) (-(-(hi * Q b) / lo')) (-(-(hi * Q b) / hi'))) 3)) := by
  have HBT := hide hbits
  have t1 : ¬ cmpInt hi' 0 < 0 := by unfold cmpInt; rw [if_neg (by omega)]; split <;> omega
  clear hbits
  obtain ⟨W, hW⟩ : ∃ W, W = ((w.alloc (.cells #[.bool s.ln, .slice s.la s.lN s.lc, .bool s.hn, .slice s.ha s.hN s.hc, .int .i64 s.bits] 28)).alloc (.cells #[.bool t.ln, .slice t.la t.lN t.lc, .bool t.hn, .slice t.ha t.hN t.hc, .int .i64 t.bits] 28)).alloc (.cells #[.bool false, .slice none 0 0, .bool false, .slice none 0 0, .int .i64 0] 28) := ⟨_, rfl⟩
  have hBW : Below w.heap.size w W := by rw [hW]; exact bl3 _ _ _ _
  have A : SpC W w.heap.size s := by rw [hW]; exact ⟨by simp [go_sem], by simp [go_sem], by simp [go_sem], by simp [go_sem], by simp [go_sem]⟩
  have G : SpC W (w.heap.size + 1) t := by rw [hW]; exact ⟨by simp [go_sem], by simp [go_sem], by simp [go_sem], by simp [go_sem], by simp [go_sem]⟩
  have R : NoC W (w.heap.size + 1 + 1) := by rw [hW]; exact ⟨by simp [go_sem], by simp [go_sem], by simp [go_sem], by simp [go_sem], by simp [go_sem], fun o => by simp [go_sem]⟩
  replace hs := hs.below hBW
  replace ht := ht.below hBW
  go_enter Tryz.func146, Tryz.ntmps146
  go_wp2_with fail
  rw [← hW]
  clear hW
  refine (sign_int _ _ _ _ k hi' _ ht.hi).mono ?_
  rintro r w0 ⟨rfl, hb0⟩
  replace hBW := bthen hBW hb0
  replace A := A.below hb0
  replace G := G.below hb0
  replace R := R.below hb0
  replace hs := hs.below hb0
  replace ht := ht.below hb0
  clear hb0
  have lA := A.lt
  have lG := G.lt
  obtain ⟨x0, x1, x2, x3, x4⟩ := A
  obtain ⟨y0, y1, y2, y3, y4⟩ := G
  have A : SpC w0 w.heap.size s := ⟨x0, x1, x2, x3, x4⟩
  have G : SpC w0 (w.heap.size + 1) t := ⟨y0, y1, y2, y3, y4⟩
  go_wp2_with fail
  clear lA lG x0 x1 x2 x3 x4 y0 y1 y2 y3 y4
  refine (corners_div1 _ s t k b w.heap.size lo hi lo' hi' hs ht hk hb hp hp2 (by rw [← unhide HBT]; exact A.c4)).mono ?_
  rintro r w1 ⟨B1, f1, rfl, hN1, hb1⟩
  replace hBW := bthen hBW hb1
  replace A := A.below hb1
  replace G := G.below hb1
  replace R := R.below hb1
  replace hs := hs.below hb1
  replace ht := ht.below hb1
  clear hb1
  go_wp2_with fail
  refine (leastw_int _ 3 _ (b / 16 + k + 9) f1 _ _ hN1 (by omega) (by omega)).mono ?_
  rintro r w2 ⟨neg2, a2, n2, c2, rfl, hint2, hb2⟩
  replace hBW := bthen hBW hb2
  replace A := A.below hb2
  replace G := G.below hb2
  replace R := R.below hb2
  replace hs := hs.below hb2
  replace ht := ht.below hb2
  clear hb2 hN1
  obtain ⟨W2, hW2⟩ : ∃ W', W' = w2.alloc (.cells #[.bool neg2, .slice a2 n2 c2] 26) := ⟨_, rfl⟩
  have hc2 : Below w2.heap.size w2 W2 := by rw [hW2]; exact bl1 _ _
  have X2 : NmC W2 w2.heap.size ⟨neg2, a2, n2, c2⟩ := by rw [hW2]; exact nmc_new w2 ⟨neg2, a2, n2, c2⟩ _
  have lA := A.lt
  have lG := G.lt
  obtain ⟨x0, x1, x2, x3, x4⟩ := A
  obtain ⟨y0, y1, y2, y3, y4⟩ := G
  have A : SpC w2 w.heap.size s := ⟨x0, x1, x2, x3, x4⟩
  have G : SpC w2 (w.heap.size + 1) t := ⟨y0, y1, y2, y3, y4⟩
  go_wp2_with fail
  rw [← hW2]
  clear hW2
  clear lA lG x0 x1 x2 x3 x4 y0 y1 y2 y3 y4
  have nR2 : w2.heap.size ≠ w.heap.size + 1 + 1 := Nat.ne_of_gt R.lt
  replace hBW := bthen hBW hc2
  replace A := A.below hc2
  replace G := G.below hc2
  replace R := R.below hc2
  replace hs := hs.below hc2
  replace ht := ht.below hc2
  replace hint2 := hint2.below hc2
  clear hc2
  refine (corners_div2 _ s t k b w.heap.size lo hi lo' hi' hs ht hk hb hp hp2 (by rw [← unhide HBT]; exact A.c4)).mono ?_
  rintro r w3 ⟨B3, f3, rfl, hN3, hb3⟩
  replace hBW := bthen hBW hb3
  replace A := A.below hb3
  replace R := R.below hb3
  replace hint2 := hint2.below hb3
  replace X2 := X2.below hb3
  clear hb3
  go_wp2_with fail
  refine (most_int _ 3 _ (b / 16 + k + 9) f3 _ _ hN3 (by omega) (by omega)).mono ?_
  rintro r w4 ⟨neg4, a4, n4, c4, rfl, hint4, hb4⟩
  replace hBW := bthen hBW hb4
  replace A := A.below hb4
  replace R := R.below hb4
  replace hint2 := hint2.below hb4
  replace X2 := X2.below hb4
  clear hb4 hN3
  have lA := A.lt
  have lX := X2.lt
  have lR := R.lt
  have nR2' : w.heap.size + 1 + 1 ≠ w2.heap.size := fun e9 => nR2 e9.symm
  have nR4 : w4.heap.size ≠ w.heap.size + 1 + 1 := Nat.ne_of_gt lR
  have nR4' : w.heap.size + 1 + 1 ≠ w4.heap.size := Nat.ne_of_lt lR
  have nX4 : w2.heap.size ≠ w4.heap.size := Nat.ne_of_lt lX
  obtain ⟨x0, x1, x2, x3, x4⟩ := A
  obtain ⟨z0, z1⟩ := X2
  obtain ⟨q0, q1, q2, q3, q4, q5⟩ := R
  go_wp2_with fail
  refine bodyPost_ret (v := .agg #[.bool neg2, .slice a2 n2 c2, .bool neg4, .slice a4 n4 c4, .int .i64 s.bits]) (by simp [results, Tryz.results146, go_sem, lR, q0, q1, q2, q3, q4]) rfl ⟨⟨neg2, a2, n2, c2, neg4, a4, n4, c4, s.bits⟩, rfl, unhide HBT, ?_, ?_⟩
  · first | with_reducible exact SpAt.put5 ⟨(hint2.below (bl1 _ _)).mono (by omega), (hint4.below (bl1 _ _)).mono (by omega)⟩ (by simp [go_sem, lR, q0]) (by simp [go_sem, lR, q1]) (by simp [go_sem, lR, q2]) (by simp [go_sem, lR, q3]) (by simp [go_sem, lR, q4]) _ _ _ _ _ | with_reducible exact SpAt.below (SpAt.put5 ⟨hint2.mono (by omega), hint4.mono (by omega)⟩ q0 q1 q2 q3 q4 _ _ _ _ _) (bl1 _ _)
  · first | with_reducible exact set5 (balloc hBW _) (by omega) _ _ _ _ _ | with_reducible exact balloc (set5 hBW (by omega) _ _ _ _ _) _
end Go.Proofs.YtgmnknmjainababGreat

namespace Go.Proofs.YtgmnknmjainababGreat
set_option linter.unusedVariables false
set_option linter.unusedSimpArgs false
set_option linter.unnecessarySimpa false
open Go.RowKit
attribute [local go_sem ↓] Go.wp_at_zero Go.wp_at_succ

theorem SpC.put5n {w : World} {B B' : Nat} {s : Sp} (h : SpC w B s) (hne : B ≠ B') (u0 u1 u2 u3 u4 : Value) :
    SpC (((((w.setCell ⟨B', 0, none⟩ u0).setCell ⟨B', 1, none⟩ u1).setCell ⟨B', 2, none⟩ u2).setCell ⟨B', 3, none⟩ u3).setCell ⟨B', 4, none⟩ u4) B s :=
  ⟨cell_put5' h.c0 hne _ _ _ _ _, cell_put5' h.c1 hne _ _ _ _ _, cell_put5' h.c2 hne _ _ _ _ _, cell_put5' h.c3 hne _ _ _ _ _, cell_put5' h.c4 hne _ _ _ _ _⟩
theorem NoC.put5n {w : World} {B B' : Nat} (h : NoC w B) (hne : B ≠ B') (u0 u1 u2 u3 u4 : Value) :
    NoC (((((w.setCell ⟨B', 0, none⟩ u0).setCell ⟨B', 1, none⟩ u1).setCell ⟨B', 2, none⟩ u2).setCell ⟨B', 3, none⟩ u3).setCell ⟨B', 4, none⟩ u4) B := by
  obtain ⟨q0, q1, q2, q3, q4, q5⟩ := h
  exact ⟨cell_put5' q0 hne _ _ _ _ _, cell_put5' q1 hne _ _ _ _ _, cell_put5' q2 hne _ _ _ _ _, cell_put5' q3 hne _ _ _ _ _, cell_put5' q4 hne _ _ _ _ _, fun o => by rw [frozen_set', frozen_set', frozen_set', frozen_set', frozen_set']; exact q5 o⟩
theorem sp_put {w : World} {B : Nat} {t : Sp} (h : SpC w B t) (s : Sp) : SpC (((((w.setCell ⟨B, 0, none⟩ (.bool s.ln)).setCell ⟨B, 1, none⟩ (.slice s.la s.lN s.lc)).setCell ⟨B, 2, none⟩ (.bool s.hn)).setCell ⟨B, 3, none⟩ (.slice s.ha s.hN s.hc)).setCell ⟨B, 4, none⟩ (.int .i64 s.bits)) B s := by
  obtain ⟨q0, q1, q2, q3, q4⟩ := h
  constructor <;> simp [go_sem, q0, q1, q2, q3, q4]
/-- Two spans that are written anew, one behind the other. -/
theorem two_sp {w : World} {B B' : Nat} {s t : Sp} (hA : SpC w B s) (hG : SpC w B' t) (hne : B ≠ B') (u v : Sp) :
    let w1 := ((((w.setCell ⟨B, 0, none⟩ (.bool u.ln)).setCell ⟨B, 1, none⟩ (.slice u.la u.lN u.lc)).setCell ⟨B, 2, none⟩ (.bool u.hn)).setCell ⟨B, 3, none⟩ (.slice u.ha u.hN u.hc)).setCell ⟨B, 4, none⟩ (.int .i64 u.bits)
    let w2 := ((((w1.setCell ⟨B', 0, none⟩ (.bool v.ln)).setCell ⟨B', 1, none⟩ (.slice v.la v.lN v.lc)).setCell ⟨B', 2, none⟩ (.bool v.hn)).setCell ⟨B', 3, none⟩ (.slice v.ha v.hN v.hc)).setCell ⟨B', 4, none⟩ (.int .i64 v.bits)
    SpC w2 B u ∧ SpC w2 B' v ∧ (∀ {x : Sp} {k : Nat} {lo hi : Int}, SpAt w x k lo hi → SpAt w2 x k lo hi) ∧ (∀ {C : Nat}, NoC w C → C ≠ B → C ≠ B' → NoC w2 C) := by
  intro w1 w2
  have h1 : SpC w1 B u := sp_put hA u
  have h2 : SpC w1 B' t := hG.put5n (fun e => hne e.symm) _ _ _ _ _
  exact ⟨h1.put5n hne _ _ _ _ _, sp_put h2 v, fun h => SpAt.put5 (SpAt.put5 h hA.c0 hA.c1 hA.c2 hA.c3 hA.c4 _ _ _ _ _) h2.c0 h2.c1 h2.c2 h2.c3 h2.c4 _ _ _ _ _, fun h n1 n2 => (h.put5n n1 _ _ _ _ _).put5n n2 _ _ _ _ _⟩

set_option maxRecDepth 100000 in
set_option maxHeartbeats 4000000 in
theorem wideDiv_neg (w : World) (s t : Sp) (k b : Nat) (lo hi lo' hi' : Int) (hs : SpAt w s k lo hi) (ht : SpAt w t k lo' hi') (hk : k ≤ 300000000) (hb : b ≤ 1000000) (hbits : s.bits = b) (hp : lo' < 0) (hp2 : hi' < 0) :
    Calls Tryz.prog 146 #[.agg #[.bool s.ln, .slice s.la s.lN s.lc, .bool s.hn, .slice s.ha s.hN s.hc, .int .i64 s.bits], .agg #[.bool t.ln, .slice t.la t.lN t.lc, .bool t.hn, .slice t.ha t.hN t.hc, .int .i64 t.bits]] w (SpanAns w b (b / 16 + k + 10) (leastZ (pr4 ((-hi) * Q b / (-hi')) ((-hi) * Q b / (-lo')) ((-lo) * Q b / (-hi')) ((-lo) * Q b / (-lo'))) 3) (mostZ (pr4 (-(-((-hi) * Q b) / (-hi'))) (-(-((-hi) * Q b) / (-lo'))) (-(-((-lo) * Q b) / (-hi'))) (-(-((-lo) * Q b) / (-lo')))) 3)) := by
  have HBT := hide hbits
  have t1 : cmpInt hi' 0 < 0 := by unfold cmpInt; rw [if_pos (by omega)]; omega
  clear hbits
  obtain ⟨W, hW⟩ : ∃ W, W = ((w.alloc (.cells #[.bool s.ln, .slice s.la s.lN s.lc, .bool s.hn, .slice s.ha s.hN s.hc, .int .i64 s.bits] 28)).alloc (.cells #[.bool t.ln, .slice t.la t.lN t.lc, .bool t.hn, .slice t.ha t.hN t.hc, .int .i64 t.bits] 28)).alloc (.cells #[.bool false, .slice none 0 0, .bool false, .slice none 0 0, .int .i64 0] 28) := ⟨_, rfl⟩
  have hBW : Below w.heap.size w W := by rw [hW]; exact bl3 _ _ _ _
  have A : SpC W w.heap.size s := by rw [hW]; exact ⟨by simp [go_sem], by simp [go_sem], by simp [go_sem], by simp [go_sem], by simp [go_sem]⟩
  have G : SpC W (w.heap.size + 1) t := by rw [hW]; exact ⟨by simp [go_sem], by simp [go_sem], by simp [go_sem], by simp [go_sem], by simp [go_sem]⟩
  have R : NoC W (w.heap.size + 1 + 1) := by rw [hW]; exact ⟨by simp [go_sem], by simp [go_sem], by simp [go_sem], by simp [go_sem], by simp [go_sem], fun o => by simp [go_sem]⟩
  have FA : ∀ o, W.frozen? ⟨w.heap.size, o, none⟩ = false := by intro o; rw [hW]; simp [go_sem]
  have FG : ∀ o, W.frozen? ⟨w.heap.size + 1, o, none⟩ = false := by intro o; rw [hW]; simp [go_sem]
  replace hs := hs.below hBW
  replace ht := ht.below hBW
  go_enter Tryz.func146, Tryz.ntmps146
  go_wp2_with fail
  rw [← hW]
  clear hW
  refine (sign_int _ _ _ _ k hi' _ ht.hi).mono ?_
  rintro r w0 ⟨rfl, hb0⟩
  replace hBW := bthen hBW hb0
  replace FA : ∀ o, w0.frozen? ⟨w.heap.size, o, none⟩ = false := fun o => (hb0.frozen (p := ⟨w.heap.size, o, none⟩) A.lt).trans (FA o)
  replace FG : ∀ o, w0.frozen? ⟨w.heap.size + 1, o, none⟩ = false := fun o => (hb0.frozen (p := ⟨w.heap.size + 1, o, none⟩) G.lt).trans (FG o)
  replace A := A.below hb0
  replace G := G.below hb0
  replace R := R.below hb0
  replace hs := hs.below hb0
  replace ht := ht.below hb0
  clear hb0
  have nAG : w.heap.size ≠ w.heap.size + 1 := by omega
  have nRA : w.heap.size + 1 + 1 ≠ w.heap.size := by omega
  have nRG : w.heap.size + 1 + 1 ≠ w.heap.size + 1 := by omega
  have HS := hide hs
  have HT := hide ht
  have HR := hide R
  have HA := hide A
  have HG := hide G
  have lA := A.lt
  have lG := G.lt
  have hB0 : Below w0.heap.size w0 w0.drew := (Below.refl _ _).drew
  obtain ⟨x0, x1, x2, x3, x4⟩ := A
  obtain ⟨y0, y1, y2, y3, y4⟩ := G
  go_wp2_with fail
  go_cut [12] (fun p wx => ∃ s2 t2 : Sp, s2.bits = s.bits ∧ SpC wx w.heap.size s2 ∧ SpC wx (w.heap.size + 1) t2 ∧ SpAt wx s2 k (-hi) (-lo) ∧ SpAt wx t2 k (-hi') (-lo') ∧ NoC wx (w.heap.size + 1 + 1) ∧ Below w.heap.size w wx)
  case first =>
    go_region_with
      (first
        | (go_at_call 97; have hq := hB1; refine (opposite_int _ t k lo' hi' ((unhide HT).below hB1) (by omega)).mono ?_; rintro r w2 ⟨u2, rfl, hub2, hup2, hb2⟩; have HU2 := hide hub2; clear hub2; have hB2 := bthen hB1 hb2; replace hup1 := hup1.below hb2; have l2A := Nat.lt_of_lt_of_le lA hB2.size; have l2G := Nat.lt_of_lt_of_le lG hB2.size; obtain ⟨a0, a1, a2, a3, a4⟩ := (unhide HA).below hB2; obtain ⟨g0, g1, g2, g3, g4⟩ := (unhide HG).below hB2; have fA2 : ∀ o, w2.frozen? ⟨w.heap.size, o, none⟩ = false := (fun o => (hB2.frozen (p := ⟨w.heap.size, o, none⟩) lA).trans (FA o)); have fG2 : ∀ o, w2.frozen? ⟨w.heap.size + 1, o, none⟩ = false := (fun o => (hB2.frozen (p := ⟨w.heap.size + 1, o, none⟩) lG).trans (FG o)))
        | (go_at_call 97; refine (opposite_int _ s k lo hi ((unhide HS).below (by repeat' (first | with_reducible exact Below.refl _ _ | with_reducible refine Below.drew ?_))) (by omega)).mono ?_; rintro r w1 ⟨u1, rfl, hub1, hup1, hb1⟩; have HU1 := hide hub1; clear hub1; have hB1 : Below w0.heap.size w0 w1 := bthen (by repeat' (first | with_reducible exact Below.refl _ _ | with_reducible refine Below.drew ?_)) hb1; obtain ⟨b0, b1, b2, b3, b4⟩ := (unhide HA).below hB1; obtain ⟨d0, d1, d2, d3, d4⟩ := (unhide HG).below hB1; have l1A := Nat.lt_of_lt_of_le lA hB1.size; have l1G := Nat.lt_of_lt_of_le lG hB1.size))
    all_goals
      go_wp2_with fail
      go_meet
      have A2 : SpC w2 w.heap.size s := ⟨a0, a1, a2, a3, a4⟩
      have G2 : SpC w2 (w.heap.size + 1) t := ⟨g0, g1, g2, g3, g4⟩
      obtain ⟨p1, p2, p3, p4⟩ := two_sp A2 G2 nAG u1 u2
      exact ⟨u1, u2, unhide HU1, p1, p2, p3 hup1, p3 hup2, p4 ((unhide HR).below hB2) nRA nRG, set5 (set5 (bthen hBW hB2) (Nat.le_refl _) _ _ _ _ _) (Nat.le_succ _) _ _ _ _ _⟩
  case rest =>
  obtain ⟨s2, t2, hsb, A, G, hs, ht, R, hBW⟩ := hcut
  replace HBT := hide (hsb.trans (unhide HBT))
  clear hsb HA HG HS HT HR lA lG x0 x1 x2 x3 x4 y0 y1 y2 y3 y4 FA FG hB0
  have lA := A.lt
  have lG := G.lt
  obtain ⟨x0, x1, x2, x3, x4⟩ := A
  obtain ⟨y0, y1, y2, y3, y4⟩ := G
  have A : SpC wc w.heap.size s2 := ⟨x0, x1, x2, x3, x4⟩
  have G : SpC wc (w.heap.size + 1) t2 := ⟨y0, y1, y2, y3, y4⟩
  go_wp2_with fail
  clear lA lG x0 x1 x2 x3 x4 y0 y1 y2 y3 y4
  refine (corners_div1 _ s2 t2 k b w.heap.size (-hi) (-lo) (-hi') (-lo') hs ht hk hb (by omega) (by omega) (by rw [← unhide HBT]; exact A.c4)).mono ?_
  rintro r w1 ⟨B1, f1, rfl, hN1, hb1⟩
  replace hBW := bthen hBW hb1
  replace A := A.below hb1
  replace G := G.below hb1
  replace R := R.below hb1
  replace hs := hs.below hb1
  replace ht := ht.below hb1
  clear hb1
  go_wp2_with fail
  refine (leastw_int _ 3 _ (b / 16 + k + 9) f1 _ _ hN1 (by omega) (by omega)).mono ?_
  rintro r w2 ⟨neg2, a2, n2, c2, rfl, hint2, hb2⟩
  replace hBW := bthen hBW hb2
  replace A := A.below hb2
  replace G := G.below hb2
  replace R := R.below hb2
  replace hs := hs.below hb2
  replace ht := ht.below hb2
  clear hb2 hN1
  obtain ⟨W2, hW2⟩ : ∃ W', W' = w2.alloc (.cells #[.bool neg2, .slice a2 n2 c2] 26) := ⟨_, rfl⟩
  have hc2 : Below w2.heap.size w2 W2 := by rw [hW2]; exact bl1 _ _
  have X2 : NmC W2 w2.heap.size ⟨neg2, a2, n2, c2⟩ := by rw [hW2]; exact nmc_new w2 ⟨neg2, a2, n2, c2⟩ _
  have lA := A.lt
  have lG := G.lt
  obtain ⟨x0, x1, x2, x3, x4⟩ := A
  obtain ⟨y0, y1, y2, y3, y4⟩ := G
  have A : SpC w2 w.heap.size s2 := ⟨x0, x1, x2, x3, x4⟩
  have G : SpC w2 (w.heap.size + 1) t2 := ⟨y0, y1, y2, y3, y4⟩
  go_wp2_with fail
  rw [← hW2]
  clear hW2
  clear lA lG x0 x1 x2 x3 x4 y0 y1 y2 y3 y4
  have nR2 : w2.heap.size ≠ w.heap.size + 1 + 1 := Nat.ne_of_gt R.lt
  replace hBW := bthen hBW hc2
  replace A := A.below hc2
  replace G := G.below hc2
  replace R := R.below hc2
  replace hs := hs.below hc2
  replace ht := ht.below hc2
  replace hint2 := hint2.below hc2
  clear hc2
  refine (corners_div2 _ s2 t2 k b w.heap.size (-hi) (-lo) (-hi') (-lo') hs ht hk hb (by omega) (by omega) (by rw [← unhide HBT]; exact A.c4)).mono ?_
  rintro r w3 ⟨B3, f3, rfl, hN3, hb3⟩
  replace hBW := bthen hBW hb3
  replace A := A.below hb3
  replace R := R.below hb3
  replace hint2 := hint2.below hb3
  replace X2 := X2.below hb3
  clear hb3
  go_wp2_with fail
  refine (most_int _ 3 _ (b / 16 + k + 9) f3 _ _ hN3 (by omega) (by omega)).mono ?_
  rintro r w4 ⟨neg4, a4, n4, c4, rfl, hint4, hb4⟩
  replace hBW := bthen hBW hb4
  replace A := A.below hb4
  replace R := R.below hb4
  replace hint2 := hint2.below hb4
  replace X2 := X2.below hb4
  clear hb4 hN3
  have lA := A.lt
  have lX := X2.lt
  have lR := R.lt
  have nR2' : w.heap.size + 1 + 1 ≠ w2.heap.size := fun e9 => nR2 e9.symm
  have nR4 : w4.heap.size ≠ w.heap.size + 1 + 1 := Nat.ne_of_gt lR
  have nR4' : w.heap.size + 1 + 1 ≠ w4.heap.size := Nat.ne_of_lt lR
  have nX4 : w2.heap.size ≠ w4.heap.size := Nat.ne_of_lt lX
  obtain ⟨x0, x1, x2, x3, x4⟩ := A
  obtain ⟨z0, z1⟩ := X2
  obtain ⟨q0, q1, q2, q3, q4, q5⟩ := R
  go_wp2_with fail
  refine bodyPost_ret (v := .agg #[.bool neg2, .slice a2 n2 c2, .bool neg4, .slice a4 n4 c4, .int .i64 s2.bits]) (by simp [results, Tryz.results146, go_sem, lR, q0, q1, q2, q3, q4]) rfl ⟨⟨neg2, a2, n2, c2, neg4, a4, n4, c4, s2.bits⟩, rfl, unhide HBT, ?_, ?_⟩
  · first | with_reducible exact SpAt.put5 ⟨(hint2.below (bl1 _ _)).mono (by omega), (hint4.below (bl1 _ _)).mono (by omega)⟩ (by simp [go_sem, lR, q0]) (by simp [go_sem, lR, q1]) (by simp [go_sem, lR, q2]) (by simp [go_sem, lR, q3]) (by simp [go_sem, lR, q4]) _ _ _ _ _ | with_reducible exact SpAt.below (SpAt.put5 ⟨hint2.mono (by omega), hint4.mono (by omega)⟩ q0 q1 q2 q3 q4 _ _ _ _ _) (bl1 _ _)
  · first | with_reducible exact set5 (balloc hBW _) (by omega) _ _ _ _ _ | with_reducible exact balloc (set5 hBW (by omega) _ _ _ _ _) _

theorem wideDiv_any (w : World) (s t : Sp) (k b : Nat) (lo hi lo' hi' : Int) (hs : SpAt w s k lo hi) (ht : SpAt w t k lo' hi') (hk : k ≤ 300000000) (hb : b ≤ 1000000) (hbits : s.bits = b) (hl : lo ≤ hi) (hp : ¬ (lo' ≤ 0 ∧ 0 ≤ hi')) (hp2 : lo' ≤ hi') :
    Calls Tryz.prog 146 #[.agg #[.bool s.ln, .slice s.la s.lN s.lc, .bool s.hn, .slice s.ha s.hN s.hc, .int .i64 s.bits], .agg #[.bool t.ln, .slice t.la t.lN t.lc, .bool t.hn, .slice t.ha t.hN t.hc, .int .i64 t.bits]] w (SpanAns w b (b / 16 + k + 10) (dvLo lo hi lo' hi' b) (dvHi lo hi lo' hi' b)) := by
  have hq := Q_pos b
  unfold dvLo dvHi
  by_cases h : hi' < 0
  · rw [if_pos h, if_pos h]
    have := wideDiv_neg w s t k b lo hi lo' hi' hs ht hk hb hbits (by omega) h
    rw [over_least (Int.mul_le_mul_of_nonneg_right (by omega) (by omega)) (by omega) (by omega), over_most (Int.mul_le_mul_of_nonneg_right (by omega) (by omega)) (by omega) (by omega)] at this
    exact this
  · rw [if_neg h, if_neg h]
    have := wideDiv_pos w s t k b lo hi lo' hi' hs ht hk hb hbits (by omega) (by omega)
    rw [over_least (Int.mul_le_mul_of_nonneg_right hl (by omega)) (by omega) (by omega), over_most (Int.mul_le_mul_of_nonneg_right hl (by omega)) (by omega) (by omega)] at this
    exact this
end Go.Proofs.YtgmnknmjainababGreat

namespace Go.Proofs.YtgmnknmjainababGreat
set_option linter.unusedVariables false
open Go

section
variable {Pg : Program} {ops : Array Oper} {Q : Exit → Act → World → Prop} {md : Region.Mode} {S : World → Prop} {l : Nat}

/-- Whatever order is picked from here on, and S holds behind every operation but the one of number l. -/
def AnyL (Pg : Program) (md : Region.Mode) (ops : Array Oper) (Q : Exit → Act → World → Prop) (S : World → Prop) (l : Nat) : Nat → Array Bool → Act → World → Prop
  | 0, listed, a, w => Region.ready md ops listed = [] ∧ Q .normal a w
  | fuel + 1, listed, a, w =>
    (Region.ready md ops listed = [] → Q .normal a w) ∧
    ∀ i ∈ Region.ready md ops listed, wpOp Pg ops Q i (fun a' w' => (i ≠ l → S w') ∧ AnyL Pg md ops Q S l fuel (listed.setIfInBounds i true) a' w') a w

theorem AnyL.any : ∀ (fuel : Nat) (listed : Array Bool) (a : Act) (w : World), AnyL Pg md ops Q S l fuel listed a w → wpAny Pg md ops Q fuel listed a w
  | 0, _, _, _, h => h
  | fuel + 1, _, _, _, h => ⟨h.1, fun i hi => wpOp_mono (fun a' w' h' => AnyL.any fuel _ a' w' h'.2) (h.2 i hi)⟩

/-- Number l waits for number i. -/
def waits (md : Region.Mode) (ops : Array Oper) (l i : Nat) : Bool :=
  match ops[l]? with
  | some o => o.after.any (fun e => Region.binds md e && e.on == i)
  | none => false

theorem waits_not {i : Nat} {listed : Array Bool} (hw : waits md ops l i = true) (hi : i ∈ Region.ready md ops listed) (hl : l ∈ Region.ready md ops listed) : False := by
  obtain ⟨_, ol, hol, hall⟩ := mem_ready.1 hl
  obtain ⟨h0, oi, hoi, _⟩ := mem_ready.1 hi
  unfold waits at hw
  rw [hol] at hw
  simp only [Array.any_eq_true'] at hw
  obtain ⟨e, he, h2⟩ := hw
  simp only [Bool.and_eq_true, beq_iff_eq] at h2
  have h1 := hall e he h2.1
  rw [h2.2] at h1
  rcases Nat.lt_or_ge i listed.size with h' | h'
  · simp [h'] at h0 h1; rw [h0] at h1; cases h1
  · simp [Array.getElem?_eq_none h'] at h1

theorem AnyL.first {i : Nat} {oi : Oper} {v : Value} (hi : ops[i]? = some oi) (hsel : ∀ (j : Nat) (o : Oper) cs b, ops[j]? = some o → o.op ≠ .select cs b)
    (hQ : ∀ c a w, Q (.panic c) (a.put oi.dst v) w → Q (.panic c) a w) (hwt : waits md ops l i = true) :
    ∀ (fuel : Nat) (listed : Array Bool) (a : Act) (w : World),
      (∀ j oj, ops[j]? = some oj → j ≠ i → listed.getD j true = false → (∀ e ∈ oj.after, Region.binds md e = true → e.on ≠ i) → oi.apart ops oj = true) →
      i ∈ Region.ready md ops listed → YieldsIf Pg ops S oi v a → S w →
      AnyL Pg md ops Q S l fuel (listed.setIfInBounds i true) (a.put oi.dst v) w → AnyL Pg md ops Q S l (fuel + 1) listed a w := by
  intro fuel
  induction fuel with
  | zero =>
    intro listed a w _ hr hy hS H
    refine ⟨fun h => (by rw [h] at hr; cases hr), fun j hj => ?_⟩
    by_cases hji : j = i
    · subst hji; exact hy.wpOp hi hS ⟨fun _ => hS, H⟩
    · have := ready_mono hj hji
      rw [H.1] at this
      cases this
  | succ fuel ih =>
    intro listed a w hfree hr hy hS H
    refine ⟨fun h => (by rw [h] at hr; cases hr), fun j hj => ?_⟩
    by_cases hji : j = i
    · subst hji; exact hy.wpOp hi hS ⟨fun _ => hS, H⟩
    · have hjl : j ≠ l := fun h => waits_not hwt hr (h ▸ hj)
      have h1 := H.2 j (ready_mono hj hji)
      obtain ⟨hjun, oj, hoj, hall⟩ := mem_ready.1 hj
      have hnot : ∀ e ∈ oj.after, Region.binds md e = true → e.on ≠ i := fun e he hb heq => by
        have h1 := hall e he hb
        have h0 := (mem_ready.1 hr).1
        rw [heq] at h1
        rcases Nat.lt_or_ge i listed.size with h' | h'
        · simp [h'] at h0 h1; rw [h0] at h1; cases h1
        · simp [Array.getElem?_eq_none h'] at h1
      have h2 := wpOp_putIf hoj (hfree j oj hoj hji hjun hnot) (fun cs b => hsel i oi cs b hi) (fun cs b => hsel j oj cs b hoj) hQ hy h1
      have hfree' : ∀ k ok, ops[k]? = some ok → k ≠ i → (listed.setIfInBounds j true).getD k true = false →
          (∀ e ∈ ok.after, Region.binds md e = true → e.on ≠ i) → oi.apart ops ok = true := fun k ok hk hki hun hno => by
        refine hfree k ok hk hki ?_ hno
        by_cases hjk : j = k
        · subst hjk; exact hjun
        · rw [getD_set_ne true hjk] at hun; exact hun
      refine wpOp_mono (fun a' w' h3 => ⟨fun _ => h3.2.1 hjl, ih (listed.setIfInBounds j true) a' w' hfree' (ready_mono hr (Ne.symm hji)) h3.1 (h3.2.1 hjl) ?_⟩) h2
      rw [Array.setIfInBounds_comm _ _ hji]
      exact h3.2.2

/-- Take number i first: it yields v in every world that meets S. -/
theorem AnyL.take {i : Nat} {oi : Oper} {v : Value} {fuel : Nat} {listed : Array Bool} {a : Act} {w : World} (hi : ops[i]? = some oi)
    (hs : Region.noSelect ops = true) (hf : Region.free md ops listed i = true) (hr : (Region.ready md ops listed).contains i = true) (hwt : waits md ops l i = true)
    (hQ : ∀ c a w, Q (.panic c) (a.put oi.dst v) w → Q (.panic c) a w) (hy : YieldsIf Pg ops S oi v a) (hS : S w)
    (h : AnyL Pg md ops Q S l fuel (listed.setIfInBounds i true) (a.put oi.dst v) w) : AnyL Pg md ops Q S l (fuel + 1) listed a w :=
  AnyL.first hi (Region.noSelect_spec hs) hQ hwt fuel listed a w (Region.free_spec hi hf) (by simpa using hr) hy hS h

/-- Just number i may come up, and it is not l. -/
theorem AnyL.one {i : Nat} {o : Oper} {fuel : Nat} {listed : Array Bool} {a : Act} {w : World} (hr : Region.ready md ops listed = [i]) (ho : ops[i]? = some o)
    (h : ∀ K' : Act → World → Prop, Shut (∀ a w, S w → (S w → AnyL Pg md ops Q S l fuel (listed.setIfInBounds i true) a w) → K' a w) → if Region.wanted o (yielded ops a.tmps) = true then Oper.wp Pg o a w K' Q else K' (a.put o.dst undef) w) :
    AnyL Pg md ops Q S l (fuel + 1) listed a w :=
  ⟨fun h0 => absurd (hr ▸ h0) (by simp), fun j hj => by
    rw [hr] at hj
    have hj' : j = i := by simpa using hj
    subst hj'
    exact wpOp_step ho (fun K' hK => h K' (fun a w hS hW => hK a w ⟨fun _ => hS, hW hS⟩))⟩

/-- Number l is the last. -/
theorem AnyL.last {o : Oper} {fuel : Nat} {listed : Array Bool} {a : Act} {w : World} (hr : Region.ready md ops listed = [l]) (ho : ops[l]? = some o)
    (hd : Region.ready md ops (listed.setIfInBounds l true) = [])
    (h : ∀ K' : Act → World → Prop, Shut (∀ a w, Q .normal a w → K' a w) → if Region.wanted o (yielded ops a.tmps) = true then Oper.wp Pg o a w K' Q else K' (a.put o.dst undef) w) :
    AnyL Pg md ops Q S l (fuel + 1) listed a w :=
  ⟨fun h0 => absurd (hr ▸ h0) (by simp), fun j hj => by
    rw [hr] at hj
    have hj' : j = l := by simpa using hj
    subst hj'
    refine wpOp_step ho (fun K' hK => h K' (fun a w hW => hK a w ⟨fun h => absurd rfl h, ?_⟩))
    cases fuel with
    | zero => exact ⟨hd, hW⟩
    | succ fuel => exact ⟨fun _ => hW, by rw [hd]; simp⟩⟩

theorem AnyL.start {id : Nat} {a : Act} {w : World} (hm : Pg.follows .mixedOrders = true) (hS : S w.drew)
    (h : S w.drew → AnyL Pg .any ops Q S l ops.size (Array.replicate ops.size false) a w.drew) : (Code.region id ops true).wp Pg Q a w :=
  wp_region_any hm (AnyL.any _ _ _ _ (h hS))
end
end Go.Proofs.YtgmnknmjainababGreat

namespace Go.Proofs.YtgmnknmjainababGreat
set_option linter.unusedVariables false
set_option linter.unusedSimpArgs false
set_option linter.unnecessarySimpa false
open Go.RowKit
attribute [local go_sem ↓] Go.wp_at_zero Go.wp_at_succ

theorem minZ_cap (x q : Int) : minZ x q = if x ≤ q then x else q := by unfold minZ; split <;> split <;> omega
theorem wideOf_z {b : Nat} (z : Int) (hz : z = (b : Int)) (neg neg2 : Bool) (a c : Option Addr) (n m cap cap2 k k2 : Nat) (x y : Int) (w : World) (h1 : IntAt w neg a n cap k x) (h2 : IntAt w neg2 c m cap2 k2 y) (hk : k ≤ 700000000) (hb : b ≤ 1000000) (hy : 0 < y) :
    Calls Tryz.prog 140 #[.agg #[.bool neg, .slice a n cap], .agg #[.bool neg2, .slice c m cap2], .int .i64 z] w (SpanAns w b (k + b / 16 + 20) (ofI x y b).1 (ofI x y b).2) := by
  subst hz
  exact wideOf_any _ _ _ _ _ _ _ _ k k2 b x y w h1 h2 hk hb hy
theorem fieldP1 (x y : Bool) (a a' : Option Addr) (n c n' c' : Nat) (b : Int) (w : World) : (Instr.field 28 (.agg #[.bool x, .slice a n c, .bool y, .slice a' n' c', .int .i64 b]) 1).run Tryz.prog w = .ok (.agg #[.bool y, .slice a' n' c']) w := by kernel_rfl
theorem sp_putHi {w : World} {B : Nat} {s : Sp} (h : VrC w B s) (x : Nm) : VrC ((w.setCell ⟨B, 2, none⟩ (.bool x.neg)).setCell ⟨B, 3, none⟩ (.slice x.a x.n x.cap)) B ⟨s.ln, s.la, s.lN, s.lc, x.neg, x.a, x.n, x.cap, s.bits⟩ := by
  obtain ⟨⟨q0, q1, q2, q3, q4⟩, q5⟩ := h
  exact ⟨⟨by simp [go_sem, q0], by simp [go_sem, q1], by simp [go_sem, q2], by simp [go_sem, q3], by simp [go_sem, q4]⟩, fun o => by rw [frozen_set', frozen_set']; exact q5 o⟩
theorem NoC.offH {w : World} {B B' : Nat} (h : NoC w B) (hne : B ≠ B') (u0 u1 : Value) : NoC ((w.setCell ⟨B', 2, none⟩ u0).setCell ⟨B', 3, none⟩ u1) B := by
  obtain ⟨q0, q1, q2, q3, q4, q5⟩ := h
  exact ⟨by simp [go_sem, q0, hne, Ne.symm hne], by simp [go_sem, q1, hne, Ne.symm hne], by simp [go_sem, q2, hne, Ne.symm hne], by simp [go_sem, q3, hne, Ne.symm hne], by simp [go_sem, q4, hne, Ne.symm hne], fun o => by rw [frozen_set', frozen_set']; exact q5 o⟩
theorem IntAt.putH {w : World} {neg : Bool} {a : Option Addr} {n cap k : Nat} {z : Int} (h : IntAt w neg a n cap k z) {B : Nat} {x0 : Bool} {y0 : Option Addr} {y1 y2 : Nat} (h0 : w.cell? ⟨B, 2, none⟩ = some (.bool x0))
    (h1 : w.cell? ⟨B, 3, none⟩ = some (.slice y0 y1 y2)) (u0 u1 : Value) : IntAt ((w.setCell ⟨B, 2, none⟩ u0).setCell ⟨B, 3, none⟩ u1) neg a n cap k z := by
  have hne : (⟨B, 2, none⟩ : Addr) ≠ ⟨B, 3, none⟩ := by simp
  have h2 : (w.setCell ⟨B, 2, none⟩ u0).cell? ⟨B, 3, none⟩ = some (.slice y0 y1 y2) := (World.cell?_setCell_other _ _ _ _ hne).trans h1
  exact (h.store h0 (fun _ e => by cases e) u0).store h2 (fun _ e => by cases e) u1

set_option maxRecDepth 100000 in
set_option maxHeartbeats 4000000 in
theorem upToOne_int (w : World) (s : Sp) (k b : Nat) (lo hi : Int) (hs : SpAt w s k lo hi) (hbits : s.bits = (b : Int)) (hb : b ≤ 100000) (hk0 : b / 16 + 24 ≤ k) (hk : k ≤ 100000000) :
    Calls Tryz.prog 145 #[.agg #[.bool s.ln, .slice s.la s.lN s.lc, .bool s.hn, .slice s.ha s.hN s.hc, .int .i64 s.bits]] w (SpanAns w b (k + 1) lo (minZ hi (Q b))) := by
  obtain ⟨W, hW⟩ : ∃ W, W = (w.alloc (.cells #[.bool s.ln, .slice s.la s.lN s.lc, .bool s.hn, .slice s.ha s.hN s.hc, .int .i64 s.bits] 28)).alloc (.cells #[.bool false, .slice none 0 0, .bool false, .slice none 0 0, .int .i64 0] 28) := ⟨_, rfl⟩
  have hBW : Below w.heap.size w W := by rw [hW]; exact bl2 _ _ _
  have A : VrC W w.heap.size s := by rw [hW]; exact ⟨⟨by simp [go_sem], by simp [go_sem], by simp [go_sem], by simp [go_sem], by simp [go_sem]⟩, fun o => by simp [go_sem]⟩
  have R : NoC W (w.heap.size + 1) := by rw [hW]; exact ⟨by simp [go_sem], by simp [go_sem], by simp [go_sem], by simp [go_sem], by simp [go_sem], fun o => by simp [go_sem]⟩
  have HBW := hide hBW
  have HS := hide (hs.below hBW)
  have HB := hide hbits
  have HA := hide A
  have HR := hide R
  have HO := hide (show -(-(1 * Q b) / 1) = Q b by rw [Int.ediv_one]; omega)
  have HK := hide (show ∀ w', Below W.heap.size W w' → (w'.cell? ⟨w.heap.size, 2, none⟩ = some (.bool s.hn) ∧ w'.cell? ⟨w.heap.size, 3, none⟩ = some (.slice s.ha s.hN s.hc) ∧ w'.cell? ⟨w.heap.size, 4, none⟩ = some (.int .i64 s.bits)) from fun w' hB => ⟨(A.below hB).c.c2, (A.below hB).c.c3, (A.below hB).c.c4⟩)
  have hD0 : Below W.heap.size W W.drew := (Below.refl _ _).drew
  clear hs hbits hBW A R
  go_enter Tryz.func145, Tryz.ntmps145
  go_wp2
  rw [← hW]
  clear hW
  refine AnyL.start (S := fun w' => w'.cell? ⟨w.heap.size, 2, none⟩ = some (.bool s.hn) ∧ w'.cell? ⟨w.heap.size, 3, none⟩ = some (.slice s.ha s.hN s.hc) ∧ w'.cell? ⟨w.heap.size, 4, none⟩ = some (.int .i64 s.bits)) (l := 9) (by kernel_rfl) (unhide HK _ hD0) (fun hHeld => ?_)
  refine AnyL.take (i := 0) (oi := { dst := some 3, op := Go.Op.fieldAddr 28 (Go.Operand.tmp 1) 1, type := 0, pos := "part.go:53", after := #[], guard := none }) (v := .pointer (some ⟨w.heap.size, 2, none⟩)) rfl (by kernel_rfl) (by kernel_rfl) (by kernel_rfl) (by kernel_rfl) (fun _ _ _ h => h) (Or.inl ⟨by rfl, fun w hSw => ?_⟩) hHeld ?_
  · obtain ⟨s0, s1, s2⟩ := hSw; go_simp
  try simp only [Act.put, List.setIfInBounds_toArray, List.set_cons_zero, List.set_cons_succ]
  refine AnyL.take (i := 1) (oi := { dst := some 4, op := Go.Op.load 26 (Go.Operand.tmp 3), type := 26, pos := "part.go:53", after := #[{ on := 0, ground := Go.Ground.data }], guard := none }) (v := .agg #[.bool s.hn, .slice s.ha s.hN s.hc]) rfl (by kernel_rfl) (by kernel_rfl) (by kernel_rfl) (by kernel_rfl) (fun _ _ _ h => h) (Or.inl ⟨by rfl, fun w hSw => ?_⟩) hHeld ?_
  · obtain ⟨s0, s1, s2⟩ := hSw; go_simp
  try simp only [Act.put, List.setIfInBounds_toArray, List.set_cons_zero, List.set_cons_succ]
  refine AnyL.take (i := 2) (oi := { dst := some 5, op := Go.Op.fieldAddr 28 (Go.Operand.tmp 1) 2, type := 0, pos := "part.go:53", after := #[], guard := none }) (v := .pointer (some ⟨w.heap.size, 4, none⟩)) rfl (by kernel_rfl) (by kernel_rfl) (by kernel_rfl) (by kernel_rfl) (fun _ _ _ h => h) (Or.inl ⟨by rfl, fun w hSw => ?_⟩) hHeld ?_
  · obtain ⟨s0, s1, s2⟩ := hSw; go_simp
  try simp only [Act.put, List.setIfInBounds_toArray, List.set_cons_zero, List.set_cons_succ]
  refine AnyL.take (i := 3) (oi := { dst := some 6, op := Go.Op.load 3 (Go.Operand.tmp 5), type := 3, pos := "part.go:53", after := #[{ on := 2, ground := Go.Ground.data }], guard := none }) (v := .int .i64 s.bits) rfl (by kernel_rfl) (by kernel_rfl) (by kernel_rfl) (by kernel_rfl) (fun _ _ _ h => h) (Or.inl ⟨by rfl, fun w hSw => ?_⟩) hHeld ?_
  · obtain ⟨s0, s1, s2⟩ := hSw; go_simp
  try simp only [Act.put, List.setIfInBounds_toArray, List.set_cons_zero, List.set_cons_succ]
  refine AnyL.one (i := 4) (o := { dst := some 7, op := Go.Op.call { callee := Go.Callee.value (Go.Operand.func 133), args := #[Go.Operand.tmp 6], argTypes := #[3] }, type := 28, pos := "part.go:53", after := #[{ on := 3, ground := Go.Ground.data }], guard := none }) (by kernel_rfl) rfl (fun Kc hKc => ?_)
  go_simp
  rw [unhide HB]
  refine (one_int _ b (by omega)).mono ?_
  rintro r' w1 ⟨v1, rfl, hvb1, hs1, hb⟩
  have hD1 := bthen hD0 hb
  clear hb hvb1
  go_wp2_with fail
  refine hKc.out _ _ (unhide HK _ hD1) (fun hHeld => ?_)
  clear hKc Kc
  try simp only [Act.put, List.setIfInBounds_toArray, List.set_cons_zero, List.set_cons_succ]
  refine AnyL.take (i := 5) (oi := { dst := some 8, op := Go.Op.field 28 (Go.Operand.tmp 7) 1, type := 26, pos := "part.go:53", after := #[{ on := 4, ground := Go.Ground.data }], guard := none }) (v := .agg #[.bool v1.hn, .slice v1.ha v1.hN v1.hc]) rfl (by kernel_rfl) (by kernel_rfl) (by kernel_rfl) (by kernel_rfl) (fun _ _ _ h => h) (Or.inl ⟨by rfl, fun w hSw => ?_⟩) hHeld ?_
  · obtain ⟨s0, s1, s2⟩ := hSw; (have hf1 := fieldP1; go_simp)
  try simp only [Act.put, List.setIfInBounds_toArray, List.set_cons_zero, List.set_cons_succ]
  refine AnyL.one (i := 6) (o := { dst := some 9, op := Go.Op.buildSlice 104 2 #[(0, Go.Operand.tmp 4), (1, Go.Operand.tmp 8)], type := 104, pos := "part.go:53", after := #[{ on := 1, ground := Go.Ground.data }, { on := 5, ground := Go.Ground.data }], guard := none }) (by kernel_rfl) rfl (fun Kc hKc => ?_)
  go_simp
  refine hKc.out _ _ (unhide HK _ (balloc hD1 _)) (fun hHeld => ?_)
  clear hKc Kc
  try simp only [Act.put, List.setIfInBounds_toArray, List.set_cons_zero, List.set_cons_succ]
  refine AnyL.one (i := 7) (o := { dst := some 10, op := Go.Op.call { callee := Go.Callee.value (Go.Operand.func 177), args := #[Go.Operand.tmp 9], argTypes := #[104] }, type := 26, pos := "part.go:53", after := #[{ on := 6, ground := Go.Ground.data }, { on := 4, ground := Go.Ground.chain }], guard := none }) (by kernel_rfl) rfl (fun Kc hKc => ?_)
  go_simp
  refine (least2 w1 _ rfl ⟨s.hn, s.ha, s.hN, s.hc⟩ ⟨v1.hn, v1.ha, v1.hN, v1.hc⟩ k hi (Q b) _ _ ((unhide HS).hi.below hD1) ((unhide HO ▸ hs1.hi).mono hk0) (by omega)).mono ?_
  rintro r' w2 ⟨neg2, a2, n2, c2, rfl, hint2, hb2⟩
  have hD2 := bthen hD1 hb2
  clear hb2
  go_wp2_with fail
  refine hKc.out _ _ (unhide HK _ hD2) (fun hHeld => ?_)
  clear hKc Kc
  try simp only [Act.put, List.setIfInBounds_toArray, List.set_cons_zero, List.set_cons_succ]
  refine AnyL.take (i := 8) (oi := { dst := some 11, op := Go.Op.fieldAddr 28 (Go.Operand.tmp 1) 1, type := 0, pos := "part.go:53", after := #[{ on := 0, ground := Go.Ground.phase }, { on := 1, ground := Go.Ground.phase }, { on := 2, ground := Go.Ground.phase }, { on := 3, ground := Go.Ground.phase }, { on := 4, ground := Go.Ground.phase }, { on := 5, ground := Go.Ground.phase }, { on := 6, ground := Go.Ground.phase }, { on := 7, ground := Go.Ground.phase }], guard := none }) (v := .pointer (some ⟨w.heap.size, 2, none⟩)) rfl (by kernel_rfl) (by kernel_rfl) (by kernel_rfl) (by kernel_rfl) (fun _ _ _ h => h) (Or.inl ⟨by rfl, fun w hSw => ?_⟩) hHeld ?_
  · obtain ⟨s0, s1, s2⟩ := hSw; go_simp
  try simp only [Act.put, List.setIfInBounds_toArray, List.set_cons_zero, List.set_cons_succ]
  have V2 := (unhide HA).below hD2
  have lA := V2.lt
  obtain ⟨⟨y0, y1, y2, y3, y4⟩, y5⟩ := V2
  refine AnyL.last (o := { dst := none, op := Go.Op.store 26 (Go.Operand.tmp 11) (Go.Operand.tmp 10), type := 0, pos := "part.go:53", after := #[{ on := 8, ground := Go.Ground.data }, { on := 7, ground := Go.Ground.data }, { on := 7, ground := Go.Ground.chain }, { on := 0, ground := Go.Ground.phase }, { on := 1, ground := Go.Ground.phase }, { on := 2, ground := Go.Ground.phase }, { on := 3, ground := Go.Ground.phase }, { on := 4, ground := Go.Ground.phase }, { on := 5, ground := Go.Ground.phase }, { on := 6, ground := Go.Ground.phase }, { on := 7, ground := Go.Ground.phase }], guard := none }) (by kernel_rfl) rfl (by kernel_rfl) (fun Kc hKc => ?_)
  go_simp
  refine hKc.out _ _ ?_
  clear hKc Kc
  have R2 := (unhide HR).below hD2
  obtain ⟨V, hV⟩ : ∃ V, V = ((w2.setCell ⟨w.heap.size, 2, none⟩ (.bool neg2)).setCell ⟨w.heap.size, 3, none⟩ (.slice a2 n2 c2)) := ⟨_, rfl⟩
  have R3 : NoC V (w.heap.size + 1) := by rw [hV]; exact R2.offH (by omega) _ _
  have A3 : VrC V w.heap.size ⟨s.ln, s.la, s.lN, s.lc, neg2, a2, n2, c2, s.bits⟩ := by rw [hV]; exact sp_putHi ((unhide HA).below hD2) ⟨neg2, a2, n2, c2⟩
  have i1 : IntAt V s.ln s.la s.lN s.lc k lo := by rw [hV]; exact ((unhide HS).lo.below hD2).putH y2 y3 _ _
  have i2 : IntAt V neg2 a2 n2 c2 (k + 1) (minZ hi (Q b)) := by rw [hV]; exact hint2.putH y2 y3 _ _
  have hB3 : Below w.heap.size w V := by rw [hV]; exact ((bthen (unhide HBW) hD2).setCell (p := ⟨w.heap.size, 2, none⟩) (Nat.le_refl _) _).setCell (p := ⟨w.heap.size, 3, none⟩) (Nat.le_refl _) _
  rw [← hV]
  clear hV y0 y1 y2 y3 y4 y5 lA
  have lA := A3.lt
  have lR := R3.lt
  obtain ⟨⟨y0, y1, y2, y3, y4⟩, y5⟩ := A3
  obtain ⟨q0, q1, q2, q3, q4, q5⟩ := R3
  go_wp2_with fail
  refine bodyPost_ret (v := .agg #[.bool s.ln, .slice s.la s.lN s.lc, .bool neg2, .slice a2 n2 c2, .int .i64 s.bits]) (by simp [results, Tryz.results145, go_sem, q0, q1, q2, q3, q4]) rfl ⟨⟨s.ln, s.la, s.lN, s.lc, neg2, a2, n2, c2, s.bits⟩, rfl, unhide HB, ?_, ?_⟩
  · exact SpAt.put5 (show SpAt V ⟨s.ln, s.la, s.lN, s.lc, neg2, a2, n2, c2, s.bits⟩ (k + 1) lo (minZ hi (Q b)) from ⟨i1.mono (by omega), i2⟩) q0 q1 q2 q3 q4 _ _ _ _ _
  · exact set5 hB3 (Nat.le_succ _) _ _ _ _ _

set_option maxRecDepth 100000 in
set_option maxHeartbeats 4000000 in
theorem overExp_iv (w : World) (s : Sp) (p q : Int) (k b t N : Nat) (l : Int) (a : Int × Int) (hs : SpAt w s k a.1 a.2) (hbits : s.bits = (b : Int)) (hal : a.1 ≤ a.2) (hr : rok p q) (hb16 : 40 ≤ b) (hb : b ≤ 3000) (hp : 0 ≤ p)
    (hl : LenIs (reachI (ofI p q b)) l) (ht : (t : Int) = max 0 (l - b + 8)) (ht2 : t ≤ 17) (hsm : Abs (downI (ofI p q b) t) (Q (b - 8))) (hN : IsStop (expT b (downI (ofI p q b) t)) N) (hK : Q (b + eb t) < P k) (hk2 : k ≤ 1000000) (hk3 : 4 + b / 16 + 20 ≤ k) :
    Calls Tryz.prog 186 #[.agg #[.bool s.ln, .slice s.la s.lN s.lc, .bool s.hn, .slice s.ha s.hN s.hc, .int .i64 s.bits], .agg #[.int .i64 p, .int .i64 q]] w (SpanAns w b (b / 16 + k + 10) (dvLo a.1 a.2 (sqI b (doneI (expT b (downI (ofI p q b) t)) N) t).1 (sqI b (doneI (expT b (downI (ofI p q b) t)) N) t).2 b) (dvHi a.1 a.2 (sqI b (doneI (expT b (downI (ofI p q b) t)) N) t).1 (sqI b (doneI (expT b (downI (ofI p q b) t)) N) t).2 b)) := by
  obtain ⟨W, hW⟩ : ∃ W, W = ((w.alloc (.cells #[.bool s.ln, .slice s.la s.lN s.lc, .bool s.hn, .slice s.ha s.hN s.hc, .int .i64 s.bits] 28)).alloc (.cells #[.int .i64 p, .int .i64 q] 23)).alloc (.cells #[.bool false, .slice none 0 0, .bool false, .slice none 0 0, .int .i64 0] 28) := ⟨_, rfl⟩
  have hBW : Below w.heap.size w W := by rw [hW]; exact bl3 _ _ _ _
  have A : SpC W w.heap.size s := by rw [hW]; exact ⟨by simp [go_sem], by simp [go_sem], by simp [go_sem], by simp [go_sem], by simp [go_sem]⟩
  have C : RaC W (w.heap.size + 1) p q := by rw [hW]; exact ⟨by simp [go_sem], by simp [go_sem]⟩
  have R : NoC W (w.heap.size + 1 + 1) := by rw [hW]; exact ⟨by simp [go_sem], by simp [go_sem], by simp [go_sem], by simp [go_sem], by simp [go_sem], fun o => by simp [go_sem]⟩
  obtain ⟨r1, r2, r3, r4⟩ := hr
  have hq : 0 < q := by omega
  have hle := ofI_le (n := p) hq b
  have hp0 : 0 ≤ (ofI p q b).1 := Int.ediv_nonneg (Int.mul_nonneg hp (by have := Q_pos b; omega)) (by omega)
  have hlw := exp_low hp0 hle ht2 hb16 hN
  have heb := (exp_bound (ws := 1) (by omega) hsm hle (by have := Q_pos t; have := ofI_wide (n := p) hq b; omega) hN).1
  obtain ⟨E, hE⟩ : ∃ E : Int × Int, E = sqI b (doneI (expT b (downI (ofI p q b) t)) N) t := ⟨_, rfl⟩
  rw [← hE] at hlw heb ⊢
  have HEE := hide hE
  have hE0 : ¬ (E.1 ≤ 0 ∧ 0 ≤ E.2) := by have := Q_pos b; omega
  have HE0 := hide (And.intro hE0 heb)
  clear hlw heb hE hE0
  have HLN := hide (And.intro hl (And.intro ht (And.intro hsm hN)))
  have HLE := hide hle
  have HS := hide (hs.below hBW)
  have HB := hide hbits
  have HKK := hide hK
  have HAL := hide hal
  have HK := hide (show ∀ w', Below W.heap.size W w' → (w'.cell? ⟨w.heap.size, 0, none⟩ = some (.bool s.ln) ∧ w'.cell? ⟨w.heap.size, 1, none⟩ = some (.slice s.la s.lN s.lc) ∧ w'.cell? ⟨w.heap.size, 2, none⟩ = some (.bool s.hn) ∧ w'.cell? ⟨w.heap.size, 3, none⟩ = some (.slice s.ha s.hN s.hc) ∧ w'.cell? ⟨w.heap.size, 4, none⟩ = some (.int .i64 s.bits) ∧ w'.cell? ⟨w.heap.size + 1, 0, none⟩ = some (.int .i64 p) ∧ w'.cell? ⟨w.heap.size + 1, 1, none⟩ = some (.int .i64 q)) from fun w' hB => ⟨(A.below hB).c0, (A.below hB).c1, (A.below hB).c2, (A.below hB).c3, (A.below hB).c4, (C.below hB).c0, (C.below hB).c1⟩)
  have hD0 : Below W.heap.size W W.drew := (Below.refl _ _).drew
  have lA := A.lt
  have lC := C.lt
  have lR := R.lt
  have m1 : w.heap.size ≠ w.heap.size + 1 + 1 := by omega
  have m2 : w.heap.size + 1 + 1 ≠ w.heap.size := by omega
  have m3 : w.heap.size + 1 ≠ w.heap.size + 1 + 1 := by omega
  have m4 : w.heap.size + 1 + 1 ≠ w.heap.size + 1 := by omega
  clear hs hbits A C hl ht hsm hN hle hp0 hK hal
  go_enter Tryz.func186, Tryz.ntmps186
  go_wp2
  rw [← hW]
  clear hW
  obtain ⟨x0, x1, x2, x3, x4, x5, x6⟩ := unhide HK _ (Below.refl _ _)
  go_region_held3 (fun w' => w'.cell? ⟨w.heap.size, 0, none⟩ = some (.bool s.ln) ∧ w'.cell? ⟨w.heap.size, 1, none⟩ = some (.slice s.la s.lN s.lc) ∧ w'.cell? ⟨w.heap.size, 2, none⟩ = some (.bool s.hn) ∧ w'.cell? ⟨w.heap.size, 3, none⟩ = some (.slice s.ha s.hN s.hc) ∧ w'.cell? ⟨w.heap.size, 4, none⟩ = some (.int .i64 s.bits) ∧ w'.cell? ⟨w.heap.size + 1, 0, none⟩ = some (.int .i64 p) ∧ w'.cell? ⟨w.heap.size + 1, 1, none⟩ = some (.int .i64 q)) (first | exact unhide HK _ (by first | with_reducible exact hD0 | with_reducible exact hD5 | with_reducible exact hD4 | with_reducible exact hD3 | with_reducible exact hD2 | with_reducible exact hD1) | go_keep)
    (first
      | (go_at_call 146; have hqq := hD4; refine (wideDiv_any _ s v4 k b a.1 a.2 E.1 E.2 ((unhide HS).below hD4) hs4 (by omega) (by omega) (unhide HB) (unhide HAL) (unhide HE0).1 (unhide HE0).2).mono ?_; rintro r' w5 ⟨v5, rfl, hvb5, hs5, hb5⟩; have HV5 := hide hvb5; clear hvb5; have hD5 := bthen hD4 hb5; obtain ⟨q0, q1, q2, q3, q4, q5⟩ := R.below hD5; obtain ⟨y0, y1, y2, y3, y4, y5, y6⟩ := unhide HK _ hD5)
      | (go_at_call 147; have hqq := hD3; refine (wideExp_iv _ v3 k b t N (ofI p q b) l (hs3.mono hk3) (unhide HV3) (unhide HLE) (by omega) (by omega) (unhide HLN).1 (unhide HLN).2.1 (by omega) (unhide HLN).2.2.1 (unhide HLN).2.2.2 (unhide HKK) (by omega)).mono ?_; rintro r' w4 ⟨v4, rfl, hvb4, hs4, hb4⟩; rw [← unhide HEE] at hs4; have HV4 := hide hvb4; clear hvb4; have hD4 := bthen hD3 hb4)
      | (go_at_call 140; have hqq := hD2; refine (wideOf_z s.bits (unhide HB) _ _ _ _ _ _ _ _ 4 4 p q _ hint1 hint2 (by omega) (by omega) hq).mono ?_; rintro r' w3 ⟨v3, rfl, hvb3, hs3, hb3⟩; have HV3 := hide hvb3; clear hvb3; have hD3 := bthen hD2 hb3)
      | (go_at_call 43; have hqq := hD1; refine (numOf_int q _ (by omega) (by omega)).mono ?_; rintro r' w2 ⟨neg2, a2, n2, c2, rfl, hint2, hb2⟩; have hD2 := bthen hD1 hb2; replace hint1 := hint1.below hb2)
      | (go_at_call 43; refine (numOf_int p _ (by omega) (by omega)).mono ?_; rintro r' w1 ⟨neg1, a1, n1, c1, rfl, hint1, hb1⟩; have hD1 := bthen hD0 hb1))
  all_goals
    go_wp2_with fail
    refine bodyPost_ret (v := .agg #[.bool v5.ln, .slice v5.la v5.lN v5.lc, .bool v5.hn, .slice v5.ha v5.hN v5.hc, .int .i64 v5.bits]) (by simp [results, Tryz.results186, go_sem, q0, q1, q2, q3, q4]) rfl ⟨v5, rfl, unhide HV5, ?_, ?_⟩
    · exact SpAt.put5 hs5 q0 q1 q2 q3 q4 _ _ _ _ _
    · exact set5 (bthen hBW hD5) (by omega) _ _ _ _ _
end Go.Proofs.YtgmnknmjainababGreat
