/-
  What the ways that wide.Div hands to wide.corners answer, and wide.corners of them, and that they leave old memory alone.
  What wide.Div answers of right spans, the second one more than 0, and that it leaves old memory alone.
  What wide.Div answers of right spans, the second one less than 0; and both ways together; and that it leaves old memory alone.
  The numbers of wide.Erf: what they have, how far from 0 they are, how wide. Plain arithmetic: no statement of the seat is proved here.
  The error function of a root that need not be a ratio: it lies between those of ratios. Plain arithmetic: no statement of the seat is proved here.
-/
import Derived.Test.YtgmnknmjainababGreatK12
namespace Go.Proofs.YtgmnknmjainababGreat
set_option linter.unusedVariables false
set_option linter.unusedSimpArgs false
set_option linter.unnecessarySimpa false
open Go.RowKit
attribute [local go_sem ↓] Go.wp_at_zero Go.wp_at_succ

set_option maxRecDepth 100000 in
set_option maxHeartbeats 2000000 in
theorem div1_int (neg neg2 : Bool) (a c : Option Addr) (n m cap cap2 k k2 b B : Nat) (x y : Int) (w : World) (h1 : IntAt w neg a n cap k x) (h2 : IntAt w neg2 c m cap2 k2 y) (hk : k ≤ 300000000) (hb : b ≤ 1000000) (hy : 0 < y) (hc : w.cell? ⟨B, 4, none⟩ = some (.int .i64 b)) :
    Calls Tryz.prog 179 #[.agg #[.bool neg, .slice a n cap], .agg #[.bool neg2, .slice c m cap2], .pointer (some ⟨B, 0, none⟩)] w (IntAns w (b / 16 + k + 9) (x * Q b / y)) := by
  have lB : B < w.heap.size := World.block_lt_of_cell? w ⟨B, 4, none⟩ hc
  have ne1 : w.heap.size ≠ w.heap.size + 1 + 1 := by omega
  have ne2 : w.heap.size + 1 + 1 ≠ w.heap.size := by omega
  obtain ⟨W, hW⟩ : ∃ W, W = ((w.alloc (.cells #[.bool neg, .slice a n cap] 26)).alloc (.cells #[.bool neg2, .slice c m cap2] 26)).alloc (.cells #[.bool false, .slice none 0 0] 26) := ⟨_, rfl⟩
  have hBW : Below w.heap.size w W := by rw [hW]; exact bl3 _ _ _ _
  have A : NmC W w.heap.size ⟨neg, a, n, cap⟩ := by rw [hW]; exact ⟨by simp [go_sem], by simp [go_sem]⟩
  have G : NmC W (w.heap.size + 1) ⟨neg2, c, m, cap2⟩ := by rw [hW]; exact ⟨by simp [go_sem], by simp [go_sem]⟩
  have R : NoI W (w.heap.size + 1 + 1) := by rw [hW]; exact ⟨by simp [go_sem], by simp [go_sem], fun o => by simp [go_sem]⟩
  have hcW := (hBW.cell (p := ⟨B, 4, none⟩) lB).trans hc
  have lBW := Nat.lt_of_lt_of_le lB hBW.size
  have HX := hide (h1.below hBW)
  have HY := hide (h2.below hBW)
  have hB0 : Below W.heap.size W W.drew := (Below.refl _ _).drew
  have lR := R.lt
  have nB : B ≠ w.heap.size + 1 + 1 := by omega
  have nB' : w.heap.size + 1 + 1 ≠ B := by omega
  have HK := hide (show ∀ w', Below W.heap.size W w' → (w'.cell? ⟨w.heap.size, 0, none⟩ = some (.bool neg) ∧ w'.cell? ⟨w.heap.size, 1, none⟩ = some (.slice a n cap) ∧ w'.cell? ⟨w.heap.size + 1, 0, none⟩ = some (.bool neg2) ∧ w'.cell? ⟨w.heap.size + 1, 1, none⟩ = some (.slice c m cap2) ∧ w'.cell? ⟨B, 4, none⟩ = some (.int .i64 b)) from fun w' hB => ⟨(A.below hB).c0, (A.below hB).c1, (G.below hB).c0, (G.below hB).c1, (hB.cell (p := ⟨B, 4, none⟩) lBW).trans hcW⟩)
  go_enter Tryz.func179, Tryz.ntmps179
  go_wp2
  rw [← hW]
  clear hW
  obtain ⟨i0, i1, i2, i3, i4⟩ := unhide HK _ (Below.refl _ _)
  go_region_held3 (fun w' => w'.cell? ⟨w.heap.size, 0, none⟩ = some (.bool neg) ∧ w'.cell? ⟨w.heap.size, 1, none⟩ = some (.slice a n cap) ∧ w'.cell? ⟨w.heap.size + 1, 0, none⟩ = some (.bool neg2) ∧ w'.cell? ⟨w.heap.size + 1, 1, none⟩ = some (.slice c m cap2) ∧ w'.cell? ⟨B, 4, none⟩ = some (.int .i64 b)) (first | exact unhide HK _ (by first | with_reducible exact hB0 | with_reducible exact hB2 | with_reducible exact hB1) | go_keep)
    (first
      | (go_at_call 95; refine (up_int _ _ _ _ b k x _ ((unhide HX).below hB0) (by omega) (by omega)).mono ?_; rintro r w1 ⟨neg1, a1, n1, c1, rfl, hint1, hb1⟩; have hB1 := bthen hB0 hb1)
      | (go_at_call 119; refine (floor_any _ _ _ _ _ _ _ _ (b / 16 + k + 1) k2 (x * Q b) y _ hint1 ((unhide HY).below hB1) (by omega) hy).mono ?_; rintro r w2 ⟨neg3, a3, n3, c3, rfl, hint3, hb2⟩; have hB2 := bthen hB1 hb2; obtain ⟨q0, q1, q2⟩ := R.below hB2; obtain ⟨d0, d1, d2, d3, d4⟩ := unhide HK _ hB2))
  clear i0 i1 i2 i3 i4
  go_wp2
  refine bodyPost_ret (v := .agg #[.bool neg3, .slice a3 n3 c3]) (by simp [results, Tryz.results179, go_sem, q0, q1]) rfl ⟨neg3, a3, n3, c3, rfl, (hint3.put2 q0 q1 _ _).mono (by omega), ?_⟩
  exact set2 (bthen hBW hB2) (by omega) _ _

set_option maxRecDepth 100000 in
set_option maxHeartbeats 2000000 in
theorem div2_int (neg neg2 : Bool) (a c : Option Addr) (n m cap cap2 k k2 b B : Nat) (x y : Int) (w : World) (h1 : IntAt w neg a n cap k x) (h2 : IntAt w neg2 c m cap2 k2 y) (hk : k ≤ 300000000) (hb : b ≤ 1000000) (hy : 0 < y) (hc : w.cell? ⟨B, 4, none⟩ = some (.int .i64 b)) :
    Calls Tryz.prog 181 #[.agg #[.bool neg, .slice a n cap], .agg #[.bool neg2, .slice c m cap2], .pointer (some ⟨B, 0, none⟩)] w (IntAns w (b / 16 + k + 9) (-(-(x * Q b) / y))) := by
  have lB : B < w.heap.size := World.block_lt_of_cell? w ⟨B, 4, none⟩ hc
  have ne1 : w.heap.size ≠ w.heap.size + 1 + 1 := by omega
  have ne2 : w.heap.size + 1 + 1 ≠ w.heap.size := by omega
  obtain ⟨W, hW⟩ : ∃ W, W = ((w.alloc (.cells #[.bool neg, .slice a n cap] 26)).alloc (.cells #[.bool neg2, .slice c m cap2] 26)).alloc (.cells #[.bool false, .slice none 0 0] 26) := ⟨_, rfl⟩
  have hBW : Below w.heap.size w W := by rw [hW]; exact bl3 _ _ _ _
  have A : NmC W w.heap.size ⟨neg, a, n, cap⟩ := by rw [hW]; exact ⟨by simp [go_sem], by simp [go_sem]⟩
  have G : NmC W (w.heap.size + 1) ⟨neg2, c, m, cap2⟩ := by rw [hW]; exact ⟨by simp [go_sem], by simp [go_sem]⟩
  have R : NoI W (w.heap.size + 1 + 1) := by rw [hW]; exact ⟨by simp [go_sem], by simp [go_sem], fun o => by simp [go_sem]⟩
  have hcW := (hBW.cell (p := ⟨B, 4, none⟩) lB).trans hc
  have lBW := Nat.lt_of_lt_of_le lB hBW.size
  have HX := hide (h1.below hBW)
  have HY := hide (h2.below hBW)
  have hB0 : Below W.heap.size W W.drew := (Below.refl _ _).drew
  have lR := R.lt
  have nB : B ≠ w.heap.size + 1 + 1 := by omega
  have nB' : w.heap.size + 1 + 1 ≠ B := by omega
  have HK := hide (show ∀ w', Below W.heap.size W w' → (w'.cell? ⟨w.heap.size, 0, none⟩ = some (.bool neg) ∧ w'.cell? ⟨w.heap.size, 1, none⟩ = some (.slice a n cap) ∧ w'.cell? ⟨w.heap.size + 1, 0, none⟩ = some (.bool neg2) ∧ w'.cell? ⟨w.heap.size + 1, 1, none⟩ = some (.slice c m cap2) ∧ w'.cell? ⟨B, 4, none⟩ = some (.int .i64 b)) from fun w' hB => ⟨(A.below hB).c0, (A.below hB).c1, (G.below hB).c0, (G.below hB).c1, (hB.cell (p := ⟨B, 4, none⟩) lBW).trans hcW⟩)
  go_enter Tryz.func181, Tryz.ntmps181
  go_wp2
  rw [← hW]
  clear hW
  obtain ⟨i0, i1, i2, i3, i4⟩ := unhide HK _ (Below.refl _ _)
  go_region_held3 (fun w' => w'.cell? ⟨w.heap.size, 0, none⟩ = some (.bool neg) ∧ w'.cell? ⟨w.heap.size, 1, none⟩ = some (.slice a n cap) ∧ w'.cell? ⟨w.heap.size + 1, 0, none⟩ = some (.bool neg2) ∧ w'.cell? ⟨w.heap.size + 1, 1, none⟩ = some (.slice c m cap2) ∧ w'.cell? ⟨B, 4, none⟩ = some (.int .i64 b)) (first | exact unhide HK _ (by first | with_reducible exact hB0 | with_reducible exact hB2 | with_reducible exact hB1) | go_keep)
    (first
      | (go_at_call 95; refine (up_int _ _ _ _ b k x _ ((unhide HX).below hB0) (by omega) (by omega)).mono ?_; rintro r w1 ⟨neg1, a1, n1, c1, rfl, hint1, hb1⟩; have hB1 := bthen hB0 hb1)
      | (go_at_call 176; refine (ceil_any _ _ _ _ _ _ _ _ (b / 16 + k + 1) k2 (x * Q b) y _ hint1 ((unhide HY).below hB1) (by omega) hy).mono ?_; rintro r w2 ⟨neg3, a3, n3, c3, rfl, hint3, hb2⟩; have hB2 := bthen hB1 hb2; obtain ⟨q0, q1, q2⟩ := R.below hB2; obtain ⟨d0, d1, d2, d3, d4⟩ := unhide HK _ hB2))
  clear i0 i1 i2 i3 i4
  go_wp2
  refine bodyPost_ret (v := .agg #[.bool neg3, .slice a3 n3 c3]) (by simp [results, Tryz.results181, go_sem, q0, q1]) rfl ⟨neg3, a3, n3, c3, rfl, (hint3.put2 q0 q1 _ _).mono (by omega), ?_⟩
  exact set2 (bthen hBW hB2) (by omega) _ _

set_option maxRecDepth 100000 in
set_option maxHeartbeats 2000000 in
theorem corners_div1 (w : World) (s t : Sp) (k b B : Nat) (lo hi lo' hi' : Int) (hs : SpAt w s k lo hi) (ht : SpAt w t k lo' hi') (hk : k ≤ 300000000) (hb : b ≤ 1000000) (hp : 0 < lo') (hp2 : 0 < hi') (hc : w.cell? ⟨B, 4, none⟩ = some (.int .i64 b)) :
    Calls Tryz.prog 178 #[.agg #[.bool s.ln, .slice s.la s.lN s.lc, .bool s.hn, .slice s.ha s.hN s.hc, .int .i64 s.bits], .agg #[.bool t.ln, .slice t.la t.lN t.lc, .bool t.hn, .slice t.ha t.hN t.hc, .int .i64 t.bits], .func (.func 179) #[] #[.pointer (some ⟨B, 0, none⟩)]] w fun r w' =>
      ∃ B' f, r = .returned (.slice (some ⟨B', 0, none⟩) 4 4) ∧ Nums w' B' 4 (b / 16 + k + 9) f (pr4 (lo * Q b / lo') (lo * Q b / hi') (hi * Q b / lo') (hi * Q b / hi')) ∧ Below w.heap.size w w' := by
  have lB : B < w.heap.size := World.block_lt_of_cell? w ⟨B, 4, none⟩ hc
  obtain ⟨W, hW⟩ : ∃ W, W = (w.alloc (.cells #[.bool s.ln, .slice s.la s.lN s.lc, .bool s.hn, .slice s.ha s.hN s.hc, .int .i64 s.bits] 28)).alloc (.cells #[.bool t.ln, .slice t.la t.lN t.lc, .bool t.hn, .slice t.ha t.hN t.hc, .int .i64 t.bits] 28) := ⟨_, rfl⟩
  have hBW : Below w.heap.size w W := by rw [hW]; exact bl2 _ _ _
  have a0 : SpC W w.heap.size s := by rw [hW]; exact ⟨by simp [go_sem], by simp [go_sem], by simp [go_sem], by simp [go_sem], by simp [go_sem]⟩
  have g0 : SpC W (w.heap.size + 1) t := by rw [hW]; exact ⟨by simp [go_sem], by simp [go_sem], by simp [go_sem], by simp [go_sem], by simp [go_sem]⟩
  have hcW := (hBW.cell (p := ⟨B, 4, none⟩) lB).trans hc
  have lBW := Nat.lt_of_lt_of_le lB hBW.size
  have HS := hide (hs.below hBW)
  have HT := hide (ht.below hBW)
  have hB0 : Below W.heap.size W W.drew := (Below.refl _ _).drew
  have HKB := hide (show ∀ w', Below W.heap.size W w' → w'.cell? ⟨B, 4, none⟩ = some (.int .i64 b) from fun w' hB => (hB.cell (p := ⟨B, 4, none⟩) lBW).trans hcW)
  have HK := hide (show ∀ w', Below W.heap.size W w' → (w'.cell? ⟨w.heap.size, 0, none⟩ = some (.bool s.ln) ∧ w'.cell? ⟨w.heap.size, 1, none⟩ = some (.slice s.la s.lN s.lc) ∧ w'.cell? ⟨w.heap.size, 2, none⟩ = some (.bool s.hn) ∧ w'.cell? ⟨w.heap.size, 3, none⟩ = some (.slice s.ha s.hN s.hc) ∧ w'.cell? ⟨w.heap.size + 1, 0, none⟩ = some (.bool t.ln) ∧ w'.cell? ⟨w.heap.size + 1, 1, none⟩ = some (.slice t.la t.lN t.lc) ∧ w'.cell? ⟨w.heap.size + 1, 2, none⟩ = some (.bool t.hn) ∧ w'.cell? ⟨w.heap.size + 1, 3, none⟩ = some (.slice t.ha t.hN t.hc)) from fun w' hB => by
    obtain ⟨x0, x1, x2, x3, x4⟩ := a0.below hB
    obtain ⟨y0, y1, y2, y3, y4⟩ := g0.below hB
    exact ⟨x0, x1, x2, x3, y0, y1, y2, y3⟩)
  go_enter Tryz.func178, Tryz.ntmps178
  go_wp2
  obtain ⟨x0, x1, x2, x3, x4⟩ := a0
  obtain ⟨y0, y1, y2, y3, y4⟩ := g0
  rw [← hW]
  clear hW
  go_region_held3 (fun w' => w'.cell? ⟨w.heap.size, 0, none⟩ = some (.bool s.ln) ∧ w'.cell? ⟨w.heap.size, 1, none⟩ = some (.slice s.la s.lN s.lc) ∧ w'.cell? ⟨w.heap.size, 2, none⟩ = some (.bool s.hn) ∧ w'.cell? ⟨w.heap.size, 3, none⟩ = some (.slice s.ha s.hN s.hc) ∧ w'.cell? ⟨w.heap.size + 1, 0, none⟩ = some (.bool t.ln) ∧ w'.cell? ⟨w.heap.size + 1, 1, none⟩ = some (.slice t.la t.lN t.lc) ∧ w'.cell? ⟨w.heap.size + 1, 2, none⟩ = some (.bool t.hn) ∧ w'.cell? ⟨w.heap.size + 1, 3, none⟩ = some (.slice t.ha t.hN t.hc)) (exact unhide HK _ (by first | with_reducible exact hB0 | with_reducible exact balloc hB4 _ | with_reducible exact hB4 | with_reducible exact hB3 | with_reducible exact hB2 | with_reducible exact hB1))
    (first
      | (go_at_call 179; have hq := hB3; refine (div1_int _ _ _ _ _ _ _ _ k k b B hi hi' _ ((unhide HS).hi.below hB3) ((unhide HT).hi.below hB3) hk hb hp2 (unhide HKB _ hB3)).mono ?_; rintro r w4 ⟨neg4, a4, n4, c4, rfl, hint4, hb4⟩; replace hint1 := hint1.below hb4; replace hint2 := hint2.below hb4; replace hint3 := hint3.below hb4; have hB4 := bthen hB3 hb4)
      | (go_at_call 179; have hq := hB2; refine (div1_int _ _ _ _ _ _ _ _ k k b B hi lo' _ ((unhide HS).hi.below hB2) ((unhide HT).lo.below hB2) hk hb hp (unhide HKB _ hB2)).mono ?_; rintro r w3 ⟨neg3, a3, n3, c3, rfl, hint3, hb3⟩; replace hint1 := hint1.below hb3; replace hint2 := hint2.below hb3; have hB3 := bthen hB2 hb3)
      | (go_at_call 179; have hq := hB1; refine (div1_int _ _ _ _ _ _ _ _ k k b B lo hi' _ ((unhide HS).lo.below hB1) ((unhide HT).hi.below hB1) hk hb hp2 (unhide HKB _ hB1)).mono ?_; rintro r w2 ⟨neg2, a2, n2, c2, rfl, hint2, hb2⟩; replace hint1 := hint1.below hb2; have hB2 := bthen hB1 hb2)
      | (go_at_call 179; have hq := hB0; refine (div1_int _ _ _ _ _ _ _ _ k k b B lo lo' _ ((unhide HS).lo.below hB0) ((unhide HT).lo.below hB0) hk hb hp (unhide HKB _ hB0)).mono ?_; rintro r w1 ⟨neg1, a1, n1, c1, rfl, hint1, hb1⟩; have hB1 := bthen hB0 hb1))
  go_wp2
  go_ret
  exact ⟨w4.heap.size, pr4 ⟨neg1, a1, n1, c1⟩ ⟨neg2, a2, n2, c2⟩ ⟨neg3, a3, n3, c3⟩ ⟨neg4, a4, n4, c4⟩, rfl, nums4 w4 _ rfl ⟨neg1, a1, n1, c1⟩ ⟨neg2, a2, n2, c2⟩ ⟨neg3, a3, n3, c3⟩ ⟨neg4, a4, n4, c4⟩ _ _ _ _ _ _ hint1 hint2 hint3 hint4, bthen hBW (balloc hB4 _)⟩

set_option maxRecDepth 100000 in
set_option maxHeartbeats 2000000 in
theorem corners_div2 (w : World) (s t : Sp) (k b B : Nat) (lo hi lo' hi' : Int) (hs : SpAt w s k lo hi) (ht : SpAt w t k lo' hi') (hk : k ≤ 300000000) (hb : b ≤ 1000000) (hp : 0 < lo') (hp2 : 0 < hi') (hc : w.cell? ⟨B, 4, none⟩ = some (.int .i64 b)) :
    Calls Tryz.prog 178 #[.agg #[.bool s.ln, .slice s.la s.lN s.lc, .bool s.hn, .slice s.ha s.hN s.hc, .int .i64 s.bits], .agg #[.bool t.ln, .slice t.la t.lN t.lc, .bool t.hn, .slice t.ha t.hN t.hc, .int .i64 t.bits], .func (.func 181) #[] #[.pointer (some ⟨B, 0, none⟩)]] w fun r w' =>
      ∃ B' f, r = .returned (.slice (some ⟨B', 0, none⟩) 4 4) ∧ Nums w' B' 4 (b / 16 + k + 9) f (pr4 (-(-(lo * Q b) / lo')) (-(-(lo * Q b) / hi')) (-(-(hi * Q b) / lo')) (-(-(hi * Q b) / hi'))) ∧ Below w.heap.size w w' := by
  have lB : B < w.heap.size := World.block_lt_of_cell? w ⟨B, 4, none⟩ hc
  obtain ⟨W, hW⟩ : ∃ W, W = (w.alloc (.cells #[.bool s.ln, .slice s.la s.lN s.lc, .bool s.hn, .slice s.ha s.hN s.hc, .int .i64 s.bits] 28)).alloc (.cells #[.bool t.ln, .slice t.la t.lN t.lc, .bool t.hn, .slice t.ha t.hN t.hc, .int .i64 t.bits] 28) := ⟨_, rfl⟩
  have hBW : Below w.heap.size w W := by rw [hW]; exact bl2 _ _ _
  have a0 : SpC W w.heap.size s := by rw [hW]; exact ⟨by simp [go_sem], by simp [go_sem], by simp [go_sem], by simp [go_sem], by simp [go_sem]⟩
  have g0 : SpC W (w.heap.size + 1) t := by rw [hW]; exact ⟨by simp [go_sem], by simp [go_sem], by simp [go_sem], by simp [go_sem], by simp [go_sem]⟩
  have hcW := (hBW.cell (p := ⟨B, 4, none⟩) lB).trans hc
  have lBW := Nat.lt_of_lt_of_le lB hBW.size
  have HS := hide (hs.below hBW)
  have HT := hide (ht.below hBW)
  have hB0 : Below W.heap.size W W.drew := (Below.refl _ _).drew
  have HKB := hide (show ∀ w', Below W.heap.size W w' → w'.cell? ⟨B, 4, none⟩ = some (.int .i64 b) from fun w' hB => (hB.cell (p := ⟨B, 4, none⟩) lBW).trans hcW)
  have HK := hide (show ∀ w', Below W.heap.size W w' → (w'.cell? ⟨w.heap.size, 0, none⟩ = some (.bool s.ln) ∧ w'.cell? ⟨w.heap.size, 1, none⟩ = some (.slice s.la s.lN s.lc) ∧ w'.cell? ⟨w.heap.size, 2, none⟩ = some (.bool s.hn) ∧ w'.cell? ⟨w.heap.size, 3, none⟩ = some (.slice s.ha s.hN s.hc) ∧ w'.cell? ⟨w.heap.size + 1, 0, none⟩ = some (.bool t.ln) ∧ w'.cell? ⟨w.heap.size + 1, 1, none⟩ = some (.slice t.la t.lN t.lc) ∧ w'.cell? ⟨w.heap.size + 1, 2, none⟩ = some (.bool t.hn) ∧ w'.cell? ⟨w.heap.size + 1, 3, none⟩ = some (.slice t.ha t.hN t.hc)) from fun w' hB => by
    obtain ⟨x0, x1, x2, x3, x4⟩ := a0.below hB
    obtain ⟨y0, y1, y2, y3, y4⟩ := g0.below hB
    exact ⟨x0, x1, x2, x3, y0, y1, y2, y3⟩)
  go_enter Tryz.func178, Tryz.ntmps178
  go_wp2
  obtain ⟨x0, x1, x2, x3, x4⟩ := a0
  obtain ⟨y0, y1, y2, y3, y4⟩ := g0
  rw [← hW]
  clear hW
  go_region_held3 (fun w' => w'.cell? ⟨w.heap.size, 0, none⟩ = some (.bool s.ln) ∧ w'.cell? ⟨w.heap.size, 1, none⟩ = some (.slice s.la s.lN s.lc) ∧ w'.cell? ⟨w.heap.size, 2, none⟩ = some (.bool s.hn) ∧ w'.cell? ⟨w.heap.size, 3, none⟩ = some (.slice s.ha s.hN s.hc) ∧ w'.cell? ⟨w.heap.size + 1, 0, none⟩ = some (.bool t.ln) ∧ w'.cell? ⟨w.heap.size + 1, 1, none⟩ = some (.slice t.la t.lN t.lc) ∧ w'.cell? ⟨w.heap.size + 1, 2, none⟩ = some (.bool t.hn) ∧ w'.cell? ⟨w.heap.size + 1, 3, none⟩ = some (.slice t.ha t.hN t.hc)) (exact unhide HK _ (by first | with_reducible exact hB0 | with_reducible exact balloc hB4 _ | with_reducible exact hB4 | with_reducible exact hB3 | with_reducible exact hB2 | with_reducible exact hB1))
    (first
      | (go_at_call 181; have hq := hB3; refine (div2_int _ _ _ _ _ _ _ _ k k b B hi hi' _ ((unhide HS).hi.below hB3) ((unhide HT).hi.below hB3) hk hb hp2 (unhide HKB _ hB3)).mono ?_; rintro r w4 ⟨neg4, a4, n4, c4, rfl, hint4, hb4⟩; replace hint1 := hint1.below hb4; replace hint2 := hint2.below hb4; replace hint3 := hint3.below hb4; have hB4 := bthen hB3 hb4)
      | (go_at_call 181; have hq := hB2; refine (div2_int _ _ _ _ _ _ _ _ k k b B hi lo' _ ((unhide HS).hi.below hB2) ((unhide HT).lo.below hB2) hk hb hp (unhide HKB _ hB2)).mono ?_; rintro r w3 ⟨neg3, a3, n3, c3, rfl, hint3, hb3⟩; replace hint1 := hint1.below hb3; replace hint2 := hint2.below hb3; have hB3 := bthen hB2 hb3)
      | (go_at_call 181; have hq := hB1; refine (div2_int _ _ _ _ _ _ _ _ k k b B lo hi' _ ((unhide HS).lo.below hB1) ((unhide HT).hi.below hB1) hk hb hp2 (unhide HKB _ hB1)).mono ?_; rintro r w2 ⟨neg2, a2, n2, c2, rfl, hint2, hb2⟩; replace hint1 := hint1.below hb2; have hB2 := bthen hB1 hb2)
      | (go_at_call 181; have hq := hB0; refine (div2_int _ _ _ _ _ _ _ _ k k b B lo lo' _ ((unhide HS).lo.below hB0) ((unhide HT).lo.below hB0) hk hb hp (unhide HKB _ hB0)).mono ?_; rintro r w1 ⟨neg1, a1, n1, c1, rfl, hint1, hb1⟩; have hB1 := bthen hB0 hb1))
  go_wp2
  go_ret
  exact ⟨w4.heap.size, pr4 ⟨neg1, a1, n1, c1⟩ ⟨neg2, a2, n2, c2⟩ ⟨neg3, a3, n3, c3⟩ ⟨neg4, a4, n4, c4⟩, rfl, nums4 w4 _ rfl ⟨neg1, a1, n1, c1⟩ ⟨neg2, a2, n2, c2⟩ ⟨neg3, a3, n3, c3⟩ ⟨neg4, a4, n4, c4⟩ _ _ _ _ _ _ hint1 hint2 hint3 hint4, bthen hBW (balloc hB4 _)⟩
end Go.Proofs.YtgmnknmjainababGreat

namespace Go.Proofs.YtgmnknmjainababGreat
set_option linter.unusedVariables false
set_option linter.unusedSimpArgs false
set_option linter.unnecessarySimpa false
open Go.RowKit
attribute [local go_sem ↓] Go.wp_at_zero Go.wp_at_succ

set_option maxRecDepth 100000 in
set_option maxHeartbeats 2000000 in
theorem wideDiv_pos (w : World) (s t : Sp) (k b : Nat) (lo hi lo' hi' : Int) (hs : SpAt w s k lo hi) (ht : SpAt w t k lo' hi') (hk : k ≤ 300000000) (hb : b ≤ 1000000) (hbits : s.bits = b) (hp : 0 < lo') (hp2 : 0 < hi') :
    Calls Tryz.prog 146 #[.agg #[.bool s.ln, .slice s.la s.lN s.lc, .bool s.hn, .slice s.ha s.hN s.hc, .int .i64 s.bits], .agg #[.bool t.ln, .slice t.la t.lN t.lc, .bool t.hn, .slice t.ha t.hN t.hc, .int .i64 t.bits]] w (SpanAns w b (b / 16 + k + 10) (leastZ (pr4 (lo * Q b / lo') (lo * Q b / hi') (hi * Q b / lo') (hi * Q b / hi')) 3) (mostZ (pr4 (-(-(lo * Q b) / lo')) (-(-(lo * Q b) / hi')) (-(-(hi * Q b) / lo')) (-(-(hi * Q b) / hi'))) 3)) := by
  have HBT := hide hbits
  have t1 : ¬ cmpInt hi' 0 < 0 := by unfold cmpInt; rw [if_neg (by omega)]; split <;> omega
  clear hbits
  obtain ⟨W, hW⟩ : ∃ W, W = ((w.alloc (.cells #[.bool s.ln, .slice s.la s.lN s.lc, .bool s.hn, .slice s.ha s.hN s.hc, .int .i64 s.bits] 28)).alloc (.cells #[.bool t.ln, .slice t.la t.lN t.lc, .bool t.hn, .slice t.ha t.hN t.hc, .int .i64 t.bits] 28)).alloc (.cells #[.bool false, .slice none 0 0, .bool false, .slice none 0 0, .int .i64 0] 28) := ⟨_, rfl⟩
  have hBW : Below w.heap.size w W := by rw [hW]; exact bl3 _ _ _ _
  have A : SpC W w.heap.size s := by rw [hW]; exact ⟨by simp [go_sem], by simp [go_sem], by simp [go_sem], by simp [go_sem], by simp [go_sem]⟩
  have G : SpC W (w.heap.size + 1) t := by rw [hW]; exact ⟨by simp [go_sem], by simp [go_sem], by simp [go_sem], by simp [go_sem], by simp [go_sem]⟩
  have R : NoC W (w.heap.size + 1 + 1) := by rw [hW]; exact ⟨by simp [go_sem], by simp [go_sem], by simp [go_sem], by simp [go_sem], by simp [go_sem], fun o => by simp [go_sem]⟩
  replace hs := hs.below hBW
  replace ht := ht.below hBW
  go_enter Tryz.func146, Tryz.ntmps146
  go_wp2_with fail
  rw [← hW]
  clear hW
  refine (sign_int _ _ _ _ k hi' _ ht.hi).mono ?_
  rintro r w0 ⟨rfl, hb0⟩
  replace hBW := bthen hBW hb0
  replace A := A.below hb0
  replace G := G.below hb0
  replace R := R.below hb0
  replace hs := hs.below hb0
  replace ht := ht.below hb0
  clear hb0
  have lA := A.lt
  have lG := G.lt
  obtain ⟨x0, x1, x2, x3, x4⟩ := A
  obtain ⟨y0, y1, y2, y3, y4⟩ := G
  have A : SpC w0 w.heap.size s := ⟨x0, x1, x2, x3, x4⟩
  have G : SpC w0 (w.heap.size + 1) t := ⟨y0, y1, y2, y3, y4⟩
  go_wp2_with fail
  clear lA lG x0 x1 x2 x3 x4 y0 y1 y2 y3 y4
  refine (corners_div1 _ s t k b w.heap.size lo hi lo' hi' hs ht hk hb hp hp2 (by rw [← unhide HBT]; exact A.c4)).mono ?_
  rintro r w1 ⟨B1, f1, rfl, hN1, hb1⟩
  replace hBW := bthen hBW hb1
  replace A := A.below hb1
  replace G := G.below hb1
  replace R := R.below hb1
  replace hs := hs.below hb1
  replace ht := ht.below hb1
  clear hb1
  go_wp2_with fail
  refine (leastw_int _ 3 _ (b / 16 + k + 9) f1 _ _ hN1 (by omega) (by omega)).mono ?_
  rintro r w2 ⟨neg2, a2, n2, c2, rfl, hint2, hb2⟩
  replace hBW := bthen hBW hb2
  replace A := A.below hb2
  replace G := G.below hb2
  replace R := R.below hb2
  replace hs := hs.below hb2
  replace ht := ht.below hb2
  clear hb2 hN1
  obtain ⟨W2, hW2⟩ : ∃ W', W' = w2.alloc (.cells #[.bool neg2, .slice a2 n2 c2] 26) := ⟨_, rfl⟩
  have hc2 : Below w2.heap.size w2 W2 := by rw [hW2]; exact bl1 _ _
  have X2 : NmC W2 w2.heap.size ⟨neg2, a2, n2, c2⟩ := by rw [hW2]; exact nmc_new w2 ⟨neg2, a2, n2, c2⟩ _
  have lA := A.lt
  have lG := G.lt
  obtain ⟨x0, x1, x2, x3, x4⟩ := A
  obtain ⟨y0, y1, y2, y3, y4⟩ := G
  have A : SpC w2 w.heap.size s := ⟨x0, x1, x2, x3, x4⟩
  have G : SpC w2 (w.heap.size + 1) t := ⟨y0, y1, y2, y3, y4⟩
  go_wp2_with fail
  rw [← hW2]
  clear hW2
  clear lA lG x0 x1 x2 x3 x4 y0 y1 y2 y3 y4
  have nR2 : w2.heap.size ≠ w.heap.size + 1 + 1 := Nat.ne_of_gt R.lt
  replace hBW := bthen hBW hc2
  replace A := A.below hc2
  replace G := G.below hc2
  replace R := R.below hc2
  replace hs := hs.below hc2
  replace ht := ht.below hc2
  replace hint2 := hint2.below hc2
  clear hc2
  refine (corners_div2 _ s t k b w.heap.size lo hi lo' hi' hs ht hk hb hp hp2 (by rw [← unhide HBT]; exact A.c4)).mono ?_
  rintro r w3 ⟨B3, f3, rfl, hN3, hb3⟩
  replace hBW := bthen hBW hb3
  replace A := A.below hb3
  replace R := R.below hb3
  replace hint2 := hint2.below hb3
  replace X2 := X2.below hb3
  clear hb3
  go_wp2_with fail
  refine (most_int _ 3 _ (b / 16 + k + 9) f3 _ _ hN3 (by omega) (by omega)).mono ?_
  rintro r w4 ⟨neg4, a4, n4, c4, rfl, hint4, hb4⟩
  replace hBW := bthen hBW hb4
  replace A := A.below hb4
  replace R := R.below hb4
  replace hint2 := hint2.below hb4
  replace X2 := X2.below hb4
  clear hb4 hN3
  have lA := A.lt
  have lX := X2.lt
  have lR := R.lt
  have nR2' : w.heap.size + 1 + 1 ≠ w2.heap.size := fun e9 => nR2 e9.symm
  have nR4 : w4.heap.size ≠ w.heap.size + 1 + 1 := Nat.ne_of_gt lR
  have nR4' : w.heap.size + 1 + 1 ≠ w4.heap.size := Nat.ne_of_lt lR
  have nX4 : w2.heap.size ≠ w4.heap.size := Nat.ne_of_lt lX
  obtain ⟨x0, x1, x2, x3, x4⟩ := A
  obtain ⟨z0, z1⟩ := X2
  obtain ⟨q0, q1, q2, q3, q4, q5⟩ := R
  go_wp2_with fail
  refine bodyPost_ret (v := .agg #[.bool neg2, .slice a2 n2 c2, .bool neg4, .slice a4 n4 c4, .int .i64 s.bits]) (by simp [results, Tryz.results146, go_sem, lR, q0, q1, q2, q3, q4]) rfl ⟨⟨neg2, a2, n2, c2, neg4, a4, n4, c4, s.bits⟩, rfl, unhide HBT, ?_, ?_⟩
  · first | with_reducible exact SpAt.put5 ⟨(hint2.below (bl1 _ _)).mono (by omega), (hint4.below (bl1 _ _)).mono (by omega)⟩ (by simp [go_sem, lR, q0]) (by simp [go_sem, lR, q1]) (by simp [go_sem, lR, q2]) (by simp [go_sem, lR, q3]) (by simp [go_sem, lR, q4]) _ _ _ _ _ | with_reducible exact SpAt.below (SpAt.put5 ⟨hint2.mono (by omega), hint4.mono (by omega)⟩ q0 q1 q2 q3 q4 _ _ _ _ _) (bl1 _ _)
  · first | with_reducible exact set5 (balloc hBW _) (by omega) _ _ _ _ _ | with_reducible exact balloc (set5 hBW (by omega) _ _ _ _ _) _
end Go.Proofs.YtgmnknmjainababGreat

namespace Go.Proofs.YtgmnknmjainababGreat
set_option linter.unusedVariables false
set_option linter.unusedSimpArgs false
set_option linter.unnecessarySimpa false
open Go.RowKit
attribute [local go_sem ↓] Go.wp_at_zero Go.wp_at_succ

theorem SpC.put5n {w : World} {B B' : Nat} {s : Sp} (h : SpC w B s) (hne : B ≠ B') (u0 u1 u2 u3 u4 : Value) :
    SpC (((((w.setCell ⟨B', 0, none⟩ u0).setCell ⟨B', 1, none⟩ u1).setCell ⟨B', 2, none⟩ u2).setCell ⟨B', 3, none⟩ u3).setCell ⟨B', 4, none⟩ u4) B s :=
  ⟨cell_put5' h.c0 hne _ _ _ _ _, cell_put5' h.c1 hne _ _ _ _ _, cell_put5' h.c2 hne _ _ _ _ _, cell_put5' h.c3 hne _ _ _ _ _, cell_put5' h.c4 hne _ _ _ _ _⟩
theorem NoC.put5n {w : World} {B B' : Nat} (h : NoC w B) (hne : B ≠ B') (u0 u1 u2 u3 u4 : Value) :
    NoC (((((w.setCell ⟨B', 0, none⟩ u0).setCell ⟨B', 1, none⟩ u1).setCell ⟨B', 2, none⟩ u2).setCell ⟨B', 3, none⟩ u3).setCell ⟨B', 4, none⟩ u4) B := by
  obtain ⟨q0, q1, q2, q3, q4, q5⟩ := h
  exact ⟨cell_put5' q0 hne _ _ _ _ _, cell_put5' q1 hne _ _ _ _ _, cell_put5' q2 hne _ _ _ _ _, cell_put5' q3 hne _ _ _ _ _, cell_put5' q4 hne _ _ _ _ _, fun o => by rw [frozen_set', frozen_set', frozen_set', frozen_set', frozen_set']; exact q5 o⟩
theorem sp_put {w : World} {B : Nat} {t : Sp} (h : SpC w B t) (s : Sp) : SpC (((((w.setCell ⟨B, 0, none⟩ (.bool s.ln)).setCell ⟨B, 1, none⟩ (.slice s.la s.lN s.lc)).setCell ⟨B, 2, none⟩ (.bool s.hn)).setCell ⟨B, 3, none⟩ (.slice s.ha s.hN s.hc)).setCell ⟨B, 4, none⟩ (.int .i64 s.bits)) B s := by
  obtain ⟨q0, q1, q2, q3, q4⟩ := h
  constructor <;> simp [go_sem, q0, q1, q2, q3, q4]
/-- Two spans that are written anew, one behind the other. -/
theorem two_sp {w : World} {B B' : Nat} {s t : Sp} (hA : SpC w B s) (hG : SpC w B' t) (hne : B ≠ B') (u v : Sp) :
    let w1 := ((((w.setCell ⟨B, 0, none⟩ (.bool u.ln)).setCell ⟨B, 1, none⟩ (.slice u.la u.lN u.lc)).setCell ⟨B, 2, none⟩ (.bool u.hn)).setCell ⟨B, 3, none⟩ (.slice u.ha u.hN u.hc)).setCell ⟨B, 4, none⟩ (.int .i64 u.bits)
    let w2 := ((((w1.setCell ⟨B', 0, none⟩ (.bool v.ln)).setCell ⟨B', 1, none⟩ (.slice v.la v.lN v.lc)).setCell ⟨B', 2, none⟩ (.bool v.hn)).setCell ⟨B', 3, none⟩ (.slice v.ha v.hN v.hc)).setCell ⟨B', 4, none⟩ (.int .i64 v.bits)
    SpC w2 B u ∧ SpC w2 B' v ∧ (∀ {x : Sp} {k : Nat} {lo hi : Int}, SpAt w x k lo hi → SpAt w2 x k lo hi) ∧ (∀ {C : Nat}, NoC w C → C ≠ B → C ≠ B' → NoC w2 C) := by
  intro w1 w2
  have h1 : SpC w1 B u := sp_put hA u
  have h2 : SpC w1 B' t := hG.put5n (fun e => hne e.symm) _ _ _ _ _
  exact ⟨h1.put5n hne _ _ _ _ _, sp_put h2 v, fun h => SpAt.put5 (SpAt.put5 h hA.c0 hA.c1 hA.c2 hA.c3 hA.c4 _ _ _ _ _) h2.c0 h2.c1 h2.c2 h2.c3 h2.c4 _ _ _ _ _, fun h n1 n2 => (h.put5n n1 _ _ _ _ _).put5n n2 _ _ _ _ _⟩

set_option maxRecDepth 100000 in
set_option maxHeartbeats 4000000 in
theorem wideDiv_neg (w : World) (s t : Sp) (k b : Nat) (lo hi lo' hi' : Int) (hs : SpAt w s k lo hi) (ht : SpAt w t k lo' hi') (hk : k ≤ 300000000) (hb : b ≤ 1000000) (hbits : s.bits = b) (hp : lo' < 0) (hp2 : hi' < 0) :
    Calls Tryz.prog 146 #[.agg #[.bool s.ln, .slice s.la s.lN s.lc, .bool s.hn, .slice s.ha s.hN s.hc, .int .i64 s.bits], .agg #[.bool t.ln, .slice t.la t.lN t.lc, .bool t.hn, .slice t.ha t.hN t.hc, .int .i64 t.bits]] w (SpanAns w b (b / 16 + k + 10) (leastZ (pr4 ((-hi) * Q b / (-hi')) ((-hi) * Q b / (-lo')) ((-lo) * Q b / (-hi')) ((-lo) * Q b / (-lo'))) 3) (mostZ (pr4 (-(-((-hi) * Q b) / (-hi'))) (-(-((-hi) * Q b) / (-lo'))) (-(-((-lo) * Q b) / (-hi'))) (-(-((-lo) * Q b) / (-lo')))) 3)) := by
  have HBT := hide hbits
  have t1 : cmpInt hi' 0 < 0 := by unfold cmpInt; rw [if_pos (by omega)]; omega
  clear hbits
  obtain ⟨W, hW⟩ : ∃ W, W = ((w.alloc (.cells #[.bool s.ln, .slice s.la s.lN s.lc, .bool s.hn, .slice s.ha s.hN s.hc, .int .i64 s.bits] 28)).alloc (.cells #[.bool t.ln, .slice t.la t.lN t.lc, .bool t.hn, .slice t.ha t.hN t.hc, .int .i64 t.bits] 28)).alloc (.cells #[.bool false, .slice none 0 0, .bool false, .slice none 0 0, .int .i64 0] 28) := ⟨_, rfl⟩
  have hBW : Below w.heap.size w W := by rw [hW]; exact bl3 _ _ _ _
  have A : SpC W w.heap.size s := by rw [hW]; exact ⟨by simp [go_sem], by simp [go_sem], by simp [go_sem], by simp [go_sem], by simp [go_sem]⟩
  have G : SpC W (w.heap.size + 1) t := by rw [hW]; exact ⟨by simp [go_sem], by simp [go_sem], by simp [go_sem], by simp [go_sem], by simp [go_sem]⟩
  have R : NoC W (w.heap.size + 1 + 1) := by rw [hW]; exact ⟨by simp [go_sem], by simp [go_sem], by simp [go_sem], by simp [go_sem], by simp [go_sem], fun o => by simp [go_sem]⟩
  have FA : ∀ o, W.frozen? ⟨w.heap.size, o, none⟩ = false := by intro o; rw [hW]; simp [go_sem]
  have FG : ∀ o, W.frozen? ⟨w.heap.size + 1, o, none⟩ = false := by intro o; rw [hW]; simp [go_sem]
  replace hs := hs.below hBW
  replace ht := ht.below hBW
  go_enter Tryz.func146, Tryz.ntmps146
  go_wp2_with fail
  rw [← hW]
  clear hW
  refine (sign_int _ _ _ _ k hi' _ ht.hi).mono ?_
  rintro r w0 ⟨rfl, hb0⟩
  replace hBW := bthen hBW hb0
  replace FA : ∀ o, w0.frozen? ⟨w.heap.size, o, none⟩ = false := fun o => (hb0.frozen (p := ⟨w.heap.size, o, none⟩) A.lt).trans (FA o)
  replace FG : ∀ o, w0.frozen? ⟨w.heap.size + 1, o, none⟩ = false := fun o => (hb0.frozen (p := ⟨w.heap.size + 1, o, none⟩) G.lt).trans (FG o)
  replace A := A.below hb0
  replace G := G.below hb0
  replace R := R.below hb0
  replace hs := hs.below hb0
  replace ht := ht.below hb0
  clear hb0
  have nAG : w.heap.size ≠ w.heap.size + 1 := by omega
  have nRA : w.heap.size + 1 + 1 ≠ w.heap.size := by omega
  have nRG : w.heap.size + 1 + 1 ≠ w.heap.size + 1 := by omega
  have HS := hide hs
  have HT := hide ht
  have HR := hide R
  have HA := hide A
  have HG := hide G
  have lA := A.lt
  have lG := G.lt
  have hB0 : Below w0.heap.size w0 w0.drew := (Below.refl _ _).drew
  obtain ⟨x0, x1, x2, x3, x4⟩ := A
  obtain ⟨y0, y1, y2, y3, y4⟩ := G
  go_wp2_with fail
  go_cut [12] (fun p wx => ∃ s2 t2 : Sp, s2.bits = s.bits ∧ SpC wx w.heap.size s2 ∧ SpC wx (w.heap.size + 1) t2 ∧ SpAt wx s2 k (-hi) (-lo) ∧ SpAt wx t2 k (-hi') (-lo') ∧ NoC wx (w.heap.size + 1 + 1) ∧ Below w.heap.size w wx)
  case first =>
    go_region_with
      (first
        | (go_at_call 97; have hq := hB1; refine (opposite_int _ t k lo' hi' ((unhide HT).below hB1) (by omega)).mono ?_; rintro r w2 ⟨u2, rfl, hub2, hup2, hb2⟩; have HU2 := hide hub2; clear hub2; have hB2 := bthen hB1 hb2; replace hup1 := hup1.below hb2; have l2A := Nat.lt_of_lt_of_le lA hB2.size; have l2G := Nat.lt_of_lt_of_le lG hB2.size; obtain ⟨a0, a1, a2, a3, a4⟩ := (unhide HA).below hB2; obtain ⟨g0, g1, g2, g3, g4⟩ := (unhide HG).below hB2; have fA2 : ∀ o, w2.frozen? ⟨w.heap.size, o, none⟩ = false := (fun o => (hB2.frozen (p := ⟨w.heap.size, o, none⟩) lA).trans (FA o)); have fG2 : ∀ o, w2.frozen? ⟨w.heap.size + 1, o, none⟩ = false := (fun o => (hB2.frozen (p := ⟨w.heap.size + 1, o, none⟩) lG).trans (FG o)))
        | (go_at_call 97; refine (opposite_int _ s k lo hi ((unhide HS).below (by repeat' (first | with_reducible exact Below.refl _ _ | with_reducible refine Below.drew ?_))) (by omega)).mono ?_; rintro r w1 ⟨u1, rfl, hub1, hup1, hb1⟩; have HU1 := hide hub1; clear hub1; have hB1 : Below w0.heap.size w0 w1 := bthen (by repeat' (first | with_reducible exact Below.refl _ _ | with_reducible refine Below.drew ?_)) hb1; obtain ⟨b0, b1, b2, b3, b4⟩ := (unhide HA).below hB1; obtain ⟨d0, d1, d2, d3, d4⟩ := (unhide HG).below hB1; have l1A := Nat.lt_of_lt_of_le lA hB1.size; have l1G := Nat.lt_of_lt_of_le lG hB1.size))
    all_goals
      go_wp2_with fail
      go_meet
      have A2 : SpC w2 w.heap.size s := ⟨a0, a1, a2, a3, a4⟩
      have G2 : SpC w2 (w.heap.size + 1) t := ⟨g0, g1, g2, g3, g4⟩
      obtain ⟨p1, p2, p3, p4⟩ := two_sp A2 G2 nAG u1 u2
      exact ⟨u1, u2, unhide HU1, p1, p2, p3 hup1, p3 hup2, p4 ((unhide HR).below hB2) nRA nRG, set5 (set5 (bthen hBW hB2) (Nat.le_refl _) _ _ _ _ _) (Nat.le_succ _) _ _ _ _ _⟩
  case rest =>
  obtain ⟨s2, t2, hsb, A, G, hs, ht, R, hBW⟩ := hcut
  replace HBT := hide (hsb.trans (unhide HBT))
  clear hsb HA HG HS HT HR lA lG x0 x1 x2 x3 x4 y0 y1 y2 y3 y4 FA FG hB0
  have lA := A.lt
  have lG := G.lt
  obtain ⟨x0, x1, x2, x3, x4⟩ := A
  obtain ⟨y0, y1, y2, y3, y4⟩ := G
  have A : SpC wc w.heap.size s2 := ⟨x0, x1, x2, x3, x4⟩
  have G : SpC wc (w.heap.size + 1) t2 := ⟨y0, y1, y2, y3, y4⟩
  go_wp2_with fail
  clear lA lG x0 x1 x2 x3 x4 y0 y1 y2 y3 y4
  refine (corners_div1 _ s2 t2 k b w.heap.size (-hi) (-lo) (-hi') (-lo') hs ht hk hb (by omega) (by omega) (by rw [← unhide HBT]; exact A.c4)).mono ?_
  rintro r w1 ⟨B1, f1, rfl, hN1, hb1⟩
  replace hBW := bthen hBW hb1
  replace A := A.below hb1
  replace G := G.below hb1
  replace R := R.below hb1
  replace hs := hs.below hb1
  replace ht := ht.below hb1
  clear hb1
  go_wp2_with fail
  refine (leastw_int _ 3 _ (b / 16 + k + 9) f1 _ _ hN1 (by omega) (by omega)).mono ?_
  rintro r w2 ⟨neg2, a2, n2, c2, rfl, hint2, hb2⟩
  replace hBW := bthen hBW hb2
  replace A := A.below hb2
  replace G := G.below hb2
  replace R := R.below hb2
  replace hs := hs.below hb2
  replace ht := ht.below hb2
  clear hb2 hN1
  obtain ⟨W2, hW2⟩ : ∃ W', W' = w2.alloc (.cells #[.bool neg2, .slice a2 n2 c2] 26) := ⟨_, rfl⟩
  have hc2 : Below w2.heap.size w2 W2 := by rw [hW2]; exact bl1 _ _
  have X2 : NmC W2 w2.heap.size ⟨neg2, a2, n2, c2⟩ := by rw [hW2]; exact nmc_new w2 ⟨neg2, a2, n2, c2⟩ _
  have lA := A.lt
  have lG := G.lt
  obtain ⟨x0, x1, x2, x3, x4⟩ := A
  obtain ⟨y0, y1, y2, y3, y4⟩ := G
  have A : SpC w2 w.heap.size s2 := ⟨x0, x1, x2, x3, x4⟩
  have G : SpC w2 (w.heap.size + 1) t2 := ⟨y0, y1, y2, y3, y4⟩
  go_wp2_with fail
  rw [← hW2]
  clear hW2
  clear lA lG x0 x1 x2 x3 x4 y0 y1 y2 y3 y4
  have nR2 : w2.heap.size ≠ w.heap.size + 1 + 1 := Nat.ne_of_gt R.lt
  replace hBW := bthen hBW hc2
  replace A := A.below hc2
  replace G := G.below hc2
  replace R := R.below hc2
  replace hs := hs.below hc2
  replace ht := ht.below hc2
  replace hint2 := hint2.below hc2
  clear hc2
  refine (corners_div2 _ s2 t2 k b w.heap.size (-hi) (-lo) (-hi') (-lo') hs ht hk hb (by omega) (by omega) (by rw [← unhide HBT]; exact A.c4)).mono ?_
  rintro r w3 ⟨B3, f3, rfl, hN3, hb3⟩
  replace hBW := bthen hBW hb3
  replace A := A.below hb3
  replace R := R.below hb3
  replace hint2 := hint2.below hb3
  replace X2 := X2.below hb3
  clear hb3
  go_wp2_with fail
  refine (most_int _ 3 _ (b / 16 + k + 9) f3 _ _ hN3 (by omega) (by omega)).mono ?_
  rintro r w4 ⟨neg4, a4, n4, c4, rfl, hint4, hb4⟩
  replace hBW := bthen hBW hb4
  replace A := A.below hb4
  replace R := R.below hb4
  replace hint2 := hint2.below hb4
  replace X2 := X2.below hb4
  clear hb4 hN3
  have lA := A.lt
  have lX := X2.lt
  have lR := R.lt
  have nR2' : w.heap.size + 1 + 1 ≠ w2.heap.size := fun e9 => nR2 e9.symm
  have nR4 : w4.heap.size ≠ w.heap.size + 1 + 1 := Nat.ne_of_gt lR
  have nR4' : w.heap.size + 1 + 1 ≠ w4.heap.size := Nat.ne_of_lt lR
  have nX4 : w2.heap.size ≠ w4.heap.size := Nat.ne_of_lt lX
  obtain ⟨x0, x1, x2, x3, x4⟩ := A
  obtain ⟨z0, z1⟩ := X2
  obtain ⟨q0, q1, q2, q3, q4, q5⟩ := R
  go_wp2_with fail
  refine bodyPost_ret (v := .agg #[.bool neg2, .slice a2 n2 c2, .bool neg4, .slice a4 n4 c4, .int .i64 s2.bits]) (by simp [results, Tryz.results146, go_sem, lR, q0, q1, q2, q3, q4]) rfl ⟨⟨neg2, a2, n2, c2, neg4, a4, n4, c4, s2.bits⟩, rfl, unhide HBT, ?_, ?_⟩
  · first | with_reducible exact SpAt.put5 ⟨(hint2.below (bl1 _ _)).mono (by omega), (hint4.below (bl1 _ _)).mono (by omega)⟩ (by simp [go_sem, lR, q0]) (by simp [go_sem, lR, q1]) (by simp [go_sem, lR, q2]) (by simp [go_sem, lR, q3]) (by simp [go_sem, lR, q4]) _ _ _ _ _ | with_reducible exact SpAt.below (SpAt.put5 ⟨hint2.mono (by omega), hint4.mono (by omega)⟩ q0 q1 q2 q3 q4 _ _ _ _ _) (bl1 _ _)
  · first | with_reducible exact set5 (balloc hBW _) (by omega) _ _ _ _ _ | with_reducible exact balloc (set5 hBW (by omega) _ _ _ _ _) _

theorem wideDiv_any (w : World) (s t : Sp) (k b : Nat) (lo hi lo' hi' : Int) (hs : SpAt w s k lo hi) (ht : SpAt w t k lo' hi') (hk : k ≤ 300000000) (hb : b ≤ 1000000) (hbits : s.bits = b) (hl : lo ≤ hi) (hp : ¬ (lo' ≤ 0 ∧ 0 ≤ hi')) (hp2 : lo' ≤ hi') :
    Calls Tryz.prog 146 #[.agg #[.bool s.ln, .slice s.la s.lN s.lc, .bool s.hn, .slice s.ha s.hN s.hc, .int .i64 s.bits], .agg #[.bool t.ln, .slice t.la t.lN t.lc, .bool t.hn, .slice t.ha t.hN t.hc, .int .i64 t.bits]] w (SpanAns w b (b / 16 + k + 10) (dvLo lo hi lo' hi' b) (dvHi lo hi lo' hi' b)) := by
  have hq := Q_pos b
  unfold dvLo dvHi
  by_cases h : hi' < 0
  · rw [if_pos h, if_pos h]
    have := wideDiv_neg w s t k b lo hi lo' hi' hs ht hk hb hbits (by omega) h
    rw [over_least (Int.mul_le_mul_of_nonneg_right (by omega) (by omega)) (by omega) (by omega), over_most (Int.mul_le_mul_of_nonneg_right (by omega) (by omega)) (by omega) (by omega)] at this
    exact this
  · rw [if_neg h, if_neg h]
    have := wideDiv_pos w s t k b lo hi lo' hi' hs ht hk hb hbits (by omega) (by omega)
    rw [over_least (Int.mul_le_mul_of_nonneg_right hl (by omega)) (by omega) (by omega), over_most (Int.mul_le_mul_of_nonneg_right hl (by omega)) (by omega) (by omega)] at this
    exact this
end Go.Proofs.YtgmnknmjainababGreat

namespace Go.Proofs.YtgmnknmjainababGreat
set_option linter.unusedVariables false
open Ex

theorem Has.of_const {a b c : Rat} (h : Has a b (fun _ => c)) : a ≤ c ∧ c ≤ b := by
  constructor
  · refine Rat.not_lt.1 fun hlt => ?_
    obtain ⟨N, k⟩ := h ((a - c) / 2) (by grind)
    have := (k N (Nat.le_refl _)).1
    grind
  · refine Rat.not_lt.1 fun hlt => ?_
    obtain ⟨N, k⟩ := h ((c - b) / 2) (by grind)
    have := (k N (Nat.le_refl _)).2
    grind
theorem root_sq (B : Nat) (x : Int) : ((x : Rat) / (Q B : Rat)) * ((x : Rat) / (Q B : Rat)) * ((Q B : Rat) * (Q B : Rat)) = (x : Rat) * (x : Rat) := by
  have q := Qr_pos B
  have := rdm (a := (x : Rat)) q
  have e : ((x : Rat) / (Q B : Rat)) * ((x : Rat) / (Q B : Rat)) * ((Q B : Rat) * (Q B : Rat)) = ((x : Rat) / (Q B : Rat) * (Q B : Rat)) * ((x : Rat) / (Q B : Rat) * (Q B : Rat)) := by grind
  rw [e, this]
/-- What wide.Root makes. -/
def rootI (B : Nat) (a : Int × Int) : Int × Int := (rtZ (a.1 * Q B), rtU (a.2 * Q B))
theorem sqI_le {a b : Int} (ha : 0 ≤ a) (hb : 0 ≤ b) (h : a * a ≤ b * b) : a ≤ b := by
  refine Int.not_lt.1 fun hlt => ?_
  have m1 := Int.mul_lt_mul_of_pos_left hlt (show 0 < a by omega)
  have m2 := Int.mul_le_mul_of_nonneg_right (show b ≤ a by omega) hb
  omega
theorem rtU_lt {x : Int} (h : 0 ≤ x) (h0 : 0 < rtU x) : (rtU x - 1) * (rtU x - 1) < x := by
  obtain ⟨h3, h4⟩ := rtZ_sq h
  have := rtZ_nonneg x
  unfold rtU at *
  split
  · rename_i hh; rw [Int.add_sub_cancel]; exact hh
  · rename_i hh
    rw [if_neg hh] at h0
    have e : (rtZ x - 1) * (rtZ x - 1) = rtZ x * rtZ x - 2 * rtZ x + 1 := by grind
    omega
theorem rootI_bounds {B : Nat} {a : Int × Int} (ha : 0 ≤ a.1) (hl : a.1 ≤ a.2) : 0 ≤ (rootI B a).1 ∧ (rootI B a).1 ≤ (rootI B a).2 ∧ (rootI B a).1 * (rootI B a).1 ≤ a.1 * Q B ∧ a.2 * Q B ≤ (rootI B a).2 * (rootI B a).2 := by
  have q := Q_pos B
  have p1 := Int.mul_nonneg ha (show 0 ≤ Q B by omega)
  have p2 := Int.mul_le_mul_of_nonneg_right hl (show 0 ≤ Q B by omega)
  exact ⟨rtZ_nonneg _, rtZ_le_rtU p2 p1, (rtZ_sq p1).1, rtU_sq (by omega)⟩
/-- How wide a root is: g times it is at least 1. -/
theorem rootI_wide {B : Nat} {a : Int × Int} {W g : Int} (ha : 0 ≤ a.1) (hl : a.1 ≤ a.2) (hw : a.2 - a.1 ≤ W) (hg : 0 < g) (hr : Q B ≤ g * (rootI B a).2) : (rootI B a).2 - (rootI B a).1 ≤ g * W + 2 := by
  obtain ⟨r0, r1, r2, r3⟩ := rootI_bounds (B := B) ha hl
  have q := Q_pos B
  have p1 := Int.mul_nonneg ha (show 0 ≤ Q B by omega)
  have p2 := Int.mul_le_mul_of_nonneg_right hl (show 0 ≤ Q B by omega)
  have z := (rtZ_sq p1).2
  have t0 : 0 < (rootI B a).2 := by
    refine Int.not_le.1 fun h => ?_
    have := Int.mul_le_mul_of_nonneg_left h (show 0 ≤ g by omega)
    omega
  have u := rtU_lt (show 0 ≤ a.2 * Q B by omega) t0
  have e1 : rtZ (a.1 * Q B) = (rootI B a).1 := rfl
  have e2 : rtU (a.2 * Q B) = (rootI B a).2 := rfl
  rw [e1] at z
  rw [e2] at u
  generalize (rootI B a).1 = r at *
  generalize (rootI B a).2 = t at *
  -- (t - r - 2) (t + r) < W Q
  have k1 : (t - r - 2) * (t + r) < W * Q B := by
    have m := Int.mul_le_mul_of_nonneg_right hw (show 0 ≤ Q B by omega)
    have e : (t - r - 2) * (t + r) = (t - 1) * (t - 1) - (r + 1) * (r + 1) := by grind
    have e3 : (a.2 - a.1) * Q B = a.2 * Q B - a.1 * Q B := by grind
    omega
  refine Int.not_lt.1 fun hn => ?_
  have W0 : 0 ≤ W := by omega
  have m1 := Int.mul_le_mul_of_nonneg_right (show g * W ≤ t - r - 2 by omega) (show 0 ≤ t + r by omega)
  have m2 := Int.mul_le_mul_of_nonneg_left hr W0
  have m3 := Int.mul_nonneg (Int.mul_nonneg (show 0 ≤ g by omega) W0) r0
  have e4 : g * W * (t + r) = W * (g * t) + g * W * r := by grind
  omega
theorem rootI_up {B : Nat} {a : Int × Int} {c : Int} (ha : 0 ≤ a.2) (hc : 0 ≤ c) (h : a.2 ≤ c * c * Q B) : (rootI B a).2 ≤ c * Q B + 1 := by
  have q := Q_pos B
  have p := Int.mul_nonneg ha (show 0 ≤ Q B by omega)
  have z := (rtZ_sq p).1
  have m := Int.mul_le_mul_of_nonneg_right h (show 0 ≤ Q B by omega)
  have h1 : rtZ (a.2 * Q B) ≤ c * Q B := sqI_le (rtZ_nonneg _) (Int.mul_nonneg hc (by omega)) (by
    have e : c * Q B * (c * Q B) = c * c * Q B * Q B := by grind
    omega)
  show rtU (a.2 * Q B) ≤ _
  unfold rtU
  split <;> omega

/-- The series of wide.Erf. -/
def erU (n : Int) (_ : Nat) : Int := 2 * n
def erD (d : Int) (k : Nat) : Int := d * (2 * (k : Int) + 1)
theorem er_ok {n d : Int} (hn : 0 ≤ n) (hd : 0 < d) : RiOk (erU n) (erD d) := ⟨fun _ => by unfold erU; omega, fun k => Int.mul_pos hd (by omega)⟩
def erTurn (n d : Int) : Nat := (2 * n / d).toNat
theorem er_34 {n d : Int} (hn : 0 ≤ n) (hd : 0 < d) (k : Nat) (h : erTurn n d ≤ k) : 4 * erU n (k + 1) ≤ 3 * erD d (k + 1) := by
  have h1 : 2 * n / d ≤ (k : Int) := by unfold erTurn at h; omega
  have h2 := Int.lt_ediv_add_one_mul_self (2 * n) hd
  have h3 := Int.mul_le_mul_of_nonneg_right (show 2 * n / d + 1 ≤ (k : Int) + 1 by omega) (show 0 ≤ d by omega)
  have k0 := Int.mul_nonneg (show 0 ≤ d by omega) (show 0 ≤ (k : Int) by omega)
  unfold erU erD
  have e1 : ((k : Int) + 1) * d = d * (k : Int) + d := by grind
  have e2 : 3 * (d * (2 * ((k + 1 : Nat) : Int) + 1)) = 6 * (d * (k : Int)) + 9 * d := by push_cast; grind
  omega
theorem er_val {n d : Int} {x : Rat} (hd : 0 < d) (hx : x * x * (d : Rat) = (n : Rat)) (k M : Nat) : riV (fun _ => x) (erU n) (erD d) k M = eT x k := by
  induction k with
  | zero => rfl
  | succ k ih =>
    show ((erU n (k + 1) : Int) : Rat) / ((erD d (k + 1) : Int) : Rat) * riV (fun _ => x) (erU n) (erD d) k M = 2 * (x * x) / (2 * ((k : Rat) + 1) + 1) * eT x k
    rw [ih]
    congr 1
    have d0 : (0 : Rat) < (d : Rat) := by exact_mod_cast hd
    have p := odd_pos k
    have e1 : ((erU n (k + 1) : Int) : Rat) = 2 * (n : Rat) := by unfold erU; rw [Rat.intCast_mul]; rfl
    have e2 : ((erD d (k + 1) : Int) : Rat) = (d : Rat) * (2 * ((k : Rat) + 1) + 1) := by
      unfold erD
      rw [Rat.intCast_mul]
      congr 1
      rw [Rat.intCast_add, Rat.intCast_mul]
      push_cast
      rfl
    rw [e1, e2, ← hx]
    have q : (0 : Rat) < (d : Rat) * (2 * ((k : Rat) + 1) + 1) := Rat.mul_pos d0 p
    have r1 := rdm (a := 2 * (x * x * (d : Rat))) q
    have r2 := rdm (a := 2 * (x * x)) p
    have lhs : 2 * (x * x) / (2 * ((k : Rat) + 1) + 1) * ((d : Rat) * (2 * ((k : Rat) + 1) + 1)) = 2 * (x * x * (d : Rat)) := by
      have : 2 * (x * x) / (2 * ((k : Rat) + 1) + 1) * ((d : Rat) * (2 * ((k : Rat) + 1) + 1)) = (2 * (x * x) / (2 * ((k : Rat) + 1) + 1) * (2 * ((k : Rat) + 1) + 1)) * (d : Rat) := by grind
      rw [this, r2]; grind
    exact Rat.le_antisymm (Rat.le_of_mul_le_mul_right (by rw [lhs, r1]; exact Rat.le_refl) q) (Rat.le_of_mul_le_mul_right (by rw [lhs, r1]; exact Rat.le_refl) q)
theorem er_has {B N : Nat} {a : Int × Int} {n d : Int} {x : Rat} (hx0 : 0 ≤ x) (hn : 0 ≤ n) (hd : 0 < d) (hx : x * x * (d : Rat) = (n : Rat)) (ha : Iv B a (fun _ => x)) (hN : IsRise (riT a (erU n) (erD d)) (erTurn n d) N) : Iv B (riseI (riT a (erU n) (erD d)) N) (eS x) := by
  have h := rising_has (er_ok hn hd) ha 0 (fun M _ => hx0) (fun k hk => er_34 hn hd k hk) hN
  refine Has.of_eq h fun M => ?_
  exact S_congr M fun k _ => (er_val hd hx k M).symm
/-- How far they go, and how wide they are: crude bounds. -/
theorem er_turn {n d : Int} (hn : 0 ≤ n) (hd : 0 < d) (h : n < 152 * d) : erTurn n d ≤ 303 := by
  have : 2 * n / d < 304 := Int.ediv_lt_of_lt_mul hd (by omega)
  unfold erTurn; omega
theorem ceil_mul {x u v c : Int} (hv : 0 < v) (hx : 0 ≤ x) (h : u ≤ c * v) : -(-(x * u) / v) ≤ c * x := by
  have h1 := Int.mul_le_mul_of_nonneg_left h hx
  have h2 : -(c * x) ≤ -(x * u) / v := Int.le_ediv_of_mul_le hv (by
    have e : -(c * x) * v = -(x * (c * v)) := by grind
    omega)
  omega
theorem er_step {n d : Int} (hn : 0 ≤ n) (hd : 0 < d) (h : n < 152 * d) (k : Nat) : erU n (k + 1) ≤ 512 * erD d (k + 1) := by
  have k0 := Int.mul_nonneg (show 0 ≤ d by omega) (show 0 ≤ (k : Int) by omega)
  unfold erU erD
  have e : 512 * (d * (2 * ((k + 1 : Nat) : Int) + 1)) = 1024 * (d * (k : Int)) + 1536 * d := by push_cast; grind
  omega
theorem er_hi {B : Nat} {a : Int × Int} {n d : Int} (hn : 0 ≤ n) (hd : 0 < d) (h : n < 152 * d) (ha : 0 ≤ a.1) (hl : a.1 ≤ a.2) (hb : a.2 ≤ Q (B + 4)) (k : Nat) : (riT a (erU n) (erD d) k).2 ≤ Q (B + 2740) := by
  have ok := er_ok hn hd
  have low : ∀ j, j ≤ 304 → (riT a (erU n) (erD d) j).2 ≤ Q (B + 4 + 9 * j) := fun j => by
    induction j with
    | zero => intro _; exact hb
    | succ j ih =>
      intro hj
      have i1 := ih (by omega)
      have n1 := riT_nonneg ok ha j
      have n2 := riT_le ok hl j
      have c := ceil_mul (ok.d0 (j + 1)) (show 0 ≤ (riT a (erU n) (erD d) j).2 by omega) (er_step hn hd h j)
      have e : Q (B + 4 + 9 * (j + 1)) = 512 * Q (B + 4 + 9 * j) := by
        rw [show B + 4 + 9 * (j + 1) = (B + 4 + 9 * j) + 9 by omega, Q_add]
        have : Q 9 = 512 := rfl
        rw [this]; omega
      show -(-((riT a (erU n) (erD d) j).2 * erU n (j + 1)) / erD d (j + 1)) ≤ _
      omega
  have hturn := er_turn hn hd h
  have up : ∀ j, (riT a (erU n) (erD d) (303 + j)).2 ≤ Q (B + 2740) := fun j => by
    induction j with
    | zero =>
      have := low 303 (by omega)
      have := Q_mono (show B + 4 + 9 * 303 ≤ B + 2740 by omega)
      simp only [Nat.add_zero]
      omega
    | succ j ih =>
      have n1 := riT_nonneg ok ha (303 + j)
      have n2 := riT_le ok hl (303 + j)
      have f := fall34 (x := (riT a (erU n) (erD d) (303 + j)).2) (ok.d0 (303 + j + 1)) (by omega) (er_34 hn hd (303 + j) (by omega))
      have q := Q_mono (show 2 ≤ B + 2740 by omega)
      have q2 : Q 2 = 4 := rfl
      show -(-((riT a (erU n) (erD d) (303 + j)).2 * erU n (303 + j + 1)) / erD d (303 + j + 1)) ≤ _
      omega
  by_cases hk : k ≤ 303
  · have := low k (by omega)
    have := Q_mono (show B + 4 + 9 * k ≤ B + 2740 by omega)
    omega
  · have := up (k - 303)
    rwa [show 303 + (k - 303) = k by omega] at this
theorem er_wide {a : Int × Int} {n d : Int} (hn : 0 ≤ n) (hd : 0 < d) (h : n < 152 * d) (hl : a.1 ≤ a.2) (hw : a.2 - a.1 + 1 ≤ Q 22) (k : Nat) : (riT a (erU n) (erD d) k).2 - (riT a (erU n) (erD d) k).1 ≤ Q 2760 := by
  have ok := er_ok hn hd
  have low : ∀ j, j ≤ 304 → (riT a (erU n) (erD d) j).2 - (riT a (erU n) (erD d) j).1 + 1 ≤ Q (22 + 9 * j) := fun j => by
    induction j with
    | zero => intro _; exact hw
    | succ j ih =>
      intro hj
      have i1 := ih (by omega)
      have n2 := riT_le ok hl j
      have c := scaleI_wide (a := riT a (erU n) (erD d) j) (n := erU n (j + 1)) (d := erD d (j + 1)) (c := 512 * ((riT a (erU n) (erD d) j).2 - (riT a (erU n) (erD d) j).1)) (ok.d0 (j + 1)) (by
        have := Int.mul_le_mul_of_nonneg_left (er_step hn hd h j) (show 0 ≤ (riT a (erU n) (erD d) j).2 - (riT a (erU n) (erD d) j).1 by omega)
        have e : ((riT a (erU n) (erD d) j).2 - (riT a (erU n) (erD d) j).1) * (512 * erD d (j + 1)) = 512 * ((riT a (erU n) (erD d) j).2 - (riT a (erU n) (erD d) j).1) * erD d (j + 1) := by grind
        omega)
      have e : Q (22 + 9 * (j + 1)) = 512 * Q (22 + 9 * j) := by
        rw [show 22 + 9 * (j + 1) = (22 + 9 * j) + 9 by omega, Q_add]
        have : Q 9 = 512 := rfl
        rw [this]; omega
      show (scaleI (riT a (erU n) (erD d) j) (erU n (j + 1)) (erD d (j + 1))).2 - (scaleI (riT a (erU n) (erD d) j) (erU n (j + 1)) (erD d (j + 1))).1 + 1 ≤ _
      omega
  have hturn := er_turn hn hd h
  have q9 : 9 ≤ Q 2760 := by
    have := Q_mono (show 4 ≤ 2760 by omega)
    have : Q 4 = 16 := rfl
    omega
  have up : ∀ j, (riT a (erU n) (erD d) (303 + j)).2 - (riT a (erU n) (erD d) (303 + j)).1 ≤ Q 2760 := fun j => by
    induction j with
    | zero =>
      have := low 303 (by omega)
      have := Q_mono (show 22 + 9 * 303 ≤ 2760 by omega)
      simp only [Nat.add_zero]
      omega
    | succ j ih =>
      have n2 := riT_le ok hl (303 + j)
      obtain ⟨D, hD⟩ : ∃ D, D = (riT a (erU n) (erD d) (303 + j)).2 - (riT a (erU n) (erD d) (303 + j)).1 := ⟨_, rfl⟩
      have c := scaleI_wide (a := riT a (erU n) (erD d) (303 + j)) (n := erU n (303 + j + 1)) (d := erD d (303 + j + 1)) (c := Q 2760 - 1) (ok.d0 (303 + j + 1)) (by
        rw [← hD] at ih ⊢
        have f := er_34 hn hd (303 + j) (by omega)
        have d0 := ok.d0 (303 + j + 1)
        have u0 := ok.u0 (303 + j + 1)
        generalize erU n (303 + j + 1) = u at *
        generalize erD d (303 + j + 1) = v at *
        generalize Q 2760 = q at *
        have m1 := Int.mul_le_mul_of_nonneg_right ih u0
        have m2 := Int.mul_le_mul_of_nonneg_left f (show 0 ≤ q by omega)
        have m3 := Int.mul_le_mul_of_nonneg_right (show 4 ≤ q by omega) (show 0 ≤ v by omega)
        have e1 : q * (4 * u) = 4 * (q * u) := by grind
        have e2 : q * (3 * v) = 3 * (q * v) := by grind
        have e3 : (q - 1) * v = q * v - v := by grind
        omega)
      show (scaleI (riT a (erU n) (erD d) (303 + j)) (erU n (303 + j + 1)) (erD d (303 + j + 1))).2 - (scaleI (riT a (erU n) (erD d) (303 + j)) (erU n (303 + j + 1)) (erD d (303 + j + 1))).1 ≤ _
      omega
  by_cases hk : k ≤ 303
  · have := low k (by omega)
    have := Q_mono (show 22 + 9 * k ≤ 2760 by omega)
    omega
  · have := up (k - 303)
    rwa [show 303 + (k - 303) = k by omega] at this
end Go.Proofs.YtgmnknmjainababGreat

namespace Go.Proofs.YtgmnknmjainababGreat.Ex
set_option linter.unusedVariables false

/-- The series over its first number. -/
def gT (y : Rat) : Nat → Rat
  | 0 => 1
  | n + 1 => 2 * y / (2 * ((n : Rat) + 1) + 1) * gT y n
def gS (y : Rat) (M : Nat) : Rat := S (gT y) M
theorem eT_gT (x : Rat) (n : Nat) : eT x n = x * gT (x * x) n := by
  induction n with
  | zero => show x = x * 1; grind
  | succ n ih =>
    show 2 * (x * x) / (2 * ((n : Rat) + 1) + 1) * eT x n = x * (2 * (x * x) / (2 * ((n : Rat) + 1) + 1) * gT (x * x) n)
    rw [ih]
    generalize 2 * (x * x) / (2 * ((n : Rat) + 1) + 1) = c
    grind
theorem eS_gS (x : Rat) (M : Nat) : eS x M = x * gS (x * x) M := by
  induction M with
  | zero => show (0 : Rat) = x * 0; grind
  | succ n ih =>
    show eS x n + eT x n = x * (gS (x * x) n + gT (x * x) n)
    rw [ih, eT_gT]; grind
theorem gT_nonneg {y : Rat} (h : 0 ≤ y) (n : Nat) : 0 ≤ gT y n := by
  induction n with
  | zero => show (0 : Rat) ≤ 1; grind
  | succ n ih => exact Rat.mul_nonneg (rle_div (odd_pos n) (by grind)) ih
theorem gT_mono {y y' : Rat} (h : 0 ≤ y) (hy : y ≤ y') (n : Nat) : gT y n ≤ gT y' n := by
  induction n with
  | zero => exact Rat.le_refl
  | succ n ih =>
    have p := odd_pos n
    have c : 2 * y / (2 * ((n : Rat) + 1) + 1) ≤ 2 * y' / (2 * ((n : Rat) + 1) + 1) := rdiv_le p (by rw [rdm p]; grind)
    have c0 : 0 ≤ 2 * y / (2 * ((n : Rat) + 1) + 1) := rle_div p (by grind)
    have g0 := gT_nonneg (show 0 ≤ y' by grind) n
    exact Rat.le_trans (Rat.mul_le_mul_of_nonneg_left ih c0) (Rat.mul_le_mul_of_nonneg_right c g0)
theorem gS_nonneg {y : Rat} (h : 0 ≤ y) (M : Nat) : 0 ≤ gS y M := by
  induction M with
  | zero => show (0 : Rat) ≤ 0; grind
  | succ n ih => have := gT_nonneg h n; show 0 ≤ gS y n + gT y n; grind
theorem gS_mono {y y' : Rat} (h : 0 ≤ y) (hy : y ≤ y') (M : Nat) : gS y M ≤ gS y' M := by
  induction M with
  | zero => show (0 : Rat) ≤ 0; grind
  | succ n ih => have := gT_mono h hy n; show gS y n + gT y n ≤ gS y' n + gT y' n; grind
theorem gS_bdd {y : Rat} (h : 0 ≤ y) : ∃ K, 0 ≤ K ∧ ∀ M, gS y M ≤ K := by
  obtain ⟨K, k0, hK⟩ := eS_bdd (x := y + 1) (by grind)
  refine ⟨K, k0, fun M => ?_⟩
  have q := Rat.mul_nonneg h h
  have m := gS_mono (y' := (y + 1) * (y + 1)) h (by grind) M
  have e := eS_gS (y + 1) M
  have g0 := gS_nonneg (y := (y + 1) * (y + 1)) (by grind) M
  have m2 := Rat.mul_nonneg h g0
  have := hK M
  grind
/-- The series of a first number, over e to the power of y. -/
def qS (f : Nat → Rat) (y : Rat) (M : Nat) : Rat := f M * gS y M / ex y M
theorem ex_ge {y : Rat} (h : 0 ≤ y) {M : Nat} (hM : 1 ≤ M) : 1 ≤ ex y M := E_one h hM
theorem qS_ok {f : Nat → Rat} {y F K : Rat} (h : 0 ≤ y) {M : Nat} (hM : 1 ≤ M) (f0 : 0 ≤ f M) (fF : f M ≤ F) (hK : gS y M ≤ K) : 0 ≤ qS f y M ∧ qS f y M ≤ F * K ∧ qS f y M * ex y M = f M * gS y M := by
  have e1 := ex_ge h hM
  have g0 := gS_nonneg h M
  have p := Rat.mul_nonneg f0 g0
  obtain ⟨d1, d2⟩ := div_one p e1
  refine ⟨d1, ?_, rdm (by grind)⟩
  have m1 := Rat.mul_le_mul_of_nonneg_right fF g0
  have m2 := Rat.mul_le_mul_of_nonneg_left hK (show 0 ≤ F by grind)
  unfold qS
  grind
theorem cmp_key {a c E E' f f' g g' t e : Rat} (a0 : 0 ≤ a) (c0 : 0 ≤ c) (e0 : 0 < e) (t0 : 0 ≤ t) (t4 : t ≤ 1 / 4) (E1 : 1 ≤ E) (E1' : 1 ≤ E') (hE : E' ≤ E * (1 + 2 * t) + e) (ha : a * E = f * g) (hc : c * E' = f' * g') (hf0 : 0 ≤ f) (hf : f ≤ f' + e) (g0 : 0 ≤ g) (gg : g ≤ g') : a ≤ c * (1 + 2 * t) + e * (2 * g' + a) := by
  have h1 : a * E' ≤ f * g * (1 + 2 * t) + a * e := by
    have := Rat.mul_le_mul_of_nonneg_left hE a0
    have e1 : a * (E * (1 + 2 * t) + e) = a * E * (1 + 2 * t) + a * e := by grind
    rw [e1, ha] at this
    exact this
  have h2 : f * g ≤ f' * g' + e * g' := by
    have m1 := Rat.mul_le_mul_of_nonneg_left gg hf0
    have m2 := Rat.mul_le_mul_of_nonneg_right hf (show 0 ≤ g' by grind)
    grind
  have h3 := Rat.mul_le_mul_of_nonneg_right h2 (show 0 ≤ 1 + 2 * t by grind)
  have eg := Rat.mul_nonneg (Rat.le_of_lt e0) (show 0 ≤ g' by grind)
  have h4 : e * g' * (1 + 2 * t) ≤ e * g' * 2 := Rat.mul_le_mul_of_nonneg_left (by grind) eg
  have h5 : a * E' ≤ c * E' * (1 + 2 * t) + e * (2 * g' + a) := by rw [hc]; grind
  have r0 : 0 ≤ e * (2 * g' + a) := Rat.mul_nonneg (Rat.le_of_lt e0) (by grind)
  have h6 := Rat.mul_le_mul_of_nonneg_left E1' r0
  refine Rat.le_of_mul_le_mul_right (c := E') ?_ (by grind)
  have e2 : (c * (1 + 2 * t) + e * (2 * g' + a)) * E' = c * E' * (1 + 2 * t) + e * (2 * g' + a) * E' := by grind
  rw [e2]
  grind
/-- With a little more under the root it is at most a little more. -/
theorem cmpG {y y' : Rat} (hy : 0 ≤ y) (hyy : y ≤ y') (h4 : y' - y ≤ 1 / 4) {f f' : Nat → Rat} {F : Rat} {N0 : Nat} (f0 : ∀ M, 0 ≤ f M) (f0' : ∀ M, 0 ≤ f' M) (fF : ∀ M, N0 ≤ M → f M ≤ F) (fF' : ∀ M, N0 ≤ M → f' M ≤ F) (hf : LeN f f') {K : Rat} (hK : ∀ M, gS y' M ≤ K) : LeN (qS f y) (fun M => qS f' y' M + 2 * (F * K) * (y' - y)) := by
  have F0 : 0 ≤ F := Rat.le_trans (f0 N0) (fF N0 (Nat.le_refl _))
  have K0 : 0 ≤ K := Rat.le_trans (gS_nonneg (show 0 ≤ y' by grind) 0) (hK 0)
  have FK := Rat.mul_nonneg F0 K0
  obtain ⟨t, ht⟩ : ∃ t, t = y' - y := ⟨_, rfl⟩
  have t0 : 0 ≤ t := by grind
  intro e0 he0
  -- how little e must be
  obtain ⟨D, hD⟩ : ∃ D, D = 2 * K + F * K + 1 := ⟨_, rfl⟩
  have D0 : 0 < D := by grind
  obtain ⟨e, he⟩ : ∃ e, e = e0 / D := ⟨_, rfl⟩
  have eD : e * D = e0 := by rw [he]; exact rdm D0
  have ep : 0 < e := by rw [he]; exact rdiv_pos he0 D0
  obtain ⟨N1, k1⟩ := hf e ep
  obtain ⟨N2, k2⟩ := ex_add y t e ep
  refine ⟨N0 + N1 + N2 + 2, fun M hM => ?_⟩
  obtain ⟨a1, a2, a3⟩ := qS_ok (f := f) hy (show 1 ≤ M by omega) (f0 M) (fF M (by omega)) (Rat.le_trans (gS_mono hy hyy M) (hK M))
  obtain ⟨c1, c2, c3⟩ := qS_ok (f := f') (show 0 ≤ y' by grind) (show 1 ≤ M by omega) (f0' M) (fF' M (by omega)) (hK M)
  have E1 := ex_ge hy (show 1 ≤ M by omega)
  have E1' := ex_ge (show 0 ≤ y' by grind) (show 1 ≤ M by omega)
  have lit := (E_little2 (h := t) (b := t) ⟨by grind, by grind⟩ (by grind) (M := M) (by omega)).2
  have et : ex t M = E t M := rfl
  have ey : y + t = y' := by grind
  have kk := (k2 M (by omega)).1
  simp only [] at kk
  rw [ey] at kk
  have tt : t * t ≤ t * (1 / 4) := Rat.mul_le_mul_of_nonneg_left (by grind) t0
  have hE : ex y' M ≤ ex y M * (1 + 2 * t) + e := by
    have l2 : ex t M ≤ 1 + 2 * t := by rw [et]; grind
    have := Rat.mul_le_mul_of_nonneg_left l2 (show 0 ≤ ex y M by grind)
    grind
  have key := cmp_key a1 c1 ep t0 (by grind) E1 E1' hE a3 c3 (f0 M) (k1 M (by omega)) (gS_nonneg hy M) (gS_mono hy hyy M)
  have b1 := Rat.mul_le_mul_of_nonneg_left (show 2 * gS y' M + qS f y M ≤ D by have := hK M; grind) (Rat.le_of_lt ep)
  have b2 := Rat.mul_le_mul_of_nonneg_right c2 t0
  rw [eD] at b1
  simp only []
  rw [← ht]
  grind
/-- The error function of a root. -/
def erfG (R : Nat → Rat) (y : Rat) (f : Nat → Rat) (M : Nat) : Rat := 2 * (f M * gS y M) / (R M * ex y M)
theorem erfG_const (R : Nat → Rat) (x : Rat) : erfG R (x * x) (fun _ => x) = erfS R x := by
  funext M
  unfold erfG erfS
  rw [eS_gS]
theorem erfG_eq {P R : Nat → Rat} (h : RootS P R) {y : Rat} (hy : 0 ≤ y) (f : Nat → Rat) {M : Nat} (hM : 1 ≤ M) : erfG R y f M = qS f y M * (2 * (1 / R M)) := by
  have r1 := h.one M
  have h1 := ex_ge hy hM
  have p1 : 0 < R M := by grind
  have p2 : 0 < ex y M := by grind
  have p3 : 0 < R M * ex y M := Rat.mul_pos p1 p2
  have a := rdm (a := 2 * (f M * gS y M)) p3
  have b := rdm (a := f M * gS y M) p2
  have c := rdm (a := 1) p1
  unfold erfG qS
  have lhs : f M * gS y M / ex y M * (2 * (1 / R M)) * (R M * ex y M) = 2 * (f M * gS y M) := by
    have : f M * gS y M / ex y M * (2 * (1 / R M)) * (R M * ex y M) = 2 * ((f M * gS y M / ex y M * ex y M) * (1 / R M * R M)) := by grind
    rw [this, b, c]; grind
  exact Rat.le_antisymm (Rat.le_of_mul_le_mul_right (by rw [lhs, a]; exact Rat.le_refl) p3) (Rat.le_of_mul_le_mul_right (by rw [lhs, a]; exact Rat.le_refl) p3)
theorem cmpE {P R : Nat → Rat} (h : RootS P R) {y y' C : Rat} (hy : 0 ≤ y) (hy' : 0 ≤ y') (C0 : 0 ≤ C) {f f' : Nat → Rat} (hq : LeN (qS f y) (fun M => qS f' y' M + C)) : LeN (erfG R y f) (fun M => erfG R y' f' M + 2 * C) := by
  obtain ⟨z, hz, k⟩ := hq.null
  refine LeN.of_null (hz.bmul ((Bdd.const 2).mul (inv_bdd h.one))) 1 fun M hM => ?_
  rw [erfG_eq h hy f hM, erfG_eq h hy' f' hM]
  obtain ⟨i0, i1⟩ := div_one (a := 1) (by grind) (h.one M)
  have m := Rat.mul_le_mul_of_nonneg_right (k M) (show 0 ≤ 2 * (1 / R M) by grind)
  have m2 := Rat.mul_le_mul_of_nonneg_left i1 C0
  grind
/-- A root by ratios, as near as one likes. -/
theorem root0 (p : Rat) (hp : 0 ≤ p) (k : Nat) : ∃ r : Rat, 0 ≤ r ∧ r * r ≤ p ∧ p ≤ (r + 1 / ((k : Rat) + 1)) * (r + 1 / ((k : Rat) + 1)) := by
  obtain ⟨n, hn⟩ := rat_nat p
  have k0 : (0 : Rat) < (k : Rat) + 1 := pos1 k
  have u0 : (0 : Rat) < 1 / ((k : Rat) + 1) := rdiv_pos (by grind) k0
  have um : 1 / ((k : Rat) + 1) * ((k : Rat) + 1) = 1 := rdm k0
  obtain ⟨u, hu⟩ : ∃ u, u = 1 / ((k : Rat) + 1) := ⟨_, rfl⟩
  rw [← hu] at u0 um ⊢
  have top : p ≤ ((((n + 1) * (k + 1) : Nat) : Rat) * u) * ((((n + 1) * (k + 1) : Nat) : Rat) * u) := by
    have e : (((n + 1) * (k + 1) : Nat) : Rat) * u = (n : Rat) + 1 := by
      have : (((n + 1) * (k + 1) : Nat) : Rat) = ((n : Rat) + 1) * ((k : Rat) + 1) := by push_cast; rfl
      rw [this]; grind
    rw [e]
    have n0 : (0 : Rat) ≤ (n : Rat) := by exact_mod_cast Nat.zero_le n
    have := Rat.mul_nonneg n0 n0
    have := hn.2
    grind
  obtain ⟨j, _, j1, j2⟩ := exists_least (p := fun j => p ≤ ((j : Rat) * u) * ((j : Rat) * u)) (K := (n + 1) * (k + 1)) top
  cases j with
  | zero =>
    have e : (((0 : Nat) : Rat) * u) = 0 := by grind
    rw [e] at j1
    exact ⟨0, by grind, by grind, by have := Rat.mul_nonneg (Rat.le_of_lt u0) (Rat.le_of_lt u0); grind⟩
  | succ i =>
    have h := j2 i (Nat.lt_succ_self i)
    have i0 : (0 : Rat) ≤ (i : Rat) := by exact_mod_cast Nat.zero_le i
    have iu := Rat.mul_nonneg i0 (Rat.le_of_lt u0)
    refine ⟨(i : Rat) * u, by grind, by grind, ?_⟩
    have e : ((i + 1 : Nat) : Rat) = (i : Rat) + 1 := by push_cast; rfl
    rw [e] at j1
    have e2 : ((i : Rat) + 1) * u = (i : Rat) * u + u := by grind
    rw [e2] at j1
    exact j1
/-- A sequence whose squares come to y. -/
structure RtOf (y : Rat) (r : Nat → Rat) : Prop where
  nn : ∀ M, 0 ≤ r M
  sq : Null (fun M => r M * r M - y)
theorem sq_lt {a b : Rat} (ha : 0 ≤ a) (h : a * a ≤ b * b) (hb : 0 ≤ b) : a ≤ b := by
  refine Rat.not_lt.1 fun hlt => ?_
  have m1 := Rat.mul_lt_mul_of_pos_left hlt (show 0 < a by grind)
  have m2 := Rat.mul_le_mul_of_nonneg_right (Rat.le_of_lt hlt) hb
  grind
theorem RtOf.ge {y : Rat} {r : Nat → Rat} (h : RtOf y r) {x : Rat} (hx : 0 ≤ x) (hxy : x * x ≤ y) : LeN (fun _ => x) r := fun e he => by
  obtain ⟨N, k⟩ := h.sq (e * e) (Rat.mul_pos he he)
  refine ⟨N, fun M hM => ?_⟩
  have a := (k M hM).1
  have n := h.nn M
  simp only [] at a ⊢
  have re := Rat.mul_nonneg n (Rat.le_of_lt he)
  exact sq_lt hx (by grind) (by grind)
theorem RtOf.le {y : Rat} {r : Nat → Rat} (h : RtOf y r) {x : Rat} (hx : 0 ≤ x) (hxy : y ≤ x * x) : LeN r (fun _ => x) := fun e he => by
  obtain ⟨N, k⟩ := h.sq (e * e) (Rat.mul_pos he he)
  refine ⟨N, fun M hM => ?_⟩
  have a := (k M hM).2
  have n := h.nn M
  simp only [] at a ⊢
  have re := Rat.mul_nonneg hx (Rat.le_of_lt he)
  exact sq_lt n (by grind) (by grind)
theorem RtOf.y0 {y : Rat} {r : Nat → Rat} (h : RtOf y r) : 0 ≤ y := by
  refine Rat.not_lt.1 fun hlt => ?_
  obtain ⟨N, k⟩ := h.sq (-y / 2) (by grind)
  have a := (k N (Nat.le_refl _)).2
  have n := Rat.mul_nonneg (h.nn N) (h.nn N)
  simp only [] at a
  grind
theorem RtOf.bd {y : Rat} {r : Nat → Rat} (h : RtOf y r) : ∃ N : Nat, ∀ M, N ≤ M → r M ≤ y + 2 := by
  have y0 := h.y0
  have q := Rat.mul_nonneg y0 y0
  obtain ⟨N, k⟩ := h.le (x := y + 1) (by grind) (by grind) 1 (by grind)
  exact ⟨N, fun M hM => by have := k M hM; simp only [] at this; grind⟩
theorem sq_step {r y u : Rat} (hr : 0 ≤ r) (h1 : r * r ≤ y) (hu : 0 ≤ u) (u1 : u ≤ 1) : (r + u) * (r + u) - r * r ≤ (2 * y + 3) * u := by
  have y0 := Rat.mul_nonneg hr hr
  have r1 : r ≤ y + 1 := sq_lt hr (by have := Rat.mul_nonneg (show 0 ≤ y by grind) (show 0 ≤ y by grind); grind) (by grind)
  have m1 := Rat.mul_le_mul_of_nonneg_right r1 hu
  have m2 := Rat.mul_le_mul_of_nonneg_right u1 hu
  grind
theorem nat_over {a C : Rat} {n K : Nat} (h : 4 * C ≤ (K : Rat)) (C0 : 0 ≤ C) : 1 / (((n + K : Nat) : Rat) + 1) ≤ 1 / ((n : Rat) + 1) ∧ C * (1 / (((n + K : Nat) : Rat) + 1)) ≤ 1 / 4 ∧ 0 ≤ 1 / (((n + K : Nat) : Rat) + 1) ∧ 1 / (((n + K : Nat) : Rat) + 1) ≤ 1 := by
  have p1 : (0 : Rat) < ((n + K : Nat) : Rat) + 1 := pos1 (n + K)
  have p2 : (0 : Rat) < (n : Rat) + 1 := pos1 n
  have e : ((n + K : Nat) : Rat) = (n : Rat) + (K : Rat) := by push_cast; rfl
  have n0 : (0 : Rat) ≤ (n : Rat) := by exact_mod_cast Nat.zero_le n
  have K0 : (0 : Rat) ≤ (K : Rat) := by exact_mod_cast Nat.zero_le K
  have a := rdm (a := 1) p1
  have b := rdm (a := 1) p2
  obtain ⟨u, hu⟩ : ∃ u, u = 1 / (((n + K : Nat) : Rat) + 1) := ⟨_, rfl⟩
  have u0 : 0 ≤ u := by rw [hu]; exact rle_div p1 (by grind)
  rw [← hu] at a ⊢
  rw [e] at a
  have nu := Rat.mul_nonneg u0 n0
  have Ku := Rat.mul_nonneg u0 K0
  refine ⟨rle_div p2 (by grind), ?_, u0, by grind⟩
  have := Rat.mul_le_mul_of_nonneg_left h u0
  grind
theorem erfG_ge {P R : Nat → Rat} (h : RootS P R) {y : Rat} {r : Nat → Rat} (hr : RtOf y r) {x : Rat} (hx : 0 ≤ x) (hxy : x * x ≤ y) : LeN (erfS R x) (erfG R y r) := by
  have y0 := hr.y0
  obtain ⟨N0, hN0⟩ := hr.bd
  obtain ⟨K, K0, hK⟩ := gS_bdd y0
  obtain ⟨k, hk⟩ := rat_nat (4 * (2 * y + 3))
  have FK := Rat.mul_nonneg (show 0 ≤ y + 2 by grind) K0
  refine LeN.lim (C := 2 * (2 * ((y + 2) * K) * (2 * y + 3))) (by have := Rat.mul_nonneg FK (show 0 ≤ 2 * y + 3 by grind); grind) fun n => ?_
  obtain ⟨w1, w2, w3, w4⟩ := nat_over (a := 0) (n := n) hk.2 (show 0 ≤ 2 * y + 3 by grind)
  obtain ⟨s, s0, s1, s2⟩ := root0 y y0 (n + k)
  obtain ⟨u, hu⟩ : ∃ u, u = 1 / (((n + k : Nat) : Rat) + 1) := ⟨_, rfl⟩
  rw [← hu] at w1 w2 w3 w4 s2
  have st := sq_step s0 s1 w3 w4
  obtain ⟨x', hx1, hx2, hx3⟩ : ∃ x', x ≤ x' ∧ s ≤ x' ∧ x' * x' ≤ y := by
    by_cases c : x ≤ s
    · exact ⟨s, c, Rat.le_refl, s1⟩
    · exact ⟨x, Rat.le_refl, by grind, hxy⟩
  have x0 : 0 ≤ x' := by grind
  have ss : s * s ≤ x' * x' := Rat.le_trans (Rat.mul_le_mul_of_nonneg_left hx2 s0) (Rat.mul_le_mul_of_nonneg_right hx2 x0)
  have d : y - x' * x' ≤ (2 * y + 3) * u := by grind
  have xx := Rat.mul_nonneg x0 x0
  have x2 : x' ≤ y + 2 := by
    have := sq_lt (b := y + 1) x0 (by have := Rat.mul_nonneg y0 y0; grind) (by grind)
    grind
  have c := cmpG (f := fun _ => x') (f' := r) (F := y + 2) (N0 := N0) xx hx3 (by grind) (fun _ => x0) hr.nn (fun _ _ => x2) hN0 (hr.ge x0 hx3) hK
  have c2 := cmpE h xx y0 (Rat.mul_nonneg (by grind) (by grind)) c
  rw [erfG_const] at c2
  refine (erf_mono h hx hx1).trans (c2.trans (LeN.of_le 0 fun M _ => ?_))
  have m1 := Rat.mul_le_mul_of_nonneg_left (Rat.le_trans d (Rat.mul_le_mul_of_nonneg_left w1 (show 0 ≤ 2 * y + 3 by grind))) (show 0 ≤ 2 * ((y + 2) * K) by grind)
  grind
theorem erfG_le {P R : Nat → Rat} (h : RootS P R) {y : Rat} {r : Nat → Rat} (hr : RtOf y r) {x : Rat} (hx : 0 ≤ x) (hxy : y ≤ x * x) : LeN (erfG R y r) (erfS R x) := by
  have y0 := hr.y0
  obtain ⟨N0, hN0⟩ := hr.bd
  obtain ⟨K, K0, hK⟩ := gS_bdd (y := y + 1) (by grind)
  obtain ⟨k, hk⟩ := rat_nat (4 * (2 * y + 3))
  have FK := Rat.mul_nonneg (show 0 ≤ y + 2 by grind) K0
  refine LeN.lim (C := 2 * (2 * ((y + 2) * K) * (2 * y + 3))) (by have := Rat.mul_nonneg FK (show 0 ≤ 2 * y + 3 by grind); grind) fun n => ?_
  obtain ⟨w1, w2, w3, w4⟩ := nat_over (a := 0) (n := n) hk.2 (show 0 ≤ 2 * y + 3 by grind)
  obtain ⟨s, s0, s1, s2⟩ := root0 y y0 (n + k)
  obtain ⟨u, hu⟩ : ∃ u, u = 1 / (((n + k : Nat) : Rat) + 1) := ⟨_, rfl⟩
  rw [← hu] at w1 w2 w3 w4 s2
  have st := sq_step s0 s1 w3 w4
  obtain ⟨x', hx1, hx2, hx3, x0⟩ : ∃ x', x' ≤ x ∧ x' ≤ s + u ∧ y ≤ x' * x' ∧ 0 ≤ x' := by
    by_cases c : x ≤ s + u
    · exact ⟨x, Rat.le_refl, c, hxy, hx⟩
    · exact ⟨s + u, by grind, Rat.le_refl, s2, by grind⟩
  have ss : x' * x' ≤ (s + u) * (s + u) := Rat.le_trans (Rat.mul_le_mul_of_nonneg_left hx2 x0) (Rat.mul_le_mul_of_nonneg_right hx2 (by grind))
  have d : x' * x' - y ≤ (2 * y + 3) * u := by grind
  have x2 : x' ≤ y + 2 := by
    have := sq_lt (a := x') (b := y + 1) x0 (by have := Rat.mul_nonneg y0 y0; grind) (by grind)
    grind
  have K' : ∀ M, gS (x' * x') M ≤ K := fun M => Rat.le_trans (gS_mono (by grind) (by grind) M) (hK M)
  have c := cmpG (f := r) (f' := fun _ => x') (F := y + 2) (N0 := N0) y0 hx3 (by grind) hr.nn (fun _ => x0) hN0 (fun _ _ => x2) (hr.le x0 hx3) K'
  have c2 := cmpE h y0 (by grind) (Rat.mul_nonneg (by grind) (by grind)) c
  rw [erfG_const] at c2
  refine c2.trans (LeN.trans (LeN.of_le 0 fun M _ => ?_) ((erf_mono h x0 hx1).add (LeN.refl (fun _ => 2 * (2 * ((y + 2) * K) * (2 * y + 3)) * (1 / ((n : Rat) + 1))))))
  have m1 := Rat.mul_le_mul_of_nonneg_left (Rat.le_trans d (Rat.mul_le_mul_of_nonneg_left w1 (show 0 ≤ 2 * y + 3 by grind))) (show 0 ≤ 2 * ((y + 2) * K) by grind)
  grind
theorem erfG_one {R : Nat → Rat} (h : RootS piS R) {y : Rat} {r : Nat → Rat} (hr : RtOf y r) : LeN (erfG R y r) (fun _ => 1) := by
  have y0 := hr.y0
  have q := Rat.mul_nonneg y0 y0
  exact (erfG_le h hr (x := y + 1) (by grind) (by grind)).trans (erf_one h (by grind))
theorem erfG_nonneg {P R : Nat → Rat} (h : RootS P R) {y : Rat} {r : Nat → Rat} (hr : RtOf y r) {M : Nat} (hM : 1 ≤ M) : 0 ≤ erfG R y r M := by
  rw [erfG_eq h hr.y0 r hM]
  have a := (div_one (Rat.mul_nonneg (hr.nn M) (gS_nonneg hr.y0 M)) (ex_ge hr.y0 hM)).1
  have b := (div_one (a := 1) (by grind) (h.one M)).1
  exact Rat.mul_nonneg a (by grind)
end Go.Proofs.YtgmnknmjainababGreat.Ex
