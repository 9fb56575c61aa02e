/-
  What the ways that wide.Div hands to wide.corners answer, and wide.corners of them, and that they leave old memory alone.
  What tailsureref.Over answers of right spans, the second one more than 0, and that it leaves old memory alone.
  What tailsureref.Over answers of right spans, the second one less than 0; and both ways together; and that it leaves old memory alone.
  What wide.Div answers of right spans, the second one less than 0; and both ways together; and that it leaves old memory alone.
  What tailsureref.RootDown answers of a right number that is not below 0, and that it leaves old memory alone.
  What the way that span.Meet hands to span.made answers, and that it leaves old memory alone.
  What span.made answers, for each way that is handed to it, and what span.Add and its like answer of whatever spans; they leave old memory alone.
  What span.Div, span.Root and span.Meet answer of whatever spans, and that they leave old memory alone.
  What the way that span.To hands to span.made answers, and what span.To answers of whatever span; they leave old memory alone.
-/
import Derived.Test.YtgmnknmjainabaaK09
namespace Go.Proofs.Ytgmnknmjainabaa
set_option linter.unusedVariables false
set_option linter.unusedSimpArgs false
set_option linter.unnecessarySimpa false
open Go.RowKit
attribute [local go_sem ↓] Go.wp_at_zero Go.wp_at_succ

set_option maxRecDepth 100000 in
set_option maxHeartbeats 2000000 in
theorem div1_int (neg neg2 : Bool) (a c : Option Addr) (n m cap cap2 k k2 b B : Nat) (x y : Int) (w : World) (h1 : IntAt w neg a n cap k x) (h2 : IntAt w neg2 c m cap2 k2 y) (hk : k ≤ 300000000) (hb : b ≤ 1000000) (hy : 0 < y) (hc : w.cell? ⟨B, 4, none⟩ = some (.int .i64 b)) :
    Calls Try.prog 129 #[.agg #[.bool neg, .slice a n cap], .agg #[.bool neg2, .slice c m cap2], .pointer (some ⟨B, 0, none⟩)] w (IntAns w (b / 16 + k + 9) (x * Q b / y)) := by
  have lB : B < w.heap.size := World.block_lt_of_cell? w ⟨B, 4, none⟩ hc
  have ne1 : w.heap.size ≠ w.heap.size + 1 + 1 := by omega
  have ne2 : w.heap.size + 1 + 1 ≠ w.heap.size := by omega
  obtain ⟨W, hW⟩ : ∃ W, W = ((w.alloc (.cells #[.bool neg, .slice a n cap] 24)).alloc (.cells #[.bool neg2, .slice c m cap2] 24)).alloc (.cells #[.bool false, .slice none 0 0] 24) := ⟨_, rfl⟩
  have hBW : Below w.heap.size w W := by rw [hW]; exact bl3 _ _ _ _
  have A : NmC W w.heap.size ⟨neg, a, n, cap⟩ := by rw [hW]; exact ⟨by simp [go_sem], by simp [go_sem]⟩
  have G : NmC W (w.heap.size + 1) ⟨neg2, c, m, cap2⟩ := by rw [hW]; exact ⟨by simp [go_sem], by simp [go_sem]⟩
  have R : NoI W (w.heap.size + 1 + 1) := by rw [hW]; exact ⟨by simp [go_sem], by simp [go_sem], fun o => by simp [go_sem]⟩
  have hcW := (hBW.cell (p := ⟨B, 4, none⟩) lB).trans hc
  have lBW := Nat.lt_of_lt_of_le lB hBW.size
  have HX := hide (h1.below hBW)
  have HY := hide (h2.below hBW)
  have hB0 : Below W.heap.size W W.drew := (Below.refl _ _).drew
  have lR := R.lt
  have nB : B ≠ w.heap.size + 1 + 1 := by omega
  have nB' : w.heap.size + 1 + 1 ≠ B := by omega
  have HK := hide (show ∀ w', Below W.heap.size W w' → (w'.cell? ⟨w.heap.size, 0, none⟩ = some (.bool neg) ∧ w'.cell? ⟨w.heap.size, 1, none⟩ = some (.slice a n cap) ∧ w'.cell? ⟨w.heap.size + 1, 0, none⟩ = some (.bool neg2) ∧ w'.cell? ⟨w.heap.size + 1, 1, none⟩ = some (.slice c m cap2) ∧ w'.cell? ⟨B, 4, none⟩ = some (.int .i64 b)) from fun w' hB => ⟨(A.below hB).c0, (A.below hB).c1, (G.below hB).c0, (G.below hB).c1, (hB.cell (p := ⟨B, 4, none⟩) lBW).trans hcW⟩)
  go_enter Try.func129, Try.ntmps129
  go_wp2
  rw [← hW]
  clear hW
  obtain ⟨i0, i1, i2, i3, i4⟩ := unhide HK _ (Below.refl _ _)
  go_region_held3 (fun w' => w'.cell? ⟨w.heap.size, 0, none⟩ = some (.bool neg) ∧ w'.cell? ⟨w.heap.size, 1, none⟩ = some (.slice a n cap) ∧ w'.cell? ⟨w.heap.size + 1, 0, none⟩ = some (.bool neg2) ∧ w'.cell? ⟨w.heap.size + 1, 1, none⟩ = some (.slice c m cap2) ∧ w'.cell? ⟨B, 4, none⟩ = some (.int .i64 b)) (first | exact unhide HK _ (by first | with_reducible exact hB0 | with_reducible exact hB2 | with_reducible exact hB1) | go_keep)
    (first
      | (go_at_call 107; refine (up_int _ _ _ _ b k x _ ((unhide HX).below hB0) (by omega) (by omega)).mono ?_; rintro r w1 ⟨neg1, a1, n1, c1, rfl, hint1, hb1⟩; have hB1 := bthen hB0 hb1)
      | (go_at_call 103; refine (floor_any _ _ _ _ _ _ _ _ (b / 16 + k + 1) k2 (x * Q b) y _ hint1 ((unhide HY).below hB1) (by omega) hy).mono ?_; rintro r w2 ⟨neg3, a3, n3, c3, rfl, hint3, hb2⟩; have hB2 := bthen hB1 hb2; obtain ⟨q0, q1, q2⟩ := R.below hB2; obtain ⟨d0, d1, d2, d3, d4⟩ := unhide HK _ hB2))
  clear i0 i1 i2 i3 i4
  go_wp2
  refine bodyPost_ret (v := .agg #[.bool neg3, .slice a3 n3 c3]) (by simp [results, Try.results129, go_sem, q0, q1]) rfl ⟨neg3, a3, n3, c3, rfl, (hint3.put2 q0 q1 _ _).mono (by omega), ?_⟩
  exact set2 (bthen hBW hB2) (by omega) _ _

set_option maxRecDepth 100000 in
set_option maxHeartbeats 2000000 in
theorem div2_int (neg neg2 : Bool) (a c : Option Addr) (n m cap cap2 k k2 b B : Nat) (x y : Int) (w : World) (h1 : IntAt w neg a n cap k x) (h2 : IntAt w neg2 c m cap2 k2 y) (hk : k ≤ 300000000) (hb : b ≤ 1000000) (hy : 0 < y) (hc : w.cell? ⟨B, 4, none⟩ = some (.int .i64 b)) :
    Calls Try.prog 130 #[.agg #[.bool neg, .slice a n cap], .agg #[.bool neg2, .slice c m cap2], .pointer (some ⟨B, 0, none⟩)] w (IntAns w (b / 16 + k + 9) (-(-(x * Q b) / y))) := by
  have lB : B < w.heap.size := World.block_lt_of_cell? w ⟨B, 4, none⟩ hc
  have ne1 : w.heap.size ≠ w.heap.size + 1 + 1 := by omega
  have ne2 : w.heap.size + 1 + 1 ≠ w.heap.size := by omega
  obtain ⟨W, hW⟩ : ∃ W, W = ((w.alloc (.cells #[.bool neg, .slice a n cap] 24)).alloc (.cells #[.bool neg2, .slice c m cap2] 24)).alloc (.cells #[.bool false, .slice none 0 0] 24) := ⟨_, rfl⟩
  have hBW : Below w.heap.size w W := by rw [hW]; exact bl3 _ _ _ _
  have A : NmC W w.heap.size ⟨neg, a, n, cap⟩ := by rw [hW]; exact ⟨by simp [go_sem], by simp [go_sem]⟩
  have G : NmC W (w.heap.size + 1) ⟨neg2, c, m, cap2⟩ := by rw [hW]; exact ⟨by simp [go_sem], by simp [go_sem]⟩
  have R : NoI W (w.heap.size + 1 + 1) := by rw [hW]; exact ⟨by simp [go_sem], by simp [go_sem], fun o => by simp [go_sem]⟩
  have hcW := (hBW.cell (p := ⟨B, 4, none⟩) lB).trans hc
  have lBW := Nat.lt_of_lt_of_le lB hBW.size
  have HX := hide (h1.below hBW)
  have HY := hide (h2.below hBW)
  have hB0 : Below W.heap.size W W.drew := (Below.refl _ _).drew
  have lR := R.lt
  have nB : B ≠ w.heap.size + 1 + 1 := by omega
  have nB' : w.heap.size + 1 + 1 ≠ B := by omega
  have HK := hide (show ∀ w', Below W.heap.size W w' → (w'.cell? ⟨w.heap.size, 0, none⟩ = some (.bool neg) ∧ w'.cell? ⟨w.heap.size, 1, none⟩ = some (.slice a n cap) ∧ w'.cell? ⟨w.heap.size + 1, 0, none⟩ = some (.bool neg2) ∧ w'.cell? ⟨w.heap.size + 1, 1, none⟩ = some (.slice c m cap2) ∧ w'.cell? ⟨B, 4, none⟩ = some (.int .i64 b)) from fun w' hB => ⟨(A.below hB).c0, (A.below hB).c1, (G.below hB).c0, (G.below hB).c1, (hB.cell (p := ⟨B, 4, none⟩) lBW).trans hcW⟩)
  go_enter Try.func130, Try.ntmps130
  go_wp2
  rw [← hW]
  clear hW
  obtain ⟨i0, i1, i2, i3, i4⟩ := unhide HK _ (Below.refl _ _)
  go_region_held3 (fun w' => w'.cell? ⟨w.heap.size, 0, none⟩ = some (.bool neg) ∧ w'.cell? ⟨w.heap.size, 1, none⟩ = some (.slice a n cap) ∧ w'.cell? ⟨w.heap.size + 1, 0, none⟩ = some (.bool neg2) ∧ w'.cell? ⟨w.heap.size + 1, 1, none⟩ = some (.slice c m cap2) ∧ w'.cell? ⟨B, 4, none⟩ = some (.int .i64 b)) (first | exact unhide HK _ (by first | with_reducible exact hB0 | with_reducible exact hB2 | with_reducible exact hB1) | go_keep)
    (first
      | (go_at_call 107; refine (up_int _ _ _ _ b k x _ ((unhide HX).below hB0) (by omega) (by omega)).mono ?_; rintro r w1 ⟨neg1, a1, n1, c1, rfl, hint1, hb1⟩; have hB1 := bthen hB0 hb1)
      | (go_at_call 123; refine (ceil_any _ _ _ _ _ _ _ _ (b / 16 + k + 1) k2 (x * Q b) y _ hint1 ((unhide HY).below hB1) (by omega) hy).mono ?_; rintro r w2 ⟨neg3, a3, n3, c3, rfl, hint3, hb2⟩; have hB2 := bthen hB1 hb2; obtain ⟨q0, q1, q2⟩ := R.below hB2; obtain ⟨d0, d1, d2, d3, d4⟩ := unhide HK _ hB2))
  clear i0 i1 i2 i3 i4
  go_wp2
  refine bodyPost_ret (v := .agg #[.bool neg3, .slice a3 n3 c3]) (by simp [results, Try.results130, go_sem, q0, q1]) rfl ⟨neg3, a3, n3, c3, rfl, (hint3.put2 q0 q1 _ _).mono (by omega), ?_⟩
  exact set2 (bthen hBW hB2) (by omega) _ _

set_option maxRecDepth 100000 in
set_option maxHeartbeats 2000000 in
theorem corners_div1 (w : World) (s t : Sp) (k b B : Nat) (lo hi lo' hi' : Int) (hs : SpAt w s k lo hi) (ht : SpAt w t k lo' hi') (hk : k ≤ 300000000) (hb : b ≤ 1000000) (hp : 0 < lo') (hp2 : 0 < hi') (hc : w.cell? ⟨B, 4, none⟩ = some (.int .i64 b)) :
    Calls Try.prog 127 #[.agg #[.bool s.ln, .slice s.la s.lN s.lc, .bool s.hn, .slice s.ha s.hN s.hc, .int .i64 s.bits], .agg #[.bool t.ln, .slice t.la t.lN t.lc, .bool t.hn, .slice t.ha t.hN t.hc, .int .i64 t.bits], .func (.func 129) #[] #[.pointer (some ⟨B, 0, none⟩)]] w fun r w' =>
      ∃ B' f, r = .returned (.slice (some ⟨B', 0, none⟩) 4 4) ∧ Nums w' B' 4 (b / 16 + k + 9) f (pr4 (lo * Q b / lo') (lo * Q b / hi') (hi * Q b / lo') (hi * Q b / hi')) ∧ Below w.heap.size w w' := by
  have lB : B < w.heap.size := World.block_lt_of_cell? w ⟨B, 4, none⟩ hc
  obtain ⟨W, hW⟩ : ∃ W, W = (w.alloc (.cells #[.bool s.ln, .slice s.la s.lN s.lc, .bool s.hn, .slice s.ha s.hN s.hc, .int .i64 s.bits] 26)).alloc (.cells #[.bool t.ln, .slice t.la t.lN t.lc, .bool t.hn, .slice t.ha t.hN t.hc, .int .i64 t.bits] 26) := ⟨_, rfl⟩
  have hBW : Below w.heap.size w W := by rw [hW]; exact bl2 _ _ _
  have a0 : SpC W w.heap.size s := by rw [hW]; exact ⟨by simp [go_sem], by simp [go_sem], by simp [go_sem], by simp [go_sem], by simp [go_sem]⟩
  have g0 : SpC W (w.heap.size + 1) t := by rw [hW]; exact ⟨by simp [go_sem], by simp [go_sem], by simp [go_sem], by simp [go_sem], by simp [go_sem]⟩
  have hcW := (hBW.cell (p := ⟨B, 4, none⟩) lB).trans hc
  have lBW := Nat.lt_of_lt_of_le lB hBW.size
  have HS := hide (hs.below hBW)
  have HT := hide (ht.below hBW)
  have hB0 : Below W.heap.size W W.drew := (Below.refl _ _).drew
  have HKB := hide (show ∀ w', Below W.heap.size W w' → w'.cell? ⟨B, 4, none⟩ = some (.int .i64 b) from fun w' hB => (hB.cell (p := ⟨B, 4, none⟩) lBW).trans hcW)
  have HK := hide (show ∀ w', Below W.heap.size W w' → (w'.cell? ⟨w.heap.size, 0, none⟩ = some (.bool s.ln) ∧ w'.cell? ⟨w.heap.size, 1, none⟩ = some (.slice s.la s.lN s.lc) ∧ w'.cell? ⟨w.heap.size, 2, none⟩ = some (.bool s.hn) ∧ w'.cell? ⟨w.heap.size, 3, none⟩ = some (.slice s.ha s.hN s.hc) ∧ w'.cell? ⟨w.heap.size + 1, 0, none⟩ = some (.bool t.ln) ∧ w'.cell? ⟨w.heap.size + 1, 1, none⟩ = some (.slice t.la t.lN t.lc) ∧ w'.cell? ⟨w.heap.size + 1, 2, none⟩ = some (.bool t.hn) ∧ w'.cell? ⟨w.heap.size + 1, 3, none⟩ = some (.slice t.ha t.hN t.hc)) from fun w' hB => by
    obtain ⟨x0, x1, x2, x3, x4⟩ := a0.below hB
    obtain ⟨y0, y1, y2, y3, y4⟩ := g0.below hB
    exact ⟨x0, x1, x2, x3, y0, y1, y2, y3⟩)
  go_enter Try.func127, Try.ntmps127
  go_wp2
  obtain ⟨x0, x1, x2, x3, x4⟩ := a0
  obtain ⟨y0, y1, y2, y3, y4⟩ := g0
  rw [← hW]
  clear hW
  go_region_held3 (fun w' => w'.cell? ⟨w.heap.size, 0, none⟩ = some (.bool s.ln) ∧ w'.cell? ⟨w.heap.size, 1, none⟩ = some (.slice s.la s.lN s.lc) ∧ w'.cell? ⟨w.heap.size, 2, none⟩ = some (.bool s.hn) ∧ w'.cell? ⟨w.heap.size, 3, none⟩ = some (.slice s.ha s.hN s.hc) ∧ w'.cell? ⟨w.heap.size + 1, 0, none⟩ = some (.bool t.ln) ∧ w'.cell? ⟨w.heap.size + 1, 1, none⟩ = some (.slice t.la t.lN t.lc) ∧ w'.cell? ⟨w.heap.size + 1, 2, none⟩ = some (.bool t.hn) ∧ w'.cell? ⟨w.heap.size + 1, 3, none⟩ = some (.slice t.ha t.hN t.hc)) (exact unhide HK _ (by first | with_reducible exact hB0 | with_reducible exact balloc hB4 _ | with_reducible exact hB4 | with_reducible exact hB3 | with_reducible exact hB2 | with_reducible exact hB1))
    (first
      | (go_at_call 129; have hq := hB3; refine (div1_int _ _ _ _ _ _ _ _ k k b B hi hi' _ ((unhide HS).hi.below hB3) ((unhide HT).hi.below hB3) hk hb hp2 (unhide HKB _ hB3)).mono ?_; rintro r w4 ⟨neg4, a4, n4, c4, rfl, hint4, hb4⟩; replace hint1 := hint1.below hb4; replace hint2 := hint2.below hb4; replace hint3 := hint3.below hb4; have hB4 := bthen hB3 hb4)
      | (go_at_call 129; have hq := hB2; refine (div1_int _ _ _ _ _ _ _ _ k k b B hi lo' _ ((unhide HS).hi.below hB2) ((unhide HT).lo.below hB2) hk hb hp (unhide HKB _ hB2)).mono ?_; rintro r w3 ⟨neg3, a3, n3, c3, rfl, hint3, hb3⟩; replace hint1 := hint1.below hb3; replace hint2 := hint2.below hb3; have hB3 := bthen hB2 hb3)
      | (go_at_call 129; have hq := hB1; refine (div1_int _ _ _ _ _ _ _ _ k k b B lo hi' _ ((unhide HS).lo.below hB1) ((unhide HT).hi.below hB1) hk hb hp2 (unhide HKB _ hB1)).mono ?_; rintro r w2 ⟨neg2, a2, n2, c2, rfl, hint2, hb2⟩; replace hint1 := hint1.below hb2; have hB2 := bthen hB1 hb2)
      | (go_at_call 129; have hq := hB0; refine (div1_int _ _ _ _ _ _ _ _ k k b B lo lo' _ ((unhide HS).lo.below hB0) ((unhide HT).lo.below hB0) hk hb hp (unhide HKB _ hB0)).mono ?_; rintro r w1 ⟨neg1, a1, n1, c1, rfl, hint1, hb1⟩; have hB1 := bthen hB0 hb1))
  go_wp2
  go_ret
  exact ⟨w4.heap.size, pr4 ⟨neg1, a1, n1, c1⟩ ⟨neg2, a2, n2, c2⟩ ⟨neg3, a3, n3, c3⟩ ⟨neg4, a4, n4, c4⟩, rfl, nums4 w4 _ rfl ⟨neg1, a1, n1, c1⟩ ⟨neg2, a2, n2, c2⟩ ⟨neg3, a3, n3, c3⟩ ⟨neg4, a4, n4, c4⟩ _ _ _ _ _ _ hint1 hint2 hint3 hint4, bthen hBW (balloc hB4 _)⟩

set_option maxRecDepth 100000 in
set_option maxHeartbeats 2000000 in
theorem corners_div2 (w : World) (s t : Sp) (k b B : Nat) (lo hi lo' hi' : Int) (hs : SpAt w s k lo hi) (ht : SpAt w t k lo' hi') (hk : k ≤ 300000000) (hb : b ≤ 1000000) (hp : 0 < lo') (hp2 : 0 < hi') (hc : w.cell? ⟨B, 4, none⟩ = some (.int .i64 b)) :
    Calls Try.prog 127 #[.agg #[.bool s.ln, .slice s.la s.lN s.lc, .bool s.hn, .slice s.ha s.hN s.hc, .int .i64 s.bits], .agg #[.bool t.ln, .slice t.la t.lN t.lc, .bool t.hn, .slice t.ha t.hN t.hc, .int .i64 t.bits], .func (.func 130) #[] #[.pointer (some ⟨B, 0, none⟩)]] w fun r w' =>
      ∃ B' f, r = .returned (.slice (some ⟨B', 0, none⟩) 4 4) ∧ Nums w' B' 4 (b / 16 + k + 9) f (pr4 (-(-(lo * Q b) / lo')) (-(-(lo * Q b) / hi')) (-(-(hi * Q b) / lo')) (-(-(hi * Q b) / hi'))) ∧ Below w.heap.size w w' := by
  have lB : B < w.heap.size := World.block_lt_of_cell? w ⟨B, 4, none⟩ hc
  obtain ⟨W, hW⟩ : ∃ W, W = (w.alloc (.cells #[.bool s.ln, .slice s.la s.lN s.lc, .bool s.hn, .slice s.ha s.hN s.hc, .int .i64 s.bits] 26)).alloc (.cells #[.bool t.ln, .slice t.la t.lN t.lc, .bool t.hn, .slice t.ha t.hN t.hc, .int .i64 t.bits] 26) := ⟨_, rfl⟩
  have hBW : Below w.heap.size w W := by rw [hW]; exact bl2 _ _ _
  have a0 : SpC W w.heap.size s := by rw [hW]; exact ⟨by simp [go_sem], by simp [go_sem], by simp [go_sem], by simp [go_sem], by simp [go_sem]⟩
  have g0 : SpC W (w.heap.size + 1) t := by rw [hW]; exact ⟨by simp [go_sem], by simp [go_sem], by simp [go_sem], by simp [go_sem], by simp [go_sem]⟩
  have hcW := (hBW.cell (p := ⟨B, 4, none⟩) lB).trans hc
  have lBW := Nat.lt_of_lt_of_le lB hBW.size
  have HS := hide (hs.below hBW)
  have HT := hide (ht.below hBW)
  have hB0 : Below W.heap.size W W.drew := (Below.refl _ _).drew
  have HKB := hide (show ∀ w', Below W.heap.size W w' → w'.cell? ⟨B, 4, none⟩ = some (.int .i64 b) from fun w' hB => (hB.cell (p := ⟨B, 4, none⟩) lBW).trans hcW)
  have HK := hide (show ∀ w', Below W.heap.size W w' → (w'.cell? ⟨w.heap.size, 0, none⟩ = some (.bool s.ln) ∧ w'.cell? ⟨w.heap.size, 1, none⟩ = some (.slice s.la s.lN s.lc) ∧ w'.cell? ⟨w.heap.size, 2, none⟩ = some (.bool s.hn) ∧ w'.cell? ⟨w.heap.size, 3, none⟩ = some (.slice s.ha s.hN s.hc) ∧ w'.cell? ⟨w.heap.size + 1, 0, none⟩ = some (.bool t.ln) ∧ w'.cell? ⟨w.heap.size + 1, 1, none⟩ = some (.slice t.la t.lN t.lc) ∧ w'.cell? ⟨w.heap.size + 1, 2, none⟩ = some (.bool t.hn) ∧ w'.cell? ⟨w.heap.size + 1, 3, none⟩ = some (.slice t.ha t.hN t.hc)) from fun w' hB => by
    obtain ⟨x0, x1, x2, x3, x4⟩ := a0.below hB
    obtain ⟨y0, y1, y2, y3, y4⟩ := g0.below hB
    exact ⟨x0, x1, x2, x3, y0, y1, y2, y3⟩)
  go_enter Try.func127, Try.ntmps127
  go_wp2
  obtain ⟨x0, x1, x2, x3, x4⟩ := a0
  obtain ⟨y0, y1, y2, y3, y4⟩ := g0
  rw [← hW]
  clear hW
  go_region_held3 (fun w' => w'.cell? ⟨w.heap.size, 0, none⟩ = some (.bool s.ln) ∧ w'.cell? ⟨w.heap.size, 1, none⟩ = some (.slice s.la s.lN s.lc) ∧ w'.cell? ⟨w.heap.size, 2, none⟩ = some (.bool s.hn) ∧ w'.cell? ⟨w.heap.size, 3, none⟩ = some (.slice s.ha s.hN s.hc) ∧ w'.cell? ⟨w.heap.size + 1, 0, none⟩ = some (.bool t.ln) ∧ w'.cell? ⟨w.heap.size + 1, 1, none⟩ = some (.slice t.la t.lN t.lc) ∧ w'.cell? ⟨w.heap.size + 1, 2, none⟩ = some (.bool t.hn) ∧ w'.cell? ⟨w.heap.size + 1, 3, none⟩ = some (.slice t.ha t.hN t.hc)) (exact unhide HK _ (by first | with_reducible exact hB0 | with_reducible exact balloc hB4 _ | with_reducible exact hB4 | with_reducible exact hB3 | with_reducible exact hB2 | with_reducible exact hB1))
    (first
      | (go_at_call 130; have hq := hB3; refine (div2_int _ _ _ _ _ _ _ _ k k b B hi hi' _ ((unhide HS).hi.below hB3) ((unhide HT).hi.below hB3) hk hb hp2 (unhide HKB _ hB3)).mono ?_; rintro r w4 ⟨neg4, a4, n4, c4, rfl, hint4, hb4⟩; replace hint1 := hint1.below hb4; replace hint2 := hint2.below hb4; replace hint3 := hint3.below hb4; have hB4 := bthen hB3 hb4)
      | (go_at_call 130; have hq := hB2; refine (div2_int _ _ _ _ _ _ _ _ k k b B hi lo' _ ((unhide HS).hi.below hB2) ((unhide HT).lo.below hB2) hk hb hp (unhide HKB _ hB2)).mono ?_; rintro r w3 ⟨neg3, a3, n3, c3, rfl, hint3, hb3⟩; replace hint1 := hint1.below hb3; replace hint2 := hint2.below hb3; have hB3 := bthen hB2 hb3)
      | (go_at_call 130; have hq := hB1; refine (div2_int _ _ _ _ _ _ _ _ k k b B lo hi' _ ((unhide HS).lo.below hB1) ((unhide HT).hi.below hB1) hk hb hp2 (unhide HKB _ hB1)).mono ?_; rintro r w2 ⟨neg2, a2, n2, c2, rfl, hint2, hb2⟩; replace hint1 := hint1.below hb2; have hB2 := bthen hB1 hb2)
      | (go_at_call 130; have hq := hB0; refine (div2_int _ _ _ _ _ _ _ _ k k b B lo lo' _ ((unhide HS).lo.below hB0) ((unhide HT).lo.below hB0) hk hb hp (unhide HKB _ hB0)).mono ?_; rintro r w1 ⟨neg1, a1, n1, c1, rfl, hint1, hb1⟩; have hB1 := bthen hB0 hb1))
  go_wp2
  go_ret
  exact ⟨w4.heap.size, pr4 ⟨neg1, a1, n1, c1⟩ ⟨neg2, a2, n2, c2⟩ ⟨neg3, a3, n3, c3⟩ ⟨neg4, a4, n4, c4⟩, rfl, nums4 w4 _ rfl ⟨neg1, a1, n1, c1⟩ ⟨neg2, a2, n2, c2⟩ ⟨neg3, a3, n3, c3⟩ ⟨neg4, a4, n4, c4⟩ _ _ _ _ _ _ hint1 hint2 hint3 hint4, bthen hBW (balloc hB4 _)⟩
end Go.Proofs.Ytgmnknmjainabaa

namespace Go.Proofs.Ytgmnknmjainabaa
set_option linter.unusedVariables false
set_option linter.unusedSimpArgs false
set_option linter.unnecessarySimpa false
open Go.RowKit
attribute [local go_sem ↓] Go.wp_at_zero Go.wp_at_succ

/-- The ends of the quotients of what is from l to h over what is from p to q, p more than 0. -/
def ovLo (l h p q : Int) : Int := if l < 0 then l / p else l / q
def ovHi (l h p q : Int) : Int := if h < 0 then -(-h / q) else -(-h / p)

/-- What stands of tailsureref.Over behind its variables l, h (at BL, CL) and lo, hi (at BM, CM). -/
structure OVs (w wr : World) (s t : Sp) (k k1 k2 BL CL BM CM : Nat) (xL yL xM yM : Nm) (lo' hi' l h m n : Int) : Prop where
  A : SpC wr w.heap.size s
  G : SpC wr (w.heap.size + 1) t
  R : NoC wr (w.heap.size + 1 + 1)
  XL : NmC wr BL xL
  YL : NmC wr CL yL
  XM : NmC wr BM xM
  YM : NmC wr CM yM
  il : IntAt wr xL.neg xL.a xL.n xL.cap k1 l
  ih : IntAt wr yL.neg yL.a yL.n yL.cap k1 h
  im : IntAt wr xM.neg xM.a xM.n xM.cap k2 m
  jn : IntAt wr yM.neg yM.a yM.n yM.cap k2 n
  ht : SpAt wr t k lo' hi'
  fM : ∀ o, wr.frozen? ⟨BM, o, none⟩ = false
  fN : ∀ o, wr.frozen? ⟨CM, o, none⟩ = false
  hB : Below w.heap.size w wr
variable {w wr w' : World} {s t : Sp} {k k1 k2 BL CL BM CM : Nat} {xL yL xM yM : Nm} {lo' hi' l h m n : Int}
theorem OVs.below (D : OVs w wr s t k k1 k2 BL CL BM CM xL yL xM yM lo' hi' l h m n) (hb : Below wr.heap.size wr w') : OVs w w' s t k k1 k2 BL CL BM CM xL yL xM yM lo' hi' l h m n :=
  ⟨D.A.below hb, D.G.below hb, D.R.below hb, D.XL.below hb, D.YL.below hb, D.XM.below hb, D.YM.below hb, D.il.below hb, D.ih.below hb, D.im.below hb, D.jn.below hb, D.ht.below hb, fun o => (hb.frozen (p := ⟨BM, o, none⟩) D.XM.lt).trans (D.fM o), fun o => (hb.frozen (p := ⟨CM, o, none⟩) D.YM.lt).trans (D.fN o), bthen D.hB hb⟩
end Go.Proofs.Ytgmnknmjainabaa

namespace Go.Proofs.Ytgmnknmjainabaa
set_option linter.unusedVariables false
set_option linter.unusedSimpArgs false
set_option linter.unnecessarySimpa false
open Go.RowKit
attribute [local go_sem ↓] Go.wp_at_zero Go.wp_at_succ

/-- The ends of the quotients of two spans, the second one without 0. -/
def dvLo (lo hi lo' hi' : Int) (b : Nat) : Int := if hi' < 0 then ovLo (-hi * Q b) (-lo * Q b) (-hi') (-lo') else ovLo (lo * Q b) (hi * Q b) lo' hi'
def dvHi (lo hi lo' hi' : Int) (b : Nat) : Int := if hi' < 0 then ovHi (-hi * Q b) (-lo * Q b) (-hi') (-lo') else ovHi (lo * Q b) (hi * Q b) lo' hi'

end Go.Proofs.Ytgmnknmjainabaa

namespace Go.Proofs.Ytgmnknmjainabaa
set_option linter.unusedVariables false
set_option linter.unusedSimpArgs false
set_option linter.unnecessarySimpa false
open Go.RowKit
attribute [local go_sem ↓] Go.wp_at_zero Go.wp_at_succ

theorem SpC.put5n {w : World} {B B' : Nat} {s : Sp} (h : SpC w B s) (hne : B ≠ B') (u0 u1 u2 u3 u4 : Value) :
    SpC (((((w.setCell ⟨B', 0, none⟩ u0).setCell ⟨B', 1, none⟩ u1).setCell ⟨B', 2, none⟩ u2).setCell ⟨B', 3, none⟩ u3).setCell ⟨B', 4, none⟩ u4) B s :=
  ⟨cell_put5' h.c0 hne _ _ _ _ _, cell_put5' h.c1 hne _ _ _ _ _, cell_put5' h.c2 hne _ _ _ _ _, cell_put5' h.c3 hne _ _ _ _ _, cell_put5' h.c4 hne _ _ _ _ _⟩
theorem NoC.put5n {w : World} {B B' : Nat} (h : NoC w B) (hne : B ≠ B') (u0 u1 u2 u3 u4 : Value) :
    NoC (((((w.setCell ⟨B', 0, none⟩ u0).setCell ⟨B', 1, none⟩ u1).setCell ⟨B', 2, none⟩ u2).setCell ⟨B', 3, none⟩ u3).setCell ⟨B', 4, none⟩ u4) B := by
  obtain ⟨q0, q1, q2, q3, q4, q5⟩ := h
  exact ⟨cell_put5' q0 hne _ _ _ _ _, cell_put5' q1 hne _ _ _ _ _, cell_put5' q2 hne _ _ _ _ _, cell_put5' q3 hne _ _ _ _ _, cell_put5' q4 hne _ _ _ _ _, fun o => by rw [frozen_set', frozen_set', frozen_set', frozen_set', frozen_set']; exact q5 o⟩
theorem sp_put {w : World} {B : Nat} {t : Sp} (h : SpC w B t) (s : Sp) : SpC (((((w.setCell ⟨B, 0, none⟩ (.bool s.ln)).setCell ⟨B, 1, none⟩ (.slice s.la s.lN s.lc)).setCell ⟨B, 2, none⟩ (.bool s.hn)).setCell ⟨B, 3, none⟩ (.slice s.ha s.hN s.hc)).setCell ⟨B, 4, none⟩ (.int .i64 s.bits)) B s := by
  obtain ⟨q0, q1, q2, q3, q4⟩ := h
  constructor <;> simp [go_sem, q0, q1, q2, q3, q4]
/-- Two spans that are written anew, one behind the other. -/
theorem two_sp {w : World} {B B' : Nat} {s t : Sp} (hA : SpC w B s) (hG : SpC w B' t) (hne : B ≠ B') (u v : Sp) :
    let w1 := ((((w.setCell ⟨B, 0, none⟩ (.bool u.ln)).setCell ⟨B, 1, none⟩ (.slice u.la u.lN u.lc)).setCell ⟨B, 2, none⟩ (.bool u.hn)).setCell ⟨B, 3, none⟩ (.slice u.ha u.hN u.hc)).setCell ⟨B, 4, none⟩ (.int .i64 u.bits)
    let w2 := ((((w1.setCell ⟨B', 0, none⟩ (.bool v.ln)).setCell ⟨B', 1, none⟩ (.slice v.la v.lN v.lc)).setCell ⟨B', 2, none⟩ (.bool v.hn)).setCell ⟨B', 3, none⟩ (.slice v.ha v.hN v.hc)).setCell ⟨B', 4, none⟩ (.int .i64 v.bits)
    SpC w2 B u ∧ SpC w2 B' v ∧ (∀ {x : Sp} {k : Nat} {lo hi : Int}, SpAt w x k lo hi → SpAt w2 x k lo hi) ∧ (∀ {C : Nat}, NoC w C → C ≠ B → C ≠ B' → NoC w2 C) := by
  intro w1 w2
  have h1 : SpC w1 B u := sp_put hA u
  have h2 : SpC w1 B' t := hG.put5n (fun e => hne e.symm) _ _ _ _ _
  exact ⟨h1.put5n hne _ _ _ _ _, sp_put h2 v, fun h => SpAt.put5 (SpAt.put5 h hA.c0 hA.c1 hA.c2 hA.c3 hA.c4 _ _ _ _ _) h2.c0 h2.c1 h2.c2 h2.c3 h2.c4 _ _ _ _ _, fun h n1 n2 => (h.put5n n1 _ _ _ _ _).put5n n2 _ _ _ _ _⟩

theorem dv_le (lo hi lo' hi' : Int) (b : Nat) (hl : lo ≤ hi) (hp : ¬ (lo' ≤ 0 ∧ 0 ≤ hi')) (hp2 : lo' ≤ hi') : dvLo lo hi lo' hi' b ≤ dvHi lo hi lo' hi' b := by
  have hq := Q_pos b
  unfold dvLo dvHi
  by_cases h : hi' < 0
  · rw [if_pos h, if_pos h]; exact over_le (Int.mul_le_mul_of_nonneg_right (by omega) (by omega)) (by omega) (by omega)
  · rw [if_neg h, if_neg h]; exact over_le (Int.mul_le_mul_of_nonneg_right hl (by omega)) (by omega) (by omega)
end Go.Proofs.Ytgmnknmjainabaa

namespace Go.Proofs.Ytgmnknmjainabaa
set_option linter.unusedVariables false
set_option linter.unusedSimpArgs false
set_option linter.unnecessarySimpa false
open Go.RowKit
attribute [local go_sem ↓] Go.wp_at_zero Go.wp_at_succ

theorem NoI.put2 {w : World} {B B' : Nat} (h : NoI w B) (hne : B ≠ B') (u0 u1 : Value) : NoI ((w.setCell ⟨B', 0, none⟩ u0).setCell ⟨B', 1, none⟩ u1) B := by
  obtain ⟨q0, q1, q2⟩ := h
  exact ⟨cell_put2 q0 hne _ _, cell_put2 q1 hne _ _, fun o => by rw [frozen_set', frozen_set']; exact q2 o⟩
/-- What a round of RootDown stands on: the two ends in their variables, the number, and the result's own place. -/
structure RDs (w wr : World) (BL BH : Nat) (X Y : Nm) (neg : Bool) (a : Option Addr) (n cap k : Nat) (x zl zh : Int) : Prop where
  hX : NmC wr BL X
  hY : NmC wr BH Y
  fL : ∀ o, wr.frozen? ⟨BL, o, none⟩ = false
  fH : ∀ o, wr.frozen? ⟨BH, o, none⟩ = false
  hl : IntAt wr X.neg X.a X.n X.cap (k + 2) zl
  hh : IntAt wr Y.neg Y.a Y.n Y.cap (k + 2) zh
  A : NmC wr w.heap.size ⟨neg, a, n, cap⟩
  R : NoI wr (w.heap.size + 1)
  hx : IntAt wr neg a n cap k x
  hB : Below w.heap.size w wr
theorem RDs.below {w wr w' : World} {BL BH : Nat} {X Y : Nm} {neg : Bool} {a : Option Addr} {n cap k : Nat} {x zl zh : Int} (h : RDs w wr BL BH X Y neg a n cap k x zl zh) (hb : Below wr.heap.size wr w') : RDs w w' BL BH X Y neg a n cap k x zl zh :=
  ⟨h.hX.below hb, h.hY.below hb, fun o => (hb.frozen (p := ⟨BL, o, none⟩) h.hX.lt).trans (h.fL o), fun o => (hb.frozen (p := ⟨BH, o, none⟩) h.hY.lt).trans (h.fH o), h.hl.below hb, h.hh.below hb, h.A.below hb, h.R.below hb, h.hx.below hb, bthen h.hB hb⟩

end Go.Proofs.Ytgmnknmjainabaa

namespace Go.Proofs.Ytgmnknmjainabaa
set_option linter.unusedVariables false
set_option linter.unusedSimpArgs false
set_option linter.unnecessarySimpa false
open Go.RowKit
attribute [local go_sem ↓] Go.wp_at_zero Go.wp_at_succ

theorem noc_newB (w : World) (B : Nat) (hB : w.heap.size = B) (T : TypeId) : NoC (w.alloc (.cells #[.bool false, .slice none 0 0, .bool false, .slice none 0 0, .int .i64 0] T)) B := by subst hB; exact noc_new w T
theorem nums2f (w : World) (B : Nat) (hB : w.heap.size = B) (neg neg2 : Bool) (a a2 : Option Addr) (n n2 c c2 : Nat) (k : Nat) (zx zy : Int) (T : TypeId) (hx : IntAt w neg a n c k zx) (hy : IntAt w neg2 a2 n2 c2 k zy) :
    Nums (w.alloc (.cells #[.bool neg, .slice a n c, .bool neg2, .slice a2 n2 c2] T)) B 2 k (pr ⟨neg, a, n, c⟩ ⟨neg2, a2, n2, c2⟩) (pr zx zy) := nums2' w B hB ⟨neg, a, n, c⟩ ⟨neg2, a2, n2, c2⟩ k zx zy T hx hy
theorem mx1 (x y : Int) : mostZ (pr x y) 1 = maxZ x y := rfl
theorem mn1 (x y : Int) : leastZ (pr x y) 1 = minZ x y := rfl
theorem h1p (w : World) (o1 : Obj) : (w.alloc o1).heap.size = w.heap.size + 1 := by simp
theorem h2p (w : World) (o1 o2 : Obj) : ((w.alloc o1).alloc o2).heap.size = w.heap.size + 1 + 1 := by simp
theorem spc_put5 {w : World} {B : Nat} (h : NoC w B) (s : Sp) : SpC (((((w.setCell ⟨B, 0, none⟩ (.bool s.ln)).setCell ⟨B, 1, none⟩ (.slice s.la s.lN s.lc)).setCell ⟨B, 2, none⟩ (.bool s.hn)).setCell ⟨B, 3, none⟩ (.slice s.ha s.hN s.hc)).setCell ⟨B, 4, none⟩ (.int .i64 s.bits)) B s := by
  obtain ⟨q0, q1, q2, q3, q4, q5⟩ := h
  constructor <;> simp [go_sem, q0, q1, q2, q3, q4]

end Go.Proofs.Ytgmnknmjainabaa

namespace Go.Proofs.Ytgmnknmjainabaa
set_option linter.unusedVariables false
set_option linter.unusedSimpArgs false
set_option linter.unnecessarySimpa false
open Go.RowKit
attribute [local go_sem ↓] Go.wp_at_zero Go.wp_at_succ


theorem flt_one {s : Sp} {d e : Nat → Int} {z : Int} (hz : Flt (fun _ => chkE s d e) (fun _ => s.bits) 1 z) : z = chkE s d e := flt1 hz

end Go.Proofs.Ytgmnknmjainabaa

namespace Go.Proofs.Ytgmnknmjainabaa
set_option linter.unusedVariables false
set_option linter.unusedSimpArgs false
set_option linter.unnecessarySimpa false
open Go.RowKit
attribute [local go_sem ↓] Go.wp_at_zero Go.wp_at_succ

/-- An errno ahead of an answer, one of its own, and what comes of a span that may be too wide. -/
def anE (E g L H : Int) : Int := if E ≠ 0 then E else if g ≠ 0 then g else fitE L H
def anV (E g L H x : Int) : Int := if E ≠ 0 then 0 else if g ≠ 0 then 0 else fitZ L H x
theorem an_bad {E g L H : Int} (h : E ≠ 0) : anE E g L H = E ∧ ∀ x, anV E g L H x = 0 := ⟨if_pos h, fun x => if_pos h⟩
theorem an_own {g L H : Int} (h : g ≠ 0) : anE 0 g L H = g ∧ ∀ x, anV 0 g L H x = 0 := ⟨by simp [anE, h], fun x => by simp [anV, h]⟩
theorem an_fit {L H : Int} : anE 0 0 L H = fitE L H ∧ ∀ x, anV 0 0 L H x = fitZ L H x := ⟨by simp [anE], fun x => by simp [anV]⟩
def dvG (lo' hi' : Int) : Int := if lo' ≤ 0 ∧ 0 ≤ hi' then 5 else 0
def rtG (lo : Int) : Int := if lo < 0 then 5 else 0
def meG (lo hi lo' hi' : Int) : Int := if minZ hi hi' < maxZ lo lo' then 5 else 0

set_option maxRecDepth 100000 in
set_option maxHeartbeats 2000000 in
theorem sdiv1_bad (w : World) (B0 B1 : Nat) (s t : Sp) (k : Nat) (lo' hi' : Int) (ht : SpAt w t k lo' hi') (hp : lo' ≤ 0 ∧ 0 ≤ hi') (g : SpC w B1 t) :
    Calls Try.prog 93 #[.pointer (some ⟨B1, 0, none⟩), .pointer (some ⟨B0, 0, none⟩)] w (PairAns w 0 k 0 0 5) := by
  have t1 : cmpInt lo' 0 ≤ 0 := by unfold cmpInt; split <;> (try split) <;> omega
  have t2 : 0 ≤ cmpInt hi' 0 := by unfold cmpInt; rw [if_neg (by omega)]; split <;> omega
  have t2' : cmpInt hi' 0 ≥ 0 := t2
  obtain ⟨W, hW⟩ : ∃ W, W = w.alloc (.cells #[.bool false, .slice none 0 0, .bool false, .slice none 0 0, .int .i64 0] 26) := ⟨_, rfl⟩
  have hBW : Below w.heap.size w W := by rw [hW]; exact bl1 _ _
  have R : NoC W w.heap.size := by rw [hW]; exact noc_new _ _
  have G := g.below hBW
  replace ht := ht.below hBW
  have lG := G.lt
  obtain ⟨y0, y1, y2, y3, y4⟩ := G
  clear g hp
  go_enter Try.func93, Try.ntmps93
  go_upto_region 1 with fail
  rw [← hW]
  clear hW
  go_wp2_with fail
  refine (sign_int _ _ _ _ k lo' _ ht.lo).mono ?_
  rintro r w1 ⟨rfl, hb1⟩
  have G := (SpC.mk y0 y1 y2 y3 y4).below hb1
  replace R := R.below hb1
  replace ht := ht.below hb1
  replace hBW := bthen hBW hb1
  clear y0 y1 y2 y3 y4 lG hb1
  have lG := G.lt
  obtain ⟨y0, y1, y2, y3, y4⟩ := G
  go_wp2_with fail
  refine (sign_int _ _ _ _ k hi' _ ht.hi).mono ?_
  rintro r w2 ⟨rfl, hb2⟩
  replace R := R.below hb2
  replace hBW := bthen hBW hb2
  have lR := R.lt
  obtain ⟨q0, q1, q2, q3, q4, q5⟩ := R
  go_wp2_with fail
  refine bodyPost_ret (v := .tuple #[.agg #[.bool false, .slice none 0 0, .bool false, .slice none 0 0, .int .i64 0], .int .i64 5]) (by simp [results, Try.results93, go_sem, lR, q0, q1, q2, q3, q4]) rfl ⟨⟨false, none, 0, 0, false, none, 0, 0, 0⟩, rfl, rfl, zeroSp _ _, ?_⟩
  exact set5 hBW (Nat.le_refl _) _ _ _ _ _

set_option maxRecDepth 100000 in
set_option maxHeartbeats 2000000 in
theorem sroot1_bad (w : World) (B0 : Nat) (s : Sp) (k : Nat) (lo hi : Int) (hs : SpAt w s k lo hi) (hp : lo < 0) (a : SpC w B0 s) :
    Calls Try.prog 95 #[.pointer (some ⟨B0, 0, none⟩)] w (PairAns w 0 k 0 0 5) := by
  have t1 : cmpInt lo 0 < 0 := by unfold cmpInt; rw [if_pos hp]; omega
  obtain ⟨W, hW⟩ : ∃ W, W = w.alloc (.cells #[.bool false, .slice none 0 0, .bool false, .slice none 0 0, .int .i64 0] 26) := ⟨_, rfl⟩
  have hBW : Below w.heap.size w W := by rw [hW]; exact bl1 _ _
  have R : NoC W w.heap.size := by rw [hW]; exact noc_new _ _
  have A := a.below hBW
  replace hs := hs.below hBW
  have lA := A.lt
  obtain ⟨y0, y1, y2, y3, y4⟩ := A
  clear a hp
  go_enter Try.func95, Try.ntmps95
  go_upto_region 1 with fail
  rw [← hW]
  clear hW
  go_wp2_with fail
  refine (sign_int _ _ _ _ k lo _ hs.lo).mono ?_
  rintro r w1 ⟨rfl, hb1⟩
  replace R := R.below hb1
  replace hBW := bthen hBW hb1
  have lR := R.lt
  obtain ⟨q0, q1, q2, q3, q4, q5⟩ := R
  go_wp2_with fail
  refine bodyPost_ret (v := .tuple #[.agg #[.bool false, .slice none 0 0, .bool false, .slice none 0 0, .int .i64 0], .int .i64 5]) (by simp [results, Try.results95, go_sem, lR, q0, q1, q2, q3, q4]) rfl ⟨⟨false, none, 0, 0, false, none, 0, 0, 0⟩, rfl, rfl, zeroSp _ _, ?_⟩
  exact set5 hBW (Nat.le_refl _) _ _ _ _ _

end Go.Proofs.Ytgmnknmjainabaa

namespace Go.Proofs.Ytgmnknmjainabaa
set_option linter.unusedVariables false
set_option linter.unusedSimpArgs false
set_option linter.unnecessarySimpa false
open Go.RowKit
attribute [local go_sem ↓] Go.wp_at_zero Go.wp_at_succ

set_option maxRecDepth 100000 in
set_option maxHeartbeats 2000000 in
theorem to1_bad (w : World) (B0 B1 : Nat) (bt : Int) (k : Nat) (h : ¬ (8 ≤ bt ∧ bt ≤ 120)) (g : w.cell? ⟨B1, 0, none⟩ = some (.int .i64 bt)) (l : B1 < w.heap.size) :
    Calls Try.prog 73 #[.pointer (some ⟨B1, 0, none⟩), .pointer (some ⟨B0, 0, none⟩)] w (PairAns w 0 k 0 0 3) := by
  have hE : bitE bt = 3 := by unfold bitE; rw [if_neg h]
  go_enter Try.func73, Try.ntmps73
  go_wp2_with fail
  refine (ratioFault_none _ _).mono ?_
  rintro r w1 ⟨rfl, hb1⟩
  rw [hE]
  obtain ⟨q0, q1, q2, q3, q4, q5⟩ := (noc_new w 26).below hb1
  go_wp2_with fail
  refine bodyPost_ret (v := .tuple #[.agg #[.bool false, .slice none 0 0, .bool false, .slice none 0 0, .int .i64 0], .int .i64 3]) (by simp [results, Try.results73, go_sem, q0, q1, q2, q3, q4]) rfl ⟨⟨false, none, 0, 0, false, none, 0, 0, 0⟩, rfl, rfl, zeroSp _ _, ?_⟩
  exact set5 (bthen (bl1 _ _) hb1) (Nat.le_refl _) _ _ _ _ _

end Go.Proofs.Ytgmnknmjainabaa
