/-
  Texts WOf, Sca, Tim, Exs, SumE, Expw, Lawc, Pw1, Rfa, NearK, Rai: what they hold is told in the last text.
-/
import Derived.Test.YtgmnknmjainababK11
set_option linter.unnecessarySimpa false
set_option linter.unusedSimpArgs false
set_option linter.unusedVariables false
namespace Go.Proofs.Ytgmnknmjainabab
open Go.RowKit
attribute [local go_sem ↓] Go.wp_at_zero Go.wp_at_succ
set_option maxRecDepth 100000 in
set_option maxHeartbeats 2000000 in
theorem wideOf_any (neg neg2 : Bool) (a c : Option Addr) (n m cap cap2 k k2 b : Nat) (x y : Int) (w : World) (h1 : IntAt w neg a n cap k x) (h2 : IntAt w neg2 c m cap2 k2 y) (hk : k ≤ 700000000) (hb : b ≤ 1000000) (hy : 0 < y) :
    Calls Try.prog 66 #[.agg #[.bool neg, .slice a n cap], .agg #[.bool neg2, .slice c m cap2], .int .i64 b] w (SpanAns w b (k + b / 16 + 20) (x * Q b / y) (-(-(x * Q b) / y))) := by
  go_enter Try.func66, Try.ntmps66
  go_wp2_with (go_at_call 113; refine (up_int _ _ _ _ b k x _ (h1.below (bl3 _ _ _ _)) (by omega) (by omega)).mono ?_; rintro r w1 ⟨neg1, a1, n1, c1, rfl, hint1, hb1⟩; obtain ⟨hsz1, hcell1, hfz1⟩ := near (w.heap.size + 1 + 1 + 1) (by simp) hb1; have hz1 := Nat.lt_of_lt_of_le (Nat.lt_succ_self (w.heap.size + 1 + 1)) hsz1; have hz0 := Nat.lt_of_succ_lt hz1)
  have hint1 := hint1.mono (show b / 16 + k + 1 ≤ k + b / 16 + 10 by omega)
  have hBw : Below w.heap.size w w1 := bthen (bl3 _ _ _ _) hb1
  have k0 : w1.cell? ⟨w.heap.size + 1, 0, none⟩ = some (.bool neg2) := by simp [hcell1, go_sem]
  have k1 : w1.cell? ⟨w.heap.size + 1, 1, none⟩ = some (.slice c m cap2) := by simp [hcell1, go_sem]
  have r0 : w1.cell? ⟨w.heap.size + 1 + 1, 0, none⟩ = some (.bool false) := by simp [hcell1, go_sem]
  have r1 : w1.cell? ⟨w.heap.size + 1 + 1, 1, none⟩ = some (.slice none 0 0) := by simp [hcell1, go_sem]
  have r2 : w1.cell? ⟨w.heap.size + 1 + 1, 2, none⟩ = some (.bool false) := by simp [hcell1, go_sem]
  have r3 : w1.cell? ⟨w.heap.size + 1 + 1, 3, none⟩ = some (.slice none 0 0) := by simp [hcell1, go_sem]
  have r4 : w1.cell? ⟨w.heap.size + 1 + 1, 4, none⟩ = some (.int .i64 0) := by simp [hcell1, go_sem]
  have r5 : ∀ o, w1.frozen? ⟨w.heap.size + 1 + 1, o, none⟩ = false := by intro o; simp [hfz1, go_sem]
  have H2 := hide (h2.below hBw)
  clear hcell1 hfz1
  obtain ⟨W, hW⟩ : ∃ W, W = w1.alloc (.cells #[.bool neg1, .slice a1 n1 c1] 26) := ⟨_, rfl⟩
  have hBW : Below w1.heap.size w1 W := by rw [hW]; exact bl1 _ _
  have u0 : W.cell? ⟨w1.heap.size, 0, none⟩ = some (.bool neg1) := by rw [hW]; simp
  have u1 : W.cell? ⟨w1.heap.size, 1, none⟩ = some (.slice a1 n1 c1) := by rw [hW]; simp
  have hlW : w1.heap.size < W.heap.size := by rw [hW]; simp
  have HI := hide (hint1.below hBW)
  have HI2 := hide ((unhide H2).below hBW)
  have hl1 : w.heap.size + 1 < W.heap.size := Nat.lt_trans hz0 hlW
  have hl2 : w.heap.size + 1 + 1 < W.heap.size := Nat.lt_trans hz1 hlW
  have HK := hide (show ∀ w', Below W.heap.size W w' → (w'.cell? ⟨w1.heap.size, 0, none⟩ = some (.bool neg1) ∧ w'.cell? ⟨w1.heap.size, 1, none⟩ = some (.slice a1 n1 c1) ∧ w'.cell? ⟨w.heap.size + 1, 0, none⟩ = some (.bool neg2) ∧ w'.cell? ⟨w.heap.size + 1, 1, none⟩ = some (.slice c m cap2)) from fun w' hB =>
    ⟨(hB.cell (p := ⟨w1.heap.size, 0, none⟩) hlW).trans u0, (hB.cell (p := ⟨w1.heap.size, 1, none⟩) hlW).trans u1, (hB.cell (p := ⟨w.heap.size + 1, 0, none⟩) hl1).trans ((hBW.cell (p := ⟨w.heap.size + 1, 0, none⟩) hz0).trans k0), (hB.cell (p := ⟨w.heap.size + 1, 1, none⟩) hl1).trans ((hBW.cell (p := ⟨w.heap.size + 1, 1, none⟩) hz0).trans k1)⟩)
  have HR := hide (show ∀ w', Below W.heap.size W w' → (w'.cell? ⟨w.heap.size + 1 + 1, 0, none⟩ = some (.bool false) ∧ w'.cell? ⟨w.heap.size + 1 + 1, 1, none⟩ = some (.slice none 0 0) ∧ w'.cell? ⟨w.heap.size + 1 + 1, 2, none⟩ = some (.bool false) ∧ w'.cell? ⟨w.heap.size + 1 + 1, 3, none⟩ = some (.slice none 0 0) ∧ w'.cell? ⟨w.heap.size + 1 + 1, 4, none⟩ = some (.int .i64 0) ∧ ∀ o, w'.frozen? ⟨w.heap.size + 1 + 1, o, none⟩ = false) from fun w' hB =>
    ⟨(hB.cell (p := ⟨w.heap.size + 1 + 1, 0, none⟩) hl2).trans ((hBW.cell (p := ⟨w.heap.size + 1 + 1, 0, none⟩) hz1).trans r0), (hB.cell (p := ⟨w.heap.size + 1 + 1, 1, none⟩) hl2).trans ((hBW.cell (p := ⟨w.heap.size + 1 + 1, 1, none⟩) hz1).trans r1), (hB.cell (p := ⟨w.heap.size + 1 + 1, 2, none⟩) hl2).trans ((hBW.cell (p := ⟨w.heap.size + 1 + 1, 2, none⟩) hz1).trans r2), (hB.cell (p := ⟨w.heap.size + 1 + 1, 3, none⟩) hl2).trans ((hBW.cell (p := ⟨w.heap.size + 1 + 1, 3, none⟩) hz1).trans r3), (hB.cell (p := ⟨w.heap.size + 1 + 1, 4, none⟩) hl2).trans ((hBW.cell (p := ⟨w.heap.size + 1 + 1, 4, none⟩) hz1).trans r4), fun o => (hB.frozen (p := ⟨w.heap.size + 1 + 1, o, none⟩) hl2).trans ((hBW.frozen (p := ⟨w.heap.size + 1 + 1, o, none⟩) hz1).trans (r5 o))⟩)
  have hBW2 : Below w.heap.size w W := bthen hBw hBW
  have ne1 : w.heap.size + 1 + 1 ≠ w1.heap.size := by omega
  have ne2 : w1.heap.size ≠ w.heap.size + 1 + 1 := by omega
  rw [← hW]
  clear hW k0 k1 r0 r1 r2 r3 r4 r5 u0 u1 H2 hint1 hb1 hBw hBW
  go_region_held3 (fun w' => w'.cell? ⟨w1.heap.size, 0, none⟩ = some (.bool neg1) ∧ w'.cell? ⟨w1.heap.size, 1, none⟩ = some (.slice a1 n1 c1) ∧ w'.cell? ⟨w.heap.size + 1, 0, none⟩ = some (.bool neg2) ∧ w'.cell? ⟨w.heap.size + 1, 1, none⟩ = some (.slice c m cap2)) (first | exact unhide HK _ (by first | exact (Below.refl _ _).drew | exact hB2 | exact hB3) | go_keep)
    (first
      | (go_at_call 105; refine (floor_any _ _ _ _ _ _ _ _ (k + b / 16 + 10) k2 (x * Q b) y _ ((unhide HI).below (Below.refl _ _).drew) ((unhide HI2).below (Below.refl _ _).drew) (by omega) hy).mono ?_; rintro r w2 ⟨neg4, a4, n4, c4, rfl, hint4, hb4⟩; have hB2 : Below W.heap.size W w2 := bthen (Below.refl _ _).drew hb4)
      | (go_at_call 114; refine (ceil_any _ _ _ _ _ _ _ _ (k + b / 16 + 10) k2 (x * Q b) y _ ((unhide HI).below hB2) ((unhide HI2).below hB2) (by omega) hy).mono ?_; rintro r w3 ⟨neg5, a5, n5, c5, rfl, hint5, hb5⟩; have hB3 := bthen hB2 hb5; obtain ⟨q0, q1, q2, q3, q4, q5⟩ := unhide HR w3 hB3; obtain ⟨q6, q7, q8, q9⟩ := unhide HK w3 hB3))
  go_wp2
  refine bodyPost_ret (v := .agg #[.bool neg4, .slice a4 n4 c4, .bool neg5, .slice a5 n5 c5, .int .i64 b]) (by simp [results, Try.results66, go_sem, q0, q1, q2, q3, q4]) rfl ⟨⟨neg4, a4, n4, c4, neg5, a5, n5, c5, b⟩, rfl, rfl, ?_, ?_⟩
  · exact SpAt.put5 ⟨(hint4.below hb5).mono (by omega), hint5.mono (by omega)⟩ q0 q1 q2 q3 q4 _ _ _ _ _
  · exact set5 (hBW2.trans (hB3.mono hBW2.size)) (by omega) _ _ _ _ _
end Go.Proofs.Ytgmnknmjainabab
namespace Go.Proofs.Ytgmnknmjainabab
open Go.RowKit
attribute [local go_sem ↓] Go.wp_at_zero Go.wp_at_succ
set_option maxRecDepth 100000 in
set_option maxHeartbeats 4000000 in
theorem scale_int (w : World) (s : Sp) (neg neg2 : Bool) (a c : Option Addr) (n m cap cap2 k k1 k2 : Nat) (lo hi x y : Int) (hs : SpAt w s k lo hi) (h1 : IntAt w neg a n cap k1 x) (h2 : IntAt w neg2 c m cap2 k2 y) (hk : k ≤ 300000000) (hk1 : k1 ≤ 300000000) (hy : 0 < y) :
    Calls Try.prog 99 #[.agg #[.bool s.ln, .slice s.la s.lN s.lc, .bool s.hn, .slice s.ha s.hN s.hc, .int .i64 s.bits], .agg #[.bool neg, .slice a n cap], .agg #[.bool neg2, .slice c m cap2]] w (SpanAns w s.bits (k + k1 + 10) (lo * x / y) (-(-(hi * x) / y))) := by
  obtain ⟨W, hW⟩ : ∃ W, W = (((w.alloc (.cells #[.bool s.ln, .slice s.la s.lN s.lc, .bool s.hn, .slice s.ha s.hN s.hc, .int .i64 s.bits] 28)).alloc (.cells #[.bool neg, .slice a n cap] 26)).alloc (.cells #[.bool neg2, .slice c m cap2] 26)).alloc (.cells #[.bool false, .slice none 0 0, .bool false, .slice none 0 0, .int .i64 0] 28) := ⟨_, rfl⟩
  have hBW : Below w.heap.size w W := by rw [hW]; exact bl4 _ _ _ _ _
  have A : SpC W w.heap.size s := by rw [hW]; exact ⟨by simp [go_sem], by simp [go_sem], by simp [go_sem], by simp [go_sem], by simp [go_sem]⟩
  have X : NmC W (w.heap.size + 1) ⟨neg, a, n, cap⟩ := by rw [hW]; exact ⟨by simp [go_sem], by simp [go_sem]⟩
  have Y : NmC W (w.heap.size + 1 + 1) ⟨neg2, c, m, cap2⟩ := by rw [hW]; exact ⟨by simp [go_sem], by simp [go_sem]⟩
  have R : NoC W (w.heap.size + 1 + 1 + 1) := by rw [hW]; exact ⟨by simp [go_sem], by simp [go_sem], by simp [go_sem], by simp [go_sem], by simp [go_sem], fun o => by simp [go_sem]⟩
  have HS := hide (hs.below hBW)
  have HX := hide (h1.below hBW)
  have HY := hide (h2.below hBW)
  have lR := R.lt
  have HK := hide (show ∀ w', Below W.heap.size W w' → (w'.cell? ⟨w.heap.size, 0, none⟩ = some (.bool s.ln) ∧ w'.cell? ⟨w.heap.size, 1, none⟩ = some (.slice s.la s.lN s.lc) ∧ w'.cell? ⟨w.heap.size, 2, none⟩ = some (.bool s.hn) ∧ w'.cell? ⟨w.heap.size, 3, none⟩ = some (.slice s.ha s.hN s.hc) ∧ w'.cell? ⟨w.heap.size, 4, none⟩ = some (.int .i64 s.bits) ∧ w'.cell? ⟨w.heap.size + 1, 0, none⟩ = some (.bool neg) ∧ w'.cell? ⟨w.heap.size + 1, 1, none⟩ = some (.slice a n cap) ∧ w'.cell? ⟨w.heap.size + 1 + 1, 0, none⟩ = some (.bool neg2) ∧ w'.cell? ⟨w.heap.size + 1 + 1, 1, none⟩ = some (.slice c m cap2)) from fun w' hB => ⟨(A.below hB).c0, (A.below hB).c1, (A.below hB).c2, (A.below hB).c3, (A.below hB).c4, (X.below hB).c0, (X.below hB).c1, (Y.below hB).c0, (Y.below hB).c1⟩)
  clear A X Y hs h1 h2
  go_enter Try.func99, Try.ntmps99
  go_wp2
  rw [← hW]
  clear hW
  have n02 : w.heap.size ≠ w.heap.size + 1 + 1 := by omega
  have n20 : w.heap.size + 1 + 1 ≠ w.heap.size := by omega
  have n03 : w.heap.size ≠ w.heap.size + 1 + 1 + 1 := by omega
  have n30 : w.heap.size + 1 + 1 + 1 ≠ w.heap.size := by omega
  have n13 : w.heap.size + 1 ≠ w.heap.size + 1 + 1 + 1 := by omega
  have n31 : w.heap.size + 1 + 1 + 1 ≠ w.heap.size + 1 := by omega
  have n23 : w.heap.size + 1 + 1 ≠ w.heap.size + 1 + 1 + 1 := by omega
  have n32 : w.heap.size + 1 + 1 + 1 ≠ w.heap.size + 1 + 1 := by omega
  obtain ⟨x0, x1, x2, x3, x4, x5, x6, x7, x8⟩ := unhide HK _ (Below.refl _ _)
  have hD0 : Below W.heap.size W W.drew := (Below.refl _ _).drew
  go_region_held3 (fun w' => w'.cell? ⟨w.heap.size, 0, none⟩ = some (.bool s.ln) ∧ w'.cell? ⟨w.heap.size, 1, none⟩ = some (.slice s.la s.lN s.lc) ∧ w'.cell? ⟨w.heap.size, 2, none⟩ = some (.bool s.hn) ∧ w'.cell? ⟨w.heap.size, 3, none⟩ = some (.slice s.ha s.hN s.hc) ∧ w'.cell? ⟨w.heap.size, 4, none⟩ = some (.int .i64 s.bits) ∧ w'.cell? ⟨w.heap.size + 1, 0, none⟩ = some (.bool neg) ∧ w'.cell? ⟨w.heap.size + 1, 1, none⟩ = some (.slice a n cap) ∧ w'.cell? ⟨w.heap.size + 1 + 1, 0, none⟩ = some (.bool neg2) ∧ w'.cell? ⟨w.heap.size + 1 + 1, 1, none⟩ = some (.slice c m cap2)) (first | exact unhide HK _ (by first | with_reducible exact hD0 | with_reducible exact hD4 | with_reducible exact hD3 | with_reducible exact hD2 | with_reducible exact hD1) | go_keep)
    (first
      | (go_at_call 114; have hq := hD3; refine (ceil_any _ _ _ _ _ _ _ _ (k + k1) k2 (hi * x) y _ hint3 ((unhide HY).below hD3) (by omega) hy).mono ?_; rintro r' w4 ⟨neg4, a4, n4, c4, rfl, hint4, hb4⟩; have hD4 := bthen hD3 hb4; replace hint2 := (hint2.below hb3).below hb4; obtain ⟨q0, q1, q2, q3, q4, q5⟩ := R.below hD4; obtain ⟨y0, y1, y2, y3, y4, y5, y6, y7, y8⟩ := unhide HK _ hD4)
      | (go_at_call 84; have hq := hD2; refine (mul_int _ _ _ _ _ _ _ _ k k1 hi x _ ((unhide HS).hi.below hD2) ((unhide HX).below hD2) (by omega) (by omega)).mono ?_; rintro r' w3 ⟨neg3, a3, n3, c3, rfl, hint3, hb3⟩; have hD3 := bthen hD2 hb3)
      | (go_at_call 105; have hq := hD1; refine (floor_any _ _ _ _ _ _ _ _ (k + k1) k2 (lo * x) y _ hint1 ((unhide HY).below hD1) (by omega) hy).mono ?_; rintro r' w2 ⟨neg2', a2, n2, c2, rfl, hint2, hb2⟩; have hD2 := bthen hD1 hb2)
      | (go_at_call 84; refine (mul_int _ _ _ _ _ _ _ _ k k1 lo x _ ((unhide HS).lo.below hD0) ((unhide HX).below hD0) (by omega) (by omega)).mono ?_; rintro r' w1 ⟨neg1, a1, n1, c1, rfl, hint1, hb1⟩; have hD1 := bthen hD0 hb1))
  all_goals
    go_wp2_with fail
    refine bodyPost_ret (v := .agg #[.bool neg2', .slice a2 n2 c2, .bool neg4, .slice a4 n4 c4, .int .i64 s.bits]) (by simp [results, Try.results99, go_sem, q0, q1, q2, q3, q4]) rfl ⟨⟨neg2', a2, n2, c2, neg4, a4, n4, c4, s.bits⟩, rfl, rfl, ?_, ?_⟩
    · exact SpAt.put5 ⟨hint2.mono (by omega), hint4.mono (by omega)⟩ q0 q1 q2 q3 q4 _ _ _ _ _
    · exact set5 (bthen hBW hD4) (by omega) _ _ _ _ _
set_option maxRecDepth 100000 in
set_option maxHeartbeats 4000000 in
theorem over1_int (w : World) (s : Sp) (k : Nat) (d lo hi : Int) (hs : SpAt w s k lo hi) (hk : k ≤ 300000000) (hd : 0 < d) (hd2 : d ≤ 9223372036854775807) :
    Calls Try.prog 161 #[.agg #[.bool s.ln, .slice s.la s.lN s.lc, .bool s.hn, .slice s.ha s.hN s.hc, .int .i64 s.bits], .int .i64 d] w (SpanAns w s.bits (k + 14) (lo * 1 / d) (-(-(hi * 1) / d))) := by
  obtain ⟨W, hW⟩ : ∃ W, W = (w.alloc (.cells #[.bool s.ln, .slice s.la s.lN s.lc, .bool s.hn, .slice s.ha s.hN s.hc, .int .i64 s.bits] 28)).alloc (.cells #[.bool false, .slice none 0 0, .bool false, .slice none 0 0, .int .i64 0] 28) := ⟨_, rfl⟩
  have hBW : Below w.heap.size w W := by rw [hW]; exact bl2 _ _ _
  have A : SpC W w.heap.size s := by rw [hW]; exact ⟨by simp [go_sem], by simp [go_sem], by simp [go_sem], by simp [go_sem], by simp [go_sem]⟩
  have R : NoC W (w.heap.size + 1) := by rw [hW]; exact ⟨by simp [go_sem], by simp [go_sem], by simp [go_sem], by simp [go_sem], by simp [go_sem], fun o => by simp [go_sem]⟩
  have HS := hide (hs.below hBW)
  have lR := R.lt
  have HK := hide (show ∀ w', Below W.heap.size W w' → (w'.cell? ⟨w.heap.size, 0, none⟩ = some (.bool s.ln) ∧ w'.cell? ⟨w.heap.size, 1, none⟩ = some (.slice s.la s.lN s.lc) ∧ w'.cell? ⟨w.heap.size, 2, none⟩ = some (.bool s.hn) ∧ w'.cell? ⟨w.heap.size, 3, none⟩ = some (.slice s.ha s.hN s.hc) ∧ w'.cell? ⟨w.heap.size, 4, none⟩ = some (.int .i64 s.bits)) from fun w' hB => ⟨(A.below hB).c0, (A.below hB).c1, (A.below hB).c2, (A.below hB).c3, (A.below hB).c4⟩)
  clear A hs
  go_enter Try.func161, Try.ntmps161
  go_wp2
  rw [← hW]
  clear hW
  have n01 : w.heap.size ≠ w.heap.size + 1 := by omega
  have n10 : w.heap.size + 1 ≠ w.heap.size := by omega
  obtain ⟨x0, x1, x2, x3, x4⟩ := unhide HK _ (Below.refl _ _)
  have hD0 : Below W.heap.size W W.drew := (Below.refl _ _).drew
  go_region_held3 (fun w' => w'.cell? ⟨w.heap.size, 0, none⟩ = some (.bool s.ln) ∧ w'.cell? ⟨w.heap.size, 1, none⟩ = some (.slice s.la s.lN s.lc) ∧ w'.cell? ⟨w.heap.size, 2, none⟩ = some (.bool s.hn) ∧ w'.cell? ⟨w.heap.size, 3, none⟩ = some (.slice s.ha s.hN s.hc) ∧ w'.cell? ⟨w.heap.size, 4, none⟩ = some (.int .i64 s.bits)) (first | exact unhide HK _ (by first | with_reducible exact hD0 | with_reducible exact hD3 | with_reducible exact hD2 | with_reducible exact hD1) | go_keep)
    (first
      | (go_at_call 99; have hq := hD2; refine (scale_int _ s _ _ _ _ _ _ _ _ k 4 4 lo hi 1 d ((unhide HS).below hD2) (hint1.below hb2) hint2 (by omega) (by omega) hd).mono ?_; rintro r' w3 ⟨u, rfl, hub, hup, hb3⟩; have HU := hide hub; clear hub; have hD3 := bthen hD2 hb3; obtain ⟨q0, q1, q2, q3, q4, q5⟩ := R.below hD3; obtain ⟨y0, y1, y2, y3, y4⟩ := unhide HK _ hD3)
      | (go_at_call 48; have hq := hD1; refine (numOf_int d _ (by omega) hd2).mono ?_; rintro r' w2 ⟨neg2, a2, n2, c2, rfl, hint2, hb2⟩; have hD2 := bthen hD1 hb2)
      | (go_at_call 48; refine (numOf_int 1 _ (by decide) (by decide)).mono ?_; rintro r' w1 ⟨neg1, a1, n1, c1, rfl, hint1, hb1⟩; have hD1 := bthen hD0 hb1))
  all_goals
    go_wp2_with fail
    refine bodyPost_ret (v := .agg #[.bool u.ln, .slice u.la u.lN u.lc, .bool u.hn, .slice u.ha u.hN u.hc, .int .i64 u.bits]) (by simp [results, Try.results161, go_sem, q0, q1, q2, q3, q4]) rfl ⟨u, rfl, unhide HU, ?_, ?_⟩
    · exact SpAt.put5 (hup.mono (by omega)) q0 q1 q2 q3 q4 _ _ _ _ _
    · exact set5 (bthen hBW hD3) (Nat.le_succ _) _ _ _ _ _
set_option maxRecDepth 100000 in
set_option maxHeartbeats 2000000 in
theorem one_int (w : World) (b : Nat) (hb : b ≤ 1000000) : Calls Try.prog 80 #[.int .i64 b] w (SpanAns w b (b / 16 + 24) (1 * Q b / 1) (-(-(1 * Q b) / 1))) := by
  go_enter Try.func80, Try.ntmps80
  go_wp2_with fail
  refine (numOf_int 1 _ (by decide) (by decide)).mono ?_
  rintro r' w1 ⟨neg1, a1, n1, c1, rfl, hint1, hb1⟩
  have R := (noc_new w 28).below hb1
  have hB : Below w.heap.size w w1 := bthen (bl1 _ _) hb1
  clear hb1
  go_wp2_with fail
  refine (numOf_int 1 _ (by decide) (by decide)).mono ?_
  rintro r' w2 ⟨neg2, a2, n2, c2, rfl, hint2, hb2⟩
  replace R := R.below hb2
  replace hB := bthen hB hb2
  replace hint1 := hint1.below hb2
  clear hb2
  go_wp2_with fail
  refine (wideOf_any _ _ _ _ _ _ _ _ 4 4 b 1 1 _ hint1 hint2 (by omega) hb (by omega)).mono ?_
  rintro r' w3 ⟨u, rfl, hub, hup, hb3⟩
  obtain ⟨q0, q1, q2, q3, q4, q5⟩ := R.below hb3
  replace hB := bthen hB hb3
  have HU := hide hub
  clear hub hb3
  go_wp2_with fail
  refine bodyPost_ret (v := .agg #[.bool u.ln, .slice u.la u.lN u.lc, .bool u.hn, .slice u.ha u.hN u.hc, .int .i64 u.bits]) (by simp [results, Try.results80, go_sem, q0, q1, q2, q3, q4]) rfl ⟨u, rfl, unhide HU, ?_, ?_⟩
  · exact SpAt.put5 (hup.mono (by omega)) q0 q1 q2 q3 q4 _ _ _ _ _
  · exact set5 hB (Nat.le_refl _) _ _ _ _ _
end Go.Proofs.Ytgmnknmjainabab
namespace Go.Proofs.Ytgmnknmjainabab
open Go.RowKit
attribute [local go_sem ↓] Go.wp_at_zero Go.wp_at_succ
set_option maxRecDepth 100000 in
set_option maxHeartbeats 4000000 in
theorem times_int (w : World) (s : Sp) (k : Nat) (d lo hi : Int) (hs : SpAt w s k lo hi) (hk : k ≤ 300000000) (hd : -9223372036854775808 ≤ d) (hd2 : d ≤ 9223372036854775807) :
    Calls Try.prog 136 #[.agg #[.bool s.ln, .slice s.la s.lN s.lc, .bool s.hn, .slice s.ha s.hN s.hc, .int .i64 s.bits], .int .i64 d] w (SpanAns w s.bits (k + 4) (lo * d) (hi * d)) := by
  obtain ⟨W, hW⟩ : ∃ W, W = (w.alloc (.cells #[.bool s.ln, .slice s.la s.lN s.lc, .bool s.hn, .slice s.ha s.hN s.hc, .int .i64 s.bits] 28)).alloc (.cells #[.bool false, .slice none 0 0, .bool false, .slice none 0 0, .int .i64 0] 28) := ⟨_, rfl⟩
  have hBW : Below w.heap.size w W := by rw [hW]; exact bl2 _ _ _
  have A : SpC W w.heap.size s := by rw [hW]; exact ⟨by simp [go_sem], by simp [go_sem], by simp [go_sem], by simp [go_sem], by simp [go_sem]⟩
  have R : NoC W (w.heap.size + 1) := by rw [hW]; exact ⟨by simp [go_sem], by simp [go_sem], by simp [go_sem], by simp [go_sem], by simp [go_sem], fun o => by simp [go_sem]⟩
  have HS := hide (hs.below hBW)
  have lR := R.lt
  have HK := hide (show ∀ w', Below W.heap.size W w' → (w'.cell? ⟨w.heap.size, 0, none⟩ = some (.bool s.ln) ∧ w'.cell? ⟨w.heap.size, 1, none⟩ = some (.slice s.la s.lN s.lc) ∧ w'.cell? ⟨w.heap.size, 2, none⟩ = some (.bool s.hn) ∧ w'.cell? ⟨w.heap.size, 3, none⟩ = some (.slice s.ha s.hN s.hc) ∧ w'.cell? ⟨w.heap.size, 4, none⟩ = some (.int .i64 s.bits)) from fun w' hB => ⟨(A.below hB).c0, (A.below hB).c1, (A.below hB).c2, (A.below hB).c3, (A.below hB).c4⟩)
  clear A hs
  go_enter Try.func136, Try.ntmps136
  go_wp2
  rw [← hW]
  clear hW
  have n01 : w.heap.size ≠ w.heap.size + 1 := by omega
  have n10 : w.heap.size + 1 ≠ w.heap.size := by omega
  obtain ⟨x0, x1, x2, x3, x4⟩ := unhide HK _ (Below.refl _ _)
  have hD0 : Below W.heap.size W W.drew := (Below.refl _ _).drew
  go_region_held3 (fun w' => w'.cell? ⟨w.heap.size, 0, none⟩ = some (.bool s.ln) ∧ w'.cell? ⟨w.heap.size, 1, none⟩ = some (.slice s.la s.lN s.lc) ∧ w'.cell? ⟨w.heap.size, 2, none⟩ = some (.bool s.hn) ∧ w'.cell? ⟨w.heap.size, 3, none⟩ = some (.slice s.ha s.hN s.hc) ∧ w'.cell? ⟨w.heap.size, 4, none⟩ = some (.int .i64 s.bits)) (first | exact unhide HK _ (by first | with_reducible exact hD0 | with_reducible exact hD4 | with_reducible exact hD3 | with_reducible exact hD2 | with_reducible exact hD1) | go_keep)
    (first
      | (go_at_call 84; have hq := hD3; refine (mul_int _ _ _ _ _ _ _ _ k 4 hi d _ ((unhide HS).hi.below hD3) hint3 (by omega) (by omega)).mono ?_; rintro r' w4 ⟨neg4, a4, n4, c4, rfl, hint4, hb4⟩; have hD4 := bthen hD3 hb4; replace hint2 := (hint2.below hb3).below hb4; obtain ⟨q0, q1, q2, q3, q4, q5⟩ := R.below hD4; obtain ⟨y0, y1, y2, y3, y4⟩ := unhide HK _ hD4)
      | (go_at_call 48; have hq := hD2; refine (numOf_int d _ hd hd2).mono ?_; rintro r' w3 ⟨neg3, a3, n3, c3, rfl, hint3, hb3⟩; have hD3 := bthen hD2 hb3)
      | (go_at_call 84; have hq := hD1; refine (mul_int _ _ _ _ _ _ _ _ k 4 lo d _ ((unhide HS).lo.below hD1) hint1 (by omega) (by omega)).mono ?_; rintro r' w2 ⟨neg2, a2, n2, c2, rfl, hint2, hb2⟩; have hD2 := bthen hD1 hb2)
      | (go_at_call 48; refine (numOf_int d _ hd hd2).mono ?_; rintro r' w1 ⟨neg1, a1, n1, c1, rfl, hint1, hb1⟩; have hD1 := bthen hD0 hb1))
  all_goals
    go_wp2_with fail
    refine bodyPost_ret (v := .agg #[.bool neg2, .slice a2 n2 c2, .bool neg4, .slice a4 n4 c4, .int .i64 s.bits]) (by simp [results, Try.results136, go_sem, q0, q1, q2, q3, q4]) rfl ⟨⟨neg2, a2, n2, c2, neg4, a4, n4, c4, s.bits⟩, rfl, rfl, ?_, ?_⟩
    · exact SpAt.put5 ⟨hint2, hint4⟩ q0 q1 q2 q3 q4 _ _ _ _ _
    · exact set5 (bthen hBW hD4) (Nat.le_succ _) _ _ _ _ _
end Go.Proofs.Ytgmnknmjainabab
namespace Go.Proofs.Ytgmnknmjainabab
open Go.RowKit
attribute [local go_sem ↓] Go.wp_at_zero Go.wp_at_succ
theorem downZ_nat (x : Int) (b : Nat) : downZ x (b : Int) = x / Q b := by unfold downZ; rw [if_pos (by omega)]; simp
theorem mul_iv (w : World) (s t : Sp) (k b : Nat) (a c : Int × Int) (hs : SpAt w s k a.1 a.2) (ht : SpAt w t k c.1 c.2) (hk : k ≤ 300000000) (hb : s.bits = (b : Int)) (hbm : b ≤ 1000000) :
    Calls Try.prog 68 #[.agg #[.bool s.ln, .slice s.la s.lN s.lc, .bool s.hn, .slice s.ha s.hN s.hc, .int .i64 s.bits], .agg #[.bool t.ln, .slice t.la t.lN t.lc, .bool t.hn, .slice t.ha t.hN t.hc, .int .i64 t.bits]] w (SpanAns w b (k + k + 8) (mulI b a c).1 (mulI b a c).2) :=
  (wideMul_int w s t k a.1 a.2 c.1 c.2 hs ht hk (by omega) (by omega)).mono fun r w' h => by
    rw [hb, downZ_nat, downZ_nat] at h; exact h
theorem add_iv (w : World) (s t : Sp) (k b : Nat) (a c : Int × Int) (hs : SpAt w s k a.1 a.2) (ht : SpAt w t k c.1 c.2) (hk : k ≤ 700000000) (hb : s.bits = (b : Int)) :
    Calls Try.prog 56 #[.agg #[.bool s.ln, .slice s.la s.lN s.lc, .bool s.hn, .slice s.ha s.hN s.hc, .int .i64 s.bits], .agg #[.bool t.ln, .slice t.la t.lN t.lc, .bool t.hn, .slice t.ha t.hN t.hc, .int .i64 t.bits]] w (SpanAns w b (k + 1) (addI a c).1 (addI a c).2) :=
  (wideAdd_int w s t k a.1 a.2 c.1 c.2 hs ht hk).mono fun r w' h => by rw [hb] at h; exact h
theorem sub_iv (w : World) (s t : Sp) (k b : Nat) (a c : Int × Int) (hs : SpAt w s k a.1 a.2) (ht : SpAt w t k c.1 c.2) (hk : k ≤ 600000000) (hb : s.bits = (b : Int)) :
    Calls Try.prog 79 #[.agg #[.bool s.ln, .slice s.la s.lN s.lc, .bool s.hn, .slice s.ha s.hN s.hc, .int .i64 s.bits], .agg #[.bool t.ln, .slice t.la t.lN t.lc, .bool t.hn, .slice t.ha t.hN t.hc, .int .i64 t.bits]] w (SpanAns w b (k + 1) (subI a c).1 (subI a c).2) :=
  (wideSub_int w s t k a.1 a.2 c.1 c.2 hs ht hk).mono fun r w' h => by rw [hb] at h; exact h
theorem over_iv (w : World) (s : Sp) (k b : Nat) (d : Int) (a : Int × Int) (hs : SpAt w s k a.1 a.2) (hk : k ≤ 300000000) (hb : s.bits = (b : Int)) (hd : 0 < d) (hd2 : d ≤ 9223372036854775807) :
    Calls Try.prog 161 #[.agg #[.bool s.ln, .slice s.la s.lN s.lc, .bool s.hn, .slice s.ha s.hN s.hc, .int .i64 s.bits], .int .i64 d] w (SpanAns w b (k + 14) (scaleI a 1 d).1 (scaleI a 1 d).2) :=
  (over1_int w s k d a.1 a.2 hs hk hd hd2).mono fun r w' h => by rw [hb] at h; exact h
theorem times_iv (w : World) (s : Sp) (k b : Nat) (d : Int) (a : Int × Int) (hs : SpAt w s k a.1 a.2) (hk : k ≤ 300000000) (hb : s.bits = (b : Int)) (hd : -9223372036854775808 ≤ d) (hd2 : d ≤ 9223372036854775807) :
    Calls Try.prog 136 #[.agg #[.bool s.ln, .slice s.la s.lN s.lc, .bool s.hn, .slice s.ha s.hN s.hc, .int .i64 s.bits], .int .i64 d] w (SpanAns w b (k + 4) (timesI a d).1 (timesI a d).2) :=
  (times_int w s k d a.1 a.2 hs hk hd hd2).mono fun r w' h => by rw [hb] at h; exact h
set_option maxRecDepth 100000 in
set_option maxHeartbeats 2000000 in
theorem exp1_iv (w : World) (B0 : Nat) (s u : Sp) (k b : Nat) (n : Int) (a c : Int × Int) (hs : SpAt w s k a.1 a.2) (hu : SpAt w u k c.1 c.2) (hU : SpC w B0 u) (hk : k ≤ 100000000) (hb : s.bits = (b : Int)) (hbm : b ≤ 1000000) (hn : 0 < n) (hn2 : n ≤ 9223372036854775807) :
    Calls Try.prog 160 #[.agg #[.bool s.ln, .slice s.la s.lN s.lc, .bool s.hn, .slice s.ha s.hN s.hc, .int .i64 s.bits], .int .i64 n, .pointer (some ⟨B0, 0, none⟩)] w (SpanAns w b (k + k + 22) (scaleI (mulI b a c) 1 n).1 (scaleI (mulI b a c) 1 n).2) := by
  obtain ⟨W, hW⟩ : ∃ W, W = (w.alloc (.cells #[.bool s.ln, .slice s.la s.lN s.lc, .bool s.hn, .slice s.ha s.hN s.hc, .int .i64 s.bits] 28)).alloc (.cells #[.bool false, .slice none 0 0, .bool false, .slice none 0 0, .int .i64 0] 28) := ⟨_, rfl⟩
  have hBW : Below w.heap.size w W := by rw [hW]; exact bl2 _ _ _
  have A : SpC W w.heap.size s := by rw [hW]; exact ⟨by simp [go_sem], by simp [go_sem], by simp [go_sem], by simp [go_sem], by simp [go_sem]⟩
  have R : NoC W (w.heap.size + 1) := by rw [hW]; exact ⟨by simp [go_sem], by simp [go_sem], by simp [go_sem], by simp [go_sem], by simp [go_sem], fun o => by simp [go_sem]⟩
  have HS := hide (hs.below hBW)
  have HU := hide (hu.below hBW)
  have l0 := hU.lt
  obtain ⟨y0, y1, y2, y3, y4⟩ := hU
  have HB := hide hb
  clear hs hu hb A
  go_enter Try.func160, Try.ntmps160
  go_wp2_with fail
  rw [← hW]
  clear hW
  refine (mul_iv _ s u k b a c (unhide HS) (unhide HU) (by omega) (unhide HB) hbm).mono ?_
  rintro r' w1 ⟨v, rfl, hvb, hvp, hb1⟩
  have HV := hide hvb
  clear hvb y0 y1 y2 y3 y4
  replace R := R.below hb1
  replace hBW := bthen hBW hb1
  go_wp2_with fail
  refine (over_iv _ v _ b n _ hvp (by omega) (unhide HV) hn hn2).mono ?_
  rintro r' w2 ⟨t, rfl, htb, htp, hb2⟩
  obtain ⟨q0, q1, q2, q3, q4, q5⟩ := R.below hb2
  replace hBW := bthen hBW hb2
  have HT := hide htb
  clear htb
  go_wp2_with fail
  refine bodyPost_ret (v := .agg #[.bool t.ln, .slice t.la t.lN t.lc, .bool t.hn, .slice t.ha t.hN t.hc, .int .i64 t.bits]) (by simp [results, Try.results160, go_sem, q0, q1, q2, q3, q4]) rfl ⟨t, rfl, unhide HT, ?_, ?_⟩
  · exact SpAt.put5 (htp.mono (by omega)) q0 q1 q2 q3 q4 _ _ _ _ _
  · exact set5 hBW (Nat.le_succ _) _ _ _ _ _
end Go.Proofs.Ytgmnknmjainabab
namespace Go.Proofs.Ytgmnknmjainabab
open Go.RowKit
attribute [local go_sem ↓] Go.wp_at_zero Go.wp_at_succ
structure VrC (w : World) (B : Nat) (s : Sp) : Prop where
  c : SpC w B s
  fz : ∀ o, w.frozen? ⟨B, o, none⟩ = false
theorem VrC.lt {w : World} {B : Nat} {s : Sp} (h : VrC w B s) : B < w.heap.size := h.c.lt
theorem VrC.below {w w' : World} {B : Nat} {s : Sp} (h : VrC w B s) (hb : Below w.heap.size w w') : VrC w' B s :=
  ⟨h.c.below hb, fun o => (hb.frozen (p := ⟨B, o, none⟩) h.lt).trans (h.fz o)⟩
abbrev put5w (w : World) (B : Nat) (u : Sp) : World := ((((w.setCell ⟨B, 0, none⟩ (.bool u.ln)).setCell ⟨B, 1, none⟩ (.slice u.la u.lN u.lc)).setCell ⟨B, 2, none⟩ (.bool u.hn)).setCell ⟨B, 3, none⟩ (.slice u.ha u.hN u.hc)).setCell ⟨B, 4, none⟩ (.int .i64 u.bits)
theorem fz_put5 {w : World} {B B' : Nat} (h : ∀ o, w.frozen? ⟨B, o, none⟩ = false) (u : Sp) : ∀ o, (put5w w B' u).frozen? ⟨B, o, none⟩ = false := fun o => by
  show (put5w w B' u).frozen? ⟨B, o, none⟩ = false
  unfold put5w
  rw [frozen_set', frozen_set', frozen_set', frozen_set', frozen_set']; exact h o
theorem VrC.put {w : World} {B : Nat} {s : Sp} (h : VrC w B s) (u : Sp) : VrC (put5w w B u) B u := by
  refine ⟨?_, fz_put5 h.fz u⟩
  obtain ⟨⟨q0, q1, q2, q3, q4⟩, q5⟩ := h
  constructor <;> simp [go_sem, q0, q1, q2, q3, q4]
theorem SpC.off {w : World} {B B' : Nat} {s : Sp} (h : SpC w B s) (hne : B ≠ B') (u : Sp) : SpC (put5w w B' u) B s := h.put hne _ _ _ _ _
theorem VrC.off {w : World} {B B' : Nat} {s : Sp} (h : VrC w B s) (hne : B ≠ B') (u : Sp) : VrC (put5w w B' u) B s := ⟨h.c.off hne u, fz_put5 h.fz u⟩
theorem NoC.off {w : World} {B B' : Nat} (h : NoC w B) (hne : B ≠ B') (u : Sp) : NoC (put5w w B' u) B := by
  obtain ⟨q0, q1, q2, q3, q4, q5⟩ := h
  exact ⟨cell_put5 q0 hne _ _ _ _ _, cell_put5 q1 hne _ _ _ _ _, cell_put5 q2 hne _ _ _ _ _, cell_put5 q3 hne _ _ _ _ _, cell_put5 q4 hne _ _ _ _ _, fz_put5 q5 u⟩
theorem SpAt.put {w : World} {s : Sp} {k : Nat} {lo hi : Int} (h : SpAt w s k lo hi) {B : Nat} {z : Sp} (hB : SpC w B z) (u : Sp) : SpAt (put5w w B u) s k lo hi := SpAt.put5 h hB.c0 hB.c1 hB.c2 hB.c3 hB.c4 _ _ _ _ _
theorem IntAt.put {w : World} {neg : Bool} {a : Option Addr} {n cap k : Nat} {z : Int} (h : IntAt w neg a n cap k z) {B : Nat} {y : Sp} (hB : SpC w B y) (u : Sp) : IntAt (put5w w B u) neg a n cap k z := IntAt.put5 h hB.c0 hB.c1 hB.c2 hB.c3 hB.c4 _ _ _ _ _
theorem below_put {B B' : Nat} {a w : World} (h : Below B a w) (hB : B ≤ B') (u : Sp) : Below B a (put5w w B' u) := set5 h hB _ _ _ _ _
def TwoS (W wx : World) (s t : Sp) (p q : Value) : Prop :=
  ∃ B B', p = .pointer (some ⟨B, 0, none⟩) ∧ q = .pointer (some ⟨B', 0, none⟩) ∧ W.heap.size ≤ B ∧ W.heap.size ≤ B' ∧ B ≠ B' ∧ VrC wx B s ∧ VrC wx B' t ∧ Below W.heap.size W wx
theorem twoS_a (V : World) (s t : Sp) (T : TypeId) : TwoS V ((V.alloc (.cells #[.bool s.ln, .slice s.la s.lN s.lc, .bool s.hn, .slice s.ha s.hN s.hc, .int .i64 s.bits] T)).alloc (.cells #[.bool t.ln, .slice t.la t.lN t.lc, .bool t.hn, .slice t.ha t.hN t.hc, .int .i64 t.bits] T)).drew s t (.pointer (some ⟨V.heap.size, 0, none⟩)) (.pointer (some ⟨V.heap.size + 1, 0, none⟩)) := by
  refine ⟨_, _, rfl, rfl, Nat.le_refl _, Nat.le_succ _, Nat.ne_of_lt (Nat.lt_succ_self _), VrC.below (w := (V.alloc (.cells #[.bool s.ln, .slice s.la s.lN s.lc, .bool s.hn, .slice s.ha s.hN s.hc, .int .i64 s.bits] T)).alloc (.cells #[.bool t.ln, .slice t.la t.lN t.lc, .bool t.hn, .slice t.ha t.hN t.hc, .int .i64 t.bits] T)) ⟨⟨by simp [go_sem], by simp [go_sem], by simp [go_sem], by simp [go_sem], by simp [go_sem]⟩, fun o => by simp [go_sem]⟩ (Below.refl _ _).drew, VrC.below (w := (V.alloc (.cells #[.bool s.ln, .slice s.la s.lN s.lc, .bool s.hn, .slice s.ha s.hN s.hc, .int .i64 s.bits] T)).alloc (.cells #[.bool t.ln, .slice t.la t.lN t.lc, .bool t.hn, .slice t.ha t.hN t.hc, .int .i64 t.bits] T)) ⟨⟨by simp [go_sem], by simp [go_sem], by simp [go_sem], by simp [go_sem], by simp [go_sem]⟩, fun o => by simp [go_sem]⟩ (Below.refl _ _).drew, (bl2 _ _ _).drew⟩
theorem twoS_b (V : World) (s t : Sp) (T : TypeId) : TwoS V ((V.alloc (.cells #[.bool t.ln, .slice t.la t.lN t.lc, .bool t.hn, .slice t.ha t.hN t.hc, .int .i64 t.bits] T)).alloc (.cells #[.bool s.ln, .slice s.la s.lN s.lc, .bool s.hn, .slice s.ha s.hN s.hc, .int .i64 s.bits] T)).drew s t (.pointer (some ⟨V.heap.size + 1, 0, none⟩)) (.pointer (some ⟨V.heap.size, 0, none⟩)) := by
  obtain ⟨B, B', h1, h2, h3, h4, h5, h6, h7, h8⟩ := twoS_a V t s T
  exact ⟨B', B, h2, h1, h4, h3, fun e => h5 e.symm, h7, h6, h8⟩
structure SumSt (W wr : World) (B5 B6 b K : Nat) (s X Y : Sp) (f : Nat → Int × Int) (i : Nat) : Prop where
  x : VrC wr B5 X
  y : VrC wr B6 Y
  xp : SpAt wr X K (sumI f i).1 (sumI f i).2
  yp : SpAt wr Y K (f i).1 (f i).2
  xb : X.bits = (b : Int)
  yb : Y.bits = (b : Int)
  fs : SpC wr W.heap.size s
  no : NoC wr (W.heap.size + 1)
  be : Below W.heap.size W wr
  l5 : W.heap.size + 1 < B5
  l6 : W.heap.size + 1 < B6
  ne : B5 ≠ B6
theorem SumSt.below {W wr wr' : World} {B5 B6 b K : Nat} {s X Y : Sp} {f : Nat → Int × Int} {i : Nat} (h : SumSt W wr B5 B6 b K s X Y f i) (hb : Below wr.heap.size wr wr') : SumSt W wr' B5 B6 b K s X Y f i :=
  ⟨h.x.below hb, h.y.below hb, h.xp.below hb, h.yp.below hb, h.xb, h.yb, h.fs.below hb, h.no.below hb, bthen h.be hb, h.l5, h.l6, h.ne⟩
set_option maxRecDepth 100000 in
set_option maxHeartbeats 4000000 in
theorem sum_exp (p1 : Value) (f : Nat → Int × Int) (N b K KF : Nat) (s : Sp) (W : World) (hs : SpAt W s K (f 0).1 (f 0).2) (hbits : s.bits = (b : Int)) (hb : b ≤ 1000000) (hK : K ≤ 100000000) (hKF : KF ≤ 900000000) (hN : IsStop f N) (hNb : N ≤ 1000000000)
    (hle : ∀ n, (f n).1 ≤ (f n).2) (hfit : ∀ n, n ≤ N → -P K < (f n).1 ∧ (f n).2 < P K) (hfitS : ∀ n, n ≤ N → -P K < (sumI f n).1 ∧ (sumI f n).2 < P K)
    (hF : ∀ (n : Nat) (u : Sp) w', n < N → u.bits = (b : Int) → SpAt w' u K (f n).1 (f n).2 → Below W.heap.size W w' → Calls Try.prog 160 #[.agg #[.bool u.ln, .slice u.la u.lN u.lc, .bool u.hn, .slice u.ha u.hN u.hc, .int .i64 u.bits], .int .i64 ((n : Int) + 1), p1] w' (SpanAns w' b KF (f (n + 1)).1 (f (n + 1)).2)) :
    Calls Try.prog 159 #[.agg #[.bool s.ln, .slice s.la s.lN s.lc, .bool s.hn, .slice s.ha s.hN s.hc, .int .i64 s.bits], .func (.func 160) #[] #[p1]] W (SpanAns W b (K + 3) (doneI f N).1 (doneI f N).2) := by
  have HF := hide hF
  have HN := hide hN
  have HBT := hide hbits
  clear hF hN hbits
  obtain ⟨V, hV⟩ : ∃ V, V = (W.alloc (.cells #[.bool s.ln, .slice s.la s.lN s.lc, .bool s.hn, .slice s.ha s.hN s.hc, .int .i64 s.bits] 28)).alloc (.cells #[.bool false, .slice none 0 0, .bool false, .slice none 0 0, .int .i64 0] 28) := ⟨_, rfl⟩
  have hBV : Below W.heap.size W V := by rw [hV]; exact bl2 _ _ _
  have A : SpC V W.heap.size s := by rw [hV]; exact ⟨by simp [go_sem], by simp [go_sem], by simp [go_sem], by simp [go_sem], by simp [go_sem]⟩
  have R : NoC V (W.heap.size + 1) := by rw [hV]; exact ⟨by simp [go_sem], by simp [go_sem], by simp [go_sem], by simp [go_sem], by simp [go_sem], fun o => by simp [go_sem]⟩
  have HS := hide (hs.below hBV)
  have lA := A.lt
  have lR := R.lt
  clear hs
  go_enter Try.func159, Try.ntmps159
  go_wp2
  rw [← hV]
  clear hV
  go_cut [5, 6] (fun p q wx => TwoS V wx s s p q)
  case first =>
    obtain ⟨x0, x1, x2, x3, x4⟩ := A
    go_region
    all_goals
      go_wp2_with fail
      go_meet
      first
        | with_reducible exact twoS_a _ _ _ _
        | with_reducible exact twoS_b _ _ _ _
  case rest =>
  obtain ⟨B5, B6, rfl, rfl, l5, l6, hne, X, Y, hB⟩ := hcut
  have n5 : W.heap.size + 1 < B5 := by omega
  have n6 : W.heap.size + 1 < B6 := by omega
  have st0 : SumSt W wc B5 B6 b K s s s f 0 := ⟨X, Y, (unhide HS).below hB, (unhide HS).below hB, unhide HBT, unhide HBT, A.below hB, R.below hB, bthen hBV hB, n5, n6, hne⟩
  clear X Y hB A R HS l5 l6 n5 n6 hne hBV lA lR
  go_wp2_with fail
  go_loopw [7] (fun nn wr => ∃ (i : Nat) (X Y : Sp), nn = .int .i64 ((i : Int) + 1) ∧ i ≤ N ∧ SumSt W wr B5 B6 b K s X Y f i) (fun nn _ => N + 1 - (intOf nn).toNat)
  case atStart => exact ⟨0, s, s, rfl, Nat.zero_le _, st0⟩
  case round =>
    obtain ⟨i, X, Y, rfl, hi, st⟩ := hrel
    have hr0 := reach_pair (hle i)
    obtain ⟨⟨y0, y1, y2, y3, y4⟩, y5⟩ := st.y
    go_wp2_with fail
    refine (reach_int _ Y K _ _ st.yp (by omega)).mono ?_
    rintro r w1 ⟨neg1, a1, n1, c1, rfl, hint1, hb1⟩
    replace st := st.below hb1
    clear hb1 y0 y1 y2 y3 y4 y5
    go_wp2_with fail
    refine (len_int _ _ _ _ _ (reachI (f i)) _ hint1 hr0).mono ?_
    rintro r w2 ⟨l, hlen, rfl, hb2⟩
    replace st := st.below hb2
    clear hb2 hint1
    by_cases hin : i < N
    · have hl : 1 < l := by
        refine Int.not_le.1 fun hl => ?_
        have := len_one hlen hl hr0
        have := (unhide HN).2 i hin
        omega
      clear hlen
      obtain ⟨⟨y0, y1, y2, y3, y4⟩, y5⟩ := st.y
      go_wp2_with fail
      refine (unhide HF i Y _ hin st.yb st.yp st.be).mono ?_
      rintro r w3 ⟨u, rfl, hub, hup, hb3⟩
      replace st := st.below hb3
      replace hup := hup.fits (K := K) (hle _) (hfit _ (by omega)).1 (hfit _ (by omega)).2
      have HU := hide hub
      clear hb3 y0 y1 y2 y3 y4 y5 hub
      obtain ⟨V3, hV3⟩ : ∃ V3, V3 = put5w w3 B6 u := ⟨_, rfl⟩
      have X3 : VrC V3 B5 X := by rw [hV3]; exact st.x.off st.ne u
      have Y3 : VrC V3 B6 u := by rw [hV3]; exact st.y.put u
      have P3 : SpAt V3 X K (sumI f i).1 (sumI f i).2 := by rw [hV3]; exact st.xp.put st.y.c u
      have U3 : SpAt V3 u K (f (i + 1)).1 (f (i + 1)).2 := by rw [hV3]; exact hup.put st.y.c u
      have F3 : SpC V3 W.heap.size s := by rw [hV3]; exact st.fs.off (by have := st.l6; omega) u
      have R3 : NoC V3 (W.heap.size + 1) := by rw [hV3]; exact st.no.off (by have := st.l6; omega) u
      have B3 : Below W.heap.size W V3 := by rw [hV3]; exact below_put st.be (by have := st.l6; omega) u
      have xb := hide st.xb
      have l5 := st.l5
      have l6 := st.l6
      have hne := st.ne
      have lY := st.y.lt
      have lX := st.x.lt
      obtain ⟨⟨y0, y1, y2, y3, y4⟩, y5⟩ := st.y
      obtain ⟨⟨x0, x1, x2, x3, x4⟩, x5⟩ := st.x
      clear st hup
      go_wp2_with fail
      have hV3' : V3 = put5w w3 B6 u := hV3
      unfold put5w at hV3'
      rw [← hV3']
      clear hV3' y0 y1 y2 y3 y4 y5 x0 x1 x2 x3 x4 x5
      have lX3 : B5 < V3.heap.size := X3.lt
      refine (add_iv _ X u K b (sumI f i) (f (i + 1)) P3 U3 (by omega) (unhide xb)).mono ?_
      rintro r w4 ⟨v, rfl, hvb, hvp, hb4⟩
      have X4 := X3.below hb4
      have Y4 := Y3.below hb4
      have U4 := U3.below hb4
      have F4 := F3.below hb4
      have R4 := R3.below hb4
      have B4 := bthen B3 hb4
      have e : addI (sumI f i) (f (i + 1)) = sumI f (i + 1) := rfl
      rw [e] at hvp
      replace hvp := hvp.fits (K := K) (sum_le hle _) (hfitS _ (by omega)).1 (hfitS _ (by omega)).2
      have HV := hide hvb
      clear hb4 hvb X3 Y3 P3 U3 F3 R3 B3 hV3
      have stn : SumSt W (put5w w4 B5 v) B5 B6 b K s v u f (i + 1) := ⟨X4.put v, Y4.off (Ne.symm hne) v, hvp.put X4.c v, U4.put X4.c v, unhide HV, unhide HU, F4.off (by omega) v, R4.off (by omega) v, below_put B4 (by omega) v, l5, l6, hne⟩
      unfold put5w at stn
      obtain ⟨⟨x0, x1, x2, x3, x4⟩, x5⟩ := X4
      go_wp2_with fail
      go_roundw
      case rel => exact ⟨i + 1, v, u, by go_num, by omega, stn⟩
      case measure => simp [intOf]; omega
    · have hie : i = N := by omega
      subst hie
      have hl : ¬ 1 < l := by
        have h1 := (unhide HN).1
        intro hl
        obtain ⟨g1, g2, g3⟩ := hlen
        by_cases hp : 0 < reachI (f i)
        · obtain ⟨L, e1, e2, e3⟩ := g3 hp
          have : 1 ≤ L := by omega
          have := Q_mono this
          have : Q 1 = 2 := rfl
          omega
        · have := g2 (by omega); omega
      clear hlen
      obtain ⟨⟨y0, y1, y2, y3, y4⟩, y5⟩ := st.y
      go_wp2_with fail
      refine (reach_int _ Y K _ _ st.yp (by omega)).mono ?_
      rintro r w3 ⟨neg3, a3, n3, c3, rfl, hint3, hb3⟩
      replace st := st.below hb3
      clear hb3 y0 y1 y2 y3 y4 y5
      obtain ⟨V3, hV3⟩ : ∃ V3, V3 = w3.alloc (.cells #[.bool neg3, .slice a3 n3 c3] 26) := ⟨_, rfl⟩
      have bV : Below w3.heap.size w3 V3 := by rw [hV3]; exact bl1 _ _
      have L3 : NmC V3 w3.heap.size ⟨neg3, a3, n3, c3⟩ := by rw [hV3]; exact nmc_new w3 ⟨neg3, a3, n3, c3⟩ _
      have st3 := st.below bV
      have HI := hide (hint3.below bV)
      have l5 := st.l5
      have lX := st.x.lt
      have HKr := hide (show ∀ w', Below V3.heap.size V3 w' → (w'.cell? ⟨B5, 0, none⟩ = some (.bool X.ln) ∧ w'.cell? ⟨B5, 1, none⟩ = some (.slice X.la X.lN X.lc) ∧ w'.cell? ⟨B5, 2, none⟩ = some (.bool X.hn) ∧ w'.cell? ⟨B5, 3, none⟩ = some (.slice X.ha X.hN X.hc) ∧ w'.cell? ⟨B5, 4, none⟩ = some (.int .i64 X.bits) ∧ w'.cell? ⟨w3.heap.size, 0, none⟩ = some (.bool neg3) ∧ w'.cell? ⟨w3.heap.size, 1, none⟩ = some (.slice a3 n3 c3) ∧ w'.cell? ⟨W.heap.size, 4, none⟩ = some (.int .i64 s.bits)) from fun w' hB => ⟨(st3.x.c.below hB).c0, (st3.x.c.below hB).c1, (st3.x.c.below hB).c2, (st3.x.c.below hB).c3, (st3.x.c.below hB).c4, (L3.below hB).c0, (L3.below hB).c1, (st3.fs.below hB).c4⟩)
      have lL := L3.lt
      have R3 := st3.no
      have lR3 := R3.lt
      clear st L3 hint3
      go_wp2_with fail
      rw [← hV3]
      clear hV3
      obtain ⟨x0, x1, x2, x3, x4, x5, x6, x7⟩ := unhide HKr _ (Below.refl _ _)
      have hD0 : Below V3.heap.size V3 V3.drew := (Below.refl _ _).drew
      have nR1 : W.heap.size + 1 ≠ B5 := by omega
      have nR2 : W.heap.size + 1 ≠ w3.heap.size := by omega
      have nR3 : W.heap.size + 1 ≠ W.heap.size := by omega
      go_region_held3 (fun w' => w'.cell? ⟨B5, 0, none⟩ = some (.bool X.ln) ∧ w'.cell? ⟨B5, 1, none⟩ = some (.slice X.la X.lN X.lc) ∧ w'.cell? ⟨B5, 2, none⟩ = some (.bool X.hn) ∧ w'.cell? ⟨B5, 3, none⟩ = some (.slice X.ha X.hN X.hc) ∧ w'.cell? ⟨B5, 4, none⟩ = some (.int .i64 X.bits) ∧ w'.cell? ⟨w3.heap.size, 0, none⟩ = some (.bool neg3) ∧ w'.cell? ⟨w3.heap.size, 1, none⟩ = some (.slice a3 n3 c3) ∧ w'.cell? ⟨W.heap.size, 4, none⟩ = some (.int .i64 s.bits)) (first | exact unhide HKr _ (by first | with_reducible exact hD0 | with_reducible exact hD2 | with_reducible exact hD1) | go_keep)
        (first
          | (go_at_call 56; have hq := hD1; refine (add_iv _ X ⟨neg4, a4, n4, c4, neg3, a3, n3, c3, s.bits⟩ (K + 1) b (sumI f i) (-reachI (f i), reachI (f i)) ((st3.xp.below hD1).mono (by omega)) ⟨hint4, (unhide HI).below hD1⟩ (by omega) st3.xb).mono ?_; rintro r' w5 ⟨v, rfl, hvb, hvp, hb5⟩; have hD2 := bthen hD1 hb5; have HV := hide hvb; clear hvb; obtain ⟨q0, q1, q2, q3, q4, q5⟩ := R3.below hD2; obtain ⟨y0, y1, y2, y3, y4, y5, y6, y7⟩ := unhide HKr _ hD2)
          | (go_at_call 83; refine (neg_int _ _ _ _ (K + 1) (reachI (f i)) _ ((unhide HI).below hD0) (by omega)).mono ?_; rintro r' w4 ⟨neg4, a4, n4, c4, rfl, hint4, hb4⟩; have hD1 := bthen hD0 hb4))
      all_goals
        go_wp2_with fail
        refine bodyPost_ret (v := .agg #[.bool v.ln, .slice v.la v.lN v.lc, .bool v.hn, .slice v.ha v.hN v.hc, .int .i64 v.bits]) (by simp [results, Try.results159, go_sem, q0, q1, q2, q3, q4]) rfl ⟨v, rfl, unhide HV, ?_, ?_⟩
        · exact SpAt.put5 (hvp.mono (by omega)) q0 q1 q2 q3 q4 _ _ _ _ _
        · exact set5 (bthen st3.be hD2) (Nat.le_succ _) _ _ _ _ _
end Go.Proofs.Ytgmnknmjainabab
namespace Go.Proofs.Ytgmnknmjainabab
open Go.RowKit
attribute [local go_sem ↓] Go.wp_at_zero Go.wp_at_succ
theorem len_uniq {z l l' : Int} (h : LenIs z l) (h' : LenIs z l') (hz : 0 ≤ z) : l = l' := by
  obtain ⟨a1, a2, a3⟩ := h
  obtain ⟨b1, b2, b3⟩ := h'
  by_cases hp : 0 < z
  · obtain ⟨L, e1, e2, e3⟩ := a3 hp
    obtain ⟨L', f1, f2, f3⟩ := b3 hp
    have : L = L' := by
      rcases Nat.lt_trichotomy L L' with h | h | h
      · have := Q_mono (show L + 1 ≤ L' by omega); omega
      · exact h
      · have := Q_mono (show L' + 1 ≤ L by omega); omega
    omega
  · have := a2 (by omega); have := b2 (by omega); omega
theorem exp_one {b N : Nat} {sm : Int × Int} (hb : 16 ≤ b) (hN : IsStop (expT b sm) N) : 1 ≤ N := by
  refine Nat.pos_of_ne_zero fun e => ?_
  have := hN.1
  rw [e] at this
  have h2 : reachI (expT b sm 0) = Q b := by
    show maxZ (Q b) (-Q b) = Q b
    have := Q_pos b
    unfold maxZ; rw [if_neg (by omega)]
  rw [h2] at this
  have := Q_mono hb
  have : Q 16 = 65536 := rfl
  omega
theorem exp_times {z l l' bt : Int} {b t : Nat} (h' : LenIs z l') (h : LenIs z l) (ht : (t : Int) = max 0 (l - b + 8)) (hb : bt = (b : Int)) (hbm : b ≤ 1000000) (ht2 : t ≤ 1000000) (hz : 0 ≤ z) :
    (if 0 < IntKind.i64.wrap (IntKind.i64.wrap (l' - bt) + 8) then IntKind.i64.wrap (IntKind.i64.wrap (l' - bt) + 8) else 0) = (t : Int) := by
  have e := len_uniq h' h hz
  have l0 := h.1
  have l1 : l ≤ 3000000 := by omega
  subst e
  rw [hb, i64_id (l' - b) (by omega) (by omega), i64_id (l' - b + 8) (by omega) (by omega)]
  split <;> omega
set_option maxRecDepth 100000 in
set_option maxHeartbeats 4000000 in
theorem wideExp_iv (w : World) (s : Sp) (K b t N : Nat) (a : Int × Int) (l : Int) (hs : SpAt w s K a.1 a.2) (hbits : s.bits = (b : Int)) (hle : a.1 ≤ a.2) (hb16 : 16 ≤ b) (hb : b ≤ 1000000) (hl : LenIs (reachI a) l) (ht : (t : Int) = max 0 (l - b + 8)) (ht2 : t ≤ 1000000)
    (hsm : Abs (downI a t) (Q (b - 8))) (hN : IsStop (expT b (downI a t)) N) (hK : Q (b + eb t) < P K) (hK2 : K ≤ 10000000) :
    Calls Try.prog 131 #[.agg #[.bool s.ln, .slice s.la s.lN s.lc, .bool s.hn, .slice s.ha s.hN s.hc, .int .i64 s.bits]] w (SpanAns w b K (sqI b (doneI (expT b (downI a t)) N) t).1 (sqI b (doneI (expT b (downI a t)) N) t).2) := by
  obtain ⟨W, hW⟩ : ∃ W, W = (w.alloc (.cells #[.bool s.ln, .slice s.la s.lN s.lc, .bool s.hn, .slice s.ha s.hN s.hc, .int .i64 s.bits] 28)).alloc (.cells #[.bool false, .slice none 0 0, .bool false, .slice none 0 0, .int .i64 0] 28) := ⟨_, rfl⟩
  have hBW : Below w.heap.size w W := by rw [hW]; exact bl2 _ _ _
  have A : SpC W w.heap.size s := by rw [hW]; exact ⟨by simp [go_sem], by simp [go_sem], by simp [go_sem], by simp [go_sem], by simp [go_sem]⟩
  have R : NoC W (w.heap.size + 1) := by rw [hW]; exact ⟨by simp [go_sem], by simp [go_sem], by simp [go_sem], by simp [go_sem], by simp [go_sem], fun o => by simp [go_sem]⟩
  have HS := hide (hs.below hBW)
  have lA := A.lt
  have lR := R.lt
  have HB := hide hbits
  have HT := hide ht
  have hr0 := reach_pair hle
  have HK := hide (show ∀ w', Below W.heap.size W w' → (w'.cell? ⟨w.heap.size, 0, none⟩ = some (.bool s.ln) ∧ w'.cell? ⟨w.heap.size, 1, none⟩ = some (.slice s.la s.lN s.lc) ∧ w'.cell? ⟨w.heap.size, 2, none⟩ = some (.bool s.hn) ∧ w'.cell? ⟨w.heap.size, 3, none⟩ = some (.slice s.ha s.hN s.hc) ∧ w'.cell? ⟨w.heap.size, 4, none⟩ = some (.int .i64 s.bits)) from fun w' hB => ⟨(A.below hB).c0, (A.below hB).c1, (A.below hB).c2, (A.below hB).c3, (A.below hB).c4⟩)
  clear hs hbits ht
  go_enter Try.func131, Try.ntmps131
  go_wp2
  rw [← hW]
  clear hW
  obtain ⟨x0, x1, x2, x3, x4⟩ := unhide HK _ (Below.refl _ _)
  have hD0 : Below W.heap.size W W.drew := (Below.refl _ _).drew
  go_cut [3] (fun p wx => p = .int .i64 (t : Int) ∧ Below W.heap.size W wx)
  case first =>
    go_region_held3 (fun w' => w'.cell? ⟨w.heap.size, 0, none⟩ = some (.bool s.ln) ∧ w'.cell? ⟨w.heap.size, 1, none⟩ = some (.slice s.la s.lN s.lc) ∧ w'.cell? ⟨w.heap.size, 2, none⟩ = some (.bool s.hn) ∧ w'.cell? ⟨w.heap.size, 3, none⟩ = some (.slice s.ha s.hN s.hc) ∧ w'.cell? ⟨w.heap.size, 4, none⟩ = some (.int .i64 s.bits)) (first | exact unhide HK _ (by first | with_reducible exact hD0 | with_reducible exact hD2 | with_reducible exact hD1) | go_keep)
      (first
        | (go_at_call 97; have hq := hD1; refine (len_int _ _ _ _ _ (reachI a) _ hint1 hr0).mono ?_; rintro r' w2 ⟨l', hlen, rfl, hb2⟩; have hD2 := bthen hD1 hb2)
        | (go_at_call 154; refine (reach_int _ s K _ _ ((unhide HS).below hD0) (by omega)).mono ?_; rintro r' w1 ⟨neg1, a1, n1, c1, rfl, hint1, hb1⟩; have hD1 := bthen hD0 hb1))
    all_goals go_wp2_with fail
    all_goals
      go_meet
      refine ⟨congrArg _ ?_, hD2⟩
      have e := exp_times hlen hl (unhide HT) (unhide HB) hb ht2 hr0
      split at e <;> omega
  case rest =>
  obtain ⟨rfl, hb0⟩ := hcut
  replace A := A.below hb0
  replace R := R.below hb0
  replace hBW := bthen hBW hb0
  replace HS := hide ((unhide HS).below hb0)
  have lA := A.lt
  have lR := R.lt
  have HK := hide (show ∀ w', Below wc.heap.size wc w' → (w'.cell? ⟨w.heap.size, 0, none⟩ = some (.bool s.ln) ∧ w'.cell? ⟨w.heap.size, 1, none⟩ = some (.slice s.la s.lN s.lc) ∧ w'.cell? ⟨w.heap.size, 2, none⟩ = some (.bool s.hn) ∧ w'.cell? ⟨w.heap.size, 3, none⟩ = some (.slice s.ha s.hN s.hc) ∧ w'.cell? ⟨w.heap.size, 4, none⟩ = some (.int .i64 s.bits)) from fun w' hB => ⟨(A.below hB).c0, (A.below hB).c1, (A.below hB).c2, (A.below hB).c3, (A.below hB).c4⟩)
  clear x0 x1 x2 x3 x4 hD0 hb0
  obtain ⟨x0, x1, x2, x3, x4⟩ := unhide HK _ (Below.refl _ _)
  go_wp2_with fail
  go_cut [4] (fun p wx => ∃ (B : Nat) (u : Sp), p = .pointer (some ⟨B, 0, none⟩) ∧ wc.heap.size ≤ B ∧ VrC wx B u ∧ SpAt wx u (K + 5) (downI a t).1 (downI a t).2 ∧ u.bits = (b : Int) ∧ Below wc.heap.size wc wx)
  case first =>
    go_region_held3 (fun w' => w'.cell? ⟨w.heap.size, 0, none⟩ = some (.bool s.ln) ∧ w'.cell? ⟨w.heap.size, 1, none⟩ = some (.slice s.la s.lN s.lc) ∧ w'.cell? ⟨w.heap.size, 2, none⟩ = some (.bool s.hn) ∧ w'.cell? ⟨w.heap.size, 3, none⟩ = some (.slice s.ha s.hN s.hc) ∧ w'.cell? ⟨w.heap.size, 4, none⟩ = some (.int .i64 s.bits)) (exact unhide HK _ (by repeat' (first | with_reducible exact hBU2 | with_reducible exact hBU1 | with_reducible exact Below.refl _ _ | with_reducible refine Below.drew ?_ | with_reducible refine balloc ?_ _ | with_reducible refine Below.setCell ?_ (by first | exact Nat.le_refl _ | exact hlU1 | exact hlU2) _)))
      (first
        | (go_at_call 117; have hq := hBU1; refine (ceilDown_z _ _ _ _ K (t : Int) a.2 _ ((unhide HS).hi.below (by first | with_reducible exact hBU1 | with_reducible exact balloc hBU1 _)) (by omega) (by omega) (by omega)).mono ?_; rintro r wU2 ⟨negU2, aU2, nU2, cU2, rfl, hintU2, hbU2⟩; have hCU2 : Below wU1.heap.size wU1 wU2 := (by first | with_reducible exact hbU2 | with_reducible exact bthen (bl1 _ _) hbU2); have hBU2 := bthen hBU1 hCU2; (try with_reducible have gU2 := (noc_new wU1 28).below hbU2); replace hintU1 := hintU1.below hCU2; (try replace gU1 := gU1.below hCU2); have hlU2 := hBU2.size; (try have mU1 := gU1.lt); (try have eU1 := Nat.ne_of_lt mU1); (try have eU1' := Nat.ne_of_gt mU1); (try obtain ⟨zU10, zU11, zU12, zU13, zU14, zU15⟩ := gU1); (try have mU2 := gU2.lt); (try have eU2 := Nat.ne_of_lt mU2); (try have eU2' := Nat.ne_of_gt mU2); (try obtain ⟨zU20, zU21, zU22, zU23, zU24, zU25⟩ := gU2))
        | (go_at_call 94; refine (down_z _ _ _ _ K (t : Int) a.1 _ ((unhide HS).lo.below (by first | with_reducible exact (Below.refl _ _).drew | with_reducible exact (bl1 _ _).drew)) (by omega) (by omega) (by omega)).mono ?_; rintro r wU1 ⟨negU1, aU1, nU1, cU1, rfl, hintU1, hbU1⟩; have hBU1 : Below wc.heap.size wc wU1 := (by first | with_reducible exact bthen (Below.refl _ _).drew hbU1 | with_reducible exact bthen (bl1 _ _).drew hbU1); (try with_reducible have gU1 := ((noc_new wc 28).below (Below.refl _ _).drew).below hbU1); have hlU1 := hBU1.size))
    all_goals
      have hfinU : SpAt wU2 ⟨negU1, aU1, nU1, cU1, negU2, aU2, nU2, cU2, s.bits⟩ (K + 5) (downI a t).1 (downI a t).2 := ⟨by rw [downZ_nat] at hintU1; exact hintU1.mono (by omega), by rw [downZ_nat] at hintU2; exact hintU2.mono (by omega)⟩
      go_wp2_with fail
      go_meet
      refine ⟨_, ⟨negU1, aU1, nU1, cU1, negU2, aU2, nU2, cU2, s.bits⟩, rfl, ?_, ⟨⟨?_, ?_, ?_, ?_, ?_⟩, ?_⟩, ?_, unhide HB, ?_⟩
      · first | exact Nat.le_refl _ | exact hlU1 | exact hlU2
      · simp [go_sem, *]
      · simp [go_sem, *]
      · simp [go_sem, *]
      · simp [go_sem, *]
      · simp [go_sem, *]
      · intro o; simp [go_sem, *]
      · first | with_reducible exact hfinU.below (bl1 _ _) | with_reducible exact SpAt.put5 hfinU (by assumption) (by assumption) (by assumption) (by assumption) (by assumption) _ _ _ _ _
      · repeat' (first | with_reducible exact hBU2 | with_reducible exact hBU1 | with_reducible exact Below.refl _ _ | with_reducible refine Below.drew ?_ | with_reducible refine balloc ?_ _ | with_reducible refine Below.setCell ?_ (by first | exact Nat.le_refl _ | exact hlU1 | exact hlU2) _)
  case rest =>
  obtain ⟨BU, xU, rfl, hHU, XU, hpU, hxbU, hblU⟩ := hcut
  replace A := A.below hblU
  replace R := R.below hblU
  replace hBW := bthen hBW hblU
  have lU := XU.lt
  have nRU : w.heap.size + 1 < BU := by omega
  have lA2 := A.lt
  have lR2 := R.lt
  have HXB := hide hxbU
  have HHU := hide hpU
  clear hxbU hpU HS HK x0 x1 x2 x3 x4 hblU
  have x4 := A.c4
  rw [unhide HB] at x4
  go_wp2_with fail
  refine (one_int _ b hb).mono ?_
  rintro r w1 ⟨v1, rfl, hvb1, hvp1, hb1⟩
  have hQb := Q_pos b
  have hv0 : (expT b (downI a t) 0).1 = 1 * Q b / 1 ∧ (expT b (downI a t) 0).2 = -(-(1 * Q b) / 1) := by
    constructor
    · show Q b = _; omega
    · show Q b = _; omega
  rw [← hv0.1, ← hv0.2] at hvp1
  have hQK : Q b * 2 < P K ∧ 2 * Q b + Q b < P K := by
    have h12 : 12 ≤ eb t := by have := eb_mono (show 0 ≤ t by omega); simpa [eb] using this
    have := Q_mono (show b + 2 ≤ b + eb t by omega)
    have e : Q (b + 2) = 2 * (2 * Q b) := rfl
    omega
  have hT := expT_abs (by omega) hsm
  have hlT := expT_le b (downI a t)
  have hfit : ∀ n, n ≤ N → -P K < (expT b (downI a t) n).1 ∧ (expT b (downI a t) n).2 < P K := fun n _ => by
    obtain ⟨g1, g2, g3, g4⟩ := hT n
    have := Q_mono (show b - 8 * n ≤ b by omega)
    omega
  have hfitS : ∀ n, n ≤ N → -P K < (sumI (expT b (downI a t)) n).1 ∧ (sumI (expT b (downI a t)) n).2 < P K := fun n hn => by
    obtain ⟨g1, g2, g3, g4⟩ := sum_abs2 (s := 8) (by omega) hT hN n hn
    have := Q_pos (b - 8 * n)
    omega
  have hNb : N ≤ 1000000000 := by
    obtain ⟨N', n1, n2⟩ := stop_ex (s := 8) (by omega) hT
    have : N ≤ N' := Nat.not_lt.1 fun hlt => by have := hN.2 N' hlt; have := n2.1; omega
    omega
  replace hvp1 := hvp1.fits (K := K) (hlT 0) (hfit 0 (by omega)).1 (hfit 0 (by omega)).2
  have HT0 := hide hT
  have HLT := hide hlT
  have HFIT := hide hfit
  have HFITS := hide hfitS
  have HVP1 := hide hvp1
  have HVB1 := hide hvb1
  have HQK := hide hQK
  clear hT hlT hfit hfitS hv0 hvp1 hvb1 hQK
  replace XU := XU.below hb1
  replace HHU := hide ((unhide HHU).below hb1)
  replace R := R.below hb1
  replace hBW := bthen hBW hb1
  have lU3 := XU.lt
  have lR3 := R.lt
  clear hb1 x4 A lA2
  go_wp2_with fail
  refine (sum_exp _ (expT b (downI a t)) N b K (K + 5 + (K + 5) + 22) v1 _ (unhide HVP1) (unhide HVB1) hb (by omega) (by omega) hN hNb (unhide HLT) (unhide HFIT) (unhide HFITS) (fun n u w' hn hub hup hbw => ?_)).mono ?_
  · exact exp1_iv w' BU u xU (K + 5) b ((n : Int) + 1) (expT b (downI a t) n) (downI a t) (hup.mono (by omega)) ((unhide HHU).below hbw) (XU.c.below hbw) (by omega) hub hb (by omega) (by omega)
  rintro r w2 ⟨v2, rfl, hvb2, hvp2, hb2⟩
  replace XU := XU.below hb2
  replace R := R.below hb2
  replace hBW := bthen hBW hb2
  have hdl := done_le (unhide HLT) N
  have hda := done_abs2 (s := 8) (by omega) (unhide HLT) (unhide HT0) hN
  replace hvp2 := hvp2.fits (K := K) hdl (by have := hda.1; have := unhide HQK; omega) (by have := hda.2.2.2; have := unhide HQK; omega)
  have HV2 := hide hvb2
  clear hvb2 hb2 HVP1 HVB1 hdl hda
  have lR4 := R.lt
  go_wp2_with fail
  go_loopw [31] (fun ii wr => ∃ (i : Nat) (X : Sp), ii = .int .i64 (i : Int) ∧ i ≤ t ∧ VrC wr w2.heap.size X ∧ SpAt wr X K (sqI b (doneI (expT b (downI a t)) N) i).1 (sqI b (doneI (expT b (downI a t)) N) i).2 ∧ X.bits = (b : Int) ∧ NoC wr (w.heap.size + 1) ∧ Below w.heap.size w wr) (fun ii _ => t - (intOf ii).toNat)
  case atStart =>
    refine ⟨0, v2, rfl, Nat.zero_le _, ⟨⟨by simp [go_sem], by simp [go_sem], by simp [go_sem], by simp [go_sem], by simp [go_sem]⟩, fun o => by simp [go_sem]⟩, hvp2.below (bl1 _ _), unhide HV2, R.below (bl1 _ _), balloc hBW _⟩
  case round =>
    obtain ⟨i, X, rfl, hi, hX, hp, hxb, hR, hB⟩ := hrel
    have HXB := hide hxb
    clear hxb
    have lX := hX.lt
    by_cases hin : i < t
    · have hin' : (i : Int) < (t : Int) := by omega
      obtain ⟨⟨x0, x1, x2, x3, x4⟩, x5⟩ := hX
      go_wp2_with fail
      refine (mul_iv _ X X K b _ _ hp hp (by omega) (unhide HXB) hb).mono ?_
      rintro r w3 ⟨v, rfl, hvb, hvp, hb3⟩
      have X3 := VrC.below ⟨⟨x0, x1, x2, x3, x4⟩, x5⟩ hb3
      have R3 := hR.below hb3
      have B3 := bthen hB hb3
      have e : mulI b (sqI b (doneI (expT b (downI a t)) N) i) (sqI b (doneI (expT b (downI a t)) N) i) = sqI b (doneI (expT b (downI a t)) N) (i + 1) := rfl
      rw [e] at hvp
      have h1N : 1 ≤ N := exp_one hb16 hN
      have ha := sq_abs hb16 (done_abs1 (s := 8) (by omega) (unhide HLT) (unhide HT0) hN h1N) (i + 1)
      have hm := Q_mono (show b + eb (i + 1) ≤ b + eb t by have := eb_mono (show i + 1 ≤ t by omega); omega)
      replace hvp := hvp.fits (K := K) (mulI_le b) (by have := ha.1; omega) (by have := ha.2.2.2; omega)
      have HV := hide hvb
      have nB : w.heap.size + 1 ≠ w2.heap.size := by omega
      have stn : VrC (put5w w3 w2.heap.size v) w2.heap.size v ∧ SpAt (put5w w3 w2.heap.size v) v K (sqI b (doneI (expT b (downI a t)) N) (i + 1)).1 (sqI b (doneI (expT b (downI a t)) N) (i + 1)).2 ∧ NoC (put5w w3 w2.heap.size v) (w.heap.size + 1) ∧ Below w.heap.size w (put5w w3 w2.heap.size v) := ⟨X3.put v, hvp.put X3.c v, R3.off nB v, below_put B3 (by omega) v⟩
      unfold put5w at stn
      clear hvb hb3 x0 x1 x2 x3 x4 x5 hvp ha hm
      obtain ⟨⟨x0, x1, x2, x3, x4⟩, x5⟩ := X3
      go_wp2_with fail
      go_roundw
      case rel => exact ⟨i + 1, v, by go_num, by omega, stn.1, stn.2.1, unhide HV, stn.2.2.1, stn.2.2.2⟩
      case measure => simp [intOf]; omega
    · have hie : i = t := by omega
      subst hie
      have hin' : ¬ (i : Int) < (i : Int) := by omega
      obtain ⟨⟨x0, x1, x2, x3, x4⟩, x5⟩ := hX
      obtain ⟨q0, q1, q2, q3, q4, q5⟩ := hR
      go_wp2_with fail
      refine bodyPost_ret (v := .agg #[.bool X.ln, .slice X.la X.lN X.lc, .bool X.hn, .slice X.ha X.hN X.hc, .int .i64 X.bits]) (by simp [results, Try.results131, go_sem, q0, q1, q2, q3, q4]) rfl ⟨X, rfl, unhide HXB, ?_, ?_⟩
      · exact SpAt.put5 hp q0 q1 q2 q3 q4 _ _ _ _ _
      · exact set5 hB (Nat.le_succ _) _ _ _ _ _
end Go.Proofs.Ytgmnknmjainabab
namespace Go.Proofs.Ytgmnknmjainabab
open Go.RowKit
attribute [local go_sem ↓] Go.wp_at_zero Go.wp_at_succ
def withinB (p q n : Int) : Bool := decide (-(n * q) ≤ p) && decide (p ≤ n * q)
set_option maxHeartbeats 400000 in
theorem within_any (p q n : Int) (w : World) (hn0 : 0 ≤ n) (hn : n ≤ 100000) (hq0 : 1 ≤ q) (hq : q ≤ 1024) :
    Calls Try.prog 145 #[.agg #[.int .i64 p, .int .i64 q], .int .i64 n] w fun r w' => r = .returned (.bool (withinB p q n)) ∧ Below w.heap.size w w' := by
  have e : -n * q = -(n * q) := Int.neg_mul _ _
  have b1 : 0 ≤ n * q := Int.mul_nonneg hn0 (by omega)
  have b2 : n * q ≤ 102400000 := Int.le_trans (Int.mul_le_mul hn hq (by omega) (by omega)) (by decide)
  by_cases h1 : -(n * q) ≤ p
  · go_enter Try.func145, Try.ntmps145
    go_wp2
    go_ret
    exact ⟨by simp [withinB, h1]; try omega, bl1 _ _⟩
  · go_enter Try.func145, Try.ntmps145
    go_wp2
    go_ret
    exact ⟨by simp [withinB, h1]; try omega, bl1 _ _⟩
end Go.Proofs.Ytgmnknmjainabab
namespace Go.Proofs.Ytgmnknmjainabab
open Go.RowKit
attribute [local go_sem ↓] Go.wp_at_zero Go.wp_at_succ
theorem len_ex {z : Int} (hz : 0 ≤ z) {e : Nat} (he : z < Q e) : ∃ l, LenIs z l ∧ l ≤ e ∧ z < Q l.toNat := by
  by_cases hp : 0 < z
  · have key : ∀ e : Nat, z < Q e → ∃ L : Nat, L + 1 ≤ e ∧ Q L ≤ z ∧ z < Q (L + 1) := fun e => by
      induction e with
      | zero => intro h; simp [Q] at h; omega
      | succ e ih =>
        intro h
        by_cases hq : Q e ≤ z
        · exact ⟨e, Nat.le_refl _, hq, h⟩
        · obtain ⟨L, h1, h2⟩ := ih (by omega)
          exact ⟨L, by omega, h2⟩
    obtain ⟨L, h1, h2, h3⟩ := key e he
    exact ⟨(L : Int) + 1, ⟨by omega, fun h => by omega, fun _ => ⟨L, rfl, h2, h3⟩⟩, by omega, by rw [show ((L : Int) + 1).toNat = L + 1 by omega]; exact h3⟩
  · have : z = 0 := by omega
    subst this
    exact ⟨0, ⟨by omega, fun _ => rfl, fun h => by omega⟩, by omega, by simp [Q]⟩
theorem exp_set {B e : Nat} {a : Int × Int} (hB : 16 ≤ B) (ha : a.1 ≤ a.2) (h : reachI a < Q (B + e)) :
    ∃ (l : Int) (t N : Nat), LenIs (reachI a) l ∧ (t : Int) = max 0 (l - B + 8) ∧ t ≤ e + 8 ∧ Abs (downI a t) (Q (B - 8)) ∧ IsStop (expT B (downI a t)) N := by
  obtain ⟨l, h1, h2, h3⟩ := len_ex (reach_pair ha) h
  obtain ⟨t, ht⟩ : ∃ t : Nat, (t : Int) = max 0 (l - B + 8) := ⟨(max 0 (l - (B : Int) + 8)).toNat, by omega⟩
  have hA : Abs (downI a t) (Q (B - 8)) := by
    obtain ⟨g1, g2, g3, g4⟩ := reach_abs ha
    have q := Q_pos t
    have hm := Q_mono (show l.toNat ≤ B - 8 + t by omega)
    rw [Q_add] at hm
    have r1 := round_abs (x := a.1) (m := Q (B - 8)) (q := Q t) (by omega) (by omega) (by omega)
    have r2 := round_abs (x := a.2) (m := Q (B - 8)) (q := Q t) (by omega) (by omega) (by omega)
    exact ⟨r1.1, r1.2.1, r2.2.2.1, r2.2.2.2⟩
  obtain ⟨N, n1, n2⟩ := stop_ex (s := 8) (by omega) (expT_abs (by omega) hA)
  exact ⟨l, t, N, h1, ht, by omega, hA, n2⟩
structure RaC (w : World) (B : Nat) (p q : Int) : Prop where
  c0 : w.cell? ⟨B, 0, none⟩ = some (.int .i64 p)
  c1 : w.cell? ⟨B, 1, none⟩ = some (.int .i64 q)
theorem RaC.lt {w : World} {B : Nat} {p q : Int} (h : RaC w B p q) : B < w.heap.size := World.block_lt_of_cell? w ⟨B, 0, none⟩ h.c0
theorem RaC.below {w w' : World} {B : Nat} {p q : Int} (h : RaC w B p q) (hb : Below w.heap.size w w') : RaC w' B p q :=
  ⟨(hb.cell (p := ⟨B, 0, none⟩) h.lt).trans h.c0, (hb.cell (p := ⟨B, 1, none⟩) h.lt).trans h.c1⟩
theorem rac_new (w : World) (p q : Int) (T : TypeId) : RaC (w.alloc (.cells #[.int .i64 p, .int .i64 q] T)) w.heap.size p q := ⟨by simp, by simp⟩
end Go.Proofs.Ytgmnknmjainabab
namespace Go.Proofs.Ytgmnknmjainabab
open Go.RowKit
attribute [local go_sem ↓] Go.wp_at_zero Go.wp_at_succ
set_option maxRecDepth 100000 in
set_option maxHeartbeats 2000000 in
theorem refWhole (w : World) (n : Int) (b : Nat) (hb : b ≤ 100000) (h0 : -9223372036854775808 ≤ n) (h1 : n ≤ 9223372036854775807) :
    Calls Try.prog 17 #[.int .i64 n, .int .i64 b] w (SpanAns w b (b / 16 + 18) (n * Q b) (n * Q b)) := by
  have R := noc_new w 36
  go_enter Try.func17, Try.ntmps17
  go_wp2_with fail
  refine (numOf_int n _ h0 h1).mono ?_
  rintro r' w1 ⟨neg1, a1, n1, c1, rfl, hint1, hb1⟩
  replace R := R.below hb1
  have hB : Below w.heap.size w w1 := bthen (bl1 _ _) hb1
  clear hb1
  go_wp2_with fail
  refine (numOf_int 1 _ (by decide) (by decide)).mono ?_
  rintro r' w2 ⟨neg2, a2, n2, c2, rfl, hint2, hb2⟩
  replace R := R.below hb2
  replace hB := bthen hB hb2
  replace hint1 := hint1.below hb2
  clear hb2
  go_wp2_with fail
  refine (refRatio_core _ _ _ _ _ _ _ _ 4 4 b n 1 _ hint1 hint2 (by omega) (by omega) hb (by decide) (fun neg' a' n' cap' w' p1 p2 => floor_any _ _ _ _ _ _ _ _ _ 4 _ _ w' p1 p2 (by omega) (by decide))).mono ?_
  rintro r' w3 ⟨u, rfl, hub, hup, hb3⟩
  have e1 : n * Q b / 1 = n * Q b := Int.ediv_one _
  have e2 : -(-(n * Q b) / 1) = n * Q b := by rw [Int.ediv_one]; omega
  rw [e1, e2] at hup
  obtain ⟨q0, q1, q2, q3, q4, q5⟩ := R.below hb3
  replace hB := bthen hB hb3
  have HU := hide hub
  clear hub e1 e2
  go_wp2_with fail
  refine bodyPost_ret (v := .agg #[.bool u.ln, .slice u.la u.lN u.lc, .bool u.hn, .slice u.ha u.hN u.hc, .int .i64 u.bits]) (by simp [results, Try.results17, go_sem, q0, q1, q2, q3, q4]) rfl ⟨u, rfl, unhide HU, ?_, ?_⟩
  · exact SpAt.put5 (hup.mono (by omega)) q0 q1 q2 q3 q4 _ _ _ _ _
  · exact set5 hB (Nat.le_refl _) _ _ _ _ _
end Go.Proofs.Ytgmnknmjainabab
namespace Go.Proofs.Ytgmnknmjainabab
open Ex
theorem Iv.le {B : Nat} {a : Int × Int} {x : Nat → Rat} (h : Iv B a x) : a.1 ≤ a.2 :=
  Int.le_of_mul_le_mul_right (h.touch h) (by have := Q_pos B; omega)
theorem Iv.neg {B : Nat} {a : Int × Int} {x : Nat → Rat} (h : Iv B a x) : Iv B (-a.2, -a.1) (fun M => -x M) := by
  have q := Qr_pos B
  intro e he
  obtain ⟨N, hN⟩ := h e he
  refine ⟨N, fun M hM => ?_⟩
  obtain ⟨g1, g2⟩ := hN M hM
  have e1 : ((-a.2 : Int) : Rat) / (Q B : Rat) = -((a.2 : Rat) / (Q B : Rat)) := by rw [Rat.intCast_neg, Rat.div_def, Rat.div_def, Rat.neg_mul]
  have e2 : ((-a.1 : Int) : Rat) / (Q B : Rat) = -((a.1 : Rat) / (Q B : Rat)) := by rw [Rat.intCast_neg, Rat.div_def, Rat.div_def, Rat.neg_mul]
  simp only []
  rw [e1, e2]
  constructor <;> grind
theorem Abs.sub {a b : Int × Int} {m n : Int} (h : Abs a m) (k : Abs b n) : Abs (subI a b) (m + n) := by
  obtain ⟨h1, h2, h3, h4⟩ := h
  obtain ⟨k1, k2, k3, k4⟩ := k
  exact ⟨by unfold subI; simp only []; omega, by unfold subI; simp only []; omega, by unfold subI; simp only []; omega, by unfold subI; simp only []; omega⟩
theorem bal_of {n d n' d' : Int} {i j : Nat} (hn : 0 < n) (hd : 0 < d) (hn' : n' = n * Q j) (hd' : d' = d * Q i) (h1 : d' ≤ n') (h2 : n' < 2 * d') (h0 : j = 0 ∨ i = 0) : Bal n d n' d' ((i : Int) - (j : Int)) := by
  have qi := Q_pos i
  have qj := Q_pos j
  have p1 : 0 < n' := by rw [hn']; exact Int.mul_pos hn (by omega)
  have p2 : 0 < d' := by rw [hd']; exact Int.mul_pos hd (by omega)
  have e0 : Q 0 = 1 := rfl
  refine ⟨⟨p1, p2, by omega, by omega⟩, fun h => ?_, fun h => ?_⟩
  · have hj : j = 0 := by omega
    subst hj
    rw [show ((i : Int) - ((0 : Nat) : Int)).toNat = i by omega, hn', hd', e0, Int.mul_one, Int.mul_assoc]
  · have hi : i = 0 := by omega
    subst hi
    rw [show (-(((0 : Nat) : Int) - (j : Int))).toNat = j by omega, hn', hd', e0, Int.mul_one]; grind
theorem isLog_two : Ex.IsLog (fun M => 2 * Ex.Az (zR 2 1) M) (fun _ => (2 : Rat)) := by
  have h := ln_isLog (n := 2) (d := 1) ⟨by omega, by omega, by omega, by omega⟩
  refine h.congr_r (Ex.null_zero.of_eq fun M => ?_)
  have e : ((2 : Int) : Rat) / ((1 : Int) : Rat) = 2 := by decide +kernel
  rw [e]; grind
end Go.Proofs.Ytgmnknmjainabab
namespace Go.Proofs.Ytgmnknmjainabab
open Go.RowKit
attribute [local go_sem ↓] Go.wp_at_zero Go.wp_at_succ
theorem put_nm2 {w : World} {B : Nat} {z : Nm} (h : NmC w B z) (x : Nm) : NmC ((w.setCell ⟨B, 0, none⟩ (.bool x.neg)).setCell ⟨B, 1, none⟩ (.slice x.a x.n x.cap)) B x := by
  obtain ⟨q0, q1⟩ := h
  constructor <;> simp [go_sem, q0, q1]
theorem put_fz2 {w : World} {B B' : Nat} (h : ∀ o, w.frozen? ⟨B, o, none⟩ = false) (u0 u1 : Value) : ∀ o, ((w.setCell ⟨B', 0, none⟩ u0).setCell ⟨B', 1, none⟩ u1).frozen? ⟨B, o, none⟩ = false := fun o => by rw [frozen_set', frozen_set']; exact h o
theorem NmC.off {w : World} {B B' : Nat} {x : Nm} (h : NmC w B x) (hne : B ≠ B') (u0 u1 : Value) : NmC ((w.setCell ⟨B', 0, none⟩ u0).setCell ⟨B', 1, none⟩ u1) B x := by
  obtain ⟨q0, q1⟩ := h
  constructor <;> simp [go_sem, q0, q1, hne, Ne.symm hne]
theorem NoI.off {w : World} {B B' : Nat} (h : NoI w B) (hne : B ≠ B') (u0 u1 : Value) : NoI ((w.setCell ⟨B', 0, none⟩ u0).setCell ⟨B', 1, none⟩ u1) B := by
  obtain ⟨q0, q1, q2⟩ := h
  exact ⟨by simp [go_sem, q0, hne, Ne.symm hne], by simp [go_sem, q1, hne, Ne.symm hne], put_fz2 q2 _ _⟩
structure RaiSt (w wr : World) (B : Nat) (a : Int) (k j e : Nat) (X Y : Nm) : Prop where
  je : j * e ≤ k
  e1 : 1 ≤ e
  e2 : e ≤ 2 * k + 1
  x : NmC wr B X
  y : NmC wr (B + 1) Y
  fx : ∀ o, wr.frozen? ⟨B, o, none⟩ = false
  fy : ∀ o, wr.frozen? ⟨B + 1, o, none⟩ = false
  ix : IntAt wr X.neg X.a X.n X.cap (4 * (k - j * e) + 4) (a ^ (k - j * e))
  iy : IntAt wr Y.neg Y.a Y.n Y.cap (4 * e) (a ^ e)
  no : NoI wr w.heap.size
  be : Below w.heap.size w wr
  lo : w.heap.size < B
theorem RaiSt.below {w wr wr' : World} {B : Nat} {a : Int} {k j e : Nat} {X Y : Nm} (h : RaiSt w wr B a k j e X Y) (hb : Below wr.heap.size wr wr') : RaiSt w wr' B a k j e X Y :=
  ⟨h.je, h.e1, h.e2, h.x.below hb, h.y.below hb, fun o => (hb.frozen (p := ⟨B, o, none⟩) h.x.lt).trans (h.fx o), fun o => (hb.frozen (p := ⟨B + 1, o, none⟩) h.y.lt).trans (h.fy o), h.ix.below hb, h.iy.below hb, h.no.below hb, bthen h.be hb, h.lo⟩
end Go.Proofs.Ytgmnknmjainabab
