/-
  Texts DivC, DivN, ErfI, ErfG, Two2, Lowx, Lst, Msa, Msb, Msc, Rais, Rexp, Rexn, Mse, Rfp, GauQ, RootD, Rle, Gmg, GamA: what they hold is told in the last text.
-/
import Derived.Deep.RegionHeld3
import Derived.Test.YtgmnknmjainababGreatK11
set_option linter.unnecessarySimpa false
set_option linter.unusedSimpArgs false
set_option linter.unusedVariables false
namespace Go.Proofs.YtgmnknmjainababGreat
open Go.RowKit
attribute [local go_sem ↓] Go.wp_at_zero Go.wp_at_succ
set_option maxRecDepth 100000 in
set_option maxHeartbeats 2000000 in
theorem wideDiv_pos (w : World) (s t : Sp) (k b : Nat) (lo hi lo' hi' : Int) (hs : SpAt w s k lo hi) (ht : SpAt w t k lo' hi') (hk : k ≤ 300000000) (hb : b ≤ 1000000) (hbits : s.bits = b) (hp : 0 < lo') (hp2 : 0 < hi') :
    Calls Tryz.prog 146 #[.agg #[.bool s.ln, .slice s.la s.lN s.lc, .bool s.hn, .slice s.ha s.hN s.hc, .int .i64 s.bits], .agg #[.bool t.ln, .slice t.la t.lN t.lc, .bool t.hn, .slice t.ha t.hN t.hc, .int .i64 t.bits]] w (SpanAns w b (b / 16 + k + 10) (leastZ (pr4 (lo * Q b / lo') (lo * Q b / hi') (hi * Q b / lo') (hi * Q b / hi')) 3) (mostZ (pr4 (-(-(lo * Q b) / lo')) (-(-(lo * Q b) / hi')) (-(-(hi * Q b) / lo')) (-(-(hi * Q b) / hi'))) 3)) := by
  have HBT := hide hbits
  have t1 : ¬ cmpInt hi' 0 < 0 := by unfold cmpInt; rw [if_neg (by omega)]; split <;> omega
  clear hbits
  obtain ⟨W, hW⟩ : ∃ W, W = ((w.alloc (.cells #[.bool s.ln, .slice s.la s.lN s.lc, .bool s.hn, .slice s.ha s.hN s.hc, .int .i64 s.bits] 28)).alloc (.cells #[.bool t.ln, .slice t.la t.lN t.lc, .bool t.hn, .slice t.ha t.hN t.hc, .int .i64 t.bits] 28)).alloc (.cells #[.bool false, .slice none 0 0, .bool false, .slice none 0 0, .int .i64 0] 28) := ⟨_, rfl⟩
  have hBW : Below w.heap.size w W := by rw [hW]; exact bl3 _ _ _ _
  have A : SpC W w.heap.size s := by rw [hW]; exact ⟨by simp [go_sem], by simp [go_sem], by simp [go_sem], by simp [go_sem], by simp [go_sem]⟩
  have G : SpC W (w.heap.size + 1) t := by rw [hW]; exact ⟨by simp [go_sem], by simp [go_sem], by simp [go_sem], by simp [go_sem], by simp [go_sem]⟩
  have R : NoC W (w.heap.size + 1 + 1) := by rw [hW]; exact ⟨by simp [go_sem], by simp [go_sem], by simp [go_sem], by simp [go_sem], by simp [go_sem], fun o => by simp [go_sem]⟩
  replace hs := hs.below hBW
  replace ht := ht.below hBW
  go_enter Tryz.func146, Tryz.ntmps146
  go_wp2_with fail
  rw [← hW]
  clear hW
  refine (sign_int _ _ _ _ k hi' _ ht.hi).mono ?_
  rintro r w0 ⟨rfl, hb0⟩
  replace hBW := bthen hBW hb0
  replace A := A.below hb0
  replace G := G.below hb0
  replace R := R.below hb0
  replace hs := hs.below hb0
  replace ht := ht.below hb0
  clear hb0
  have lA := A.lt
  have lG := G.lt
  obtain ⟨x0, x1, x2, x3, x4⟩ := A
  obtain ⟨y0, y1, y2, y3, y4⟩ := G
  have A : SpC w0 w.heap.size s := ⟨x0, x1, x2, x3, x4⟩
  have G : SpC w0 (w.heap.size + 1) t := ⟨y0, y1, y2, y3, y4⟩
  go_wp2_with fail
  clear lA lG x0 x1 x2 x3 x4 y0 y1 y2 y3 y4
  refine (corners_div1 _ s t k b w.heap.size lo hi lo' hi' hs ht hk hb hp hp2 (by rw [← unhide HBT]; exact A.c4)).mono ?_
  rintro r w1 ⟨B1, f1, rfl, hN1, hb1⟩
  replace hBW := bthen hBW hb1
  replace A := A.below hb1
  replace G := G.below hb1
  replace R := R.below hb1
  replace hs := hs.below hb1
  replace ht := ht.below hb1
  clear hb1
  go_wp2_with fail
  refine (leastw_int _ 3 _ (b / 16 + k + 9) f1 _ _ hN1 (by omega) (by omega)).mono ?_
  rintro r w2 ⟨neg2, a2, n2, c2, rfl, hint2, hb2⟩
  replace hBW := bthen hBW hb2
  replace A := A.below hb2
  replace G := G.below hb2
  replace R := R.below hb2
  replace hs := hs.below hb2
  replace ht := ht.below hb2
  clear hb2 hN1
  obtain ⟨W2, hW2⟩ : ∃ W', W' = w2.alloc (.cells #[.bool neg2, .slice a2 n2 c2] 26) := ⟨_, rfl⟩
  have hc2 : Below w2.heap.size w2 W2 := by rw [hW2]; exact bl1 _ _
  have X2 : NmC W2 w2.heap.size ⟨neg2, a2, n2, c2⟩ := by rw [hW2]; exact nmc_new w2 ⟨neg2, a2, n2, c2⟩ _
  have lA := A.lt
  have lG := G.lt
  obtain ⟨x0, x1, x2, x3, x4⟩ := A
  obtain ⟨y0, y1, y2, y3, y4⟩ := G
  have A : SpC w2 w.heap.size s := ⟨x0, x1, x2, x3, x4⟩
  have G : SpC w2 (w.heap.size + 1) t := ⟨y0, y1, y2, y3, y4⟩
  go_wp2_with fail
  rw [← hW2]
  clear hW2
  clear lA lG x0 x1 x2 x3 x4 y0 y1 y2 y3 y4
  have nR2 : w2.heap.size ≠ w.heap.size + 1 + 1 := Nat.ne_of_gt R.lt
  replace hBW := bthen hBW hc2
  replace A := A.below hc2
  replace G := G.below hc2
  replace R := R.below hc2
  replace hs := hs.below hc2
  replace ht := ht.below hc2
  replace hint2 := hint2.below hc2
  clear hc2
  refine (corners_div2 _ s t k b w.heap.size lo hi lo' hi' hs ht hk hb hp hp2 (by rw [← unhide HBT]; exact A.c4)).mono ?_
  rintro r w3 ⟨B3, f3, rfl, hN3, hb3⟩
  replace hBW := bthen hBW hb3
  replace A := A.below hb3
  replace R := R.below hb3
  replace hint2 := hint2.below hb3
  replace X2 := X2.below hb3
  clear hb3
  go_wp2_with fail
  refine (most_int _ 3 _ (b / 16 + k + 9) f3 _ _ hN3 (by omega) (by omega)).mono ?_
  rintro r w4 ⟨neg4, a4, n4, c4, rfl, hint4, hb4⟩
  replace hBW := bthen hBW hb4
  replace A := A.below hb4
  replace R := R.below hb4
  replace hint2 := hint2.below hb4
  replace X2 := X2.below hb4
  clear hb4 hN3
  have lA := A.lt
  have lX := X2.lt
  have lR := R.lt
  have nR2' : w.heap.size + 1 + 1 ≠ w2.heap.size := fun e9 => nR2 e9.symm
  have nR4 : w4.heap.size ≠ w.heap.size + 1 + 1 := Nat.ne_of_gt lR
  have nR4' : w.heap.size + 1 + 1 ≠ w4.heap.size := Nat.ne_of_lt lR
  have nX4 : w2.heap.size ≠ w4.heap.size := Nat.ne_of_lt lX
  obtain ⟨x0, x1, x2, x3, x4⟩ := A
  obtain ⟨z0, z1⟩ := X2
  obtain ⟨q0, q1, q2, q3, q4, q5⟩ := R
  go_wp2_with fail
  refine bodyPost_ret (v := .agg #[.bool neg2, .slice a2 n2 c2, .bool neg4, .slice a4 n4 c4, .int .i64 s.bits]) (by simp [results, Tryz.results146, go_sem, lR, q0, q1, q2, q3, q4]) rfl ⟨⟨neg2, a2, n2, c2, neg4, a4, n4, c4, s.bits⟩, rfl, unhide HBT, ?_, ?_⟩
  · first | with_reducible exact SpAt.put5 ⟨(hint2.below (bl1 _ _)).mono (by omega), (hint4.below (bl1 _ _)).mono (by omega)⟩ (by simp [go_sem, lR, q0]) (by simp [go_sem, lR, q1]) (by simp [go_sem, lR, q2]) (by simp [go_sem, lR, q3]) (by simp [go_sem, lR, q4]) _ _ _ _ _ | with_reducible exact SpAt.below (SpAt.put5 ⟨hint2.mono (by omega), hint4.mono (by omega)⟩ q0 q1 q2 q3 q4 _ _ _ _ _) (bl1 _ _)
  · first | with_reducible exact set5 (balloc hBW _) (by omega) _ _ _ _ _ | with_reducible exact balloc (set5 hBW (by omega) _ _ _ _ _) _
end Go.Proofs.YtgmnknmjainababGreat
namespace Go.Proofs.YtgmnknmjainababGreat
open Go.RowKit
attribute [local go_sem ↓] Go.wp_at_zero Go.wp_at_succ
theorem SpC.put5n {w : World} {B B' : Nat} {s : Sp} (h : SpC w B s) (hne : B ≠ B') (u0 u1 u2 u3 u4 : Value) :
    SpC (((((w.setCell ⟨B', 0, none⟩ u0).setCell ⟨B', 1, none⟩ u1).setCell ⟨B', 2, none⟩ u2).setCell ⟨B', 3, none⟩ u3).setCell ⟨B', 4, none⟩ u4) B s :=
  ⟨cell_put5' h.c0 hne _ _ _ _ _, cell_put5' h.c1 hne _ _ _ _ _, cell_put5' h.c2 hne _ _ _ _ _, cell_put5' h.c3 hne _ _ _ _ _, cell_put5' h.c4 hne _ _ _ _ _⟩
theorem NoC.put5n {w : World} {B B' : Nat} (h : NoC w B) (hne : B ≠ B') (u0 u1 u2 u3 u4 : Value) :
    NoC (((((w.setCell ⟨B', 0, none⟩ u0).setCell ⟨B', 1, none⟩ u1).setCell ⟨B', 2, none⟩ u2).setCell ⟨B', 3, none⟩ u3).setCell ⟨B', 4, none⟩ u4) B := by
  obtain ⟨q0, q1, q2, q3, q4, q5⟩ := h
  exact ⟨cell_put5' q0 hne _ _ _ _ _, cell_put5' q1 hne _ _ _ _ _, cell_put5' q2 hne _ _ _ _ _, cell_put5' q3 hne _ _ _ _ _, cell_put5' q4 hne _ _ _ _ _, fun o => by rw [frozen_set', frozen_set', frozen_set', frozen_set', frozen_set']; exact q5 o⟩
theorem sp_put {w : World} {B : Nat} {t : Sp} (h : SpC w B t) (s : Sp) : SpC (((((w.setCell ⟨B, 0, none⟩ (.bool s.ln)).setCell ⟨B, 1, none⟩ (.slice s.la s.lN s.lc)).setCell ⟨B, 2, none⟩ (.bool s.hn)).setCell ⟨B, 3, none⟩ (.slice s.ha s.hN s.hc)).setCell ⟨B, 4, none⟩ (.int .i64 s.bits)) B s := by
  obtain ⟨q0, q1, q2, q3, q4⟩ := h
  constructor <;> simp [go_sem, q0, q1, q2, q3, q4]
theorem two_sp {w : World} {B B' : Nat} {s t : Sp} (hA : SpC w B s) (hG : SpC w B' t) (hne : B ≠ B') (u v : Sp) :
    let w1 := ((((w.setCell ⟨B, 0, none⟩ (.bool u.ln)).setCell ⟨B, 1, none⟩ (.slice u.la u.lN u.lc)).setCell ⟨B, 2, none⟩ (.bool u.hn)).setCell ⟨B, 3, none⟩ (.slice u.ha u.hN u.hc)).setCell ⟨B, 4, none⟩ (.int .i64 u.bits)
    let w2 := ((((w1.setCell ⟨B', 0, none⟩ (.bool v.ln)).setCell ⟨B', 1, none⟩ (.slice v.la v.lN v.lc)).setCell ⟨B', 2, none⟩ (.bool v.hn)).setCell ⟨B', 3, none⟩ (.slice v.ha v.hN v.hc)).setCell ⟨B', 4, none⟩ (.int .i64 v.bits)
    SpC w2 B u ∧ SpC w2 B' v ∧ (∀ {x : Sp} {k : Nat} {lo hi : Int}, SpAt w x k lo hi → SpAt w2 x k lo hi) ∧ (∀ {C : Nat}, NoC w C → C ≠ B → C ≠ B' → NoC w2 C) := by
  intro w1 w2
  have h1 : SpC w1 B u := sp_put hA u
  have h2 : SpC w1 B' t := hG.put5n (fun e => hne e.symm) _ _ _ _ _
  exact ⟨h1.put5n hne _ _ _ _ _, sp_put h2 v, fun h => SpAt.put5 (SpAt.put5 h hA.c0 hA.c1 hA.c2 hA.c3 hA.c4 _ _ _ _ _) h2.c0 h2.c1 h2.c2 h2.c3 h2.c4 _ _ _ _ _, fun h n1 n2 => (h.put5n n1 _ _ _ _ _).put5n n2 _ _ _ _ _⟩
set_option maxRecDepth 100000 in
set_option maxHeartbeats 4000000 in
theorem wideDiv_neg (w : World) (s t : Sp) (k b : Nat) (lo hi lo' hi' : Int) (hs : SpAt w s k lo hi) (ht : SpAt w t k lo' hi') (hk : k ≤ 300000000) (hb : b ≤ 1000000) (hbits : s.bits = b) (hp : lo' < 0) (hp2 : hi' < 0) :
    Calls Tryz.prog 146 #[.agg #[.bool s.ln, .slice s.la s.lN s.lc, .bool s.hn, .slice s.ha s.hN s.hc, .int .i64 s.bits], .agg #[.bool t.ln, .slice t.la t.lN t.lc, .bool t.hn, .slice t.ha t.hN t.hc, .int .i64 t.bits]] w (SpanAns w b (b / 16 + k + 10) (leastZ (pr4 ((-hi) * Q b / (-hi')) ((-hi) * Q b / (-lo')) ((-lo) * Q b / (-hi')) ((-lo) * Q b / (-lo'))) 3) (mostZ (pr4 (-(-((-hi) * Q b) / (-hi'))) (-(-((-hi) * Q b) / (-lo'))) (-(-((-lo) * Q b) / (-hi'))) (-(-((-lo) * Q b) / (-lo')))) 3)) := by
  have HBT := hide hbits
  have t1 : cmpInt hi' 0 < 0 := by unfold cmpInt; rw [if_pos (by omega)]; omega
  clear hbits
  obtain ⟨W, hW⟩ : ∃ W, W = ((w.alloc (.cells #[.bool s.ln, .slice s.la s.lN s.lc, .bool s.hn, .slice s.ha s.hN s.hc, .int .i64 s.bits] 28)).alloc (.cells #[.bool t.ln, .slice t.la t.lN t.lc, .bool t.hn, .slice t.ha t.hN t.hc, .int .i64 t.bits] 28)).alloc (.cells #[.bool false, .slice none 0 0, .bool false, .slice none 0 0, .int .i64 0] 28) := ⟨_, rfl⟩
  have hBW : Below w.heap.size w W := by rw [hW]; exact bl3 _ _ _ _
  have A : SpC W w.heap.size s := by rw [hW]; exact ⟨by simp [go_sem], by simp [go_sem], by simp [go_sem], by simp [go_sem], by simp [go_sem]⟩
  have G : SpC W (w.heap.size + 1) t := by rw [hW]; exact ⟨by simp [go_sem], by simp [go_sem], by simp [go_sem], by simp [go_sem], by simp [go_sem]⟩
  have R : NoC W (w.heap.size + 1 + 1) := by rw [hW]; exact ⟨by simp [go_sem], by simp [go_sem], by simp [go_sem], by simp [go_sem], by simp [go_sem], fun o => by simp [go_sem]⟩
  have FA : ∀ o, W.frozen? ⟨w.heap.size, o, none⟩ = false := by intro o; rw [hW]; simp [go_sem]
  have FG : ∀ o, W.frozen? ⟨w.heap.size + 1, o, none⟩ = false := by intro o; rw [hW]; simp [go_sem]
  replace hs := hs.below hBW
  replace ht := ht.below hBW
  go_enter Tryz.func146, Tryz.ntmps146
  go_wp2_with fail
  rw [← hW]
  clear hW
  refine (sign_int _ _ _ _ k hi' _ ht.hi).mono ?_
  rintro r w0 ⟨rfl, hb0⟩
  replace hBW := bthen hBW hb0
  replace FA : ∀ o, w0.frozen? ⟨w.heap.size, o, none⟩ = false := fun o => (hb0.frozen (p := ⟨w.heap.size, o, none⟩) A.lt).trans (FA o)
  replace FG : ∀ o, w0.frozen? ⟨w.heap.size + 1, o, none⟩ = false := fun o => (hb0.frozen (p := ⟨w.heap.size + 1, o, none⟩) G.lt).trans (FG o)
  replace A := A.below hb0
  replace G := G.below hb0
  replace R := R.below hb0
  replace hs := hs.below hb0
  replace ht := ht.below hb0
  clear hb0
  have nAG : w.heap.size ≠ w.heap.size + 1 := by omega
  have nRA : w.heap.size + 1 + 1 ≠ w.heap.size := by omega
  have nRG : w.heap.size + 1 + 1 ≠ w.heap.size + 1 := by omega
  have HS := hide hs
  have HT := hide ht
  have HR := hide R
  have HA := hide A
  have HG := hide G
  have lA := A.lt
  have lG := G.lt
  have hB0 : Below w0.heap.size w0 w0.drew := (Below.refl _ _).drew
  obtain ⟨x0, x1, x2, x3, x4⟩ := A
  obtain ⟨y0, y1, y2, y3, y4⟩ := G
  go_wp2_with fail
  go_cut [12] (fun p wx => ∃ s2 t2 : Sp, s2.bits = s.bits ∧ SpC wx w.heap.size s2 ∧ SpC wx (w.heap.size + 1) t2 ∧ SpAt wx s2 k (-hi) (-lo) ∧ SpAt wx t2 k (-hi') (-lo') ∧ NoC wx (w.heap.size + 1 + 1) ∧ Below w.heap.size w wx)
  case first =>
    go_region_with
      (first
        | (go_at_call 97; have hq := hB1; refine (opposite_int _ t k lo' hi' ((unhide HT).below hB1) (by omega)).mono ?_; rintro r w2 ⟨u2, rfl, hub2, hup2, hb2⟩; have HU2 := hide hub2; clear hub2; have hB2 := bthen hB1 hb2; replace hup1 := hup1.below hb2; have l2A := Nat.lt_of_lt_of_le lA hB2.size; have l2G := Nat.lt_of_lt_of_le lG hB2.size; obtain ⟨a0, a1, a2, a3, a4⟩ := (unhide HA).below hB2; obtain ⟨g0, g1, g2, g3, g4⟩ := (unhide HG).below hB2; have fA2 : ∀ o, w2.frozen? ⟨w.heap.size, o, none⟩ = false := (fun o => (hB2.frozen (p := ⟨w.heap.size, o, none⟩) lA).trans (FA o)); have fG2 : ∀ o, w2.frozen? ⟨w.heap.size + 1, o, none⟩ = false := (fun o => (hB2.frozen (p := ⟨w.heap.size + 1, o, none⟩) lG).trans (FG o)))
        | (go_at_call 97; refine (opposite_int _ s k lo hi ((unhide HS).below (by repeat' (first | with_reducible exact Below.refl _ _ | with_reducible refine Below.drew ?_))) (by omega)).mono ?_; rintro r w1 ⟨u1, rfl, hub1, hup1, hb1⟩; have HU1 := hide hub1; clear hub1; have hB1 : Below w0.heap.size w0 w1 := bthen (by repeat' (first | with_reducible exact Below.refl _ _ | with_reducible refine Below.drew ?_)) hb1; obtain ⟨b0, b1, b2, b3, b4⟩ := (unhide HA).below hB1; obtain ⟨d0, d1, d2, d3, d4⟩ := (unhide HG).below hB1; have l1A := Nat.lt_of_lt_of_le lA hB1.size; have l1G := Nat.lt_of_lt_of_le lG hB1.size))
    all_goals
      go_wp2_with fail
      go_meet
      have A2 : SpC w2 w.heap.size s := ⟨a0, a1, a2, a3, a4⟩
      have G2 : SpC w2 (w.heap.size + 1) t := ⟨g0, g1, g2, g3, g4⟩
      obtain ⟨p1, p2, p3, p4⟩ := two_sp A2 G2 nAG u1 u2
      exact ⟨u1, u2, unhide HU1, p1, p2, p3 hup1, p3 hup2, p4 ((unhide HR).below hB2) nRA nRG, set5 (set5 (bthen hBW hB2) (Nat.le_refl _) _ _ _ _ _) (Nat.le_succ _) _ _ _ _ _⟩
  case rest =>
  obtain ⟨s2, t2, hsb, A, G, hs, ht, R, hBW⟩ := hcut
  replace HBT := hide (hsb.trans (unhide HBT))
  clear hsb HA HG HS HT HR lA lG x0 x1 x2 x3 x4 y0 y1 y2 y3 y4 FA FG hB0
  have lA := A.lt
  have lG := G.lt
  obtain ⟨x0, x1, x2, x3, x4⟩ := A
  obtain ⟨y0, y1, y2, y3, y4⟩ := G
  have A : SpC wc w.heap.size s2 := ⟨x0, x1, x2, x3, x4⟩
  have G : SpC wc (w.heap.size + 1) t2 := ⟨y0, y1, y2, y3, y4⟩
  go_wp2_with fail
  clear lA lG x0 x1 x2 x3 x4 y0 y1 y2 y3 y4
  refine (corners_div1 _ s2 t2 k b w.heap.size (-hi) (-lo) (-hi') (-lo') hs ht hk hb (by omega) (by omega) (by rw [← unhide HBT]; exact A.c4)).mono ?_
  rintro r w1 ⟨B1, f1, rfl, hN1, hb1⟩
  replace hBW := bthen hBW hb1
  replace A := A.below hb1
  replace G := G.below hb1
  replace R := R.below hb1
  replace hs := hs.below hb1
  replace ht := ht.below hb1
  clear hb1
  go_wp2_with fail
  refine (leastw_int _ 3 _ (b / 16 + k + 9) f1 _ _ hN1 (by omega) (by omega)).mono ?_
  rintro r w2 ⟨neg2, a2, n2, c2, rfl, hint2, hb2⟩
  replace hBW := bthen hBW hb2
  replace A := A.below hb2
  replace G := G.below hb2
  replace R := R.below hb2
  replace hs := hs.below hb2
  replace ht := ht.below hb2
  clear hb2 hN1
  obtain ⟨W2, hW2⟩ : ∃ W', W' = w2.alloc (.cells #[.bool neg2, .slice a2 n2 c2] 26) := ⟨_, rfl⟩
  have hc2 : Below w2.heap.size w2 W2 := by rw [hW2]; exact bl1 _ _
  have X2 : NmC W2 w2.heap.size ⟨neg2, a2, n2, c2⟩ := by rw [hW2]; exact nmc_new w2 ⟨neg2, a2, n2, c2⟩ _
  have lA := A.lt
  have lG := G.lt
  obtain ⟨x0, x1, x2, x3, x4⟩ := A
  obtain ⟨y0, y1, y2, y3, y4⟩ := G
  have A : SpC w2 w.heap.size s2 := ⟨x0, x1, x2, x3, x4⟩
  have G : SpC w2 (w.heap.size + 1) t2 := ⟨y0, y1, y2, y3, y4⟩
  go_wp2_with fail
  rw [← hW2]
  clear hW2
  clear lA lG x0 x1 x2 x3 x4 y0 y1 y2 y3 y4
  have nR2 : w2.heap.size ≠ w.heap.size + 1 + 1 := Nat.ne_of_gt R.lt
  replace hBW := bthen hBW hc2
  replace A := A.below hc2
  replace G := G.below hc2
  replace R := R.below hc2
  replace hs := hs.below hc2
  replace ht := ht.below hc2
  replace hint2 := hint2.below hc2
  clear hc2
  refine (corners_div2 _ s2 t2 k b w.heap.size (-hi) (-lo) (-hi') (-lo') hs ht hk hb (by omega) (by omega) (by rw [← unhide HBT]; exact A.c4)).mono ?_
  rintro r w3 ⟨B3, f3, rfl, hN3, hb3⟩
  replace hBW := bthen hBW hb3
  replace A := A.below hb3
  replace R := R.below hb3
  replace hint2 := hint2.below hb3
  replace X2 := X2.below hb3
  clear hb3
  go_wp2_with fail
  refine (most_int _ 3 _ (b / 16 + k + 9) f3 _ _ hN3 (by omega) (by omega)).mono ?_
  rintro r w4 ⟨neg4, a4, n4, c4, rfl, hint4, hb4⟩
  replace hBW := bthen hBW hb4
  replace A := A.below hb4
  replace R := R.below hb4
  replace hint2 := hint2.below hb4
  replace X2 := X2.below hb4
  clear hb4 hN3
  have lA := A.lt
  have lX := X2.lt
  have lR := R.lt
  have nR2' : w.heap.size + 1 + 1 ≠ w2.heap.size := fun e9 => nR2 e9.symm
  have nR4 : w4.heap.size ≠ w.heap.size + 1 + 1 := Nat.ne_of_gt lR
  have nR4' : w.heap.size + 1 + 1 ≠ w4.heap.size := Nat.ne_of_lt lR
  have nX4 : w2.heap.size ≠ w4.heap.size := Nat.ne_of_lt lX
  obtain ⟨x0, x1, x2, x3, x4⟩ := A
  obtain ⟨z0, z1⟩ := X2
  obtain ⟨q0, q1, q2, q3, q4, q5⟩ := R
  go_wp2_with fail
  refine bodyPost_ret (v := .agg #[.bool neg2, .slice a2 n2 c2, .bool neg4, .slice a4 n4 c4, .int .i64 s2.bits]) (by simp [results, Tryz.results146, go_sem, lR, q0, q1, q2, q3, q4]) rfl ⟨⟨neg2, a2, n2, c2, neg4, a4, n4, c4, s2.bits⟩, rfl, unhide HBT, ?_, ?_⟩
  · first | with_reducible exact SpAt.put5 ⟨(hint2.below (bl1 _ _)).mono (by omega), (hint4.below (bl1 _ _)).mono (by omega)⟩ (by simp [go_sem, lR, q0]) (by simp [go_sem, lR, q1]) (by simp [go_sem, lR, q2]) (by simp [go_sem, lR, q3]) (by simp [go_sem, lR, q4]) _ _ _ _ _ | with_reducible exact SpAt.below (SpAt.put5 ⟨hint2.mono (by omega), hint4.mono (by omega)⟩ q0 q1 q2 q3 q4 _ _ _ _ _) (bl1 _ _)
  · first | with_reducible exact set5 (balloc hBW _) (by omega) _ _ _ _ _ | with_reducible exact balloc (set5 hBW (by omega) _ _ _ _ _) _
theorem wideDiv_any (w : World) (s t : Sp) (k b : Nat) (lo hi lo' hi' : Int) (hs : SpAt w s k lo hi) (ht : SpAt w t k lo' hi') (hk : k ≤ 300000000) (hb : b ≤ 1000000) (hbits : s.bits = b) (hl : lo ≤ hi) (hp : ¬ (lo' ≤ 0 ∧ 0 ≤ hi')) (hp2 : lo' ≤ hi') :
    Calls Tryz.prog 146 #[.agg #[.bool s.ln, .slice s.la s.lN s.lc, .bool s.hn, .slice s.ha s.hN s.hc, .int .i64 s.bits], .agg #[.bool t.ln, .slice t.la t.lN t.lc, .bool t.hn, .slice t.ha t.hN t.hc, .int .i64 t.bits]] w (SpanAns w b (b / 16 + k + 10) (dvLo lo hi lo' hi' b) (dvHi lo hi lo' hi' b)) := by
  have hq := Q_pos b
  unfold dvLo dvHi
  by_cases h : hi' < 0
  · rw [if_pos h, if_pos h]
    have := wideDiv_neg w s t k b lo hi lo' hi' hs ht hk hb hbits (by omega) h
    rw [over_least (Int.mul_le_mul_of_nonneg_right (by omega) (by omega)) (by omega) (by omega), over_most (Int.mul_le_mul_of_nonneg_right (by omega) (by omega)) (by omega) (by omega)] at this
    exact this
  · rw [if_neg h, if_neg h]
    have := wideDiv_pos w s t k b lo hi lo' hi' hs ht hk hb hbits (by omega) (by omega)
    rw [over_least (Int.mul_le_mul_of_nonneg_right hl (by omega)) (by omega) (by omega), over_most (Int.mul_le_mul_of_nonneg_right hl (by omega)) (by omega) (by omega)] at this
    exact this
end Go.Proofs.YtgmnknmjainababGreat
namespace Go.Proofs.YtgmnknmjainababGreat
open Ex
theorem Has.of_const {a b c : Rat} (h : Has a b (fun _ => c)) : a ≤ c ∧ c ≤ b := by
  constructor
  · refine Rat.not_lt.1 fun hlt => ?_
    obtain ⟨N, k⟩ := h ((a - c) / 2) (by grind)
    have := (k N (Nat.le_refl _)).1
    grind
  · refine Rat.not_lt.1 fun hlt => ?_
    obtain ⟨N, k⟩ := h ((c - b) / 2) (by grind)
    have := (k N (Nat.le_refl _)).2
    grind
end Go.Proofs.YtgmnknmjainababGreat
namespace Go.Proofs.YtgmnknmjainababGreat.Ex
structure RtOf (y : Rat) (r : Nat → Rat) : Prop where
  nn : ∀ M, 0 ≤ r M
  sq : Null (fun M => r M * r M - y)
theorem sq_lt {a b : Rat} (ha : 0 ≤ a) (h : a * a ≤ b * b) (hb : 0 ≤ b) : a ≤ b := by
  refine Rat.not_lt.1 fun hlt => ?_
  have m1 := Rat.mul_lt_mul_of_pos_left hlt (show 0 < a by grind)
  have m2 := Rat.mul_le_mul_of_nonneg_right (Rat.le_of_lt hlt) hb
  grind
theorem RtOf.ge {y : Rat} {r : Nat → Rat} (h : RtOf y r) {x : Rat} (hx : 0 ≤ x) (hxy : x * x ≤ y) : LeN (fun _ => x) r := fun e he => by
  obtain ⟨N, k⟩ := h.sq (e * e) (Rat.mul_pos he he)
  refine ⟨N, fun M hM => ?_⟩
  have a := (k M hM).1
  have n := h.nn M
  simp only [] at a ⊢
  have re := Rat.mul_nonneg n (Rat.le_of_lt he)
  exact sq_lt hx (by grind) (by grind)
theorem RtOf.le {y : Rat} {r : Nat → Rat} (h : RtOf y r) {x : Rat} (hx : 0 ≤ x) (hxy : y ≤ x * x) : LeN r (fun _ => x) := fun e he => by
  obtain ⟨N, k⟩ := h.sq (e * e) (Rat.mul_pos he he)
  refine ⟨N, fun M hM => ?_⟩
  have a := (k M hM).2
  have n := h.nn M
  simp only [] at a ⊢
  have re := Rat.mul_nonneg hx (Rat.le_of_lt he)
  exact sq_lt n (by grind) (by grind)
theorem RtOf.y0 {y : Rat} {r : Nat → Rat} (h : RtOf y r) : 0 ≤ y := by
  refine Rat.not_lt.1 fun hlt => ?_
  obtain ⟨N, k⟩ := h.sq (-y / 2) (by grind)
  have a := (k N (Nat.le_refl _)).2
  have n := Rat.mul_nonneg (h.nn N) (h.nn N)
  simp only [] at a
  grind
theorem RtOf.bd {y : Rat} {r : Nat → Rat} (h : RtOf y r) : ∃ N : Nat, ∀ M, N ≤ M → r M ≤ y + 2 := by
  have y0 := h.y0
  have q := Rat.mul_nonneg y0 y0
  obtain ⟨N, k⟩ := h.le (x := y + 1) (by grind) (by grind) 1 (by grind)
  exact ⟨N, fun M hM => by have := k M hM; simp only [] at this; grind⟩
end Go.Proofs.YtgmnknmjainababGreat.Ex
namespace Go.Proofs.YtgmnknmjainababGreat
open Go.RowKit
attribute [local go_sem ↓] Go.wp_at_zero Go.wp_at_succ
def TwoP (W wx : World) (b k1 k2 : Nat) (a c : Int × Int) (p q : Value) : Prop :=
  ∃ (B B' : Nat) (x y : Sp), p = .pointer (some ⟨B, 0, none⟩) ∧ q = .pointer (some ⟨B', 0, none⟩) ∧ W.heap.size ≤ B ∧ W.heap.size ≤ B' ∧ B ≠ B' ∧ VrC wx B x ∧ VrC wx B' y ∧ SpAt wx x k1 a.1 a.2 ∧ SpAt wx y k2 c.1 c.2 ∧ x.bits = (b : Int) ∧ y.bits = (b : Int) ∧ Below W.heap.size W wx
theorem vr_new (w : World) (x : Sp) (T : TypeId) : VrC (w.alloc (.cells #[.bool x.ln, .slice x.la x.lN x.lc, .bool x.hn, .slice x.ha x.hN x.hc, .int .i64 x.bits] T)) w.heap.size x := ⟨spc_new w x T, fun o => by simp [go_sem]⟩
theorem vr_new' (w : World) (B : Nat) (hB : w.heap.size = B) (x : Sp) (T : TypeId) : VrC (w.alloc (.cells #[.bool x.ln, .slice x.la x.lN x.lc, .bool x.hn, .slice x.ha x.hN x.hc, .int .i64 x.bits] T)) B x := by subst hB; exact vr_new w x T
variable {W w2 : World} {b k1 k2 : Nat} {a c : Int × Int} {x y : Sp} {T : TypeId}
theorem twoP_aa (hb : Below W.heap.size W w2) (ix : SpAt w2 x k1 a.1 a.2) (iy : SpAt w2 y k2 c.1 c.2) (bx : x.bits = (b : Int)) (by_ : y.bits = (b : Int)) :
    TwoP W ((w2.alloc (.cells #[.bool x.ln, .slice x.la x.lN x.lc, .bool x.hn, .slice x.ha x.hN x.hc, .int .i64 x.bits] T)).alloc (.cells #[.bool y.ln, .slice y.la y.lN y.lc, .bool y.hn, .slice y.ha y.hN y.hc, .int .i64 y.bits] T)) b k1 k2 a c (.pointer (some ⟨w2.heap.size, 0, none⟩)) (.pointer (some ⟨w2.heap.size + 1, 0, none⟩)) :=
  ⟨_, _, x, y, rfl, rfl, hb.size, Nat.le_succ_of_le hb.size, Nat.ne_of_lt (Nat.lt_succ_self _), (vr_new w2 x T).below (bl1 _ _), vr_new' _ _ (by simp) y T, ix.below (bl2 _ _ _), iy.below (bl2 _ _ _), bx, by_, bthen hb (bl2 _ _ _)⟩
theorem TwoP.swap {wx : World} {p q : Value} (h : TwoP W wx b k1 k2 a c p q) : TwoP W wx b k2 k1 c a q p := by
  obtain ⟨B, B', x, y, h1, h2, h3, h4, h5, h6, h7, h8, h9, h10, h11, h12⟩ := h
  exact ⟨B', B, y, x, h2, h1, h4, h3, fun e => h5 e.symm, h7, h6, h9, h8, h11, h10, h12⟩
theorem twoP_aa' (hb : Below W.heap.size W w2) (ix : SpAt w2 x k1 a.1 a.2) (iy : SpAt w2 y k2 c.1 c.2) (bx : x.bits = (b : Int)) (by_ : y.bits = (b : Int)) :
    TwoP W ((w2.alloc (.cells #[.bool y.ln, .slice y.la y.lN y.lc, .bool y.hn, .slice y.ha y.hN y.hc, .int .i64 y.bits] T)).alloc (.cells #[.bool x.ln, .slice x.la x.lN x.lc, .bool x.hn, .slice x.ha x.hN x.hc, .int .i64 x.bits] T)) b k1 k2 a c (.pointer (some ⟨w2.heap.size + 1, 0, none⟩)) (.pointer (some ⟨w2.heap.size, 0, none⟩)) := (twoP_aa hb iy ix by_ bx).swap
end Go.Proofs.YtgmnknmjainababGreat
namespace Go.Proofs.YtgmnknmjainababGreat
open Go.RowKit
attribute [local go_sem ↓] Go.wp_at_zero Go.wp_at_succ
theorem refTimes_iv (w : World) (s t : Sp) (k b : Nat) (a c : Int × Int) (hs : SpAt w s k a.1 a.2) (ht : SpAt w t k c.1 c.2) (hk : k ≤ 300000000) (hb : s.bits = (b : Int)) (hbm : b ≤ 1000000) :
    Calls Tryz.prog 52 #[.agg #[.bool s.ln, .slice s.la s.lN s.lc, .bool s.hn, .slice s.ha s.hN s.hc, .int .i64 s.bits], .agg #[.bool t.ln, .slice t.la t.lN t.lc, .bool t.hn, .slice t.ha t.hN t.hc, .int .i64 t.bits]] w (SpanAns w b (k + k + 8) (mulI b a c).1 (mulI b a c).2) :=
  (refTimes_int w s t k a.1 a.2 c.1 c.2 hs ht hk (by omega) (by omega)).mono fun r w' h => by
    rw [hb, downZ_nat, downZ_nat] at h; exact h
theorem refPlus_iv (w : World) (s t : Sp) (k b : Nat) (a c : Int × Int) (hs : SpAt w s k a.1 a.2) (ht : SpAt w t k c.1 c.2) (hk : k ≤ 700000000) (hb : s.bits = (b : Int)) :
    Calls Tryz.prog 57 #[.agg #[.bool s.ln, .slice s.la s.lN s.lc, .bool s.hn, .slice s.ha s.hN s.hc, .int .i64 s.bits], .agg #[.bool t.ln, .slice t.la t.lN t.lc, .bool t.hn, .slice t.ha t.hN t.hc, .int .i64 t.bits]] w (SpanAns w b (k + 1) (addI a c).1 (addI a c).2) :=
  (refPlus_int w s t k a.1 a.2 c.1 c.2 hs ht hk).mono fun r w' h => by rw [hb] at h; exact h
theorem small_reach {lo hi : Int} : smallB lo hi 1 = decide (reachI (lo, hi) ≤ 1) := by
  unfold smallB reachI maxZ
  rw [Bool.eq_iff_iff, Bool.and_eq_true, decide_eq_true_iff, decide_eq_true_iff, decide_eq_true_iff]
  simp only []
  split <;> omega
structure LowSt (w wr : World) (B5 B6 B7 b K : Nat) (U Pp Sm : Sp) (f : Nat → Int × Int) (X : Int) (i : Nat) : Prop where
  u : VrC wr B5 U
  p : VrC wr B6 Pp
  s : VrC wr B7 Sm
  up : SpAt wr U K (f i).1 (f i).2
  pp : SpAt wr Pp K X X
  sp : SpAt wr Sm K (sumI f i).1 (sumI f i).2
  ub : U.bits = (b : Int)
  pb : Pp.bits = (b : Int)
  sb : Sm.bits = (b : Int)
  no : NoC wr (w.heap.size + 1)
  be : Below w.heap.size w wr
  l5 : w.heap.size + 1 < B5
  l6 : w.heap.size + 1 < B6
  l7 : w.heap.size + 1 < B7
  n56 : B5 ≠ B6
  n57 : B5 ≠ B7
  n67 : B6 ≠ B7
theorem LowSt.below {w wr wr' : World} {B5 B6 B7 b K : Nat} {U Pp Sm : Sp} {f : Nat → Int × Int} {X : Int} {i : Nat} (h : LowSt w wr B5 B6 B7 b K U Pp Sm f X i) (hb : Below wr.heap.size wr wr') : LowSt w wr' B5 B6 B7 b K U Pp Sm f X i :=
  ⟨h.u.below hb, h.p.below hb, h.s.below hb, h.up.below hb, h.pp.below hb, h.sp.below hb, h.ub, h.pb, h.sb, h.no.below hb, bthen h.be hb, h.l5, h.l6, h.l7, h.n56, h.n57, h.n67⟩
end Go.Proofs.YtgmnknmjainababGreat
namespace Go.Proofs.YtgmnknmjainababGreat
open Go
section
variable {Pg : Program} {ops : Array Oper} {Q : Exit → Act → World → Prop} {md : Region.Mode} {S : World → Prop} {l : Nat}
def AnyL (Pg : Program) (md : Region.Mode) (ops : Array Oper) (Q : Exit → Act → World → Prop) (S : World → Prop) (l : Nat) : Nat → Array Bool → Act → World → Prop
  | 0, listed, a, w => Region.ready md ops listed = [] ∧ Q .normal a w
  | fuel + 1, listed, a, w =>
    (Region.ready md ops listed = [] → Q .normal a w) ∧
    ∀ i ∈ Region.ready md ops listed, wpOp Pg ops Q i (fun a' w' => (i ≠ l → S w') ∧ AnyL Pg md ops Q S l fuel (listed.setIfInBounds i true) a' w') a w
theorem AnyL.any : ∀ (fuel : Nat) (listed : Array Bool) (a : Act) (w : World), AnyL Pg md ops Q S l fuel listed a w → wpAny Pg md ops Q fuel listed a w
  | 0, _, _, _, h => h
  | fuel + 1, _, _, _, h => ⟨h.1, fun i hi => wpOp_mono (fun a' w' h' => AnyL.any fuel _ a' w' h'.2) (h.2 i hi)⟩
def waits (md : Region.Mode) (ops : Array Oper) (l i : Nat) : Bool :=
  match ops[l]? with
  | some o => o.after.any (fun e => Region.binds md e && e.on == i)
  | none => false
theorem waits_not {i : Nat} {listed : Array Bool} (hw : waits md ops l i = true) (hi : i ∈ Region.ready md ops listed) (hl : l ∈ Region.ready md ops listed) : False := by
  obtain ⟨_, ol, hol, hall⟩ := mem_ready.1 hl
  obtain ⟨h0, oi, hoi, _⟩ := mem_ready.1 hi
  unfold waits at hw
  rw [hol] at hw
  simp only [Array.any_eq_true'] at hw
  obtain ⟨e, he, h2⟩ := hw
  simp only [Bool.and_eq_true, beq_iff_eq] at h2
  have h1 := hall e he h2.1
  rw [h2.2] at h1
  rcases Nat.lt_or_ge i listed.size with h' | h'
  · simp [h'] at h0 h1; rw [h0] at h1; cases h1
  · simp [Array.getElem?_eq_none h'] at h1
theorem AnyL.first {i : Nat} {oi : Oper} {v : Value} (hi : ops[i]? = some oi) (hsel : ∀ (j : Nat) (o : Oper) cs b, ops[j]? = some o → o.op ≠ .select cs b)
    (hQ : ∀ c a w, Q (.panic c) (a.put oi.dst v) w → Q (.panic c) a w) (hwt : waits md ops l i = true) :
    ∀ (fuel : Nat) (listed : Array Bool) (a : Act) (w : World),
      (∀ j oj, ops[j]? = some oj → j ≠ i → listed.getD j true = false → (∀ e ∈ oj.after, Region.binds md e = true → e.on ≠ i) → oi.apart ops oj = true) →
      i ∈ Region.ready md ops listed → YieldsIf Pg ops S oi v a → S w →
      AnyL Pg md ops Q S l fuel (listed.setIfInBounds i true) (a.put oi.dst v) w → AnyL Pg md ops Q S l (fuel + 1) listed a w := by
  intro fuel
  induction fuel with
  | zero =>
    intro listed a w _ hr hy hS H
    refine ⟨fun h => (by rw [h] at hr; cases hr), fun j hj => ?_⟩
    by_cases hji : j = i
    · subst hji; exact hy.wpOp hi hS ⟨fun _ => hS, H⟩
    · have := ready_mono hj hji
      rw [H.1] at this
      cases this
  | succ fuel ih =>
    intro listed a w hfree hr hy hS H
    refine ⟨fun h => (by rw [h] at hr; cases hr), fun j hj => ?_⟩
    by_cases hji : j = i
    · subst hji; exact hy.wpOp hi hS ⟨fun _ => hS, H⟩
    · have hjl : j ≠ l := fun h => waits_not hwt hr (h ▸ hj)
      have h1 := H.2 j (ready_mono hj hji)
      obtain ⟨hjun, oj, hoj, hall⟩ := mem_ready.1 hj
      have hnot : ∀ e ∈ oj.after, Region.binds md e = true → e.on ≠ i := fun e he hb heq => by
        have h1 := hall e he hb
        have h0 := (mem_ready.1 hr).1
        rw [heq] at h1
        rcases Nat.lt_or_ge i listed.size with h' | h'
        · simp [h'] at h0 h1; rw [h0] at h1; cases h1
        · simp [Array.getElem?_eq_none h'] at h1
      have h2 := wpOp_putIf hoj (hfree j oj hoj hji hjun hnot) (fun cs b => hsel i oi cs b hi) (fun cs b => hsel j oj cs b hoj) hQ hy h1
      have hfree' : ∀ k ok, ops[k]? = some ok → k ≠ i → (listed.setIfInBounds j true).getD k true = false →
          (∀ e ∈ ok.after, Region.binds md e = true → e.on ≠ i) → oi.apart ops ok = true := fun k ok hk hki hun hno => by
        refine hfree k ok hk hki ?_ hno
        by_cases hjk : j = k
        · subst hjk; exact hjun
        · rw [getD_set_ne true hjk] at hun; exact hun
      refine wpOp_mono (fun a' w' h3 => ⟨fun _ => h3.2.1 hjl, ih (listed.setIfInBounds j true) a' w' hfree' (ready_mono hr (Ne.symm hji)) h3.1 (h3.2.1 hjl) ?_⟩) h2
      rw [Array.setIfInBounds_comm _ _ hji]
      exact h3.2.2
theorem AnyL.take {i : Nat} {oi : Oper} {v : Value} {fuel : Nat} {listed : Array Bool} {a : Act} {w : World} (hi : ops[i]? = some oi)
    (hs : Region.noSelect ops = true) (hf : Region.free md ops listed i = true) (hr : (Region.ready md ops listed).contains i = true) (hwt : waits md ops l i = true)
    (hQ : ∀ c a w, Q (.panic c) (a.put oi.dst v) w → Q (.panic c) a w) (hy : YieldsIf Pg ops S oi v a) (hS : S w)
    (h : AnyL Pg md ops Q S l fuel (listed.setIfInBounds i true) (a.put oi.dst v) w) : AnyL Pg md ops Q S l (fuel + 1) listed a w :=
  AnyL.first hi (Region.noSelect_spec hs) hQ hwt fuel listed a w (Region.free_spec hi hf) (by simpa using hr) hy hS h
theorem AnyL.one {i : Nat} {o : Oper} {fuel : Nat} {listed : Array Bool} {a : Act} {w : World} (hr : Region.ready md ops listed = [i]) (ho : ops[i]? = some o)
    (h : ∀ K' : Act → World → Prop, Shut (∀ a w, S w → (S w → AnyL Pg md ops Q S l fuel (listed.setIfInBounds i true) a w) → K' a w) → if Region.wanted o (yielded ops a.tmps) = true then Oper.wp Pg o a w K' Q else K' (a.put o.dst undef) w) :
    AnyL Pg md ops Q S l (fuel + 1) listed a w :=
  ⟨fun h0 => absurd (hr ▸ h0) (by simp), fun j hj => by
    rw [hr] at hj
    have hj' : j = i := by simpa using hj
    subst hj'
    exact wpOp_step ho (fun K' hK => h K' (fun a w hS hW => hK a w ⟨fun _ => hS, hW hS⟩))⟩
theorem AnyL.last {o : Oper} {fuel : Nat} {listed : Array Bool} {a : Act} {w : World} (hr : Region.ready md ops listed = [l]) (ho : ops[l]? = some o)
    (hd : Region.ready md ops (listed.setIfInBounds l true) = [])
    (h : ∀ K' : Act → World → Prop, Shut (∀ a w, Q .normal a w → K' a w) → if Region.wanted o (yielded ops a.tmps) = true then Oper.wp Pg o a w K' Q else K' (a.put o.dst undef) w) :
    AnyL Pg md ops Q S l (fuel + 1) listed a w :=
  ⟨fun h0 => absurd (hr ▸ h0) (by simp), fun j hj => by
    rw [hr] at hj
    have hj' : j = l := by simpa using hj
    subst hj'
    refine wpOp_step ho (fun K' hK => h K' (fun a w hW => hK a w ⟨fun h => absurd rfl h, ?_⟩))
    cases fuel with
    | zero => exact ⟨hd, hW⟩
    | succ fuel => exact ⟨fun _ => hW, by rw [hd]; simp⟩⟩
theorem AnyL.start {id : Nat} {a : Act} {w : World} (hm : Pg.follows .mixedOrders = true) (hS : S w.drew)
    (h : S w.drew → AnyL Pg .any ops Q S l ops.size (Array.replicate ops.size false) a w.drew) : (Code.region id ops true).wp Pg Q a w :=
  wp_region_any hm (AnyL.any _ _ _ _ (h hS))
end
end Go.Proofs.YtgmnknmjainababGreat
namespace Go.Proofs.YtgmnknmjainababGreat
open Go.RowKit
attribute [local go_sem ↓] Go.wp_at_zero Go.wp_at_succ
theorem sp_putHi {w : World} {B : Nat} {s : Sp} (h : VrC w B s) (x : Nm) : VrC ((w.setCell ⟨B, 2, none⟩ (.bool x.neg)).setCell ⟨B, 3, none⟩ (.slice x.a x.n x.cap)) B ⟨s.ln, s.la, s.lN, s.lc, x.neg, x.a, x.n, x.cap, s.bits⟩ := by
  obtain ⟨⟨q0, q1, q2, q3, q4⟩, q5⟩ := h
  exact ⟨⟨by simp [go_sem, q0], by simp [go_sem, q1], by simp [go_sem, q2], by simp [go_sem, q3], by simp [go_sem, q4]⟩, fun o => by rw [frozen_set', frozen_set']; exact q5 o⟩
theorem NoC.offH {w : World} {B B' : Nat} (h : NoC w B) (hne : B ≠ B') (u0 u1 : Value) : NoC ((w.setCell ⟨B', 2, none⟩ u0).setCell ⟨B', 3, none⟩ u1) B := by
  obtain ⟨q0, q1, q2, q3, q4, q5⟩ := h
  exact ⟨by simp [go_sem, q0, hne, Ne.symm hne], by simp [go_sem, q1, hne, Ne.symm hne], by simp [go_sem, q2, hne, Ne.symm hne], by simp [go_sem, q3, hne, Ne.symm hne], by simp [go_sem, q4, hne, Ne.symm hne], fun o => by rw [frozen_set', frozen_set']; exact q5 o⟩
theorem IntAt.putH {w : World} {neg : Bool} {a : Option Addr} {n cap k : Nat} {z : Int} (h : IntAt w neg a n cap k z) {B : Nat} {x0 : Bool} {y0 : Option Addr} {y1 y2 : Nat} (h0 : w.cell? ⟨B, 2, none⟩ = some (.bool x0))
    (h1 : w.cell? ⟨B, 3, none⟩ = some (.slice y0 y1 y2)) (u0 u1 : Value) : IntAt ((w.setCell ⟨B, 2, none⟩ u0).setCell ⟨B, 3, none⟩ u1) neg a n cap k z := by
  have hne : (⟨B, 2, none⟩ : Addr) ≠ ⟨B, 3, none⟩ := by simp
  have h2 : (w.setCell ⟨B, 2, none⟩ u0).cell? ⟨B, 3, none⟩ = some (.slice y0 y1 y2) := (World.cell?_setCell_other _ _ _ _ hne).trans h1
  exact (h.store h0 (fun _ e => by cases e) u0).store h2 (fun _ e => by cases e) u1
end Go.Proofs.YtgmnknmjainababGreat
namespace Go.Proofs.YtgmnknmjainababGreat
open Go.RowKit
attribute [local go_sem ↓] Go.wp_at_zero Go.wp_at_succ
structure VnC (w : World) (B : Nat) (x : Nm) : Prop where
  c : NmC w B x
  fz : ∀ o, w.frozen? ⟨B, o, none⟩ = false
theorem VnC.lt {w : World} {B : Nat} {x : Nm} (h : VnC w B x) : B < w.heap.size := h.c.lt
theorem VnC.below {w w' : World} {B : Nat} {x : Nm} (h : VnC w B x) (hb : Below w.heap.size w w') : VnC w' B x :=
  ⟨h.c.below hb, fun o => (hb.frozen (p := ⟨B, o, none⟩) h.lt).trans (h.fz o)⟩
abbrev put2w (w : World) (B : Nat) (x : Nm) : World := (w.setCell ⟨B, 0, none⟩ (.bool x.neg)).setCell ⟨B, 1, none⟩ (.slice x.a x.n x.cap)
theorem VnC.put {w : World} {B : Nat} {x : Nm} (h : VnC w B x) (y : Nm) : VnC (put2w w B y) B y := ⟨put_nm2 h.c y, put_fz2 h.fz _ _⟩
theorem VnC.off {w : World} {B B' : Nat} {x : Nm} (h : VnC w B x) (hne : B ≠ B') (y : Nm) : VnC (put2w w B' y) B x := ⟨h.c.off hne _ _, put_fz2 h.fz _ _⟩
theorem IntAt.putv {w : World} {neg : Bool} {a : Option Addr} {n cap k : Nat} {z : Int} (h : IntAt w neg a n cap k z) {B : Nat} {x : Nm} (hx : VnC w B x) (y : Nm) : IntAt (put2w w B y) neg a n cap k z := h.put2 hx.c.c0 hx.c.c1 _ _
theorem NoC.offv {w : World} {B B' : Nat} (h : NoC w B) (hne : B ≠ B') (y : Nm) : NoC (put2w w B' y) B := by
  obtain ⟨q0, q1, q2, q3, q4, q5⟩ := h
  exact ⟨by simp [go_sem, q0, hne, Ne.symm hne], by simp [go_sem, q1, hne, Ne.symm hne], by simp [go_sem, q2, hne, Ne.symm hne], by simp [go_sem, q3, hne, Ne.symm hne], by simp [go_sem, q4, hne, Ne.symm hne], put_fz2 q5 _ _⟩
theorem vnc_new (w : World) (x : Nm) (T : TypeId) : VnC (w.alloc (.cells #[.bool x.neg, .slice x.a x.n x.cap] T)) w.heap.size x := ⟨⟨by simp, by simp⟩, fun o => by simp [go_sem]⟩
structure RaSt (w wr : World) (B : Nat) (X : Nm) (p q : Int) (k : Nat) (v : Int) : Prop where
  a : RaC wr w.heap.size p q
  x : VnC wr B X
  i : IntAt wr X.neg X.a X.n X.cap k v
  no : NoC wr (w.heap.size + 1)
  be : Below w.heap.size w wr
  l : w.heap.size + 1 < B
theorem RaSt.below {w wr wr' : World} {B : Nat} {X : Nm} {p q : Int} {k : Nat} {v : Int} (h : RaSt w wr B X p q k v) (hb : Below wr.heap.size wr wr') : RaSt w wr' B X p q k v :=
  ⟨h.a.below hb, h.x.below hb, h.i.below hb, h.no.below hb, bthen h.be hb, h.l⟩
theorem RaC.offv {w : World} {B B' : Nat} {p q : Int} (h : RaC w B p q) (hne : B ≠ B') (y : Nm) : RaC (put2w w B' y) B p q := by
  obtain ⟨q0, q1⟩ := h
  constructor <;> simp [go_sem, q0, q1, hne, Ne.symm hne]
theorem RaSt.put {w wr : World} {B : Nat} {X Y : Nm} {p q : Int} {k k' : Nat} {v v' : Int} (h : RaSt w wr B X p q k v) (hy : IntAt wr Y.neg Y.a Y.n Y.cap k' v') : RaSt w (put2w wr B Y) B Y p q k' v' :=
  ⟨h.a.offv (by have := h.l; omega) Y, h.x.put Y, hy.putv h.x Y, h.no.offv (by have := h.l; omega) Y, set2 h.be (by have := h.l; omega) _ _, h.l⟩
end Go.Proofs.YtgmnknmjainababGreat
namespace Go.Proofs.YtgmnknmjainababGreat
open Go.RowKit
attribute [local go_sem ↓] Go.wp_at_zero Go.wp_at_succ
theorem NoI.offv {w : World} {B B' : Nat} (h : NoI w B) (hne : B ≠ B') (y : Nm) : NoI (put2w w B' y) B := by
  obtain ⟨q0, q1, q2⟩ := h
  exact ⟨by simp [go_sem, q0, hne, Ne.symm hne], by simp [go_sem, q1, hne, Ne.symm hne], put_fz2 q2 _ _⟩
structure RsSt (w wr : World) (B : Nat) (X : Nm) (k : Nat) (v : Int) : Prop where
  x : VnC wr B X
  i : IntAt wr X.neg X.a X.n X.cap k v
  no : NoI wr w.heap.size
  be : Below w.heap.size w wr
  l : w.heap.size < B
theorem RsSt.below {w wr wr' : World} {B : Nat} {X : Nm} {k : Nat} {v : Int} (h : RsSt w wr B X k v) (hb : Below wr.heap.size wr wr') : RsSt w wr' B X k v :=
  ⟨h.x.below hb, h.i.below hb, h.no.below hb, bthen h.be hb, h.l⟩
theorem RsSt.put {w wr : World} {B : Nat} {X Y : Nm} {k k' : Nat} {v v' : Int} (h : RsSt w wr B X k v) (hy : IntAt wr Y.neg Y.a Y.n Y.cap k' v') : RsSt w (put2w wr B Y) B Y k' v' :=
  ⟨h.x.put Y, hy.putv h.x Y, h.no.offv (by have := h.l; omega) Y, set2 h.be (by have := h.l; omega) _ _, h.l⟩
structure CtSt (w wr : World) (B B' : Nat) (X Y : Nm) (p q : Int) (k : Nat) (u v : Int) : Prop where
  a : RaC wr w.heap.size p q
  x : VnC wr B X
  y : VnC wr B' Y
  i : IntAt wr X.neg X.a X.n X.cap k u
  j : IntAt wr Y.neg Y.a Y.n Y.cap k v
  no : NoI wr (w.heap.size + 1)
  be : Below w.heap.size w wr
  l : w.heap.size + 1 < B
  l' : w.heap.size + 1 < B'
  n : B ≠ B'
theorem CtSt.below {w wr wr' : World} {B B' : Nat} {X Y : Nm} {p q : Int} {k : Nat} {u v : Int} (h : CtSt w wr B B' X Y p q k u v) (hb : Below wr.heap.size wr wr') : CtSt w wr' B B' X Y p q k u v :=
  ⟨h.a.below hb, h.x.below hb, h.y.below hb, h.i.below hb, h.j.below hb, h.no.below hb, bthen h.be hb, h.l, h.l', h.n⟩
theorem CtSt.mono {w wr : World} {B B' : Nat} {X Y : Nm} {p q : Int} {k k' : Nat} {u v : Int} (h : CtSt w wr B B' X Y p q k u v) (hk : k ≤ k') : CtSt w wr B B' X Y p q k' u v :=
  ⟨h.a, h.x, h.y, h.i.mono hk, h.j.mono hk, h.no, h.be, h.l, h.l', h.n⟩
theorem CtSt.putX {w wr : World} {B B' : Nat} {X Y Z : Nm} {p q : Int} {k : Nat} {u v u' : Int} (h : CtSt w wr B B' X Y p q k u v) (hz : IntAt wr Z.neg Z.a Z.n Z.cap k u') : CtSt w (put2w wr B Z) B B' Z Y p q k u' v :=
  ⟨h.a.offv (by have := h.l; omega) Z, h.x.put Z, h.y.off (Ne.symm h.n) Z, hz.putv h.x Z, h.j.putv h.x Z, h.no.offv (by have := h.l; omega) Z, set2 h.be (by have := h.l; omega) _ _, h.l, h.l', h.n⟩
theorem CtSt.putY {w wr : World} {B B' : Nat} {X Y Z : Nm} {p q : Int} {k : Nat} {u v v' : Int} (h : CtSt w wr B B' X Y p q k u v) (hz : IntAt wr Z.neg Z.a Z.n Z.cap k v') : CtSt w (put2w wr B' Z) B B' X Z p q k u v' :=
  ⟨h.a.offv (by have := h.l'; omega) Z, h.x.off h.n Z, h.y.put Z, h.i.putv h.y Z, hz.putv h.y Z, h.no.offv (by have := h.l'; omega) Z, set2 h.be (by have := h.l'; omega) _ _, h.l, h.l', h.n⟩
end Go.Proofs.YtgmnknmjainababGreat
namespace Go.Proofs.YtgmnknmjainababGreat
open Go.RowKit
attribute [local go_sem ↓] Go.wp_at_zero Go.wp_at_succ
structure RaiSt2 (w wr : World) (B5 b K : Nat) (O S : Sp) (o s : Int × Int) : Prop where
  u : VrC wr B5 O
  v : VrC wr w.heap.size S
  up : SpAt wr O K o.1 o.2
  vp : SpAt wr S K s.1 s.2
  ub : O.bits = (b : Int)
  vb : S.bits = (b : Int)
  no : NoC wr (w.heap.size + 1)
  be : Below w.heap.size w wr
  l5 : w.heap.size + 1 < B5
theorem RaiSt2.below {w wr wr' : World} {B5 b K : Nat} {O S : Sp} {o s : Int × Int} (h : RaiSt2 w wr B5 b K O S o s) (hb : Below wr.heap.size wr wr') : RaiSt2 w wr' B5 b K O S o s :=
  ⟨h.u.below hb, h.v.below hb, h.up.below hb, h.vp.below hb, h.ub, h.vb, h.no.below hb, bthen h.be hb, h.l5⟩
end Go.Proofs.YtgmnknmjainababGreat
namespace Go.Proofs.YtgmnknmjainababGreat
open Go.RowKit
attribute [local go_sem ↓] Go.wp_at_zero Go.wp_at_succ
theorem Tp_le {d : Nat → Int} (hd : Dgs d) (j n : Nat) (h : j ≤ n) : Tp d j n ≤ V d n := by
  have e := V_split d j (n - j)
  rw [show j + (n - j) = n by omega] at e
  have h1 := V_nonneg hd j
  have h2 := Tp_nonneg hd j n
  have h3 := P_pos j
  have h4 : Tp d j n ≤ P j * Tp d j n := by
    have := Int.mul_le_mul_of_nonneg_right h3 h2
    omega
  unfold Tp at *
  omega
end Go.Proofs.YtgmnknmjainababGreat
namespace Go.Proofs.YtgmnknmjainababGreat
open Go.RowKit
attribute [local go_sem ↓] Go.wp_at_zero Go.wp_at_succ
theorem fieldS0 (x y : Bool) (a a' : Option Addr) (n c n' c' : Nat) (b : Int) (w : World) : (Instr.field 36 (.agg #[.bool x, .slice a n c, .bool y, .slice a' n' c', .int .i64 b]) 0).run Tryz.prog w = .ok (.agg #[.bool x, .slice a n c]) w := by kernel_rfl
theorem fieldS1 (x y : Bool) (a a' : Option Addr) (n c n' c' : Nat) (b : Int) (w : World) : (Instr.field 36 (.agg #[.bool x, .slice a n c, .bool y, .slice a' n' c', .int .i64 b]) 1).run Tryz.prog w = .ok (.agg #[.bool y, .slice a' n' c']) w := by kernel_rfl
end Go.Proofs.YtgmnknmjainababGreat
namespace Go.Proofs.YtgmnknmjainababGreat
open Go.RowKit
attribute [local go_sem ↓] Go.wp_at_zero Go.wp_at_succ
theorem refWhole_z {b : Nat} (z : Int) (hz : z = (b : Int)) (w : World) (n : Int) (hb : b ≤ 100000) (h0 : -9223372036854775808 ≤ n) (h1 : n ≤ 9223372036854775807) :
    Calls Tryz.prog 27 #[.int .i64 n, .int .i64 z] w (SpanAns w b (b / 16 + 18) (n * Q b) (n * Q b)) := by
  subst hz; exact refWhole w n b hb h0 h1
theorem VrC.offv {w : World} {B B' : Nat} {s : Sp} (h : VrC w B s) (hne : B ≠ B') (y : Nm) : VrC (put2w w B' y) B s := by
  obtain ⟨⟨q0, q1, q2, q3, q4⟩, q5⟩ := h
  exact ⟨⟨by simp [go_sem, q0, hne, Ne.symm hne], by simp [go_sem, q1, hne, Ne.symm hne], by simp [go_sem, q2, hne, Ne.symm hne], by simp [go_sem, q3, hne, Ne.symm hne], by simp [go_sem, q4, hne, Ne.symm hne]⟩, fun o => by rw [frozen_set', frozen_set']; exact q5 o⟩
structure ClSt (w wr : World) (B C : Nat) (ss xx yy : Sp) (K b : Nat) (lo hi : Int) : Prop where
  s : VrC wr w.heap.size ss
  x : VrC wr B xx
  y : VrC wr C yy
  ps : SpAt wr ss K lo hi
  px : SpAt wr xx K 0 0
  py : SpAt wr yy K (Q b) (Q b)
  no : NoC wr (w.heap.size + 1)
  be : Below w.heap.size w wr
  l : w.heap.size + 1 < B
  l' : w.heap.size + 1 < C
theorem ClSt.below {w wr wr' : World} {B C : Nat} {s x y : Sp} {K b : Nat} {lo hi : Int} (h : ClSt w wr B C s x y K b lo hi) (hb : Below wr.heap.size wr wr') : ClSt w wr' B C s x y K b lo hi :=
  ⟨h.s.below hb, h.x.below hb, h.y.below hb, h.ps.below hb, h.px.below hb, h.py.below hb, h.no.below hb, bthen h.be hb, h.l, h.l'⟩
end Go.Proofs.YtgmnknmjainababGreat
namespace Go.Proofs.YtgmnknmjainababGreat
open Go.RowKit
attribute [local go_sem ↓] Go.wp_at_zero Go.wp_at_succ
structure PiSt (w wr : World) (B4 B5 m K : Nat) (U Sm : Sp) (f : Nat → Int × Int) (i : Nat) : Prop where
  y : VrC wr B4 U
  s : VrC wr B5 Sm
  yp : SpAt wr U K (f i).1 (f i).2
  sp : SpAt wr Sm K (sumI f i).1 (sumI f i).2
  yb : U.bits = (m : Int)
  sb : Sm.bits = (m : Int)
  no : NoC wr w.heap.size
  be : Below w.heap.size w wr
  l4 : w.heap.size < B4
  l5 : w.heap.size < B5
  ne : B4 ≠ B5
theorem PiSt.below {w wr wr' : World} {B4 B5 m K : Nat} {U Sm : Sp} {f : Nat → Int × Int} {i : Nat} (h : PiSt w wr B4 B5 m K U Sm f i) (hb : Below wr.heap.size wr wr') : PiSt w wr' B4 B5 m K U Sm f i :=
  ⟨h.y.below hb, h.s.below hb, h.yp.below hb, h.sp.below hb, h.yb, h.sb, h.no.below hb, bthen h.be hb, h.l4, h.l5, h.ne⟩
end Go.Proofs.YtgmnknmjainababGreat
namespace Go.Proofs.YtgmnknmjainababGreat.Ex
def vT (x : Rat) (n : Nat) : Rat := x * tm (x * x) n / (2 * (n : Rat) + 1)
end Go.Proofs.YtgmnknmjainababGreat.Ex
namespace Go.Proofs.YtgmnknmjainababGreat
open Go.RowKit
attribute [local go_sem ↓] Go.wp_at_zero Go.wp_at_succ
theorem NoI.put2 {w : World} {B B' : Nat} (h : NoI w B) (hne : B ≠ B') (u0 u1 : Value) : NoI ((w.setCell ⟨B', 0, none⟩ u0).setCell ⟨B', 1, none⟩ u1) B := by
  obtain ⟨q0, q1, q2⟩ := h
  exact ⟨cell_put2 q0 hne _ _, cell_put2 q1 hne _ _, fun o => by rw [frozen_set', frozen_set']; exact q2 o⟩
structure RDs (w wr : World) (BL BH : Nat) (X Y : Nm) (neg : Bool) (a : Option Addr) (n cap k : Nat) (x zl zh : Int) : Prop where
  hX : NmC wr BL X
  hY : NmC wr BH Y
  fL : ∀ o, wr.frozen? ⟨BL, o, none⟩ = false
  fH : ∀ o, wr.frozen? ⟨BH, o, none⟩ = false
  hl : IntAt wr X.neg X.a X.n X.cap (k + 2) zl
  hh : IntAt wr Y.neg Y.a Y.n Y.cap (k + 2) zh
  A : NmC wr w.heap.size ⟨neg, a, n, cap⟩
  R : NoI wr (w.heap.size + 1)
  hx : IntAt wr neg a n cap k x
  hB : Below w.heap.size w wr
theorem RDs.below {w wr w' : World} {BL BH : Nat} {X Y : Nm} {neg : Bool} {a : Option Addr} {n cap k : Nat} {x zl zh : Int} (h : RDs w wr BL BH X Y neg a n cap k x zl zh) (hb : Below wr.heap.size wr w') : RDs w w' BL BH X Y neg a n cap k x zl zh :=
  ⟨h.hX.below hb, h.hY.below hb, fun o => (hb.frozen (p := ⟨BL, o, none⟩) h.hX.lt).trans (h.fL o), fun o => (hb.frozen (p := ⟨BH, o, none⟩) h.hY.lt).trans (h.fH o), h.hl.below hb, h.hh.below hb, h.A.below hb, h.R.below hb, h.hx.below hb, bthen h.hB hb⟩
end Go.Proofs.YtgmnknmjainababGreat
namespace Go.Proofs.YtgmnknmjainababGreat
open Go.RowKit
attribute [local go_sem ↓] Go.wp_at_zero Go.wp_at_succ
theorem power2_z {e : Nat} (z : Int) (hz : z = (e : Int)) (w : World) (hk : e ≤ 1000000000) : Calls Tryz.prog 104 #[.int .i64 z] w fun r w' =>
      ∃ neg' a' n' cap', r = .returned (.agg #[.bool neg', .slice a' n' cap']) ∧ IntAt w' neg' a' n' cap' (e / 16 + 8) (Q e) ∧ Below w.heap.size w w' := by
  subst hz
  exact (power2_int e w hk).mono fun r w' ⟨q1, q2, q3, q4, h1, h2, h3⟩ => ⟨q1, q2, q3, q4, h1, h2.mono (by omega), h3⟩
theorem refScaled_z (z : Int) (w : World) (s : Sp) (x : Nm) (k k1 e b : Nat) (hz : z = (e : Int)) (a : Int × Int) (n : Int) (hs : SpAt w s k a.1 a.2) (hx : IntAt w x.neg x.a x.n x.cap k1 n) (hle : a.1 ≤ a.2) (hn : 0 ≤ n) (hk : k ≤ 100000000) (hk1 : k1 ≤ 100000000) (he : e ≤ 1000000) (hbits : s.bits = (b : Int)) :
    Calls Tryz.prog 135 #[.agg #[.bool s.ln, .slice s.la s.lN s.lc, .bool s.hn, .slice s.ha s.hN s.hc, .int .i64 s.bits], .agg #[.bool x.neg, .slice x.a x.n x.cap], .int .i64 z] w (SpanAns w b (k + k1 + 30) (scaleI a n (Q e)).1 (scaleI a n (Q e)).2) := by
  subst hz
  exact refScaled w s x k k1 e b a n hs hx hle hn hk hk1 he hbits
theorem NmC.offP {w : World} {B B' : Nat} {x : Nm} (h : NmC w B x) (hne : B ≠ B') (u : Sp) : NmC (put5w w B' u) B x := ⟨cell_put5 h.c0 hne _ _ _ _ _, cell_put5 h.c1 hne _ _ _ _ _⟩
structure LeSt (w wr : World) (B7 B8 B9 m K kq : Nat) (q : Nm) (U Sm : Sp) (X : Int) (f g : Nat → Int × Int) (i : Nat) : Prop where
  y : VrC wr B8 U
  s : VrC wr B9 Sm
  qc : NmC wr B7 q
  yp : SpAt wr U K (f i).1 (f i).2
  sp : SpAt wr Sm K (g i).1 (g i).2
  qp : IntAt wr q.neg q.a q.n q.cap kq (X * X)
  yb : U.bits = (m : Int)
  sb : Sm.bits = (m : Int)
  no : NoC wr (w.heap.size + 1)
  be : Below w.heap.size w wr
  l7 : w.heap.size + 1 < B7
  l8 : w.heap.size + 1 < B8
  l9 : w.heap.size + 1 < B9
  n78 : B7 ≠ B8
  n79 : B7 ≠ B9
  n89 : B8 ≠ B9
theorem LeSt.below {w wr wr' : World} {B7 B8 B9 m K kq : Nat} {q : Nm} {U Sm : Sp} {X : Int} {f g : Nat → Int × Int} {i : Nat} (h : LeSt w wr B7 B8 B9 m K kq q U Sm X f g i) (hb : Below wr.heap.size wr wr') : LeSt w wr' B7 B8 B9 m K kq q U Sm X f g i :=
  ⟨h.y.below hb, h.s.below hb, h.qc.below hb, h.yp.below hb, h.sp.below hb, h.qp.below hb, h.yb, h.sb, h.no.below hb, bthen h.be hb, h.l7, h.l8, h.l9, h.n78, h.n79, h.n89⟩
end Go.Proofs.YtgmnknmjainababGreat
namespace Go.Proofs.YtgmnknmjainababGreat
open Go.RowKit
attribute [local go_sem ↓] Go.wp_at_zero Go.wp_at_succ
def ShF (p q : Nat → Int) (n : Nat) (z : Int) : Prop := (z = 5 ∧ ∃ j, j < n ∧ p j ≤ 0) ∨ (z = 2 ∧ (∀ j, j < n → 0 < p j) ∧ ∃ j, j < n ∧ 100 * q j < p j) ∨ (z = 0 ∧ ∀ j, j < n → 0 < p j ∧ p j ≤ 100 * q j)
def ShW (p q : Nat → Int) (i : Nat) (z : Int) : Prop := (∀ j, j < i → 0 < p j) ∧ ((z = 0 ∧ ∀ j, j < i → p j ≤ 100 * q j) ∨ (z = 2 ∧ ∃ j, j < i ∧ 100 * q j < p j))
theorem ShW.ok {p q : Nat → Int} {i : Nat} {z : Int} (h : ShW p q i z) (h0 : 0 < p i) (h1 : p i ≤ 100 * q i) : ShW p q (i + 1) z := by
  obtain ⟨a, b⟩ := h
  refine ⟨fun j hj => ?_, ?_⟩
  · by_cases e : j = i
    · subst e; exact h0
    · exact a j (by omega)
  · rcases b with ⟨e, b⟩ | ⟨e, j, hj, b⟩
    · refine Or.inl ⟨e, fun j hj => ?_⟩
      by_cases e : j = i
      · subst e; exact h1
      · exact b j (by omega)
    · exact Or.inr ⟨e, j, by omega, b⟩
theorem ShW.many {p q : Nat → Int} {i : Nat} {z : Int} (h : ShW p q i z) (h0 : 0 < p i) (h1 : 100 * q i < p i) : ShW p q (i + 1) 2 := by
  refine ⟨fun j hj => ?_, Or.inr ⟨rfl, i, by omega, h1⟩⟩
  by_cases e : j = i
  · subst e; exact h0
  · exact h.1 j (by omega)
theorem ShW.fin {p q : Nat → Int} {n : Nat} {z : Int} (h : ShW p q n z) : ShF p q n z := by
  obtain ⟨a, b⟩ := h
  rcases b with ⟨e, b⟩ | ⟨e, b⟩
  · exact Or.inr (Or.inr ⟨e, fun j hj => ⟨a j hj, b j hj⟩⟩)
  · exact Or.inr (Or.inl ⟨e, a, b⟩)
set_option maxRecDepth 100000 in
set_option maxHeartbeats 2000000 in
theorem shapeFault_any (b n cap : Nat) (p q : Nat → Int) (w : World) (h : Rats w b n p q) (hn : n ≤ 1000) (hr : ∀ j, j < n → rok (p j) (q j)) :
    Calls Tryz.prog 111 #[.slice (some ⟨b, 0, none⟩) n cap] w fun r w' => ∃ z, r = .returned (.int .i64 z) ∧ ShF p q n z ∧ Below w.heap.size w w' := by
  have hblt := h.lt
  have HH := hide h
  have HR := hide hr
  clear h hr
  go_enter Tryz.func111, Tryz.ntmps111
  go_wp2
  go_loopw [3, 8] (fun ee ii wr => ∃ (i : Nat) (z : Int), i ≤ n ∧ ii = .int .i64 i ∧ ee = .int .i64 z ∧ ShW p q i z ∧ Below w.heap.size w wr) (fun _ ii _ => n - (intOf ii).toNat)
  case atStart => exact ⟨0, 0, by omega, rfl, rfl, ⟨fun j hj => by omega, Or.inl ⟨rfl, fun j hj => by omega⟩⟩, Below.refl _ _⟩
  case round =>
    obtain ⟨i, z, hi, rfl, rfl, hz, hB⟩ := hrel
    by_cases hin : i < n
    · have H2 := (unhide HH).below hB
      have g0 := H2.c0 i hin
      have g1 := H2.c1 i hin
      have hi1 : (i : Int) < (n : Int) := by omega
      have HZ := hide hz
      have rk := unhide HR i hin
      clear hz H2
      by_cases hp : p i ≤ 0
      · go_wp2_with fail
        go_ret
        exact ⟨5, rfl, Or.inl ⟨rfl, i, hin, hp⟩, balloc hB _⟩
      · obtain ⟨r1, r2, r3, r4⟩ := rk
        by_cases hc : p i ≤ 100 * q i
        · have hc' : withinB (p i) (q i) 100 = true := by unfold withinB; simp; omega
          have HC := hide (And.intro hp hc)
          have hp' : ¬ p i ≤ 0 := hp
          clear hc
          go_wp2_with (go_at_call 151; refine (within_any _ _ 100 _ (by omega) (by omega) (by omega) (by omega)).mono ?_; rintro r w1 ⟨rfl, hb1⟩; rw [hc'])
          go_roundw
          case rel => exact ⟨i + 1, z, by omega, by go_num, rfl, (unhide HZ).ok (by have := (unhide HC).1; omega) (unhide HC).2, bthen (balloc hB _) hb1⟩
          case measure => simp [intOf]; omega
        · have hc' : withinB (p i) (q i) 100 = false := by unfold withinB; simp; omega
          have HC := hide (And.intro hp hc)
          have hp' : ¬ p i ≤ 0 := hp
          clear hc
          go_wp2_with (go_at_call 151; refine (within_any _ _ 100 _ (by omega) (by omega) (by omega) (by omega)).mono ?_; rintro r w1 ⟨rfl, hb1⟩; rw [hc'])
          go_roundw
          case rel => exact ⟨i + 1, 2, by omega, by go_num, rfl, (unhide HZ).many (by have := (unhide HC).1; omega) (by have := (unhide HC).2; omega), bthen (balloc hB _) hb1⟩
          case measure => simp [intOf]; omega
    · have hiE : i = n := by omega
      subst hiE
      have hi1 : ¬ (i : Int) < (i : Int) := by omega
      have HZ := hide hz
      clear hz
      go_wp2_with fail
      go_ret
      exact ⟨z, rfl, (unhide HZ).fin, hB⟩
end Go.Proofs.YtgmnknmjainababGreat
namespace Go.Proofs.YtgmnknmjainababGreat.Ex
def Nn (f : Nat → Rat) : Prop := ∃ N : Nat, ∀ M, N ≤ M → 0 ≤ f M
theorem Nn.mul {f g : Nat → Rat} (h : Nn f) (k : Nn g) : Nn (fun M => f M * g M) := by
  obtain ⟨N1, h1⟩ := h
  obtain ⟨N2, h2⟩ := k
  exact ⟨N1 + N2, fun M hM => Rat.mul_nonneg (h1 M (by omega)) (h2 M (by omega))⟩
theorem Nn.add {f g : Nat → Rat} (h : Nn f) (k : Nn g) : Nn (fun M => f M + g M) := by
  obtain ⟨N1, h1⟩ := h
  obtain ⟨N2, h2⟩ := k
  exact ⟨N1 + N2, fun M hM => by have := h1 M (by omega); have := h2 M (by omega); grind⟩
theorem Nn.const {c : Rat} (h : 0 ≤ c) : Nn (fun _ => c) := ⟨0, fun _ _ => h⟩
theorem Ev_nn {x : Nat → Rat} (h : Bdd x) : Nn (Ev x) := by
  obtain ⟨c, c0, N, k⟩ := Ev_low h
  exact ⟨N, fun M hM => Rat.le_trans (Rat.le_of_lt c0) (k M hM)⟩
theorem ex_nn (a : Rat) : Nn (ex a) := Ev_nn (Bdd.const a)
theorem LeN.bmul {f g k : Nat → Rat} (h : LeN f g) (hk : Bdd k) (hn : Nn k) : LeN (fun M => f M * k M) (fun M => g M * k M) := by
  obtain ⟨z, hz, kz⟩ := h.null
  obtain ⟨N, hN⟩ := hn
  refine LeN.of_null (hz.bmul hk) N fun M hM => ?_
  have := Rat.mul_le_mul_of_nonneg_right (kz M) (hN M hM)
  grind
theorem LeN.cmul {f g : Nat → Rat} (h : LeN f g) {c : Rat} (hc : 0 ≤ c) : LeN (fun M => c * f M) (fun M => c * g M) := by
  obtain ⟨z, hz, kz⟩ := h.null
  refine LeN.of_null (hz.bmul (Bdd.const c)) 0 fun M _ => ?_
  have := Rat.mul_le_mul_of_nonneg_left (kz M) hc
  grind
theorem LeN.of_eqN {f g : Nat → Rat} (h : Null (fun M => f M - g M)) : LeN f g := h.leN
theorem LeN.mul {f g f' g' : Nat → Rat} (h : LeN f g) (h' : LeN f' g') (b : Bdd f') (n : Nn f') (b2 : Bdd g) (n2 : Nn g) : LeN (fun M => f M * f' M) (fun M => g M * g' M) :=
  (h.bmul b n).trans ((LeN.of_le 0 fun M _ => by show g M * f' M ≤ f' M * g M; grind).trans ((h'.bmul b2 n2).trans (LeN.of_le 0 fun M _ => by show g' M * g M ≤ g M * g' M; grind)))
theorem qle_div {a b c : Rat} (hc : 0 < c) (h : a * c ≤ b) : a ≤ b / c := Rat.le_of_mul_le_mul_right (by rw [rdm hc]; exact h) hc
theorem qdiv_le {a b c : Rat} (hc : 0 < c) (h : a ≤ b * c) : a / c ≤ b := Rat.le_of_mul_le_mul_right (by rw [rdm hc]; exact h) hc
theorem rat_cancel {c a b : Rat} (hc : 0 < c) (h : c * a = c * b) : a = b := Rat.le_antisymm (Rat.le_of_mul_le_mul_left (by rw [h]; exact Rat.le_refl) hc) (Rat.le_of_mul_le_mul_left (by rw [h]; exact Rat.le_refl) hc)
def upT (a x : Rat) : Nat → Rat
  | 0 => 1 / a
  | n + 1 => x / (a + ((n : Rat) + 1)) * upT a x n
theorem un_pos {a : Rat} (ha : 0 < a) (n : Nat) : 0 < a + ((n : Rat) + 1) := by have := pos1 n; grind
theorem upT_zero {a : Rat} (ha : 0 < a) (x : Rat) : a * upT a x 0 = 1 := by
  have := rdm (a := 1) ha
  show a * (1 / a) = 1
  grind
theorem upT_succ {a : Rat} (ha : 0 < a) (x : Rat) (n : Nat) : (a + ((n : Rat) + 1)) * upT a x (n + 1) = x * upT a x n := by
  have e := rdm (a := x) (un_pos ha n)
  show (a + ((n : Rat) + 1)) * (x / (a + ((n : Rat) + 1)) * upT a x n) = _
  have : (a + ((n : Rat) + 1)) * (x / (a + ((n : Rat) + 1)) * upT a x n) = x / (a + ((n : Rat) + 1)) * (a + ((n : Rat) + 1)) * upT a x n := by grind
  rw [this, e]
theorem upT_nonneg {a x : Rat} (ha : 0 < a) (h : 0 ≤ x) (n : Nat) : 0 ≤ upT a x n := by
  induction n with
  | zero => exact qle_div ha (by grind)
  | succ n ih => exact Rat.mul_nonneg (qle_div (un_pos ha n) (by grind)) ih
theorem upT_next {a : Rat} (ha : 0 < a) (x : Rat) (n : Nat) : a * upT a x (n + 1) = x * upT (a + 1) x n := by
  induction n with
  | zero =>
    have e1 := upT_succ ha x 0
    have e2 := upT_zero ha x
    have e3 := upT_zero (show 0 < a + 1 by grind) x
    refine rat_cancel (show 0 < a + 1 by grind) ?_
    have c : ((0 : Nat) : Rat) = 0 := rfl
    rw [c] at e1
    have k1 : (a + 1) * (a * upT a x (0 + 1)) = a * ((a + (0 + 1)) * upT a x (0 + 1)) := by grind
    have k2 : (a + 1) * (x * upT (a + 1) x 0) = x * ((a + 1) * upT (a + 1) x 0) := by grind
    rw [k1, k2, e1, e3]
    have k3 : a * (x * upT a x 0) = x * (a * upT a x 0) := by grind
    rw [k3, e2]
  | succ n ih =>
    have e1 := upT_succ ha x (n + 1)
    have e2 := upT_succ (show 0 < a + 1 by grind) x n
    have c : ((n + 1 : Nat) : Rat) = (n : Rat) + 1 := by push_cast; rfl
    rw [c] at e1
    refine rat_cancel (show 0 < a + ((n : Rat) + 1 + 1) by have := pos1 n; grind) ?_
    have k1 : (a + ((n : Rat) + 1 + 1)) * (a * upT a x (n + 1 + 1)) = a * ((a + ((n : Rat) + 1 + 1)) * upT a x (n + 1 + 1)) := by grind
    have k2 : (a + ((n : Rat) + 1 + 1)) * (x * upT (a + 1) x (n + 1)) = x * ((a + 1 + ((n : Rat) + 1)) * upT (a + 1) x (n + 1)) := by grind
    rw [k1, k2, e1, e2, ← ih]
    grind
def uS (a x : Rat) (M : Nat) : Rat := S (upT a x) M
theorem uS_succ (a x : Rat) (M : Nat) : uS a x (M + 1) = uS a x M + upT a x M := rfl
theorem uS_nonneg {a x : Rat} (ha : 0 < a) (h : 0 ≤ x) (M : Nat) : 0 ≤ uS a x M := by
  induction M with
  | zero => show (0 : Rat) ≤ 0; grind
  | succ n ih => have := upT_nonneg ha h n; rw [uS_succ]; grind
theorem uS_first {a x : Rat} (ha : 0 < a) (h : 0 ≤ x) (M : Nat) : 1 / a ≤ uS a x (M + 1) := by
  induction M with
  | zero => show 1 / a ≤ 0 + 1 / a; grind
  | succ n ih => have := upT_nonneg ha h (n + 1); rw [uS_succ]; grind
theorem uS_next {a : Rat} (ha : 0 < a) (x : Rat) (M : Nat) : a * uS a x (M + 1) = 1 + x * uS (a + 1) x M := by
  induction M with
  | zero =>
    have := upT_zero ha x
    show a * (0 + upT a x 0) = 1 + x * 0
    grind
  | succ n ih =>
    have := upT_next ha x n
    rw [uS_succ a x (n + 1), uS_succ (a + 1) x n]
    grind
theorem upT_tan {a x u : Rat} (ha : 0 < a) (hx : 0 ≤ x) (hu : -1 ≤ u) (n : Nat) : upT a x n + (n : Rat) * u * upT a x n ≤ upT a (x * (1 + u)) n := by
  induction n with
  | zero =>
    have c : ((0 : Nat) : Rat) = 0 := rfl
    show 1 / a + ((0 : Nat) : Rat) * u * (1 / a) ≤ 1 / a
    rw [c]; grind
  | succ n ih =>
    have e1 := upT_succ ha x n
    have e2 := upT_succ ha (x * (1 + u)) n
    have c : ((n + 1 : Nat) : Rat) = (n : Rat) + 1 := by push_cast; rfl
    have y0 := Rat.mul_nonneg hx (show 0 ≤ 1 + u by grind)
    have m := Rat.mul_le_mul_of_nonneg_left ih y0
    have p := un_pos ha n
    refine Rat.le_of_mul_le_mul_left (c := a + ((n : Rat) + 1)) ?_ p
    rw [e2, c]
    have k : (a + ((n : Rat) + 1)) * (upT a x (n + 1) + ((n : Rat) + 1) * u * upT a x (n + 1)) = (1 + ((n : Rat) + 1) * u) * ((a + ((n : Rat) + 1)) * upT a x (n + 1)) := by grind
    rw [k, e1]
    have n0 : (0 : Rat) ≤ (n : Rat) := by exact_mod_cast Nat.zero_le n
    have q := Rat.mul_nonneg (Rat.mul_nonneg n0 (sq_nonneg u)) (Rat.mul_nonneg hx (upT_nonneg ha hx n))
    grind
theorem uS_tan {a x u : Rat} (ha : 0 < a) (hx : 0 ≤ x) (hu : -1 ≤ u) (M : Nat) : uS a x (M + 1) + u * (1 + x * uS a x M - a * uS a x (M + 1)) ≤ uS a (x * (1 + u)) (M + 1) := by
  induction M with
  | zero =>
    have e := upT_zero ha x
    have e2 : upT a (x * (1 + u)) 0 = upT a x 0 := rfl
    show 0 + upT a x 0 + u * (1 + x * 0 - a * (0 + upT a x 0)) ≤ 0 + upT a (x * (1 + u)) 0
    rw [e2]
    have : a * (0 + upT a x 0) = 1 := by rw [← e]; grind
    rw [this]; grind
  | succ n ih =>
    have t := upT_tan ha hx hu (n + 1)
    have e1 := upT_succ ha x n
    have c : ((n + 1 : Nat) : Rat) = (n : Rat) + 1 := by push_cast; rfl
    rw [c] at t
    rw [uS_succ a x (n + 1), uS_succ a (x * (1 + u)) (n + 1)]
    have e3 : uS a x (n + 1) = uS a x n + upT a x n := rfl
    have k : ((n : Rat) + 1) * u * upT a x (n + 1) = u * (x * upT a x n) - u * (a * upT a x (n + 1)) := by rw [← e1]; grind
    rw [k] at t
    rw [e3] at ih ⊢
    grind
theorem uS_mono {a x y : Rat} (ha : 0 < a) (hx : 0 ≤ x) (hxy : x ≤ y) (M : Nat) : uS a x M ≤ uS a y M := by
  have t : ∀ n, upT a x n ≤ upT a y n := by
    intro n
    induction n with
    | zero => exact Rat.le_refl
    | succ n ih =>
      have e1 := upT_succ ha x n
      have e2 := upT_succ ha y n
      refine Rat.le_of_mul_le_mul_left (c := a + ((n : Rat) + 1)) ?_ (un_pos ha n)
      rw [e1, e2]
      exact Rat.le_trans (Rat.mul_le_mul_of_nonneg_left ih hx) (Rat.mul_le_mul_of_nonneg_right hxy (upT_nonneg ha (by grind) n))
  induction M with
  | zero => exact Rat.le_refl
  | succ n ih => have := t n; rw [uS_succ, uS_succ]; grind
theorem upT_tm {a x : Rat} (ha : 0 < a) (hx : 0 ≤ x) (n : Nat) : a * upT a x n ≤ tm x n := by
  induction n with
  | zero => rw [upT_zero ha]; exact Rat.le_refl
  | succ n ih =>
    have e1 := upT_succ ha x n
    have e2 := tm_succ x n
    have p := pos1 n
    have q := Rat.mul_nonneg (Rat.mul_nonneg (Rat.le_of_lt ha) (Rat.le_of_lt ha)) (upT_nonneg ha hx (n + 1))
    refine Rat.le_of_mul_le_mul_left (c := (n : Rat) + 1) ?_ p
    have m := Rat.mul_le_mul_of_nonneg_left ih hx
    have k : ((n : Rat) + 1) * (a * upT a x (n + 1)) = a * ((a + ((n : Rat) + 1)) * upT a x (n + 1)) - a * a * upT a x (n + 1) := by grind
    rw [k, e1, e2]
    grind
theorem upT_null {a x : Rat} (ha : 0 < a) (hx : 0 ≤ x) : Null (upT a x) := by
  obtain ⟨K, k0, hK⟩ := tm_bd x
  have h1 : Null (fun M => K / a * ((M : Rat) * q4 M)) := null_q4 (K / a) (qle_div ha (by grind))
  refine h1.of_le 1 fun M hM => ?_
  have a1 := upT_tm ha hx M
  have a2 := (hK M).2
  have a3 := upT_nonneg ha hx M
  have m1 : (1 : Rat) ≤ (M : Rat) := by exact_mod_cast hM
  have q := q4_pos M
  have d := rdm (a := K) ha
  have m2 := Rat.mul_le_mul_of_nonneg_left m1 (Rat.mul_nonneg k0 (Rat.le_of_lt q))
  have key : upT a x M ≤ K / a * ((M : Rat) * q4 M) := by
    refine Rat.le_of_mul_le_mul_left (c := a) ?_ ha
    have k : a * (K / a * ((M : Rat) * q4 M)) = K / a * a * ((M : Rat) * q4 M) := by grind
    rw [k, d]
    grind
  exact ⟨by grind, key⟩
theorem uS_bdd {a x : Rat} (ha : 0 < a) (hx : 0 ≤ x) : ∃ K, 0 ≤ K ∧ ∀ M, uS a x M ≤ K := by
  obtain ⟨K, k0, hK⟩ := E_bound x
  refine ⟨K / a, qle_div ha (by grind), fun M => ?_⟩
  have h := (hK M x ⟨by grind, Rat.le_refl⟩).2
  have s : a * uS a x M ≤ E x M := by
    induction M with
    | zero => show a * 0 ≤ 0; grind
    | succ n ih =>
      have t := upT_tm ha hx n
      have h' := (hK n x ⟨by grind, Rat.le_refl⟩).2
      have i := ih h'
      have e : E x (n + 1) = E x n + tm x n := rfl
      rw [uS_succ, e]
      grind
  refine Rat.le_of_mul_le_mul_left (c := a) ?_ ha
  have d := rdm (a := K) ha
  grind
theorem uS_Bdd {a x : Rat} (ha : 0 < a) (hx : 0 ≤ x) : Bdd (uS a x) := by
  obtain ⟨K, k0, hK⟩ := uS_bdd ha hx
  exact Bdd.of_le K 0 fun M _ => ⟨by have := uS_nonneg ha hx M; grind, hK M⟩
end Go.Proofs.YtgmnknmjainababGreat.Ex
