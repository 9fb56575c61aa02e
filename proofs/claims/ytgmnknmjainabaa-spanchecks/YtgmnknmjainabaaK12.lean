/-
  That tailsurelaw.SpanChecks answers true, one way behind another, and leaves old memory alone.
-/
import Derived.Test.YtgmnknmjainabaaK11
namespace Go.Proofs.Ytgmnknmjainabaa
set_option linter.unusedVariables false
set_option linter.unusedSimpArgs false
set_option linter.unnecessarySimpa false
open Go.RowKit
attribute [local go_sem ↓] Go.wp_at_zero Go.wp_at_succ

/-- A ratio lies in a block. -/
structure RtC (w : World) (B : Nat) (p q : Int) : Prop where
  c0 : w.cell? ⟨B, 0, none⟩ = some (.int .i64 p)
  c1 : w.cell? ⟨B, 1, none⟩ = some (.int .i64 q)
theorem RtC.lt {w : World} {B : Nat} {p q : Int} (h : RtC w B p q) : B < w.heap.size := World.block_lt_of_cell? w ⟨B, 0, none⟩ h.c0
theorem RtC.below {w w' : World} {B : Nat} {p q : Int} (h : RtC w B p q) (hb : Below w.heap.size w w') : RtC w' B p q :=
  ⟨(hb.cell (p := ⟨B, 0, none⟩) h.lt).trans h.c0, (hb.cell (p := ⟨B, 1, none⟩) h.lt).trans h.c1⟩
theorem spc_put {w : World} {B : Nat} (h : NoC w B) (s : Sp) : SpC (((((w.setCell ⟨B, 0, none⟩ (.bool s.ln)).setCell ⟨B, 1, none⟩ (.slice s.la s.lN s.lc)).setCell ⟨B, 2, none⟩ (.bool s.hn)).setCell ⟨B, 3, none⟩ (.slice s.ha s.hN s.hc)).setCell ⟨B, 4, none⟩ (.int .i64 s.bits)) B s := by
  obtain ⟨q0, q1, q2, q3, q4, q5⟩ := h
  exact ⟨by simp [go_sem, q0, q1, q2, q3, q4], by simp [go_sem, q0, q1, q2, q3, q4], by simp [go_sem, q0, q1, q2, q3, q4], by simp [go_sem, q0, q1, q2, q3, q4], by simp [go_sem, q0, q1, q2, q3, q4]⟩
theorem frozen_set (w : World) (a b : Addr) (v : Value) : (w.setCell a v).frozen? b = w.frozen? b := by simp [go_sem]
theorem NoC.put {w : World} {B B' : Nat} (h : NoC w B) (hne : B ≠ B') (u0 u1 u2 u3 u4 : Value) : NoC (((((w.setCell ⟨B', 0, none⟩ u0).setCell ⟨B', 1, none⟩ u1).setCell ⟨B', 2, none⟩ u2).setCell ⟨B', 3, none⟩ u3).setCell ⟨B', 4, none⟩ u4) B :=
  ⟨cell_put5 h.c0 hne _ _ _ _ _, cell_put5 h.c1 hne _ _ _ _ _, cell_put5 h.c2 hne _ _ _ _ _, cell_put5 h.c3 hne _ _ _ _ _, cell_put5 h.c4 hne _ _ _ _ _, fun o => by rw [frozen_set, frozen_set, frozen_set, frozen_set, frozen_set]; exact h.fz o⟩

set_option maxRecDepth 100000 in
set_option maxHeartbeats 4000000 in
theorem chk_rbo (w : World) (s : Sp) (p q bt : Int) (d e : Nat → Int) (hs : SpDig w s d e) (b1 lo1 hi1 b2 lo2 hi2 er2 L1 M1 L2 M2 lo hi : Int) (hr : decide (rok p q) = true) (hb : bitOk bt = true)
    (H1 : ∀ W, Calls Try.prog 15 #[.agg #[.int .i64 p, .int .i64 q], .int .i64 bt] W (PairAns W b1 70000 lo1 hi1 0)) (H2 : SaidT s bt d e b2 70000 lo2 hi2 er2)
    (HC : ∀ W, SpDig W s d e → Calls Try.prog 17 #[.agg #[.bool s.ln, .slice s.la s.lN s.lc, .bool s.hn, .slice s.ha s.hN s.hc, .int .i64 s.bits]] W fun r w' => r = .returned (.int .i64 0) ∧ Below W.heap.size W w') (HD : ∀ W, SpDig W s d e → Calls Try.prog 25 #[.agg #[.bool s.ln, .slice s.la s.lN s.lc, .bool s.hn, .slice s.ha s.hN s.hc, .int .i64 s.bits]] W fun r w' => r = .returned (.int .i64 0) ∧ Below W.heap.size W w')
    (HR : ∀ W, Calls Try.prog 21 #[.agg #[.int .i64 p, .int .i64 q], .int .i64 bt] W (SpanAns W bt 70000 L1 M1)) (D1 : SaidD bt 70000 L1 M1 b1 lo1 hi1 0)
    (HT : ∀ W, SpAt W s 250 lo hi → Calls Try.prog 22 #[.agg #[.bool s.ln, .slice s.la s.lN s.lc, .bool s.hn, .slice s.ha s.hN s.hc, .int .i64 s.bits], .int .i64 bt] W (SpanAns W bt 70000 L2 M2)) (ps : SpAt w s 250 lo hi) (D2 : SaidD bt 70000 L2 M2 b2 lo2 hi2 er2) (Z2 : er2 ≠ 0 → lo2 = 0 ∧ hi2 = 0 ∧ b2 = 0) :
    Calls Try.prog 3 #[.agg #[.bool s.ln, .slice s.la s.lN s.lc, .bool s.hn, .slice s.ha s.hN s.hc, .int .i64 s.bits], .agg #[.int .i64 p, .int .i64 q], .int .i64 bt] w fun r w' => r = .returned (.bool true) ∧ Below w.heap.size w w' := by
  obtain ⟨W, hW⟩ : ∃ W, W = (w.alloc (.cells #[.bool s.ln, .slice s.la s.lN s.lc, .bool s.hn, .slice s.ha s.hN s.hc, .int .i64 s.bits] 26)).alloc (.cells #[.int .i64 p, .int .i64 q] 28) := ⟨_, rfl⟩
  have hBW : Below w.heap.size w W := by rw [hW]; exact bl2 _ _ _
  have A : SpC W w.heap.size s := by rw [hW]; exact ⟨by simp [go_sem], by simp [go_sem], by simp [go_sem], by simp [go_sem], by simp [go_sem]⟩
  have G : RtC W (w.heap.size + 1) p q := by rw [hW]; exact ⟨by simp [go_sem], by simp [go_sem]⟩
  replace A := hide A
  replace G := hide G
  have DS := hide (hs.below hBW)
  clear hs
  have PS := hide (ps.below hBW)
  clear ps
  go_enter Try.func3, Try.ntmps3
  go_wp2_with fail
  rw [← hW]
  clear hW
  refine (H1 _).mono ?_
  rintro r w1 ⟨u1, rfl, hub1, hup1, hb1⟩
  have HUB1 := hide hub1
  clear hub1
  replace hBW := bthen hBW hb1
  replace A := hide ((unhide A).below hb1)
  replace G := hide ((unhide G).below hb1)
  replace DS := hide ((unhide DS).below hb1)
  replace PS := hide ((unhide PS).below hb1)
  clear hb1
  obtain ⟨W1, hW1⟩ : ∃ W', W' = w1.alloc (.cells #[.bool u1.ln, .slice u1.la u1.lN u1.lc, .bool u1.hn, .slice u1.ha u1.hN u1.hc, .int .i64 u1.bits] 26) := ⟨_, rfl⟩
  have hc1 : Below w1.heap.size w1 W1 := by rw [hW1]; exact bl1 _ _
  have U1 := hide (show SpC W1 w1.heap.size u1 by rw [hW1]; exact spc_new _ _ _)
  have lA := (unhide A).lt
  obtain ⟨x0, x1, x2, x3, x4⟩ := unhide A
  go_wp2_with fail
  rw [← hW1]
  clear hW1 lA x0 x1 x2 x3 x4
  replace hBW := bthen hBW hc1
  replace A := hide ((unhide A).below hc1)
  replace G := hide ((unhide G).below hc1)
  replace DS := hide ((unhide DS).below hc1)
  replace PS := hide ((unhide PS).below hc1)
  replace hup1 := hup1.below hc1
  clear hc1
  refine (H2 _ (unhide DS)).mono ?_
  rintro r w2 ⟨u2, rfl, hub2, hup2, hb2⟩
  have HUB2 := hide hub2
  clear hub2
  replace hBW := bthen hBW hb2
  replace A := hide ((unhide A).below hb2)
  replace G := hide ((unhide G).below hb2)
  replace DS := hide ((unhide DS).below hb2)
  replace PS := hide ((unhide PS).below hb2)
  replace U1 := hide ((unhide U1).below hb2)
  replace hup1 := hup1.below hb2
  clear hb2
  obtain ⟨W2, hW2⟩ : ∃ W', W' = w2.alloc (.cells #[.bool u2.ln, .slice u2.la u2.lN u2.lc, .bool u2.hn, .slice u2.ha u2.hN u2.hc, .int .i64 u2.bits] 26) := ⟨_, rfl⟩
  have hc2 : Below w2.heap.size w2 W2 := by rw [hW2]; exact bl1 _ _
  have U2 := hide (show SpC W2 w2.heap.size u2 by rw [hW2]; exact spc_new _ _ _)
  have lA := (unhide A).lt
  obtain ⟨x0, x1, x2, x3, x4⟩ := unhide A
  go_wp2_with fail
  rw [← hW2]
  clear hW2 lA x0 x1 x2 x3 x4
  replace hBW := bthen hBW hc2
  replace A := hide ((unhide A).below hc2)
  replace G := hide ((unhide G).below hc2)
  replace DS := hide ((unhide DS).below hc2)
  replace PS := hide ((unhide PS).below hc2)
  replace U1 := hide ((unhide U1).below hc2)
  replace hup1 := hup1.below hc2
  replace hup2 := hup2.below hc2
  clear hc2
  refine (HC _ (unhide DS)).mono ?_
  rintro r w3 ⟨rfl, hb3⟩
  replace hBW := bthen hBW hb3
  replace A := hide ((unhide A).below hb3)
  replace G := hide ((unhide G).below hb3)
  replace DS := hide ((unhide DS).below hb3)
  replace PS := hide ((unhide PS).below hb3)
  replace U1 := hide ((unhide U1).below hb3)
  replace U2 := hide ((unhide U2).below hb3)
  replace hup1 := hup1.below hb3
  replace hup2 := hup2.below hb3
  clear hb3
  have lG := (unhide G).lt
  obtain ⟨y0, y1⟩ := unhide G
  go_wp2_with fail
  clear lG y0 y1
  refine (refRightRatio _ _ _).mono ?_
  rintro r w4 ⟨rfl, hb4⟩
  rw [hr]
  replace hBW := bthen hBW hb4
  replace A := hide ((unhide A).below hb4)
  replace G := hide ((unhide G).below hb4)
  replace DS := hide ((unhide DS).below hb4)
  replace PS := hide ((unhide PS).below hb4)
  replace U1 := hide ((unhide U1).below hb4)
  replace U2 := hide ((unhide U2).below hb4)
  replace hup1 := hup1.below hb4
  replace hup2 := hup2.below hb4
  clear hb4
  obtain ⟨W4, hW4⟩ : ∃ W', W' = (w4.alloc (.cells #[.bool false, .slice none 0 0, .bool false, .slice none 0 0, .int .i64 0] 26)).alloc (.cells #[.bool false, .slice none 0 0, .bool false, .slice none 0 0, .int .i64 0] 26) := ⟨_, rfl⟩
  have hc : Below w4.heap.size w4 W4 := by rw [hW4]; exact bl2 _ _ _
  have N4 : NoC W4 w4.heap.size := by rw [hW4]; exact (noc_new w4 _).below (bl1 _ _)
  have N5 : NoC W4 (w4.heap.size + 1) := by rw [hW4]; exact noc_new' (w4.alloc _) _ (by simp) _
  have lA := (unhide A).lt
  obtain ⟨x0, x1, x2, x3, x4⟩ := unhide A
  have lG := (unhide G).lt
  obtain ⟨y0, y1⟩ := unhide G
  go_wp2_with fail
  refine (refRightBits _ _).mono ?_
  rintro r wb ⟨rfl, hwb⟩
  replace hwb := hwb.symm
  subst hwb
  rw [hb]
  go_wp2_with fail
  rw [← hW4]
  clear hW4 lA x0 x1 x2 x3 x4 lG y0 y1
  refine (HR _).mono ?_
  rintro r w5 ⟨v1, rfl, hvb1, hvp1, hb5⟩
  have HVB1 := hide hvb1
  clear hvb1
  replace hc := bthen hc hb5
  replace N4 := N4.below hb5
  replace N5 := N5.below hb5
  clear hb5
  go_wp2_with fail
  refine (D1 _ v1 hvp1 (unhide HVB1)).mono ?_
  rintro r w6 ⟨z1, rfl, hzb1, hzp1, hb6⟩
  have HZB1 := hide hzb1
  clear hzb1
  replace hc := bthen hc hb6
  replace N4 := N4.below hb6
  replace N5 := N5.below hb6
  clear hb6
  obtain ⟨W6, hW6⟩ : ∃ W', W' = (((((w6.setCell ⟨w4.heap.size, 0, none⟩ (.bool z1.ln)).setCell ⟨w4.heap.size, 1, none⟩ (.slice z1.la z1.lN z1.lc)).setCell ⟨w4.heap.size, 2, none⟩ (.bool z1.hn)).setCell ⟨w4.heap.size, 3, none⟩ (.slice z1.ha z1.hN z1.hc)).setCell ⟨w4.heap.size, 4, none⟩ (.int .i64 z1.bits)) := ⟨_, rfl⟩
  have hc6 : Below w4.heap.size w4 W6 := by rw [hW6]; exact set5 hc (Nat.le_refl _) _ _ _ _ _
  have T4 : SpC W6 w4.heap.size z1 := by rw [hW6]; exact spc_put N4 z1
  have htp1 : SpAt W6 z1 70000 lo1 hi1 := by rw [hW6]; exact SpAt.putN hzp1 N4 _ _ _ _ _
  have N5' : NoC W6 (w4.heap.size + 1) := by rw [hW6]; exact N5.put (by omega) _ _ _ _ _
  have l4 := N4.lt
  have l5 := N5.lt
  have n45 : w4.heap.size ≠ w4.heap.size + 1 := by omega
  obtain ⟨k0, k1, k2, k3, k4, k5⟩ := N4
  have lA := Nat.lt_of_lt_of_le (unhide A).lt hc.size
  obtain ⟨x0, x1, x2, x3, x4⟩ := (unhide A).below hc
  go_wp2_with fail
  rw [← hW6]
  clear hW6 k0 k1 k2 k3 k4 k5 l4 l5 lA x0 x1 x2 x3 x4
  replace hc := hc6
  replace N5 := N5'
  have lA := Nat.lt_of_lt_of_le (unhide A).lt hc.size
  obtain ⟨x0, x1, x2, x3, x4⟩ := (unhide A).below hc
  refine (refRightBits _ _).mono ?_
  rintro r wb ⟨rfl, hwb⟩
  replace hwb := hwb.symm
  subst hwb
  rw [hb]
  go_wp2_with fail
  clear lA x0 x1 x2 x3 x4
  refine (refOf_any _ s).mono ?_
  rintro r w7 ⟨rfl, hb7⟩
  replace hc := bthen hc hb7
  replace T4 := T4.below hb7
  replace N5 := N5.below hb7
  replace htp1 := htp1.below hb7
  clear hb7
  go_wp2_with fail
  refine (HT _ ((unhide PS).below hc)).mono ?_
  rintro r w8 ⟨v2, rfl, hvb2, hvp2, hb8⟩
  have HVB2 := hide hvb2
  clear hvb2
  replace hc := bthen hc hb8
  replace T4 := T4.below hb8
  replace N5 := N5.below hb8
  replace htp1 := htp1.below hb8
  clear hb8
  go_wp2_with fail
  refine (D2 _ v2 hvp2 (unhide HVB2)).mono ?_
  rintro r w9 ⟨z2, rfl, hzb2, hzp2, hb9⟩
  have HZB2 := hide hzb2
  clear hzb2
  replace hc := bthen hc hb9
  replace T4 := T4.below hb9
  replace N5 := N5.below hb9
  replace htp1 := htp1.below hb9
  clear hb9
  obtain ⟨W9, hW9⟩ : ∃ W', W' = (((((w9.setCell ⟨(w4.heap.size + 1), 0, none⟩ (.bool z2.ln)).setCell ⟨(w4.heap.size + 1), 1, none⟩ (.slice z2.la z2.lN z2.lc)).setCell ⟨(w4.heap.size + 1), 2, none⟩ (.bool z2.hn)).setCell ⟨(w4.heap.size + 1), 3, none⟩ (.slice z2.ha z2.hN z2.hc)).setCell ⟨(w4.heap.size + 1), 4, none⟩ (.int .i64 z2.bits)) := ⟨_, rfl⟩
  have hc9 : Below w4.heap.size w4 W9 := by rw [hW9]; exact set5 hc (Nat.le_succ _) _ _ _ _ _
  have T5 : SpC W9 (w4.heap.size + 1) z2 := by rw [hW9]; exact spc_put N5 z2
  have htp2 : SpAt W9 z2 70000 lo2 hi2 := by rw [hW9]; exact SpAt.putN hzp2 N5 _ _ _ _ _
  have T4' : SpC W9 w4.heap.size z1 := by rw [hW9]; exact T4.put (by omega) _ _ _ _ _
  have htp1' : SpAt W9 z1 70000 lo1 hi1 := by rw [hW9]; exact SpAt.putN htp1 N5 _ _ _ _ _
  have l5 := N5.lt
  obtain ⟨k0, k1, k2, k3, k4, k5⟩ := N5
  have lA := Nat.lt_of_lt_of_le (unhide A).lt hc.size
  obtain ⟨x0, x1, x2, x3, x4⟩ := (unhide A).below hc
  go_wp2_with fail
  rw [← hW9]
  clear hW9 k0 k1 k2 k3 k4 k5 l5 lA x0 x1 x2 x3 x4
  replace hc := hc9
  replace T4 := T4'
  replace htp1 := htp1'
  refine (spanBegun_any _).mono ?_
  rintro r wA ⟨rfl, hbA⟩
  replace hc := bthen hc hbA
  replace T4 := T4.below hbA
  replace T5 := T5.below hbA
  replace htp1 := htp1.below hbA
  replace htp2 := htp2.below hbA
  clear hbA
  have lA := Nat.lt_of_lt_of_le (unhide A).lt hc.size
  obtain ⟨x0, x1, x2, x3, x4⟩ := (unhide A).below hc
  go_wp2_with fail
  clear lA x0 x1 x2 x3 x4
  refine (HD _ ((unhide DS).below hc)).mono ?_
  rintro r wB ⟨rfl, hbB⟩
  replace hc := bthen hc hbB
  replace T4 := T4.below hbB
  replace T5 := T5.below hbB
  replace htp1 := htp1.below hbB
  replace htp2 := htp2.below hbB
  clear hbB
  have lx := Nat.lt_of_lt_of_le (unhide U1).lt hc.size
  obtain ⟨x0, x1, x2, x3, x4⟩ := (unhide U1).below hc
  have ly := T4.lt
  have Y := T4
  obtain ⟨y0, y1, y2, y3, y4⟩ := Y
  go_wp2_with fail
  clear lx ly x0 x1 x2 x3 x4 y0 y1 y2 y3 y4
  refine (spanIs_true _ u1 z1 70000 lo1 hi1 0 (hup1.below hc) htp1 ((unhide HUB1).trans (unhide HZB1).symm) (fun hq => absurd rfl hq)).mono ?_
  rintro r wC1 ⟨rfl, hbC1⟩
  replace hc := bthen hc hbC1
  replace T4 := T4.below hbC1
  replace T5 := T5.below hbC1
  replace htp1 := htp1.below hbC1
  replace htp2 := htp2.below hbC1
  have lx := Nat.lt_of_lt_of_le (unhide U2).lt hc.size
  obtain ⟨x0, x1, x2, x3, x4⟩ := (unhide U2).below hc
  have ly := T5.lt
  have Y := T5
  obtain ⟨y0, y1, y2, y3, y4⟩ := Y
  go_wp2_with fail
  clear lx ly x0 x1 x2 x3 x4 y0 y1 y2 y3 y4
  refine (spanIs_true _ u2 z2 70000 lo2 hi2 er2 (hup2.below hc) htp2 ((unhide HUB2).trans (unhide HZB2).symm) (fun hq => ⟨(Z2 hq).1, (Z2 hq).2.1, (unhide HUB2).trans (Z2 hq).2.2⟩)).mono ?_
  rintro r wC2 ⟨rfl, hbC2⟩
  go_wp2_with fail
  go_ret
  exact ⟨rfl, bthen hBW (bthen hc hbC2)⟩

set_option maxRecDepth 100000 in
set_option maxHeartbeats 4000000 in
theorem chk_rbe (w : World) (s : Sp) (p q bt : Int) (d e : Nat → Int) (hs : SpDig w s d e) (b1 lo1 hi1 b2 lo2 hi2 er2 L1 M1 L2 M2 lo hi : Int) (hr : decide (rok p q) = true) (hb : bitOk bt = true) (E : Int) (hE : (E == 0) = false)
    (H1 : ∀ W, Calls Try.prog 15 #[.agg #[.int .i64 p, .int .i64 q], .int .i64 bt] W (PairAns W b1 70000 lo1 hi1 0)) (H2 : SaidT s bt d e b2 70000 lo2 hi2 E)
    (HC : ∀ W, SpDig W s d e → Calls Try.prog 17 #[.agg #[.bool s.ln, .slice s.la s.lN s.lc, .bool s.hn, .slice s.ha s.hN s.hc, .int .i64 s.bits]] W fun r w' => r = .returned (.int .i64 E) ∧ Below W.heap.size W w') (HD : ∀ W, SpDig W s d e → Calls Try.prog 25 #[.agg #[.bool s.ln, .slice s.la s.lN s.lc, .bool s.hn, .slice s.ha s.hN s.hc, .int .i64 s.bits]] W fun r w' => r = .returned (.int .i64 E) ∧ Below W.heap.size W w')
    (HR : ∀ W, Calls Try.prog 21 #[.agg #[.int .i64 p, .int .i64 q], .int .i64 bt] W (SpanAns W bt 70000 L1 M1)) (D1 : SaidD bt 70000 L1 M1 b1 lo1 hi1 0)
    (Z2 : lo2 = 0 ∧ hi2 = 0 ∧ b2 = 0) :
    Calls Try.prog 3 #[.agg #[.bool s.ln, .slice s.la s.lN s.lc, .bool s.hn, .slice s.ha s.hN s.hc, .int .i64 s.bits], .agg #[.int .i64 p, .int .i64 q], .int .i64 bt] w fun r w' => r = .returned (.bool true) ∧ Below w.heap.size w w' := by
  obtain ⟨W, hW⟩ : ∃ W, W = (w.alloc (.cells #[.bool s.ln, .slice s.la s.lN s.lc, .bool s.hn, .slice s.ha s.hN s.hc, .int .i64 s.bits] 26)).alloc (.cells #[.int .i64 p, .int .i64 q] 28) := ⟨_, rfl⟩
  have hBW : Below w.heap.size w W := by rw [hW]; exact bl2 _ _ _
  have A : SpC W w.heap.size s := by rw [hW]; exact ⟨by simp [go_sem], by simp [go_sem], by simp [go_sem], by simp [go_sem], by simp [go_sem]⟩
  have G : RtC W (w.heap.size + 1) p q := by rw [hW]; exact ⟨by simp [go_sem], by simp [go_sem]⟩
  replace A := hide A
  replace G := hide G
  have DS := hide (hs.below hBW)
  clear hs
  go_enter Try.func3, Try.ntmps3
  go_wp2_with fail
  rw [← hW]
  clear hW
  refine (H1 _).mono ?_
  rintro r w1 ⟨u1, rfl, hub1, hup1, hb1⟩
  have HUB1 := hide hub1
  clear hub1
  replace hBW := bthen hBW hb1
  replace A := hide ((unhide A).below hb1)
  replace G := hide ((unhide G).below hb1)
  replace DS := hide ((unhide DS).below hb1)
  clear hb1
  obtain ⟨W1, hW1⟩ : ∃ W', W' = w1.alloc (.cells #[.bool u1.ln, .slice u1.la u1.lN u1.lc, .bool u1.hn, .slice u1.ha u1.hN u1.hc, .int .i64 u1.bits] 26) := ⟨_, rfl⟩
  have hc1 : Below w1.heap.size w1 W1 := by rw [hW1]; exact bl1 _ _
  have U1 := hide (show SpC W1 w1.heap.size u1 by rw [hW1]; exact spc_new _ _ _)
  have lA := (unhide A).lt
  obtain ⟨x0, x1, x2, x3, x4⟩ := unhide A
  go_wp2_with fail
  rw [← hW1]
  clear hW1 lA x0 x1 x2 x3 x4
  replace hBW := bthen hBW hc1
  replace A := hide ((unhide A).below hc1)
  replace G := hide ((unhide G).below hc1)
  replace DS := hide ((unhide DS).below hc1)
  replace hup1 := hup1.below hc1
  clear hc1
  refine (H2 _ (unhide DS)).mono ?_
  rintro r w2 ⟨u2, rfl, hub2, hup2, hb2⟩
  have HUB2 := hide hub2
  clear hub2
  replace hBW := bthen hBW hb2
  replace A := hide ((unhide A).below hb2)
  replace G := hide ((unhide G).below hb2)
  replace DS := hide ((unhide DS).below hb2)
  replace U1 := hide ((unhide U1).below hb2)
  replace hup1 := hup1.below hb2
  clear hb2
  obtain ⟨W2, hW2⟩ : ∃ W', W' = w2.alloc (.cells #[.bool u2.ln, .slice u2.la u2.lN u2.lc, .bool u2.hn, .slice u2.ha u2.hN u2.hc, .int .i64 u2.bits] 26) := ⟨_, rfl⟩
  have hc2 : Below w2.heap.size w2 W2 := by rw [hW2]; exact bl1 _ _
  have U2 := hide (show SpC W2 w2.heap.size u2 by rw [hW2]; exact spc_new _ _ _)
  have lA := (unhide A).lt
  obtain ⟨x0, x1, x2, x3, x4⟩ := unhide A
  go_wp2_with fail
  rw [← hW2]
  clear hW2 lA x0 x1 x2 x3 x4
  replace hBW := bthen hBW hc2
  replace A := hide ((unhide A).below hc2)
  replace G := hide ((unhide G).below hc2)
  replace DS := hide ((unhide DS).below hc2)
  replace U1 := hide ((unhide U1).below hc2)
  replace hup1 := hup1.below hc2
  replace hup2 := hup2.below hc2
  clear hc2
  refine (HC _ (unhide DS)).mono ?_
  rintro r w3 ⟨rfl, hb3⟩
  replace hBW := bthen hBW hb3
  replace A := hide ((unhide A).below hb3)
  replace G := hide ((unhide G).below hb3)
  replace DS := hide ((unhide DS).below hb3)
  replace U1 := hide ((unhide U1).below hb3)
  replace U2 := hide ((unhide U2).below hb3)
  replace hup1 := hup1.below hb3
  replace hup2 := hup2.below hb3
  clear hb3
  have lG := (unhide G).lt
  obtain ⟨y0, y1⟩ := unhide G
  go_wp2_with fail
  clear lG y0 y1
  refine (refRightRatio _ _ _).mono ?_
  rintro r w4 ⟨rfl, hb4⟩
  rw [hr]
  replace hBW := bthen hBW hb4
  replace A := hide ((unhide A).below hb4)
  replace G := hide ((unhide G).below hb4)
  replace DS := hide ((unhide DS).below hb4)
  replace U1 := hide ((unhide U1).below hb4)
  replace U2 := hide ((unhide U2).below hb4)
  replace hup1 := hup1.below hb4
  replace hup2 := hup2.below hb4
  clear hb4
  obtain ⟨W4, hW4⟩ : ∃ W', W' = (w4.alloc (.cells #[.bool false, .slice none 0 0, .bool false, .slice none 0 0, .int .i64 0] 26)).alloc (.cells #[.bool false, .slice none 0 0, .bool false, .slice none 0 0, .int .i64 0] 26) := ⟨_, rfl⟩
  have hc : Below w4.heap.size w4 W4 := by rw [hW4]; exact bl2 _ _ _
  have N4 : NoC W4 w4.heap.size := by rw [hW4]; exact (noc_new w4 _).below (bl1 _ _)
  have N5 : NoC W4 (w4.heap.size + 1) := by rw [hW4]; exact noc_new' (w4.alloc _) _ (by simp) _
  have lA := (unhide A).lt
  obtain ⟨x0, x1, x2, x3, x4⟩ := unhide A
  have lG := (unhide G).lt
  obtain ⟨y0, y1⟩ := unhide G
  go_wp2_with fail
  refine (refRightBits _ _).mono ?_
  rintro r wb ⟨rfl, hwb⟩
  replace hwb := hwb.symm
  subst hwb
  rw [hb]
  go_wp2_with fail
  rw [← hW4]
  clear hW4 lA x0 x1 x2 x3 x4 lG y0 y1
  refine (HR _).mono ?_
  rintro r w5 ⟨v1, rfl, hvb1, hvp1, hb5⟩
  have HVB1 := hide hvb1
  clear hvb1
  replace hc := bthen hc hb5
  replace N4 := N4.below hb5
  replace N5 := N5.below hb5
  clear hb5
  go_wp2_with fail
  refine (D1 _ v1 hvp1 (unhide HVB1)).mono ?_
  rintro r w6 ⟨z1, rfl, hzb1, hzp1, hb6⟩
  have HZB1 := hide hzb1
  clear hzb1
  replace hc := bthen hc hb6
  replace N4 := N4.below hb6
  replace N5 := N5.below hb6
  clear hb6
  obtain ⟨W6, hW6⟩ : ∃ W', W' = (((((w6.setCell ⟨w4.heap.size, 0, none⟩ (.bool z1.ln)).setCell ⟨w4.heap.size, 1, none⟩ (.slice z1.la z1.lN z1.lc)).setCell ⟨w4.heap.size, 2, none⟩ (.bool z1.hn)).setCell ⟨w4.heap.size, 3, none⟩ (.slice z1.ha z1.hN z1.hc)).setCell ⟨w4.heap.size, 4, none⟩ (.int .i64 z1.bits)) := ⟨_, rfl⟩
  have hc6 : Below w4.heap.size w4 W6 := by rw [hW6]; exact set5 hc (Nat.le_refl _) _ _ _ _ _
  have T4 : SpC W6 w4.heap.size z1 := by rw [hW6]; exact spc_put N4 z1
  have htp1 : SpAt W6 z1 70000 lo1 hi1 := by rw [hW6]; exact SpAt.putN hzp1 N4 _ _ _ _ _
  have N5' : NoC W6 (w4.heap.size + 1) := by rw [hW6]; exact N5.put (by omega) _ _ _ _ _
  have l4 := N4.lt
  have l5 := N5.lt
  have n45 : w4.heap.size ≠ w4.heap.size + 1 := by omega
  obtain ⟨k0, k1, k2, k3, k4, k5⟩ := N4
  have lA := Nat.lt_of_lt_of_le (unhide A).lt hc.size
  obtain ⟨x0, x1, x2, x3, x4⟩ := (unhide A).below hc
  go_wp2_with fail
  rw [← hW6]
  clear hW6 k0 k1 k2 k3 k4 k5 l4 l5 lA x0 x1 x2 x3 x4
  replace hc := hc6
  replace N5 := N5'
  refine (spanBegun_any _).mono ?_
  rintro r wA ⟨rfl, hbA⟩
  replace hc := bthen hc hbA
  replace T4 := T4.below hbA
  replace N5 := N5.below hbA
  replace htp1 := htp1.below hbA
  clear hbA
  have lA := Nat.lt_of_lt_of_le (unhide A).lt hc.size
  obtain ⟨x0, x1, x2, x3, x4⟩ := (unhide A).below hc
  go_wp2_with fail
  clear lA x0 x1 x2 x3 x4
  refine (HD _ ((unhide DS).below hc)).mono ?_
  rintro r wB ⟨rfl, hbB⟩
  replace hc := bthen hc hbB
  replace T4 := T4.below hbB
  replace N5 := N5.below hbB
  replace htp1 := htp1.below hbB
  clear hbB
  have lx := Nat.lt_of_lt_of_le (unhide U1).lt hc.size
  obtain ⟨x0, x1, x2, x3, x4⟩ := (unhide U1).below hc
  have ly := T4.lt
  have Y := T4
  obtain ⟨y0, y1, y2, y3, y4⟩ := Y
  go_wp2_with fail
  clear lx ly x0 x1 x2 x3 x4 y0 y1 y2 y3 y4
  refine (spanIs_true _ u1 z1 70000 lo1 hi1 0 (hup1.below hc) htp1 ((unhide HUB1).trans (unhide HZB1).symm) (fun hq => absurd rfl hq)).mono ?_
  rintro r wC1 ⟨rfl, hbC1⟩
  replace hc := bthen hc hbC1
  replace T4 := T4.below hbC1
  replace N5 := N5.below hbC1
  replace htp1 := htp1.below hbC1
  have lx := Nat.lt_of_lt_of_le (unhide U2).lt hc.size
  obtain ⟨x0, x1, x2, x3, x4⟩ := (unhide U2).below hc
  have ly := N5.lt
  have Y := N5
  obtain ⟨y0, y1, y2, y3, y4, y5⟩ := Y
  go_wp2_with fail
  clear lx ly x0 x1 x2 x3 x4 y0 y1 y2 y3 y4 y5
  refine (spanIs_true _ u2 ⟨false, none, 0, 0, false, none, 0, 0, 0⟩ 70000 lo2 hi2 E (hup2.below hc) (by rw [Z2.1, Z2.2.1]; exact zeroSp _ _) ((unhide HUB2).trans Z2.2.2) (fun _ => ⟨Z2.1, Z2.2.1, (unhide HUB2).trans Z2.2.2⟩)).mono ?_
  rintro r wC2 ⟨rfl, hbC2⟩
  go_wp2_with fail
  go_ret
  exact ⟨rfl, bthen hBW (bthen hc hbC2)⟩

set_option maxRecDepth 100000 in
set_option maxHeartbeats 4000000 in
theorem chk_rno (w : World) (s : Sp) (p q bt : Int) (d e : Nat → Int) (hs : SpDig w s d e) (b1 lo1 hi1 b2 lo2 hi2 er2 L1 M1 L2 M2 lo hi : Int) (hr : decide (rok p q) = true) (hb : bitOk bt = false)
    (H1 : ∀ W, Calls Try.prog 15 #[.agg #[.int .i64 p, .int .i64 q], .int .i64 bt] W (PairAns W b1 70000 lo1 hi1 3)) (H2 : SaidT s bt d e b2 70000 lo2 hi2 3)
    (HC : ∀ W, SpDig W s d e → Calls Try.prog 17 #[.agg #[.bool s.ln, .slice s.la s.lN s.lc, .bool s.hn, .slice s.ha s.hN s.hc, .int .i64 s.bits]] W fun r w' => r = .returned (.int .i64 0) ∧ Below W.heap.size W w') (HD : ∀ W, SpDig W s d e → Calls Try.prog 25 #[.agg #[.bool s.ln, .slice s.la s.lN s.lc, .bool s.hn, .slice s.ha s.hN s.hc, .int .i64 s.bits]] W fun r w' => r = .returned (.int .i64 0) ∧ Below W.heap.size W w')
    (Z1 : lo1 = 0 ∧ hi1 = 0 ∧ b1 = 0)
    (Z2 : lo2 = 0 ∧ hi2 = 0 ∧ b2 = 0) :
    Calls Try.prog 3 #[.agg #[.bool s.ln, .slice s.la s.lN s.lc, .bool s.hn, .slice s.ha s.hN s.hc, .int .i64 s.bits], .agg #[.int .i64 p, .int .i64 q], .int .i64 bt] w fun r w' => r = .returned (.bool true) ∧ Below w.heap.size w w' := by
  obtain ⟨W, hW⟩ : ∃ W, W = (w.alloc (.cells #[.bool s.ln, .slice s.la s.lN s.lc, .bool s.hn, .slice s.ha s.hN s.hc, .int .i64 s.bits] 26)).alloc (.cells #[.int .i64 p, .int .i64 q] 28) := ⟨_, rfl⟩
  have hBW : Below w.heap.size w W := by rw [hW]; exact bl2 _ _ _
  have A : SpC W w.heap.size s := by rw [hW]; exact ⟨by simp [go_sem], by simp [go_sem], by simp [go_sem], by simp [go_sem], by simp [go_sem]⟩
  have G : RtC W (w.heap.size + 1) p q := by rw [hW]; exact ⟨by simp [go_sem], by simp [go_sem]⟩
  replace A := hide A
  replace G := hide G
  have DS := hide (hs.below hBW)
  clear hs
  go_enter Try.func3, Try.ntmps3
  go_wp2_with fail
  rw [← hW]
  clear hW
  refine (H1 _).mono ?_
  rintro r w1 ⟨u1, rfl, hub1, hup1, hb1⟩
  have HUB1 := hide hub1
  clear hub1
  replace hBW := bthen hBW hb1
  replace A := hide ((unhide A).below hb1)
  replace G := hide ((unhide G).below hb1)
  replace DS := hide ((unhide DS).below hb1)
  clear hb1
  obtain ⟨W1, hW1⟩ : ∃ W', W' = w1.alloc (.cells #[.bool u1.ln, .slice u1.la u1.lN u1.lc, .bool u1.hn, .slice u1.ha u1.hN u1.hc, .int .i64 u1.bits] 26) := ⟨_, rfl⟩
  have hc1 : Below w1.heap.size w1 W1 := by rw [hW1]; exact bl1 _ _
  have U1 := hide (show SpC W1 w1.heap.size u1 by rw [hW1]; exact spc_new _ _ _)
  have lA := (unhide A).lt
  obtain ⟨x0, x1, x2, x3, x4⟩ := unhide A
  go_wp2_with fail
  rw [← hW1]
  clear hW1 lA x0 x1 x2 x3 x4
  replace hBW := bthen hBW hc1
  replace A := hide ((unhide A).below hc1)
  replace G := hide ((unhide G).below hc1)
  replace DS := hide ((unhide DS).below hc1)
  replace hup1 := hup1.below hc1
  clear hc1
  refine (H2 _ (unhide DS)).mono ?_
  rintro r w2 ⟨u2, rfl, hub2, hup2, hb2⟩
  have HUB2 := hide hub2
  clear hub2
  replace hBW := bthen hBW hb2
  replace A := hide ((unhide A).below hb2)
  replace G := hide ((unhide G).below hb2)
  replace DS := hide ((unhide DS).below hb2)
  replace U1 := hide ((unhide U1).below hb2)
  replace hup1 := hup1.below hb2
  clear hb2
  obtain ⟨W2, hW2⟩ : ∃ W', W' = w2.alloc (.cells #[.bool u2.ln, .slice u2.la u2.lN u2.lc, .bool u2.hn, .slice u2.ha u2.hN u2.hc, .int .i64 u2.bits] 26) := ⟨_, rfl⟩
  have hc2 : Below w2.heap.size w2 W2 := by rw [hW2]; exact bl1 _ _
  have U2 := hide (show SpC W2 w2.heap.size u2 by rw [hW2]; exact spc_new _ _ _)
  have lA := (unhide A).lt
  obtain ⟨x0, x1, x2, x3, x4⟩ := unhide A
  go_wp2_with fail
  rw [← hW2]
  clear hW2 lA x0 x1 x2 x3 x4
  replace hBW := bthen hBW hc2
  replace A := hide ((unhide A).below hc2)
  replace G := hide ((unhide G).below hc2)
  replace DS := hide ((unhide DS).below hc2)
  replace U1 := hide ((unhide U1).below hc2)
  replace hup1 := hup1.below hc2
  replace hup2 := hup2.below hc2
  clear hc2
  refine (HC _ (unhide DS)).mono ?_
  rintro r w3 ⟨rfl, hb3⟩
  replace hBW := bthen hBW hb3
  replace A := hide ((unhide A).below hb3)
  replace G := hide ((unhide G).below hb3)
  replace DS := hide ((unhide DS).below hb3)
  replace U1 := hide ((unhide U1).below hb3)
  replace U2 := hide ((unhide U2).below hb3)
  replace hup1 := hup1.below hb3
  replace hup2 := hup2.below hb3
  clear hb3
  have lG := (unhide G).lt
  obtain ⟨y0, y1⟩ := unhide G
  go_wp2_with fail
  clear lG y0 y1
  refine (refRightRatio _ _ _).mono ?_
  rintro r w4 ⟨rfl, hb4⟩
  rw [hr]
  replace hBW := bthen hBW hb4
  replace A := hide ((unhide A).below hb4)
  replace G := hide ((unhide G).below hb4)
  replace DS := hide ((unhide DS).below hb4)
  replace U1 := hide ((unhide U1).below hb4)
  replace U2 := hide ((unhide U2).below hb4)
  replace hup1 := hup1.below hb4
  replace hup2 := hup2.below hb4
  clear hb4
  obtain ⟨W4, hW4⟩ : ∃ W', W' = (w4.alloc (.cells #[.bool false, .slice none 0 0, .bool false, .slice none 0 0, .int .i64 0] 26)).alloc (.cells #[.bool false, .slice none 0 0, .bool false, .slice none 0 0, .int .i64 0] 26) := ⟨_, rfl⟩
  have hc : Below w4.heap.size w4 W4 := by rw [hW4]; exact bl2 _ _ _
  have N4 : NoC W4 w4.heap.size := by rw [hW4]; exact (noc_new w4 _).below (bl1 _ _)
  have N5 : NoC W4 (w4.heap.size + 1) := by rw [hW4]; exact noc_new' (w4.alloc _) _ (by simp) _
  have lA := (unhide A).lt
  obtain ⟨x0, x1, x2, x3, x4⟩ := unhide A
  have lG := (unhide G).lt
  obtain ⟨y0, y1⟩ := unhide G
  go_wp2_with fail
  refine (refRightBits _ _).mono ?_
  rintro r wb ⟨rfl, hwb⟩
  replace hwb := hwb.symm
  subst hwb
  rw [hb]
  go_wp2_with fail
  rw [← hW4]
  clear hW4 lA x0 x1 x2 x3 x4 lG y0 y1
  have lA := Nat.lt_of_lt_of_le (unhide A).lt hc.size
  obtain ⟨x0, x1, x2, x3, x4⟩ := (unhide A).below hc
  refine (refRightBits _ _).mono ?_
  rintro r wb ⟨rfl, hwb⟩
  replace hwb := hwb.symm
  subst hwb
  rw [hb]
  go_wp2_with fail
  clear lA x0 x1 x2 x3 x4
  refine (spanBegun_any _).mono ?_
  rintro r wA ⟨rfl, hbA⟩
  replace hc := bthen hc hbA
  replace N4 := N4.below hbA
  replace N5 := N5.below hbA
  clear hbA
  have lA := Nat.lt_of_lt_of_le (unhide A).lt hc.size
  obtain ⟨x0, x1, x2, x3, x4⟩ := (unhide A).below hc
  go_wp2_with fail
  clear lA x0 x1 x2 x3 x4
  refine (HD _ ((unhide DS).below hc)).mono ?_
  rintro r wB ⟨rfl, hbB⟩
  replace hc := bthen hc hbB
  replace N4 := N4.below hbB
  replace N5 := N5.below hbB
  clear hbB
  have lx := Nat.lt_of_lt_of_le (unhide U1).lt hc.size
  obtain ⟨x0, x1, x2, x3, x4⟩ := (unhide U1).below hc
  have ly := N4.lt
  have Y := N4
  obtain ⟨y0, y1, y2, y3, y4, y5⟩ := Y
  go_wp2_with fail
  clear lx ly x0 x1 x2 x3 x4 y0 y1 y2 y3 y4 y5
  refine (spanIs_true _ u1 ⟨false, none, 0, 0, false, none, 0, 0, 0⟩ 70000 lo1 hi1 3 (hup1.below hc) (by rw [Z1.1, Z1.2.1]; exact zeroSp _ _) ((unhide HUB1).trans Z1.2.2) (fun _ => ⟨Z1.1, Z1.2.1, (unhide HUB1).trans Z1.2.2⟩)).mono ?_
  rintro r wC1 ⟨rfl, hbC1⟩
  replace hc := bthen hc hbC1
  replace N4 := N4.below hbC1
  replace N5 := N5.below hbC1
  have lx := Nat.lt_of_lt_of_le (unhide U2).lt hc.size
  obtain ⟨x0, x1, x2, x3, x4⟩ := (unhide U2).below hc
  have ly := N5.lt
  have Y := N5
  obtain ⟨y0, y1, y2, y3, y4, y5⟩ := Y
  go_wp2_with fail
  clear lx ly x0 x1 x2 x3 x4 y0 y1 y2 y3 y4 y5
  refine (spanIs_true _ u2 ⟨false, none, 0, 0, false, none, 0, 0, 0⟩ 70000 lo2 hi2 3 (hup2.below hc) (by rw [Z2.1, Z2.2.1]; exact zeroSp _ _) ((unhide HUB2).trans Z2.2.2) (fun _ => ⟨Z2.1, Z2.2.1, (unhide HUB2).trans Z2.2.2⟩)).mono ?_
  rintro r wC2 ⟨rfl, hbC2⟩
  go_wp2_with fail
  go_ret
  exact ⟨rfl, bthen hBW (bthen hc hbC2)⟩

set_option maxRecDepth 100000 in
set_option maxHeartbeats 4000000 in
theorem chk_rne (w : World) (s : Sp) (p q bt : Int) (d e : Nat → Int) (hs : SpDig w s d e) (b1 lo1 hi1 b2 lo2 hi2 er2 L1 M1 L2 M2 lo hi : Int) (hr : decide (rok p q) = true) (hb : bitOk bt = false) (E : Int) (hE : (E == 0) = false)
    (H1 : ∀ W, Calls Try.prog 15 #[.agg #[.int .i64 p, .int .i64 q], .int .i64 bt] W (PairAns W b1 70000 lo1 hi1 3)) (H2 : SaidT s bt d e b2 70000 lo2 hi2 E)
    (HC : ∀ W, SpDig W s d e → Calls Try.prog 17 #[.agg #[.bool s.ln, .slice s.la s.lN s.lc, .bool s.hn, .slice s.ha s.hN s.hc, .int .i64 s.bits]] W fun r w' => r = .returned (.int .i64 E) ∧ Below W.heap.size W w') (HD : ∀ W, SpDig W s d e → Calls Try.prog 25 #[.agg #[.bool s.ln, .slice s.la s.lN s.lc, .bool s.hn, .slice s.ha s.hN s.hc, .int .i64 s.bits]] W fun r w' => r = .returned (.int .i64 E) ∧ Below W.heap.size W w')
    (Z1 : lo1 = 0 ∧ hi1 = 0 ∧ b1 = 0)
    (Z2 : lo2 = 0 ∧ hi2 = 0 ∧ b2 = 0) :
    Calls Try.prog 3 #[.agg #[.bool s.ln, .slice s.la s.lN s.lc, .bool s.hn, .slice s.ha s.hN s.hc, .int .i64 s.bits], .agg #[.int .i64 p, .int .i64 q], .int .i64 bt] w fun r w' => r = .returned (.bool true) ∧ Below w.heap.size w w' := by
  obtain ⟨W, hW⟩ : ∃ W, W = (w.alloc (.cells #[.bool s.ln, .slice s.la s.lN s.lc, .bool s.hn, .slice s.ha s.hN s.hc, .int .i64 s.bits] 26)).alloc (.cells #[.int .i64 p, .int .i64 q] 28) := ⟨_, rfl⟩
  have hBW : Below w.heap.size w W := by rw [hW]; exact bl2 _ _ _
  have A : SpC W w.heap.size s := by rw [hW]; exact ⟨by simp [go_sem], by simp [go_sem], by simp [go_sem], by simp [go_sem], by simp [go_sem]⟩
  have G : RtC W (w.heap.size + 1) p q := by rw [hW]; exact ⟨by simp [go_sem], by simp [go_sem]⟩
  replace A := hide A
  replace G := hide G
  have DS := hide (hs.below hBW)
  clear hs
  go_enter Try.func3, Try.ntmps3
  go_wp2_with fail
  rw [← hW]
  clear hW
  refine (H1 _).mono ?_
  rintro r w1 ⟨u1, rfl, hub1, hup1, hb1⟩
  have HUB1 := hide hub1
  clear hub1
  replace hBW := bthen hBW hb1
  replace A := hide ((unhide A).below hb1)
  replace G := hide ((unhide G).below hb1)
  replace DS := hide ((unhide DS).below hb1)
  clear hb1
  obtain ⟨W1, hW1⟩ : ∃ W', W' = w1.alloc (.cells #[.bool u1.ln, .slice u1.la u1.lN u1.lc, .bool u1.hn, .slice u1.ha u1.hN u1.hc, .int .i64 u1.bits] 26) := ⟨_, rfl⟩
  have hc1 : Below w1.heap.size w1 W1 := by rw [hW1]; exact bl1 _ _
  have U1 := hide (show SpC W1 w1.heap.size u1 by rw [hW1]; exact spc_new _ _ _)
  have lA := (unhide A).lt
  obtain ⟨x0, x1, x2, x3, x4⟩ := unhide A
  go_wp2_with fail
  rw [← hW1]
  clear hW1 lA x0 x1 x2 x3 x4
  replace hBW := bthen hBW hc1
  replace A := hide ((unhide A).below hc1)
  replace G := hide ((unhide G).below hc1)
  replace DS := hide ((unhide DS).below hc1)
  replace hup1 := hup1.below hc1
  clear hc1
  refine (H2 _ (unhide DS)).mono ?_
  rintro r w2 ⟨u2, rfl, hub2, hup2, hb2⟩
  have HUB2 := hide hub2
  clear hub2
  replace hBW := bthen hBW hb2
  replace A := hide ((unhide A).below hb2)
  replace G := hide ((unhide G).below hb2)
  replace DS := hide ((unhide DS).below hb2)
  replace U1 := hide ((unhide U1).below hb2)
  replace hup1 := hup1.below hb2
  clear hb2
  obtain ⟨W2, hW2⟩ : ∃ W', W' = w2.alloc (.cells #[.bool u2.ln, .slice u2.la u2.lN u2.lc, .bool u2.hn, .slice u2.ha u2.hN u2.hc, .int .i64 u2.bits] 26) := ⟨_, rfl⟩
  have hc2 : Below w2.heap.size w2 W2 := by rw [hW2]; exact bl1 _ _
  have U2 := hide (show SpC W2 w2.heap.size u2 by rw [hW2]; exact spc_new _ _ _)
  have lA := (unhide A).lt
  obtain ⟨x0, x1, x2, x3, x4⟩ := unhide A
  go_wp2_with fail
  rw [← hW2]
  clear hW2 lA x0 x1 x2 x3 x4
  replace hBW := bthen hBW hc2
  replace A := hide ((unhide A).below hc2)
  replace G := hide ((unhide G).below hc2)
  replace DS := hide ((unhide DS).below hc2)
  replace U1 := hide ((unhide U1).below hc2)
  replace hup1 := hup1.below hc2
  replace hup2 := hup2.below hc2
  clear hc2
  refine (HC _ (unhide DS)).mono ?_
  rintro r w3 ⟨rfl, hb3⟩
  replace hBW := bthen hBW hb3
  replace A := hide ((unhide A).below hb3)
  replace G := hide ((unhide G).below hb3)
  replace DS := hide ((unhide DS).below hb3)
  replace U1 := hide ((unhide U1).below hb3)
  replace U2 := hide ((unhide U2).below hb3)
  replace hup1 := hup1.below hb3
  replace hup2 := hup2.below hb3
  clear hb3
  have lG := (unhide G).lt
  obtain ⟨y0, y1⟩ := unhide G
  go_wp2_with fail
  clear lG y0 y1
  refine (refRightRatio _ _ _).mono ?_
  rintro r w4 ⟨rfl, hb4⟩
  rw [hr]
  replace hBW := bthen hBW hb4
  replace A := hide ((unhide A).below hb4)
  replace G := hide ((unhide G).below hb4)
  replace DS := hide ((unhide DS).below hb4)
  replace U1 := hide ((unhide U1).below hb4)
  replace U2 := hide ((unhide U2).below hb4)
  replace hup1 := hup1.below hb4
  replace hup2 := hup2.below hb4
  clear hb4
  obtain ⟨W4, hW4⟩ : ∃ W', W' = (w4.alloc (.cells #[.bool false, .slice none 0 0, .bool false, .slice none 0 0, .int .i64 0] 26)).alloc (.cells #[.bool false, .slice none 0 0, .bool false, .slice none 0 0, .int .i64 0] 26) := ⟨_, rfl⟩
  have hc : Below w4.heap.size w4 W4 := by rw [hW4]; exact bl2 _ _ _
  have N4 : NoC W4 w4.heap.size := by rw [hW4]; exact (noc_new w4 _).below (bl1 _ _)
  have N5 : NoC W4 (w4.heap.size + 1) := by rw [hW4]; exact noc_new' (w4.alloc _) _ (by simp) _
  have lA := (unhide A).lt
  obtain ⟨x0, x1, x2, x3, x4⟩ := unhide A
  have lG := (unhide G).lt
  obtain ⟨y0, y1⟩ := unhide G
  go_wp2_with fail
  refine (refRightBits _ _).mono ?_
  rintro r wb ⟨rfl, hwb⟩
  replace hwb := hwb.symm
  subst hwb
  rw [hb]
  go_wp2_with fail
  rw [← hW4]
  clear hW4 lA x0 x1 x2 x3 x4 lG y0 y1
  refine (spanBegun_any _).mono ?_
  rintro r wA ⟨rfl, hbA⟩
  replace hc := bthen hc hbA
  replace N4 := N4.below hbA
  replace N5 := N5.below hbA
  clear hbA
  have lA := Nat.lt_of_lt_of_le (unhide A).lt hc.size
  obtain ⟨x0, x1, x2, x3, x4⟩ := (unhide A).below hc
  go_wp2_with fail
  clear lA x0 x1 x2 x3 x4
  refine (HD _ ((unhide DS).below hc)).mono ?_
  rintro r wB ⟨rfl, hbB⟩
  replace hc := bthen hc hbB
  replace N4 := N4.below hbB
  replace N5 := N5.below hbB
  clear hbB
  have lx := Nat.lt_of_lt_of_le (unhide U1).lt hc.size
  obtain ⟨x0, x1, x2, x3, x4⟩ := (unhide U1).below hc
  have ly := N4.lt
  have Y := N4
  obtain ⟨y0, y1, y2, y3, y4, y5⟩ := Y
  go_wp2_with fail
  clear lx ly x0 x1 x2 x3 x4 y0 y1 y2 y3 y4 y5
  refine (spanIs_true _ u1 ⟨false, none, 0, 0, false, none, 0, 0, 0⟩ 70000 lo1 hi1 3 (hup1.below hc) (by rw [Z1.1, Z1.2.1]; exact zeroSp _ _) ((unhide HUB1).trans Z1.2.2) (fun _ => ⟨Z1.1, Z1.2.1, (unhide HUB1).trans Z1.2.2⟩)).mono ?_
  rintro r wC1 ⟨rfl, hbC1⟩
  replace hc := bthen hc hbC1
  replace N4 := N4.below hbC1
  replace N5 := N5.below hbC1
  have lx := Nat.lt_of_lt_of_le (unhide U2).lt hc.size
  obtain ⟨x0, x1, x2, x3, x4⟩ := (unhide U2).below hc
  have ly := N5.lt
  have Y := N5
  obtain ⟨y0, y1, y2, y3, y4, y5⟩ := Y
  go_wp2_with fail
  clear lx ly x0 x1 x2 x3 x4 y0 y1 y2 y3 y4 y5
  refine (spanIs_true _ u2 ⟨false, none, 0, 0, false, none, 0, 0, 0⟩ 70000 lo2 hi2 E (hup2.below hc) (by rw [Z2.1, Z2.2.1]; exact zeroSp _ _) ((unhide HUB2).trans Z2.2.2) (fun _ => ⟨Z2.1, Z2.2.1, (unhide HUB2).trans Z2.2.2⟩)).mono ?_
  rintro r wC2 ⟨rfl, hbC2⟩
  go_wp2_with fail
  go_ret
  exact ⟨rfl, bthen hBW (bthen hc hbC2)⟩

set_option maxRecDepth 100000 in
set_option maxHeartbeats 4000000 in
theorem chk_nbo (w : World) (s : Sp) (p q bt : Int) (d e : Nat → Int) (hs : SpDig w s d e) (b1 lo1 hi1 b2 lo2 hi2 er2 L1 M1 L2 M2 lo hi : Int) (hr : decide (rok p q) = false) (hb : bitOk bt = true)
    (H1 : ∀ W, Calls Try.prog 15 #[.agg #[.int .i64 p, .int .i64 q], .int .i64 bt] W (PairAns W b1 70000 lo1 hi1 3)) (H2 : SaidT s bt d e b2 70000 lo2 hi2 er2)
    (HC : ∀ W, SpDig W s d e → Calls Try.prog 17 #[.agg #[.bool s.ln, .slice s.la s.lN s.lc, .bool s.hn, .slice s.ha s.hN s.hc, .int .i64 s.bits]] W fun r w' => r = .returned (.int .i64 0) ∧ Below W.heap.size W w') (HD : ∀ W, SpDig W s d e → Calls Try.prog 25 #[.agg #[.bool s.ln, .slice s.la s.lN s.lc, .bool s.hn, .slice s.ha s.hN s.hc, .int .i64 s.bits]] W fun r w' => r = .returned (.int .i64 0) ∧ Below W.heap.size W w')
    (Z1 : lo1 = 0 ∧ hi1 = 0 ∧ b1 = 0)
    (HT : ∀ W, SpAt W s 250 lo hi → Calls Try.prog 22 #[.agg #[.bool s.ln, .slice s.la s.lN s.lc, .bool s.hn, .slice s.ha s.hN s.hc, .int .i64 s.bits], .int .i64 bt] W (SpanAns W bt 70000 L2 M2)) (ps : SpAt w s 250 lo hi) (D2 : SaidD bt 70000 L2 M2 b2 lo2 hi2 er2) (Z2 : er2 ≠ 0 → lo2 = 0 ∧ hi2 = 0 ∧ b2 = 0) :
    Calls Try.prog 3 #[.agg #[.bool s.ln, .slice s.la s.lN s.lc, .bool s.hn, .slice s.ha s.hN s.hc, .int .i64 s.bits], .agg #[.int .i64 p, .int .i64 q], .int .i64 bt] w fun r w' => r = .returned (.bool true) ∧ Below w.heap.size w w' := by
  obtain ⟨W, hW⟩ : ∃ W, W = (w.alloc (.cells #[.bool s.ln, .slice s.la s.lN s.lc, .bool s.hn, .slice s.ha s.hN s.hc, .int .i64 s.bits] 26)).alloc (.cells #[.int .i64 p, .int .i64 q] 28) := ⟨_, rfl⟩
  have hBW : Below w.heap.size w W := by rw [hW]; exact bl2 _ _ _
  have A : SpC W w.heap.size s := by rw [hW]; exact ⟨by simp [go_sem], by simp [go_sem], by simp [go_sem], by simp [go_sem], by simp [go_sem]⟩
  have G : RtC W (w.heap.size + 1) p q := by rw [hW]; exact ⟨by simp [go_sem], by simp [go_sem]⟩
  replace A := hide A
  replace G := hide G
  have DS := hide (hs.below hBW)
  clear hs
  have PS := hide (ps.below hBW)
  clear ps
  go_enter Try.func3, Try.ntmps3
  go_wp2_with fail
  rw [← hW]
  clear hW
  refine (H1 _).mono ?_
  rintro r w1 ⟨u1, rfl, hub1, hup1, hb1⟩
  have HUB1 := hide hub1
  clear hub1
  replace hBW := bthen hBW hb1
  replace A := hide ((unhide A).below hb1)
  replace G := hide ((unhide G).below hb1)
  replace DS := hide ((unhide DS).below hb1)
  replace PS := hide ((unhide PS).below hb1)
  clear hb1
  obtain ⟨W1, hW1⟩ : ∃ W', W' = w1.alloc (.cells #[.bool u1.ln, .slice u1.la u1.lN u1.lc, .bool u1.hn, .slice u1.ha u1.hN u1.hc, .int .i64 u1.bits] 26) := ⟨_, rfl⟩
  have hc1 : Below w1.heap.size w1 W1 := by rw [hW1]; exact bl1 _ _
  have U1 := hide (show SpC W1 w1.heap.size u1 by rw [hW1]; exact spc_new _ _ _)
  have lA := (unhide A).lt
  obtain ⟨x0, x1, x2, x3, x4⟩ := unhide A
  go_wp2_with fail
  rw [← hW1]
  clear hW1 lA x0 x1 x2 x3 x4
  replace hBW := bthen hBW hc1
  replace A := hide ((unhide A).below hc1)
  replace G := hide ((unhide G).below hc1)
  replace DS := hide ((unhide DS).below hc1)
  replace PS := hide ((unhide PS).below hc1)
  replace hup1 := hup1.below hc1
  clear hc1
  refine (H2 _ (unhide DS)).mono ?_
  rintro r w2 ⟨u2, rfl, hub2, hup2, hb2⟩
  have HUB2 := hide hub2
  clear hub2
  replace hBW := bthen hBW hb2
  replace A := hide ((unhide A).below hb2)
  replace G := hide ((unhide G).below hb2)
  replace DS := hide ((unhide DS).below hb2)
  replace PS := hide ((unhide PS).below hb2)
  replace U1 := hide ((unhide U1).below hb2)
  replace hup1 := hup1.below hb2
  clear hb2
  obtain ⟨W2, hW2⟩ : ∃ W', W' = w2.alloc (.cells #[.bool u2.ln, .slice u2.la u2.lN u2.lc, .bool u2.hn, .slice u2.ha u2.hN u2.hc, .int .i64 u2.bits] 26) := ⟨_, rfl⟩
  have hc2 : Below w2.heap.size w2 W2 := by rw [hW2]; exact bl1 _ _
  have U2 := hide (show SpC W2 w2.heap.size u2 by rw [hW2]; exact spc_new _ _ _)
  have lA := (unhide A).lt
  obtain ⟨x0, x1, x2, x3, x4⟩ := unhide A
  go_wp2_with fail
  rw [← hW2]
  clear hW2 lA x0 x1 x2 x3 x4
  replace hBW := bthen hBW hc2
  replace A := hide ((unhide A).below hc2)
  replace G := hide ((unhide G).below hc2)
  replace DS := hide ((unhide DS).below hc2)
  replace PS := hide ((unhide PS).below hc2)
  replace U1 := hide ((unhide U1).below hc2)
  replace hup1 := hup1.below hc2
  replace hup2 := hup2.below hc2
  clear hc2
  refine (HC _ (unhide DS)).mono ?_
  rintro r w3 ⟨rfl, hb3⟩
  replace hBW := bthen hBW hb3
  replace A := hide ((unhide A).below hb3)
  replace G := hide ((unhide G).below hb3)
  replace DS := hide ((unhide DS).below hb3)
  replace PS := hide ((unhide PS).below hb3)
  replace U1 := hide ((unhide U1).below hb3)
  replace U2 := hide ((unhide U2).below hb3)
  replace hup1 := hup1.below hb3
  replace hup2 := hup2.below hb3
  clear hb3
  have lG := (unhide G).lt
  obtain ⟨y0, y1⟩ := unhide G
  go_wp2_with fail
  clear lG y0 y1
  refine (refRightRatio _ _ _).mono ?_
  rintro r w4 ⟨rfl, hb4⟩
  rw [hr]
  replace hBW := bthen hBW hb4
  replace A := hide ((unhide A).below hb4)
  replace G := hide ((unhide G).below hb4)
  replace DS := hide ((unhide DS).below hb4)
  replace PS := hide ((unhide PS).below hb4)
  replace U1 := hide ((unhide U1).below hb4)
  replace U2 := hide ((unhide U2).below hb4)
  replace hup1 := hup1.below hb4
  replace hup2 := hup2.below hb4
  clear hb4
  obtain ⟨W4, hW4⟩ : ∃ W', W' = (w4.alloc (.cells #[.bool false, .slice none 0 0, .bool false, .slice none 0 0, .int .i64 0] 26)).alloc (.cells #[.bool false, .slice none 0 0, .bool false, .slice none 0 0, .int .i64 0] 26) := ⟨_, rfl⟩
  have hc : Below w4.heap.size w4 W4 := by rw [hW4]; exact bl2 _ _ _
  have N4 : NoC W4 w4.heap.size := by rw [hW4]; exact (noc_new w4 _).below (bl1 _ _)
  have N5 : NoC W4 (w4.heap.size + 1) := by rw [hW4]; exact noc_new' (w4.alloc _) _ (by simp) _
  have lA := (unhide A).lt
  obtain ⟨x0, x1, x2, x3, x4⟩ := unhide A
  have lG := (unhide G).lt
  obtain ⟨y0, y1⟩ := unhide G
  go_wp2_with fail
  rw [← hW4]
  clear hW4 lA x0 x1 x2 x3 x4 lG y0 y1
  have lA := Nat.lt_of_lt_of_le (unhide A).lt hc.size
  obtain ⟨x0, x1, x2, x3, x4⟩ := (unhide A).below hc
  refine (refRightBits _ _).mono ?_
  rintro r wb ⟨rfl, hwb⟩
  replace hwb := hwb.symm
  subst hwb
  rw [hb]
  go_wp2_with fail
  clear lA x0 x1 x2 x3 x4
  refine (refOf_any _ s).mono ?_
  rintro r w7 ⟨rfl, hb7⟩
  replace hc := bthen hc hb7
  replace N4 := N4.below hb7
  replace N5 := N5.below hb7
  clear hb7
  go_wp2_with fail
  refine (HT _ ((unhide PS).below hc)).mono ?_
  rintro r w8 ⟨v2, rfl, hvb2, hvp2, hb8⟩
  have HVB2 := hide hvb2
  clear hvb2
  replace hc := bthen hc hb8
  replace N4 := N4.below hb8
  replace N5 := N5.below hb8
  clear hb8
  go_wp2_with fail
  refine (D2 _ v2 hvp2 (unhide HVB2)).mono ?_
  rintro r w9 ⟨z2, rfl, hzb2, hzp2, hb9⟩
  have HZB2 := hide hzb2
  clear hzb2
  replace hc := bthen hc hb9
  replace N4 := N4.below hb9
  replace N5 := N5.below hb9
  clear hb9
  obtain ⟨W9, hW9⟩ : ∃ W', W' = (((((w9.setCell ⟨(w4.heap.size + 1), 0, none⟩ (.bool z2.ln)).setCell ⟨(w4.heap.size + 1), 1, none⟩ (.slice z2.la z2.lN z2.lc)).setCell ⟨(w4.heap.size + 1), 2, none⟩ (.bool z2.hn)).setCell ⟨(w4.heap.size + 1), 3, none⟩ (.slice z2.ha z2.hN z2.hc)).setCell ⟨(w4.heap.size + 1), 4, none⟩ (.int .i64 z2.bits)) := ⟨_, rfl⟩
  have hc9 : Below w4.heap.size w4 W9 := by rw [hW9]; exact set5 hc (Nat.le_succ _) _ _ _ _ _
  have T5 : SpC W9 (w4.heap.size + 1) z2 := by rw [hW9]; exact spc_put N5 z2
  have htp2 : SpAt W9 z2 70000 lo2 hi2 := by rw [hW9]; exact SpAt.putN hzp2 N5 _ _ _ _ _
  have T4' : NoC W9 w4.heap.size := by rw [hW9]; exact N4.put (by omega) _ _ _ _ _
  have l5 := N5.lt
  obtain ⟨k0, k1, k2, k3, k4, k5⟩ := N5
  have lA := Nat.lt_of_lt_of_le (unhide A).lt hc.size
  obtain ⟨x0, x1, x2, x3, x4⟩ := (unhide A).below hc
  go_wp2_with fail
  rw [← hW9]
  clear hW9 k0 k1 k2 k3 k4 k5 l5 lA x0 x1 x2 x3 x4
  replace hc := hc9
  replace N4 := T4'
  refine (spanBegun_any _).mono ?_
  rintro r wA ⟨rfl, hbA⟩
  replace hc := bthen hc hbA
  replace N4 := N4.below hbA
  replace T5 := T5.below hbA
  replace htp2 := htp2.below hbA
  clear hbA
  have lA := Nat.lt_of_lt_of_le (unhide A).lt hc.size
  obtain ⟨x0, x1, x2, x3, x4⟩ := (unhide A).below hc
  go_wp2_with fail
  clear lA x0 x1 x2 x3 x4
  refine (HD _ ((unhide DS).below hc)).mono ?_
  rintro r wB ⟨rfl, hbB⟩
  replace hc := bthen hc hbB
  replace N4 := N4.below hbB
  replace T5 := T5.below hbB
  replace htp2 := htp2.below hbB
  clear hbB
  have lx := Nat.lt_of_lt_of_le (unhide U1).lt hc.size
  obtain ⟨x0, x1, x2, x3, x4⟩ := (unhide U1).below hc
  have ly := N4.lt
  have Y := N4
  obtain ⟨y0, y1, y2, y3, y4, y5⟩ := Y
  go_wp2_with fail
  clear lx ly x0 x1 x2 x3 x4 y0 y1 y2 y3 y4 y5
  refine (spanIs_true _ u1 ⟨false, none, 0, 0, false, none, 0, 0, 0⟩ 70000 lo1 hi1 3 (hup1.below hc) (by rw [Z1.1, Z1.2.1]; exact zeroSp _ _) ((unhide HUB1).trans Z1.2.2) (fun _ => ⟨Z1.1, Z1.2.1, (unhide HUB1).trans Z1.2.2⟩)).mono ?_
  rintro r wC1 ⟨rfl, hbC1⟩
  replace hc := bthen hc hbC1
  replace N4 := N4.below hbC1
  replace T5 := T5.below hbC1
  replace htp2 := htp2.below hbC1
  have lx := Nat.lt_of_lt_of_le (unhide U2).lt hc.size
  obtain ⟨x0, x1, x2, x3, x4⟩ := (unhide U2).below hc
  have ly := T5.lt
  have Y := T5
  obtain ⟨y0, y1, y2, y3, y4⟩ := Y
  go_wp2_with fail
  clear lx ly x0 x1 x2 x3 x4 y0 y1 y2 y3 y4
  refine (spanIs_true _ u2 z2 70000 lo2 hi2 er2 (hup2.below hc) htp2 ((unhide HUB2).trans (unhide HZB2).symm) (fun hq => ⟨(Z2 hq).1, (Z2 hq).2.1, (unhide HUB2).trans (Z2 hq).2.2⟩)).mono ?_
  rintro r wC2 ⟨rfl, hbC2⟩
  go_wp2_with fail
  go_ret
  exact ⟨rfl, bthen hBW (bthen hc hbC2)⟩

set_option maxRecDepth 100000 in
set_option maxHeartbeats 4000000 in
theorem chk_nbe (w : World) (s : Sp) (p q bt : Int) (d e : Nat → Int) (hs : SpDig w s d e) (b1 lo1 hi1 b2 lo2 hi2 er2 L1 M1 L2 M2 lo hi : Int) (hr : decide (rok p q) = false) (hb : bitOk bt = true) (E : Int) (hE : (E == 0) = false)
    (H1 : ∀ W, Calls Try.prog 15 #[.agg #[.int .i64 p, .int .i64 q], .int .i64 bt] W (PairAns W b1 70000 lo1 hi1 3)) (H2 : SaidT s bt d e b2 70000 lo2 hi2 E)
    (HC : ∀ W, SpDig W s d e → Calls Try.prog 17 #[.agg #[.bool s.ln, .slice s.la s.lN s.lc, .bool s.hn, .slice s.ha s.hN s.hc, .int .i64 s.bits]] W fun r w' => r = .returned (.int .i64 E) ∧ Below W.heap.size W w') (HD : ∀ W, SpDig W s d e → Calls Try.prog 25 #[.agg #[.bool s.ln, .slice s.la s.lN s.lc, .bool s.hn, .slice s.ha s.hN s.hc, .int .i64 s.bits]] W fun r w' => r = .returned (.int .i64 E) ∧ Below W.heap.size W w')
    (Z1 : lo1 = 0 ∧ hi1 = 0 ∧ b1 = 0)
    (Z2 : lo2 = 0 ∧ hi2 = 0 ∧ b2 = 0) :
    Calls Try.prog 3 #[.agg #[.bool s.ln, .slice s.la s.lN s.lc, .bool s.hn, .slice s.ha s.hN s.hc, .int .i64 s.bits], .agg #[.int .i64 p, .int .i64 q], .int .i64 bt] w fun r w' => r = .returned (.bool true) ∧ Below w.heap.size w w' := by
  obtain ⟨W, hW⟩ : ∃ W, W = (w.alloc (.cells #[.bool s.ln, .slice s.la s.lN s.lc, .bool s.hn, .slice s.ha s.hN s.hc, .int .i64 s.bits] 26)).alloc (.cells #[.int .i64 p, .int .i64 q] 28) := ⟨_, rfl⟩
  have hBW : Below w.heap.size w W := by rw [hW]; exact bl2 _ _ _
  have A : SpC W w.heap.size s := by rw [hW]; exact ⟨by simp [go_sem], by simp [go_sem], by simp [go_sem], by simp [go_sem], by simp [go_sem]⟩
  have G : RtC W (w.heap.size + 1) p q := by rw [hW]; exact ⟨by simp [go_sem], by simp [go_sem]⟩
  replace A := hide A
  replace G := hide G
  have DS := hide (hs.below hBW)
  clear hs
  go_enter Try.func3, Try.ntmps3
  go_wp2_with fail
  rw [← hW]
  clear hW
  refine (H1 _).mono ?_
  rintro r w1 ⟨u1, rfl, hub1, hup1, hb1⟩
  have HUB1 := hide hub1
  clear hub1
  replace hBW := bthen hBW hb1
  replace A := hide ((unhide A).below hb1)
  replace G := hide ((unhide G).below hb1)
  replace DS := hide ((unhide DS).below hb1)
  clear hb1
  obtain ⟨W1, hW1⟩ : ∃ W', W' = w1.alloc (.cells #[.bool u1.ln, .slice u1.la u1.lN u1.lc, .bool u1.hn, .slice u1.ha u1.hN u1.hc, .int .i64 u1.bits] 26) := ⟨_, rfl⟩
  have hc1 : Below w1.heap.size w1 W1 := by rw [hW1]; exact bl1 _ _
  have U1 := hide (show SpC W1 w1.heap.size u1 by rw [hW1]; exact spc_new _ _ _)
  have lA := (unhide A).lt
  obtain ⟨x0, x1, x2, x3, x4⟩ := unhide A
  go_wp2_with fail
  rw [← hW1]
  clear hW1 lA x0 x1 x2 x3 x4
  replace hBW := bthen hBW hc1
  replace A := hide ((unhide A).below hc1)
  replace G := hide ((unhide G).below hc1)
  replace DS := hide ((unhide DS).below hc1)
  replace hup1 := hup1.below hc1
  clear hc1
  refine (H2 _ (unhide DS)).mono ?_
  rintro r w2 ⟨u2, rfl, hub2, hup2, hb2⟩
  have HUB2 := hide hub2
  clear hub2
  replace hBW := bthen hBW hb2
  replace A := hide ((unhide A).below hb2)
  replace G := hide ((unhide G).below hb2)
  replace DS := hide ((unhide DS).below hb2)
  replace U1 := hide ((unhide U1).below hb2)
  replace hup1 := hup1.below hb2
  clear hb2
  obtain ⟨W2, hW2⟩ : ∃ W', W' = w2.alloc (.cells #[.bool u2.ln, .slice u2.la u2.lN u2.lc, .bool u2.hn, .slice u2.ha u2.hN u2.hc, .int .i64 u2.bits] 26) := ⟨_, rfl⟩
  have hc2 : Below w2.heap.size w2 W2 := by rw [hW2]; exact bl1 _ _
  have U2 := hide (show SpC W2 w2.heap.size u2 by rw [hW2]; exact spc_new _ _ _)
  have lA := (unhide A).lt
  obtain ⟨x0, x1, x2, x3, x4⟩ := unhide A
  go_wp2_with fail
  rw [← hW2]
  clear hW2 lA x0 x1 x2 x3 x4
  replace hBW := bthen hBW hc2
  replace A := hide ((unhide A).below hc2)
  replace G := hide ((unhide G).below hc2)
  replace DS := hide ((unhide DS).below hc2)
  replace U1 := hide ((unhide U1).below hc2)
  replace hup1 := hup1.below hc2
  replace hup2 := hup2.below hc2
  clear hc2
  refine (HC _ (unhide DS)).mono ?_
  rintro r w3 ⟨rfl, hb3⟩
  replace hBW := bthen hBW hb3
  replace A := hide ((unhide A).below hb3)
  replace G := hide ((unhide G).below hb3)
  replace DS := hide ((unhide DS).below hb3)
  replace U1 := hide ((unhide U1).below hb3)
  replace U2 := hide ((unhide U2).below hb3)
  replace hup1 := hup1.below hb3
  replace hup2 := hup2.below hb3
  clear hb3
  have lG := (unhide G).lt
  obtain ⟨y0, y1⟩ := unhide G
  go_wp2_with fail
  clear lG y0 y1
  refine (refRightRatio _ _ _).mono ?_
  rintro r w4 ⟨rfl, hb4⟩
  rw [hr]
  replace hBW := bthen hBW hb4
  replace A := hide ((unhide A).below hb4)
  replace G := hide ((unhide G).below hb4)
  replace DS := hide ((unhide DS).below hb4)
  replace U1 := hide ((unhide U1).below hb4)
  replace U2 := hide ((unhide U2).below hb4)
  replace hup1 := hup1.below hb4
  replace hup2 := hup2.below hb4
  clear hb4
  obtain ⟨W4, hW4⟩ : ∃ W', W' = (w4.alloc (.cells #[.bool false, .slice none 0 0, .bool false, .slice none 0 0, .int .i64 0] 26)).alloc (.cells #[.bool false, .slice none 0 0, .bool false, .slice none 0 0, .int .i64 0] 26) := ⟨_, rfl⟩
  have hc : Below w4.heap.size w4 W4 := by rw [hW4]; exact bl2 _ _ _
  have N4 : NoC W4 w4.heap.size := by rw [hW4]; exact (noc_new w4 _).below (bl1 _ _)
  have N5 : NoC W4 (w4.heap.size + 1) := by rw [hW4]; exact noc_new' (w4.alloc _) _ (by simp) _
  have lA := (unhide A).lt
  obtain ⟨x0, x1, x2, x3, x4⟩ := unhide A
  have lG := (unhide G).lt
  obtain ⟨y0, y1⟩ := unhide G
  go_wp2_with fail
  rw [← hW4]
  clear hW4 lA x0 x1 x2 x3 x4 lG y0 y1
  refine (spanBegun_any _).mono ?_
  rintro r wA ⟨rfl, hbA⟩
  replace hc := bthen hc hbA
  replace N4 := N4.below hbA
  replace N5 := N5.below hbA
  clear hbA
  have lA := Nat.lt_of_lt_of_le (unhide A).lt hc.size
  obtain ⟨x0, x1, x2, x3, x4⟩ := (unhide A).below hc
  go_wp2_with fail
  clear lA x0 x1 x2 x3 x4
  refine (HD _ ((unhide DS).below hc)).mono ?_
  rintro r wB ⟨rfl, hbB⟩
  replace hc := bthen hc hbB
  replace N4 := N4.below hbB
  replace N5 := N5.below hbB
  clear hbB
  have lx := Nat.lt_of_lt_of_le (unhide U1).lt hc.size
  obtain ⟨x0, x1, x2, x3, x4⟩ := (unhide U1).below hc
  have ly := N4.lt
  have Y := N4
  obtain ⟨y0, y1, y2, y3, y4, y5⟩ := Y
  go_wp2_with fail
  clear lx ly x0 x1 x2 x3 x4 y0 y1 y2 y3 y4 y5
  refine (spanIs_true _ u1 ⟨false, none, 0, 0, false, none, 0, 0, 0⟩ 70000 lo1 hi1 3 (hup1.below hc) (by rw [Z1.1, Z1.2.1]; exact zeroSp _ _) ((unhide HUB1).trans Z1.2.2) (fun _ => ⟨Z1.1, Z1.2.1, (unhide HUB1).trans Z1.2.2⟩)).mono ?_
  rintro r wC1 ⟨rfl, hbC1⟩
  replace hc := bthen hc hbC1
  replace N4 := N4.below hbC1
  replace N5 := N5.below hbC1
  have lx := Nat.lt_of_lt_of_le (unhide U2).lt hc.size
  obtain ⟨x0, x1, x2, x3, x4⟩ := (unhide U2).below hc
  have ly := N5.lt
  have Y := N5
  obtain ⟨y0, y1, y2, y3, y4, y5⟩ := Y
  go_wp2_with fail
  clear lx ly x0 x1 x2 x3 x4 y0 y1 y2 y3 y4 y5
  refine (spanIs_true _ u2 ⟨false, none, 0, 0, false, none, 0, 0, 0⟩ 70000 lo2 hi2 E (hup2.below hc) (by rw [Z2.1, Z2.2.1]; exact zeroSp _ _) ((unhide HUB2).trans Z2.2.2) (fun _ => ⟨Z2.1, Z2.2.1, (unhide HUB2).trans Z2.2.2⟩)).mono ?_
  rintro r wC2 ⟨rfl, hbC2⟩
  go_wp2_with fail
  go_ret
  exact ⟨rfl, bthen hBW (bthen hc hbC2)⟩

set_option maxRecDepth 100000 in
set_option maxHeartbeats 4000000 in
theorem chk_nno (w : World) (s : Sp) (p q bt : Int) (d e : Nat → Int) (hs : SpDig w s d e) (b1 lo1 hi1 b2 lo2 hi2 er2 L1 M1 L2 M2 lo hi : Int) (hr : decide (rok p q) = false) (hb : bitOk bt = false)
    (H1 : ∀ W, Calls Try.prog 15 #[.agg #[.int .i64 p, .int .i64 q], .int .i64 bt] W (PairAns W b1 70000 lo1 hi1 3)) (H2 : SaidT s bt d e b2 70000 lo2 hi2 3)
    (HC : ∀ W, SpDig W s d e → Calls Try.prog 17 #[.agg #[.bool s.ln, .slice s.la s.lN s.lc, .bool s.hn, .slice s.ha s.hN s.hc, .int .i64 s.bits]] W fun r w' => r = .returned (.int .i64 0) ∧ Below W.heap.size W w') (HD : ∀ W, SpDig W s d e → Calls Try.prog 25 #[.agg #[.bool s.ln, .slice s.la s.lN s.lc, .bool s.hn, .slice s.ha s.hN s.hc, .int .i64 s.bits]] W fun r w' => r = .returned (.int .i64 0) ∧ Below W.heap.size W w')
    (Z1 : lo1 = 0 ∧ hi1 = 0 ∧ b1 = 0)
    (Z2 : lo2 = 0 ∧ hi2 = 0 ∧ b2 = 0) :
    Calls Try.prog 3 #[.agg #[.bool s.ln, .slice s.la s.lN s.lc, .bool s.hn, .slice s.ha s.hN s.hc, .int .i64 s.bits], .agg #[.int .i64 p, .int .i64 q], .int .i64 bt] w fun r w' => r = .returned (.bool true) ∧ Below w.heap.size w w' := by
  obtain ⟨W, hW⟩ : ∃ W, W = (w.alloc (.cells #[.bool s.ln, .slice s.la s.lN s.lc, .bool s.hn, .slice s.ha s.hN s.hc, .int .i64 s.bits] 26)).alloc (.cells #[.int .i64 p, .int .i64 q] 28) := ⟨_, rfl⟩
  have hBW : Below w.heap.size w W := by rw [hW]; exact bl2 _ _ _
  have A : SpC W w.heap.size s := by rw [hW]; exact ⟨by simp [go_sem], by simp [go_sem], by simp [go_sem], by simp [go_sem], by simp [go_sem]⟩
  have G : RtC W (w.heap.size + 1) p q := by rw [hW]; exact ⟨by simp [go_sem], by simp [go_sem]⟩
  replace A := hide A
  replace G := hide G
  have DS := hide (hs.below hBW)
  clear hs
  go_enter Try.func3, Try.ntmps3
  go_wp2_with fail
  rw [← hW]
  clear hW
  refine (H1 _).mono ?_
  rintro r w1 ⟨u1, rfl, hub1, hup1, hb1⟩
  have HUB1 := hide hub1
  clear hub1
  replace hBW := bthen hBW hb1
  replace A := hide ((unhide A).below hb1)
  replace G := hide ((unhide G).below hb1)
  replace DS := hide ((unhide DS).below hb1)
  clear hb1
  obtain ⟨W1, hW1⟩ : ∃ W', W' = w1.alloc (.cells #[.bool u1.ln, .slice u1.la u1.lN u1.lc, .bool u1.hn, .slice u1.ha u1.hN u1.hc, .int .i64 u1.bits] 26) := ⟨_, rfl⟩
  have hc1 : Below w1.heap.size w1 W1 := by rw [hW1]; exact bl1 _ _
  have U1 := hide (show SpC W1 w1.heap.size u1 by rw [hW1]; exact spc_new _ _ _)
  have lA := (unhide A).lt
  obtain ⟨x0, x1, x2, x3, x4⟩ := unhide A
  go_wp2_with fail
  rw [← hW1]
  clear hW1 lA x0 x1 x2 x3 x4
  replace hBW := bthen hBW hc1
  replace A := hide ((unhide A).below hc1)
  replace G := hide ((unhide G).below hc1)
  replace DS := hide ((unhide DS).below hc1)
  replace hup1 := hup1.below hc1
  clear hc1
  refine (H2 _ (unhide DS)).mono ?_
  rintro r w2 ⟨u2, rfl, hub2, hup2, hb2⟩
  have HUB2 := hide hub2
  clear hub2
  replace hBW := bthen hBW hb2
  replace A := hide ((unhide A).below hb2)
  replace G := hide ((unhide G).below hb2)
  replace DS := hide ((unhide DS).below hb2)
  replace U1 := hide ((unhide U1).below hb2)
  replace hup1 := hup1.below hb2
  clear hb2
  obtain ⟨W2, hW2⟩ : ∃ W', W' = w2.alloc (.cells #[.bool u2.ln, .slice u2.la u2.lN u2.lc, .bool u2.hn, .slice u2.ha u2.hN u2.hc, .int .i64 u2.bits] 26) := ⟨_, rfl⟩
  have hc2 : Below w2.heap.size w2 W2 := by rw [hW2]; exact bl1 _ _
  have U2 := hide (show SpC W2 w2.heap.size u2 by rw [hW2]; exact spc_new _ _ _)
  have lA := (unhide A).lt
  obtain ⟨x0, x1, x2, x3, x4⟩ := unhide A
  go_wp2_with fail
  rw [← hW2]
  clear hW2 lA x0 x1 x2 x3 x4
  replace hBW := bthen hBW hc2
  replace A := hide ((unhide A).below hc2)
  replace G := hide ((unhide G).below hc2)
  replace DS := hide ((unhide DS).below hc2)
  replace U1 := hide ((unhide U1).below hc2)
  replace hup1 := hup1.below hc2
  replace hup2 := hup2.below hc2
  clear hc2
  refine (HC _ (unhide DS)).mono ?_
  rintro r w3 ⟨rfl, hb3⟩
  replace hBW := bthen hBW hb3
  replace A := hide ((unhide A).below hb3)
  replace G := hide ((unhide G).below hb3)
  replace DS := hide ((unhide DS).below hb3)
  replace U1 := hide ((unhide U1).below hb3)
  replace U2 := hide ((unhide U2).below hb3)
  replace hup1 := hup1.below hb3
  replace hup2 := hup2.below hb3
  clear hb3
  have lG := (unhide G).lt
  obtain ⟨y0, y1⟩ := unhide G
  go_wp2_with fail
  clear lG y0 y1
  refine (refRightRatio _ _ _).mono ?_
  rintro r w4 ⟨rfl, hb4⟩
  rw [hr]
  replace hBW := bthen hBW hb4
  replace A := hide ((unhide A).below hb4)
  replace G := hide ((unhide G).below hb4)
  replace DS := hide ((unhide DS).below hb4)
  replace U1 := hide ((unhide U1).below hb4)
  replace U2 := hide ((unhide U2).below hb4)
  replace hup1 := hup1.below hb4
  replace hup2 := hup2.below hb4
  clear hb4
  obtain ⟨W4, hW4⟩ : ∃ W', W' = (w4.alloc (.cells #[.bool false, .slice none 0 0, .bool false, .slice none 0 0, .int .i64 0] 26)).alloc (.cells #[.bool false, .slice none 0 0, .bool false, .slice none 0 0, .int .i64 0] 26) := ⟨_, rfl⟩
  have hc : Below w4.heap.size w4 W4 := by rw [hW4]; exact bl2 _ _ _
  have N4 : NoC W4 w4.heap.size := by rw [hW4]; exact (noc_new w4 _).below (bl1 _ _)
  have N5 : NoC W4 (w4.heap.size + 1) := by rw [hW4]; exact noc_new' (w4.alloc _) _ (by simp) _
  have lA := (unhide A).lt
  obtain ⟨x0, x1, x2, x3, x4⟩ := unhide A
  have lG := (unhide G).lt
  obtain ⟨y0, y1⟩ := unhide G
  go_wp2_with fail
  rw [← hW4]
  clear hW4 lA x0 x1 x2 x3 x4 lG y0 y1
  have lA := Nat.lt_of_lt_of_le (unhide A).lt hc.size
  obtain ⟨x0, x1, x2, x3, x4⟩ := (unhide A).below hc
  refine (refRightBits _ _).mono ?_
  rintro r wb ⟨rfl, hwb⟩
  replace hwb := hwb.symm
  subst hwb
  rw [hb]
  go_wp2_with fail
  clear lA x0 x1 x2 x3 x4
  refine (spanBegun_any _).mono ?_
  rintro r wA ⟨rfl, hbA⟩
  replace hc := bthen hc hbA
  replace N4 := N4.below hbA
  replace N5 := N5.below hbA
  clear hbA
  have lA := Nat.lt_of_lt_of_le (unhide A).lt hc.size
  obtain ⟨x0, x1, x2, x3, x4⟩ := (unhide A).below hc
  go_wp2_with fail
  clear lA x0 x1 x2 x3 x4
  refine (HD _ ((unhide DS).below hc)).mono ?_
  rintro r wB ⟨rfl, hbB⟩
  replace hc := bthen hc hbB
  replace N4 := N4.below hbB
  replace N5 := N5.below hbB
  clear hbB
  have lx := Nat.lt_of_lt_of_le (unhide U1).lt hc.size
  obtain ⟨x0, x1, x2, x3, x4⟩ := (unhide U1).below hc
  have ly := N4.lt
  have Y := N4
  obtain ⟨y0, y1, y2, y3, y4, y5⟩ := Y
  go_wp2_with fail
  clear lx ly x0 x1 x2 x3 x4 y0 y1 y2 y3 y4 y5
  refine (spanIs_true _ u1 ⟨false, none, 0, 0, false, none, 0, 0, 0⟩ 70000 lo1 hi1 3 (hup1.below hc) (by rw [Z1.1, Z1.2.1]; exact zeroSp _ _) ((unhide HUB1).trans Z1.2.2) (fun _ => ⟨Z1.1, Z1.2.1, (unhide HUB1).trans Z1.2.2⟩)).mono ?_
  rintro r wC1 ⟨rfl, hbC1⟩
  replace hc := bthen hc hbC1
  replace N4 := N4.below hbC1
  replace N5 := N5.below hbC1
  have lx := Nat.lt_of_lt_of_le (unhide U2).lt hc.size
  obtain ⟨x0, x1, x2, x3, x4⟩ := (unhide U2).below hc
  have ly := N5.lt
  have Y := N5
  obtain ⟨y0, y1, y2, y3, y4, y5⟩ := Y
  go_wp2_with fail
  clear lx ly x0 x1 x2 x3 x4 y0 y1 y2 y3 y4 y5
  refine (spanIs_true _ u2 ⟨false, none, 0, 0, false, none, 0, 0, 0⟩ 70000 lo2 hi2 3 (hup2.below hc) (by rw [Z2.1, Z2.2.1]; exact zeroSp _ _) ((unhide HUB2).trans Z2.2.2) (fun _ => ⟨Z2.1, Z2.2.1, (unhide HUB2).trans Z2.2.2⟩)).mono ?_
  rintro r wC2 ⟨rfl, hbC2⟩
  go_wp2_with fail
  go_ret
  exact ⟨rfl, bthen hBW (bthen hc hbC2)⟩

set_option maxRecDepth 100000 in
set_option maxHeartbeats 4000000 in
theorem chk_nne (w : World) (s : Sp) (p q bt : Int) (d e : Nat → Int) (hs : SpDig w s d e) (b1 lo1 hi1 b2 lo2 hi2 er2 L1 M1 L2 M2 lo hi : Int) (hr : decide (rok p q) = false) (hb : bitOk bt = false) (E : Int) (hE : (E == 0) = false)
    (H1 : ∀ W, Calls Try.prog 15 #[.agg #[.int .i64 p, .int .i64 q], .int .i64 bt] W (PairAns W b1 70000 lo1 hi1 3)) (H2 : SaidT s bt d e b2 70000 lo2 hi2 E)
    (HC : ∀ W, SpDig W s d e → Calls Try.prog 17 #[.agg #[.bool s.ln, .slice s.la s.lN s.lc, .bool s.hn, .slice s.ha s.hN s.hc, .int .i64 s.bits]] W fun r w' => r = .returned (.int .i64 E) ∧ Below W.heap.size W w') (HD : ∀ W, SpDig W s d e → Calls Try.prog 25 #[.agg #[.bool s.ln, .slice s.la s.lN s.lc, .bool s.hn, .slice s.ha s.hN s.hc, .int .i64 s.bits]] W fun r w' => r = .returned (.int .i64 E) ∧ Below W.heap.size W w')
    (Z1 : lo1 = 0 ∧ hi1 = 0 ∧ b1 = 0)
    (Z2 : lo2 = 0 ∧ hi2 = 0 ∧ b2 = 0) :
    Calls Try.prog 3 #[.agg #[.bool s.ln, .slice s.la s.lN s.lc, .bool s.hn, .slice s.ha s.hN s.hc, .int .i64 s.bits], .agg #[.int .i64 p, .int .i64 q], .int .i64 bt] w fun r w' => r = .returned (.bool true) ∧ Below w.heap.size w w' := by
  obtain ⟨W, hW⟩ : ∃ W, W = (w.alloc (.cells #[.bool s.ln, .slice s.la s.lN s.lc, .bool s.hn, .slice s.ha s.hN s.hc, .int .i64 s.bits] 26)).alloc (.cells #[.int .i64 p, .int .i64 q] 28) := ⟨_, rfl⟩
  have hBW : Below w.heap.size w W := by rw [hW]; exact bl2 _ _ _
  have A : SpC W w.heap.size s := by rw [hW]; exact ⟨by simp [go_sem], by simp [go_sem], by simp [go_sem], by simp [go_sem], by simp [go_sem]⟩
  have G : RtC W (w.heap.size + 1) p q := by rw [hW]; exact ⟨by simp [go_sem], by simp [go_sem]⟩
  replace A := hide A
  replace G := hide G
  have DS := hide (hs.below hBW)
  clear hs
  go_enter Try.func3, Try.ntmps3
  go_wp2_with fail
  rw [← hW]
  clear hW
  refine (H1 _).mono ?_
  rintro r w1 ⟨u1, rfl, hub1, hup1, hb1⟩
  have HUB1 := hide hub1
  clear hub1
  replace hBW := bthen hBW hb1
  replace A := hide ((unhide A).below hb1)
  replace G := hide ((unhide G).below hb1)
  replace DS := hide ((unhide DS).below hb1)
  clear hb1
  obtain ⟨W1, hW1⟩ : ∃ W', W' = w1.alloc (.cells #[.bool u1.ln, .slice u1.la u1.lN u1.lc, .bool u1.hn, .slice u1.ha u1.hN u1.hc, .int .i64 u1.bits] 26) := ⟨_, rfl⟩
  have hc1 : Below w1.heap.size w1 W1 := by rw [hW1]; exact bl1 _ _
  have U1 := hide (show SpC W1 w1.heap.size u1 by rw [hW1]; exact spc_new _ _ _)
  have lA := (unhide A).lt
  obtain ⟨x0, x1, x2, x3, x4⟩ := unhide A
  go_wp2_with fail
  rw [← hW1]
  clear hW1 lA x0 x1 x2 x3 x4
  replace hBW := bthen hBW hc1
  replace A := hide ((unhide A).below hc1)
  replace G := hide ((unhide G).below hc1)
  replace DS := hide ((unhide DS).below hc1)
  replace hup1 := hup1.below hc1
  clear hc1
  refine (H2 _ (unhide DS)).mono ?_
  rintro r w2 ⟨u2, rfl, hub2, hup2, hb2⟩
  have HUB2 := hide hub2
  clear hub2
  replace hBW := bthen hBW hb2
  replace A := hide ((unhide A).below hb2)
  replace G := hide ((unhide G).below hb2)
  replace DS := hide ((unhide DS).below hb2)
  replace U1 := hide ((unhide U1).below hb2)
  replace hup1 := hup1.below hb2
  clear hb2
  obtain ⟨W2, hW2⟩ : ∃ W', W' = w2.alloc (.cells #[.bool u2.ln, .slice u2.la u2.lN u2.lc, .bool u2.hn, .slice u2.ha u2.hN u2.hc, .int .i64 u2.bits] 26) := ⟨_, rfl⟩
  have hc2 : Below w2.heap.size w2 W2 := by rw [hW2]; exact bl1 _ _
  have U2 := hide (show SpC W2 w2.heap.size u2 by rw [hW2]; exact spc_new _ _ _)
  have lA := (unhide A).lt
  obtain ⟨x0, x1, x2, x3, x4⟩ := unhide A
  go_wp2_with fail
  rw [← hW2]
  clear hW2 lA x0 x1 x2 x3 x4
  replace hBW := bthen hBW hc2
  replace A := hide ((unhide A).below hc2)
  replace G := hide ((unhide G).below hc2)
  replace DS := hide ((unhide DS).below hc2)
  replace U1 := hide ((unhide U1).below hc2)
  replace hup1 := hup1.below hc2
  replace hup2 := hup2.below hc2
  clear hc2
  refine (HC _ (unhide DS)).mono ?_
  rintro r w3 ⟨rfl, hb3⟩
  replace hBW := bthen hBW hb3
  replace A := hide ((unhide A).below hb3)
  replace G := hide ((unhide G).below hb3)
  replace DS := hide ((unhide DS).below hb3)
  replace U1 := hide ((unhide U1).below hb3)
  replace U2 := hide ((unhide U2).below hb3)
  replace hup1 := hup1.below hb3
  replace hup2 := hup2.below hb3
  clear hb3
  have lG := (unhide G).lt
  obtain ⟨y0, y1⟩ := unhide G
  go_wp2_with fail
  clear lG y0 y1
  refine (refRightRatio _ _ _).mono ?_
  rintro r w4 ⟨rfl, hb4⟩
  rw [hr]
  replace hBW := bthen hBW hb4
  replace A := hide ((unhide A).below hb4)
  replace G := hide ((unhide G).below hb4)
  replace DS := hide ((unhide DS).below hb4)
  replace U1 := hide ((unhide U1).below hb4)
  replace U2 := hide ((unhide U2).below hb4)
  replace hup1 := hup1.below hb4
  replace hup2 := hup2.below hb4
  clear hb4
  obtain ⟨W4, hW4⟩ : ∃ W', W' = (w4.alloc (.cells #[.bool false, .slice none 0 0, .bool false, .slice none 0 0, .int .i64 0] 26)).alloc (.cells #[.bool false, .slice none 0 0, .bool false, .slice none 0 0, .int .i64 0] 26) := ⟨_, rfl⟩
  have hc : Below w4.heap.size w4 W4 := by rw [hW4]; exact bl2 _ _ _
  have N4 : NoC W4 w4.heap.size := by rw [hW4]; exact (noc_new w4 _).below (bl1 _ _)
  have N5 : NoC W4 (w4.heap.size + 1) := by rw [hW4]; exact noc_new' (w4.alloc _) _ (by simp) _
  have lA := (unhide A).lt
  obtain ⟨x0, x1, x2, x3, x4⟩ := unhide A
  have lG := (unhide G).lt
  obtain ⟨y0, y1⟩ := unhide G
  go_wp2_with fail
  rw [← hW4]
  clear hW4 lA x0 x1 x2 x3 x4 lG y0 y1
  refine (spanBegun_any _).mono ?_
  rintro r wA ⟨rfl, hbA⟩
  replace hc := bthen hc hbA
  replace N4 := N4.below hbA
  replace N5 := N5.below hbA
  clear hbA
  have lA := Nat.lt_of_lt_of_le (unhide A).lt hc.size
  obtain ⟨x0, x1, x2, x3, x4⟩ := (unhide A).below hc
  go_wp2_with fail
  clear lA x0 x1 x2 x3 x4
  refine (HD _ ((unhide DS).below hc)).mono ?_
  rintro r wB ⟨rfl, hbB⟩
  replace hc := bthen hc hbB
  replace N4 := N4.below hbB
  replace N5 := N5.below hbB
  clear hbB
  have lx := Nat.lt_of_lt_of_le (unhide U1).lt hc.size
  obtain ⟨x0, x1, x2, x3, x4⟩ := (unhide U1).below hc
  have ly := N4.lt
  have Y := N4
  obtain ⟨y0, y1, y2, y3, y4, y5⟩ := Y
  go_wp2_with fail
  clear lx ly x0 x1 x2 x3 x4 y0 y1 y2 y3 y4 y5
  refine (spanIs_true _ u1 ⟨false, none, 0, 0, false, none, 0, 0, 0⟩ 70000 lo1 hi1 3 (hup1.below hc) (by rw [Z1.1, Z1.2.1]; exact zeroSp _ _) ((unhide HUB1).trans Z1.2.2) (fun _ => ⟨Z1.1, Z1.2.1, (unhide HUB1).trans Z1.2.2⟩)).mono ?_
  rintro r wC1 ⟨rfl, hbC1⟩
  replace hc := bthen hc hbC1
  replace N4 := N4.below hbC1
  replace N5 := N5.below hbC1
  have lx := Nat.lt_of_lt_of_le (unhide U2).lt hc.size
  obtain ⟨x0, x1, x2, x3, x4⟩ := (unhide U2).below hc
  have ly := N5.lt
  have Y := N5
  obtain ⟨y0, y1, y2, y3, y4, y5⟩ := Y
  go_wp2_with fail
  clear lx ly x0 x1 x2 x3 x4 y0 y1 y2 y3 y4 y5
  refine (spanIs_true _ u2 ⟨false, none, 0, 0, false, none, 0, 0, 0⟩ 70000 lo2 hi2 E (hup2.below hc) (by rw [Z2.1, Z2.2.1]; exact zeroSp _ _) ((unhide HUB2).trans Z2.2.2) (fun _ => ⟨Z2.1, Z2.2.1, (unhide HUB2).trans Z2.2.2⟩)).mono ?_
  rintro r wC2 ⟨rfl, hbC2⟩
  go_wp2_with fail
  go_ret
  exact ⟨rfl, bthen hBW (bthen hc hbC2)⟩
end Go.Proofs.Ytgmnknmjainabaa
