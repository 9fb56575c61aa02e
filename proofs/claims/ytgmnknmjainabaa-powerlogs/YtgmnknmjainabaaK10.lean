/-
  That tailsurelaw.SpanAdds answers true of whatever spans, and leaves old memory alone.
  What tailsureref.Times answers of right spans, and that it leaves old memory alone.
-/
import Derived.Test.YtgmnknmjainabaaK09
namespace Go.Proofs.Ytgmnknmjainabaa
set_option linter.unusedVariables false
set_option linter.unusedSimpArgs false
set_option linter.unnecessarySimpa false
open Go.RowKit
attribute [local go_sem ↓] Go.wp_at_zero Go.wp_at_succ

/-- A contract of a callee that answers a span and an errno, said of every world that holds the digits of both spans. -/
def SaidP (F : Nat) (s t : Sp) (d e d' e' : Nat → Int) (b : Int) (k : Nat) (lo hi er : Int) : Prop :=
  ∀ W, SpDig W s d e → SpDig W t d' e' → Calls Try.prog F #[.agg #[.bool s.ln, .slice s.la s.lN s.lc, .bool s.hn, .slice s.ha s.hN s.hc, .int .i64 s.bits], .agg #[.bool t.ln, .slice t.la t.lN t.lc, .bool t.hn, .slice t.ha t.hN t.hc, .int .i64 t.bits]] W (PairAns W b k lo hi er)

set_option maxRecDepth 100000 in
set_option maxHeartbeats 4000000 in
theorem adds_bad (w : World) (s t : Sp) (d e d' e' : Nat → Int) (hs : SpDig w s d e) (ht : SpDig w t d' e') (E : Int) (hE : (E != 0) = true)
    (H1 : SaidP 27 s t d e d' e' 0 1 0 0 E) (H2 : SaidP 28 s t d e d' e' 0 1 0 0 E) (H3 : SaidP 29 s t d e d' e' 0 1 0 0 E) (H4 : SaidP 30 s t d e d' e' 0 1 0 0 E)
    (HT : Said2 31 #[.agg #[.bool s.ln, .slice s.la s.lN s.lc, .bool s.hn, .slice s.ha s.hN s.hc, .int .i64 s.bits], .agg #[.bool t.ln, .slice t.la t.lN t.lc, .bool t.hn, .slice t.ha t.hN t.hc, .int .i64 t.bits]] s t d e d' e' (.int .i64 E)) :
    Calls Try.prog 4 #[.agg #[.bool s.ln, .slice s.la s.lN s.lc, .bool s.hn, .slice s.ha s.hN s.hc, .int .i64 s.bits], .agg #[.bool t.ln, .slice t.la t.lN t.lc, .bool t.hn, .slice t.ha t.hN t.hc, .int .i64 t.bits]] w fun r w' => r = .returned (.bool true) ∧ Below w.heap.size w w' := by
  obtain ⟨W, hW⟩ : ∃ W, W = (w.alloc (.cells #[.bool s.ln, .slice s.la s.lN s.lc, .bool s.hn, .slice s.ha s.hN s.hc, .int .i64 s.bits] 26)).alloc (.cells #[.bool t.ln, .slice t.la t.lN t.lc, .bool t.hn, .slice t.ha t.hN t.hc, .int .i64 t.bits] 26) := ⟨_, rfl⟩
  have hBW : Below w.heap.size w W := by rw [hW]; exact bl2 _ _ _
  have A : SpC W w.heap.size s := by rw [hW]; exact ⟨by simp [go_sem], by simp [go_sem], by simp [go_sem], by simp [go_sem], by simp [go_sem]⟩
  have G : SpC W (w.heap.size + 1) t := by rw [hW]; exact ⟨by simp [go_sem], by simp [go_sem], by simp [go_sem], by simp [go_sem], by simp [go_sem]⟩
  have DS := hide (hs.below hBW)
  have DT := hide (ht.below hBW)
  replace A := hide A
  replace G := hide G
  clear hs ht
  go_enter Try.func4, Try.ntmps4
  go_wp2_with fail
  rw [← hW]
  clear hW
  refine (H1 W (unhide DS) (unhide DT)).mono ?_
  rintro r w1 ⟨u1, rfl, hub1, hup1, hb1⟩
  have HUB1 := hide hub1
  clear hub1
  replace hBW := bthen hBW hb1
  replace A := hide ((unhide A).below hb1)
  replace G := hide ((unhide G).below hb1)
  replace DS := hide ((unhide DS).below hb1)
  replace DT := hide ((unhide DT).below hb1)
  clear hb1
  have la := (unhide A).lt
  have lg := (unhide G).lt
  obtain ⟨x0, x1, x2, x3, x4⟩ := unhide A
  obtain ⟨y0, y1, y2, y3, y4⟩ := unhide G
  obtain ⟨W1, hW1⟩ : ∃ W', W' = w1.alloc (.cells #[.bool u1.ln, .slice u1.la u1.lN u1.lc, .bool u1.hn, .slice u1.ha u1.hN u1.hc, .int .i64 u1.bits] 26) := ⟨_, rfl⟩
  have hc1 : Below w1.heap.size w1 W1 := by rw [hW1]; exact bl1 _ _
  have U1 := hide (show SpC W1 w1.heap.size u1 by rw [hW1]; exact spc_new _ _ _)
  go_wp2_with fail
  rw [← hW1]
  clear hW1 x0 x1 x2 x3 x4 y0 y1 y2 y3 y4 la lg
  replace hBW := bthen hBW hc1
  replace hup1 := hup1.below hc1
  replace A := hide ((unhide A).below hc1)
  replace G := hide ((unhide G).below hc1)
  replace DS := hide ((unhide DS).below hc1)
  replace DT := hide ((unhide DT).below hc1)
  clear hc1
  refine (H2 W1 (unhide DS) (unhide DT)).mono ?_
  rintro r w2 ⟨u2, rfl, hub2, hup2, hb2⟩
  have HUB2 := hide hub2
  clear hub2
  replace hBW := bthen hBW hb2
  replace A := hide ((unhide A).below hb2)
  replace G := hide ((unhide G).below hb2)
  replace DS := hide ((unhide DS).below hb2)
  replace DT := hide ((unhide DT).below hb2)
  replace U1 := hide ((unhide U1).below hb2)
  replace hup1 := hup1.below hb2
  clear hb2
  have la := (unhide A).lt
  have lg := (unhide G).lt
  obtain ⟨x0, x1, x2, x3, x4⟩ := unhide A
  obtain ⟨y0, y1, y2, y3, y4⟩ := unhide G
  obtain ⟨W2, hW2⟩ : ∃ W', W' = w2.alloc (.cells #[.bool u2.ln, .slice u2.la u2.lN u2.lc, .bool u2.hn, .slice u2.ha u2.hN u2.hc, .int .i64 u2.bits] 26) := ⟨_, rfl⟩
  have hc2 : Below w2.heap.size w2 W2 := by rw [hW2]; exact bl1 _ _
  have U2 := hide (show SpC W2 w2.heap.size u2 by rw [hW2]; exact spc_new _ _ _)
  go_wp2_with fail
  rw [← hW2]
  clear hW2 x0 x1 x2 x3 x4 y0 y1 y2 y3 y4 la lg
  replace hBW := bthen hBW hc2
  replace hup2 := hup2.below hc2
  replace A := hide ((unhide A).below hc2)
  replace G := hide ((unhide G).below hc2)
  replace DS := hide ((unhide DS).below hc2)
  replace DT := hide ((unhide DT).below hc2)
  replace U1 := hide ((unhide U1).below hc2)
  replace hup1 := hup1.below hc2
  clear hc2
  refine (H3 W2 (unhide DS) (unhide DT)).mono ?_
  rintro r w3 ⟨u3, rfl, hub3, hup3, hb3⟩
  have HUB3 := hide hub3
  clear hub3
  replace hBW := bthen hBW hb3
  replace A := hide ((unhide A).below hb3)
  replace G := hide ((unhide G).below hb3)
  replace DS := hide ((unhide DS).below hb3)
  replace DT := hide ((unhide DT).below hb3)
  replace U1 := hide ((unhide U1).below hb3)
  replace hup1 := hup1.below hb3
  replace U2 := hide ((unhide U2).below hb3)
  replace hup2 := hup2.below hb3
  clear hb3
  have la := (unhide A).lt
  have lg := (unhide G).lt
  obtain ⟨x0, x1, x2, x3, x4⟩ := unhide A
  obtain ⟨y0, y1, y2, y3, y4⟩ := unhide G
  obtain ⟨W3, hW3⟩ : ∃ W', W' = w3.alloc (.cells #[.bool u3.ln, .slice u3.la u3.lN u3.lc, .bool u3.hn, .slice u3.ha u3.hN u3.hc, .int .i64 u3.bits] 26) := ⟨_, rfl⟩
  have hc3 : Below w3.heap.size w3 W3 := by rw [hW3]; exact bl1 _ _
  have U3 := hide (show SpC W3 w3.heap.size u3 by rw [hW3]; exact spc_new _ _ _)
  go_wp2_with fail
  rw [← hW3]
  clear hW3 x0 x1 x2 x3 x4 y0 y1 y2 y3 y4 la lg
  replace hBW := bthen hBW hc3
  replace hup3 := hup3.below hc3
  replace A := hide ((unhide A).below hc3)
  replace G := hide ((unhide G).below hc3)
  replace DS := hide ((unhide DS).below hc3)
  replace DT := hide ((unhide DT).below hc3)
  replace U1 := hide ((unhide U1).below hc3)
  replace hup1 := hup1.below hc3
  replace U2 := hide ((unhide U2).below hc3)
  replace hup2 := hup2.below hc3
  clear hc3
  refine (H4 W3 (unhide DS) (unhide DT)).mono ?_
  rintro r w4 ⟨u4, rfl, hub4, hup4, hb4⟩
  have HUB4 := hide hub4
  clear hub4
  replace hBW := bthen hBW hb4
  replace A := hide ((unhide A).below hb4)
  replace G := hide ((unhide G).below hb4)
  replace DS := hide ((unhide DS).below hb4)
  replace DT := hide ((unhide DT).below hb4)
  replace U1 := hide ((unhide U1).below hb4)
  replace hup1 := hup1.below hb4
  replace U2 := hide ((unhide U2).below hb4)
  replace hup2 := hup2.below hb4
  replace U3 := hide ((unhide U3).below hb4)
  replace hup3 := hup3.below hb4
  clear hb4
  have la := (unhide A).lt
  have lg := (unhide G).lt
  obtain ⟨x0, x1, x2, x3, x4⟩ := unhide A
  obtain ⟨y0, y1, y2, y3, y4⟩ := unhide G
  obtain ⟨W4, hW4⟩ : ∃ W', W' = w4.alloc (.cells #[.bool u4.ln, .slice u4.la u4.lN u4.lc, .bool u4.hn, .slice u4.ha u4.hN u4.hc, .int .i64 u4.bits] 26) := ⟨_, rfl⟩
  have hc4 : Below w4.heap.size w4 W4 := by rw [hW4]; exact bl1 _ _
  have U4 := hide (show SpC W4 w4.heap.size u4 by rw [hW4]; exact spc_new _ _ _)
  go_wp2_with fail
  rw [← hW4]
  clear hW4 x0 x1 x2 x3 x4 y0 y1 y2 y3 y4 la lg
  replace hBW := bthen hBW hc4
  replace hup4 := hup4.below hc4
  replace A := hide ((unhide A).below hc4)
  replace G := hide ((unhide G).below hc4)
  replace DS := hide ((unhide DS).below hc4)
  replace DT := hide ((unhide DT).below hc4)
  replace U1 := hide ((unhide U1).below hc4)
  replace hup1 := hup1.below hc4
  replace U2 := hide ((unhide U2).below hc4)
  replace hup2 := hup2.below hc4
  replace U3 := hide ((unhide U3).below hc4)
  replace hup3 := hup3.below hc4
  clear hc4
  refine (HT W4 (unhide DS) (unhide DT)).mono ?_
  rintro r w5 ⟨rfl, hb5⟩
  replace hBW := bthen hBW hb5
  replace U1 := hide ((unhide U1).below hb5)
  replace hup1 := hup1.below hb5
  replace U2 := hide ((unhide U2).below hb5)
  replace hup2 := hup2.below hb5
  replace U3 := hide ((unhide U3).below hb5)
  replace hup3 := hup3.below hb5
  replace U4 := hide ((unhide U4).below hb5)
  replace hup4 := hup4.below hb5
  clear hb5
  obtain ⟨W5, hW5⟩ : ∃ W', W' = w5.alloc (.cells #[.bool false, .slice none 0 0, .bool false, .slice none 0 0, .int .i64 0] 26) := ⟨_, rfl⟩
  have hc5 : Below w5.heap.size w5 W5 := by rw [hW5]; exact bl1 _ _
  have N5 : SpC W5 w5.heap.size ⟨false, none, 0, 0, false, none, 0, 0, 0⟩ := by rw [hW5]; exact spc_new _ ⟨false, none, 0, 0, false, none, 0, 0, 0⟩ _
  go_wp2_with fail
  rw [← hW5]
  clear hW5
  replace hBW := bthen hBW hc5
  replace U1 := hide ((unhide U1).below hc5)
  replace hup1 := hup1.below hc5
  replace U2 := hide ((unhide U2).below hc5)
  replace hup2 := hup2.below hc5
  replace U3 := hide ((unhide U3).below hc5)
  replace hup3 := hup3.below hc5
  replace U4 := hide ((unhide U4).below hc5)
  replace hup4 := hup4.below hc5
  clear hc5 A G DS DT H1 H2 H3 H4 HT
  refine (spanBegun_any _).mono ?_
  rintro r w6 ⟨rfl, hb6⟩
  replace hBW := bthen hBW hb6
  replace N5 := N5.below hb6
  replace U1 := hide ((unhide U1).below hb6)
  replace hup1 := hup1.below hb6
  replace U2 := hide ((unhide U2).below hb6)
  replace hup2 := hup2.below hb6
  replace U3 := hide ((unhide U3).below hb6)
  replace hup3 := hup3.below hb6
  replace U4 := hide ((unhide U4).below hb6)
  replace hup4 := hup4.below hb6
  clear hb6
  obtain ⟨x0, x1, x2, x3, x4⟩ := unhide U1
  obtain ⟨y0, y1, y2, y3, y4⟩ := N5
  have lx := (unhide U1).lt
  have N5 : SpC w6 w5.heap.size ⟨false, none, 0, 0, false, none, 0, 0, 0⟩ := ⟨y0, y1, y2, y3, y4⟩
  have ly := N5.lt
  go_wp2_with fail
  refine (same_true _ u1 ⟨false, none, 0, 0, false, none, 0, 0, 0⟩ 1 0 0 hup1 (zeroSp _ _) (unhide HUB1)).mono ?_
  rintro r w7 ⟨rfl, hb7⟩
  clear x0 x1 x2 x3 x4 y0 y1 y2 y3 y4 lx ly
  replace hBW := bthen hBW hb7
  replace N5 := N5.below hb7
  replace U2 := hide ((unhide U2).below hb7)
  replace hup2 := hup2.below hb7
  replace U3 := hide ((unhide U3).below hb7)
  replace hup3 := hup3.below hb7
  replace U4 := hide ((unhide U4).below hb7)
  replace hup4 := hup4.below hb7
  obtain ⟨x0, x1, x2, x3, x4⟩ := unhide U2
  obtain ⟨y0, y1, y2, y3, y4⟩ := N5
  have lx := (unhide U2).lt
  have N5 : SpC w7 w5.heap.size ⟨false, none, 0, 0, false, none, 0, 0, 0⟩ := ⟨y0, y1, y2, y3, y4⟩
  have ly := N5.lt
  go_wp2_with fail
  refine (same_true _ u2 ⟨false, none, 0, 0, false, none, 0, 0, 0⟩ 1 0 0 hup2 (zeroSp _ _) (unhide HUB2)).mono ?_
  rintro r w8 ⟨rfl, hb8⟩
  clear x0 x1 x2 x3 x4 y0 y1 y2 y3 y4 lx ly
  replace hBW := bthen hBW hb8
  replace N5 := N5.below hb8
  replace U3 := hide ((unhide U3).below hb8)
  replace hup3 := hup3.below hb8
  replace U4 := hide ((unhide U4).below hb8)
  replace hup4 := hup4.below hb8
  obtain ⟨x0, x1, x2, x3, x4⟩ := unhide U3
  obtain ⟨y0, y1, y2, y3, y4⟩ := N5
  have lx := (unhide U3).lt
  have N5 : SpC w8 w5.heap.size ⟨false, none, 0, 0, false, none, 0, 0, 0⟩ := ⟨y0, y1, y2, y3, y4⟩
  have ly := N5.lt
  go_wp2_with fail
  refine (same_true _ u3 ⟨false, none, 0, 0, false, none, 0, 0, 0⟩ 1 0 0 hup3 (zeroSp _ _) (unhide HUB3)).mono ?_
  rintro r w9 ⟨rfl, hb9⟩
  clear x0 x1 x2 x3 x4 y0 y1 y2 y3 y4 lx ly
  replace hBW := bthen hBW hb9
  replace N5 := N5.below hb9
  replace U4 := hide ((unhide U4).below hb9)
  replace hup4 := hup4.below hb9
  obtain ⟨x0, x1, x2, x3, x4⟩ := unhide U4
  obtain ⟨y0, y1, y2, y3, y4⟩ := N5
  have lx := (unhide U4).lt
  have N5 : SpC w9 w5.heap.size ⟨false, none, 0, 0, false, none, 0, 0, 0⟩ := ⟨y0, y1, y2, y3, y4⟩
  have ly := N5.lt
  go_wp2_with fail
  refine (same_true _ u4 ⟨false, none, 0, 0, false, none, 0, 0, 0⟩ 1 0 0 hup4 (zeroSp _ _) (unhide HUB4)).mono ?_
  rintro r w10 ⟨rfl, hb10⟩
  clear x0 x1 x2 x3 x4 y0 y1 y2 y3 y4 lx ly
  replace hBW := bthen hBW hb10
  replace N5 := N5.below hb10
  go_wp2_with fail
  go_ret
  exact ⟨rfl, hBW⟩
end Go.Proofs.Ytgmnknmjainabaa

namespace Go.Proofs.Ytgmnknmjainabaa
set_option linter.unusedVariables false
set_option linter.unusedSimpArgs false
set_option linter.unnecessarySimpa false
open Go.RowKit
attribute [local go_sem ↓] Go.wp_at_zero Go.wp_at_succ

set_option maxRecDepth 100000 in
set_option maxHeartbeats 2000000 in
theorem refTimes_int (w : World) (s t : Sp) (k : Nat) (lo hi lo' hi' : Int) (hs : SpAt w s k lo hi) (ht : SpAt w t k lo' hi') (hk : k ≤ 300000000) (hb0 : 0 ≤ s.bits) (hbm : s.bits ≤ 1000000) :
    Calls Try.prog 36 #[.agg #[.bool s.ln, .slice s.la s.lN s.lc, .bool s.hn, .slice s.ha s.hN s.hc, .int .i64 s.bits], .agg #[.bool t.ln, .slice t.la t.lN t.lc, .bool t.hn, .slice t.ha t.hN t.hc, .int .i64 t.bits]] w (SpanAns w s.bits (k + k + 8) (downZ (leastZ (pr4 (lo * lo') (lo * hi') (hi * lo') (hi * hi')) 3) s.bits) (-(downZ (-(mostZ (pr4 (lo * lo') (lo * hi') (hi * lo') (hi * hi')) 3)) s.bits))) := by
  have hbz : (-s.bits).toNat = 0 := by omega
  have ne1 : w.heap.size ≠ w.heap.size + 1 + 1 := by omega
  have ne2 : w.heap.size + 1 + 1 ≠ w.heap.size := by omega
  obtain ⟨W, hW⟩ : ∃ W, W = ((w.alloc (.cells #[.bool s.ln, .slice s.la s.lN s.lc, .bool s.hn, .slice s.ha s.hN s.hc, .int .i64 s.bits] 38)).alloc (.cells #[.bool t.ln, .slice t.la t.lN t.lc, .bool t.hn, .slice t.ha t.hN t.hc, .int .i64 t.bits] 38)).alloc (.cells #[.bool false, .slice none 0 0, .bool false, .slice none 0 0, .int .i64 0] 38) := ⟨_, rfl⟩
  have hBW : Below w.heap.size w W := by rw [hW]; exact bl3 _ _ _ _
  have a0 : SpC W w.heap.size s := by rw [hW]; exact ⟨by simp [go_sem], by simp [go_sem], by simp [go_sem], by simp [go_sem], by simp [go_sem]⟩
  have g0 : SpC W (w.heap.size + 1) t := by rw [hW]; exact ⟨by simp [go_sem], by simp [go_sem], by simp [go_sem], by simp [go_sem], by simp [go_sem]⟩
  have r0 : NoC W (w.heap.size + 1 + 1) := by rw [hW]; exact ⟨by simp [go_sem], by simp [go_sem], by simp [go_sem], by simp [go_sem], by simp [go_sem], fun o => by simp [go_sem]⟩
  have HS := hide (hs.below hBW)
  have HT := hide (ht.below hBW)
  have hB0 : Below W.heap.size W W.drew := (Below.refl _ _).drew
  have HK := hide (show ∀ w', Below W.heap.size W w' → (w'.cell? ⟨w.heap.size, 0, none⟩ = some (.bool s.ln) ∧ w'.cell? ⟨w.heap.size, 1, none⟩ = some (.slice s.la s.lN s.lc) ∧ w'.cell? ⟨w.heap.size, 2, none⟩ = some (.bool s.hn) ∧ w'.cell? ⟨w.heap.size, 3, none⟩ = some (.slice s.ha s.hN s.hc) ∧ w'.cell? ⟨w.heap.size + 1, 0, none⟩ = some (.bool t.ln) ∧ w'.cell? ⟨w.heap.size + 1, 1, none⟩ = some (.slice t.la t.lN t.lc) ∧ w'.cell? ⟨w.heap.size + 1, 2, none⟩ = some (.bool t.hn) ∧ w'.cell? ⟨w.heap.size + 1, 3, none⟩ = some (.slice t.ha t.hN t.hc)) from fun w' hB => by
    obtain ⟨x0, x1, x2, x3, x4⟩ := a0.below hB
    obtain ⟨y0, y1, y2, y3, y4⟩ := g0.below hB
    exact ⟨x0, x1, x2, x3, y0, y1, y2, y3⟩)
  go_enter Try.func36, Try.ntmps36
  go_wp2
  obtain ⟨x0, x1, x2, x3, x4⟩ := a0
  obtain ⟨y0, y1, y2, y3, y4⟩ := g0
  have a0 : SpC W w.heap.size s := ⟨x0, x1, x2, x3, x4⟩
  rw [← hW]
  clear hW
  go_region_held3 (fun w' => w'.cell? ⟨w.heap.size, 0, none⟩ = some (.bool s.ln) ∧ w'.cell? ⟨w.heap.size, 1, none⟩ = some (.slice s.la s.lN s.lc) ∧ w'.cell? ⟨w.heap.size, 2, none⟩ = some (.bool s.hn) ∧ w'.cell? ⟨w.heap.size, 3, none⟩ = some (.slice s.ha s.hN s.hc) ∧ w'.cell? ⟨w.heap.size + 1, 0, none⟩ = some (.bool t.ln) ∧ w'.cell? ⟨w.heap.size + 1, 1, none⟩ = some (.slice t.la t.lN t.lc) ∧ w'.cell? ⟨w.heap.size + 1, 2, none⟩ = some (.bool t.hn) ∧ w'.cell? ⟨w.heap.size + 1, 3, none⟩ = some (.slice t.ha t.hN t.hc)) (exact unhide HK _ (by first | exact hB0 | exact balloc hB4 _ | exact hB4 | exact hB3 | exact hB2 | exact hB1))
    (first
      | (go_at_call 52; have hq := hB3; refine (mul_int _ _ _ _ _ _ _ _ k k hi hi' _ ((unhide HS).hi.below hB3) ((unhide HT).hi.below hB3) (by omega) (by omega)).mono ?_; rintro r w4 ⟨neg4, a4, n4, c4, rfl, hint4, hb4⟩; have hint1 := hint1.below hb4; have hint2 := hint2.below hb4; have hint3 := hint3.below hb4; have hB4 := bthen hB3 hb4)
      | (go_at_call 52; have hq := hB2; refine (mul_int _ _ _ _ _ _ _ _ k k hi lo' _ ((unhide HS).hi.below hB2) ((unhide HT).lo.below hB2) (by omega) (by omega)).mono ?_; rintro r w3 ⟨neg3, a3, n3, c3, rfl, hint3, hb3⟩; have hint1 := hint1.below hb3; have hint2 := hint2.below hb3; have hB3 := bthen hB2 hb3)
      | (go_at_call 52; have hq := hB1; refine (mul_int _ _ _ _ _ _ _ _ k k lo hi' _ ((unhide HS).lo.below hB1) ((unhide HT).hi.below hB1) (by omega) (by omega)).mono ?_; rintro r w2 ⟨neg2, a2, n2, c2, rfl, hint2, hb2⟩; have hint1 := hint1.below hb2; have hB2 := bthen hB1 hb2)
      | (go_at_call 52; have hq := hB0; refine (mul_int _ _ _ _ _ _ _ _ k k lo lo' _ ((unhide HS).lo.below hB0) ((unhide HT).lo.below hB0) (by omega) (by omega)).mono ?_; rintro r w1 ⟨neg1, a1, n1, c1, rfl, hint1, hb1⟩; have hB1 := bthen hB0 hb1))
  obtain ⟨w5, hw5⟩ : ∃ w5, w5 = w4.alloc (.cells #[.bool neg1, .slice a1 n1 c1, .bool neg2, .slice a2 n2 c2, .bool neg3, .slice a3 n3 c3, .bool neg4, .slice a4 n4 c4] 24) := ⟨_, rfl⟩
  have hB5 : Below W.heap.size W w5 := by rw [hw5]; exact balloc hB4 _
  have hN : Nums w5 w4.heap.size 4 (k + k) (pr4 ⟨neg1, a1, n1, c1⟩ ⟨neg2, a2, n2, c2⟩ ⟨neg3, a3, n3, c3⟩ ⟨neg4, a4, n4, c4⟩) (pr4 (lo * lo') (lo * hi') (hi * lo') (hi * hi')) := by rw [hw5]; exact nums4 w4 _ rfl ⟨neg1, a1, n1, c1⟩ ⟨neg2, a2, n2, c2⟩ ⟨neg3, a3, n3, c3⟩ ⟨neg4, a4, n4, c4⟩ _ _ _ _ _ _ hint1 hint2 hint3 hint4
  have hN1 := r0.below hB5
  have a5 := a0.below hB5
  have hl1 := hN1.lt
  have x45 := a5.c4
  have HK1 := hide (show ∀ w', Below w5.heap.size w5 w' → w'.cell? ⟨w.heap.size, 4, none⟩ = some (.int .i64 s.bits) from fun w' hB => (a5.below hB).c4)
  have hD0 : Below w5.heap.size w5 w5.drew := (Below.refl _ _).drew
  clear x0 x1 x2 x3 x4 y0 y1 y2 y3 y4 hb1 hb2 hb3 hb4 hint1 hint2 hint3 hint4 hB1 hB2 hB3 hB4 hB0 a0 HK HS HT
  go_wp2
  rw [← hw5]
  clear hw5
  go_region_held3 (fun w' => w'.cell? ⟨w.heap.size, 4, none⟩ = some (.int .i64 s.bits)) (first | exact unhide HK1 _ (by first | exact hD0 | exact hD11 | exact hD10 | exact hD9 | exact hD8 | exact hD7 | exact hD6) | go_keep)
    (first
      | (go_at_call 91; refine (least_int _ 3 _ (k + k) _ _ _ (hN.below hD0) (by omega)).mono ?_; rintro r w6 ⟨neg6, a6, n6, c6, rfl, hint6, hb6⟩; have hD6 := bthen hD0 hb6)
      | (go_at_call 80; have hq := hD10; refine (neg_int _ _ _ _ (k + k + 5) _ _ hint10 (by omega)).mono ?_; rintro r w11 ⟨neg11, a11, n11, c11, rfl, hint11, hb11⟩; have hint7 := hint7.below hb11; have hD11 := bthen hD10 hb11; obtain ⟨q0, q1, q2, q3, q4, q5⟩ := hN1.below hD11; have x5 := unhide HK1 _ hD11)
      | (go_at_call 79; have hq := hD9; refine (down_z _ _ _ _ (k + k) s.bits _ _ hint9 (by omega) (by omega) (by omega)).mono ?_; rintro r w10 ⟨neg10, a10, n10, c10, rfl, hint10, hb10⟩; have hint10 := hint10.mono (show _ ≤ k + k + 5 by omega); have hint7 := hint7.below hb10; have hD10 := bthen hD9 hb10)
      | (go_at_call 80; have hq := hD8; refine (neg_int _ _ _ _ (k + k) _ _ hint8 (by omega)).mono ?_; rintro r w9 ⟨neg9, a9, n9, c9, rfl, hint9, hb9⟩; have hint7 := hint7.below hb9; have hD9 := bthen hD8 hb9)
      | (go_at_call 92; refine (greatest_int _ 3 _ (k + k) _ _ _ (hN.below hD7) (by omega)).mono ?_; rintro r w8 ⟨neg8, a8, n8, c8, rfl, hint8, hb8⟩; have hint7 := hint7.below hb8; have hD8 := bthen hD7 hb8)
      | (go_at_call 79; refine (down_z _ _ _ _ (k + k) s.bits _ _ hint6 (by omega) (by omega) (by omega)).mono ?_; rintro r w7 ⟨neg7, a7, n7, c7, rfl, hint7, hb7⟩; have hD7 := bthen hD6 hb7))
  go_wp2
  refine bodyPost_ret (v := .agg #[.bool neg7, .slice a7 n7 c7, .bool neg11, .slice a11 n11 c11, .int .i64 s.bits]) (by simp [results, Try.results36, go_sem, q0, q1, q2, q3, q4]) rfl ⟨⟨neg7, a7, n7, c7, neg11, a11, n11, c11, s.bits⟩, rfl, rfl, ?_, ?_⟩
  · exact SpAt.put5 ⟨hint7.mono (by omega), hint11.mono (by omega)⟩ q0 q1 q2 q3 q4 _ _ _ _ _
  · exact set5 (bthen (bthen hBW hB5) hD11) (by omega) _ _ _ _ _
end Go.Proofs.Ytgmnknmjainabaa
