/-
  That tailsurelaw.SpanDivs answers true of whatever spans, and leaves old memory alone.
-/
import Derived.Test.YtgmnknmjainabaaK16
namespace Go.Proofs.Ytgmnknmjainabaa
set_option linter.unusedVariables false
set_option linter.unusedSimpArgs false
set_option linter.unnecessarySimpa false
open Go.RowKit
attribute [local go_sem ↓] Go.wp_at_zero Go.wp_at_succ

/-- A block that holds a span of given bits and ends. -/
structure Blk (w : World) (B : Nat) (z : Sp) (b lo hi : Int) : Prop where
  c : SpC w B z
  p : SpAt w z 600 lo hi
  hb : z.bits = b
theorem Blk.below {w w' : World} {B : Nat} {z : Sp} {b lo hi : Int} (h : Blk w B z b lo hi) (hb : Below w.heap.size w w') : Blk w' B z b lo hi := ⟨h.c.below hb, h.p.below hb, h.hb⟩
theorem Blk.put {w : World} {B B' : Nat} {z y : Sp} {b lo hi : Int} (h : Blk w B z b lo hi) (hne : B ≠ B') (h' : SpC w B' y) (u0 u1 u2 u3 u4 : Value) :
    Blk (((((w.setCell ⟨B', 0, none⟩ u0).setCell ⟨B', 1, none⟩ u1).setCell ⟨B', 2, none⟩ u2).setCell ⟨B', 3, none⟩ u3).setCell ⟨B', 4, none⟩ u4) B z b lo hi :=
  ⟨h.c.put5n hne _ _ _ _ _, SpAt.put5 h.p h'.c0 h'.c1 h'.c2 h'.c3 h'.c4 _ _ _ _ _, h.hb⟩
theorem Blk.own {w : World} {B : Nat} {y z : Sp} {b lo hi b' lo' hi' : Int} (h : Blk w B y b' lo' hi') (hp : SpAt w z 600 lo hi) (hb : z.bits = b) :
    Blk (((((w.setCell ⟨B, 0, none⟩ (.bool z.ln)).setCell ⟨B, 1, none⟩ (.slice z.la z.lN z.lc)).setCell ⟨B, 2, none⟩ (.bool z.hn)).setCell ⟨B, 3, none⟩ (.slice z.ha z.hN z.hc)).setCell ⟨B, 4, none⟩ (.int .i64 z.bits)) B z b lo hi :=
  ⟨sp_put h.c z, SpAt.put5 hp h.c.c0 h.c.c1 h.c.c2 h.c.c3 h.c.c4 _ _ _ _ _, hb⟩
theorem put_fz5 {w : World} {B B' : Nat} (h : ∀ o, w.frozen? ⟨B, o, none⟩ = false) (u0 u1 u2 u3 u4 : Value) : ∀ o, (((((w.setCell ⟨B', 0, none⟩ u0).setCell ⟨B', 1, none⟩ u1).setCell ⟨B', 2, none⟩ u2).setCell ⟨B', 3, none⟩ u3).setCell ⟨B', 4, none⟩ u4).frozen? ⟨B, o, none⟩ = false := fun o => by rw [frozen_set', frozen_set', frozen_set', frozen_set', frozen_set']; exact h o

theorem IntAt.put23 {w : World} {neg : Bool} {a : Option Addr} {n cap k : Nat} {z : Int} (h : IntAt w neg a n cap k z) {B : Nat} {x0 : Bool} {y0 : Option Addr} {y1 y2 : Nat} (h0 : w.cell? ⟨B, 2, none⟩ = some (.bool x0))
    (h1 : w.cell? ⟨B, 3, none⟩ = some (.slice y0 y1 y2)) (u0 u1 : Value) : IntAt ((w.setCell ⟨B, 2, none⟩ u0).setCell ⟨B, 3, none⟩ u1) neg a n cap k z := by
  have hne : (⟨B, 2, none⟩ : Addr) ≠ ⟨B, 3, none⟩ := by simp
  have h2 : (w.setCell ⟨B, 2, none⟩ u0).cell? ⟨B, 3, none⟩ = some (.slice y0 y1 y2) := (World.cell?_setCell_other _ _ _ _ hne).trans h1
  exact (h.store h0 (fun _ e => by cases e) u0).store h2 (fun _ e => by cases e) u1
theorem sp_putL {w : World} {B : Nat} {v : Sp} (h : SpC w B v) (x : Nm) : SpC ((w.setCell ⟨B, 0, none⟩ (.bool x.neg)).setCell ⟨B, 1, none⟩ (.slice x.a x.n x.cap)) B ⟨x.neg, x.a, x.n, x.cap, v.hn, v.ha, v.hN, v.hc, v.bits⟩ := by
  obtain ⟨q0, q1, q2, q3, q4⟩ := h
  constructor <;> simp [go_sem, q0, q1, q2, q3, q4]
theorem sp_putH {w : World} {B : Nat} {v : Sp} (h : SpC w B v) (x : Nm) : SpC ((w.setCell ⟨B, 2, none⟩ (.bool x.neg)).setCell ⟨B, 3, none⟩ (.slice x.a x.n x.cap)) B ⟨v.ln, v.la, v.lN, v.lc, x.neg, x.a, x.n, x.cap, v.bits⟩ := by
  obtain ⟨q0, q1, q2, q3, q4⟩ := h
  constructor <;> simp [go_sem, q0, q1, q2, q3, q4]
theorem fz2 {w : World} {B : Nat} (h : ∀ o, w.frozen? ⟨B, o, none⟩ = false) (p q : Addr) (u0 u1 : Value) : ∀ o, ((w.setCell p u0).setCell q u1).frozen? ⟨B, o, none⟩ = false := fun o => by rw [frozen_set', frozen_set']; exact h o

/-- What stands of tailsurelaw.SpanDivs: what it was handed, the three answers, and the three that are looked for. -/
structure DVs (w wr : World) (s t : Sp) (C E lo hi lo' hi' : Int) (B1 B2 B3 B4 B5 B6 : Nat) (u1 u2 u3 z1 z2 z3 : Sp) (b1 l1 h1 : Int) (b2 l2 h2 : Int) (b3 l3 h3 : Int) (b4 l4 h4 : Int) (b5 l5 h5 : Int) (b6 l6 h6 : Int) : Prop where
  A : SpC wr w.heap.size s
  G : SpC wr (w.heap.size + 1) t
  ps : C = 0 → SpAt wr s 250 lo hi
  pt : E = 0 → SpAt wr t 250 lo' hi'
  U1 : Blk wr B1 u1 b1 l1 h1
  U2 : Blk wr B2 u2 b2 l2 h2
  U3 : Blk wr B3 u3 b3 l3 h3
  Z1 : Blk wr B4 z1 b4 l4 h4
  Z2 : Blk wr B5 z2 b5 l5 h5
  Z3 : Blk wr B6 z3 b6 l6 h6
  f1 : ∀ o, wr.frozen? ⟨B4, o, none⟩ = false
  f2 : ∀ o, wr.frozen? ⟨B5, o, none⟩ = false
  f3 : ∀ o, wr.frozen? ⟨B6, o, none⟩ = false
  hB : Below w.heap.size w wr
theorem DVs.below {w wr w' : World} {s t : Sp} {C E lo hi lo' hi' : Int} {B1 B2 B3 B4 B5 B6 : Nat} {u1 u2 u3 z1 z2 z3 : Sp} {b1 l1 h1 : Int} {b2 l2 h2 : Int} {b3 l3 h3 : Int} {b4 l4 h4 : Int} {b5 l5 h5 : Int} {b6 l6 h6 : Int} (D : DVs w wr s t C E lo hi lo' hi' B1 B2 B3 B4 B5 B6 u1 u2 u3 z1 z2 z3 b1 l1 h1 b2 l2 h2 b3 l3 h3 b4 l4 h4 b5 l5 h5 b6 l6 h6) (hb : Below wr.heap.size wr w') : DVs w w' s t C E lo hi lo' hi' B1 B2 B3 B4 B5 B6 u1 u2 u3 z1 z2 z3 b1 l1 h1 b2 l2 h2 b3 l3 h3 b4 l4 h4 b5 l5 h5 b6 l6 h6 :=
  ⟨D.A.below hb, D.G.below hb, fun h => (D.ps h).below hb, fun h => (D.pt h).below hb, D.U1.below hb, D.U2.below hb, D.U3.below hb, D.Z1.below hb, D.Z2.below hb, D.Z3.below hb, fun o => (hb.frozen (p := ⟨B4, o, none⟩) D.Z1.c.lt).trans (D.f1 o), fun o => (hb.frozen (p := ⟨B5, o, none⟩) D.Z2.c.lt).trans (D.f2 o), fun o => (hb.frozen (p := ⟨B6, o, none⟩) D.Z3.c.lt).trans (D.f3 o), bthen D.hB hb⟩
/-- Its variables lie apart, in their order. -/
def DVd (w : World) (B1 B2 B3 B4 B5 B6 : Nat) : Prop := w.heap.size + 1 < B1 ∧ B1 < B2 ∧ B2 < B3 ∧ B3 < B4 ∧ B4 < B5 ∧ B5 < B6
theorem DVs.set1 {w wr : World} {s t : Sp} {C E lo hi lo' hi' : Int} {B1 B2 B3 B4 B5 B6 : Nat} {u1 u2 u3 z1 z2 z3 : Sp} {b1 l1 h1 : Int} {b2 l2 h2 : Int} {b3 l3 h3 : Int} {b4 l4 h4 : Int} {b5 l5 h5 : Int} {b6 l6 h6 : Int} (D : DVs w wr s t C E lo hi lo' hi' B1 B2 B3 B4 B5 B6 u1 u2 u3 z1 z2 z3 b1 l1 h1 b2 l2 h2 b3 l3 h3 b4 l4 h4 b5 l5 h5 b6 l6 h6) (hd : DVd w B1 B2 B3 B4 B5 B6) {z : Sp} {b l h : Int} (hp : SpAt wr z 600 l h) (hb : z.bits = b) :
    DVs w (((((wr.setCell ⟨B4, 0, none⟩ (.bool z.ln)).setCell ⟨B4, 1, none⟩ (.slice z.la z.lN z.lc)).setCell ⟨B4, 2, none⟩ (.bool z.hn)).setCell ⟨B4, 3, none⟩ (.slice z.ha z.hN z.hc)).setCell ⟨B4, 4, none⟩ (.int .i64 z.bits)) s t C E lo hi lo' hi' B1 B2 B3 B4 B5 B6 u1 u2 u3 z z2 z3 b1 l1 h1 b2 l2 h2 b3 l3 h3 b l h b5 l5 h5 b6 l6 h6 :=
  ⟨D.A.put5n (by unfold DVd at hd; omega) _ _ _ _ _, D.G.put5n (by unfold DVd at hd; omega) _ _ _ _ _, fun h => SpAt.put5 (D.ps h) D.Z1.c.c0 D.Z1.c.c1 D.Z1.c.c2 D.Z1.c.c3 D.Z1.c.c4 _ _ _ _ _, fun h => SpAt.put5 (D.pt h) D.Z1.c.c0 D.Z1.c.c1 D.Z1.c.c2 D.Z1.c.c3 D.Z1.c.c4 _ _ _ _ _, D.U1.put (by unfold DVd at hd; omega) D.Z1.c _ _ _ _ _, D.U2.put (by unfold DVd at hd; omega) D.Z1.c _ _ _ _ _, D.U3.put (by unfold DVd at hd; omega) D.Z1.c _ _ _ _ _, D.Z1.own hp hb, D.Z2.put (by unfold DVd at hd; omega) D.Z1.c _ _ _ _ _, D.Z3.put (by unfold DVd at hd; omega) D.Z1.c _ _ _ _ _, put_fz5 D.f1 _ _ _ _ _, put_fz5 D.f2 _ _ _ _ _, put_fz5 D.f3 _ _ _ _ _, set5 D.hB (by unfold DVd at hd; omega) _ _ _ _ _⟩
theorem DVs.set2 {w wr : World} {s t : Sp} {C E lo hi lo' hi' : Int} {B1 B2 B3 B4 B5 B6 : Nat} {u1 u2 u3 z1 z2 z3 : Sp} {b1 l1 h1 : Int} {b2 l2 h2 : Int} {b3 l3 h3 : Int} {b4 l4 h4 : Int} {b5 l5 h5 : Int} {b6 l6 h6 : Int} (D : DVs w wr s t C E lo hi lo' hi' B1 B2 B3 B4 B5 B6 u1 u2 u3 z1 z2 z3 b1 l1 h1 b2 l2 h2 b3 l3 h3 b4 l4 h4 b5 l5 h5 b6 l6 h6) (hd : DVd w B1 B2 B3 B4 B5 B6) {z : Sp} {b l h : Int} (hp : SpAt wr z 600 l h) (hb : z.bits = b) :
    DVs w (((((wr.setCell ⟨B5, 0, none⟩ (.bool z.ln)).setCell ⟨B5, 1, none⟩ (.slice z.la z.lN z.lc)).setCell ⟨B5, 2, none⟩ (.bool z.hn)).setCell ⟨B5, 3, none⟩ (.slice z.ha z.hN z.hc)).setCell ⟨B5, 4, none⟩ (.int .i64 z.bits)) s t C E lo hi lo' hi' B1 B2 B3 B4 B5 B6 u1 u2 u3 z1 z z3 b1 l1 h1 b2 l2 h2 b3 l3 h3 b4 l4 h4 b l h b6 l6 h6 :=
  ⟨D.A.put5n (by unfold DVd at hd; omega) _ _ _ _ _, D.G.put5n (by unfold DVd at hd; omega) _ _ _ _ _, fun h => SpAt.put5 (D.ps h) D.Z2.c.c0 D.Z2.c.c1 D.Z2.c.c2 D.Z2.c.c3 D.Z2.c.c4 _ _ _ _ _, fun h => SpAt.put5 (D.pt h) D.Z2.c.c0 D.Z2.c.c1 D.Z2.c.c2 D.Z2.c.c3 D.Z2.c.c4 _ _ _ _ _, D.U1.put (by unfold DVd at hd; omega) D.Z2.c _ _ _ _ _, D.U2.put (by unfold DVd at hd; omega) D.Z2.c _ _ _ _ _, D.U3.put (by unfold DVd at hd; omega) D.Z2.c _ _ _ _ _, D.Z1.put (by unfold DVd at hd; omega) D.Z2.c _ _ _ _ _, D.Z2.own hp hb, D.Z3.put (by unfold DVd at hd; omega) D.Z2.c _ _ _ _ _, put_fz5 D.f1 _ _ _ _ _, put_fz5 D.f2 _ _ _ _ _, put_fz5 D.f3 _ _ _ _ _, set5 D.hB (by unfold DVd at hd; omega) _ _ _ _ _⟩
theorem DVs.set3 {w wr : World} {s t : Sp} {C E lo hi lo' hi' : Int} {B1 B2 B3 B4 B5 B6 : Nat} {u1 u2 u3 z1 z2 z3 : Sp} {b1 l1 h1 : Int} {b2 l2 h2 : Int} {b3 l3 h3 : Int} {b4 l4 h4 : Int} {b5 l5 h5 : Int} {b6 l6 h6 : Int} (D : DVs w wr s t C E lo hi lo' hi' B1 B2 B3 B4 B5 B6 u1 u2 u3 z1 z2 z3 b1 l1 h1 b2 l2 h2 b3 l3 h3 b4 l4 h4 b5 l5 h5 b6 l6 h6) (hd : DVd w B1 B2 B3 B4 B5 B6) {z : Sp} {b l h : Int} (hp : SpAt wr z 600 l h) (hb : z.bits = b) :
    DVs w (((((wr.setCell ⟨B6, 0, none⟩ (.bool z.ln)).setCell ⟨B6, 1, none⟩ (.slice z.la z.lN z.lc)).setCell ⟨B6, 2, none⟩ (.bool z.hn)).setCell ⟨B6, 3, none⟩ (.slice z.ha z.hN z.hc)).setCell ⟨B6, 4, none⟩ (.int .i64 z.bits)) s t C E lo hi lo' hi' B1 B2 B3 B4 B5 B6 u1 u2 u3 z1 z2 z b1 l1 h1 b2 l2 h2 b3 l3 h3 b4 l4 h4 b5 l5 h5 b l h :=
  ⟨D.A.put5n (by unfold DVd at hd; omega) _ _ _ _ _, D.G.put5n (by unfold DVd at hd; omega) _ _ _ _ _, fun h => SpAt.put5 (D.ps h) D.Z3.c.c0 D.Z3.c.c1 D.Z3.c.c2 D.Z3.c.c3 D.Z3.c.c4 _ _ _ _ _, fun h => SpAt.put5 (D.pt h) D.Z3.c.c0 D.Z3.c.c1 D.Z3.c.c2 D.Z3.c.c3 D.Z3.c.c4 _ _ _ _ _, D.U1.put (by unfold DVd at hd; omega) D.Z3.c _ _ _ _ _, D.U2.put (by unfold DVd at hd; omega) D.Z3.c _ _ _ _ _, D.U3.put (by unfold DVd at hd; omega) D.Z3.c _ _ _ _ _, D.Z1.put (by unfold DVd at hd; omega) D.Z3.c _ _ _ _ _, D.Z2.put (by unfold DVd at hd; omega) D.Z3.c _ _ _ _ _, D.Z3.own hp hb, put_fz5 D.f1 _ _ _ _ _, put_fz5 D.f2 _ _ _ _ _, put_fz5 D.f3 _ _ _ _ _, set5 D.hB (by unfold DVd at hd; omega) _ _ _ _ _⟩

set_option maxRecDepth 100000 in
set_option maxHeartbeats 8000000 in
theorem law_spanDivs (w : World) (s t : Sp) (d e d' e' : Nat → Int) (hs : SpDig w s d e) (ht : SpDig w t d' e') :
    Calls Try.prog 5 #[.agg #[.bool s.ln, .slice s.la s.lN s.lc, .bool s.hn, .slice s.ha s.hN s.hc, .int .i64 s.bits], .agg #[.bool t.ln, .slice t.la t.lN t.lc, .bool t.hn, .slice t.ha t.hN t.hc, .int .i64 t.bits]] w fun r w' => r = .returned (.bool true) ∧ Below w.heap.size w w' := by
  obtain ⟨W, hW⟩ : ∃ W, W = (w.alloc (.cells #[.bool s.ln, .slice s.la s.lN s.lc, .bool s.hn, .slice s.ha s.hN s.hc, .int .i64 s.bits] 26)).alloc (.cells #[.bool t.ln, .slice t.la t.lN t.lc, .bool t.hn, .slice t.ha t.hN t.hc, .int .i64 t.bits] 26) := ⟨_, rfl⟩
  have hBW : Below w.heap.size w W := by rw [hW]; exact bl2 _ _ _
  have hz0 : W.heap.size = w.heap.size + 1 + 1 := by rw [hW]; simp
  have A : SpC W w.heap.size s := by rw [hW]; exact ⟨by simp [go_sem], by simp [go_sem], by simp [go_sem], by simp [go_sem], by simp [go_sem]⟩
  have G : SpC W (w.heap.size + 1) t := by rw [hW]; exact ⟨by simp [go_sem], by simp [go_sem], by simp [go_sem], by simp [go_sem], by simp [go_sem]⟩
  have DS := hide (hs.below hBW)
  have DT := hide (ht.below hBW)
  replace A := hide A
  replace G := hide G
  clear hs ht
  go_enter Try.func5, Try.ntmps5
  go_wp2_with fail
  rw [← hW]
  clear hW
  refine (saidDivA s t d e d' e' W (unhide DS) (unhide DT)).mono ?_
  rintro r w1 ⟨u1, rfl, hub1, hup1, hb1⟩
  have HUB1 := hide hub1
  have r01 := hide hb1.size
  clear hub1
  replace hBW := bthen hBW hb1
  replace A := hide ((unhide A).below hb1)
  replace G := hide ((unhide G).below hb1)
  replace DS := hide ((unhide DS).below hb1)
  replace DT := hide ((unhide DT).below hb1)
  clear hb1
  have la := (unhide A).lt
  have lg := (unhide G).lt
  obtain ⟨x0, x1, x2, x3, x4⟩ := unhide A
  obtain ⟨y0, y1, y2, y3, y4⟩ := unhide G
  obtain ⟨W1, hW1⟩ : ∃ W', W' = w1.alloc (.cells #[.bool u1.ln, .slice u1.la u1.lN u1.lc, .bool u1.hn, .slice u1.ha u1.hN u1.hc, .int .i64 u1.bits] 26) := ⟨_, rfl⟩
  have hc1 : Below w1.heap.size w1 W1 := by rw [hW1]; exact bl1 _ _
  have hz1 : W1.heap.size = w1.heap.size + 1 := by rw [hW1]; simp
  have U1 := hide (show SpC W1 w1.heap.size u1 by rw [hW1]; exact spc_new _ _ _)
  go_wp2_with fail
  rw [← hW1]
  clear hW1 x0 x1 x2 x3 x4 y0 y1 y2 y3 y4 la lg
  replace hBW := bthen hBW hc1
  replace hup1 := hup1.below hc1
  replace A := hide ((unhide A).below hc1)
  replace G := hide ((unhide G).below hc1)
  replace DS := hide ((unhide DS).below hc1)
  replace DT := hide ((unhide DT).below hc1)
  clear hc1
  refine (saidRootA s d e W1 (unhide DS)).mono ?_
  rintro r w2 ⟨u2, rfl, hub2, hup2, hb2⟩
  have HUB2 := hide hub2
  have r12 := hide hb2.size
  clear hub2
  replace hBW := bthen hBW hb2
  replace A := hide ((unhide A).below hb2)
  replace G := hide ((unhide G).below hb2)
  replace DS := hide ((unhide DS).below hb2)
  replace DT := hide ((unhide DT).below hb2)
  replace U1 := hide ((unhide U1).below hb2)
  replace hup1 := hup1.below hb2
  clear hb2
  have la := (unhide A).lt
  have lg := (unhide G).lt
  obtain ⟨x0, x1, x2, x3, x4⟩ := unhide A
  obtain ⟨y0, y1, y2, y3, y4⟩ := unhide G
  obtain ⟨W2, hW2⟩ : ∃ W', W' = w2.alloc (.cells #[.bool u2.ln, .slice u2.la u2.lN u2.lc, .bool u2.hn, .slice u2.ha u2.hN u2.hc, .int .i64 u2.bits] 26) := ⟨_, rfl⟩
  have hc2 : Below w2.heap.size w2 W2 := by rw [hW2]; exact bl1 _ _
  have hz2 : W2.heap.size = w2.heap.size + 1 := by rw [hW2]; simp
  have U2 := hide (show SpC W2 w2.heap.size u2 by rw [hW2]; exact spc_new _ _ _)
  go_wp2_with fail
  rw [← hW2]
  clear hW2 x0 x1 x2 x3 x4 y0 y1 y2 y3 y4 la lg
  replace hBW := bthen hBW hc2
  replace hup2 := hup2.below hc2
  replace A := hide ((unhide A).below hc2)
  replace G := hide ((unhide G).below hc2)
  replace DS := hide ((unhide DS).below hc2)
  replace DT := hide ((unhide DT).below hc2)
  replace U1 := hide ((unhide U1).below hc2)
  replace hup1 := hup1.below hc2
  clear hc2
  refine (saidMeetA s t d e d' e' W2 (unhide DS) (unhide DT)).mono ?_
  rintro r w3 ⟨u3, rfl, hub3, hup3, hb3⟩
  have HUB3 := hide hub3
  have r23 := hide hb3.size
  clear hub3
  replace hBW := bthen hBW hb3
  replace A := hide ((unhide A).below hb3)
  replace G := hide ((unhide G).below hb3)
  replace DS := hide ((unhide DS).below hb3)
  replace DT := hide ((unhide DT).below hb3)
  replace U1 := hide ((unhide U1).below hb3)
  replace hup1 := hup1.below hb3
  replace U2 := hide ((unhide U2).below hb3)
  replace hup2 := hup2.below hb3
  clear hb3
  have la := (unhide A).lt
  have lg := (unhide G).lt
  obtain ⟨x0, x1, x2, x3, x4⟩ := unhide A
  obtain ⟨y0, y1, y2, y3, y4⟩ := unhide G
  obtain ⟨W3, hW3⟩ : ∃ W', W' = w3.alloc (.cells #[.bool u3.ln, .slice u3.la u3.lN u3.lc, .bool u3.hn, .slice u3.ha u3.hN u3.hc, .int .i64 u3.bits] 26) := ⟨_, rfl⟩
  have hc3 : Below w3.heap.size w3 W3 := by rw [hW3]; exact bl1 _ _
  have hz3 : W3.heap.size = w3.heap.size + 1 := by rw [hW3]; simp
  have U3 := hide (show SpC W3 w3.heap.size u3 by rw [hW3]; exact spc_new _ _ _)
  go_wp2_with fail
  rw [← hW3]
  clear hW3 x0 x1 x2 x3 x4 y0 y1 y2 y3 y4 la lg
  replace hBW := bthen hBW hc3
  replace hup3 := hup3.below hc3
  replace A := hide ((unhide A).below hc3)
  replace G := hide ((unhide G).below hc3)
  replace DS := hide ((unhide DS).below hc3)
  replace DT := hide ((unhide DT).below hc3)
  replace U1 := hide ((unhide U1).below hc3)
  replace hup1 := hup1.below hc3
  replace U2 := hide ((unhide U2).below hc3)
  replace hup2 := hup2.below hc3
  clear hc3
  have HK := hide (show ∀ w', Below W3.heap.size W3 w' → (w'.cell? ⟨w.heap.size, 0, none⟩ = some (.bool s.ln) ∧ w'.cell? ⟨w.heap.size, 1, none⟩ = some (.slice s.la s.lN s.lc) ∧ w'.cell? ⟨w.heap.size, 2, none⟩ = some (.bool s.hn) ∧ w'.cell? ⟨w.heap.size, 3, none⟩ = some (.slice s.ha s.hN s.hc) ∧ w'.cell? ⟨w.heap.size, 4, none⟩ = some (.int .i64 s.bits) ∧ w'.cell? ⟨w.heap.size + 1, 0, none⟩ = some (.bool t.ln) ∧ w'.cell? ⟨w.heap.size + 1, 1, none⟩ = some (.slice t.la t.lN t.lc) ∧ w'.cell? ⟨w.heap.size + 1, 2, none⟩ = some (.bool t.hn) ∧ w'.cell? ⟨w.heap.size + 1, 3, none⟩ = some (.slice t.ha t.hN t.hc) ∧ w'.cell? ⟨w.heap.size + 1, 4, none⟩ = some (.int .i64 t.bits)) from fun w' hB => by
    obtain ⟨x0, x1, x2, x3, x4⟩ := (unhide A).below hB
    obtain ⟨y0, y1, y2, y3, y4⟩ := (unhide G).below hB
    exact ⟨x0, x1, x2, x3, x4, y0, y1, y2, y3, y4⟩)
  have la := (unhide A).lt
  have lg := (unhide G).lt
  obtain ⟨x0, x1, x2, x3, x4, y0, y1, y2, y3, y4⟩ := unhide HK _ (Below.refl _ _)
  go_cut [11, 12] (fun p q wx => p = .int .i64 (fltE2 (chkE s d e) (chkE t d' e') s.bits t.bits) ∧ q = .int .i64 (chkE s d e) ∧ Below W3.heap.size W3 wx)
  case first =>
    go_region_held3 (fun w' => w'.cell? ⟨w.heap.size, 0, none⟩ = some (.bool s.ln) ∧ w'.cell? ⟨w.heap.size, 1, none⟩ = some (.slice s.la s.lN s.lc) ∧ w'.cell? ⟨w.heap.size, 2, none⟩ = some (.bool s.hn) ∧ w'.cell? ⟨w.heap.size, 3, none⟩ = some (.slice s.ha s.hN s.hc) ∧ w'.cell? ⟨w.heap.size, 4, none⟩ = some (.int .i64 s.bits) ∧ w'.cell? ⟨w.heap.size + 1, 0, none⟩ = some (.bool t.ln) ∧ w'.cell? ⟨w.heap.size + 1, 1, none⟩ = some (.slice t.la t.lN t.lc) ∧ w'.cell? ⟨w.heap.size + 1, 2, none⟩ = some (.bool t.hn) ∧ w'.cell? ⟨w.heap.size + 1, 3, none⟩ = some (.slice t.ha t.hN t.hc) ∧ w'.cell? ⟨w.heap.size + 1, 4, none⟩ = some (.int .i64 t.bits)) (exact unhide HK _ (by first | with_reducible exact hB5 | with_reducible exact hB4 | with_reducible exact (Below.refl _ _).drew | with_reducible exact Below.refl _ _))
      (first
        | (go_at_call 17; refine (checkSpan_any s d e _ ((unhide DS).below hB4)).mono ?_; rintro r w5 ⟨rfl, hb5⟩; have hB5 := bthen hB4 hb5)
        | (go_at_call 31; refine (twoSpans_any _ s t d e d' e' ((unhide DS).below (Below.refl _ _).drew) ((unhide DT).below (Below.refl _ _).drew)).mono ?_; rintro r w4 ⟨rfl, hb4⟩; have hB4 : Below W3.heap.size W3 w4 := bthen (Below.refl _ _).drew hb4))
    all_goals
      go_wp2_with fail
      go_meet
      exact ⟨rfl, rfl, hB5⟩
  case rest =>
  obtain ⟨rfl, rfl, hbl⟩ := hcut
  replace hBW := bthen hBW hbl
  replace A := (unhide A).below hbl
  replace G := (unhide G).below hbl
  replace DS := (unhide DS).below hbl
  replace DT := (unhide DT).below hbl
  replace U1 := (unhide U1).below hbl
  replace U2 := (unhide U2).below hbl
  replace U3 := (unhide U3).below hbl
  replace hup1 := hup1.below hbl
  replace hup2 := hup2.below hbl
  replace hup3 := hup3.below hbl
  clear x0 x1 x2 x3 x4 y0 y1 y2 y3 y4 la lg HK
  have hz4 := hbl.size
  have q1 := U1.lt
  have q2 := U2.lt
  have q3 := U3.lt
  have q21 : W1.heap.size ≤ w2.heap.size := unhide r12
  have q32 : W2.heap.size ≤ w3.heap.size := unhide r23
  have q10 : W.heap.size ≤ w1.heap.size := unhide r01
  obtain ⟨e1, he1⟩ : ∃ x, x = (anE (fltE2 (chkE s d e) (chkE t d' e') s.bits t.bits) (dvG (loZ t d') (hiZ t e')) (dvLo (loZ s d) (hiZ s e) (loZ t d') (hiZ t e') s.bits.toNat) (dvHi (loZ s d) (hiZ s e) (loZ t d') (hiZ t e') s.bits.toNat)) := ⟨_, rfl⟩
  obtain ⟨e2, he2⟩ : ∃ x, x = (anE (chkE s d e) (rtG (loZ s d)) (rtZ ((loZ s d) * Q s.bits.toNat)) (rtU ((hiZ s e) * Q s.bits.toNat))) := ⟨_, rfl⟩
  obtain ⟨e3, he3⟩ : ∃ x, x = (anE (fltE2 (chkE s d e) (chkE t d' e') s.bits t.bits) (meG (loZ s d) (hiZ s e) (loZ t d') (hiZ t e')) (maxZ (loZ s d) (loZ t d')) (minZ (hiZ s e) (hiZ t e'))) := ⟨_, rfl⟩
  rw [← he1, ← he2, ← he3]
  have hEf : (fltE2 (chkE s d e) (chkE t d' e') s.bits t.bits) = 0 → (chkE s d e) = 0 ∧ chkE t d' e' = 0 ∧ s.bits = t.bits := flt0
  have hps : (chkE s d e) = 0 → SpAt wc s 250 (loZ s d) (hiZ s e) := fun h => (chk_ok DS h).1
  have hpt : (fltE2 (chkE s d e) (chkE t d' e') s.bits t.bits) = 0 → SpAt wc t 250 (loZ t d') (hiZ t e') := fun h => (chk_ok DT (hEf h).2.1).1
  have HC := hide (show (chkE s d e) = 0 → 1 ≤ s.bits ∧ s.bits ≤ 120 ∧ (loZ s d) ≤ (hiZ s e) from fun h => ⟨(chk_ok DS h).2.1, (chk_ok DS h).2.2.1, (chk_ok DS h).2.2.2⟩)
  have HT := hide (show (fltE2 (chkE s d e) (chkE t d' e') s.bits t.bits) = 0 → (loZ t d') ≤ (hiZ t e') from fun h => (chk_ok DT (hEf h).2.1).2.2.2)
  have HEC := hide (show (fltE2 (chkE s d e) (chkE t d' e') s.bits t.bits) = 0 → (chkE s d e) = 0 from fun h => (hEf h).1)
  clear hEf DS DT
  have HB1 := hide (show u1.bits = (anV (fltE2 (chkE s d e) (chkE t d' e') s.bits t.bits) (dvG (loZ t d') (hiZ t e')) (dvLo (loZ s d) (hiZ s e) (loZ t d') (hiZ t e') s.bits.toNat) (dvHi (loZ s d) (hiZ s e) (loZ t d') (hiZ t e') s.bits.toNat) s.bits) from unhide HUB1)
  have HB2 := hide (show u2.bits = (anV (chkE s d e) (rtG (loZ s d)) (rtZ ((loZ s d) * Q s.bits.toNat)) (rtU ((hiZ s e) * Q s.bits.toNat)) s.bits) from unhide HUB2)
  have HB3 := hide (show u3.bits = (anV (fltE2 (chkE s d e) (chkE t d' e') s.bits t.bits) (meG (loZ s d) (hiZ s e) (loZ t d') (hiZ t e')) (maxZ (loZ s d) (loZ t d')) (minZ (hiZ s e) (hiZ t e')) s.bits) from unhide HUB3)
  obtain ⟨E, hE⟩ : ∃ x, x = (fltE2 (chkE s d e) (chkE t d' e') s.bits t.bits) := ⟨_, rfl⟩
  obtain ⟨C, hC⟩ : ∃ x, x = (chkE s d e) := ⟨_, rfl⟩
  obtain ⟨lo, hlo⟩ : ∃ x, x = (loZ s d) := ⟨_, rfl⟩
  obtain ⟨hi, hhi⟩ : ∃ x, x = (hiZ s e) := ⟨_, rfl⟩
  obtain ⟨lo', hlo'⟩ : ∃ x, x = (loZ t d') := ⟨_, rfl⟩
  obtain ⟨hi', hhi'⟩ : ∃ x, x = (hiZ t e') := ⟨_, rfl⟩
  rw [← hlo, ← hhi] at hps
  rw [← hlo', ← hhi'] at hpt
  rw [← hE] at hpt
  rw [← hC] at hps
  have HV1 := hide (show e1 = anE E (dvG lo' hi') (dvLo lo hi lo' hi' s.bits.toNat) (dvHi lo hi lo' hi' s.bits.toNat) by rw [he1, hE, hlo, hhi, hlo', hhi'])
  have HV2 := hide (show e2 = anE C (rtG lo) (rtZ (lo * Q s.bits.toNat)) (rtU (hi * Q s.bits.toNat)) by rw [he2, hC, hlo, hhi])
  have HV3 := hide (show e3 = anE E (meG lo hi lo' hi') (maxZ lo lo') (minZ hi hi') by rw [he3, hE, hlo, hhi, hlo', hhi'])
  replace HC := hide (show C = 0 → 1 ≤ s.bits ∧ s.bits ≤ 120 ∧ lo ≤ hi by rw [hC, hlo, hhi]; exact unhide HC)
  replace HT := hide (show E = 0 → lo' ≤ hi' by rw [hE, hlo', hhi']; exact unhide HT)
  replace HEC := hide (show E = 0 → C = 0 by rw [hE, hC]; exact unhide HEC)
  rw [← hE, ← hC]
  have K1 : Blk wc w1.heap.size u1 (anV E (dvG lo' hi') (dvLo lo hi lo' hi' s.bits.toNat) (dvHi lo hi lo' hi' s.bits.toNat) s.bits) (anV E (dvG lo' hi') (dvLo lo hi lo' hi' s.bits.toNat) (dvHi lo hi lo' hi' s.bits.toNat) (dvLo lo hi lo' hi' s.bits.toNat)) (anV E (dvG lo' hi') (dvLo lo hi lo' hi' s.bits.toNat) (dvHi lo hi lo' hi' s.bits.toNat) (dvHi lo hi lo' hi' s.bits.toNat)) := by
    rw [hE, hlo, hhi, hlo', hhi']; exact ⟨U1, hup1, unhide HB1⟩
  have K2 : Blk wc w2.heap.size u2 (anV C (rtG lo) (rtZ (lo * Q s.bits.toNat)) (rtU (hi * Q s.bits.toNat)) s.bits) (anV C (rtG lo) (rtZ (lo * Q s.bits.toNat)) (rtU (hi * Q s.bits.toNat)) (rtZ (lo * Q s.bits.toNat))) (anV C (rtG lo) (rtZ (lo * Q s.bits.toNat)) (rtU (hi * Q s.bits.toNat)) (rtU (hi * Q s.bits.toNat))) := by
    rw [hC, hlo, hhi]; exact ⟨U2, hup2, unhide HB2⟩
  have K3 : Blk wc w3.heap.size u3 (anV E (meG lo hi lo' hi') (maxZ lo lo') (minZ hi hi') s.bits) (anV E (meG lo hi lo' hi') (maxZ lo lo') (minZ hi hi') (maxZ lo lo')) (anV E (meG lo hi lo' hi') (maxZ lo lo') (minZ hi hi') (minZ hi hi')) := by
    rw [hE, hlo, hhi, hlo', hhi']; exact ⟨U3, hup3, unhide HB3⟩
  clear hE hC hlo hhi hlo' hhi' he1 he2 he3 U1 U2 U3 hup1 hup2 hup3 HB1 HB2 HB3 HUB1 HUB2 HUB3
  obtain ⟨W6, hW6⟩ : ∃ W', W' = ((wc.alloc (.cells #[.bool false, .slice none 0 0, .bool false, .slice none 0 0, .int .i64 0] 26)).alloc (.cells #[.bool false, .slice none 0 0, .bool false, .slice none 0 0, .int .i64 0] 26)).alloc (.cells #[.bool false, .slice none 0 0, .bool false, .slice none 0 0, .int .i64 0] 26) := ⟨_, rfl⟩
  have hc6 : Below wc.heap.size wc W6 := by rw [hW6]; exact bl3 _ _ _ _
  have Z4 : Blk W6 wc.heap.size (Sp.mk false none 0 0 false none 0 0 0) 0 0 0 := ⟨by rw [hW6]; exact ⟨by simp [go_sem], by simp [go_sem], by simp [go_sem], by simp [go_sem], by simp [go_sem]⟩, zeroSp _ _, rfl⟩
  have Z5 : Blk W6 (wc.heap.size + 1) (Sp.mk false none 0 0 false none 0 0 0) 0 0 0 := ⟨by rw [hW6]; exact ⟨by simp [go_sem], by simp [go_sem], by simp [go_sem], by simp [go_sem], by simp [go_sem]⟩, zeroSp _ _, rfl⟩
  have Z6 : Blk W6 (wc.heap.size + 1 + 1) (Sp.mk false none 0 0 false none 0 0 0) 0 0 0 := ⟨by rw [hW6]; exact ⟨by simp [go_sem], by simp [go_sem], by simp [go_sem], by simp [go_sem], by simp [go_sem]⟩, zeroSp _ _, rfl⟩
  have f4 : ∀ o, W6.frozen? ⟨wc.heap.size, o, none⟩ = false := by intro o; rw [hW6]; simp [go_sem]
  have f5 : ∀ o, W6.frozen? ⟨wc.heap.size + 1, o, none⟩ = false := by intro o; rw [hW6]; simp [go_sem]
  have f6 : ∀ o, W6.frozen? ⟨wc.heap.size + 1 + 1, o, none⟩ = false := by intro o; rw [hW6]; simp [go_sem]
  have X : DVd w w1.heap.size w2.heap.size w3.heap.size wc.heap.size (wc.heap.size + 1) (wc.heap.size + 1 + 1) := by unfold DVd; omega
  go_upto_region 7 with fail
  rw [← hW6]
  clear hW6
  obtain ⟨B6, hB6⟩ : ∃ B, B = wc.heap.size + 1 + 1 := ⟨_, rfl⟩
  obtain ⟨B5, hB5⟩ : ∃ B, B = wc.heap.size + 1 := ⟨_, rfl⟩
  obtain ⟨B4, hB4⟩ : ∃ B, B = wc.heap.size := ⟨_, rfl⟩
  obtain ⟨B3, hB3⟩ : ∃ B, B = w3.heap.size := ⟨_, rfl⟩
  obtain ⟨B2, hB2⟩ : ∃ B, B = w2.heap.size := ⟨_, rfl⟩
  obtain ⟨B1, hB1⟩ : ∃ B, B = w1.heap.size := ⟨_, rfl⟩
  have D : DVs w W6 s t C E lo hi lo' hi' B1 B2 B3 B4 B5 B6 u1 u2 u3 (Sp.mk false none 0 0 false none 0 0 0) (Sp.mk false none 0 0 false none 0 0 0) (Sp.mk false none 0 0 false none 0 0 0) (anV E (dvG lo' hi') (dvLo lo hi lo' hi' s.bits.toNat) (dvHi lo hi lo' hi' s.bits.toNat) s.bits) (anV E (dvG lo' hi') (dvLo lo hi lo' hi' s.bits.toNat) (dvHi lo hi lo' hi' s.bits.toNat) (dvLo lo hi lo' hi' s.bits.toNat)) (anV E (dvG lo' hi') (dvLo lo hi lo' hi' s.bits.toNat) (dvHi lo hi lo' hi' s.bits.toNat) (dvHi lo hi lo' hi' s.bits.toNat)) (anV C (rtG lo) (rtZ (lo * Q s.bits.toNat)) (rtU (hi * Q s.bits.toNat)) s.bits) (anV C (rtG lo) (rtZ (lo * Q s.bits.toNat)) (rtU (hi * Q s.bits.toNat)) (rtZ (lo * Q s.bits.toNat))) (anV C (rtG lo) (rtZ (lo * Q s.bits.toNat)) (rtU (hi * Q s.bits.toNat)) (rtU (hi * Q s.bits.toNat))) (anV E (meG lo hi lo' hi') (maxZ lo lo') (minZ hi hi') s.bits) (anV E (meG lo hi lo' hi') (maxZ lo lo') (minZ hi hi') (maxZ lo lo')) (anV E (meG lo hi lo' hi') (maxZ lo lo') (minZ hi hi') (minZ hi hi')) 0 0 0 0 0 0 0 0 0 := by
    rw [hB1, hB2, hB3, hB4, hB5, hB6]
    exact ⟨A.below hc6, G.below hc6, fun h => (hps h).below hc6, fun h => (hpt h).below hc6, K1.below hc6, K2.below hc6, K3.below hc6, Z4, Z5, Z6, f4, f5, f6, bthen hBW hc6⟩
  rw [← hB6, ← hB5, ← hB4, ← hB3, ← hB2, ← hB1] at X
  rw [← hB6, ← hB5, ← hB4, ← hB3, ← hB2, ← hB1]
  clear hB1 hB2 hB3 hB4 hB5 hB6 A G hps hpt K1 K2 K3 Z4 Z5 Z6 f4 f5 f6 hc6 hBW hbl hz0 hz1 hz2 hz3 hz4 q1 q2 q3 q21 q32 q10 r01 r12 r23
  have D0 := D
  go_cut [50, 12] (fun p q wx => p = .bool (decide (C = 0 ∧ lo < 0)) ∧ q = .int .i64 C ∧ DVs w wx s t C E lo hi lo' hi' B1 B2 B3 B4 B5 B6 u1 u2 u3 (Sp.mk false none 0 0 false none 0 0 0) (Sp.mk false none 0 0 false none 0 0 0) (Sp.mk false none 0 0 false none 0 0 0) (anV E (dvG lo' hi') (dvLo lo hi lo' hi' s.bits.toNat) (dvHi lo hi lo' hi' s.bits.toNat) s.bits) (anV E (dvG lo' hi') (dvLo lo hi lo' hi' s.bits.toNat) (dvHi lo hi lo' hi' s.bits.toNat) (dvLo lo hi lo' hi' s.bits.toNat)) (anV E (dvG lo' hi') (dvLo lo hi lo' hi' s.bits.toNat) (dvHi lo hi lo' hi' s.bits.toNat) (dvHi lo hi lo' hi' s.bits.toNat)) (anV C (rtG lo) (rtZ (lo * Q s.bits.toNat)) (rtU (hi * Q s.bits.toNat)) s.bits) (anV C (rtG lo) (rtZ (lo * Q s.bits.toNat)) (rtU (hi * Q s.bits.toNat)) (rtZ (lo * Q s.bits.toNat))) (anV C (rtG lo) (rtZ (lo * Q s.bits.toNat)) (rtU (hi * Q s.bits.toNat)) (rtU (hi * Q s.bits.toNat))) (anV E (meG lo hi lo' hi') (maxZ lo lo') (minZ hi hi') s.bits) (anV E (meG lo hi lo' hi') (maxZ lo lo') (minZ hi hi') (maxZ lo lo')) (anV E (meG lo hi lo' hi') (maxZ lo lo') (minZ hi hi') (minZ hi hi')) 0 0 0 0 0 0 0 0 0)
  case first =>
    by_cases hC : C = 0
    · have hb0 : (C == 0) = true := by simp [hC]
      have lx := D.A.lt
      obtain ⟨x0, x1, x2, x3, x4⟩ := D.A
      go_wp2_with fail
      refine (sign_int _ _ _ _ 250 lo _ (D.ps hC).lo).mono ?_
      rintro r w8 ⟨rfl, hb8⟩
      go_wp2_with fail
      go_meet
      refine ⟨?_, by rw [hC], D.below hb8⟩
      congr 1
      rw [cmp_lt_dec]
      simp [hC]
    · have hb0 : (C == 0) = false := by simp [hC]
      go_wp2_with fail
      go_meet
      refine ⟨?_, rfl, D⟩
      simp [hC]
  case rest =>
  obtain ⟨rfl, rfl, D⟩ := hcut
  clear D0
  go_upto_if 50 with fail
  go_cut [12] (fun p wx => p = .int .i64 (if C = 0 ∧ lo < 0 then 5 else C) ∧ DVs w wx s t C E lo hi lo' hi' B1 B2 B3 B4 B5 B6 u1 u2 u3 (Sp.mk false none 0 0 false none 0 0 0) (Sp.mk false none 0 0 false none 0 0 0) (Sp.mk false none 0 0 false none 0 0 0) (anV E (dvG lo' hi') (dvLo lo hi lo' hi' s.bits.toNat) (dvHi lo hi lo' hi' s.bits.toNat) s.bits) (anV E (dvG lo' hi') (dvLo lo hi lo' hi' s.bits.toNat) (dvHi lo hi lo' hi' s.bits.toNat) (dvLo lo hi lo' hi' s.bits.toNat)) (anV E (dvG lo' hi') (dvLo lo hi lo' hi' s.bits.toNat) (dvHi lo hi lo' hi' s.bits.toNat) (dvHi lo hi lo' hi' s.bits.toNat)) (anV C (rtG lo) (rtZ (lo * Q s.bits.toNat)) (rtU (hi * Q s.bits.toNat)) s.bits) (anV C (rtG lo) (rtZ (lo * Q s.bits.toNat)) (rtU (hi * Q s.bits.toNat)) (rtZ (lo * Q s.bits.toNat))) (anV C (rtG lo) (rtZ (lo * Q s.bits.toNat)) (rtU (hi * Q s.bits.toNat)) (rtU (hi * Q s.bits.toNat))) (anV E (meG lo hi lo' hi') (maxZ lo lo') (minZ hi hi') s.bits) (anV E (meG lo hi lo' hi') (maxZ lo lo') (minZ hi hi') (maxZ lo lo')) (anV E (meG lo hi lo' hi') (maxZ lo lo') (minZ hi hi') (minZ hi hi')) 0 0 0 0 0 0 0 0 0)
  case first =>
    by_cases hC : C = 0 ∧ lo < 0
    · have hb0 : decide (C = 0 ∧ lo < 0) = true := decide_eq_true hC
      rw [hb0]
      go_wp2_with fail
      go_meet
      exact ⟨by rw [if_pos hC], D⟩
    · have hb0 : decide (C = 0 ∧ lo < 0) = false := decide_eq_false hC
      rw [hb0]
      go_wp2_with fail
      go_meet
      exact ⟨by rw [if_neg hC], D⟩
  case rest =>
  obtain ⟨rfl, D⟩ := hcut
  obtain ⟨v, hv⟩ : ∃ x, x = (if C = 0 ∧ lo < 0 then 5 else C) := ⟨_, rfl⟩
  rw [← hv]
  have HW := hide hv
  clear hv
  go_upto_if 52 with fail
  go_cut [12] (fun p wx => p = .int .i64 e2 ∧ ∃ z2, DVs w wx s t C E lo hi lo' hi' B1 B2 B3 B4 B5 B6 u1 u2 u3 (Sp.mk false none 0 0 false none 0 0 0) z2 (Sp.mk false none 0 0 false none 0 0 0) (anV E (dvG lo' hi') (dvLo lo hi lo' hi' s.bits.toNat) (dvHi lo hi lo' hi' s.bits.toNat) s.bits) (anV E (dvG lo' hi') (dvLo lo hi lo' hi' s.bits.toNat) (dvHi lo hi lo' hi' s.bits.toNat) (dvLo lo hi lo' hi' s.bits.toNat)) (anV E (dvG lo' hi') (dvLo lo hi lo' hi' s.bits.toNat) (dvHi lo hi lo' hi' s.bits.toNat) (dvHi lo hi lo' hi' s.bits.toNat)) (anV C (rtG lo) (rtZ (lo * Q s.bits.toNat)) (rtU (hi * Q s.bits.toNat)) s.bits) (anV C (rtG lo) (rtZ (lo * Q s.bits.toNat)) (rtU (hi * Q s.bits.toNat)) (rtZ (lo * Q s.bits.toNat))) (anV C (rtG lo) (rtZ (lo * Q s.bits.toNat)) (rtU (hi * Q s.bits.toNat)) (rtU (hi * Q s.bits.toNat))) (anV E (meG lo hi lo' hi') (maxZ lo lo') (minZ hi hi') s.bits) (anV E (meG lo hi lo' hi') (maxZ lo lo') (minZ hi hi') (maxZ lo lo')) (anV E (meG lo hi lo' hi') (maxZ lo lo') (minZ hi hi') (minZ hi hi')) 0 0 0 (anV C (rtG lo) (rtZ (lo * Q s.bits.toNat)) (rtU (hi * Q s.bits.toNat)) s.bits) (anV C (rtG lo) (rtZ (lo * Q s.bits.toNat)) (rtU (hi * Q s.bits.toNat)) (rtZ (lo * Q s.bits.toNat))) (anV C (rtG lo) (rtZ (lo * Q s.bits.toNat)) (rtU (hi * Q s.bits.toNat)) (rtU (hi * Q s.bits.toNat))) 0 0 0)
  case first =>
    by_cases h0 : v = 0
    · have hb0 : (v == 0) = true := by simp [h0]
      have hC : C = 0 := by have := unhide HW; rw [h0] at this; split at this <;> omega
      have hl : ¬ lo < 0 := by intro h9; have := unhide HW; rw [h0, if_pos ⟨hC, h9⟩] at this; omega
      obtain ⟨p1, p2, p3⟩ := unhide HC hC
      obtain ⟨b, hb⟩ : ∃ b : Nat, s.bits = (b : Int) := ⟨s.bits.toNat, by omega⟩
      have hbn : s.bits.toNat = b := by omega
      have PS := hide (D.ps hC)
      have HP := hide (show 1 ≤ s.bits ∧ s.bits ≤ 120 from ⟨p1, p2⟩)
      have HBB := hide hb
      have HBN := hide hbn
      have HLH := hide (show 0 ≤ lo ∧ 0 ≤ hi ∧ lo ≤ hi ∧ b ≤ 120 by omega)
      have HQ := hide (show rtZ (lo * Q b) ≤ rtU (hi * Q b) from rtZ_le_rtU (Int.mul_le_mul_of_nonneg_right p3 (by have := Q_pos b; omega)) (Int.mul_nonneg (by omega) (by have := Q_pos b; omega)))
      have HCC := hide hC
      have HLL := hide hl
      clear p1 p2 p3 hb hbn h0 hl hC
      have lx := D.A.lt
      obtain ⟨x0, x1, x2, x3, x4⟩ := D.A
      go_wp2_with fail
      refine (refOf_any _ s).mono ?_
      rintro r w8 ⟨rfl, hb8⟩
      replace PS := hide ((unhide PS).below hb8)
      replace D := D.below hb8
      clear hb8
      go_wp2_with fail
      refine (refRoots_int _ s 250 b lo hi (unhide PS) (by omega) (by have := unhide HLH; omega) (unhide HBB) (unhide HLH).1 (unhide HLH).2.1).mono ?_
      rintro r w9 ⟨y, rfl, hyb, hyp, hb9⟩
      replace D := D.below hb9
      have HYB := hide hyb
      clear hb9 hyb
      go_wp2_with fail
      refine (done_fit _ y (b / 16 + 250 + 30) _ _ hyp (unhide HQ) (by rw [unhide HYB, ← unhide HBB]; exact (unhide HP).1) (by rw [unhide HYB, ← unhide HBB]; exact (unhide HP).2)).mono ?_
      rintro r w10 ⟨z, rfl, hzb, hzp, hb10⟩
      replace D := D.below hb10
      have HZB := hide hzb
      clear hb10 hzb lx x0 x1 x2 x3 x4
      have fz := D.f2
      have lq := D.Z2.c.lt
      obtain ⟨q0, q1, q2, q3, q4⟩ := D.Z2.c
      go_wp2_with fail
      go_meet
      obtain ⟨a1, a2⟩ := an_fit (L := rtZ (lo * Q b)) (H := rtU (hi * Q b))
      have hg : rtG lo = 0 := if_neg (by have := unhide HLL; omega)
      have hv2 := unhide HV2
      rw [unhide HCC, hg, unhide HBN, a1] at hv2
      refine ⟨by rw [hv2], z, D.set2 X ?_ ?_⟩
      · rw [unhide HCC, hg, unhide HBN, a2, a2]; exact hzp.mono (by have := unhide HLH; omega)
      · rw [unhide HCC, hg, unhide HBN, a2, unhide HZB, unhide HYB, unhide HBB]
    · have hb0 : (v == 0) = false := by simp [h0]
      go_wp2_with fail
      go_meet
      have hv2 : e2 = v ∧ ∀ x, (anV C (rtG lo) (rtZ (lo * Q s.bits.toNat)) (rtU (hi * Q s.bits.toNat)) x) = 0 := by
        have h1 := unhide HV2
        have h2 := unhide HW
        by_cases hC : C = 0
        · have hl : lo < 0 := by
            rcases Int.lt_or_le lo 0 with h9 | h9
            · exact h9
            · rw [if_neg (by omega), hC] at h2; exact absurd h2 h0
          rw [if_pos ⟨hC, hl⟩] at h2
          obtain ⟨a1, a2⟩ := an_own (g := rtG lo) (L := (rtZ (lo * Q s.bits.toNat))) (H := (rtU (hi * Q s.bits.toNat))) (by unfold rtG; rw [if_pos hl]; decide)
          rw [hC, a1] at h1
          rw [hC]
          exact ⟨by rw [h1, h2]; unfold rtG; rw [if_pos hl], a2⟩
        · obtain ⟨a1, a2⟩ := an_bad (E := C) (g := rtG lo) (L := (rtZ (lo * Q s.bits.toNat))) (H := (rtU (hi * Q s.bits.toNat))) hC
          rw [a1] at h1
          rw [if_neg (fun h => hC h.1)] at h2
          exact ⟨by rw [h1, h2], a2⟩
      refine ⟨by rw [hv2.1], (Sp.mk false none 0 0 false none 0 0 0), ?_⟩
      rw [hv2.2, hv2.2, hv2.2]
      have D9 := D
      rw [hv2.2, hv2.2, hv2.2] at D9
      exact D9
  case rest =>
  obtain ⟨rfl, z2, D⟩ := hcut
  clear HW
  go_upto_region 11 with fail
  go_cut [66, 11, 13, 14] (fun p q q3 q4 wx => p = .bool (decide (E = 0 ∧ (lo' ≤ 0 ∧ 0 ≤ hi'))) ∧ q = .int .i64 E ∧ q3 = .int .i64 E ∧ q4 = .int .i64 E ∧ DVs w wx s t C E lo hi lo' hi' B1 B2 B3 B4 B5 B6 u1 u2 u3 (Sp.mk false none 0 0 false none 0 0 0) z2 (Sp.mk false none 0 0 false none 0 0 0) (anV E (dvG lo' hi') (dvLo lo hi lo' hi' s.bits.toNat) (dvHi lo hi lo' hi' s.bits.toNat) s.bits) (anV E (dvG lo' hi') (dvLo lo hi lo' hi' s.bits.toNat) (dvHi lo hi lo' hi' s.bits.toNat) (dvLo lo hi lo' hi' s.bits.toNat)) (anV E (dvG lo' hi') (dvLo lo hi lo' hi' s.bits.toNat) (dvHi lo hi lo' hi' s.bits.toNat) (dvHi lo hi lo' hi' s.bits.toNat)) (anV C (rtG lo) (rtZ (lo * Q s.bits.toNat)) (rtU (hi * Q s.bits.toNat)) s.bits) (anV C (rtG lo) (rtZ (lo * Q s.bits.toNat)) (rtU (hi * Q s.bits.toNat)) (rtZ (lo * Q s.bits.toNat))) (anV C (rtG lo) (rtZ (lo * Q s.bits.toNat)) (rtU (hi * Q s.bits.toNat)) (rtU (hi * Q s.bits.toNat))) (anV E (meG lo hi lo' hi') (maxZ lo lo') (minZ hi hi') s.bits) (anV E (meG lo hi lo' hi') (maxZ lo lo') (minZ hi hi') (maxZ lo lo')) (anV E (meG lo hi lo' hi') (maxZ lo lo') (minZ hi hi') (minZ hi hi')) 0 0 0 (anV C (rtG lo) (rtZ (lo * Q s.bits.toNat)) (rtU (hi * Q s.bits.toNat)) s.bits) (anV C (rtG lo) (rtZ (lo * Q s.bits.toNat)) (rtU (hi * Q s.bits.toNat)) (rtZ (lo * Q s.bits.toNat))) (anV C (rtG lo) (rtZ (lo * Q s.bits.toNat)) (rtU (hi * Q s.bits.toNat)) (rtU (hi * Q s.bits.toNat))) 0 0 0)
  case first =>
    by_cases hE : E = 0
    · have hb0 : (E == 0) = true := by simp [hE]
      have ly := D.G.lt
      obtain ⟨y0, y1, y2, y3, y4⟩ := D.G
      go_wp2_with fail
      refine (refOf_any _ t).mono ?_
      rintro r w8 ⟨rfl, hb8⟩
      go_wp2_with fail
      refine (hasNought_int _ t 250 lo' hi' ((D.pt hE).below hb8)).mono ?_
      rintro r w9 ⟨rfl, hb9⟩
      go_wp2_with fail
      go_meet
      refine ⟨?_, by rw [hE], by rw [hE], by rw [hE], (D.below hb8).below hb9⟩
      congr 1
      rw [Bool.eq_iff_iff]
      simp [hE]
    · have hb0 : (E == 0) = false := by simp [hE]
      go_wp2_with fail
      go_meet
      refine ⟨?_, rfl, rfl, rfl, D⟩
      simp [hE]
  case rest =>
  obtain ⟨rfl, rfl, rfl, rfl, D⟩ := hcut
  go_upto_if 66 with fail
  go_cut [11] (fun p wx => p = .int .i64 (if E = 0 ∧ (lo' ≤ 0 ∧ 0 ≤ hi') then 5 else E) ∧ DVs w wx s t C E lo hi lo' hi' B1 B2 B3 B4 B5 B6 u1 u2 u3 (Sp.mk false none 0 0 false none 0 0 0) z2 (Sp.mk false none 0 0 false none 0 0 0) (anV E (dvG lo' hi') (dvLo lo hi lo' hi' s.bits.toNat) (dvHi lo hi lo' hi' s.bits.toNat) s.bits) (anV E (dvG lo' hi') (dvLo lo hi lo' hi' s.bits.toNat) (dvHi lo hi lo' hi' s.bits.toNat) (dvLo lo hi lo' hi' s.bits.toNat)) (anV E (dvG lo' hi') (dvLo lo hi lo' hi' s.bits.toNat) (dvHi lo hi lo' hi' s.bits.toNat) (dvHi lo hi lo' hi' s.bits.toNat)) (anV C (rtG lo) (rtZ (lo * Q s.bits.toNat)) (rtU (hi * Q s.bits.toNat)) s.bits) (anV C (rtG lo) (rtZ (lo * Q s.bits.toNat)) (rtU (hi * Q s.bits.toNat)) (rtZ (lo * Q s.bits.toNat))) (anV C (rtG lo) (rtZ (lo * Q s.bits.toNat)) (rtU (hi * Q s.bits.toNat)) (rtU (hi * Q s.bits.toNat))) (anV E (meG lo hi lo' hi') (maxZ lo lo') (minZ hi hi') s.bits) (anV E (meG lo hi lo' hi') (maxZ lo lo') (minZ hi hi') (maxZ lo lo')) (anV E (meG lo hi lo' hi') (maxZ lo lo') (minZ hi hi') (minZ hi hi')) 0 0 0 (anV C (rtG lo) (rtZ (lo * Q s.bits.toNat)) (rtU (hi * Q s.bits.toNat)) s.bits) (anV C (rtG lo) (rtZ (lo * Q s.bits.toNat)) (rtU (hi * Q s.bits.toNat)) (rtZ (lo * Q s.bits.toNat))) (anV C (rtG lo) (rtZ (lo * Q s.bits.toNat)) (rtU (hi * Q s.bits.toNat)) (rtU (hi * Q s.bits.toNat))) 0 0 0)
  case first =>
    by_cases hC : E = 0 ∧ (lo' ≤ 0 ∧ 0 ≤ hi')
    · have hb0 : decide (E = 0 ∧ (lo' ≤ 0 ∧ 0 ≤ hi')) = true := decide_eq_true hC
      rw [hb0]
      go_wp2_with fail
      go_meet
      exact ⟨by rw [if_pos hC], D⟩
    · have hb0 : decide (E = 0 ∧ (lo' ≤ 0 ∧ 0 ≤ hi')) = false := decide_eq_false hC
      rw [hb0]
      go_wp2_with fail
      go_meet
      exact ⟨by rw [if_neg hC], D⟩
  case rest =>
  obtain ⟨rfl, D⟩ := hcut
  obtain ⟨v, hv⟩ : ∃ x, x = (if E = 0 ∧ (lo' ≤ 0 ∧ 0 ≤ hi') then 5 else E) := ⟨_, rfl⟩
  rw [← hv]
  have HW := hide hv
  clear hv
  go_upto_if 68 with fail
  go_cut [11] (fun p wx => p = .int .i64 e1 ∧ ∃ z1, DVs w wx s t C E lo hi lo' hi' B1 B2 B3 B4 B5 B6 u1 u2 u3 z1 z2 (Sp.mk false none 0 0 false none 0 0 0) (anV E (dvG lo' hi') (dvLo lo hi lo' hi' s.bits.toNat) (dvHi lo hi lo' hi' s.bits.toNat) s.bits) (anV E (dvG lo' hi') (dvLo lo hi lo' hi' s.bits.toNat) (dvHi lo hi lo' hi' s.bits.toNat) (dvLo lo hi lo' hi' s.bits.toNat)) (anV E (dvG lo' hi') (dvLo lo hi lo' hi' s.bits.toNat) (dvHi lo hi lo' hi' s.bits.toNat) (dvHi lo hi lo' hi' s.bits.toNat)) (anV C (rtG lo) (rtZ (lo * Q s.bits.toNat)) (rtU (hi * Q s.bits.toNat)) s.bits) (anV C (rtG lo) (rtZ (lo * Q s.bits.toNat)) (rtU (hi * Q s.bits.toNat)) (rtZ (lo * Q s.bits.toNat))) (anV C (rtG lo) (rtZ (lo * Q s.bits.toNat)) (rtU (hi * Q s.bits.toNat)) (rtU (hi * Q s.bits.toNat))) (anV E (meG lo hi lo' hi') (maxZ lo lo') (minZ hi hi') s.bits) (anV E (meG lo hi lo' hi') (maxZ lo lo') (minZ hi hi') (maxZ lo lo')) (anV E (meG lo hi lo' hi') (maxZ lo lo') (minZ hi hi') (minZ hi hi')) (anV E (dvG lo' hi') (dvLo lo hi lo' hi' s.bits.toNat) (dvHi lo hi lo' hi' s.bits.toNat) s.bits) (anV E (dvG lo' hi') (dvLo lo hi lo' hi' s.bits.toNat) (dvHi lo hi lo' hi' s.bits.toNat) (dvLo lo hi lo' hi' s.bits.toNat)) (anV E (dvG lo' hi') (dvLo lo hi lo' hi' s.bits.toNat) (dvHi lo hi lo' hi' s.bits.toNat) (dvHi lo hi lo' hi' s.bits.toNat)) (anV C (rtG lo) (rtZ (lo * Q s.bits.toNat)) (rtU (hi * Q s.bits.toNat)) s.bits) (anV C (rtG lo) (rtZ (lo * Q s.bits.toNat)) (rtU (hi * Q s.bits.toNat)) (rtZ (lo * Q s.bits.toNat))) (anV C (rtG lo) (rtZ (lo * Q s.bits.toNat)) (rtU (hi * Q s.bits.toNat)) (rtU (hi * Q s.bits.toNat))) 0 0 0)
  case first =>
    by_cases h0 : v = 0
    · have hb0 : (v == 0) = true := by simp [h0]
      have hE : E = 0 := by have := unhide HW; rw [h0] at this; split at this <;> omega
      have hl : ¬ (lo' ≤ 0 ∧ 0 ≤ hi') := by intro h9; have := unhide HW; rw [h0, if_pos ⟨hE, h9⟩] at this; omega
      obtain ⟨p1, p2, p3⟩ := unhide HC (unhide HEC hE)
      have p4 := unhide HT hE
      obtain ⟨b, hb⟩ : ∃ b : Nat, s.bits = (b : Int) := ⟨s.bits.toNat, by omega⟩
      have hbn : s.bits.toNat = b := by omega
      have PS := hide (D.ps (unhide HEC hE))
      have PT := hide (D.pt hE)
      have HP := hide (show 1 ≤ s.bits ∧ s.bits ≤ 120 from ⟨p1, p2⟩)
      have HBB := hide hb
      have HBN := hide hbn
      have HLH := hide (show b ≤ 120 ∧ lo' ≤ hi' ∧ ¬ (lo' ≤ 0 ∧ 0 ≤ hi') from ⟨by omega, p4, hl⟩)
      have HQ := hide (dv_le lo hi lo' hi' b p3 hl p4)
      have HCC := hide hE
      clear p1 p2 p3 p4 hb hbn h0 hl hE
      obtain ⟨V0, hV0⟩ : ∃ V', V' = wc := ⟨_, rfl⟩
      subst hV0
      have HD := hide D
      have HK := hide (show ∀ w', Below V0.heap.size V0 w' → (w'.cell? ⟨w.heap.size, 0, none⟩ = some (.bool s.ln) ∧ w'.cell? ⟨w.heap.size, 1, none⟩ = some (.slice s.la s.lN s.lc) ∧ w'.cell? ⟨w.heap.size, 2, none⟩ = some (.bool s.hn) ∧ w'.cell? ⟨w.heap.size, 3, none⟩ = some (.slice s.ha s.hN s.hc) ∧ w'.cell? ⟨w.heap.size, 4, none⟩ = some (.int .i64 s.bits) ∧ w'.cell? ⟨w.heap.size + 1, 0, none⟩ = some (.bool t.ln) ∧ w'.cell? ⟨w.heap.size + 1, 1, none⟩ = some (.slice t.la t.lN t.lc) ∧ w'.cell? ⟨w.heap.size + 1, 2, none⟩ = some (.bool t.hn) ∧ w'.cell? ⟨w.heap.size + 1, 3, none⟩ = some (.slice t.ha t.hN t.hc) ∧ w'.cell? ⟨w.heap.size + 1, 4, none⟩ = some (.int .i64 t.bits)) from fun w' hB => by
        obtain ⟨x0, x1, x2, x3, x4⟩ := (unhide HD).A.below hB
        obtain ⟨y0, y1, y2, y3, y4⟩ := (unhide HD).G.below hB
        exact ⟨x0, x1, x2, x3, x4, y0, y1, y2, y3, y4⟩)
      have la := D.A.lt
      have lg := D.G.lt
      have nA4 : w.heap.size ≠ B4 := by unfold DVd at X; omega
      have nG4 : w.heap.size + 1 ≠ B4 := by unfold DVd at X; omega
      obtain ⟨x0, x1, x2, x3, x4, y0, y1, y2, y3, y4⟩ := unhide HK _ (Below.refl _ _)
      go_wp2_with fail
      go_region_held3 (fun w' => w'.cell? ⟨w.heap.size, 0, none⟩ = some (.bool s.ln) ∧ w'.cell? ⟨w.heap.size, 1, none⟩ = some (.slice s.la s.lN s.lc) ∧ w'.cell? ⟨w.heap.size, 2, none⟩ = some (.bool s.hn) ∧ w'.cell? ⟨w.heap.size, 3, none⟩ = some (.slice s.ha s.hN s.hc) ∧ w'.cell? ⟨w.heap.size, 4, none⟩ = some (.int .i64 s.bits) ∧ w'.cell? ⟨w.heap.size + 1, 0, none⟩ = some (.bool t.ln) ∧ w'.cell? ⟨w.heap.size + 1, 1, none⟩ = some (.slice t.la t.lN t.lc) ∧ w'.cell? ⟨w.heap.size + 1, 2, none⟩ = some (.bool t.hn) ∧ w'.cell? ⟨w.heap.size + 1, 3, none⟩ = some (.slice t.ha t.hN t.hc) ∧ w'.cell? ⟨w.heap.size + 1, 4, none⟩ = some (.int .i64 t.bits)) (first | exact unhide HK _ (by first | with_reducible exact hE4 | with_reducible exact hE3 | with_reducible exact hE2 | with_reducible exact hE1 | with_reducible exact (Below.refl _ _).drew | with_reducible exact Below.refl _ _) | exact ⟨cell_put5' k0 nA4 _ _ _ _ _, cell_put5' k1 nA4 _ _ _ _ _, cell_put5' k2 nA4 _ _ _ _ _, cell_put5' k3 nA4 _ _ _ _ _, cell_put5' k4 nA4 _ _ _ _ _, cell_put5' j0 nG4 _ _ _ _ _, cell_put5' j1 nG4 _ _ _ _ _, cell_put5' j2 nG4 _ _ _ _ _, cell_put5' j3 nG4 _ _ _ _ _, cell_put5' j4 nG4 _ _ _ _ _⟩)
        (first
          | (go_at_call 20; refine (done_fit _ y (250 + b / 16 + 20) _ _ hyp (unhide HQ) (by rw [unhide HYB, ← unhide HBB]; exact (unhide HP).1) (by rw [unhide HYB, ← unhide HBB]; exact (unhide HP).2)).mono ?_; rintro r w14 ⟨z, rfl, hzb, hzp, hg4⟩; have HZB := hide hzb; clear hzb; have hE4 := bthen hE3 hg4; have D4 := (unhide HD).below hE4; have fz := D4.f1; have lq := D4.Z1.c.lt; obtain ⟨q0, q1, q2, q3, q4⟩ := D4.Z1.c; obtain ⟨k0, k1, k2, k3, k4, j0, j1, j2, j3, j4⟩ := unhide HK _ hE4)
          | (go_at_call 43; refine (refOver_any _ s t 250 b lo hi lo' hi' ((unhide PS).below hE2) ((unhide PT).below hE2) (by omega) (by have := (unhide HLH).1; omega) (unhide HBB) (unhide HLH).2.2 (unhide HLH).2.1).mono ?_; rintro r w13 ⟨y, rfl, hyb, hyp, hg3⟩; have HYB := hide hyb; clear hyb; have hE3 := bthen hE2 hg3)
          | (go_at_call 23; have hq := hE1; refine (refOf_any _ t).mono ?_; rintro r w12 ⟨rfl, hg2⟩; have hE2 := bthen hE1 hg2)
          | (go_at_call 23; refine (refOf_any _ s).mono ?_; rintro r w11 ⟨rfl, hg1⟩; have hE1 : Below V0.heap.size V0 w11 := bthen (Below.refl _ _).drew hg1))
      all_goals
        go_wp2_with fail
        go_meet
        obtain ⟨a1, a2⟩ := an_fit (L := dvLo lo hi lo' hi' b) (H := dvHi lo hi lo' hi' b)
        have hg : dvG lo' hi' = 0 := if_neg (unhide HLH).2.2
        have hv1 := unhide HV1
        rw [unhide HCC, hg, unhide HBN, a1] at hv1
        refine ⟨by rw [hv1], z, D4.set1 X ?_ ?_⟩
        · rw [unhide HCC, hg, unhide HBN, a2, a2]; exact hzp.mono (by have := (unhide HLH).1; omega)
        · rw [unhide HCC, hg, unhide HBN, a2, unhide HZB, unhide HYB, unhide HBB]
    · have hb0 : (v == 0) = false := by simp [h0]
      go_wp2_with fail
      go_meet
      have hv1 : e1 = v ∧ ∀ x, (anV E (dvG lo' hi') (dvLo lo hi lo' hi' s.bits.toNat) (dvHi lo hi lo' hi' s.bits.toNat) x) = 0 := by
        have h1 := unhide HV1
        have h2 := unhide HW
        by_cases hC : E = 0
        · have hl : lo' ≤ 0 ∧ 0 ≤ hi' := by
            by_cases h9 : lo' ≤ 0 ∧ 0 ≤ hi'
            · exact h9
            · rw [if_neg (fun h => h9 h.2), hC] at h2; exact absurd h2 h0
          rw [if_pos ⟨hC, hl⟩] at h2
          obtain ⟨a1, a2⟩ := an_own (g := dvG lo' hi') (L := (dvLo lo hi lo' hi' s.bits.toNat)) (H := (dvHi lo hi lo' hi' s.bits.toNat)) (by unfold dvG; rw [if_pos hl]; decide)
          rw [hC, a1] at h1
          rw [hC]
          exact ⟨by rw [h1, h2]; unfold dvG; rw [if_pos hl], a2⟩
        · obtain ⟨a1, a2⟩ := an_bad (E := E) (g := dvG lo' hi') (L := (dvLo lo hi lo' hi' s.bits.toNat)) (H := (dvHi lo hi lo' hi' s.bits.toNat)) hC
          rw [a1] at h1
          rw [if_neg (fun h => hC h.1)] at h2
          exact ⟨by rw [h1, h2], a2⟩
      refine ⟨by rw [hv1.1], (Sp.mk false none 0 0 false none 0 0 0), ?_⟩
      rw [hv1.2, hv1.2, hv1.2]
      have D9 := D
      rw [hv1.2, hv1.2, hv1.2] at D9
      exact D9
  case rest =>
  obtain ⟨rfl, z1, D⟩ := hcut
  clear HW
  go_upto_if 79 with fail
  go_cut [14, 13] (fun p q wx => p = .int .i64 e3 ∧ q = .int .i64 E ∧ ∃ z3, DVs w wx s t C E lo hi lo' hi' B1 B2 B3 B4 B5 B6 u1 u2 u3 z1 z2 z3 (anV E (dvG lo' hi') (dvLo lo hi lo' hi' s.bits.toNat) (dvHi lo hi lo' hi' s.bits.toNat) s.bits) (anV E (dvG lo' hi') (dvLo lo hi lo' hi' s.bits.toNat) (dvHi lo hi lo' hi' s.bits.toNat) (dvLo lo hi lo' hi' s.bits.toNat)) (anV E (dvG lo' hi') (dvLo lo hi lo' hi' s.bits.toNat) (dvHi lo hi lo' hi' s.bits.toNat) (dvHi lo hi lo' hi' s.bits.toNat)) (anV C (rtG lo) (rtZ (lo * Q s.bits.toNat)) (rtU (hi * Q s.bits.toNat)) s.bits) (anV C (rtG lo) (rtZ (lo * Q s.bits.toNat)) (rtU (hi * Q s.bits.toNat)) (rtZ (lo * Q s.bits.toNat))) (anV C (rtG lo) (rtZ (lo * Q s.bits.toNat)) (rtU (hi * Q s.bits.toNat)) (rtU (hi * Q s.bits.toNat))) (anV E (meG lo hi lo' hi') (maxZ lo lo') (minZ hi hi') s.bits) (anV E (meG lo hi lo' hi') (maxZ lo lo') (minZ hi hi') (maxZ lo lo')) (anV E (meG lo hi lo' hi') (maxZ lo lo') (minZ hi hi') (minZ hi hi')) (anV E (dvG lo' hi') (dvLo lo hi lo' hi' s.bits.toNat) (dvHi lo hi lo' hi' s.bits.toNat) s.bits) (anV E (dvG lo' hi') (dvLo lo hi lo' hi' s.bits.toNat) (dvHi lo hi lo' hi' s.bits.toNat) (dvLo lo hi lo' hi' s.bits.toNat)) (anV E (dvG lo' hi') (dvLo lo hi lo' hi' s.bits.toNat) (dvHi lo hi lo' hi' s.bits.toNat) (dvHi lo hi lo' hi' s.bits.toNat)) (anV C (rtG lo) (rtZ (lo * Q s.bits.toNat)) (rtU (hi * Q s.bits.toNat)) s.bits) (anV C (rtG lo) (rtZ (lo * Q s.bits.toNat)) (rtU (hi * Q s.bits.toNat)) (rtZ (lo * Q s.bits.toNat))) (anV C (rtG lo) (rtZ (lo * Q s.bits.toNat)) (rtU (hi * Q s.bits.toNat)) (rtU (hi * Q s.bits.toNat))) (anV E (meG lo hi lo' hi') (maxZ lo lo') (minZ hi hi') s.bits) (anV E (meG lo hi lo' hi') (maxZ lo lo') (minZ hi hi') (maxZ lo lo')) (anV E (meG lo hi lo' hi') (maxZ lo lo') (minZ hi hi') (minZ hi hi')))
  case first =>
    by_cases hE : E = 0
    · have hb0 : (E == 0) = true := by simp [hE]
      obtain ⟨p1, p2, p3⟩ := unhide HC (unhide HEC hE)
      have p4 := unhide HT hE
      have PS := hide (D.ps (unhide HEC hE))
      have PT := hide (D.pt hE)
      have HP := hide (show 1 ≤ s.bits ∧ s.bits ≤ 120 from ⟨p1, p2⟩)
      have HCC := hide hE
      clear p1 p2 p3 p4 hE
      have lx := D.A.lt
      obtain ⟨x0, x1, x2, x3, x4⟩ := D.A
      go_wp2_with fail
      refine (refOf_any _ s).mono ?_
      rintro r w8 ⟨rfl, hb8⟩
      replace D := D.below hb8
      replace PS := hide ((unhide PS).below hb8)
      replace PT := hide ((unhide PT).below hb8)
      clear hb8 lx x0 x1 x2 x3 x4
      obtain ⟨W8, hW8⟩ : ∃ W', W' = w8.alloc (.cells #[.bool s.ln, .slice s.la s.lN s.lc, .bool s.hn, .slice s.ha s.hN s.hc, .int .i64 s.bits] 38) := ⟨_, rfl⟩
      have hx : Below w8.heap.size w8 W8 := by rw [hW8]; exact bl1 _ _
      have M : SpC W8 w8.heap.size s := by rw [hW8]; exact spc_new _ _ _
      have F : ∀ o, W8.frozen? ⟨w8.heap.size, o, none⟩ = false := by intro o; rw [hW8]; simp [go_sem]
      obtain ⟨BM, hBM⟩ : ∃ B, B = w8.heap.size := ⟨_, rfl⟩
      have nM : w8.heap.size ≤ BM := by rw [hBM]; exact Nat.le_refl _
      have kA : w.heap.size < BM := by rw [hBM]; exact D.A.lt
      have kG : w.heap.size + 1 < BM := by rw [hBM]; exact D.G.lt
      have kZ : B6 < BM := by rw [hBM]; exact D.Z3.c.lt
      rw [← hBM] at M F
      go_upto_region 17 with fail
      rw [← hW8, ← hBM]
      clear hW8 hBM
      have lM := M.lt
      have lG := (D.G.below hx).lt
      obtain ⟨m0, m1, m2, m3, m4⟩ := M
      obtain ⟨y0, y1, y2, y3, y4⟩ := D.G.below hx
      go_wp2_with fail
      refine (cmp_int _ _ _ _ _ _ _ _ 250 250 lo' lo _ ((unhide PT).lo.below hx) ((unhide PS).lo.below hx)).mono ?_
      rintro r w9 ⟨rfl, hb9⟩
      have M := (SpC.mk m0 m1 m2 m3 m4).below hb9
      replace F : ∀ o, w9.frozen? ⟨BM, o, none⟩ = false := fun o => (hb9.frozen (p := ⟨BM, o, none⟩) lM).trans (F o)
      replace hx := bthen hx hb9
      clear hb9 m0 m1 m2 m3 m4 y0 y1 y2 y3 y4 lM lG
      go_upto_if 87 with fail
      go_cut [88] (fun _ wx => ∃ v : Sp, SpC wx BM v ∧ SpAt wx v 250 (maxZ lo lo') hi ∧ v.bits = s.bits ∧ (∀ o, wx.frozen? ⟨BM, o, none⟩ = false) ∧ Below w8.heap.size w8 wx)
      case first =>
        have lM := M.lt
        have lG := (D.G.below hx).lt
        obtain ⟨m0, m1, m2, m3, m4⟩ := M
        obtain ⟨y0, y1, y2, y3, y4⟩ := D.G.below hx
        by_cases c1 : lo < lo'
        · have t1 : 0 < cmpInt lo' lo := by unfold cmpInt; rw [if_neg (by omega), if_pos c1]; omega
          have hm := hide (show maxZ lo lo' = lo' by simp [maxZ, c1])
          clear c1
          go_wp2_with fail
          go_meet
          rw [unhide hm]
          exact ⟨_, sp_putL (SpC.mk m0 m1 m2 m3 m4) ⟨t.ln, t.la, t.lN, t.lc⟩, ⟨((unhide PT).lo.below hx).put2 m0 m1 _ _, ((unhide PS).hi.below hx).put2 m0 m1 _ _⟩, rfl, fz2 F _ _ _ _, set2 hx nM _ _⟩
        · have t1 : ¬ 0 < cmpInt lo' lo := by unfold cmpInt; split <;> (try split) <;> omega
          have hm := hide (show maxZ lo lo' = lo by simp [maxZ, c1])
          clear c1
          go_wp2_with fail
          go_meet
          rw [unhide hm]
          exact ⟨s, SpC.mk m0 m1 m2 m3 m4, (unhide PS).below hx, rfl, F, hx⟩
      case rest =>
      obtain ⟨v, M, hv, hvb, F, hx⟩ := hcut
      have HVB := hide hvb
      clear hvb
      have lM := M.lt
      have lG := (D.G.below hx).lt
      obtain ⟨m0, m1, m2, m3, m4⟩ := M
      obtain ⟨y0, y1, y2, y3, y4⟩ := D.G.below hx
      go_wp2_with fail
      refine (cmp_int _ _ _ _ _ _ _ _ 250 250 hi' hi _ ((unhide PT).hi.below hx) hv.hi).mono ?_
      rintro r w10 ⟨rfl, hb10⟩
      have M := (SpC.mk m0 m1 m2 m3 m4).below hb10
      replace F : ∀ o, w10.frozen? ⟨BM, o, none⟩ = false := fun o => (hb10.frozen (p := ⟨BM, o, none⟩) lM).trans (F o)
      replace hx := bthen hx hb10
      replace hv := hv.below hb10
      clear hb10 m0 m1 m2 m3 m4 y0 y1 y2 y3 y4 lM lG
      go_upto_if 96 with fail
      go_cut [97] (fun _ wx => ∃ v : Sp, SpC wx BM v ∧ SpAt wx v 250 (maxZ lo lo') (minZ hi hi') ∧ v.bits = s.bits ∧ (∀ o, wx.frozen? ⟨BM, o, none⟩ = false) ∧ Below w8.heap.size w8 wx)
      case first =>
        have lM := M.lt
        have lG := (D.G.below hx).lt
        obtain ⟨m0, m1, m2, m3, m4⟩ := M
        obtain ⟨y0, y1, y2, y3, y4⟩ := D.G.below hx
        by_cases c1 : hi' < hi
        · have t1 : cmpInt hi' hi < 0 := by unfold cmpInt; rw [if_pos c1]; omega
          have hm := hide (show minZ hi hi' = hi' by simp [minZ, c1])
          clear c1
          go_wp2_with fail
          go_meet
          rw [unhide hm]
          exact ⟨_, sp_putH (SpC.mk m0 m1 m2 m3 m4) ⟨t.hn, t.ha, t.hN, t.hc⟩, ⟨hv.lo.put23 m2 m3 _ _, ((unhide PT).hi.below hx).put23 m2 m3 _ _⟩, unhide HVB, fz2 F _ _ _ _, (hx.setCell (p := ⟨BM, 2, none⟩) nM _).setCell (p := ⟨BM, 3, none⟩) nM _⟩
        · have t1 : ¬ cmpInt hi' hi < 0 := by unfold cmpInt; rw [if_neg c1]; split <;> omega
          have hm := hide (show minZ hi hi' = hi by simp [minZ, c1])
          clear c1
          go_wp2_with fail
          go_meet
          rw [unhide hm]
          exact ⟨v, SpC.mk m0 m1 m2 m3 m4, hv, unhide HVB, F, hx⟩
      case rest =>
      obtain ⟨v2, M, hv2, hvb2, F, hx⟩ := hcut
      have HVB2 := hide hvb2
      clear hvb2 hv HVB
      have lM := M.lt
      obtain ⟨m0, m1, m2, m3, m4⟩ := M
      go_wp2_with fail
      refine (cmp_int _ _ _ _ _ _ _ _ 250 250 _ _ _ hv2.lo hv2.hi).mono ?_
      rintro r w11 ⟨rfl, hb11⟩
      have M := (SpC.mk m0 m1 m2 m3 m4).below hb11
      replace hx := bthen hx hb11
      replace hv2 := hv2.below hb11
      replace D := D.below hx
      clear hb11 m0 m1 m2 m3 m4 lM F
      have lM := M.lt
      obtain ⟨m0, m1, m2, m3, m4⟩ := M
      by_cases c1 : minZ hi hi' < maxZ lo lo'
      · have t1 : 0 < cmpInt (maxZ lo lo') (minZ hi hi') := by unfold cmpInt; rw [if_neg (by omega), if_pos c1]; omega
        have HG := hide (show meG lo hi lo' hi' = 5 from if_pos c1)
        clear c1
        go_wp2_with fail
        go_meet
        have h1 := unhide HV3
        obtain ⟨a1, a2⟩ := an_own (g := 5) (L := (maxZ lo lo')) (H := (minZ hi hi')) (by decide)
        rw [unhide HCC, unhide HG, a1] at h1
        refine ⟨by rw [h1], by rw [unhide HCC], (Sp.mk false none 0 0 false none 0 0 0), ?_⟩
        have D9 := D
        rw [unhide HG, unhide HCC, a2, a2, a2] at D9
        rw [unhide HG, unhide HCC, a2, a2, a2]
        exact D9
      · have t1 : ¬ 0 < cmpInt (maxZ lo lo') (minZ hi hi') := by unfold cmpInt; split <;> (try split) <;> omega
        have HG := hide (show meG lo hi lo' hi' = 0 from if_neg c1)
        have HQ := hide (show maxZ lo lo' ≤ minZ hi hi' by omega)
        clear c1
        go_wp2_with fail
        refine (done_fit _ v2 250 _ _ hv2 (unhide HQ) (by rw [unhide HVB2]; exact (unhide HP).1) (by rw [unhide HVB2]; exact (unhide HP).2)).mono ?_
        rintro r w12 ⟨z, rfl, hzb, hzp, hb12⟩
        replace D := D.below hb12
        have HZB := hide hzb
        clear hb12 hzb m0 m1 m2 m3 m4 lM
        have fz := D.f3
        have lq := D.Z3.c.lt
        obtain ⟨q0, q1, q2, q3, q4⟩ := D.Z3.c
        go_wp2_with fail
        go_meet
        obtain ⟨a1, a2⟩ := an_fit (L := (maxZ lo lo')) (H := (minZ hi hi'))
        have h1 := unhide HV3
        rw [unhide HCC, unhide HG, a1] at h1
        refine ⟨by rw [h1], by rw [unhide HCC], z, D.set3 X ?_ ?_⟩
        · rw [unhide HCC, unhide HG, a2, a2]; exact hzp.mono (by omega)
        · rw [unhide HCC, unhide HG, a2, unhide HZB, unhide HVB2]
    · have hb0 : (E == 0) = false := by simp [hE]
      go_wp2_with fail
      go_meet
      obtain ⟨a1, a2⟩ := an_bad (E := E) (g := meG lo hi lo' hi') (L := (maxZ lo lo')) (H := (minZ hi hi')) hE
      have h1 := unhide HV3
      rw [a1] at h1
      refine ⟨by rw [h1], rfl, (Sp.mk false none 0 0 false none 0 0 0), ?_⟩
      have D9 := D
      rw [a2, a2, a2] at D9
      rw [a2, a2, a2]
      exact D9
  case rest =>
  obtain ⟨rfl, rfl, z3, D⟩ := hcut
  go_wp2_with fail
  refine (spanBegun_any _).mono ?_
  rintro r wz ⟨rfl, hbz⟩
  replace D := D.below hbz
  clear hbz
  have lx := D.U1.c.lt
  obtain ⟨x0, x1, x2, x3, x4⟩ := D.U1.c
  have ly := D.Z1.c.lt
  obtain ⟨y0, y1, y2, y3, y4⟩ := D.Z1.c
  go_wp2_with fail
  refine (spanIs_true _ u1 z1 600 _ _ e1 D.U1.p D.Z1.p (D.U1.hb.trans D.Z1.hb.symm) (fun hq => by rw [unhide HV1] at hq; exact ⟨an_zero hq, an_zero hq, D.U1.hb.trans (an_zero hq)⟩)).mono ?_
  rintro r wy1 ⟨rfl, hby1⟩
  replace D := D.below hby1
  clear hby1 lx x0 x1 x2 x3 x4 ly y0 y1 y2 y3 y4
  have lx := D.U2.c.lt
  obtain ⟨x0, x1, x2, x3, x4⟩ := D.U2.c
  have ly := D.Z2.c.lt
  obtain ⟨y0, y1, y2, y3, y4⟩ := D.Z2.c
  go_wp2_with fail
  refine (spanIs_true _ u2 z2 600 _ _ e2 D.U2.p D.Z2.p (D.U2.hb.trans D.Z2.hb.symm) (fun hq => by rw [unhide HV2] at hq; exact ⟨an_zero hq, an_zero hq, D.U2.hb.trans (an_zero hq)⟩)).mono ?_
  rintro r wy2 ⟨rfl, hby2⟩
  replace D := D.below hby2
  clear hby2 lx x0 x1 x2 x3 x4 ly y0 y1 y2 y3 y4
  have lx := D.U3.c.lt
  obtain ⟨x0, x1, x2, x3, x4⟩ := D.U3.c
  have ly := D.Z3.c.lt
  obtain ⟨y0, y1, y2, y3, y4⟩ := D.Z3.c
  go_wp2_with fail
  refine (spanIs_true _ u3 z3 600 _ _ e3 D.U3.p D.Z3.p (D.U3.hb.trans D.Z3.hb.symm) (fun hq => by rw [unhide HV3] at hq; exact ⟨an_zero hq, an_zero hq, D.U3.hb.trans (an_zero hq)⟩)).mono ?_
  rintro r wy3 ⟨rfl, hby3⟩
  replace D := D.below hby3
  clear hby3 lx x0 x1 x2 x3 x4 ly y0 y1 y2 y3 y4
  go_wp2_with fail
  go_ret
  exact ⟨rfl, D.hB⟩
end Go.Proofs.Ytgmnknmjainabaa
