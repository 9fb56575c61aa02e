/-
  Whether two spans touch (tailsureref.Touch), and that it leaves old memory alone.
  What comes of being sure of a power or of a logarithm; tailsurelaw.powerBegun is true; tailsurelaw.touch.
  The numbers that make up a power of e of a number from 0 to 1, as package tailsureref takes them. Plain arithmetic: no statement of the seat is proved here.
  Powers of e as package tailsureref makes them: of the whole part, and of the rest. Plain arithmetic: no statement of the seat is proved here.
  1 over a power of e; powers of e of a span. Plain arithmetic: no statement of the seat is proved here.
  The power of e of a span that has a number told by a sequence; how far the logarithm of a ratio from 1/16 to 16 is from 0; each ratio more than 0 has a logarithm; roots of ratios. Plain arithmetic: no statement of the seat is proved here.
-/
import Derived.Test.YtgmnknmjainabaaK20
namespace Go.Proofs.Ytgmnknmjainabaa
set_option linter.unusedVariables false
set_option linter.unusedSimpArgs false
set_option linter.unnecessarySimpa false
open Go.RowKit
attribute [local go_sem ↓] Go.wp_at_zero Go.wp_at_succ

/-- Do two spans touch? Of each the ends, and how many bits more it is told by. -/
def touB (lo hi : Int) (i : Nat) (lo' hi' : Int) (j : Nat) : Bool := decide (lo * Q i ≤ hi' * Q j) && decide (lo' * Q j ≤ hi * Q i)

theorem downZ_up (x : Int) (a b : Int) (i : Nat) (h : b - a = (i : Int)) : downZ x (a - b) = x * Q i := by
  unfold downZ
  by_cases h0 : i = 0
  · subst h0
    have e : a - b = 0 := by omega
    rw [e]; simp [Q]
  · rw [if_neg (by omega)]; congr 2; omega
theorem downZ_upn (x : Int) (a b : Int) (i : Nat) (h : b - a = (i : Int)) : -(downZ (-x) (a - b)) = x * Q i := by
  rw [downZ_up _ a b i h, Int.neg_mul, Int.neg_neg]

set_option maxRecDepth 100000 in
set_option maxHeartbeats 4000000 in
theorem touch_gt (w : World) (s t : Sp) (k i j : Nat) (lo hi lo' hi' : Int) (hs : SpAt w s k lo hi) (ht : SpAt w t k lo' hi') (hk : k ≤ 300000000) (s0 : 0 ≤ s.bits) (s1 : s.bits ≤ 1000000) (t0 : 0 ≤ t.bits) (t1 : t.bits ≤ 1000000) (hc : s.bits < t.bits) (hi1 : t.bits - s.bits = (i : Int)) (hj1 : t.bits - t.bits = (j : Int)) :
    Calls Try.prog 113 #[.agg #[.bool s.ln, .slice s.la s.lN s.lc, .bool s.hn, .slice s.ha s.hN s.hc, .int .i64 s.bits], .agg #[.bool t.ln, .slice t.la t.lN t.lc, .bool t.hn, .slice t.ha t.hN t.hc, .int .i64 t.bits]] w fun r w' => r = .returned (.bool (touB lo hi i lo' hi' j)) ∧ Below w.heap.size w w' := by
  obtain ⟨W, hW⟩ : ∃ W, W = (w.alloc (.cells #[.bool s.ln, .slice s.la s.lN s.lc, .bool s.hn, .slice s.ha s.hN s.hc, .int .i64 s.bits] 38)).alloc (.cells #[.bool t.ln, .slice t.la t.lN t.lc, .bool t.hn, .slice t.ha t.hN t.hc, .int .i64 t.bits] 38) := ⟨_, rfl⟩
  have hBW : Below w.heap.size w W := by rw [hW]; exact bl2 _ _ _
  have A : SpC W w.heap.size s := by rw [hW]; exact ⟨by simp [go_sem], by simp [go_sem], by simp [go_sem], by simp [go_sem], by simp [go_sem]⟩
  have G : SpC W (w.heap.size + 1) t := by rw [hW]; exact ⟨by simp [go_sem], by simp [go_sem], by simp [go_sem], by simp [go_sem], by simp [go_sem]⟩
  have FA : ∀ o, W.frozen? ⟨w.heap.size, o, none⟩ = false := by intro o; rw [hW]; simp [go_sem]
  have FG : ∀ o, W.frozen? ⟨w.heap.size + 1, o, none⟩ = false := by intro o; rw [hW]; simp [go_sem]
  have a1 := hide (downZ_up lo s.bits (t.bits) i hi1)
  have a2 := hide (downZ_upn hi s.bits (t.bits) i hi1)
  have a3 := hide (downZ_up lo' t.bits (t.bits) j hj1)
  have a4 := hide (downZ_upn hi' t.bits (t.bits) j hj1)
  have HS := hide (hs.below hBW)
  have HT := hide (ht.below hBW)
  have HA := hide A
  have HG := hide G
  have lA := A.lt
  have lG := G.lt
  have nAG : w.heap.size ≠ w.heap.size + 1 := by omega
  clear hi1 hj1 hs ht
  go_enter Try.func113, Try.ntmps113
  go_wp2_with fail
  rw [← hW]
  clear hW
  obtain ⟨x0, x1, x2, x3, x4⟩ := A
  obtain ⟨y0, y1, y2, y3, y4⟩ := G
  try go_wp2_with fail
  go_cut [] (fun wx => ∃ s2 t2 : Sp, SpC wx w.heap.size s2 ∧ SpC wx (w.heap.size + 1) t2 ∧ SpAt wx s2 (k + 62505) (lo * Q i) (hi * Q i) ∧ SpAt wx t2 (k + 62505) (lo' * Q j) (hi' * Q j) ∧ Below w.heap.size w wx)
  case first =>
    go_region_with
      (first
        | (go_at_call 22; have hq := hB1; refine (refTurn_int _ t k (t.bits) lo' hi' ((unhide HT).below hB1) hk t0 t1 (by omega) (by omega)).mono ?_; rintro r w2 ⟨u2, rfl, hub2, hup2, hb2⟩; rw [unhide a3, unhide a4] at hup2; clear hub2; have hB2 := bthen hB1 hb2; replace hup1 := hup1.below hb2; have l2A := Nat.lt_of_lt_of_le lA hB2.size; have l2G := Nat.lt_of_lt_of_le lG hB2.size; obtain ⟨a0, a1, a2, a3, a4⟩ := (unhide HA).below hB2; obtain ⟨g0, g1, g2, g3, g4⟩ := (unhide HG).below hB2; have fA2 : ∀ o, w2.frozen? ⟨w.heap.size, o, none⟩ = false := (fun o => (hB2.frozen (p := ⟨w.heap.size, o, none⟩) lA).trans (FA o)); have fG2 : ∀ o, w2.frozen? ⟨w.heap.size + 1, o, none⟩ = false := (fun o => (hB2.frozen (p := ⟨w.heap.size + 1, o, none⟩) lG).trans (FG o)))
        | (go_at_call 22; refine (refTurn_int _ s k (t.bits) lo hi ((unhide HS).below (by repeat' (first | with_reducible exact Below.refl _ _ | with_reducible refine Below.drew ?_))) hk s0 s1 (by omega) (by omega)).mono ?_; rintro r w1 ⟨u1, rfl, hub1, hup1, hb1⟩; rw [unhide a1, unhide a2] at hup1; clear hub1; have hB1 : Below W.heap.size W w1 := bthen (by repeat' (first | with_reducible exact Below.refl _ _ | with_reducible refine Below.drew ?_)) hb1; obtain ⟨b0, b1, b2, b3, b4⟩ := (unhide HA).below hB1; obtain ⟨d0, d1, d2, d3, d4⟩ := (unhide HG).below hB1; have l1A := Nat.lt_of_lt_of_le lA hB1.size; have l1G := Nat.lt_of_lt_of_le lG hB1.size))
    all_goals
      go_wp2_with fail
      go_meet
      have A2 : SpC w2 w.heap.size s := ⟨a0, a1, a2, a3, a4⟩
      have G2 : SpC w2 (w.heap.size + 1) t := ⟨g0, g1, g2, g3, g4⟩
      obtain ⟨p1, p2, p3, p4⟩ := two_sp A2 G2 nAG u1 u2
      exact ⟨u1, u2, p1, p2, p3 hup1, p3 hup2, set5 (set5 (bthen hBW hB2) (Nat.le_refl _) _ _ _ _ _) (Nat.le_succ _) _ _ _ _ _⟩
  case rest =>
  obtain ⟨s2, t2, A, G, hs, ht, hBW⟩ := hcut
  clear HA HG HS HT lA lG x0 x1 x2 x3 x4 y0 y1 y2 y3 y4 FA FG
  have lA := A.lt
  have lG := G.lt
  by_cases hq : lo * Q i ≤ hi' * Q j
  · have c1 : cmpInt (lo * Q i) (hi' * Q j) ≤ 0 := by unfold cmpInt; split; omega; rw [if_neg (by omega)]; omega
    have HE := hide (show decide (cmpInt (lo' * Q j) (hi * Q i) ≤ 0) = touB lo hi i lo' hi' j by rw [cmp_le0]; unfold touB; rw [decide_eq_true hq, Bool.true_and])
    obtain ⟨x0, x1, x2, x3, x4⟩ := A
    obtain ⟨y0, y1, y2, y3, y4⟩ := G
    clear hq
    go_wp2_with fail
    refine (cmp_int _ _ _ _ _ _ _ _ (k + 62505) (k + 62505) (lo * Q i) (hi' * Q j) _ hs.lo ht.hi).mono ?_
    rintro r w1 ⟨rfl, hb1⟩
    have A := (SpC.mk x0 x1 x2 x3 x4).below hb1
    have G := (SpC.mk y0 y1 y2 y3 y4).below hb1
    replace hs := hs.below hb1
    replace ht := ht.below hb1
    replace hBW := bthen hBW hb1
    clear x0 x1 x2 x3 x4 y0 y1 y2 y3 y4 hb1
    obtain ⟨x0, x1, x2, x3, x4⟩ := A
    obtain ⟨y0, y1, y2, y3, y4⟩ := G
    go_wp2_with fail
    refine (cmp_int _ _ _ _ _ _ _ _ (k + 62505) (k + 62505) (lo' * Q j) (hi * Q i) _ ht.lo hs.hi).mono ?_
    rintro r w2 ⟨rfl, hb2⟩
    replace hBW := bthen hBW hb2
    go_wp2_with fail
    go_ret
    exact ⟨by rw [← unhide HE]; rfl, hBW⟩
  · have c1 : ¬ cmpInt (lo * Q i) (hi' * Q j) ≤ 0 := by unfold cmpInt; rw [if_neg (by omega), if_pos (by omega)]; omega
    have HE := hide (show touB lo hi i lo' hi' j = false by unfold touB; rw [decide_eq_false hq, Bool.false_and])
    obtain ⟨x0, x1, x2, x3, x4⟩ := A
    obtain ⟨y0, y1, y2, y3, y4⟩ := G
    clear hq
    go_wp2_with fail
    refine (cmp_int _ _ _ _ _ _ _ _ (k + 62505) (k + 62505) (lo * Q i) (hi' * Q j) _ hs.lo ht.hi).mono ?_
    rintro r w1 ⟨rfl, hb1⟩
    replace hBW := bthen hBW hb1
    go_wp2_with fail
    go_ret
    exact ⟨by rw [unhide HE]; rfl, hBW⟩

set_option maxRecDepth 100000 in
set_option maxHeartbeats 4000000 in
theorem touch_le (w : World) (s t : Sp) (k i j : Nat) (lo hi lo' hi' : Int) (hs : SpAt w s k lo hi) (ht : SpAt w t k lo' hi') (hk : k ≤ 300000000) (s0 : 0 ≤ s.bits) (s1 : s.bits ≤ 1000000) (t0 : 0 ≤ t.bits) (t1 : t.bits ≤ 1000000) (hc : t.bits ≤ s.bits) (hi1 : s.bits - s.bits = (i : Int)) (hj1 : s.bits - t.bits = (j : Int)) :
    Calls Try.prog 113 #[.agg #[.bool s.ln, .slice s.la s.lN s.lc, .bool s.hn, .slice s.ha s.hN s.hc, .int .i64 s.bits], .agg #[.bool t.ln, .slice t.la t.lN t.lc, .bool t.hn, .slice t.ha t.hN t.hc, .int .i64 t.bits]] w fun r w' => r = .returned (.bool (touB lo hi i lo' hi' j)) ∧ Below w.heap.size w w' := by
  obtain ⟨W, hW⟩ : ∃ W, W = (w.alloc (.cells #[.bool s.ln, .slice s.la s.lN s.lc, .bool s.hn, .slice s.ha s.hN s.hc, .int .i64 s.bits] 38)).alloc (.cells #[.bool t.ln, .slice t.la t.lN t.lc, .bool t.hn, .slice t.ha t.hN t.hc, .int .i64 t.bits] 38) := ⟨_, rfl⟩
  have hBW : Below w.heap.size w W := by rw [hW]; exact bl2 _ _ _
  have A : SpC W w.heap.size s := by rw [hW]; exact ⟨by simp [go_sem], by simp [go_sem], by simp [go_sem], by simp [go_sem], by simp [go_sem]⟩
  have G : SpC W (w.heap.size + 1) t := by rw [hW]; exact ⟨by simp [go_sem], by simp [go_sem], by simp [go_sem], by simp [go_sem], by simp [go_sem]⟩
  have FA : ∀ o, W.frozen? ⟨w.heap.size, o, none⟩ = false := by intro o; rw [hW]; simp [go_sem]
  have FG : ∀ o, W.frozen? ⟨w.heap.size + 1, o, none⟩ = false := by intro o; rw [hW]; simp [go_sem]
  have a1 := hide (downZ_up lo s.bits (s.bits) i hi1)
  have a2 := hide (downZ_upn hi s.bits (s.bits) i hi1)
  have a3 := hide (downZ_up lo' t.bits (s.bits) j hj1)
  have a4 := hide (downZ_upn hi' t.bits (s.bits) j hj1)
  have HS := hide (hs.below hBW)
  have HT := hide (ht.below hBW)
  have HA := hide A
  have HG := hide G
  have lA := A.lt
  have lG := G.lt
  have nAG : w.heap.size ≠ w.heap.size + 1 := by omega
  clear hi1 hj1 hs ht
  go_enter Try.func113, Try.ntmps113
  go_wp2_with fail
  rw [← hW]
  clear hW
  obtain ⟨x0, x1, x2, x3, x4⟩ := A
  obtain ⟨y0, y1, y2, y3, y4⟩ := G
  try go_wp2_with fail
  go_cut [] (fun wx => ∃ s2 t2 : Sp, SpC wx w.heap.size s2 ∧ SpC wx (w.heap.size + 1) t2 ∧ SpAt wx s2 (k + 62505) (lo * Q i) (hi * Q i) ∧ SpAt wx t2 (k + 62505) (lo' * Q j) (hi' * Q j) ∧ Below w.heap.size w wx)
  case first =>
    go_region_with
      (first
        | (go_at_call 22; have hq := hB1; refine (refTurn_int _ t k (s.bits) lo' hi' ((unhide HT).below hB1) hk t0 t1 (by omega) (by omega)).mono ?_; rintro r w2 ⟨u2, rfl, hub2, hup2, hb2⟩; rw [unhide a3, unhide a4] at hup2; clear hub2; have hB2 := bthen hB1 hb2; replace hup1 := hup1.below hb2; have l2A := Nat.lt_of_lt_of_le lA hB2.size; have l2G := Nat.lt_of_lt_of_le lG hB2.size; obtain ⟨a0, a1, a2, a3, a4⟩ := (unhide HA).below hB2; obtain ⟨g0, g1, g2, g3, g4⟩ := (unhide HG).below hB2; have fA2 : ∀ o, w2.frozen? ⟨w.heap.size, o, none⟩ = false := (fun o => (hB2.frozen (p := ⟨w.heap.size, o, none⟩) lA).trans (FA o)); have fG2 : ∀ o, w2.frozen? ⟨w.heap.size + 1, o, none⟩ = false := (fun o => (hB2.frozen (p := ⟨w.heap.size + 1, o, none⟩) lG).trans (FG o)))
        | (go_at_call 22; refine (refTurn_int _ s k (s.bits) lo hi ((unhide HS).below (by repeat' (first | with_reducible exact Below.refl _ _ | with_reducible refine Below.drew ?_))) hk s0 s1 (by omega) (by omega)).mono ?_; rintro r w1 ⟨u1, rfl, hub1, hup1, hb1⟩; rw [unhide a1, unhide a2] at hup1; clear hub1; have hB1 : Below W.heap.size W w1 := bthen (by repeat' (first | with_reducible exact Below.refl _ _ | with_reducible refine Below.drew ?_)) hb1; obtain ⟨b0, b1, b2, b3, b4⟩ := (unhide HA).below hB1; obtain ⟨d0, d1, d2, d3, d4⟩ := (unhide HG).below hB1; have l1A := Nat.lt_of_lt_of_le lA hB1.size; have l1G := Nat.lt_of_lt_of_le lG hB1.size))
    all_goals
      go_wp2_with fail
      go_meet
      have A2 : SpC w2 w.heap.size s := ⟨a0, a1, a2, a3, a4⟩
      have G2 : SpC w2 (w.heap.size + 1) t := ⟨g0, g1, g2, g3, g4⟩
      obtain ⟨p1, p2, p3, p4⟩ := two_sp A2 G2 nAG u1 u2
      exact ⟨u1, u2, p1, p2, p3 hup1, p3 hup2, set5 (set5 (bthen hBW hB2) (Nat.le_refl _) _ _ _ _ _) (Nat.le_succ _) _ _ _ _ _⟩
  case rest =>
  obtain ⟨s2, t2, A, G, hs, ht, hBW⟩ := hcut
  clear HA HG HS HT lA lG x0 x1 x2 x3 x4 y0 y1 y2 y3 y4 FA FG
  have lA := A.lt
  have lG := G.lt
  by_cases hq : lo * Q i ≤ hi' * Q j
  · have c1 : cmpInt (lo * Q i) (hi' * Q j) ≤ 0 := by unfold cmpInt; split; omega; rw [if_neg (by omega)]; omega
    have HE := hide (show decide (cmpInt (lo' * Q j) (hi * Q i) ≤ 0) = touB lo hi i lo' hi' j by rw [cmp_le0]; unfold touB; rw [decide_eq_true hq, Bool.true_and])
    obtain ⟨x0, x1, x2, x3, x4⟩ := A
    obtain ⟨y0, y1, y2, y3, y4⟩ := G
    clear hq
    go_wp2_with fail
    refine (cmp_int _ _ _ _ _ _ _ _ (k + 62505) (k + 62505) (lo * Q i) (hi' * Q j) _ hs.lo ht.hi).mono ?_
    rintro r w1 ⟨rfl, hb1⟩
    have A := (SpC.mk x0 x1 x2 x3 x4).below hb1
    have G := (SpC.mk y0 y1 y2 y3 y4).below hb1
    replace hs := hs.below hb1
    replace ht := ht.below hb1
    replace hBW := bthen hBW hb1
    clear x0 x1 x2 x3 x4 y0 y1 y2 y3 y4 hb1
    obtain ⟨x0, x1, x2, x3, x4⟩ := A
    obtain ⟨y0, y1, y2, y3, y4⟩ := G
    go_wp2_with fail
    refine (cmp_int _ _ _ _ _ _ _ _ (k + 62505) (k + 62505) (lo' * Q j) (hi * Q i) _ ht.lo hs.hi).mono ?_
    rintro r w2 ⟨rfl, hb2⟩
    replace hBW := bthen hBW hb2
    go_wp2_with fail
    go_ret
    exact ⟨by rw [← unhide HE]; rfl, hBW⟩
  · have c1 : ¬ cmpInt (lo * Q i) (hi' * Q j) ≤ 0 := by unfold cmpInt; rw [if_neg (by omega), if_pos (by omega)]; omega
    have HE := hide (show touB lo hi i lo' hi' j = false by unfold touB; rw [decide_eq_false hq, Bool.false_and])
    obtain ⟨x0, x1, x2, x3, x4⟩ := A
    obtain ⟨y0, y1, y2, y3, y4⟩ := G
    clear hq
    go_wp2_with fail
    refine (cmp_int _ _ _ _ _ _ _ _ (k + 62505) (k + 62505) (lo * Q i) (hi' * Q j) _ hs.lo ht.hi).mono ?_
    rintro r w1 ⟨rfl, hb1⟩
    replace hBW := bthen hBW hb1
    go_wp2_with fail
    go_ret
    exact ⟨by rw [unhide HE]; rfl, hBW⟩
end Go.Proofs.Ytgmnknmjainabaa

namespace Go.Proofs.Ytgmnknmjainabaa
set_option linter.unusedVariables false
set_option linter.unusedSimpArgs false
set_option linter.unnecessarySimpa false
open Go.RowKit
attribute [local go_sem ↓] Go.wp_at_zero Go.wp_at_succ

open Ex in
theorem sure_exp {b Kw ee : Nat} {x : Nat → Rat} {L H : Int} (h : SureOf b (ExpPr x Kw ee) L H) : Iv b (L, H) (Ev x) ∧ L ≤ H ∧ narB L H (Q b) 4 = true ∧ -Q (b + ee) ≤ L ∧ H ≤ Q (b + ee) := by
  obtain ⟨m, lo, hi, ⟨h1, h2, h3, h4, h5⟩, hm, e1, e2, h6⟩ := h
  have h7 := to_width (m := m) h2 h3
  have h8 : L ≤ H := by rw [e1, e2]; omega
  have q := Q_pos m
  have e3 : Q (b + m + ee) = Q (b + ee) * Q m := by rw [← Q_add]; congr 1; omega
  rw [e3] at h4 h5
  have r1 := round_abs (x := lo) (m := Q (b + ee)) (q := Q m) (by omega) (by omega) (by omega)
  have r2 := round_abs (x := hi) (m := Q (b + ee)) (q := Q m) (by omega) (by omega) (by omega)
  refine ⟨?_, h8, ?_, by rw [e1]; exact r1.1, by rw [e2]; exact r2.2.2.2⟩
  · have := Iv.to (B := b) (m := m) h1
    rw [e1, e2]; exact this
  · rcases h6 with h6 | h6
    · exact narB_small h8 (by omega)
    · exact h6
open Ex in
theorem sure_log {b : Nat} {p q : Int} {L H : Int} (h : SureOf b (LogPr b p q) L H) : (∃ l, IsLog l (fun _ => (p : Rat) / (q : Rat)) ∧ Iv b (L, H) l) ∧ L ≤ H ∧ narB L H (Q b) 4 = true ∧ -P 200 ≤ L ∧ H ≤ P 200 := by
  obtain ⟨m, lo, hi, ⟨⟨l, h0, h1⟩, h2, h3, h4, h5⟩, hm, e1, e2, h6⟩ := h
  have h7 := to_width (m := m) h2 h3
  have h8 : L ≤ H := by rw [e1, e2]; omega
  have q := Q_pos m
  rw [show b + m - b = m by omega] at h4 h5
  have r1 := round_abs (x := lo) (m := P 200) (q := Q m) (by omega) (by omega) (by omega)
  have r2 := round_abs (x := hi) (m := P 200) (q := Q m) (by omega) (by omega) (by omega)
  refine ⟨⟨l, h0, ?_⟩, h8, ?_, by rw [e1]; exact r1.1, by rw [e2]; exact r2.2.2.2⟩
  · have := Iv.to (B := b) (m := m) h1
    rw [e1, e2]; exact this
  · rcases h6 with h6 | h6
    · exact narB_small h8 (by omega)
    · exact h6
theorem iv_const (B : Nat) (z : Int) : Iv B (z, z) (fun _ => (z : Rat) / (Q B : Rat)) := Ex.Has.const Rat.le_refl Rat.le_refl
theorem begun_exp {L H : Int} (h : Iv 20 (L, H) (Ex.Ev (fun _ => ((0 : Int) : Rat) / ((1 : Int) : Rat)))) (hn : narB L H (Q 20) 4 = true) (hle : L ≤ H) : 0 < L := by
  have e0 : ((0 : Int) : Rat) / ((1 : Int) : Rat) = 0 := by
    rw [Rat.div_def]; exact Rat.zero_mul _
  rw [e0] at h
  have h1 : Iv 20 (L, H) (fun _ => (Q 20 : Rat) / (Q 20 : Rat)) := by
    refine h.congr (Ex.null_zero.of_eq_from 1 fun M hM => ?_)
    obtain ⟨m, rfl⟩ : ∃ m, M = m + 1 := ⟨M - 1, by omega⟩
    have q := Qr_pos 20
    have e1 : (Q 20 : Rat) / (Q 20 : Rat) = 1 := by rw [Rat.div_def, Rat.mul_inv_cancel _ (by grind)]
    show (Q 20 : Rat) / (Q 20 : Rat) - Ex.E 0 (m + 1) = 0
    rw [e1, Ex.E_zero]; grind
  have t := (iv_const 20 (Q 20)).touch h1
  have q20 : Q 20 = 1048576 := rfl
  rw [q20] at t hn
  simp only [] at t
  unfold narB at hn
  rw [decide_eq_true_iff] at hn
  refine Int.not_le.1 fun hL => ?_
  have hm : maxZ H (-L) ≤ H - L := by unfold maxZ; split <;> omega
  omega
theorem begun_log {L H : Int} (h : ∃ l, Ex.IsLog l (fun _ => ((1 : Int) : Rat) / ((1 : Int) : Rat)) ∧ Iv 20 (L, H) l) : L ≤ 0 ∧ 0 ≤ H := by
  obtain ⟨l, h1, h2⟩ := h
  have e0 : (fun _ : Nat => ((1 : Int) : Rat) / ((1 : Int) : Rat)) = fun _ => (1 : Rat) := funext fun _ => by rw [Rat.div_def]; exact Rat.mul_inv_cancel _ (by decide)
  rw [e0] at h1
  have hn := h1.uniq Ex.isLog_one
  have h3 : Iv 20 (L, H) (fun _ => ((0 : Int) : Rat) / (Q 20 : Rat)) := by
    refine h2.congr (hn.neg.of_eq fun M => ?_)
    have e1 : ((0 : Int) : Rat) / (Q 20 : Rat) = 0 := by rw [Rat.div_def]; exact Rat.zero_mul _
    rw [e1]; grind
  have t1 := (iv_const 20 0).touch h3
  have t2 := h3.touch (iv_const 20 0)
  have q20 : Q 20 = 1048576 := rfl
  rw [q20] at t1 t2
  simp only [] at t1 t2
  omega
theorem Iv.touch_le2 {B : Nat} {a b : Int × Int} {x y : Nat → Rat} (h : Iv B a x) (k : Iv B b y) (hxy : ∀ e : Rat, 0 < e → ∃ N, ∀ M, N ≤ M → x M ≤ y M + e) : a.1 ≤ b.2 := by
  have q := Qr_pos B
  have t : (a.1 : Rat) / (Q B : Rat) ≤ (b.2 : Rat) / (Q B : Rat) := by
    refine Rat.not_lt.1 fun hn => ?_
    obtain ⟨N, h1⟩ := h (((a.1 : Rat) / (Q B : Rat) - (b.2 : Rat) / (Q B : Rat)) / 4) (by grind)
    obtain ⟨N', h2⟩ := k (((a.1 : Rat) / (Q B : Rat) - (b.2 : Rat) / (Q B : Rat)) / 4) (by grind)
    obtain ⟨N2, h3⟩ := hxy (((a.1 : Rat) / (Q B : Rat) - (b.2 : Rat) / (Q B : Rat)) / 4) (by grind)
    have g1 := h1 (N + N' + N2) (by omega)
    have g2 := h2 (N + N' + N2) (by omega)
    have g3 := h3 (N + N' + N2) (by omega)
    generalize (a.1 : Rat) / (Q B : Rat) = U at *
    generalize (b.2 : Rat) / (Q B : Rat) = V at *
    grind
  have e1 := Ex.rdm (a := (a.1 : Rat)) q
  have e2 := Ex.rdm (a := (b.2 : Rat)) q
  have : ((a.1 : Int) : Rat) ≤ ((b.2 : Int) : Rat) := by
    generalize (a.1 : Rat) / (Q B : Rat) = U at *
    generalize (b.2 : Rat) / (Q B : Rat) = V at *
    rw [← e1, ← e2]
    have := Rat.mul_nonneg (show 0 ≤ V - U by grind) (Rat.le_of_lt q)
    grind
  exact_mod_cast this
theorem cmp_pos {x : Int} (h : 0 < x) : 0 < cmpInt x 0 := by unfold cmpInt; rw [if_neg (by omega), if_pos (by omega)]; omega
theorem cmp_npos {x : Int} (h : x ≤ 0) : cmpInt x 0 ≤ 0 := by unfold cmpInt; split <;> (try split) <;> omega
theorem cmp_nneg {x : Int} (h : 0 ≤ x) : 0 ≤ cmpInt x 0 := by unfold cmpInt; rw [if_neg (by omega)]; split <;> omega

set_option maxRecDepth 100000 in
set_option maxHeartbeats 4000000 in
theorem powerBegun_any (w : World) : Calls Try.prog 57 #[] w fun r w' => r = .returned (.bool true) ∧ Below w.heap.size w w' := by
  go_enter Try.func57, Try.ntmps57
  go_wp2_with fail
  refine (powerExp_ok 0 1 20 _ ⟨by omega, by omega, by omega, by omega⟩ (by omega) (by omega) 0 9 (by omega) (by omega) (by omega) (by decide) (by omega)).mono ?_
  rintro r' w1 ⟨L, H, hLH, s, rfl, hsb, hs, hb1⟩
  obtain ⟨g1, g2, g3, g4, g5⟩ := sure_exp hLH
  have hL := begun_exp g1 g3 g2
  have HSB := hide hsb
  clear hLH g1 g3 g4 g5 hsb
  obtain ⟨V, hV⟩ : ∃ V, V = w1.alloc (.cells #[.bool s.ln, .slice s.la s.lN s.lc, .bool s.hn, .slice s.ha s.hN s.hc, .int .i64 s.bits] 26) := ⟨_, rfl⟩
  have bV : Below w1.heap.size w1 V := by rw [hV]; exact bl1 _ _
  have S : SpC V w1.heap.size s := by rw [hV]; exact spc_new w1 s _
  replace hs := hs.below bV
  have hB : Below w.heap.size w V := bthen hb1 bV
  clear hb1 bV
  go_wp2_with fail
  rw [← hV]
  clear hV
  refine (powerLog_ok 1 1 20 _ ⟨by omega, by omega, by omega, by omega⟩ (by omega) (by omega) (by omega)).mono ?_
  rintro r' w2 ⟨L2, H2, hLH2, t, rfl, htb, ht, hb2⟩
  obtain ⟨f1, f2, f3, f4, f5⟩ := sure_log hLH2
  obtain ⟨k1, k2⟩ := begun_log f1
  have HTB := hide htb
  clear hLH2 f1 f3 f4 f5 htb
  replace S := S.below hb2
  replace hs := hs.below hb2
  replace hB := bthen hB hb2
  clear hb2
  obtain ⟨V2, hV2⟩ : ∃ V2, V2 = w2.alloc (.cells #[.bool t.ln, .slice t.la t.lN t.lc, .bool t.hn, .slice t.ha t.hN t.hc, .int .i64 t.bits] 26) := ⟨_, rfl⟩
  have bV2 : Below w2.heap.size w2 V2 := by rw [hV2]; exact bl1 _ _
  have T : SpC V2 w2.heap.size t := by rw [hV2]; exact spc_new w2 t _
  have lS := S.lt
  have x0 := S.c0
  have x1 := S.c1
  have x4 := S.c4
  rw [unhide HSB] at x4
  replace S := S.below bV2
  replace hs := hs.below bV2
  replace ht := ht.below bV2
  replace hB := bthen hB bV2
  clear bV2
  have c1 := cmp_pos hL
  have c2 := cmp_npos k1
  have c3 := cmp_nneg k2
  go_wp2_with fail
  rw [← hV2]
  clear hV2 x0 x1 x4
  refine (sign_int _ _ _ _ 250 L _ hs.lo).mono ?_
  rintro r' w3 ⟨rfl, hb3⟩
  replace T := T.below hb3
  replace ht := ht.below hb3
  replace hB := bthen hB hb3
  clear hb3
  have y0 := T.c0
  have y1 := T.c1
  go_wp2_with fail
  refine (sign_int _ _ _ _ 250 L2 _ ht.lo).mono ?_
  rintro r' w4 ⟨rfl, hb4⟩
  replace T := T.below hb4
  replace ht := ht.below hb4
  replace hB := bthen hB hb4
  clear hb4 y0 y1
  have y2 := T.c2
  have y3 := T.c3
  go_wp2_with fail
  refine (sign_int _ _ _ _ 250 H2 _ ht.hi).mono ?_
  rintro r' w5 ⟨rfl, hb5⟩
  replace T := T.below hb5
  replace hB := bthen hB hb5
  clear hb5 y2 y3
  have y4 := T.c4
  rw [unhide HTB] at y4
  go_wp2_with fail
  go_ret
  exact ⟨by simp, hB⟩

set_option maxRecDepth 100000 in
set_option maxHeartbeats 2000000 in
theorem lawTouch_int (w : World) (s t : Sp) (k : Nat) (lo hi lo' hi' : Int) (hs : SpAt w s k lo hi) (ht : SpAt w t k lo' hi') (hk : k ≤ 300000000) (s0 : 0 ≤ s.bits) (s1 : s.bits ≤ 1000000) (hst : t.bits = s.bits) :
    Calls Try.prog 66 #[.agg #[.bool s.ln, .slice s.la s.lN s.lc, .bool s.hn, .slice s.ha s.hN s.hc, .int .i64 s.bits], .agg #[.bool t.ln, .slice t.la t.lN t.lc, .bool t.hn, .slice t.ha t.hN t.hc, .int .i64 t.bits]] w fun r w' => r = .returned (.bool (touB lo hi 0 lo' hi' 0)) ∧ Below w.heap.size w w' := by
  obtain ⟨W, hW⟩ : ∃ W, W = (w.alloc (.cells #[.bool s.ln, .slice s.la s.lN s.lc, .bool s.hn, .slice s.ha s.hN s.hc, .int .i64 s.bits] 26)).alloc (.cells #[.bool t.ln, .slice t.la t.lN t.lc, .bool t.hn, .slice t.ha t.hN t.hc, .int .i64 t.bits] 26) := ⟨_, rfl⟩
  have hBW : Below w.heap.size w W := by rw [hW]; exact bl2 _ _ _
  have A : SpC W w.heap.size s := by rw [hW]; exact ⟨by simp [go_sem], by simp [go_sem], by simp [go_sem], by simp [go_sem], by simp [go_sem]⟩
  have C : SpC W (w.heap.size + 1) t := by rw [hW]; exact ⟨by simp [go_sem], by simp [go_sem], by simp [go_sem], by simp [go_sem], by simp [go_sem]⟩
  have HS := hide (hs.below hBW)
  have HT := hide (ht.below hBW)
  have HST := hide hst
  have HK := hide (show ∀ w', Below W.heap.size W w' → (w'.cell? ⟨w.heap.size, 0, none⟩ = some (.bool s.ln) ∧ w'.cell? ⟨w.heap.size, 1, none⟩ = some (.slice s.la s.lN s.lc) ∧ w'.cell? ⟨w.heap.size, 2, none⟩ = some (.bool s.hn) ∧ w'.cell? ⟨w.heap.size, 3, none⟩ = some (.slice s.ha s.hN s.hc) ∧ w'.cell? ⟨w.heap.size, 4, none⟩ = some (.int .i64 s.bits) ∧ w'.cell? ⟨w.heap.size + 1, 0, none⟩ = some (.bool t.ln) ∧ w'.cell? ⟨w.heap.size + 1, 1, none⟩ = some (.slice t.la t.lN t.lc) ∧ w'.cell? ⟨w.heap.size + 1, 2, none⟩ = some (.bool t.hn) ∧ w'.cell? ⟨w.heap.size + 1, 3, none⟩ = some (.slice t.ha t.hN t.hc) ∧ w'.cell? ⟨w.heap.size + 1, 4, none⟩ = some (.int .i64 t.bits)) from fun w' hB => ⟨(A.below hB).c0, (A.below hB).c1, (A.below hB).c2, (A.below hB).c3, (A.below hB).c4, (C.below hB).c0, (C.below hB).c1, (C.below hB).c2, (C.below hB).c3, (C.below hB).c4⟩)
  clear A C hs ht hst
  go_enter Try.func66, Try.ntmps66
  go_wp2
  rw [← hW]
  clear hW
  obtain ⟨x0, x1, x2, x3, x4, y0, y1, y2, y3, y4⟩ := unhide HK _ (Below.refl _ _)
  have hD0 : Below W.heap.size W W.drew := (Below.refl _ _).drew
  go_region_held3 (fun w' => w'.cell? ⟨w.heap.size, 0, none⟩ = some (.bool s.ln) ∧ w'.cell? ⟨w.heap.size, 1, none⟩ = some (.slice s.la s.lN s.lc) ∧ w'.cell? ⟨w.heap.size, 2, none⟩ = some (.bool s.hn) ∧ w'.cell? ⟨w.heap.size, 3, none⟩ = some (.slice s.ha s.hN s.hc) ∧ w'.cell? ⟨w.heap.size, 4, none⟩ = some (.int .i64 s.bits) ∧ w'.cell? ⟨w.heap.size + 1, 0, none⟩ = some (.bool t.ln) ∧ w'.cell? ⟨w.heap.size + 1, 1, none⟩ = some (.slice t.la t.lN t.lc) ∧ w'.cell? ⟨w.heap.size + 1, 2, none⟩ = some (.bool t.hn) ∧ w'.cell? ⟨w.heap.size + 1, 3, none⟩ = some (.slice t.ha t.hN t.hc) ∧ w'.cell? ⟨w.heap.size + 1, 4, none⟩ = some (.int .i64 t.bits)) (first | exact unhide HK _ (by first | with_reducible exact hD0 | with_reducible exact hD3 | with_reducible exact hD2 | with_reducible exact hD1) | go_keep)
    (first
      | (go_at_call 113; have hq := hD2; refine (touch_le _ s t k 0 0 lo hi lo' hi' ((unhide HS).below hD2) ((unhide HT).below hD2) hk s0 s1 (by have := unhide HST; omega) (by have := unhide HST; omega) (by have := unhide HST; omega) (by omega) (by have := unhide HST; omega)).mono ?_; rintro r' w3 ⟨rfl, hb3⟩; have hD3 := bthen hD2 hb3)
      | (go_at_call 23; have hq := hD1; refine (refOf_any _ t).mono ?_; rintro r' w2 ⟨rfl, hb2⟩; have hD2 := bthen hD1 hb2)
      | (go_at_call 23; refine (refOf_any _ s).mono ?_; rintro r' w1 ⟨rfl, hb1⟩; have hD1 := bthen hD0 hb1))
  all_goals
    go_wp2_with fail
    go_ret
    exact ⟨rfl, bthen hBW hD3⟩

theorem choose_mod (c n : Int) (w : World) (h1 : -9223372036854775808 ≤ c) (h2 : c ≤ 9223372036854775807) (hn : 1 ≤ n) (hn2 : n ≤ 1000000) :
    Calls Try.prog 65 #[.int .i64 c, .int .i64 n] w fun r w' => ∃ z : Int, r = .returned (.int .i64 z) ∧ 0 ≤ z ∧ z < n ∧ Below w.heap.size w w' := by
  have hn0 : n ≠ 0 := by omega
  by_cases hc : c < 0
  · have hv : -((c + 1).tmod n) = (-(c + 1)) % n := by rw [← Int.neg_tmod, Int.tmod_eq_emod_of_nonneg (by omega)]
    have HV := hide (show 0 ≤ -((c + 1).tmod n) ∧ -((c + 1).tmod n) < n by rw [hv]; exact ⟨Int.emod_nonneg _ hn0, Int.emod_lt_of_pos _ (by omega)⟩)
    have HV2 := hide (show 0 ≤ (-(c + 1)) % n ∧ (-(c + 1)) % n < n from ⟨Int.emod_nonneg _ hn0, Int.emod_lt_of_pos _ (by omega)⟩)
    clear hv
    go_enter Try.func65, Try.ntmps65
    go_wp2_with fail
    go_ret
    first
      | exact ⟨_, rfl, (unhide HV).1, (unhide HV).2, Below.refl _ _⟩
      | exact ⟨_, rfl, (unhide HV2).1, (unhide HV2).2, Below.refl _ _⟩
  · have hv : c.tmod n = c % n := Int.tmod_eq_emod_of_nonneg (by omega)
    have HV := hide (show 0 ≤ c.tmod n ∧ c.tmod n < n by rw [hv]; exact ⟨Int.emod_nonneg _ hn0, Int.emod_lt_of_pos _ (by omega)⟩)
    have HV2 := hide (show 0 ≤ c % n ∧ c % n < n from ⟨Int.emod_nonneg _ hn0, Int.emod_lt_of_pos _ (by omega)⟩)
    clear hv
    go_enter Try.func65, Try.ntmps65
    go_wp2_with fail
    go_ret
    first
      | exact ⟨_, rfl, (unhide HV).1, (unhide HV).2, Below.refl _ _⟩
      | exact ⟨_, rfl, (unhide HV2).1, (unhide HV2).2, Below.refl _ _⟩
end Go.Proofs.Ytgmnknmjainabaa

namespace Go.Proofs.Ytgmnknmjainabaa
set_option linter.unusedVariables false
open Ex

/-- What is left out is at most 1. -/
def doneT (f : Nat → Int × Int) (N : Nat) : Int × Int := addI (sumI f N) (-1, 1)
theorem Iv.mono {B : Nat} {a b : Int × Int} {x : Nat → Rat} (h : Iv B a x) (h1 : b.1 ≤ a.1) (h2 : a.2 ≤ b.2) : Iv B b x := by
  have q := Qr_pos B
  exact Has.mono h (rdiv_le q (by rw [rdm q]; exact cast_le h1)) (rdiv_le q (by rw [rdm q]; exact cast_le h2))
theorem doneT_has {B N : Nat} {f : Nat → Int × Int} {x : Nat → Rat} (h : Iv B (doneI f N) x) (hr : reachI (f N) ≤ 1) : Iv B (doneT f N) x := by
  refine h.mono ?_ ?_ <;> simp only [doneT, doneI, addI] <;> omega
theorem low_abs {b : Nat} {X : Int} (h0 : 0 ≤ X) (h1 : X ≤ Q b) (n : Nat) : Abs (expT b (X, X) (n + 1)) (Q (b - n)) := by
  have hX : Abs (X, X) (Q b) := ⟨by simp only []; omega, by simp only []; omega, by simp only []; omega, by simp only []; omega⟩
  induction n with
  | zero =>
    have h2 : Abs (expT b (X, X) 0) (Q b) := by have := Q_pos b; exact ⟨by simp [expT]; omega, by simp [expT], by simp [expT]; omega, by simp [expT]⟩
    exact scaleI_abs (mulI_abs h2 hX (Int.le_refl _)) (by omega) (by omega) (by omega)
  | succ n ih =>
    have h2 : Abs (mulI b (expT b (X, X) (n + 1)) (X, X)) (Q (b - n)) := mulI_abs ih hX (Int.le_refl _)
    obtain ⟨g1, g2, g3, g4⟩ := h2
    have q := Q_pos (b - (n + 1))
    have hq : Q (b - n) ≤ Q (b - (n + 1)) * ((n + 1 : Nat) + 1 : Int) := by
      by_cases hb : b - n = 0
      · have e : b - (n + 1) = 0 := by omega
        rw [hb, e]; simp [Q]; omega
      · have e : b - n = b - (n + 1) + 1 := by omega
        rw [e]
        have e2 : Q (b - (n + 1) + 1) = 2 * Q (b - (n + 1)) := rfl
        rw [e2]
        have := Int.mul_le_mul_of_nonneg_left (show (2 : Int) ≤ ((n + 1 : Nat) + 1 : Int) by omega) (show 0 ≤ Q (b - (n + 1)) by omega)
        omega
    have d0 : (0 : Int) < ((n + 1 : Nat) + 1 : Int) := by omega
    have r1 := round_abs (x := (mulI b (expT b (X, X) (n + 1)) (X, X)).1 * 1) (m := Q (b - (n + 1))) d0 (by omega) (by omega)
    have r2 := round_abs (x := (mulI b (expT b (X, X) (n + 1)) (X, X)).2 * 1) (m := Q (b - (n + 1))) d0 (by omega) (by omega)
    exact ⟨r1.1, r1.2.1, r2.2.2.1, r2.2.2.2⟩
theorem low_absB {b : Nat} {X : Int} (h0 : 0 ≤ X) (h1 : X ≤ Q b) (n : Nat) : Abs (expT b (X, X) n) (Q b) := by
  cases n with
  | zero => have := Q_pos b; exact ⟨by simp [expT]; omega, by simp [expT], by simp [expT]; omega, by simp [expT]⟩
  | succ n => exact (low_abs h0 h1 n).mono (Q_mono (by omega))
/-- Where tailsureref.lowExp ends. -/
def LowStop (f : Nat → Int × Int) (N : Nat) : Prop := 3 ≤ N ∧ reachI (f N) ≤ 1 ∧ ∀ n, 3 ≤ n → n < N → 1 < reachI (f n)
theorem low_stop {b : Nat} {X : Int} (h0 : 0 ≤ X) (h1 : X ≤ Q b) : ∃ N, N ≤ b + 4 ∧ LowStop (expT b (X, X)) N := by
  have h2 : 3 ≤ b + 4 ∧ reachI (expT b (X, X) (b + 4)) ≤ 1 := by
    refine ⟨by omega, ?_⟩
    have := abs_reach (low_abs h0 h1 (b + 3))
    have e : b - (b + 3) = 0 := by omega
    rw [e] at this; exact this
  obtain ⟨N, n1, n2, n3⟩ := exists_least (p := fun n => 3 ≤ n ∧ reachI (expT b (X, X) n) ≤ 1) h2
  exact ⟨N, n1, n2.1, n2.2, fun n h3 hn => by have := n3 n hn; simp at this; have := this h3; omega⟩
/-- The ends are not below 0. -/
theorem low_nonneg {b : Nat} {X : Int} (h0 : 0 ≤ X) (n : Nat) : 0 ≤ (expT b (X, X) n).1 := by
  induction n with
  | zero => have := Q_pos b; simp only [expT]; omega
  | succ n ih =>
    have hle := expT_le b (X, X) n
    have q := Q_pos b
    have l := (least4 ((expT b (X, X) n).1 * X) ((expT b (X, X) n).1 * X) ((expT b (X, X) n).2 * X) ((expT b (X, X) n).2 * X)).2.2.2.2
    have p1 := Int.mul_nonneg ih h0
    have p2 := Int.mul_nonneg (show 0 ≤ (expT b (X, X) n).2 by omega) h0
    have h3 : 0 ≤ (mulI b (expT b (X, X) n) (X, X)).1 := by
      simp only [mulI]
      refine Int.ediv_nonneg ?_ (by omega)
      rcases l with l | l | l | l <;> rw [l] <;> assumption
    simp only [expT, scaleI]
    exact Int.ediv_nonneg (by omega) (by omega)
theorem low_sum {b : Nat} {X : Int} (h0 : 0 ≤ X) (n : Nat) : Q b ≤ (sumI (expT b (X, X)) n).1 := by
  induction n with
  | zero => simp [sumI, expT]
  | succ n ih => simp only [sumI, addI]; have := low_nonneg (b := b) h0 (n + 1); omega
theorem low_sumabs {b : Nat} {X : Int} (h0 : 0 ≤ X) (h1 : X ≤ Q b) (n : Nat) : Abs (sumI (expT b (X, X)) n) (((n : Int) + 1) * Q b) := by
  induction n with
  | zero => simp only [sumI]; exact (low_absB h0 h1 0).mono (by simp)
  | succ n ih =>
    simp only [sumI]
    refine (ih.add (low_absB h0 h1 (n + 1))).mono ?_
    have : (((n + 1 : Nat) : Int) + 1) * Q b = ((n : Int) + 1) * Q b + Q b := by
      have e : (((n + 1 : Nat) : Int) + 1) = ((n : Int) + 1) + 1 := by omega
      rw [e, Int.add_mul, Int.one_mul]
    omega
theorem tm_half1 {x b : Rat} (hx : AB x 1) {n : Nat} (hn : 1 ≤ n) (h : AB (tm x n) b) : AB (tm x (n + 1)) (b / 2) := by
  have e := tm_succ x n
  have hp := pos1 n
  have g := hx.mul h
  rw [← e] at g
  have e3 : tm x (n + 1) = ((n : Rat) + 1) * tm x (n + 1) / ((n : Rat) + 1) := by grind
  rw [e3]
  refine rdiv_AB hp (g.mono ?_)
  have hn' : (1 : Rat) ≤ (n : Rat) := by exact_mod_cast hn
  have := Rat.mul_nonneg (show 0 ≤ (n : Rat) - 1 by grind) h.nonneg
  grind
/-- It has e to the power of X over 2 to the power of b. -/
theorem low_has {b N : Nat} {X : Int} (h0 : 0 ≤ X) (h1 : X ≤ Q b) (hN : LowStop (expT b (X, X)) N) : Iv b (doneT (expT b (X, X)) N) (Ev (fun _ => (X : Rat) / (Q b : Rat))) := by
  have q := Qr_pos b
  have hX : Iv b (X, X) (fun _ => (X : Rat) / (Q b : Rat)) := Has.const Rat.le_refl Rat.le_refl
  have hx : AB ((X : Rat) / (Q b : Rat)) 1 := by
    refine rdiv_AB q ?_
    have c1 : ((0 : Int) : Rat) ≤ (X : Rat) := cast_le h0
    have c2 := cast_le h1
    have c0 : ((0 : Int) : Rat) = 0 := rfl
    rw [c0] at c1
    constructor <;> grind
  refine doneT_has ?_ hN.2.1
  exact done_has (expT_le b (X, X)) (fun n _ => expT_has hX n) 0 (fun M _ n c hn hc => tm_half1 hx (by have := hN.1; omega) hc)
end Go.Proofs.Ytgmnknmjainabaa

namespace Go.Proofs.Ytgmnknmjainabaa
set_option linter.unusedVariables false
open Ex

theorem doneT_le {f : Nat → Int × Int} (hle : ∀ n, (f n).1 ≤ (f n).2) (n : Nat) : (doneT f n).1 ≤ (doneT f n).2 := by
  have := sum_le hle n
  simp only [doneT, addI]; omega
theorem low_low {b : Nat} {X : Int} (h0 : 0 ≤ X) (N : Nat) : Q b - 1 ≤ (doneT (expT b (X, X)) N).1 := by
  have := low_sum (b := b) h0 N
  simp only [doneT, addI]; omega
/-- The sum is less than four times 1. -/
theorem low_up {b N : Nat} {X : Int} (h0 : 0 ≤ X) (h1 : X ≤ Q b) (hN : LowStop (expT b (X, X)) N) : (sumI (expT b (X, X)) N).2 + Q (b - (N - 1)) ≤ 3 * Q b + 3 := by
  have key : ∀ n, n + 1 ≤ N → (sumI (expT b (X, X)) (n + 1)).2 + Q (b - n) ≤ 3 * Q b + (if n ≥ 3 then 3 else n) := fun n => by
    induction n with
    | zero =>
      intro _
      have g0 := (low_absB h0 h1 0).2.2.2
      have g1 : (expT b (X, X) 1).2 ≤ Q b := (low_abs h0 h1 0).2.2.2
      simp only [sumI, addI, Nat.sub_zero]
      simp
      omega
    | succ n ih =>
      intro hn
      have ih := ih (by omega)
      have g := (low_abs h0 h1 (n + 1)).2.2.2
      have e : (sumI (expT b (X, X)) (n + 1 + 1)).2 = (sumI (expT b (X, X)) (n + 1)).2 + (expT b (X, X) (n + 1 + 1)).2 := rfl
      rw [e]
      by_cases hb : 1 ≤ b - n
      · have e2 : Q (b - n) = 2 * Q (b - (n + 1)) := by
          have : b - n = b - (n + 1) + 1 := by omega
          rw [this]; rfl
        split at ih <;> split <;> omega
      · -- then what came last was within 1 already
        have e3 : b - n = 0 := by omega
        have e4 : b - (n + 1) = 0 := by omega
        rw [e3] at ih
        rw [e4] at g ⊢
        have h2 : Q 0 = 1 := rfl
        by_cases h3 : 3 ≤ n + 1
        · exfalso
          have := hN.2.2 (n + 1) h3 (by omega)
          have h4 := abs_reach (low_abs h0 h1 n)
          rw [e3] at h4
          omega
        · split at ih <;> split <;> omega
  obtain ⟨n, rfl⟩ : ∃ n, N = n + 1 := ⟨N - 1, by have := hN.1; omega⟩
  have := key n (Nat.le_refl _)
  simp only [Nat.add_sub_cancel]
  split at this <;> omega
theorem low_box {b N : Nat} {X : Int} (hb : 4 ≤ b) (h0 : 0 ≤ X) (h1 : X ≤ Q b) (hN : LowStop (expT b (X, X)) N) : Abs (doneT (expT b (X, X)) N) (Q (b + 2)) := by
  have g1 := low_low (b := b) h0 N
  have g2 := low_up h0 h1 hN
  have g3 := doneT_le (expT_le b (X, X)) N
  have q := Q_pos (b - (N - 1))
  have q2 := Q_mono hb
  have e : Q 4 = 16 := rfl
  have e2 : Q (b + 2) = 2 * (2 * Q b) := rfl
  have g4 : (doneT (expT b (X, X)) N).2 = (sumI (expT b (X, X)) N).2 + 1 := rfl
  exact ⟨by omega, by omega, by omega, by omega⟩
/-- Products of what is nearly 1 or more. -/
theorem mul_low {B : Nat} {a c : Int × Int} {α β : Int} (ha : Q B - α ≤ a.1) (hc : Q B - β ≤ c.1) (la : a.1 ≤ a.2) (lc : c.1 ≤ c.2) (a0 : 0 ≤ Q B - α) (c0 : 0 ≤ Q B - β) (hα : 0 ≤ α) (hβ : 0 ≤ β) : Q B - α - β ≤ (mulI B a c).1 := by
  have q := Q_pos B
  have l := (least4 (a.1 * c.1) (a.1 * c.2) (a.2 * c.1) (a.2 * c.2)).2.2.2.2
  have p1 := Int.mul_le_mul ha hc c0 (by omega)
  have p2 := Int.mul_le_mul ha (show Q B - β ≤ c.2 by omega) c0 (by omega)
  have p3 := Int.mul_le_mul (show Q B - α ≤ a.2 by omega) hc c0 (by omega)
  have p4 := Int.mul_le_mul (show Q B - α ≤ a.2 by omega) (show Q B - β ≤ c.2 by omega) c0 (by omega)
  have e : (Q B - α) * (Q B - β) = (Q B - α - β) * Q B + α * β := by grind
  have ab := Int.mul_nonneg hα hβ
  simp only [mulI]
  rw [Int.le_ediv_iff_mul_le (by omega)]
  omega
/-- Where tailsureref.Raised is: of e itself. -/
def EInv (B n : Nat) (m : Nat) (o c : Int × Int) : Prop :=
  ∃ j e : Nat, j + e * m = n ∧ 1 ≤ e ∧ e ≤ 2 * n + 1 ∧ Iv B o (Ev (fun _ => (j : Rat))) ∧ Iv B c (Ev (fun _ => (e : Rat))) ∧ Abs o (Q (B + 2 * j)) ∧ Abs c (Q (B + 2 * e)) ∧ o.1 ≤ o.2 ∧ c.1 ≤ c.2 ∧ Q B - 2 * (j : Int) ≤ o.1 ∧ Q B - (2 * (e : Int) - 1) ≤ c.1
theorem ev_nat (i j : Nat) : Null (fun M => Ev (fun _ => (i : Rat)) M * Ev (fun _ => (j : Rat)) M - Ev (fun _ => ((i + j : Nat) : Rat)) M) := by
  have n := Ev_add (Bdd.const (i : Rat)) (Bdd.const (j : Rat))
  have e : (fun _ : Nat => (i : Rat) + (j : Rat)) = fun _ => ((i + j : Nat) : Rat) := funext fun _ => by simp
  rw [e] at n; exact n
theorem einv_step {B n m : Nat} {o c : Int × Int} (hB : 20 ≤ B) (hn : n ≤ 2000) (hm : 0 < m) (h : EInv B n m o c) :
    EInv B n (m / 2) (if m % 2 = 1 then mulI B o c else o) (mulI B c c) ∧ Abs (mulI B c c) (Q (B + 4 * (2 * n + 1))) ∧ (m % 2 = 1 → Abs (mulI B o c) (Q (B + 2 * n))) := by
  obtain ⟨j, e, h1, h2, h3, h4, h5, h6, h7, h8, h9, h10, h11⟩ := h
  have hem : e ≤ n := by
    have := Nat.mul_le_mul_left e hm
    omega
  have hQ : 1048576 ≤ Q B := by have := Q_mono hB; have e : Q 20 = 1048576 := rfl; omega
  have habs : ∀ p q r : Nat, ∀ u v : Int × Int, p + q = r → Abs u (Q (B + 2 * p)) → Abs v (Q (B + 2 * q)) → Abs (mulI B u v) (Q (B + 2 * r)) := fun p q r u v hr hu hv => by
    refine mulI_abs hu hv ?_
    rw [← Q_add, ← Q_add]
    exact Q_mono (by omega)
  have hcc := habs e e (2 * e) c c (by omega) h7 h7
  have hsq : Iv B (mulI B c c) (Ev (fun _ => ((2 * e : Nat) : Rat))) := by
    have : Iv B (mulI B c c) (Ev (fun _ => ((e + e : Nat) : Rat))) := (h5.mul h5).congr ((ev_nat e e).neg.of_eq fun M => by grind)
    rw [show e + e = 2 * e by omega] at this
    exact this
  have hlow : Q B - (2 * ((2 * e : Nat) : Int) - 1) ≤ (mulI B c c).1 := by
    have := mul_low (B := B) h11 h11 h9 h9 (by omega) (by omega) (by omega) (by omega)
    omega
  refine ⟨?_, hcc.mono (Q_mono (by omega)), fun hodd => ?_⟩
  · by_cases hodd : m % 2 = 1
    · rw [if_pos hodd]
      have hme : e * m = 2 * e * (m / 2) + e := by
        have : m = 2 * (m / 2) + 1 := by omega
        have e1 : e * m = e * (2 * (m / 2) + 1) := by rw [← this]
        rw [e1, Nat.mul_add, Nat.mul_one, ← Nat.mul_assoc, Nat.mul_comm e 2]
      refine ⟨j + e, 2 * e, by omega, by omega, by omega, ?_, hsq, habs j e (j + e) o c rfl h6 h7, hcc, mulI_le B, mulI_le B, ?_, hlow⟩
      · exact (h4.mul h5).congr ((ev_nat j e).neg.of_eq fun M => by grind)
      · have hj : j ≤ n := by omega
        have := mul_low (B := B) h10 h11 h8 h9 (by omega) (by omega) (by omega) (by omega)
        omega
    · rw [if_neg hodd]
      have hme : e * m = 2 * e * (m / 2) := by
        have : m = 2 * (m / 2) := by omega
        have e1 : e * m = e * (2 * (m / 2)) := by rw [← this]
        rw [e1, ← Nat.mul_assoc, Nat.mul_comm e 2]
      exact ⟨j, 2 * e, by omega, by omega, by omega, h4, hsq, h6, hcc, h8, mulI_le B, h10, hlow⟩
  · have hje : j + e ≤ n := by
      have := Nat.mul_le_mul_left e (show 1 ≤ m by omega)
      omega
    exact (habs j e (j + e) o c rfl h6 h7).mono (Q_mono (by omega))
theorem einv_start {B N n : Nat} (hB : 20 ≤ B) (hN : LowStop (expT B (Q B, Q B)) N) : EInv B n n (Q B, Q B) (doneT (expT B (Q B, Q B)) N) := by
  have q := Q_pos B
  have qr := Qr_pos B
  have e1 : (Q B : Rat) / (Q B : Rat) = 1 := by rw [Rat.div_def, Rat.mul_inv_cancel _ (by grind)]
  refine ⟨0, 1, by omega, by omega, by omega, ?_, ?_, ?_, low_box (by omega) (by omega) (Int.le_refl _) hN, Int.le_refl _, doneT_le (expT_le _ _) N, by simp, ?_⟩
  · have h : Iv B (Q B, Q B) (fun _ => (1 : Rat)) := by
      have := Has.const (a := (Q B : Rat) / (Q B : Rat)) (b := (Q B : Rat) / (Q B : Rat)) (c := 1) (by rw [e1]; exact Rat.le_refl) (by rw [e1]; exact Rat.le_refl)
      exact this
    refine h.congr (null_zero.of_eq_from 1 fun M hM => ?_)
    obtain ⟨m, rfl⟩ : ∃ m, M = m + 1 := ⟨M - 1, by omega⟩
    show E ((0 : Nat) : Rat) (m + 1) - 1 = 0
    have : ((0 : Nat) : Rat) = 0 := by simp
    rw [this, E_zero]; grind
  · have := low_has (b := B) (X := Q B) (by omega) (Int.le_refl _) hN
    rw [e1] at this
    have e2 : ((1 : Nat) : Rat) = 1 := rfl
    rw [e2]; exact this
  · exact ⟨by simp; omega, by simp, by simp; omega, by simp⟩
  · have := low_low (b := B) (X := Q B) (by omega) N
    simp; omega
/-- Its end. -/
theorem einv_end {B n : Nat} {o c : Int × Int} (h : EInv B n 0 o c) : Iv B o (Ev (fun _ => (n : Rat))) ∧ Abs o (Q (B + 2 * n)) ∧ o.1 ≤ o.2 ∧ Q B - 2 * (n : Int) ≤ o.1 := by
  obtain ⟨j, e, h1, h2, h3, h4, h5, h6, h7, h8, h9, h10, h11⟩ := h
  have : j = n := by omega
  subst this
  exact ⟨h4, h6, h8, h10⟩
/-- The whole part, and the rest. -/
theorem expR_has {B n N : Nat} {X : Int} {o : Int × Int} (hB : 20 ≤ B) (hX : X / Q B = (n : Int)) (h0 : 0 ≤ X) (hn : n ≤ 2000) (ho : Iv (B + 40) o (Ev (fun _ => (n : Rat)))) (ha : Abs o (Q (B + 40 + 2 * n))) (hle : o.1 ≤ o.2) (hlo : Q (B + 40) - 2 * (n : Int) ≤ o.1)
    (hN : LowStop (expT (B + 40) ((X - n * Q B) * Q 40, (X - n * Q B) * Q 40)) N) (hY0 : 0 ≤ (X - n * Q B) * Q 40) (hY1 : (X - n * Q B) * Q 40 ≤ Q (B + 40)) :
    let p := mulI (B + 40) o (doneT (expT (B + 40) ((X - n * Q B) * Q 40, (X - n * Q B) * Q 40)) N)
    Iv B (downI p 40) (Ev (fun _ => (X : Rat) / (Q B : Rat))) ∧ Abs p (Q (B + 40 + 2 * (n + 1))) ∧ p.1 ≤ p.2 ∧ Q B - 1 ≤ (downI p 40).1 := by
  intro p
  have qB := Qr_pos B
  have q40 := Qr_pos 40
  have hl := low_has hY0 hY1 hN
  have hm := ho.mul hl
  have n1 := Ev_add (Bdd.const (n : Rat)) (Bdd.const (((X - n * Q B) * Q 40 : Int) / (Q (B + 40) : Rat)))
  have e : (fun _ : Nat => (n : Rat) + (((X - n * Q B) * Q 40 : Int) : Rat) / (Q (B + 40) : Rat)) = fun _ => (X : Rat) / (Q B : Rat) := funext fun _ => by
    have e1 : (Q (B + 40) : Rat) = (Q B : Rat) * (Q 40 : Rat) := by rw [Q_add, Rat.intCast_mul]
    have e2 : (((X - n * Q B) * Q 40 : Int) : Rat) = ((X : Rat) - (n : Rat) * (Q B : Rat)) * (Q 40 : Rat) := by
      rw [Rat.intCast_mul, Rat.intCast_sub, Rat.intCast_mul]; rfl
    have f1 := rdm (a := (X : Rat)) qB
    have f2 := rdm (a := (((X - n * Q B) * Q 40 : Int) : Rat)) (show (0 : Rat) < (Q (B + 40) : Rat) from Qr_pos _)
    rw [e1, e2] at f2 ⊢
    generalize (X : Rat) / (Q B : Rat) = x at *
    generalize ((X : Rat) - (n : Rat) * (Q B : Rat)) * (Q 40 : Rat) / ((Q B : Rat) * (Q 40 : Rat)) = y at *
    -- y QB Q40 = (x QB - n QB) Q40
    have f3 : (Q 40 : Rat) * ((Q B : Rat) * (y - (x - n))) = 0 := by rw [← f1] at f2; grind
    rcases Rat.mul_eq_zero.1 f3 with h | h
    · grind
    · rcases Rat.mul_eq_zero.1 h with h | h
      · grind
      · grind
  rw [e] at n1
  have hp : Iv (B + 40) p (Ev (fun _ => (X : Rat) / (Q B : Rat))) := hm.congr (n1.neg.of_eq fun M => by grind)
  have hd := low_low (b := B + 40) hY0 N
  have hdl := doneT_le (expT_le (B + 40) ((X - n * Q B) * Q 40, (X - n * Q B) * Q 40)) N
  have hq : 1048576 ≤ Q (B + 40) := by have := Q_mono (show 20 ≤ B + 40 by omega); have e : Q 20 = 1048576 := rfl; omega
  have hlow : Q (B + 40) - 2 * (n : Int) - 1 ≤ p.1 := mul_low hlo hd hle hdl (by omega) (by omega) (by omega) (by omega)
  refine ⟨hp.to, ?_, mulI_le _, ?_⟩
  · refine mulI_abs ha (low_box (by omega) hY0 hY1 hN) ?_
    rw [← Q_add, ← Q_add]
    exact Q_mono (by omega)
  · show Q B - 1 ≤ p.1 / Q 40
    have e40 : Q 40 = 1099511627776 := rfl
    have eB : Q (B + 40) = Q B * Q 40 := Q_add B 40
    rw [Int.le_ediv_iff_mul_le (by rw [e40]; omega), Int.sub_mul, ← eB]
    omega
end Go.Proofs.Ytgmnknmjainabaa

namespace Go.Proofs.Ytgmnknmjainabaa
set_option linter.unusedVariables false
open Ex

namespace Ex
theorem has_inv {a b L H : Rat} {y z : Nat → Rat} (hy : Has a b y) (ha : 0 < a) (hz : Null (fun M => z M * y M - 1)) (N0 : Nat) (hz0 : ∀ M, N0 ≤ M → 0 ≤ z M) (h1 : L * b ≤ 1) (h2 : 1 ≤ H * a) : Has L H z := fun e he => by
  have hab := hy.le
  have hb : 0 < b := by grind
  obtain ⟨l, hl⟩ := AB.self L
  obtain ⟨h, hh⟩ := AB.self H
  have l0 := hl.nonneg
  have h0 := hh.nonneg
  obtain ⟨hl1, hl2⟩ := hl
  obtain ⟨hh1, hh2⟩ := hh
  have hK : 0 < 2 * (l + h + e + 1) := by grind
  have hae := Rat.mul_pos he ha
  have hδ := rdiv_pos hae hK
  have hδe := rdm (a := e * a) hK
  obtain ⟨N1, k1⟩ := hy _ hδ
  obtain ⟨N2, k2⟩ := hz _ hδ
  refine ⟨N0 + N1 + N2, fun M hM => ?_⟩
  obtain ⟨y1, y2⟩ := k1 M (by omega)
  obtain ⟨z1, z2⟩ : AB (z M * y M - 1) (e * a / (2 * (l + h + e + 1))) := k2 M (by omega)
  have zp := hz0 M (by omega)
  generalize e * a / (2 * (l + h + e + 1)) = δ at *
  generalize z M = Z at *
  generalize y M = Y at *
  have hd2 : δ * (2 * (l + h + e + 1)) = 2 * (δ * l) + 2 * (δ * h) + 2 * (δ * e) + 2 * δ := by grind
  rw [hd2] at hδe
  have p1 := Rat.mul_nonneg (Rat.le_of_lt hδ) l0
  have p2 := Rat.mul_nonneg (Rat.le_of_lt hδ) h0
  have p3 := Rat.mul_pos hδ he
  have p4 := Rat.mul_nonneg (Rat.le_of_lt he) (show 0 ≤ b - a by grind)
  constructor
  · refine Rat.not_lt.1 fun hn => ?_
    -- Z < L - e; Z Y <= Z (b + δ) <= (L - e) (b + δ)
    have q1 := Rat.mul_nonneg zp (show 0 ≤ b + δ - Y by grind)
    have q2 := Rat.mul_pos (show 0 < L - e - Z by grind) (show 0 < b + δ by grind)
    have q3 : L * δ ≤ δ * l := by
      have := Rat.mul_nonneg (Rat.le_of_lt hδ) (show 0 ≤ l - L by grind)
      grind
    grind
  · refine Rat.not_lt.1 fun hn => ?_
    have q1 := Rat.mul_nonneg zp (show 0 ≤ Y - (a - δ) by grind)
    have q4 : δ < a := by
      refine Rat.not_le.1 fun hc => ?_
      have := Rat.mul_nonneg (show 0 ≤ δ - a by grind) (Rat.le_of_lt he)
      grind
    have q2 := Rat.mul_pos (show 0 < Z - (H + e) by grind) (show 0 < a - δ by grind)
    have q3 : H * δ ≤ δ * h := by
      have := Rat.mul_nonneg (Rat.le_of_lt hδ) (show 0 ≤ h - H by grind)
      grind
    grind
theorem has_between {a b c d : Rat} {u v x m n : Nat → Rat} (hu : Has a b u) (hv : Has c d v) (hm : Null m) (hn : Null n) (N : Nat) (h1 : ∀ M, N ≤ M → u M ≤ x M + m M) (N' : Nat) (h2 : ∀ M, N' ≤ M → x M ≤ v M + n M) : Has a d x := fun e he => by
  obtain ⟨N1, k1⟩ := hu (e / 2) (by grind)
  obtain ⟨N2, k2⟩ := hv (e / 2) (by grind)
  obtain ⟨N3, k3⟩ := hm (e / 2) (by grind)
  obtain ⟨N4, k4⟩ := hn (e / 2) (by grind)
  refine ⟨N + N' + N1 + N2 + N3 + N4, fun M hM => ?_⟩
  have g1 := k1 M (by omega)
  have g2 := k2 M (by omega)
  obtain ⟨g3, g4⟩ := k3 M (by omega)
  obtain ⟨g5, g6⟩ := k4 M (by omega)
  have g7 := h1 M (by omega)
  have g8 := h2 M (by omega)
  constructor <;> grind
end Ex
/-- 1 over a power of e. -/
theorem inv_has {B : Nat} {p : Int × Int} {x : Rat} {lo hi : Int} (hp : 0 < p.1) (h : Iv B p (Ev (fun _ => -x))) (h1 : lo * p.2 ≤ Q B * Q B) (h2 : Q B * Q B ≤ hi * p.1) : Iv B (lo, hi) (Ev (fun _ => x)) := by
  have q := Qr_pos B
  obtain ⟨c, hc, N, hN⟩ := Ev_low (Bdd.const x)
  have hz := Ev_inv (Bdd.const x)
  have q2 := Rat.mul_pos q q
  have hp' : (0 : Rat) < (p.1 : Rat) := by exact_mod_cast hp
  refine has_inv h (rdiv_pos hp' q) hz N (fun M hM => by have := hN M hM; grind) ?_ ?_
  · have e1 := rdm (a := (lo : Rat)) q
    have e2 := rdm (a := (p.2 : Rat)) q
    have g := cast_le h1
    rw [Rat.intCast_mul, Rat.intCast_mul] at g
    simp only []
    generalize (lo : Rat) / (Q B : Rat) = u at *
    generalize (p.2 : Rat) / (Q B : Rat) = v at *
    rw [← e1, ← e2] at g
    refine Rat.not_lt.1 fun hn => ?_
    have := Rat.mul_pos (show 0 < u * v - 1 by grind) q2
    grind
  · have e1 := rdm (a := (hi : Rat)) q
    have e2 := rdm (a := (p.1 : Rat)) q
    have g := cast_le h2
    rw [Rat.intCast_mul, Rat.intCast_mul] at g
    simp only []
    generalize (hi : Rat) / (Q B : Rat) = u at *
    generalize (p.1 : Rat) / (Q B : Rat) = v at *
    rw [← e1, ← e2] at g
    refine Rat.not_lt.1 fun hn => ?_
    have := Rat.mul_pos (show 0 < 1 - u * v by grind) q2
    grind
/-- Of a span. -/
theorem expOf_has {B : Nat} {s u v : Int × Int} {x : Rat} (h : Iv B s (fun _ => x)) (hu : Iv B u (Ev (fun _ => (s.1 : Rat) / (Q B : Rat)))) (hv : Iv B v (Ev (fun _ => (s.2 : Rat) / (Q B : Rat)))) : Iv B (u.1, v.2) (Ev (fun _ => x)) := by
  have hx : (s.1 : Rat) / (Q B : Rat) ≤ x ∧ x ≤ (s.2 : Rat) / (Q B : Rat) := by
    have h1 := Has.touch h (Has.const (a := x) (b := x) (c := x) Rat.le_refl Rat.le_refl)
    have h2 := Has.touch (Has.const (a := x) (b := x) (c := x) Rat.le_refl Rat.le_refl) h
    exact ⟨h1, h2⟩
  obtain ⟨m, hm, N, h1⟩ := Ev_mono (Bdd.const ((s.1 : Rat) / (Q B : Rat))) (Bdd.const x) null_zero 0 (fun M _ => by have := hx.1; grind)
  obtain ⟨n, hn, N', h2⟩ := Ev_mono (Bdd.const x) (Bdd.const ((s.2 : Rat) / (Q B : Rat))) null_zero 0 (fun M _ => by have := hx.2; grind)
  exact has_between hu hv hm hn N h1 N' h2
end Go.Proofs.Ytgmnknmjainabaa

namespace Go.Proofs.Ytgmnknmjainabaa
set_option linter.unusedVariables false
open Ex

namespace Ex
theorem low_null {c : Rat} {x : Nat → Rat} (h : ∀ e, 0 < e → ∃ N, ∀ M, N ≤ M → c - e ≤ x M) : ∃ z, Null z ∧ ∀ M, c ≤ x M + z M := by
  refine ⟨fun M => if c ≤ x M then 0 else c - x M, fun e he => ?_, fun M => ?_⟩
  · obtain ⟨N, hN⟩ := h e he
    refine ⟨N, fun M hM => ?_⟩
    have := hN M hM
    show AB (if c ≤ x M then 0 else c - x M) e
    split
    · constructor <;> grind
    · constructor <;> grind
  · show c ≤ x M + (if c ≤ x M then 0 else c - x M)
    split <;> grind
theorem high_null {c : Rat} {x : Nat → Rat} (h : ∀ e, 0 < e → ∃ N, ∀ M, N ≤ M → x M ≤ c + e) : ∃ z, Null z ∧ ∀ M, x M ≤ c + z M := by
  obtain ⟨z, h1, h2⟩ := low_null (c := -c) (x := fun M => -x M) (fun e he => by
    obtain ⟨N, hN⟩ := h e he
    exact ⟨N, fun M hM => by have := hN M hM; grind⟩)
  exact ⟨z, h1, fun M => by have := h2 M; grind⟩
end Ex
theorem expOf_has2 {B : Nat} {s u v : Int × Int} {x : Nat → Rat} (hb : Bdd x) (h : Iv B s x) (hu : Iv B u (Ev (fun _ => (s.1 : Rat) / (Q B : Rat)))) (hv : Iv B v (Ev (fun _ => (s.2 : Rat) / (Q B : Rat)))) : Iv B (u.1, v.2) (Ev x) := by
  obtain ⟨z, hz, h1⟩ := low_null (c := (s.1 : Rat) / (Q B : Rat)) (x := x) (fun e he => by
    obtain ⟨N, hN⟩ := h e he
    exact ⟨N, fun M hM => (hN M hM).1⟩)
  obtain ⟨z', hz', h2⟩ := high_null (c := (s.2 : Rat) / (Q B : Rat)) (x := x) (fun e he => by
    obtain ⟨N, hN⟩ := h e he
    exact ⟨N, fun M hM => (hN M hM).2⟩)
  obtain ⟨m, hm, N, h3⟩ := Ev_mono (Bdd.const ((s.1 : Rat) / (Q B : Rat))) hb hz 0 (fun M _ => h1 M)
  obtain ⟨n, hn, N', h4⟩ := Ev_mono hb (Bdd.const ((s.2 : Rat) / (Q B : Rat))) hz' 0 (fun M _ => h2 M)
  exact has_between hu hv hm hn N h3 N' h4
end Go.Proofs.Ytgmnknmjainabaa
