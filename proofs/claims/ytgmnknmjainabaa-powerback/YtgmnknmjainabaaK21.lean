/-
  Whether two spans touch (tailsureref.Touch), and that it leaves old memory alone.
  What comes of being sure of a power or of a logarithm; tailsurelaw.powerBegun is true; tailsurelaw.touch.
  tailsurelaw.PowerSums returns true of whatever numbers.
  tailsurelaw.PowerBack returns true of whatever numbers.
  How a span that is handed to a statement is opened: its ends' digits, within the form's own reach; no statement of the seat is proved here.
-/
import Derived.Test.YtgmnknmjainabaaRows
import Derived.ProofKit
import Derived.OpenShut
import Derived.SizedLaws
import Derived.ChangeOld
import Derived.Test.YtgmnknmjainabaaK20
namespace Go.Proofs.Ytgmnknmjainabaa
set_option linter.unusedVariables false
set_option linter.unusedSimpArgs false
set_option linter.unnecessarySimpa false
open Go.RowKit
attribute [local go_sem ↓] Go.wp_at_zero Go.wp_at_succ

/-- Do two spans touch? Of each the ends, and how many bits more it is told by. -/
def touB (lo hi : Int) (i : Nat) (lo' hi' : Int) (j : Nat) : Bool := decide (lo * Q i ≤ hi' * Q j) && decide (lo' * Q j ≤ hi * Q i)

theorem downZ_up (x : Int) (a b : Int) (i : Nat) (h : b - a = (i : Int)) : downZ x (a - b) = x * Q i := by
  unfold downZ
  by_cases h0 : i = 0
  · subst h0
    have e : a - b = 0 := by omega
    rw [e]; simp [Q]
  · rw [if_neg (by omega)]; congr 2; omega
theorem downZ_upn (x : Int) (a b : Int) (i : Nat) (h : b - a = (i : Int)) : -(downZ (-x) (a - b)) = x * Q i := by
  rw [downZ_up _ a b i h, Int.neg_mul, Int.neg_neg]

set_option maxRecDepth 100000 in
set_option maxHeartbeats 4000000 in
theorem touch_gt (w : World) (s t : Sp) (k i j : Nat) (lo hi lo' hi' : Int) (hs : SpAt w s k lo hi) (ht : SpAt w t k lo' hi') (hk : k ≤ 300000000) (s0 : 0 ≤ s.bits) (s1 : s.bits ≤ 1000000) (t0 : 0 ≤ t.bits) (t1 : t.bits ≤ 1000000) (hc : s.bits < t.bits) (hi1 : t.bits - s.bits = (i : Int)) (hj1 : t.bits - t.bits = (j : Int)) :
    Calls Try.prog 113 #[.agg #[.bool s.ln, .slice s.la s.lN s.lc, .bool s.hn, .slice s.ha s.hN s.hc, .int .i64 s.bits], .agg #[.bool t.ln, .slice t.la t.lN t.lc, .bool t.hn, .slice t.ha t.hN t.hc, .int .i64 t.bits]] w fun r w' => r = .returned (.bool (touB lo hi i lo' hi' j)) ∧ Below w.heap.size w w' := by
  obtain ⟨W, hW⟩ : ∃ W, W = (w.alloc (.cells #[.bool s.ln, .slice s.la s.lN s.lc, .bool s.hn, .slice s.ha s.hN s.hc, .int .i64 s.bits] 38)).alloc (.cells #[.bool t.ln, .slice t.la t.lN t.lc, .bool t.hn, .slice t.ha t.hN t.hc, .int .i64 t.bits] 38) := ⟨_, rfl⟩
  have hBW : Below w.heap.size w W := by rw [hW]; exact bl2 _ _ _
  have A : SpC W w.heap.size s := by rw [hW]; exact ⟨by simp [go_sem], by simp [go_sem], by simp [go_sem], by simp [go_sem], by simp [go_sem]⟩
  have G : SpC W (w.heap.size + 1) t := by rw [hW]; exact ⟨by simp [go_sem], by simp [go_sem], by simp [go_sem], by simp [go_sem], by simp [go_sem]⟩
  have FA : ∀ o, W.frozen? ⟨w.heap.size, o, none⟩ = false := by intro o; rw [hW]; simp [go_sem]
  have FG : ∀ o, W.frozen? ⟨w.heap.size + 1, o, none⟩ = false := by intro o; rw [hW]; simp [go_sem]
  have a1 := hide (downZ_up lo s.bits (t.bits) i hi1)
  have a2 := hide (downZ_upn hi s.bits (t.bits) i hi1)
  have a3 := hide (downZ_up lo' t.bits (t.bits) j hj1)
  have a4 := hide (downZ_upn hi' t.bits (t.bits) j hj1)
  have HS := hide (hs.below hBW)
  have HT := hide (ht.below hBW)
  have HA := hide A
  have HG := hide G
  have lA := A.lt
  have lG := G.lt
  have nAG : w.heap.size ≠ w.heap.size + 1 := by omega
  clear hi1 hj1 hs ht
  go_enter Try.func113, Try.ntmps113
  go_wp2_with fail
  rw [← hW]
  clear hW
  obtain ⟨x0, x1, x2, x3, x4⟩ := A
  obtain ⟨y0, y1, y2, y3, y4⟩ := G
  try go_wp2_with fail
  go_cut [] (fun wx => ∃ s2 t2 : Sp, SpC wx w.heap.size s2 ∧ SpC wx (w.heap.size + 1) t2 ∧ SpAt wx s2 (k + 62505) (lo * Q i) (hi * Q i) ∧ SpAt wx t2 (k + 62505) (lo' * Q j) (hi' * Q j) ∧ Below w.heap.size w wx)
  case first =>
    go_region_with
      (first
        | (go_at_call 22; have hq := hB1; refine (refTurn_int _ t k (t.bits) lo' hi' ((unhide HT).below hB1) hk t0 t1 (by omega) (by omega)).mono ?_; rintro r w2 ⟨u2, rfl, hub2, hup2, hb2⟩; rw [unhide a3, unhide a4] at hup2; clear hub2; have hB2 := bthen hB1 hb2; replace hup1 := hup1.below hb2; have l2A := Nat.lt_of_lt_of_le lA hB2.size; have l2G := Nat.lt_of_lt_of_le lG hB2.size; obtain ⟨a0, a1, a2, a3, a4⟩ := (unhide HA).below hB2; obtain ⟨g0, g1, g2, g3, g4⟩ := (unhide HG).below hB2; have fA2 : ∀ o, w2.frozen? ⟨w.heap.size, o, none⟩ = false := (fun o => (hB2.frozen (p := ⟨w.heap.size, o, none⟩) lA).trans (FA o)); have fG2 : ∀ o, w2.frozen? ⟨w.heap.size + 1, o, none⟩ = false := (fun o => (hB2.frozen (p := ⟨w.heap.size + 1, o, none⟩) lG).trans (FG o)))
        | (go_at_call 22; refine (refTurn_int _ s k (t.bits) lo hi ((unhide HS).below (by repeat' (first | with_reducible exact Below.refl _ _ | with_reducible refine Below.drew ?_))) hk s0 s1 (by omega) (by omega)).mono ?_; rintro r w1 ⟨u1, rfl, hub1, hup1, hb1⟩; rw [unhide a1, unhide a2] at hup1; clear hub1; have hB1 : Below W.heap.size W w1 := bthen (by repeat' (first | with_reducible exact Below.refl _ _ | with_reducible refine Below.drew ?_)) hb1; obtain ⟨b0, b1, b2, b3, b4⟩ := (unhide HA).below hB1; obtain ⟨d0, d1, d2, d3, d4⟩ := (unhide HG).below hB1; have l1A := Nat.lt_of_lt_of_le lA hB1.size; have l1G := Nat.lt_of_lt_of_le lG hB1.size))
    all_goals
      go_wp2_with fail
      go_meet
      have A2 : SpC w2 w.heap.size s := ⟨a0, a1, a2, a3, a4⟩
      have G2 : SpC w2 (w.heap.size + 1) t := ⟨g0, g1, g2, g3, g4⟩
      obtain ⟨p1, p2, p3, p4⟩ := two_sp A2 G2 nAG u1 u2
      exact ⟨u1, u2, p1, p2, p3 hup1, p3 hup2, set5 (set5 (bthen hBW hB2) (Nat.le_refl _) _ _ _ _ _) (Nat.le_succ _) _ _ _ _ _⟩
  case rest =>
  obtain ⟨s2, t2, A, G, hs, ht, hBW⟩ := hcut
  clear HA HG HS HT lA lG x0 x1 x2 x3 x4 y0 y1 y2 y3 y4 FA FG
  have lA := A.lt
  have lG := G.lt
  by_cases hq : lo * Q i ≤ hi' * Q j
  · have c1 : cmpInt (lo * Q i) (hi' * Q j) ≤ 0 := by unfold cmpInt; split; omega; rw [if_neg (by omega)]; omega
    have HE := hide (show decide (cmpInt (lo' * Q j) (hi * Q i) ≤ 0) = touB lo hi i lo' hi' j by rw [cmp_le0]; unfold touB; rw [decide_eq_true hq, Bool.true_and])
    obtain ⟨x0, x1, x2, x3, x4⟩ := A
    obtain ⟨y0, y1, y2, y3, y4⟩ := G
    clear hq
    go_wp2_with fail
    refine (cmp_int _ _ _ _ _ _ _ _ (k + 62505) (k + 62505) (lo * Q i) (hi' * Q j) _ hs.lo ht.hi).mono ?_
    rintro r w1 ⟨rfl, hb1⟩
    have A := (SpC.mk x0 x1 x2 x3 x4).below hb1
    have G := (SpC.mk y0 y1 y2 y3 y4).below hb1
    replace hs := hs.below hb1
    replace ht := ht.below hb1
    replace hBW := bthen hBW hb1
    clear x0 x1 x2 x3 x4 y0 y1 y2 y3 y4 hb1
    obtain ⟨x0, x1, x2, x3, x4⟩ := A
    obtain ⟨y0, y1, y2, y3, y4⟩ := G
    go_wp2_with fail
    refine (cmp_int _ _ _ _ _ _ _ _ (k + 62505) (k + 62505) (lo' * Q j) (hi * Q i) _ ht.lo hs.hi).mono ?_
    rintro r w2 ⟨rfl, hb2⟩
    replace hBW := bthen hBW hb2
    go_wp2_with fail
    go_ret
    exact ⟨by rw [← unhide HE]; rfl, hBW⟩
  · have c1 : ¬ cmpInt (lo * Q i) (hi' * Q j) ≤ 0 := by unfold cmpInt; rw [if_neg (by omega), if_pos (by omega)]; omega
    have HE := hide (show touB lo hi i lo' hi' j = false by unfold touB; rw [decide_eq_false hq, Bool.false_and])
    obtain ⟨x0, x1, x2, x3, x4⟩ := A
    obtain ⟨y0, y1, y2, y3, y4⟩ := G
    clear hq
    go_wp2_with fail
    refine (cmp_int _ _ _ _ _ _ _ _ (k + 62505) (k + 62505) (lo * Q i) (hi' * Q j) _ hs.lo ht.hi).mono ?_
    rintro r w1 ⟨rfl, hb1⟩
    replace hBW := bthen hBW hb1
    go_wp2_with fail
    go_ret
    exact ⟨by rw [unhide HE]; rfl, hBW⟩

set_option maxRecDepth 100000 in
set_option maxHeartbeats 4000000 in
theorem touch_le (w : World) (s t : Sp) (k i j : Nat) (lo hi lo' hi' : Int) (hs : SpAt w s k lo hi) (ht : SpAt w t k lo' hi') (hk : k ≤ 300000000) (s0 : 0 ≤ s.bits) (s1 : s.bits ≤ 1000000) (t0 : 0 ≤ t.bits) (t1 : t.bits ≤ 1000000) (hc : t.bits ≤ s.bits) (hi1 : s.bits - s.bits = (i : Int)) (hj1 : s.bits - t.bits = (j : Int)) :
    Calls Try.prog 113 #[.agg #[.bool s.ln, .slice s.la s.lN s.lc, .bool s.hn, .slice s.ha s.hN s.hc, .int .i64 s.bits], .agg #[.bool t.ln, .slice t.la t.lN t.lc, .bool t.hn, .slice t.ha t.hN t.hc, .int .i64 t.bits]] w fun r w' => r = .returned (.bool (touB lo hi i lo' hi' j)) ∧ Below w.heap.size w w' := by
  obtain ⟨W, hW⟩ : ∃ W, W = (w.alloc (.cells #[.bool s.ln, .slice s.la s.lN s.lc, .bool s.hn, .slice s.ha s.hN s.hc, .int .i64 s.bits] 38)).alloc (.cells #[.bool t.ln, .slice t.la t.lN t.lc, .bool t.hn, .slice t.ha t.hN t.hc, .int .i64 t.bits] 38) := ⟨_, rfl⟩
  have hBW : Below w.heap.size w W := by rw [hW]; exact bl2 _ _ _
  have A : SpC W w.heap.size s := by rw [hW]; exact ⟨by simp [go_sem], by simp [go_sem], by simp [go_sem], by simp [go_sem], by simp [go_sem]⟩
  have G : SpC W (w.heap.size + 1) t := by rw [hW]; exact ⟨by simp [go_sem], by simp [go_sem], by simp [go_sem], by simp [go_sem], by simp [go_sem]⟩
  have FA : ∀ o, W.frozen? ⟨w.heap.size, o, none⟩ = false := by intro o; rw [hW]; simp [go_sem]
  have FG : ∀ o, W.frozen? ⟨w.heap.size + 1, o, none⟩ = false := by intro o; rw [hW]; simp [go_sem]
  have a1 := hide (downZ_up lo s.bits (s.bits) i hi1)
  have a2 := hide (downZ_upn hi s.bits (s.bits) i hi1)
  have a3 := hide (downZ_up lo' t.bits (s.bits) j hj1)
  have a4 := hide (downZ_upn hi' t.bits (s.bits) j hj1)
  have HS := hide (hs.below hBW)
  have HT := hide (ht.below hBW)
  have HA := hide A
  have HG := hide G
  have lA := A.lt
  have lG := G.lt
  have nAG : w.heap.size ≠ w.heap.size + 1 := by omega
  clear hi1 hj1 hs ht
  go_enter Try.func113, Try.ntmps113
  go_wp2_with fail
  rw [← hW]
  clear hW
  obtain ⟨x0, x1, x2, x3, x4⟩ := A
  obtain ⟨y0, y1, y2, y3, y4⟩ := G
  try go_wp2_with fail
  go_cut [] (fun wx => ∃ s2 t2 : Sp, SpC wx w.heap.size s2 ∧ SpC wx (w.heap.size + 1) t2 ∧ SpAt wx s2 (k + 62505) (lo * Q i) (hi * Q i) ∧ SpAt wx t2 (k + 62505) (lo' * Q j) (hi' * Q j) ∧ Below w.heap.size w wx)
  case first =>
    go_region_with
      (first
        | (go_at_call 22; have hq := hB1; refine (refTurn_int _ t k (s.bits) lo' hi' ((unhide HT).below hB1) hk t0 t1 (by omega) (by omega)).mono ?_; rintro r w2 ⟨u2, rfl, hub2, hup2, hb2⟩; rw [unhide a3, unhide a4] at hup2; clear hub2; have hB2 := bthen hB1 hb2; replace hup1 := hup1.below hb2; have l2A := Nat.lt_of_lt_of_le lA hB2.size; have l2G := Nat.lt_of_lt_of_le lG hB2.size; obtain ⟨a0, a1, a2, a3, a4⟩ := (unhide HA).below hB2; obtain ⟨g0, g1, g2, g3, g4⟩ := (unhide HG).below hB2; have fA2 : ∀ o, w2.frozen? ⟨w.heap.size, o, none⟩ = false := (fun o => (hB2.frozen (p := ⟨w.heap.size, o, none⟩) lA).trans (FA o)); have fG2 : ∀ o, w2.frozen? ⟨w.heap.size + 1, o, none⟩ = false := (fun o => (hB2.frozen (p := ⟨w.heap.size + 1, o, none⟩) lG).trans (FG o)))
        | (go_at_call 22; refine (refTurn_int _ s k (s.bits) lo hi ((unhide HS).below (by repeat' (first | with_reducible exact Below.refl _ _ | with_reducible refine Below.drew ?_))) hk s0 s1 (by omega) (by omega)).mono ?_; rintro r w1 ⟨u1, rfl, hub1, hup1, hb1⟩; rw [unhide a1, unhide a2] at hup1; clear hub1; have hB1 : Below W.heap.size W w1 := bthen (by repeat' (first | with_reducible exact Below.refl _ _ | with_reducible refine Below.drew ?_)) hb1; obtain ⟨b0, b1, b2, b3, b4⟩ := (unhide HA).below hB1; obtain ⟨d0, d1, d2, d3, d4⟩ := (unhide HG).below hB1; have l1A := Nat.lt_of_lt_of_le lA hB1.size; have l1G := Nat.lt_of_lt_of_le lG hB1.size))
    all_goals
      go_wp2_with fail
      go_meet
      have A2 : SpC w2 w.heap.size s := ⟨a0, a1, a2, a3, a4⟩
      have G2 : SpC w2 (w.heap.size + 1) t := ⟨g0, g1, g2, g3, g4⟩
      obtain ⟨p1, p2, p3, p4⟩ := two_sp A2 G2 nAG u1 u2
      exact ⟨u1, u2, p1, p2, p3 hup1, p3 hup2, set5 (set5 (bthen hBW hB2) (Nat.le_refl _) _ _ _ _ _) (Nat.le_succ _) _ _ _ _ _⟩
  case rest =>
  obtain ⟨s2, t2, A, G, hs, ht, hBW⟩ := hcut
  clear HA HG HS HT lA lG x0 x1 x2 x3 x4 y0 y1 y2 y3 y4 FA FG
  have lA := A.lt
  have lG := G.lt
  by_cases hq : lo * Q i ≤ hi' * Q j
  · have c1 : cmpInt (lo * Q i) (hi' * Q j) ≤ 0 := by unfold cmpInt; split; omega; rw [if_neg (by omega)]; omega
    have HE := hide (show decide (cmpInt (lo' * Q j) (hi * Q i) ≤ 0) = touB lo hi i lo' hi' j by rw [cmp_le0]; unfold touB; rw [decide_eq_true hq, Bool.true_and])
    obtain ⟨x0, x1, x2, x3, x4⟩ := A
    obtain ⟨y0, y1, y2, y3, y4⟩ := G
    clear hq
    go_wp2_with fail
    refine (cmp_int _ _ _ _ _ _ _ _ (k + 62505) (k + 62505) (lo * Q i) (hi' * Q j) _ hs.lo ht.hi).mono ?_
    rintro r w1 ⟨rfl, hb1⟩
    have A := (SpC.mk x0 x1 x2 x3 x4).below hb1
    have G := (SpC.mk y0 y1 y2 y3 y4).below hb1
    replace hs := hs.below hb1
    replace ht := ht.below hb1
    replace hBW := bthen hBW hb1
    clear x0 x1 x2 x3 x4 y0 y1 y2 y3 y4 hb1
    obtain ⟨x0, x1, x2, x3, x4⟩ := A
    obtain ⟨y0, y1, y2, y3, y4⟩ := G
    go_wp2_with fail
    refine (cmp_int _ _ _ _ _ _ _ _ (k + 62505) (k + 62505) (lo' * Q j) (hi * Q i) _ ht.lo hs.hi).mono ?_
    rintro r w2 ⟨rfl, hb2⟩
    replace hBW := bthen hBW hb2
    go_wp2_with fail
    go_ret
    exact ⟨by rw [← unhide HE]; rfl, hBW⟩
  · have c1 : ¬ cmpInt (lo * Q i) (hi' * Q j) ≤ 0 := by unfold cmpInt; rw [if_neg (by omega), if_pos (by omega)]; omega
    have HE := hide (show touB lo hi i lo' hi' j = false by unfold touB; rw [decide_eq_false hq, Bool.false_and])
    obtain ⟨x0, x1, x2, x3, x4⟩ := A
    obtain ⟨y0, y1, y2, y3, y4⟩ := G
    clear hq
    go_wp2_with fail
    refine (cmp_int _ _ _ _ _ _ _ _ (k + 62505) (k + 62505) (lo * Q i) (hi' * Q j) _ hs.lo ht.hi).mono ?_
    rintro r w1 ⟨rfl, hb1⟩
    replace hBW := bthen hBW hb1
    go_wp2_with fail
    go_ret
    exact ⟨by rw [unhide HE]; rfl, hBW⟩
end Go.Proofs.Ytgmnknmjainabaa

namespace Go.Proofs.Ytgmnknmjainabaa
set_option linter.unusedVariables false
set_option linter.unusedSimpArgs false
set_option linter.unnecessarySimpa false
open Go.RowKit
attribute [local go_sem ↓] Go.wp_at_zero Go.wp_at_succ

open Ex in
theorem sure_exp {b Kw ee : Nat} {x : Nat → Rat} {L H : Int} (h : SureOf b (ExpPr x Kw ee) L H) : Iv b (L, H) (Ev x) ∧ L ≤ H ∧ narB L H (Q b) 4 = true ∧ -Q (b + ee) ≤ L ∧ H ≤ Q (b + ee) := by
  obtain ⟨m, lo, hi, ⟨h1, h2, h3, h4, h5⟩, hm, e1, e2, h6⟩ := h
  have h7 := to_width (m := m) h2 h3
  have h8 : L ≤ H := by rw [e1, e2]; omega
  have q := Q_pos m
  have e3 : Q (b + m + ee) = Q (b + ee) * Q m := by rw [← Q_add]; congr 1; omega
  rw [e3] at h4 h5
  have r1 := round_abs (x := lo) (m := Q (b + ee)) (q := Q m) (by omega) (by omega) (by omega)
  have r2 := round_abs (x := hi) (m := Q (b + ee)) (q := Q m) (by omega) (by omega) (by omega)
  refine ⟨?_, h8, ?_, by rw [e1]; exact r1.1, by rw [e2]; exact r2.2.2.2⟩
  · have := Iv.to (B := b) (m := m) h1
    rw [e1, e2]; exact this
  · rcases h6 with h6 | h6
    · exact narB_small h8 (by omega)
    · exact h6
open Ex in
theorem sure_log {b : Nat} {p q : Int} {L H : Int} (h : SureOf b (LogPr b p q) L H) : (∃ l, IsLog l (fun _ => (p : Rat) / (q : Rat)) ∧ Iv b (L, H) l) ∧ L ≤ H ∧ narB L H (Q b) 4 = true ∧ -P 200 ≤ L ∧ H ≤ P 200 := by
  obtain ⟨m, lo, hi, ⟨⟨l, h0, h1⟩, h2, h3, h4, h5⟩, hm, e1, e2, h6⟩ := h
  have h7 := to_width (m := m) h2 h3
  have h8 : L ≤ H := by rw [e1, e2]; omega
  have q := Q_pos m
  rw [show b + m - b = m by omega] at h4 h5
  have r1 := round_abs (x := lo) (m := P 200) (q := Q m) (by omega) (by omega) (by omega)
  have r2 := round_abs (x := hi) (m := P 200) (q := Q m) (by omega) (by omega) (by omega)
  refine ⟨⟨l, h0, ?_⟩, h8, ?_, by rw [e1]; exact r1.1, by rw [e2]; exact r2.2.2.2⟩
  · have := Iv.to (B := b) (m := m) h1
    rw [e1, e2]; exact this
  · rcases h6 with h6 | h6
    · exact narB_small h8 (by omega)
    · exact h6
theorem iv_const (B : Nat) (z : Int) : Iv B (z, z) (fun _ => (z : Rat) / (Q B : Rat)) := Ex.Has.const Rat.le_refl Rat.le_refl
theorem begun_exp {L H : Int} (h : Iv 20 (L, H) (Ex.Ev (fun _ => ((0 : Int) : Rat) / ((1 : Int) : Rat)))) (hn : narB L H (Q 20) 4 = true) (hle : L ≤ H) : 0 < L := by
  have e0 : ((0 : Int) : Rat) / ((1 : Int) : Rat) = 0 := by
    rw [Rat.div_def]; exact Rat.zero_mul _
  rw [e0] at h
  have h1 : Iv 20 (L, H) (fun _ => (Q 20 : Rat) / (Q 20 : Rat)) := by
    refine h.congr (Ex.null_zero.of_eq_from 1 fun M hM => ?_)
    obtain ⟨m, rfl⟩ : ∃ m, M = m + 1 := ⟨M - 1, by omega⟩
    have q := Qr_pos 20
    have e1 : (Q 20 : Rat) / (Q 20 : Rat) = 1 := by rw [Rat.div_def, Rat.mul_inv_cancel _ (by grind)]
    show (Q 20 : Rat) / (Q 20 : Rat) - Ex.E 0 (m + 1) = 0
    rw [e1, Ex.E_zero]; grind
  have t := (iv_const 20 (Q 20)).touch h1
  have q20 : Q 20 = 1048576 := rfl
  rw [q20] at t hn
  simp only [] at t
  unfold narB at hn
  rw [decide_eq_true_iff] at hn
  refine Int.not_le.1 fun hL => ?_
  have hm : maxZ H (-L) ≤ H - L := by unfold maxZ; split <;> omega
  omega
theorem begun_log {L H : Int} (h : ∃ l, Ex.IsLog l (fun _ => ((1 : Int) : Rat) / ((1 : Int) : Rat)) ∧ Iv 20 (L, H) l) : L ≤ 0 ∧ 0 ≤ H := by
  obtain ⟨l, h1, h2⟩ := h
  have e0 : (fun _ : Nat => ((1 : Int) : Rat) / ((1 : Int) : Rat)) = fun _ => (1 : Rat) := funext fun _ => by rw [Rat.div_def]; exact Rat.mul_inv_cancel _ (by decide)
  rw [e0] at h1
  have hn := h1.uniq Ex.isLog_one
  have h3 : Iv 20 (L, H) (fun _ => ((0 : Int) : Rat) / (Q 20 : Rat)) := by
    refine h2.congr (hn.neg.of_eq fun M => ?_)
    have e1 : ((0 : Int) : Rat) / (Q 20 : Rat) = 0 := by rw [Rat.div_def]; exact Rat.zero_mul _
    rw [e1]; grind
  have t1 := (iv_const 20 0).touch h3
  have t2 := h3.touch (iv_const 20 0)
  have q20 : Q 20 = 1048576 := rfl
  rw [q20] at t1 t2
  simp only [] at t1 t2
  omega
theorem Iv.touch_le2 {B : Nat} {a b : Int × Int} {x y : Nat → Rat} (h : Iv B a x) (k : Iv B b y) (hxy : ∀ e : Rat, 0 < e → ∃ N, ∀ M, N ≤ M → x M ≤ y M + e) : a.1 ≤ b.2 := by
  have q := Qr_pos B
  have t : (a.1 : Rat) / (Q B : Rat) ≤ (b.2 : Rat) / (Q B : Rat) := by
    refine Rat.not_lt.1 fun hn => ?_
    obtain ⟨N, h1⟩ := h (((a.1 : Rat) / (Q B : Rat) - (b.2 : Rat) / (Q B : Rat)) / 4) (by grind)
    obtain ⟨N', h2⟩ := k (((a.1 : Rat) / (Q B : Rat) - (b.2 : Rat) / (Q B : Rat)) / 4) (by grind)
    obtain ⟨N2, h3⟩ := hxy (((a.1 : Rat) / (Q B : Rat) - (b.2 : Rat) / (Q B : Rat)) / 4) (by grind)
    have g1 := h1 (N + N' + N2) (by omega)
    have g2 := h2 (N + N' + N2) (by omega)
    have g3 := h3 (N + N' + N2) (by omega)
    generalize (a.1 : Rat) / (Q B : Rat) = U at *
    generalize (b.2 : Rat) / (Q B : Rat) = V at *
    grind
  have e1 := Ex.rdm (a := (a.1 : Rat)) q
  have e2 := Ex.rdm (a := (b.2 : Rat)) q
  have : ((a.1 : Int) : Rat) ≤ ((b.2 : Int) : Rat) := by
    generalize (a.1 : Rat) / (Q B : Rat) = U at *
    generalize (b.2 : Rat) / (Q B : Rat) = V at *
    rw [← e1, ← e2]
    have := Rat.mul_nonneg (show 0 ≤ V - U by grind) (Rat.le_of_lt q)
    grind
  exact_mod_cast this
theorem cmp_pos {x : Int} (h : 0 < x) : 0 < cmpInt x 0 := by unfold cmpInt; rw [if_neg (by omega), if_pos (by omega)]; omega
theorem cmp_npos {x : Int} (h : x ≤ 0) : cmpInt x 0 ≤ 0 := by unfold cmpInt; split <;> (try split) <;> omega
theorem cmp_nneg {x : Int} (h : 0 ≤ x) : 0 ≤ cmpInt x 0 := by unfold cmpInt; rw [if_neg (by omega)]; split <;> omega

set_option maxRecDepth 100000 in
set_option maxHeartbeats 4000000 in
theorem powerBegun_any (w : World) : Calls Try.prog 57 #[] w fun r w' => r = .returned (.bool true) ∧ Below w.heap.size w w' := by
  go_enter Try.func57, Try.ntmps57
  go_wp2_with fail
  refine (powerExp_ok 0 1 20 _ ⟨by omega, by omega, by omega, by omega⟩ (by omega) (by omega) 0 9 (by omega) (by omega) (by omega) (by decide) (by omega)).mono ?_
  rintro r' w1 ⟨L, H, hLH, s, rfl, hsb, hs, hb1⟩
  obtain ⟨g1, g2, g3, g4, g5⟩ := sure_exp hLH
  have hL := begun_exp g1 g3 g2
  have HSB := hide hsb
  clear hLH g1 g3 g4 g5 hsb
  obtain ⟨V, hV⟩ : ∃ V, V = w1.alloc (.cells #[.bool s.ln, .slice s.la s.lN s.lc, .bool s.hn, .slice s.ha s.hN s.hc, .int .i64 s.bits] 26) := ⟨_, rfl⟩
  have bV : Below w1.heap.size w1 V := by rw [hV]; exact bl1 _ _
  have S : SpC V w1.heap.size s := by rw [hV]; exact spc_new w1 s _
  replace hs := hs.below bV
  have hB : Below w.heap.size w V := bthen hb1 bV
  clear hb1 bV
  go_wp2_with fail
  rw [← hV]
  clear hV
  refine (powerLog_ok 1 1 20 _ ⟨by omega, by omega, by omega, by omega⟩ (by omega) (by omega) (by omega)).mono ?_
  rintro r' w2 ⟨L2, H2, hLH2, t, rfl, htb, ht, hb2⟩
  obtain ⟨f1, f2, f3, f4, f5⟩ := sure_log hLH2
  obtain ⟨k1, k2⟩ := begun_log f1
  have HTB := hide htb
  clear hLH2 f1 f3 f4 f5 htb
  replace S := S.below hb2
  replace hs := hs.below hb2
  replace hB := bthen hB hb2
  clear hb2
  obtain ⟨V2, hV2⟩ : ∃ V2, V2 = w2.alloc (.cells #[.bool t.ln, .slice t.la t.lN t.lc, .bool t.hn, .slice t.ha t.hN t.hc, .int .i64 t.bits] 26) := ⟨_, rfl⟩
  have bV2 : Below w2.heap.size w2 V2 := by rw [hV2]; exact bl1 _ _
  have T : SpC V2 w2.heap.size t := by rw [hV2]; exact spc_new w2 t _
  have lS := S.lt
  have x0 := S.c0
  have x1 := S.c1
  have x4 := S.c4
  rw [unhide HSB] at x4
  replace S := S.below bV2
  replace hs := hs.below bV2
  replace ht := ht.below bV2
  replace hB := bthen hB bV2
  clear bV2
  have c1 := cmp_pos hL
  have c2 := cmp_npos k1
  have c3 := cmp_nneg k2
  go_wp2_with fail
  rw [← hV2]
  clear hV2 x0 x1 x4
  refine (sign_int _ _ _ _ 250 L _ hs.lo).mono ?_
  rintro r' w3 ⟨rfl, hb3⟩
  replace T := T.below hb3
  replace ht := ht.below hb3
  replace hB := bthen hB hb3
  clear hb3
  have y0 := T.c0
  have y1 := T.c1
  go_wp2_with fail
  refine (sign_int _ _ _ _ 250 L2 _ ht.lo).mono ?_
  rintro r' w4 ⟨rfl, hb4⟩
  replace T := T.below hb4
  replace ht := ht.below hb4
  replace hB := bthen hB hb4
  clear hb4 y0 y1
  have y2 := T.c2
  have y3 := T.c3
  go_wp2_with fail
  refine (sign_int _ _ _ _ 250 H2 _ ht.hi).mono ?_
  rintro r' w5 ⟨rfl, hb5⟩
  replace T := T.below hb5
  replace hB := bthen hB hb5
  clear hb5 y2 y3
  have y4 := T.c4
  rw [unhide HTB] at y4
  go_wp2_with fail
  go_ret
  exact ⟨by simp, hB⟩

set_option maxRecDepth 100000 in
set_option maxHeartbeats 2000000 in
theorem lawTouch_int (w : World) (s t : Sp) (k : Nat) (lo hi lo' hi' : Int) (hs : SpAt w s k lo hi) (ht : SpAt w t k lo' hi') (hk : k ≤ 300000000) (s0 : 0 ≤ s.bits) (s1 : s.bits ≤ 1000000) (hst : t.bits = s.bits) :
    Calls Try.prog 66 #[.agg #[.bool s.ln, .slice s.la s.lN s.lc, .bool s.hn, .slice s.ha s.hN s.hc, .int .i64 s.bits], .agg #[.bool t.ln, .slice t.la t.lN t.lc, .bool t.hn, .slice t.ha t.hN t.hc, .int .i64 t.bits]] w fun r w' => r = .returned (.bool (touB lo hi 0 lo' hi' 0)) ∧ Below w.heap.size w w' := by
  obtain ⟨W, hW⟩ : ∃ W, W = (w.alloc (.cells #[.bool s.ln, .slice s.la s.lN s.lc, .bool s.hn, .slice s.ha s.hN s.hc, .int .i64 s.bits] 26)).alloc (.cells #[.bool t.ln, .slice t.la t.lN t.lc, .bool t.hn, .slice t.ha t.hN t.hc, .int .i64 t.bits] 26) := ⟨_, rfl⟩
  have hBW : Below w.heap.size w W := by rw [hW]; exact bl2 _ _ _
  have A : SpC W w.heap.size s := by rw [hW]; exact ⟨by simp [go_sem], by simp [go_sem], by simp [go_sem], by simp [go_sem], by simp [go_sem]⟩
  have C : SpC W (w.heap.size + 1) t := by rw [hW]; exact ⟨by simp [go_sem], by simp [go_sem], by simp [go_sem], by simp [go_sem], by simp [go_sem]⟩
  have HS := hide (hs.below hBW)
  have HT := hide (ht.below hBW)
  have HST := hide hst
  have HK := hide (show ∀ w', Below W.heap.size W w' → (w'.cell? ⟨w.heap.size, 0, none⟩ = some (.bool s.ln) ∧ w'.cell? ⟨w.heap.size, 1, none⟩ = some (.slice s.la s.lN s.lc) ∧ w'.cell? ⟨w.heap.size, 2, none⟩ = some (.bool s.hn) ∧ w'.cell? ⟨w.heap.size, 3, none⟩ = some (.slice s.ha s.hN s.hc) ∧ w'.cell? ⟨w.heap.size, 4, none⟩ = some (.int .i64 s.bits) ∧ w'.cell? ⟨w.heap.size + 1, 0, none⟩ = some (.bool t.ln) ∧ w'.cell? ⟨w.heap.size + 1, 1, none⟩ = some (.slice t.la t.lN t.lc) ∧ w'.cell? ⟨w.heap.size + 1, 2, none⟩ = some (.bool t.hn) ∧ w'.cell? ⟨w.heap.size + 1, 3, none⟩ = some (.slice t.ha t.hN t.hc) ∧ w'.cell? ⟨w.heap.size + 1, 4, none⟩ = some (.int .i64 t.bits)) from fun w' hB => ⟨(A.below hB).c0, (A.below hB).c1, (A.below hB).c2, (A.below hB).c3, (A.below hB).c4, (C.below hB).c0, (C.below hB).c1, (C.below hB).c2, (C.below hB).c3, (C.below hB).c4⟩)
  clear A C hs ht hst
  go_enter Try.func66, Try.ntmps66
  go_wp2
  rw [← hW]
  clear hW
  obtain ⟨x0, x1, x2, x3, x4, y0, y1, y2, y3, y4⟩ := unhide HK _ (Below.refl _ _)
  have hD0 : Below W.heap.size W W.drew := (Below.refl _ _).drew
  go_region_held3 (fun w' => w'.cell? ⟨w.heap.size, 0, none⟩ = some (.bool s.ln) ∧ w'.cell? ⟨w.heap.size, 1, none⟩ = some (.slice s.la s.lN s.lc) ∧ w'.cell? ⟨w.heap.size, 2, none⟩ = some (.bool s.hn) ∧ w'.cell? ⟨w.heap.size, 3, none⟩ = some (.slice s.ha s.hN s.hc) ∧ w'.cell? ⟨w.heap.size, 4, none⟩ = some (.int .i64 s.bits) ∧ w'.cell? ⟨w.heap.size + 1, 0, none⟩ = some (.bool t.ln) ∧ w'.cell? ⟨w.heap.size + 1, 1, none⟩ = some (.slice t.la t.lN t.lc) ∧ w'.cell? ⟨w.heap.size + 1, 2, none⟩ = some (.bool t.hn) ∧ w'.cell? ⟨w.heap.size + 1, 3, none⟩ = some (.slice t.ha t.hN t.hc) ∧ w'.cell? ⟨w.heap.size + 1, 4, none⟩ = some (.int .i64 t.bits)) (first | exact unhide HK _ (by first | with_reducible exact hD0 | with_reducible exact hD3 | with_reducible exact hD2 | with_reducible exact hD1) | go_keep)
    (first
      | (go_at_call 113; have hq := hD2; refine (touch_le _ s t k 0 0 lo hi lo' hi' ((unhide HS).below hD2) ((unhide HT).below hD2) hk s0 s1 (by have := unhide HST; omega) (by have := unhide HST; omega) (by have := unhide HST; omega) (by omega) (by have := unhide HST; omega)).mono ?_; rintro r' w3 ⟨rfl, hb3⟩; have hD3 := bthen hD2 hb3)
      | (go_at_call 23; have hq := hD1; refine (refOf_any _ t).mono ?_; rintro r' w2 ⟨rfl, hb2⟩; have hD2 := bthen hD1 hb2)
      | (go_at_call 23; refine (refOf_any _ s).mono ?_; rintro r' w1 ⟨rfl, hb1⟩; have hD1 := bthen hD0 hb1))
  all_goals
    go_wp2_with fail
    go_ret
    exact ⟨rfl, bthen hBW hD3⟩

theorem choose_mod (c n : Int) (w : World) (h1 : -9223372036854775808 ≤ c) (h2 : c ≤ 9223372036854775807) (hn : 1 ≤ n) (hn2 : n ≤ 1000000) :
    Calls Try.prog 65 #[.int .i64 c, .int .i64 n] w fun r w' => ∃ z : Int, r = .returned (.int .i64 z) ∧ 0 ≤ z ∧ z < n ∧ Below w.heap.size w w' := by
  have hn0 : n ≠ 0 := by omega
  by_cases hc : c < 0
  · have hv : -((c + 1).tmod n) = (-(c + 1)) % n := by rw [← Int.neg_tmod, Int.tmod_eq_emod_of_nonneg (by omega)]
    have HV := hide (show 0 ≤ -((c + 1).tmod n) ∧ -((c + 1).tmod n) < n by rw [hv]; exact ⟨Int.emod_nonneg _ hn0, Int.emod_lt_of_pos _ (by omega)⟩)
    have HV2 := hide (show 0 ≤ (-(c + 1)) % n ∧ (-(c + 1)) % n < n from ⟨Int.emod_nonneg _ hn0, Int.emod_lt_of_pos _ (by omega)⟩)
    clear hv
    go_enter Try.func65, Try.ntmps65
    go_wp2_with fail
    go_ret
    first
      | exact ⟨_, rfl, (unhide HV).1, (unhide HV).2, Below.refl _ _⟩
      | exact ⟨_, rfl, (unhide HV2).1, (unhide HV2).2, Below.refl _ _⟩
  · have hv : c.tmod n = c % n := Int.tmod_eq_emod_of_nonneg (by omega)
    have HV := hide (show 0 ≤ c.tmod n ∧ c.tmod n < n by rw [hv]; exact ⟨Int.emod_nonneg _ hn0, Int.emod_lt_of_pos _ (by omega)⟩)
    have HV2 := hide (show 0 ≤ c % n ∧ c % n < n from ⟨Int.emod_nonneg _ hn0, Int.emod_lt_of_pos _ (by omega)⟩)
    clear hv
    go_enter Try.func65, Try.ntmps65
    go_wp2_with fail
    go_ret
    first
      | exact ⟨_, rfl, (unhide HV).1, (unhide HV).2, Below.refl _ _⟩
      | exact ⟨_, rfl, (unhide HV2).1, (unhide HV2).2, Below.refl _ _⟩
end Go.Proofs.Ytgmnknmjainabaa

namespace Go.Proofs.Ytgmnknmjainabaa
set_option linter.unusedVariables false
set_option linter.unusedSimpArgs false
set_option linter.unnecessarySimpa false
open Go.RowKit
attribute [local go_sem ↓] Go.wp_at_zero Go.wp_at_succ

theorem chk_sp {w : World} {s : Sp} {k : Nat} {lo hi : Int} (h : SpAt w s k lo hi) (hk : k ≤ 250) (hle : lo ≤ hi) (h1 : 1 ≤ s.bits) (h2 : s.bits ≤ 120) : ∃ d e, SpDig w s d e ∧ chkE s d e = 0 ∧ lo = loZ s d ∧ hi = hiZ s e := by
  obtain ⟨⟨d, p1, p2, p3, p4, p5⟩, ⟨e, r1, r2, r3, r4, r5⟩⟩ := h
  refine ⟨d, e, ⟨p1, r1⟩, ?_, p5, r5⟩
  have l1 := lenZ_le s.lN d
  have l2 := lenZ_le s.hN e
  have g1 : rightB s.ln s.lN d ≠ false := by
    unfold rightB
    by_cases h0 : s.lN = 0
    · simp [h0, p3 h0]
    · rw [if_neg h0]; simpa using (show d (s.lN - 1) ≠ 0 by omega)
  have g2 : rightB s.hn s.hN e ≠ false := by
    unfold rightB
    by_cases h0 : s.hN = 0
    · simp [h0, r3 h0]
    · rw [if_neg h0]; simpa using (show e (s.hN - 1) ≠ 0 by omega)
  have g3 : ¬ 0 < cmpI s.ln s.hn d e s.lN s.hN := by
    rw [sgn_nonneg_lt p1.dgs r1.dgs s.ln s.hn s.lN s.hN p2 r2 p3 r3, ← p5, ← r5]
    exact cmpInt_le0 (by omega)
  unfold chkE
  rw [if_neg (by omega), if_neg (fun q => q.elim g1 g2), if_neg (by omega), if_neg g3]
theorem flt_ok {s t : Sp} {d e d' e' : Nat → Int} (h1 : chkE s d e = 0) (h2 : chkE t d' e' = 0) (h3 : s.bits = t.bits) : fltE2 (chkE s d e) (chkE t d' e') s.bits t.bits = 0 := by
  unfold fltE2; rw [h1, h2, h3]; simp
theorem small_fit {lo hi M : Int} (hM : M < Q 4000) (h : Abs (lo, hi) M) : fitE lo hi = 0 ∧ ∀ z, fitZ lo hi z = z := by
  obtain ⟨h1, h2, h3, h4⟩ := h
  simp only [] at h1 h2 h3 h4
  rcases fit_cases lo hi with ⟨f1, _, _⟩ | ⟨_, f2, f3⟩
  · exfalso
    rcases f1 with f1 | f1 <;> rcases f1 with f1 | f1 <;> omega
  · exact ⟨f2, f3⟩
theorem spanMul_iv (w : World) (s t : Sp) (b : Nat) (a c : Int × Int) (hs : SpAt w s 250 a.1 a.2) (ht : SpAt w t 250 c.1 c.2) (h1 : s.bits = (b : Int)) (h2 : t.bits = (b : Int)) (hb1 : 1 ≤ b) (hb2 : b ≤ 120) (la : a.1 ≤ a.2) (lc : c.1 ≤ c.2) {M : Int} (hM : M < Q 4000) (hf : Abs (mulI b a c) M) :
    Calls Try.prog 29 #[.agg #[.bool s.ln, .slice s.la s.lN s.lc, .bool s.hn, .slice s.ha s.hN s.hc, .int .i64 s.bits], .agg #[.bool t.ln, .slice t.la t.lN t.lc, .bool t.hn, .slice t.ha t.hN t.hc, .int .i64 t.bits]] w (PairAns w b 600 (mulI b a c).1 (mulI b a c).2 0) := by
  obtain ⟨d, e, g1, g2, g3, g4⟩ := chk_sp hs (by omega) la (by omega) (by omega)
  obtain ⟨d', e', f1, f2, f3, f4⟩ := chk_sp ht (by omega) lc (by omega) (by omega)
  have hS := saidMul s t d e d' e' (flt_ok g2 f2 (by omega)) a.1 a.2 c.1 c.2 g3 g4 f3 f4 w g1 f1
  obtain ⟨k1, k2⟩ := small_fit (lo := (mulI b a c).1) (hi := (mulI b a c).2) hM hf
  refine hS.mono fun r w' h => ?_
  rw [h1, downZ_nat, downZ_nat] at h
  have e1 : leastZ (pr4 (a.1 * c.1) (a.1 * c.2) (a.2 * c.1) (a.2 * c.2)) 3 / Q b = (mulI b a c).1 := rfl
  have e2 : -(-(mostZ (pr4 (a.1 * c.1) (a.1 * c.2) (a.2 * c.1) (a.2 * c.2)) 3) / Q b) = (mulI b a c).2 := rfl
  rw [e1, e2, k1, k2, k2, k2] at h
  exact h
theorem spanAdd_iv (w : World) (s t : Sp) (b : Nat) (a c : Int × Int) (hs : SpAt w s 250 a.1 a.2) (ht : SpAt w t 250 c.1 c.2) (h1 : s.bits = (b : Int)) (h2 : t.bits = (b : Int)) (hb1 : 1 ≤ b) (hb2 : b ≤ 120) (la : a.1 ≤ a.2) (lc : c.1 ≤ c.2) {M : Int} (hM : M < Q 4000) (hf : Abs (addI a c) M) :
    Calls Try.prog 27 #[.agg #[.bool s.ln, .slice s.la s.lN s.lc, .bool s.hn, .slice s.ha s.hN s.hc, .int .i64 s.bits], .agg #[.bool t.ln, .slice t.la t.lN t.lc, .bool t.hn, .slice t.ha t.hN t.hc, .int .i64 t.bits]] w (PairAns w b 600 (addI a c).1 (addI a c).2 0) := by
  obtain ⟨d, e, g1, g2, g3, g4⟩ := chk_sp hs (by omega) la (by omega) (by omega)
  obtain ⟨d', e', f1, f2, f3, f4⟩ := chk_sp ht (by omega) lc (by omega) (by omega)
  have hS := saidAdd s t d e d' e' (flt_ok g2 f2 (by omega)) a.1 a.2 c.1 c.2 g3 g4 f3 f4 w g1 f1
  obtain ⟨k1, k2⟩ := small_fit (lo := (addI a c).1) (hi := (addI a c).2) hM hf
  refine hS.mono fun r w' h => ?_
  have e1 : a.1 + c.1 = (addI a c).1 := rfl
  have e2 : a.2 + c.2 = (addI a c).2 := rfl
  rw [e1, e2, k1, k2, k2, k2, h1] at h
  exact h
open Ex in
theorem sums_touch {b : Nat} {A C q : Int} {u v z : Int × Int} (hq : 0 < q) (h1 : Iv b u (Ev (fun _ => (A : Rat) / (q : Rat)))) (h2 : Iv b v (Ev (fun _ => (C : Rat) / (q : Rat)))) (h3 : Iv b z (Ev (fun _ => ((A + C : Int) : Rat) / (q : Rat)))) : touB (mulI b u v).1 (mulI b u v).2 0 z.1 z.2 0 = true := by
  have hm := h1.mul h2
  have n := Ev_add (Bdd.const ((A : Rat) / (q : Rat))) (Bdd.const ((C : Rat) / (q : Rat)))
  have e : (fun _ : Nat => (A : Rat) / (q : Rat) + (C : Rat) / (q : Rat)) = fun _ => ((A + C : Int) : Rat) / (q : Rat) := funext fun _ => by rw [Rat.intCast_add, rdiv_add]
  rw [e] at n
  have hz : Iv b (mulI b u v) (Ev (fun _ => ((A + C : Int) : Rat) / (q : Rat))) := hm.congr (n.neg.of_eq fun M => by grind)
  have t1 := hz.touch h3
  have t2 := h3.touch hz
  have q := Q_pos b
  have c1 : (mulI b u v).1 ≤ z.2 := Int.le_of_mul_le_mul_right t1 (by omega)
  have c2 : z.1 ≤ (mulI b u v).2 := Int.le_of_mul_le_mul_right t2 (by omega)
  unfold touB
  simp [Q, c1, c2]
open Ex in
theorem sums_mono {b : Nat} {A C q : Int} {u v : Int × Int} (hq : 0 < q) (h : A ≤ C) (h1 : Iv b u (Ev (fun _ => (A : Rat) / (q : Rat)))) (h2 : Iv b v (Ev (fun _ => (C : Rat) / (q : Rat)))) : u.1 ≤ v.2 := by
  have hq' : (0 : Rat) < (q : Rat) := by exact_mod_cast hq
  have hle : (A : Rat) / (q : Rat) ≤ (C : Rat) / (q : Rat) := rdiv_le hq' (by rw [rdm hq']; exact cast_le h)
  obtain ⟨z, hz, N, hN⟩ := Ev_mono (Bdd.const ((A : Rat) / (q : Rat))) (Bdd.const ((C : Rat) / (q : Rat))) null_zero 0 (fun M _ => by grind)
  exact h1.touch_le h2 hz N hN

set_option maxRecDepth 100000 in
set_option maxHeartbeats 4000000 in
theorem law_powerSums (a0 b0 d0 t0 : Int) (w : World) (ha : -9223372036854775808 ≤ a0 ∧ a0 ≤ 9223372036854775807) (hb : -9223372036854775808 ≤ b0 ∧ b0 ≤ 9223372036854775807) (hd : -9223372036854775808 ≤ d0 ∧ d0 ≤ 9223372036854775807) (ht : -9223372036854775808 ≤ t0 ∧ t0 ≤ 9223372036854775807) :
    Calls Try.prog 12 #[.int .i64 a0, .int .i64 b0, .int .i64 d0, .int .i64 t0] w fun z w' => z = .returned (.bool true) ∧ Below w.heap.size w w' := by
  go_enter Try.func12, Try.ntmps12
  go_wp2_with fail
  refine (powerBegun_any _).mono ?_
  rintro r' wa ⟨rfl, hB⟩
  go_wp2_with fail
  refine (spanBegun_any _).mono ?_
  rintro r' wb ⟨rfl, hb1⟩
  replace hB := bthen hB hb1
  clear hb1
  go_wp2_with fail
  refine (choose_mod a0 2001 _ ha.1 ha.2 (by omega) (by omega)).mono ?_
  rintro r' wc ⟨z1, rfl, z10, z11, hb1⟩
  replace hB := bthen hB hb1
  clear hb1
  go_wp2_with fail
  refine (choose_mod b0 2001 _ hb.1 hb.2 (by omega) (by omega)).mono ?_
  rintro r' wd ⟨z2, rfl, z20, z21, hb1⟩
  replace hB := bthen hB hb1
  clear hb1
  go_wp2_with fail
  refine (choose_mod d0 20 _ hd.1 hd.2 (by omega) (by omega)).mono ?_
  rintro r' we ⟨z3, rfl, z30, z31, hb1⟩
  replace hB := bthen hB hb1
  clear hb1
  go_wp2_with fail
  refine (choose_mod t0 113 _ ht.1 ht.2 (by omega) (by omega)).mono ?_
  rintro r' wf ⟨z4, rfl, z40, z41, hb1⟩
  replace hB := bthen hB hb1
  clear hb1
  go_wp2_with fail
  obtain ⟨A, hA⟩ : ∃ A, A = z1 - 1000 := ⟨_, rfl⟩
  obtain ⟨C, hC⟩ : ∃ C, C = z2 - 1000 := ⟨_, rfl⟩
  obtain ⟨D, hD⟩ : ∃ D, D = 1 + z3 := ⟨_, rfl⟩
  obtain ⟨bt, hbt⟩ : ∃ bt : Nat, (bt : Int) = 8 + z4 := ⟨(8 + z4).toNat, by omega⟩
  rw [← hA, ← hC, ← hD, ← hbt]
  have a1 : -1000 ≤ A := by omega
  have a2 : A ≤ 1000 := by omega
  have c1 : -1000 ≤ C := by omega
  have c2 : C ≤ 1000 := by omega
  have d1 : 1 ≤ D := by omega
  have d2 : D ≤ 20 := by omega
  have e1 : 8 ≤ bt := by omega
  have e2 : bt ≤ 120 := by omega
  have hq : 0 < D * 10 := by omega
  clear hA hC hD hbt z10 z11 z20 z21 z30 z31 z40 z41
  refine (powerExp_ok A (D * 10) bt _ ⟨by omega, by omega, by omega, by omega⟩ (by omega) (by omega) 100 7 (by omega) (by omega) (by omega) (by decide) (by omega)).mono ?_
  rintro r' w1 ⟨L1, H1, hLH1, s1, rfl, hsb1, hs1, hb1⟩
  have HU1 := hide (sure_exp hLH1)
  have HB1 := hide hsb1
  clear hLH1 hsb1
  replace hB := bthen hB hb1
  clear hb1
  obtain ⟨V1, hV1⟩ : ∃ V1, V1 = w1.alloc (.cells #[.bool s1.ln, .slice s1.la s1.lN s1.lc, .bool s1.hn, .slice s1.ha s1.hN s1.hc, .int .i64 s1.bits] 26) := ⟨_, rfl⟩
  have bV1 : Below w1.heap.size w1 V1 := by rw [hV1]; exact bl1 _ _
  have S1 : SpC V1 w1.heap.size s1 := by rw [hV1]; exact spc_new w1 s1 _
  replace hs1 := hs1.below bV1
  replace hB := bthen hB bV1
  clear bV1
  go_wp2_with fail
  rw [← hV1]
  clear hV1
  refine (powerExp_ok C (D * 10) bt _ ⟨by omega, by omega, by omega, by omega⟩ (by omega) (by omega) 100 7 (by omega) (by omega) (by omega) (by decide) (by omega)).mono ?_
  rintro r' w2 ⟨L2, H2, hLH2, s2, rfl, hsb2, hs2, hb2⟩
  have HU2 := hide (sure_exp hLH2)
  have HB2 := hide hsb2
  clear hLH2 hsb2
  replace hB := bthen hB hb2
  replace S1 := S1.below hb2
  replace hs1 := hs1.below hb2
  clear hb2
  have l1 := S1.lt
  obtain ⟨V2, hV2⟩ : ∃ V2, V2 = w2.alloc (.cells #[.bool s2.ln, .slice s2.la s2.lN s2.lc, .bool s2.hn, .slice s2.ha s2.hN s2.hc, .int .i64 s2.bits] 26) := ⟨_, rfl⟩
  have bV2 : Below w2.heap.size w2 V2 := by rw [hV2]; exact bl1 _ _
  have S2 : SpC V2 w2.heap.size s2 := by rw [hV2]; exact spc_new w2 s2 _
  replace hs2 := hs2.below bV2
  replace hB := bthen hB bV2
  replace S1 := S1.below bV2
  replace hs1 := hs1.below bV2
  clear bV2
  go_wp2_with fail
  rw [← hV2]
  clear hV2
  refine (powerExp_ok (A + C) (D * 10) bt _ ⟨by omega, by omega, by omega, by omega⟩ (by omega) (by omega) 200 8 (by omega) (by omega) (by omega) (by decide) (by omega)).mono ?_
  rintro r' w3 ⟨L3, H3, hLH3, s3, rfl, hsb3, hs3, hb3⟩
  have HU3 := hide (sure_exp hLH3)
  have HB3 := hide hsb3
  clear hLH3 hsb3
  replace hB := bthen hB hb3
  replace S1 := S1.below hb3
  replace hs1 := hs1.below hb3
  replace S2 := S2.below hb3
  replace hs2 := hs2.below hb3
  clear hb3
  have l13 := S1.lt
  have l23 := S2.lt
  have S1' := S1
  have S2' := S2
  obtain ⟨V3, hV3⟩ : ∃ V3, V3 = w3.alloc (.cells #[.bool s3.ln, .slice s3.la s3.lN s3.lc, .bool s3.hn, .slice s3.ha s3.hN s3.hc, .int .i64 s3.bits] 26) := ⟨_, rfl⟩
  have bV3 : Below w3.heap.size w3 V3 := by rw [hV3]; exact bl1 _ _
  have S3 : SpC V3 w3.heap.size s3 := by rw [hV3]; exact spc_new w3 s3 _
  replace hs3 := hs3.below bV3
  replace hB := bthen hB bV3
  replace S1 := S1.below bV3
  replace hs1 := hs1.below bV3
  replace S2 := S2.below bV3
  replace hs2 := hs2.below bV3
  clear bV3
  obtain ⟨x0, x1, x2, x3, x4⟩ := S1'
  obtain ⟨y0, y1, y2, y3, y4⟩ := S2'
  go_wp2_with fail
  rw [← hV3]
  clear hV3 x0 x1 x2 x3 x4 y0 y1 y2 y3 y4
  have hf : Abs (mulI bt (L1, H1) (L2, H2)) (Q (bt + 768)) := by
    obtain ⟨_, _, _, g4, g5⟩ := unhide HU1
    obtain ⟨_, _, _, k4, k5⟩ := unhide HU2
    have ee : eb (7 + 8) = 384 := by decide
    rw [ee] at g4 g5 k4 k5
    have g6 := (unhide HU1).2.1
    have k6 := (unhide HU2).2.1
    refine mulI_abs (m := Q (bt + 384)) (n := Q (bt + 384)) ⟨g4, by simp only []; omega, by simp only []; omega, g5⟩ ⟨k4, by simp only []; omega, by simp only []; omega, k5⟩ ?_
    rw [← Q_add, ← Q_add]
    exact Q_mono (by omega)
  have hM : Q (bt + 768) < Q 4000 := by
    have h1 := Q_mono (show bt + 768 + 1 ≤ 4000 by omega)
    have h2 : Q (bt + 768 + 1) = 2 * Q (bt + 768) := rfl
    have := Q_pos (bt + 768)
    omega
  refine (spanMul_iv _ s1 s2 bt (L1, H1) (L2, H2) hs1 hs2 (unhide HB1) (unhide HB2) (by omega) e2 (unhide HU1).2.1 (unhide HU2).2.1 hM hf).mono ?_
  rintro r' w4 ⟨s4, rfl, hsb4, hs4, hb4⟩
  have HB4 := hide hsb4
  clear hsb4 hf hM
  replace hB := bthen hB hb4
  replace S1 := S1.below hb4
  replace hs1 := hs1.below hb4
  replace S2 := S2.below hb4
  replace hs2 := hs2.below hb4
  replace S3 := S3.below hb4
  replace hs3 := hs3.below hb4
  clear hb4
  have l14 := S1.lt
  have l24 := S2.lt
  have l34 := S3.lt
  have S3' := S3
  obtain ⟨V4, hV4⟩ : ∃ V4, V4 = w4.alloc (.cells #[.bool s4.ln, .slice s4.la s4.lN s4.lc, .bool s4.hn, .slice s4.ha s4.hN s4.hc, .int .i64 s4.bits] 26) := ⟨_, rfl⟩
  have bV4 : Below w4.heap.size w4 V4 := by rw [hV4]; exact bl1 _ _
  have S4 : SpC V4 w4.heap.size s4 := by rw [hV4]; exact spc_new w4 s4 _
  replace hs4 := hs4.below bV4
  replace hB := bthen hB bV4
  replace S1 := S1.below bV4
  replace hs1 := hs1.below bV4
  replace S2 := S2.below bV4
  replace hs2 := hs2.below bV4
  replace S3 := S3.below bV4
  replace hs3 := hs3.below bV4
  clear bV4
  have HT := hide (sums_touch hq (unhide HU1).1 (unhide HU2).1 (unhide HU3).1)
  obtain ⟨x0, x1, x2, x3, x4⟩ := S3'
  go_wp2_with fail
  rw [← hV4]
  clear hV4 x0 x1 x2 x3 x4
  refine (lawTouch_int _ s4 s3 600 _ _ L3 H3 hs4 (hs3.mono (by omega)) (by omega) (by have := unhide HB4; omega) (by have := unhide HB4; omega) (by have := unhide HB4; have := unhide HB3; omega)).mono ?_
  rintro r' w5 ⟨rfl, hb5⟩
  rw [show touB (mulI bt (L1, H1) (L2, H2)).1 (mulI bt (L1, H1) (L2, H2)).2 0 L3 H3 0 = true from unhide HT]
  replace hB := bthen hB hb5
  replace S1 := S1.below hb5
  replace S2 := S2.below hb5
  replace hs1 := hs1.below hb5
  replace hs2 := hs2.below hb5
  clear hb5
  by_cases hAC : C < A
  · go_wp2_with fail
    go_ret
    exact ⟨rfl, hB⟩
  · have hm := sums_mono hq (show A ≤ C by omega) (unhide HU1).1 (unhide HU2).1
    have hcm : cmpInt L1 H2 ≤ 0 := by
      have hm' : L1 ≤ H2 := hm
      unfold cmpInt; split <;> (try split) <;> omega
    have l15 := S1.lt
    have l25 := S2.lt
    obtain ⟨x0, x1, x2, x3, x4⟩ := S1
    obtain ⟨y0, y1, y2, y3, y4⟩ := S2
    clear hm
    go_wp2_with fail
    refine (cmp_int _ _ _ _ _ _ _ _ _ _ L1 H2 _ hs1.lo hs2.hi).mono ?_
    rintro r' w6 ⟨rfl, hb6⟩
    replace hB := bthen hB hb6
    go_wp2_with fail
    go_ret
    exact ⟨by simp, hB⟩

end Go.Proofs.Ytgmnknmjainabaa

namespace Go.Proofs.Ytgmnknmjainabaa
set_option linter.unusedVariables false
set_option linter.unusedSimpArgs false
set_option linter.unnecessarySimpa false
open Go.RowKit
attribute [local go_sem ↓] Go.wp_at_zero Go.wp_at_succ

open Ex in
theorem back_touch {b : Nat} {A C D : Int} {u v z : Int × Int} (hD : 0 < D) (hA : 0 < A) (hC : 1 ≤ C) (h1 : ∃ l, IsLog l (fun _ => (A : Rat) / (D : Rat)) ∧ Iv b u l) (h2 : ∃ l, IsLog l (fun _ => (C : Rat) / ((1 : Int) : Rat)) ∧ Iv b v l) (h3 : ∃ l, IsLog l (fun _ => ((A * C : Int) : Rat) / (D : Rat)) ∧ Iv b z l) :
    touB (addI u v).1 (addI u v).2 0 z.1 z.2 0 = true ∧ u.1 ≤ z.2 := by
  obtain ⟨l1, i1, j1⟩ := h1
  obtain ⟨l2, i2, j2⟩ := h2
  obtain ⟨l3, i3, j3⟩ := h3
  have hD' : (0 : Rat) < (D : Rat) := by exact_mod_cast hD
  have e1 : (C : Rat) / ((1 : Int) : Rat) = (C : Rat) := by
    have e := rdm (a := (C : Rat)) (show (0 : Rat) < ((1 : Int) : Rat) by decide)
    have e2 : ((1 : Int) : Rat) = 1 := rfl
    rw [e2] at e ⊢
    grind
  have e2 : (A : Rat) / (D : Rat) * ((C : Rat) / ((1 : Int) : Rat)) = ((A * C : Int) : Rat) / (D : Rat) := by
    rw [e1, Rat.intCast_mul, Rat.div_def, Rat.div_def, Rat.mul_assoc, Rat.mul_comm _ (C : Rat), ← Rat.mul_assoc]
  have i4 := (i1.add i2).congr_r (r' := fun _ => ((A * C : Int) : Rat) / (D : Rat)) (null_zero.of_eq fun M => by rw [e2]; grind)
  have n := i4.uniq i3
  have hz : Iv b (addI u v) l3 := (j1.add j2).congr (n.neg.of_eq fun M => by grind)
  have t1 := hz.touch j3
  have t2 := j3.touch hz
  have q := Q_pos b
  have c1 : (addI u v).1 ≤ z.2 := Int.le_of_mul_le_mul_right t1 (by omega)
  have c2 : z.1 ≤ (addI u v).2 := Int.le_of_mul_le_mul_right t2 (by omega)
  refine ⟨by unfold touB; simp [Q, c1, c2], ?_⟩
  refine j1.touch_le2 j3 (fun e he => i1.le i3 null_zero 0 (fun M _ => ?_) e he)
  have h5 : A ≤ A * C := by
    have := Int.mul_le_mul_of_nonneg_left hC (show 0 ≤ A by omega)
    omega
  have h6 : (A : Rat) / (D : Rat) ≤ ((A * C : Int) : Rat) / (D : Rat) := rdiv_le hD' (by rw [rdm hD']; exact cast_le h5)
  grind

set_option maxRecDepth 100000 in
set_option maxHeartbeats 4000000 in
theorem law_powerBack (a0 b0 d0 t0 : Int) (w : World) (ha : -9223372036854775808 ≤ a0 ∧ a0 ≤ 9223372036854775807) (hb : -9223372036854775808 ≤ b0 ∧ b0 ≤ 9223372036854775807) (hd : -9223372036854775808 ≤ d0 ∧ d0 ≤ 9223372036854775807) (ht : -9223372036854775808 ≤ t0 ∧ t0 ≤ 9223372036854775807) :
    Calls Try.prog 13 #[.int .i64 a0, .int .i64 b0, .int .i64 d0, .int .i64 t0] w fun z w' => z = .returned (.bool true) ∧ Below w.heap.size w w' := by
  go_enter Try.func13, Try.ntmps13
  go_wp2_with fail
  refine (powerBegun_any _).mono ?_
  rintro r' wa ⟨rfl, hB⟩
  go_wp2_with fail
  refine (spanBegun_any _).mono ?_
  rintro r' wb ⟨rfl, hb1⟩
  replace hB := bthen hB hb1
  clear hb1
  go_wp2_with fail
  refine (choose_mod a0 1000 _ ha.1 ha.2 (by omega) (by omega)).mono ?_
  rintro r' wz1 ⟨z1, rfl, z10, z11, hb1⟩
  replace hB := bthen hB hb1
  clear hb1
  go_wp2_with fail
  refine (choose_mod b0 1000 _ hb.1 hb.2 (by omega) (by omega)).mono ?_
  rintro r' wz2 ⟨z2, rfl, z20, z21, hb1⟩
  replace hB := bthen hB hb1
  clear hb1
  go_wp2_with fail
  refine (choose_mod d0 1000 _ hd.1 hd.2 (by omega) (by omega)).mono ?_
  rintro r' wz3 ⟨z3, rfl, z30, z31, hb1⟩
  replace hB := bthen hB hb1
  clear hb1
  go_wp2_with fail
  refine (choose_mod t0 113 _ ht.1 ht.2 (by omega) (by omega)).mono ?_
  rintro r' wz4 ⟨z4, rfl, z40, z41, hb1⟩
  replace hB := bthen hB hb1
  clear hb1
  go_wp2_with fail
  obtain ⟨A, hA⟩ : ∃ A, A = 1 + z1 := ⟨_, rfl⟩
  obtain ⟨C, hC⟩ : ∃ C, C = 1 + z2 := ⟨_, rfl⟩
  obtain ⟨D, hD⟩ : ∃ D, D = 1 + z3 := ⟨_, rfl⟩
  obtain ⟨bt, hbt⟩ : ∃ bt : Nat, (bt : Int) = 8 + z4 := ⟨(8 + z4).toNat, by omega⟩
  rw [← hA, ← hC, ← hD, ← hbt]
  have a1 : 1 ≤ A := by omega
  have a2 : A ≤ 1000 := by omega
  have c1 : 1 ≤ C := by omega
  have c2 : C ≤ 1000 := by omega
  have d1 : 1 ≤ D := by omega
  have d2 : D ≤ 1000 := by omega
  have e1 : 8 ≤ bt := by omega
  have e2 : bt ≤ 120 := by omega
  have hAC1 : A * C ≤ 1000000 := Int.le_trans (Int.mul_le_mul a2 c2 (by omega) (by omega)) (by decide)
  have hAC0 : 1 ≤ A * C := Int.le_trans (show (1 : Int) ≤ 1 * 1 by decide) (Int.mul_le_mul a1 c1 (by omega) (by omega))
  clear hA hC hD hbt z10 z11 z20 z21 z30 z31 z40 z41
  refine (powerLog_ok A D bt _ ⟨by omega, by omega, by omega, by omega⟩ (by omega) (by omega) (by omega)).mono ?_
  rintro r' w1 ⟨L1, H1, hLH1, s1, rfl, hsb1, hs1, hb1⟩
  have HU1 := hide (sure_log hLH1)
  have HB1 := hide hsb1
  clear hLH1 hsb1
  replace hB := bthen hB hb1
  clear hb1
  obtain ⟨V1, hV1⟩ : ∃ V1, V1 = w1.alloc (.cells #[.bool s1.ln, .slice s1.la s1.lN s1.lc, .bool s1.hn, .slice s1.ha s1.hN s1.hc, .int .i64 s1.bits] 26) := ⟨_, rfl⟩
  have bV1 : Below w1.heap.size w1 V1 := by rw [hV1]; exact bl1 _ _
  have S1 : SpC V1 w1.heap.size s1 := by rw [hV1]; exact spc_new w1 s1 _
  replace hs1 := hs1.below bV1
  replace hB := bthen hB bV1
  clear bV1
  go_wp2_with fail
  rw [← hV1]
  clear hV1
  refine (powerLog_ok C 1 bt _ ⟨by omega, by omega, by omega, by omega⟩ (by omega) (by omega) (by omega)).mono ?_
  rintro r' w2 ⟨L2, H2, hLH2, s2, rfl, hsb2, hs2, hb2⟩
  have HU2 := hide (sure_log hLH2)
  have HB2 := hide hsb2
  clear hLH2 hsb2
  replace hB := bthen hB hb2
  replace S1 := S1.below hb2
  replace hs1 := hs1.below hb2
  clear hb2
  have l1 := S1.lt
  obtain ⟨V2, hV2⟩ : ∃ V2, V2 = w2.alloc (.cells #[.bool s2.ln, .slice s2.la s2.lN s2.lc, .bool s2.hn, .slice s2.ha s2.hN s2.hc, .int .i64 s2.bits] 26) := ⟨_, rfl⟩
  have bV2 : Below w2.heap.size w2 V2 := by rw [hV2]; exact bl1 _ _
  have S2 : SpC V2 w2.heap.size s2 := by rw [hV2]; exact spc_new w2 s2 _
  replace hs2 := hs2.below bV2
  replace hB := bthen hB bV2
  replace S1 := S1.below bV2
  replace hs1 := hs1.below bV2
  clear bV2
  go_wp2_with fail
  rw [← hV2]
  clear hV2
  refine (powerLog_ok (A * C) D bt _ ⟨by omega, by omega, by omega, by omega⟩ (by omega) (by omega) (by omega)).mono ?_
  rintro r' w3 ⟨L3, H3, hLH3, s3, rfl, hsb3, hs3, hb3⟩
  have HU3 := hide (sure_log hLH3)
  have HB3 := hide hsb3
  clear hLH3 hsb3
  replace hB := bthen hB hb3
  replace S1 := S1.below hb3
  replace hs1 := hs1.below hb3
  replace S2 := S2.below hb3
  replace hs2 := hs2.below hb3
  clear hb3
  have l13 := S1.lt
  have l23 := S2.lt
  have S1' := S1
  have S2' := S2
  obtain ⟨V3, hV3⟩ : ∃ V3, V3 = w3.alloc (.cells #[.bool s3.ln, .slice s3.la s3.lN s3.lc, .bool s3.hn, .slice s3.ha s3.hN s3.hc, .int .i64 s3.bits] 26) := ⟨_, rfl⟩
  have bV3 : Below w3.heap.size w3 V3 := by rw [hV3]; exact bl1 _ _
  have S3 : SpC V3 w3.heap.size s3 := by rw [hV3]; exact spc_new w3 s3 _
  replace hs3 := hs3.below bV3
  replace hB := bthen hB bV3
  replace S1 := S1.below bV3
  replace hs1 := hs1.below bV3
  replace S2 := S2.below bV3
  replace hs2 := hs2.below bV3
  clear bV3
  obtain ⟨x0, x1, x2, x3, x4⟩ := S1'
  obtain ⟨y0, y1, y2, y3, y4⟩ := S2'
  go_wp2_with fail
  rw [← hV3]
  clear hV3 x0 x1 x2 x3 x4 y0 y1 y2 y3 y4
  have hf : Abs (addI (L1, H1) (L2, H2)) (P 200 + P 200) := by
    obtain ⟨_, g6, _, g4, g5⟩ := unhide HU1
    obtain ⟨_, k6, _, k4, k5⟩ := unhide HU2
    exact Abs.add ⟨g4, by simp only []; omega, by simp only []; omega, g5⟩ ⟨k4, by simp only []; omega, by simp only []; omega, k5⟩
  have hM : P 200 + P 200 < Q 4000 := by
    have h1 := Q_mono (show 16 * 200 + 2 ≤ 4000 by omega)
    have h2 : Q (16 * 200 + 2) = 2 * (2 * Q (16 * 200)) := rfl
    rw [Q_P] at h2
    have := P_pos 200
    omega
  refine (spanAdd_iv _ s1 s2 bt (L1, H1) (L2, H2) hs1 hs2 (unhide HB1) (unhide HB2) (by omega) e2 (unhide HU1).2.1 (unhide HU2).2.1 hM hf).mono ?_
  rintro r' w4 ⟨s4, rfl, hsb4, hs4, hb4⟩
  have HB4 := hide hsb4
  clear hsb4 hf hM
  replace hB := bthen hB hb4
  replace S1 := S1.below hb4
  replace hs1 := hs1.below hb4
  replace S2 := S2.below hb4
  replace hs2 := hs2.below hb4
  replace S3 := S3.below hb4
  replace hs3 := hs3.below hb4
  clear hb4
  have l34 := S3.lt
  have S3' := S3
  obtain ⟨V4, hV4⟩ : ∃ V4, V4 = w4.alloc (.cells #[.bool s4.ln, .slice s4.la s4.lN s4.lc, .bool s4.hn, .slice s4.ha s4.hN s4.hc, .int .i64 s4.bits] 26) := ⟨_, rfl⟩
  have bV4 : Below w4.heap.size w4 V4 := by rw [hV4]; exact bl1 _ _
  have S4 : SpC V4 w4.heap.size s4 := by rw [hV4]; exact spc_new w4 s4 _
  replace hs4 := hs4.below bV4
  replace hB := bthen hB bV4
  replace S1 := S1.below bV4
  replace hs1 := hs1.below bV4
  replace S2 := S2.below bV4
  replace hs2 := hs2.below bV4
  replace S3 := S3.below bV4
  replace hs3 := hs3.below bV4
  clear bV4
  have HT := hide (back_touch (show 0 < D by omega) (show 0 < A by omega) c1 (unhide HU1).1 (unhide HU2).1 (unhide HU3).1)
  have hcm : cmpInt L1 H3 ≤ 0 := by
    have hm' : L1 ≤ H3 := (unhide HT).2
    unfold cmpInt; split <;> (try split) <;> omega
  obtain ⟨x0, x1, x2, x3, x4⟩ := S3'
  go_wp2_with fail
  rw [← hV4]
  clear hV4 x0 x1 x2 x3 x4
  refine (lawTouch_int _ s4 s3 600 _ _ L3 H3 hs4 (hs3.mono (by omega)) (by omega) (by have := unhide HB4; omega) (by have := unhide HB4; omega) (by have := unhide HB4; have := unhide HB3; omega)).mono ?_
  rintro r' w5 ⟨rfl, hb5⟩
  rw [show touB (addI (L1, H1) (L2, H2)).1 (addI (L1, H1) (L2, H2)).2 0 L3 H3 0 = true from (unhide HT).1]
  replace hB := bthen hB hb5
  replace S1 := S1.below hb5
  replace S3 := S3.below hb5
  replace hs1 := hs1.below hb5
  replace hs3 := hs3.below hb5
  clear hb5
  have l15 := S1.lt
  have l25 := S3.lt
  obtain ⟨x0, x1, x2, x3, x4⟩ := S1
  obtain ⟨y0, y1, y2, y3, y4⟩ := S3
  go_wp2_with fail
  refine (cmp_int _ _ _ _ _ _ _ _ _ _ L1 H3 _ hs1.lo hs3.hi).mono ?_
  rintro r' w6 ⟨rfl, hb6⟩
  replace hB := bthen hB hb6
  go_wp2_with fail
  go_ret
  exact ⟨by simp, hB⟩
end Go.Proofs.Ytgmnknmjainabaa

namespace Go.Proofs.Ytgmnknmjainabaa
set_option linter.unusedVariables false
set_option linter.unusedSimpArgs false
set_option linter.unnecessarySimpa false
open Go.ChangeShapes Go.WideShapes Go.ChangeAt Go.RowKit

theorem Try.own : ownKnob Try.prog.godebug = none := by kernel_rfl
theorem Try.laidOut : laidOutB Try.prog = true := by kernel_rfl
theorem Try.cellsSpan : Try.prog.cellsOf 26 = 5 := by kernel_rfl
theorem Try.cellsInt : Try.prog.cellsOf 24 = 2 := by kernel_rfl
theorem Try.cellsI : Try.prog.cellsOf 3 = 1 := by kernel_rfl
theorem Try.cellsB : Try.prog.cellsOf 4 = 1 := by kernel_rfl
theorem Try.cellsDs : Try.prog.cellsOf 22 = 1 := by kernel_rfl
theorem Try.cellsD : Try.prog.cellsOf 96 = 1 := by kernel_rfl
theorem Try.bytesD : Try.prog.bytesOf 96 = 2 := by kernel_rfl

set_option maxRecDepth 100000 in
theorem open_nm {H : Type} {enc : TypeId × Value → H} {W : World} {fuel : Nat} {c0 c1 : Value} {x : DataW H × List MemPlace}
    (h : DataW.trod enc Try.prog W 0 (fun _ => true) true fuel 24 [c0, c1] = some x) (hw : ∀ m ∈ x.1.weights Try.prog 24, m ≤ reachBytes) :
    ∃ neg a n cap d, c0 = .bool neg ∧ c1 = .slice a n cap ∧ Dig W a n cap d := by
  obtain ⟨y0, y1, m, hx, _, h0, h1⟩ := trod_struct2 Try.underlying24 h
  simp [Try.cellsB] at h0
  simp [Try.cellsDs] at h1
  obtain ⟨neg, e0, _⟩ := DataW.trod_bool Try.underlying4 h0
  simp at e0
  rcases open_ints Try.underlying22 Try.underlying96 Try.cellsD h1 with ⟨hcs, _⟩ | ⟨a, len, cap, zs, hcs, _, hl, hm, hz, hy, hcell, hwz⟩
  · simp at hcs
    exact ⟨neg, none, 0, 0, fun _ => 0, e0, hcs, fun h => by omega, fun _ => ⟨by simp, by simp⟩, Nat.le_refl _, by omega⟩
  · simp at hcs hz
    have hbound : cap ≤ 70368744177664 := by
      have h2 := hw ((zs.take len).length * 2 + (zs.drop len).length * 2) (by
        rw [hx, hy]
        simp [DataW.weights, DataW.weightsEach, Try.underlying24, Try.underlying22, Try.bytesD, lits]
        right; left; omega)
      simp [reachBytes, hz] at h2
      omega
    have hspot : 0 < cap → a.spot = none := fun h0 => by
      have hc := hcell 0 (by omega)
      have := World.cell?_spot hc
      simpa [Addr.add] using this
    obtain ⟨b, off, spot⟩ := a
    refine ⟨neg, some ⟨b, off, spot⟩, len, cap, fun j => zs.getD j 0, e0, hcs, fun h0 => ?_, fun j => ?_, hl, by omega⟩
    · have hs := hspot (by omega)
      simp at hs
      subst hs
      have hc0 := hcell 0 (by omega)
      refine ⟨b, off, rfl, World.block_lt_of_cell? W ⟨b, off, none⟩ (by simpa [Addr.add] using hc0), fun j hj => ?_⟩
      have := hcell j (by omega)
      rw [show (⟨b, off, none⟩ : Addr).add j = ⟨b, off + j, none⟩ by unfold Addr.add; split <;> simp_all] at this
      exact this
    · have := range_u16 hwz j
      simp at this ⊢
      omega

set_option maxRecDepth 100000 in
theorem open_sp {H : Type} {enc : TypeId × Value → H} {W : World} {base : Nat} {r : Reach} {v : Value} {dd : DataW H} {p : List MemPlace} (hv : Value.okWide Try.prog W r base 26 v)
    (h : DataW.Trod enc Try.prog W 0 (fun _ => true) true 26 v dd p) (hw : ∀ m ∈ dd.weights Try.prog 26, m ≤ reachBytes) :
    ∃ (s : Sp) (d e : Nat → Int), v = .agg #[.bool s.ln, .slice s.la s.lN s.lc, .bool s.hn, .slice s.ha s.hN s.hc, .int .i64 s.bits] ∧ SpDig W s d e := by
  obtain ⟨cs, rfl, hsz⟩ := okWide_struct Try.underlying26 hv
  rw [Try.cellsSpan] at hsz
  obtain ⟨l⟩ := cs
  match l, hsz with
  | [c0, c1, c2, c3, c4], _ =>
  obtain ⟨fuel, hf⟩ := h
  obtain ⟨xs, n, _, hx, _, hlen, hfl⟩ := DataW.trod_struct Try.underlying26 hf
  match xs, hlen with
  | [y0, y1, y2], _ =>
  have t0 := hfl 0 _ rfl
  have t1 := hfl 1 _ rfl
  have t2 := hfl 2 _ rfl
  simp [Value.cells, Try.cellsInt] at t0
  simp [Value.cells, Try.cellsInt] at t1
  simp [Value.cells, Try.cellsI] at t2
  simp only [Prod.mk.injEq] at hx
  obtain ⟨hd, _⟩ := hx
  have w0 : ∀ m ∈ y0.1.weights Try.prog 24, m ≤ reachBytes := fun m hm => hw m (by rw [hd]; simp [DataW.weights, DataW.weightsEach, Try.underlying26]; exact Or.inl hm)
  have w1 : ∀ m ∈ y1.1.weights Try.prog 24, m ≤ reachBytes := fun m hm => hw m (by rw [hd]; simp [DataW.weights, DataW.weightsEach, Try.underlying26]; exact Or.inr (Or.inl hm))
  obtain ⟨ln, la, lN, lc, d, rfl, rfl, hl⟩ := open_nm t0 w0
  obtain ⟨hn, ha, hN, hc, e, rfl, rfl, hh⟩ := open_nm t1 w1
  obtain ⟨bits, e2, _, _⟩ := DataW.trod_int Try.underlying3 t2
  simp at e2
  subst e2
  exact ⟨⟨ln, la, lN, lc, hn, ha, hN, hc, bits⟩, d, e, rfl, ⟨hl, hh⟩⟩
end Go.Proofs.Ytgmnknmjainabaa
