/-
  Texts Pwy, Tou, Gmi, Psu, Lgo: what they hold is told in the last text.
-/
import Derived.Test.YtgmnknmjainababK19
set_option linter.unnecessarySimpa false
set_option linter.unusedSimpArgs false
set_option linter.unusedVariables false
namespace Go.Proofs.Ytgmnknmjainabab
open Go.RowKit
attribute [local go_sem ↓] Go.wp_at_zero Go.wp_at_succ
theorem LowOf.pos {p q p1 q1 : Int} (h : LowOf p q p1 q1) (hp : 0 < p) : 0 < p1 := by
  obtain ⟨g, g0, rfl, rfl⟩ := h
  exact Int.pos_of_mul_pos_right hp (by omega)
theorem LowOf.pos2 {p q p1 q1 : Int} (h : LowOf p q p1 q1) (hq : 0 < q) : 0 < q1 := by
  obtain ⟨g, g0, rfl, rfl⟩ := h
  exact Int.pos_of_mul_pos_right hq (by omega)
theorem LowOf.le {p q p1 q1 c : Int} (h : LowOf p q p1 q1) (hc : p ≤ c * q) : p1 ≤ c * q1 := by
  obtain ⟨g, g0, rfl, rfl⟩ := h
  have e : c * (g * q1) = g * (c * q1) := by grind
  rw [e] at hc
  exact Int.le_of_mul_le_mul_left hc g0
theorem LowOf.le2 {p q p1 q1 c : Int} (h : LowOf p q p1 q1) (hc : q ≤ c * p) : q1 ≤ c * p1 := by
  obtain ⟨g, g0, rfl, rfl⟩ := h
  have e : c * (g * p1) = g * (c * p1) := by grind
  rw [e] at hc
  exact Int.le_of_mul_le_mul_left hc g0
theorem LowOf.ge {p q p1 q1 c : Int} (h : LowOf p q p1 q1) (hc : -(c * q) ≤ p) : -(c * q1) ≤ p1 := by
  obtain ⟨g, g0, rfl, rfl⟩ := h
  have e : -(c * (g * q1)) = g * -(c * q1) := by grind
  rw [e] at hc
  exact Int.le_of_mul_le_mul_left hc g0
theorem LowOf.small {p q p1 q1 : Int} (h : LowOf p q p1 q1) (hp : 0 < p) : p1 ≤ p := by
  have h1 := h.pos hp
  obtain ⟨g, g0, rfl, rfl⟩ := h
  have := Int.mul_le_mul_of_nonneg_right (show 1 ≤ g by omega) (show 0 ≤ p1 by omega)
  omega
structure ExS (w wr : World) (p q kn kd : Int) : Prop where
  r : RaC wr w.heap.size p q
  fr : ∀ o, wr.frozen? ⟨w.heap.size, o, none⟩ = false
  k : RaC wr (w.heap.size + 1) kn kd
  fk : ∀ o, wr.frozen? ⟨w.heap.size + 1, o, none⟩ = false
  no : NoC wr (w.heap.size + 1 + 1)
  be : Below w.heap.size w wr
theorem ExS.below {w wr wr' : World} {p q kn kd : Int} (h : ExS w wr p q kn kd) (hb : Below wr.heap.size wr wr') : ExS w wr' p q kn kd :=
  ⟨h.r.below hb, fun o => (hb.frozen (p := ⟨w.heap.size, o, none⟩) h.r.lt).trans (h.fr o), h.k.below hb, fun o => (hb.frozen (p := ⟨w.heap.size + 1, o, none⟩) h.k.lt).trans (h.fk o), h.no.below hb, bthen h.be hb⟩
theorem RaC.off {w : World} {B B' : Nat} {p q : Int} (h : RaC w B p q) (hne : B ≠ B') (u0 u1 : Value) : RaC ((w.setCell ⟨B', 0, none⟩ u0).setCell ⟨B', 1, none⟩ u1) B p q := by
  obtain ⟨q0, q1⟩ := h
  constructor <;> simp [go_sem, q0, q1, hne, Ne.symm hne]
theorem ExS.drew {w wr : World} {p q kn kd : Int} (h : ExS w wr p q kn kd) : ExS w wr.drew p q kn kd := h.below (Below.refl _ _).drew
end Go.Proofs.Ytgmnknmjainabab
namespace Go.Proofs.Ytgmnknmjainabab
open Go.RowKit
attribute [local go_sem ↓] Go.wp_at_zero Go.wp_at_succ
def touB (lo hi : Int) (i : Nat) (lo' hi' : Int) (j : Nat) : Bool := decide (lo * Q i ≤ hi' * Q j) && decide (lo' * Q j ≤ hi * Q i)
theorem downZ_up (x : Int) (a b : Int) (i : Nat) (h : b - a = (i : Int)) : downZ x (a - b) = x * Q i := by
  unfold downZ
  by_cases h0 : i = 0
  · subst h0
    have e : a - b = 0 := by omega
    rw [e]; simp [Q]
  · rw [if_neg (by omega)]; congr 2; omega
theorem downZ_upn (x : Int) (a b : Int) (i : Nat) (h : b - a = (i : Int)) : -(downZ (-x) (a - b)) = x * Q i := by
  rw [downZ_up _ a b i h, Int.neg_mul, Int.neg_neg]
set_option maxRecDepth 100000 in
set_option maxHeartbeats 4000000 in
theorem touch_gt (w : World) (s t : Sp) (k i j : Nat) (lo hi lo' hi' : Int) (hs : SpAt w s k lo hi) (ht : SpAt w t k lo' hi') (hk : k ≤ 300000000) (s0 : 0 ≤ s.bits) (s1 : s.bits ≤ 1000000) (t0 : 0 ≤ t.bits) (t1 : t.bits ≤ 1000000) (hc : s.bits < t.bits) (hi1 : t.bits - s.bits = (i : Int)) (hj1 : t.bits - t.bits = (j : Int)) :
    Calls Try.prog 23 #[.agg #[.bool s.ln, .slice s.la s.lN s.lc, .bool s.hn, .slice s.ha s.hN s.hc, .int .i64 s.bits], .agg #[.bool t.ln, .slice t.la t.lN t.lc, .bool t.hn, .slice t.ha t.hN t.hc, .int .i64 t.bits]] w fun r w' => r = .returned (.bool (touB lo hi i lo' hi' j)) ∧ Below w.heap.size w w' := by
  obtain ⟨W, hW⟩ : ∃ W, W = (w.alloc (.cells #[.bool s.ln, .slice s.la s.lN s.lc, .bool s.hn, .slice s.ha s.hN s.hc, .int .i64 s.bits] 36)).alloc (.cells #[.bool t.ln, .slice t.la t.lN t.lc, .bool t.hn, .slice t.ha t.hN t.hc, .int .i64 t.bits] 36) := ⟨_, rfl⟩
  have hBW : Below w.heap.size w W := by rw [hW]; exact bl2 _ _ _
  have A : SpC W w.heap.size s := by rw [hW]; exact ⟨by simp [go_sem], by simp [go_sem], by simp [go_sem], by simp [go_sem], by simp [go_sem]⟩
  have G : SpC W (w.heap.size + 1) t := by rw [hW]; exact ⟨by simp [go_sem], by simp [go_sem], by simp [go_sem], by simp [go_sem], by simp [go_sem]⟩
  have FA : ∀ o, W.frozen? ⟨w.heap.size, o, none⟩ = false := by intro o; rw [hW]; simp [go_sem]
  have FG : ∀ o, W.frozen? ⟨w.heap.size + 1, o, none⟩ = false := by intro o; rw [hW]; simp [go_sem]
  have a1 := hide (downZ_up lo s.bits (t.bits) i hi1)
  have a2 := hide (downZ_upn hi s.bits (t.bits) i hi1)
  have a3 := hide (downZ_up lo' t.bits (t.bits) j hj1)
  have a4 := hide (downZ_upn hi' t.bits (t.bits) j hj1)
  have HS := hide (hs.below hBW)
  have HT := hide (ht.below hBW)
  have HA := hide A
  have HG := hide G
  have lA := A.lt
  have lG := G.lt
  have nAG : w.heap.size ≠ w.heap.size + 1 := by omega
  clear hi1 hj1 hs ht
  go_enter Try.func23, Try.ntmps23
  go_wp2_with fail
  rw [← hW]
  clear hW
  obtain ⟨x0, x1, x2, x3, x4⟩ := A
  obtain ⟨y0, y1, y2, y3, y4⟩ := G
  try go_wp2_with fail
  go_cut [] (fun wx => ∃ s2 t2 : Sp, SpC wx w.heap.size s2 ∧ SpC wx (w.heap.size + 1) t2 ∧ SpAt wx s2 (k + 62505) (lo * Q i) (hi * Q i) ∧ SpAt wx t2 (k + 62505) (lo' * Q j) (hi' * Q j) ∧ Below w.heap.size w wx)
  case first =>
    go_region_with
      (first
        | (go_at_call 58; have hq := hB1; refine (refTurn_int _ t k (t.bits) lo' hi' ((unhide HT).below hB1) hk t0 t1 (by omega) (by omega)).mono ?_; rintro r w2 ⟨u2, rfl, hub2, hup2, hb2⟩; rw [unhide a3, unhide a4] at hup2; clear hub2; have hB2 := bthen hB1 hb2; replace hup1 := hup1.below hb2; have l2A := Nat.lt_of_lt_of_le lA hB2.size; have l2G := Nat.lt_of_lt_of_le lG hB2.size; obtain ⟨a0, a1, a2, a3, a4⟩ := (unhide HA).below hB2; obtain ⟨g0, g1, g2, g3, g4⟩ := (unhide HG).below hB2; have fA2 : ∀ o, w2.frozen? ⟨w.heap.size, o, none⟩ = false := (fun o => (hB2.frozen (p := ⟨w.heap.size, o, none⟩) lA).trans (FA o)); have fG2 : ∀ o, w2.frozen? ⟨w.heap.size + 1, o, none⟩ = false := (fun o => (hB2.frozen (p := ⟨w.heap.size + 1, o, none⟩) lG).trans (FG o)))
        | (go_at_call 58; refine (refTurn_int _ s k (t.bits) lo hi ((unhide HS).below (by repeat' (first | with_reducible exact Below.refl _ _ | with_reducible refine Below.drew ?_))) hk s0 s1 (by omega) (by omega)).mono ?_; rintro r w1 ⟨u1, rfl, hub1, hup1, hb1⟩; rw [unhide a1, unhide a2] at hup1; clear hub1; have hB1 : Below W.heap.size W w1 := bthen (by repeat' (first | with_reducible exact Below.refl _ _ | with_reducible refine Below.drew ?_)) hb1; obtain ⟨b0, b1, b2, b3, b4⟩ := (unhide HA).below hB1; obtain ⟨d0, d1, d2, d3, d4⟩ := (unhide HG).below hB1; have l1A := Nat.lt_of_lt_of_le lA hB1.size; have l1G := Nat.lt_of_lt_of_le lG hB1.size))
    all_goals
      go_wp2_with fail
      go_meet
      have A2 : SpC w2 w.heap.size s := ⟨a0, a1, a2, a3, a4⟩
      have G2 : SpC w2 (w.heap.size + 1) t := ⟨g0, g1, g2, g3, g4⟩
      obtain ⟨p1, p2, p3, p4⟩ := two_sp A2 G2 nAG u1 u2
      exact ⟨u1, u2, p1, p2, p3 hup1, p3 hup2, set5 (set5 (bthen hBW hB2) (Nat.le_refl _) _ _ _ _ _) (Nat.le_succ _) _ _ _ _ _⟩
  case rest =>
  obtain ⟨s2, t2, A, G, hs, ht, hBW⟩ := hcut
  clear HA HG HS HT lA lG x0 x1 x2 x3 x4 y0 y1 y2 y3 y4 FA FG
  have lA := A.lt
  have lG := G.lt
  by_cases hq : lo * Q i ≤ hi' * Q j
  · have c1 : cmpInt (lo * Q i) (hi' * Q j) ≤ 0 := by unfold cmpInt; split; omega; rw [if_neg (by omega)]; omega
    have HE := hide (show decide (cmpInt (lo' * Q j) (hi * Q i) ≤ 0) = touB lo hi i lo' hi' j by rw [cmp_le0]; unfold touB; rw [decide_eq_true hq, Bool.true_and])
    obtain ⟨x0, x1, x2, x3, x4⟩ := A
    obtain ⟨y0, y1, y2, y3, y4⟩ := G
    clear hq
    go_wp2_with fail
    refine (cmp_int _ _ _ _ _ _ _ _ (k + 62505) (k + 62505) (lo * Q i) (hi' * Q j) _ hs.lo ht.hi).mono ?_
    rintro r w1 ⟨rfl, hb1⟩
    have A := (SpC.mk x0 x1 x2 x3 x4).below hb1
    have G := (SpC.mk y0 y1 y2 y3 y4).below hb1
    replace hs := hs.below hb1
    replace ht := ht.below hb1
    replace hBW := bthen hBW hb1
    clear x0 x1 x2 x3 x4 y0 y1 y2 y3 y4 hb1
    obtain ⟨x0, x1, x2, x3, x4⟩ := A
    obtain ⟨y0, y1, y2, y3, y4⟩ := G
    go_wp2_with fail
    refine (cmp_int _ _ _ _ _ _ _ _ (k + 62505) (k + 62505) (lo' * Q j) (hi * Q i) _ ht.lo hs.hi).mono ?_
    rintro r w2 ⟨rfl, hb2⟩
    replace hBW := bthen hBW hb2
    go_wp2_with fail
    go_ret
    exact ⟨by rw [← unhide HE]; rfl, hBW⟩
  · have c1 : ¬ cmpInt (lo * Q i) (hi' * Q j) ≤ 0 := by unfold cmpInt; rw [if_neg (by omega), if_pos (by omega)]; omega
    have HE := hide (show touB lo hi i lo' hi' j = false by unfold touB; rw [decide_eq_false hq, Bool.false_and])
    obtain ⟨x0, x1, x2, x3, x4⟩ := A
    obtain ⟨y0, y1, y2, y3, y4⟩ := G
    clear hq
    go_wp2_with fail
    refine (cmp_int _ _ _ _ _ _ _ _ (k + 62505) (k + 62505) (lo * Q i) (hi' * Q j) _ hs.lo ht.hi).mono ?_
    rintro r w1 ⟨rfl, hb1⟩
    replace hBW := bthen hBW hb1
    go_wp2_with fail
    go_ret
    exact ⟨by rw [unhide HE]; rfl, hBW⟩
set_option maxRecDepth 100000 in
set_option maxHeartbeats 4000000 in
theorem touch_le (w : World) (s t : Sp) (k i j : Nat) (lo hi lo' hi' : Int) (hs : SpAt w s k lo hi) (ht : SpAt w t k lo' hi') (hk : k ≤ 300000000) (s0 : 0 ≤ s.bits) (s1 : s.bits ≤ 1000000) (t0 : 0 ≤ t.bits) (t1 : t.bits ≤ 1000000) (hc : t.bits ≤ s.bits) (hi1 : s.bits - s.bits = (i : Int)) (hj1 : s.bits - t.bits = (j : Int)) :
    Calls Try.prog 23 #[.agg #[.bool s.ln, .slice s.la s.lN s.lc, .bool s.hn, .slice s.ha s.hN s.hc, .int .i64 s.bits], .agg #[.bool t.ln, .slice t.la t.lN t.lc, .bool t.hn, .slice t.ha t.hN t.hc, .int .i64 t.bits]] w fun r w' => r = .returned (.bool (touB lo hi i lo' hi' j)) ∧ Below w.heap.size w w' := by
  obtain ⟨W, hW⟩ : ∃ W, W = (w.alloc (.cells #[.bool s.ln, .slice s.la s.lN s.lc, .bool s.hn, .slice s.ha s.hN s.hc, .int .i64 s.bits] 36)).alloc (.cells #[.bool t.ln, .slice t.la t.lN t.lc, .bool t.hn, .slice t.ha t.hN t.hc, .int .i64 t.bits] 36) := ⟨_, rfl⟩
  have hBW : Below w.heap.size w W := by rw [hW]; exact bl2 _ _ _
  have A : SpC W w.heap.size s := by rw [hW]; exact ⟨by simp [go_sem], by simp [go_sem], by simp [go_sem], by simp [go_sem], by simp [go_sem]⟩
  have G : SpC W (w.heap.size + 1) t := by rw [hW]; exact ⟨by simp [go_sem], by simp [go_sem], by simp [go_sem], by simp [go_sem], by simp [go_sem]⟩
  have FA : ∀ o, W.frozen? ⟨w.heap.size, o, none⟩ = false := by intro o; rw [hW]; simp [go_sem]
  have FG : ∀ o, W.frozen? ⟨w.heap.size + 1, o, none⟩ = false := by intro o; rw [hW]; simp [go_sem]
  have a1 := hide (downZ_up lo s.bits (s.bits) i hi1)
  have a2 := hide (downZ_upn hi s.bits (s.bits) i hi1)
  have a3 := hide (downZ_up lo' t.bits (s.bits) j hj1)
  have a4 := hide (downZ_upn hi' t.bits (s.bits) j hj1)
  have HS := hide (hs.below hBW)
  have HT := hide (ht.below hBW)
  have HA := hide A
  have HG := hide G
  have lA := A.lt
  have lG := G.lt
  have nAG : w.heap.size ≠ w.heap.size + 1 := by omega
  clear hi1 hj1 hs ht
  go_enter Try.func23, Try.ntmps23
  go_wp2_with fail
  rw [← hW]
  clear hW
  obtain ⟨x0, x1, x2, x3, x4⟩ := A
  obtain ⟨y0, y1, y2, y3, y4⟩ := G
  try go_wp2_with fail
  go_cut [] (fun wx => ∃ s2 t2 : Sp, SpC wx w.heap.size s2 ∧ SpC wx (w.heap.size + 1) t2 ∧ SpAt wx s2 (k + 62505) (lo * Q i) (hi * Q i) ∧ SpAt wx t2 (k + 62505) (lo' * Q j) (hi' * Q j) ∧ Below w.heap.size w wx)
  case first =>
    go_region_with
      (first
        | (go_at_call 58; have hq := hB1; refine (refTurn_int _ t k (s.bits) lo' hi' ((unhide HT).below hB1) hk t0 t1 (by omega) (by omega)).mono ?_; rintro r w2 ⟨u2, rfl, hub2, hup2, hb2⟩; rw [unhide a3, unhide a4] at hup2; clear hub2; have hB2 := bthen hB1 hb2; replace hup1 := hup1.below hb2; have l2A := Nat.lt_of_lt_of_le lA hB2.size; have l2G := Nat.lt_of_lt_of_le lG hB2.size; obtain ⟨a0, a1, a2, a3, a4⟩ := (unhide HA).below hB2; obtain ⟨g0, g1, g2, g3, g4⟩ := (unhide HG).below hB2; have fA2 : ∀ o, w2.frozen? ⟨w.heap.size, o, none⟩ = false := (fun o => (hB2.frozen (p := ⟨w.heap.size, o, none⟩) lA).trans (FA o)); have fG2 : ∀ o, w2.frozen? ⟨w.heap.size + 1, o, none⟩ = false := (fun o => (hB2.frozen (p := ⟨w.heap.size + 1, o, none⟩) lG).trans (FG o)))
        | (go_at_call 58; refine (refTurn_int _ s k (s.bits) lo hi ((unhide HS).below (by repeat' (first | with_reducible exact Below.refl _ _ | with_reducible refine Below.drew ?_))) hk s0 s1 (by omega) (by omega)).mono ?_; rintro r w1 ⟨u1, rfl, hub1, hup1, hb1⟩; rw [unhide a1, unhide a2] at hup1; clear hub1; have hB1 : Below W.heap.size W w1 := bthen (by repeat' (first | with_reducible exact Below.refl _ _ | with_reducible refine Below.drew ?_)) hb1; obtain ⟨b0, b1, b2, b3, b4⟩ := (unhide HA).below hB1; obtain ⟨d0, d1, d2, d3, d4⟩ := (unhide HG).below hB1; have l1A := Nat.lt_of_lt_of_le lA hB1.size; have l1G := Nat.lt_of_lt_of_le lG hB1.size))
    all_goals
      go_wp2_with fail
      go_meet
      have A2 : SpC w2 w.heap.size s := ⟨a0, a1, a2, a3, a4⟩
      have G2 : SpC w2 (w.heap.size + 1) t := ⟨g0, g1, g2, g3, g4⟩
      obtain ⟨p1, p2, p3, p4⟩ := two_sp A2 G2 nAG u1 u2
      exact ⟨u1, u2, p1, p2, p3 hup1, p3 hup2, set5 (set5 (bthen hBW hB2) (Nat.le_refl _) _ _ _ _ _) (Nat.le_succ _) _ _ _ _ _⟩
  case rest =>
  obtain ⟨s2, t2, A, G, hs, ht, hBW⟩ := hcut
  clear HA HG HS HT lA lG x0 x1 x2 x3 x4 y0 y1 y2 y3 y4 FA FG
  have lA := A.lt
  have lG := G.lt
  by_cases hq : lo * Q i ≤ hi' * Q j
  · have c1 : cmpInt (lo * Q i) (hi' * Q j) ≤ 0 := by unfold cmpInt; split; omega; rw [if_neg (by omega)]; omega
    have HE := hide (show decide (cmpInt (lo' * Q j) (hi * Q i) ≤ 0) = touB lo hi i lo' hi' j by rw [cmp_le0]; unfold touB; rw [decide_eq_true hq, Bool.true_and])
    obtain ⟨x0, x1, x2, x3, x4⟩ := A
    obtain ⟨y0, y1, y2, y3, y4⟩ := G
    clear hq
    go_wp2_with fail
    refine (cmp_int _ _ _ _ _ _ _ _ (k + 62505) (k + 62505) (lo * Q i) (hi' * Q j) _ hs.lo ht.hi).mono ?_
    rintro r w1 ⟨rfl, hb1⟩
    have A := (SpC.mk x0 x1 x2 x3 x4).below hb1
    have G := (SpC.mk y0 y1 y2 y3 y4).below hb1
    replace hs := hs.below hb1
    replace ht := ht.below hb1
    replace hBW := bthen hBW hb1
    clear x0 x1 x2 x3 x4 y0 y1 y2 y3 y4 hb1
    obtain ⟨x0, x1, x2, x3, x4⟩ := A
    obtain ⟨y0, y1, y2, y3, y4⟩ := G
    go_wp2_with fail
    refine (cmp_int _ _ _ _ _ _ _ _ (k + 62505) (k + 62505) (lo' * Q j) (hi * Q i) _ ht.lo hs.hi).mono ?_
    rintro r w2 ⟨rfl, hb2⟩
    replace hBW := bthen hBW hb2
    go_wp2_with fail
    go_ret
    exact ⟨by rw [← unhide HE]; rfl, hBW⟩
  · have c1 : ¬ cmpInt (lo * Q i) (hi' * Q j) ≤ 0 := by unfold cmpInt; rw [if_neg (by omega), if_pos (by omega)]; omega
    have HE := hide (show touB lo hi i lo' hi' j = false by unfold touB; rw [decide_eq_false hq, Bool.false_and])
    obtain ⟨x0, x1, x2, x3, x4⟩ := A
    obtain ⟨y0, y1, y2, y3, y4⟩ := G
    clear hq
    go_wp2_with fail
    refine (cmp_int _ _ _ _ _ _ _ _ (k + 62505) (k + 62505) (lo * Q i) (hi' * Q j) _ hs.lo ht.hi).mono ?_
    rintro r w1 ⟨rfl, hb1⟩
    replace hBW := bthen hBW hb1
    go_wp2_with fail
    go_ret
    exact ⟨by rw [unhide HE]; rfl, hBW⟩
end Go.Proofs.Ytgmnknmjainabab
namespace Go.Proofs.Ytgmnknmjainabab
open Go.RowKit
attribute [local go_sem ↓] Go.wp_at_zero Go.wp_at_succ
open Ex
theorem RFlt.uniq {bt : Int} {p q : Nat → Int} {n : Nat} {z z' : Int} (h : RFlt bt p q n z) (h' : RFlt bt p q n z') : z = z' := by
  rcases h with ⟨a, b⟩ | ⟨a, b⟩ <;> rcases h' with ⟨c, d⟩ | ⟨c, d⟩
  · omega
  · exact absurd b d
  · exact absurd d b
  · omega
theorem ShF.uniq {p q : Nat → Int} {n : Nat} {z z' : Int} (h : ShF p q n z) (h' : ShF p q n z') : z = z' := by
  rcases h with ⟨a, j, hj, b⟩ | ⟨a, b, j, hj, c⟩ | ⟨a, b⟩ <;> rcases h' with ⟨d, i, hi, e⟩ | ⟨d, e, i, hi, f⟩ | ⟨d, e⟩
  · omega
  · have := e j hj; omega
  · have := (e j hj).1; omega
  · have := b i hi; omega
  · omega
  · have := (e j hj).2; omega
  · have := (b i hi).1; omega
  · have := (b i hi).2; omega
  · omega
def GmE (bt : Int) (p q : Nat → Int) (n : Nat) (z : Int) : Prop := RFlt bt p q n z ∧ z = 3 ∨ RFlt bt p q n 0 ∧ ShF p q n z
def gE1 (p q bt : Int) : Int := if ¬ (rok p q ∧ 8 ≤ bt ∧ bt ≤ 120) then 3 else if p ≤ 0 then 5 else if 100 * q < p then 2 else 0
theorem gE1_ok (p q bt : Int) : GmE bt (fun _ => p) (fun _ => q) 1 (gE1 p q bt) := by
  unfold gE1
  by_cases h : rok p q ∧ 8 ≤ bt ∧ bt ≤ 120
  · rw [if_neg (fun k => k h)]
    refine Or.inr ⟨Or.inl ⟨rfl, h.2, fun _ _ => h.1⟩, ?_⟩
    by_cases h1 : p ≤ 0
    · rw [if_pos h1]; exact Or.inl ⟨rfl, 0, by omega, h1⟩
    · rw [if_neg h1]
      by_cases h2 : 100 * q < p
      · rw [if_pos h2]; exact Or.inr (Or.inl ⟨rfl, fun _ _ => show 0 < p by omega, 0, by omega, h2⟩)
      · rw [if_neg h2]; exact Or.inr (Or.inr ⟨rfl, fun _ _ => ⟨show 0 < p by omega, show p ≤ 100 * q by omega⟩⟩)
  · rw [if_pos h]
    exact Or.inl ⟨Or.inr ⟨rfl, fun k => h ⟨k.2 0 (by omega), k.1⟩⟩, rfl⟩
theorem gE1_zero {p q bt : Int} (h : gE1 p q bt = 0) : rok p q ∧ 8 ≤ bt ∧ bt ≤ 120 ∧ 0 < p ∧ p ≤ 100 * q := by
  unfold gE1 at h
  by_cases h0 : rok p q ∧ 8 ≤ bt ∧ bt ≤ 120
  · rw [if_neg (fun k => k h0)] at h
    by_cases h1 : p ≤ 0
    · rw [if_pos h1] at h; omega
    · rw [if_neg h1] at h
      by_cases h2 : 100 * q < p
      · rw [if_pos h2] at h; omega
      · exact ⟨h0.1, h0.2.1, h0.2.2, by omega, by omega⟩
  · rw [if_pos h0] at h; omega
theorem rats1' (w : World) (B : Nat) (hB : w.heap.size = B) (p q : Int) (T : TypeId) : Rats (w.alloc (.cells #[.int .i64 p, .int .i64 q] T)) B 1 (fun _ => p) (fun _ => q) := by subst hB; exact rats1 w p q T
theorem RFlt.all {bt : Int} {p q : Nat → Int} {n : Nat} (h : RFlt bt p q n 0) : ∀ j, j < n → rok (p j) (q j) := by
  rcases h with ⟨_, _, k⟩ | ⟨k, _⟩
  · exact k
  · omega
set_option maxRecDepth 100000 in
set_option maxHeartbeats 2000000 in
theorem gmade_bad (bt z : Int) (hv : Value) (Bs n cap : Nat) (p q : Nat → Int) (w : World) (h : Rats w Bs n p q) (hn : n ≤ 1000) (he : GmE bt p q n z) (hz : z ≠ 0) :
    Calls Try.prog 60 #[.int .i64 bt, hv, .slice (some ⟨Bs, 0, none⟩) n cap] w (PairAns w 0 250 0 0 z) := by
  have HH := hide h
  have HE := hide he
  have R := noc_new w 28
  clear h he
  go_enter Try.func60, Try.ntmps60
  go_wp2_with fail
  refine (ratioFault_any bt Bs n cap p q _ ((unhide HH).below (bl1 _ _)) hn).mono ?_
  rintro r w1 ⟨z1, rfl, hf, hb1⟩
  replace R := R.below hb1
  have hBW : Below w.heap.size w w1 := bthen (bl1 _ _) hb1
  clear hb1
  rcases unhide HE with ⟨hr, h3⟩ | ⟨hr, hs⟩
  · have e1 : z1 = 3 := (hf.uniq hr).trans h3
    subst e1
    have lR := R.lt
    obtain ⟨q0, q1, q2, q3, q4, q5⟩ := R
    have E3 := hide h3
    clear hf hr h3 hz
    go_wp2_with fail
    refine bodyPost_ret (v := .tuple #[.agg #[.bool false, .slice none 0 0, .bool false, .slice none 0 0, .int .i64 0], .int .i64 3]) (by simp [results, Try.results60, go_sem, q0, q1, q2, q3, q4]) rfl ⟨⟨false, none, 0, 0, false, none, 0, 0, 0⟩, by rw [unhide E3], rfl, zeroSp _ _, ?_⟩
    exact set5 hBW (Nat.le_refl _) _ _ _ _ _
  · have e1 : z1 = 0 := hf.uniq hr
    subst e1
    have HS := hide hs
    have HR := hide (show ∀ j, j < n → rok (p j) (q j) by
      rcases hr with ⟨_, _, k⟩ | ⟨k, _⟩
      · exact k
      · omega)
    have HZ := hide hz
    clear hf hr hs hz
    go_wp2_with fail
    refine (shapeFault_any Bs n cap p q _ ((unhide HH).below hBW) hn (unhide HR)).mono ?_
    rintro r w2 ⟨z2, rfl, hf2, hb2⟩
    have e2 : z2 = z := hf2.uniq (unhide HS)
    subst e2
    replace R := R.below hb2
    replace hBW := bthen hBW hb2
    have lR := R.lt
    obtain ⟨q0, q1, q2, q3, q4, q5⟩ := R
    have hz := unhide HZ
    clear hf2 hb2
    go_wp2_with fail
    refine bodyPost_ret (v := .tuple #[.agg #[.bool false, .slice none 0 0, .bool false, .slice none 0 0, .int .i64 0], .int .i64 z2]) (by simp [results, Try.results60, go_sem, q0, q1, q2, q3, q4]) rfl ⟨⟨false, none, 0, 0, false, none, 0, 0, 0⟩, rfl, rfl, zeroSp _ _, ?_⟩
    exact set5 hBW (Nat.le_refl _) _ _ _ _ _
set_option maxRecDepth 100000 in
set_option maxHeartbeats 2000000 in
theorem sured_gam (L0 G : Rat → Nat → Rat) (X : Int → Int → Nat → Rat) (hE : GEnv L0 G X) (p q : Int) (B0 : Nat) (b : Nat) (w : World) (hr : rok p q) (h0 : 0 < p) (h1 : p ≤ 100 * q) (A : RaC w B0 p q) (h5 : 8 ≤ b) (h6 : b ≤ 120) :
    Calls Try.prog 74 #[.int .i64 b, .func (.func 61) #[] #[.pointer (some ⟨B0, 0, none⟩)]] w (fun r w' => ∃ L H, (SuV (gmV p q (G (gA p q))) b L H ∧ 0 ≤ L ∧ H ≤ Q (b + 706)) ∧ SpanAns w b 250 L H r w') := by
  refine (sure_gam _ b 90 100 (GmPr (gmV p q (G (gA p q)))) w h6 (by omega) (by omega) (gm_ends _ h6) (fun m w' hm hm2 hbw => ?_)).mono fun r w' ⟨L, H, h1', h2'⟩ => ⟨L, H, sure_gm h1', h2'⟩
  have eB : ((b : Int) + (m : Int)) = ((b + m : Nat) : Int) := by omega
  rw [eB]
  exact gam1_iv L0 G X hE w' B0 p q (b + m) hr h0 h1 (A.below hbw) (by omega) (by omega)
set_option maxRecDepth 100000 in
set_option maxHeartbeats 2000000 in
theorem made_gam_ok (L0 G : Rat → Nat → Rat) (X : Int → Int → Nat → Rat) (hE : GEnv L0 G X) (p q : Int) (B0 : Nat) (b : Nat) (Bs cap : Nat) (w : World) (hr : rok p q) (h0 : 0 < p) (h1 : p ≤ 100 * q) (A : RaC w B0 p q) (h5 : 8 ≤ b) (h6 : b ≤ 120) (hrs : Rats w Bs 1 (fun _ => p) (fun _ => q)) (he : GmE (b : Int) (fun _ => p) (fun _ => q) 1 0) :
    Calls Try.prog 60 #[.int .i64 b, .func (.func 61) #[] #[.pointer (some ⟨B0, 0, none⟩)], .slice (some ⟨Bs, 0, none⟩) 1 cap] w (fun r w' => ∃ L H, (SuV (gmV p q (G (gA p q))) b L H ∧ 0 ≤ L ∧ H ≤ Q (b + 706)) ∧ PairAns w b 250 L H 0 r w') := by
  have HS := hide (show ∀ w', Below w.heap.size w w' → Calls Try.prog 74 #[.int .i64 b, .func (.func 61) #[] #[.pointer (some ⟨B0, 0, none⟩)]] w' (fun r w'' => ∃ L H, (SuV (gmV p q (G (gA p q))) b L H ∧ 0 ≤ L ∧ H ≤ Q (b + 706)) ∧ SpanAns w' b 250 L H r w'') from fun w' hbw => sured_gam L0 G X hE p q B0 b w' hr h0 h1 (A.below hbw) h5 h6)
  have HH := hide hrs
  have HE := hide he
  have R := noc_new w 28
  clear hrs he hE
  go_enter Try.func60, Try.ntmps60
  go_wp2_with fail
  refine (ratioFault_any (b : Int) Bs 1 cap _ _ _ ((unhide HH).below (bl1 _ _)) (by omega)).mono ?_
  rintro r w1 ⟨z1, rfl, hf, hb1⟩
  replace R := R.below hb1
  have hBW : Below w.heap.size w w1 := bthen (bl1 _ _) hb1
  clear hb1
  rcases unhide HE with ⟨_, h3⟩ | ⟨hr, hs⟩
  · omega
  have e1 : z1 = 0 := hf.uniq hr
  subst e1
  have HS2 := hide hs
  have HR := hide (RFlt.all hr)
  clear hf hr hs
  go_wp2_with fail
  refine (shapeFault_any Bs 1 cap _ _ _ ((unhide HH).below hBW) (by omega) (unhide HR)).mono ?_
  rintro r w2 ⟨z2, rfl, hf2, hb2⟩
  have e2 : z2 = 0 := hf2.uniq (unhide HS2)
  subst e2
  replace R := R.below hb2
  replace hBW := bthen hBW hb2
  clear hf2 hb2
  go_wp2_with fail
  refine (unhide HS _ hBW).mono ?_
  rintro r' w3 ⟨L, H, hLH, u, rfl, hub, hup, hb3⟩
  have lR := R.lt
  obtain ⟨q0, q1', q2', q3, q4, q5⟩ := R.below hb3
  replace hBW := bthen hBW hb3
  have HU := hide hub
  have HLH := hide hLH
  clear hub hLH hb3
  go_wp2_with fail
  refine bodyPost_ret (v := .tuple #[.agg #[.bool u.ln, .slice u.la u.lN u.lc, .bool u.hn, .slice u.ha u.hN u.hc, .int .i64 u.bits], .int .i64 0]) (by simp [results, Try.results60, go_sem, q0, q1', q2', q3, q4]) rfl ⟨L, H, unhide HLH, u, rfl, unhide HU, ?_, ?_⟩
  · exact SpAt.put5 hup q0 q1' q2' q3 q4 _ _ _ _ _
  · exact set5 hBW (Nat.le_refl _) _ _ _ _ _
set_option maxRecDepth 100000 in
set_option maxHeartbeats 2000000 in
theorem cgam_ok (L0 G : Rat → Nat → Rat) (X : Int → Int → Nat → Rat) (hE : GEnv L0 G X) (p q : Int) (b : Nat) (w : World) (h : gE1 p q b = 0) :
    Calls Try.prog 25 #[.agg #[.int .i64 p, .int .i64 q], .int .i64 b] w (fun r w' => ∃ L H, (SuV (gmV p q (G (gA p q))) b L H ∧ 0 ≤ L ∧ H ≤ Q (b + 706)) ∧ PairAns w b 250 L H 0 r w') := by
  obtain ⟨W, hW⟩ : ∃ W, W = (w.alloc (.cells #[.int .i64 p, .int .i64 q] 23)).alloc (.cells #[.bool false, .slice none 0 0, .bool false, .slice none 0 0, .int .i64 0] 28) := ⟨_, rfl⟩
  have hBW : Below w.heap.size w W := by rw [hW]; exact bl2 _ _ _
  have A : RaC W w.heap.size p q := by rw [hW]; exact ⟨by simp [go_sem], by simp [go_sem]⟩
  have R' : NoC W (w.heap.size + 1) := by rw [hW]; exact ⟨by simp [go_sem], by simp [go_sem], by simp [go_sem], by simp [go_sem], by simp [go_sem], fun o => by simp [go_sem]⟩
  have hsz : W.heap.size = w.heap.size + 1 + 1 := by rw [hW]; simp
  obtain ⟨g1, g2, g3, g4, g5⟩ := gE1_zero h
  have HG := hide (show rok p q ∧ 0 < p ∧ p ≤ 100 * q from ⟨g1, g4, g5⟩)
  have HE := hide hE
  have HM := hide (show GmE (b : Int) (fun _ => p) (fun _ => q) 1 0 by have := gE1_ok p q b; rw [h] at this; exact this)
  have h5 : 8 ≤ b := by omega
  have h6 : b ≤ 120 := by omega
  clear h hE g1 g4 g5
  go_enter Try.func25, Try.ntmps25
  go_wp2_with fail
  rw [← hW]
  clear hW
  refine (made_gam_ok L0 G X (unhide HE) p q w.heap.size b _ _ _ (unhide HG).1 (unhide HG).2.1 (unhide HG).2.2 (A.below (bl1 _ _)) h5 h6 (rats1' W _ hsz p q _) (unhide HM)).mono ?_
  rintro r' w3 ⟨L, H, hLH, u, rfl, hub, hup, hb3⟩
  have HLH := hide hLH
  clear hLH
  have hb4 : Below W.heap.size W w3 := bthen (bl1 _ _) hb3
  obtain ⟨q0, q1', q2', q3, q4, q5⟩ := R'.below hb4
  have lR := (R'.below hb4).lt
  replace hBW := bthen hBW hb4
  have HU := hide hub
  clear hub hb3 hb4
  go_wp2_with fail
  refine bodyPost_ret (v := .tuple #[.agg #[.bool u.ln, .slice u.la u.lN u.lc, .bool u.hn, .slice u.ha u.hN u.hc, .int .i64 u.bits], .int .i64 0]) (by simp [results, Try.results25, go_sem, q0, q1', q2', q3, q4]) rfl ⟨L, H, unhide HLH, u, rfl, unhide HU, ?_, ?_⟩
  · exact SpAt.put5 hup q0 q1' q2' q3 q4 _ _ _ _ _
  · exact set5 hBW (Nat.le_succ _) _ _ _ _ _
set_option maxRecDepth 100000 in
set_option maxHeartbeats 2000000 in
theorem cgam_bad (p q bt : Int) (w : World) (h : gE1 p q bt ≠ 0) :
    Calls Try.prog 25 #[.agg #[.int .i64 p, .int .i64 q], .int .i64 bt] w (PairAns w 0 250 0 0 (gE1 p q bt)) := by
  obtain ⟨W, hW⟩ : ∃ W, W = (w.alloc (.cells #[.int .i64 p, .int .i64 q] 23)).alloc (.cells #[.bool false, .slice none 0 0, .bool false, .slice none 0 0, .int .i64 0] 28) := ⟨_, rfl⟩
  have hBW : Below w.heap.size w W := by rw [hW]; exact bl2 _ _ _
  have A : RaC W w.heap.size p q := by rw [hW]; exact ⟨by simp [go_sem], by simp [go_sem]⟩
  have R' : NoC W (w.heap.size + 1) := by rw [hW]; exact ⟨by simp [go_sem], by simp [go_sem], by simp [go_sem], by simp [go_sem], by simp [go_sem], fun o => by simp [go_sem]⟩
  have hsz : W.heap.size = w.heap.size + 1 + 1 := by rw [hW]; simp
  have HM := hide (gE1_ok p q bt)
  obtain ⟨z, ez⟩ : ∃ z, z = gE1 p q bt := ⟨_, rfl⟩
  rw [← ez] at HM h ⊢
  have HZ := hide h
  clear h ez
  go_enter Try.func25, Try.ntmps25
  go_wp2_with fail
  rw [← hW]
  clear hW
  refine (gmade_bad bt z _ _ 1 _ _ _ _ (rats1' W _ hsz p q _) (by omega) (unhide HM) (unhide HZ)).mono ?_
  rintro r' w3 ⟨u, rfl, hub, hup, hb3⟩
  have hb4 : Below W.heap.size W w3 := bthen (bl1 _ _) hb3
  obtain ⟨q0, q1', q2', q3, q4, q5⟩ := R'.below hb4
  have lR := (R'.below hb4).lt
  replace hBW := bthen hBW hb4
  have HU := hide hub
  clear hub hb3 hb4
  go_wp2_with fail
  refine bodyPost_ret (v := .tuple #[.agg #[.bool u.ln, .slice u.la u.lN u.lc, .bool u.hn, .slice u.ha u.hN u.hc, .int .i64 u.bits], .int .i64 z]) (by simp [results, Try.results25, go_sem, q0, q1', q2', q3, q4]) rfl ⟨u, rfl, unhide HU, ?_, ?_⟩
  · exact SpAt.put5 hup q0 q1' q2' q3 q4 _ _ _ _ _
  · exact set5 hBW (Nat.le_succ _) _ _ _ _ _
end Go.Proofs.Ytgmnknmjainabab
namespace Go.Proofs.Ytgmnknmjainabab
open Go.RowKit
attribute [local go_sem ↓] Go.wp_at_zero Go.wp_at_succ
set_option maxRecDepth 100000 in
set_option maxHeartbeats 2000000 in
theorem refReady_any (bt : Int) (b n cap : Nat) (p q : Nat → Int) (w : World) (h : Rats w b n p q) (hn : n ≤ 1000) :
    Calls Try.prog 11 #[.int .i64 bt, .slice (some ⟨b, 0, none⟩) n cap] w fun r w' => ∃ z, r = .returned (.int .i64 z) ∧ RFlt bt p q n z ∧ Below w.heap.size w w' := by
  have hblt := h.lt
  have HH := hide h
  clear h
  go_enter Try.func11, Try.ntmps11
  go_wp2
  go_loopw [5] (fun ii wr => ∃ i : Nat, i ≤ n ∧ ii = .int .i64 i ∧ (∀ j, j < i → rok (p j) (q j)) ∧ Below w.heap.size w wr) (fun ii _ => n - (intOf ii).toNat)
  case atStart => exact ⟨0, by omega, rfl, fun j hj => by omega, Below.refl _ _⟩
  case round =>
    obtain ⟨i, hi, rfl, hz, hB⟩ := hrel
    by_cases hin : i < n
    · have H2 := (unhide HH).below hB
      have g0 := H2.c0 i hin
      have g1 := H2.c1 i hin
      have hi1 : (i : Int) < (n : Int) := by omega
      have HZ := hide hz
      clear hz H2
      by_cases hc : rok (p i) (q i)
      · have hc' : decide (rok (p i) (q i)) = true := by simpa using hc
        have HC := hide hc
        clear hc
        go_wp2_with (go_at_call 46; refine (refRightRatio _ _ _).mono ?_; rintro r w1 ⟨rfl, hb1⟩; rw [hc'])
        go_roundw
        case rel => exact ⟨i + 1, by omega, by go_num, fun j hj => by
                            by_cases hji : j = i
                            · subst hji; exact unhide HC
                            · exact unhide HZ j (by omega), bthen hB hb1⟩
        case measure => simp [intOf]; omega
      · have hc' : decide (rok (p i) (q i)) = false := by simpa using hc
        have HC := hide hc
        clear hc
        go_wp2_with (go_at_call 46; refine (refRightRatio _ _ _).mono ?_; rintro r w1 ⟨rfl, hb1⟩; rw [hc'])
        go_ret
        exact ⟨3, rfl, Or.inr ⟨rfl, fun ⟨_, h2⟩ => unhide HC (h2 i hin)⟩, bthen hB hb1⟩
    · have hiE : i = n := by omega
      subst hiE
      have HZ := hide hz
      clear hz hin hi
      by_cases hc : 8 ≤ bt ∧ bt ≤ 120
      · have hc' : bitOk bt = true := by unfold bitOk; simpa using hc
        go_wp2_with (go_at_call 47; refine (refRightBits _ _).mono ?_; rintro r w1 ⟨rfl, rfl⟩; rw [hc'])
        go_ret
        exact ⟨0, rfl, Or.inl ⟨rfl, hc, unhide HZ⟩, hB⟩
      · have hc' : bitOk bt = false := by unfold bitOk; simpa using hc
        have HC := hide hc
        clear hc
        go_wp2_with (go_at_call 47; refine (refRightBits _ _).mono ?_; rintro r w1 ⟨rfl, rfl⟩; rw [hc'])
        go_ret
        exact ⟨3, rfl, Or.inr ⟨rfl, fun ⟨h1, _⟩ => unhide HC h1⟩, hB⟩
set_option maxRecDepth 100000 in
set_option maxHeartbeats 2000000 in
theorem lawSure_bad (w : World) (s t : Sp) (k : Nat) (er bt : Int) (hs : SpAt w s k 0 0) (hb : s.bits = 0) (her : er ≠ 0) :
    Calls Try.prog 13 #[.agg #[.bool s.ln, .slice s.la s.lN s.lc, .bool s.hn, .slice s.ha s.hN s.hc, .int .i64 s.bits], .int .i64 er, .int .i64 er, .int .i64 bt, .agg #[.bool t.ln, .slice t.la t.lN t.lc, .bool t.hn, .slice t.ha t.hN t.hc, .int .i64 t.bits]] w fun r w' => r = .returned (.bool true) ∧ Below w.heap.size w w' := by
  have he' : (er != 0) = true := by simpa using her
  have HZ3 := hide hb
  clear hb
  go_enter Try.func13, Try.ntmps13
  go_wp2_with fail
  refine (same_true _ s ⟨false, none, 0, 0, false, none, 0, 0, 0⟩ k 0 0 (hs.below (bl2 _ _ _)) (zeroSp _ _) (unhide HZ3)).mono ?_
  rintro r w1 ⟨rfl, hb1⟩
  go_wp2_with fail
  go_ret
  exact ⟨rfl, bthen (bl2 _ _ _) hb1⟩
theorem narrowBy_four (w : World) (s : Sp) (b : Nat) (lo hi : Int) (h : SpAt w s 250 lo hi) (hb : s.bits = b) (hb1 : b ≤ 120) (hle : lo ≤ hi) (hN : narB lo hi (Q b) 4 = true) :
    Calls Try.prog 49 #[.agg #[.bool s.ln, .slice s.la s.lN s.lc, .bool s.hn, .slice s.ha s.hN s.hc, .int .i64 s.bits], .int .i64 4] w fun r w' => r = .returned (.bool true) ∧ Below w.heap.size w w' :=
  (narrowBy_int w s b 4 lo hi h hb hb1 (by omega) hle).mono fun r w' ⟨h1, h2⟩ => ⟨by rw [h1]; congr 2, h2⟩
set_option maxRecDepth 100000 in
set_option maxHeartbeats 4000000 in
theorem lawSure_a (w : World) (s t : Sp) (b i k : Nat) (lo hi lo' hi' : Int) (hs : SpAt w s 250 lo hi) (ht : SpAt w t k lo' hi') (hk0 : 250 ≤ k) (hk : k ≤ 300000000) (hb : s.bits = b) (hbm : b ≤ 120) (hle : lo ≤ hi) (hi0 : 1 ≤ i) (hi1 : i ≤ 1000) (htb : t.bits = ((b + i : Nat) : Int)) (hN : narB lo hi (Q b) 4 = true) (hT : touB lo hi i lo' hi' 0 = true) (hc : cmpInt lo hi = -1) :
    Calls Try.prog 13 #[.agg #[.bool s.ln, .slice s.la s.lN s.lc, .bool s.hn, .slice s.ha s.hN s.hc, .int .i64 s.bits], .int .i64 0, .int .i64 0, .int .i64 s.bits, .agg #[.bool t.ln, .slice t.la t.lN t.lc, .bool t.hn, .slice t.ha t.hN t.hc, .int .i64 t.bits]] w fun r w' => r = .returned (.bool true) ∧ Below w.heap.size w w' := by
  obtain ⟨W, hW⟩ : ∃ W, W = (w.alloc (.cells #[.bool s.ln, .slice s.la s.lN s.lc, .bool s.hn, .slice s.ha s.hN s.hc, .int .i64 s.bits] 28)).alloc (.cells #[.bool t.ln, .slice t.la t.lN t.lc, .bool t.hn, .slice t.ha t.hN t.hc, .int .i64 t.bits] 36) := ⟨_, rfl⟩
  have hBW : Below w.heap.size w W := by rw [hW]; exact bl2 _ _ _
  have A : SpC W w.heap.size s := by rw [hW]; exact ⟨by simp [go_sem], by simp [go_sem], by simp [go_sem], by simp [go_sem], by simp [go_sem]⟩
  have C : SpC W (w.heap.size + 1) t := by rw [hW]; exact ⟨by simp [go_sem], by simp [go_sem], by simp [go_sem], by simp [go_sem], by simp [go_sem]⟩
  have HS := hide (hs.below hBW)
  have HT := hide (ht.below hBW)
  have HSB := hide hb
  have HTB := hide htb
  have HN := hide hN
  have HTO := hide hT
  have HC := hide hc
  have HLE := hide hle
  have HK := hide (show ∀ w', Below W.heap.size W w' → (w'.cell? ⟨w.heap.size, 0, none⟩ = some (.bool s.ln) ∧ w'.cell? ⟨w.heap.size, 1, none⟩ = some (.slice s.la s.lN s.lc) ∧ w'.cell? ⟨w.heap.size, 2, none⟩ = some (.bool s.hn) ∧ w'.cell? ⟨w.heap.size, 3, none⟩ = some (.slice s.ha s.hN s.hc) ∧ w'.cell? ⟨w.heap.size, 4, none⟩ = some (.int .i64 s.bits) ∧ w'.cell? ⟨w.heap.size + 1, 0, none⟩ = some (.bool t.ln) ∧ w'.cell? ⟨w.heap.size + 1, 1, none⟩ = some (.slice t.la t.lN t.lc) ∧ w'.cell? ⟨w.heap.size + 1, 2, none⟩ = some (.bool t.hn) ∧ w'.cell? ⟨w.heap.size + 1, 3, none⟩ = some (.slice t.ha t.hN t.hc) ∧ w'.cell? ⟨w.heap.size + 1, 4, none⟩ = some (.int .i64 t.bits)) from fun w' hB => ⟨(A.below hB).c0, (A.below hB).c1, (A.below hB).c2, (A.below hB).c3, (A.below hB).c4, (C.below hB).c0, (C.below hB).c1, (C.below hB).c2, (C.below hB).c3, (C.below hB).c4⟩)
  clear A C hs ht hb htb hN hT hc hle
  go_enter Try.func13, Try.ntmps13
  go_wp2
  rw [← hW]
  clear hW
  obtain ⟨x0, x1, x2, x3, x4, y0, y1, y2, y3, y4⟩ := unhide HK _ (Below.refl _ _)
  have hD0 : Below W.heap.size W W.drew := (Below.refl _ _).drew
  go_region_held3 (fun w' => w'.cell? ⟨w.heap.size, 0, none⟩ = some (.bool s.ln) ∧ w'.cell? ⟨w.heap.size, 1, none⟩ = some (.slice s.la s.lN s.lc) ∧ w'.cell? ⟨w.heap.size, 2, none⟩ = some (.bool s.hn) ∧ w'.cell? ⟨w.heap.size, 3, none⟩ = some (.slice s.ha s.hN s.hc) ∧ w'.cell? ⟨w.heap.size, 4, none⟩ = some (.int .i64 s.bits) ∧ w'.cell? ⟨w.heap.size + 1, 0, none⟩ = some (.bool t.ln) ∧ w'.cell? ⟨w.heap.size + 1, 1, none⟩ = some (.slice t.la t.lN t.lc) ∧ w'.cell? ⟨w.heap.size + 1, 2, none⟩ = some (.bool t.hn) ∧ w'.cell? ⟨w.heap.size + 1, 3, none⟩ = some (.slice t.ha t.hN t.hc) ∧ w'.cell? ⟨w.heap.size + 1, 4, none⟩ = some (.int .i64 t.bits)) (first | exact unhide HK _ (by first | with_reducible exact hD0 | with_reducible exact hD6 | with_reducible exact hD5 | with_reducible exact hD4 | with_reducible exact hD3 | with_reducible exact hD2 | with_reducible exact hD1) | go_keep)
    (first
      | (go_at_call 23; have hq := hD5; refine (touch_gt _ s t k i 0 lo hi lo' hi' (((unhide HS).below hD5).mono hk0) ((unhide HT).below hD5) hk (by have := unhide HSB; omega) (by have := unhide HSB; omega) (by have := unhide HTB; omega) (by have := unhide HTB; omega) (by have := unhide HSB; have := unhide HTB; omega) (by have := unhide HSB; have := unhide HTB; omega) (by have := unhide HTB; omega)).mono ?_; rintro r' w6 ⟨rfl, hb6⟩; rw [unhide HTO]; have hD6 := bthen hD5 hb6)
      | (go_at_call 22; have hq := hD4; refine (refOf_any _ s).mono ?_; rintro r' w5 ⟨rfl, hb5⟩; have hD5 := bthen hD4 hb5)
      | (go_at_call 49; have hq := hD3; refine (narrowBy_four _ s b lo hi ((unhide HS).below hD3) (unhide HSB) hbm (unhide HLE) (unhide HN)).mono ?_; rintro r' w4 ⟨rfl, hb4⟩; have hD4 := bthen hD3 hb4)
      | (go_at_call 24; have hq := hD2; refine (cmp_int _ _ _ _ _ _ _ _ _ _ lo hi _ ((unhide HS).lo.below hD2) ((unhide HS).hi.below hD2)).mono ?_; rintro r' w3 ⟨rfl, hb3⟩; rw [unhide HC]; have hD3 := bthen hD2 hb3)
      | (go_at_call 50; have hq := hD1; refine (isRight_int _ _ _ _ 250 hi _ ((unhide HS).hi.below hD1)).mono ?_; rintro r' w2 ⟨rfl, hb2⟩; have hD2 := bthen hD1 hb2)
      | (go_at_call 50; refine (isRight_int _ _ _ _ 250 lo _ ((unhide HS).lo.below hD0)).mono ?_; rintro r' w1 ⟨rfl, hb1⟩; have hD1 := bthen hD0 hb1))
  all_goals
    go_wp2_with fail
    go_ret
    exact ⟨rfl, bthen hBW hD6⟩
set_option maxRecDepth 100000 in
set_option maxHeartbeats 4000000 in
theorem lawSure_b (w : World) (s t : Sp) (b i k : Nat) (lo hi lo' hi' : Int) (hs : SpAt w s 250 lo hi) (ht : SpAt w t k lo' hi') (hk0 : 250 ≤ k) (hk : k ≤ 300000000) (hb : s.bits = b) (hbm : b ≤ 120) (hle : lo ≤ hi) (hi0 : 1 ≤ i) (hi1 : i ≤ 1000) (htb : t.bits = ((b + i : Nat) : Int)) (hN : narB lo hi (Q b) 4 = true) (hT : touB lo hi i lo' hi' 0 = true) (hc : cmpInt lo hi = 0) :
    Calls Try.prog 13 #[.agg #[.bool s.ln, .slice s.la s.lN s.lc, .bool s.hn, .slice s.ha s.hN s.hc, .int .i64 s.bits], .int .i64 0, .int .i64 0, .int .i64 s.bits, .agg #[.bool t.ln, .slice t.la t.lN t.lc, .bool t.hn, .slice t.ha t.hN t.hc, .int .i64 t.bits]] w fun r w' => r = .returned (.bool true) ∧ Below w.heap.size w w' := by
  obtain ⟨W, hW⟩ : ∃ W, W = (w.alloc (.cells #[.bool s.ln, .slice s.la s.lN s.lc, .bool s.hn, .slice s.ha s.hN s.hc, .int .i64 s.bits] 28)).alloc (.cells #[.bool t.ln, .slice t.la t.lN t.lc, .bool t.hn, .slice t.ha t.hN t.hc, .int .i64 t.bits] 36) := ⟨_, rfl⟩
  have hBW : Below w.heap.size w W := by rw [hW]; exact bl2 _ _ _
  have A : SpC W w.heap.size s := by rw [hW]; exact ⟨by simp [go_sem], by simp [go_sem], by simp [go_sem], by simp [go_sem], by simp [go_sem]⟩
  have C : SpC W (w.heap.size + 1) t := by rw [hW]; exact ⟨by simp [go_sem], by simp [go_sem], by simp [go_sem], by simp [go_sem], by simp [go_sem]⟩
  have HS := hide (hs.below hBW)
  have HT := hide (ht.below hBW)
  have HSB := hide hb
  have HTB := hide htb
  have HN := hide hN
  have HTO := hide hT
  have HC := hide hc
  have HLE := hide hle
  have HK := hide (show ∀ w', Below W.heap.size W w' → (w'.cell? ⟨w.heap.size, 0, none⟩ = some (.bool s.ln) ∧ w'.cell? ⟨w.heap.size, 1, none⟩ = some (.slice s.la s.lN s.lc) ∧ w'.cell? ⟨w.heap.size, 2, none⟩ = some (.bool s.hn) ∧ w'.cell? ⟨w.heap.size, 3, none⟩ = some (.slice s.ha s.hN s.hc) ∧ w'.cell? ⟨w.heap.size, 4, none⟩ = some (.int .i64 s.bits) ∧ w'.cell? ⟨w.heap.size + 1, 0, none⟩ = some (.bool t.ln) ∧ w'.cell? ⟨w.heap.size + 1, 1, none⟩ = some (.slice t.la t.lN t.lc) ∧ w'.cell? ⟨w.heap.size + 1, 2, none⟩ = some (.bool t.hn) ∧ w'.cell? ⟨w.heap.size + 1, 3, none⟩ = some (.slice t.ha t.hN t.hc) ∧ w'.cell? ⟨w.heap.size + 1, 4, none⟩ = some (.int .i64 t.bits)) from fun w' hB => ⟨(A.below hB).c0, (A.below hB).c1, (A.below hB).c2, (A.below hB).c3, (A.below hB).c4, (C.below hB).c0, (C.below hB).c1, (C.below hB).c2, (C.below hB).c3, (C.below hB).c4⟩)
  clear A C hs ht hb htb hN hT hc hle
  go_enter Try.func13, Try.ntmps13
  go_wp2
  rw [← hW]
  clear hW
  obtain ⟨x0, x1, x2, x3, x4, y0, y1, y2, y3, y4⟩ := unhide HK _ (Below.refl _ _)
  have hD0 : Below W.heap.size W W.drew := (Below.refl _ _).drew
  go_region_held3 (fun w' => w'.cell? ⟨w.heap.size, 0, none⟩ = some (.bool s.ln) ∧ w'.cell? ⟨w.heap.size, 1, none⟩ = some (.slice s.la s.lN s.lc) ∧ w'.cell? ⟨w.heap.size, 2, none⟩ = some (.bool s.hn) ∧ w'.cell? ⟨w.heap.size, 3, none⟩ = some (.slice s.ha s.hN s.hc) ∧ w'.cell? ⟨w.heap.size, 4, none⟩ = some (.int .i64 s.bits) ∧ w'.cell? ⟨w.heap.size + 1, 0, none⟩ = some (.bool t.ln) ∧ w'.cell? ⟨w.heap.size + 1, 1, none⟩ = some (.slice t.la t.lN t.lc) ∧ w'.cell? ⟨w.heap.size + 1, 2, none⟩ = some (.bool t.hn) ∧ w'.cell? ⟨w.heap.size + 1, 3, none⟩ = some (.slice t.ha t.hN t.hc) ∧ w'.cell? ⟨w.heap.size + 1, 4, none⟩ = some (.int .i64 t.bits)) (first | exact unhide HK _ (by first | with_reducible exact hD0 | with_reducible exact hD6 | with_reducible exact hD5 | with_reducible exact hD4 | with_reducible exact hD3 | with_reducible exact hD2 | with_reducible exact hD1) | go_keep)
    (first
      | (go_at_call 23; have hq := hD5; refine (touch_gt _ s t k i 0 lo hi lo' hi' (((unhide HS).below hD5).mono hk0) ((unhide HT).below hD5) hk (by have := unhide HSB; omega) (by have := unhide HSB; omega) (by have := unhide HTB; omega) (by have := unhide HTB; omega) (by have := unhide HSB; have := unhide HTB; omega) (by have := unhide HSB; have := unhide HTB; omega) (by have := unhide HTB; omega)).mono ?_; rintro r' w6 ⟨rfl, hb6⟩; rw [unhide HTO]; have hD6 := bthen hD5 hb6)
      | (go_at_call 22; have hq := hD4; refine (refOf_any _ s).mono ?_; rintro r' w5 ⟨rfl, hb5⟩; have hD5 := bthen hD4 hb5)
      | (go_at_call 49; have hq := hD3; refine (narrowBy_four _ s b lo hi ((unhide HS).below hD3) (unhide HSB) hbm (unhide HLE) (unhide HN)).mono ?_; rintro r' w4 ⟨rfl, hb4⟩; have hD4 := bthen hD3 hb4)
      | (go_at_call 24; have hq := hD2; refine (cmp_int _ _ _ _ _ _ _ _ _ _ lo hi _ ((unhide HS).lo.below hD2) ((unhide HS).hi.below hD2)).mono ?_; rintro r' w3 ⟨rfl, hb3⟩; rw [unhide HC]; have hD3 := bthen hD2 hb3)
      | (go_at_call 50; have hq := hD1; refine (isRight_int _ _ _ _ 250 hi _ ((unhide HS).hi.below hD1)).mono ?_; rintro r' w2 ⟨rfl, hb2⟩; have hD2 := bthen hD1 hb2)
      | (go_at_call 50; refine (isRight_int _ _ _ _ 250 lo _ ((unhide HS).lo.below hD0)).mono ?_; rintro r' w1 ⟨rfl, hb1⟩; have hD1 := bthen hD0 hb1))
  all_goals
    go_wp2_with fail
    go_ret
    exact ⟨rfl, bthen hBW hD6⟩
end Go.Proofs.Ytgmnknmjainabab
namespace Go.Proofs.Ytgmnknmjainabab
open Go.RowKit
attribute [local go_sem ↓] Go.wp_at_zero Go.wp_at_succ
set_option maxRecDepth 100000 in
set_option maxHeartbeats 2000000 in
theorem refHalved (w : World) (s : Sp) (k b : Nat) (a : Int × Int) (hs : SpAt w s k a.1 a.2) (hle : a.1 ≤ a.2) (hk : k ≤ 1000000) (hbits : s.bits = (b : Int)) :
    Calls Try.prog 108 #[.agg #[.bool s.ln, .slice s.la s.lN s.lc, .bool s.hn, .slice s.ha s.hN s.hc, .int .i64 s.bits], .int .i64 64] w (SpanAns w b (k + 34) (scaleI a 1 (Q 64)).1 (scaleI a 1 (Q 64)).2) := by
  obtain ⟨W, hW⟩ : ∃ W, W = (w.alloc (.cells #[.bool s.ln, .slice s.la s.lN s.lc, .bool s.hn, .slice s.ha s.hN s.hc, .int .i64 s.bits] 36)).alloc (.cells #[.bool false, .slice none 0 0, .bool false, .slice none 0 0, .int .i64 0] 36) := ⟨_, rfl⟩
  have hBW : Below w.heap.size w W := by rw [hW]; exact bl2 _ _ _
  have A : SpC W w.heap.size s := by rw [hW]; exact ⟨by simp [go_sem], by simp [go_sem], by simp [go_sem], by simp [go_sem], by simp [go_sem]⟩
  have R : NoC W (w.heap.size + 1) := by rw [hW]; exact ⟨by simp [go_sem], by simp [go_sem], by simp [go_sem], by simp [go_sem], by simp [go_sem], fun o => by simp [go_sem]⟩
  have HS := hide (hs.below hBW)
  have HB := hide hbits
  have lR := R.lt
  have lA := A.lt
  have HK := hide (show ∀ w', Below W.heap.size W w' → (w'.cell? ⟨w.heap.size, 0, none⟩ = some (.bool s.ln) ∧ w'.cell? ⟨w.heap.size, 1, none⟩ = some (.slice s.la s.lN s.lc) ∧ w'.cell? ⟨w.heap.size, 2, none⟩ = some (.bool s.hn) ∧ w'.cell? ⟨w.heap.size, 3, none⟩ = some (.slice s.ha s.hN s.hc) ∧ w'.cell? ⟨w.heap.size, 4, none⟩ = some (.int .i64 s.bits)) from fun w' hB => ⟨(A.below hB).c0, (A.below hB).c1, (A.below hB).c2, (A.below hB).c3, (A.below hB).c4⟩)
  clear A hs hbits
  go_enter Try.func108, Try.ntmps108
  go_wp2
  rw [← hW]
  clear hW
  have n10 : w.heap.size + 1 ≠ w.heap.size := by omega
  obtain ⟨x0, x1, x2, x3, x4⟩ := unhide HK _ (Below.refl _ _)
  have hD0 : Below W.heap.size W W.drew := (Below.refl _ _).drew
  go_region_held3 (fun w' => w'.cell? ⟨w.heap.size, 0, none⟩ = some (.bool s.ln) ∧ w'.cell? ⟨w.heap.size, 1, none⟩ = some (.slice s.la s.lN s.lc) ∧ w'.cell? ⟨w.heap.size, 2, none⟩ = some (.bool s.hn) ∧ w'.cell? ⟨w.heap.size, 3, none⟩ = some (.slice s.ha s.hN s.hc) ∧ w'.cell? ⟨w.heap.size, 4, none⟩ = some (.int .i64 s.bits)) (first | exact unhide HK _ (by first | with_reducible exact hD0 | with_reducible exact hD2 | with_reducible exact hD1) | go_keep)
    (first
      | (go_at_call 140; have hqq := hD1; refine (refScaled_z 64 _ s ⟨neg1, a1, n1, c1⟩ k 4 64 b rfl a 1 ((unhide HS).below hD1) hint1 hle (by decide) (by omega) (by omega) (by omega) (unhide HB)).mono ?_; rintro r' w2 ⟨t, rfl, htb, htp, hb2⟩; have HT := hide htb; clear htb; have hD2 := bthen hD1 hb2; obtain ⟨q0, q1, q2, q3, q4, q5⟩ := R.below hD2; obtain ⟨i0, i1, i2, i3, i4⟩ := unhide HK _ hD2)
      | (go_at_call 48; refine (numOf_int 1 _ (by omega) (by omega)).mono ?_; rintro r' w1 ⟨neg1, a1, n1, c1, rfl, hint1, hb1⟩; have hD1 := bthen hD0 hb1))
  all_goals
    go_wp2_with fail
    refine bodyPost_ret (v := .agg #[.bool t.ln, .slice t.la t.lN t.lc, .bool t.hn, .slice t.ha t.hN t.hc, .int .i64 t.bits]) (by simp [results, Try.results108, go_sem, q0, q1, q2, q3, q4]) rfl ⟨t, rfl, unhide HT, ?_, ?_⟩
    · exact SpAt.put5 (htp.mono (by omega)) q0 q1 q2 q3 q4 _ _ _ _ _
    · exact set5 (bthen hBW hD2) (Nat.le_succ _) _ _ _ _ _
def Gr1 (bt : Int) (p q : Nat → Int) (n i : Nat) (e : Int) : Prop := (e = 3 ∧ RFlt bt p q n 3) ∨ (RFlt bt p q n 0 ∧ ((e = 0 ∧ ∀ j, j < i → 0 < p j) ∨ (e = 5 ∧ ∃ j, j < n ∧ p j ≤ 0)))
def Gr2 (bt : Int) (p q : Nat → Int) (n i : Nat) (e : Int) : Prop := (e = 3 ∧ RFlt bt p q n 3) ∨ (RFlt bt p q n 0 ∧ ((e = 5 ∧ ∃ j, j < n ∧ p j ≤ 0) ∨ ((∀ j, j < n → 0 < p j) ∧ ((e = 0 ∧ ∀ j, j < i → p j ≤ 100 * q j) ∨ (e = 2 ∧ ∃ j, j < n ∧ 100 * q j < p j)))))
def GrX (bt : Int) (p q : Nat → Int) (n : Nat) (e : Int) : Prop := Gr1 bt p q n n e
theorem Gr1.start {bt : Int} {p q : Nat → Int} {n : Nat} {z : Int} (h : RFlt bt p q n z) : Gr1 bt p q n 0 z := by
  rcases h with ⟨e, h1, h2⟩ | ⟨e, h1⟩
  · subst e; exact Or.inr ⟨Or.inl ⟨rfl, h1, h2⟩, Or.inl ⟨rfl, fun j hj => by omega⟩⟩
  · subst e; exact Or.inl ⟨rfl, Or.inr ⟨rfl, h1⟩⟩
theorem Gr1.none {bt : Int} {p q : Nat → Int} {n i : Nat} (h : Gr1 bt p q n i 0) (hi : i < n) (hp : p i ≤ 0) : Gr1 bt p q n (i + 1) 5 := by
  rcases h with ⟨e, _⟩ | ⟨h, _⟩
  · omega
  · exact Or.inr ⟨h, Or.inr ⟨rfl, i, hi, hp⟩⟩
theorem Gr1.ok {bt : Int} {p q : Nat → Int} {n i : Nat} (h : Gr1 bt p q n i 0) (hp : 0 < p i) : Gr1 bt p q n (i + 1) 0 := by
  rcases h with ⟨e, _⟩ | ⟨h, ⟨_, k⟩ | ⟨e, _⟩⟩
  · omega
  · refine Or.inr ⟨h, Or.inl ⟨rfl, fun j hj => ?_⟩⟩
    by_cases c : j = i
    · subst c; exact hp
    · exact k j (by omega)
  · omega
theorem Gr1.fin {bt : Int} {p q : Nat → Int} {n i : Nat} {e : Int} (h : Gr1 bt p q n i e) (hc : i = n ∨ e ≠ 0) : GrX bt p q n e := by
  rcases hc with c | c
  · subst c; exact h
  · rcases h with h | ⟨h, ⟨e', _⟩ | k⟩
    · exact Or.inl h
    · exact absurd e' c
    · exact Or.inr ⟨h, Or.inr k⟩
theorem GrX.two {bt : Int} {p q : Nat → Int} {n : Nat} {e : Int} (h : GrX bt p q n e) : Gr2 bt p q n 0 e := by
  rcases h with h | ⟨h, ⟨e', k⟩ | k⟩
  · exact Or.inl h
  · exact Or.inr ⟨h, Or.inr ⟨k, Or.inl ⟨e', fun j hj => by omega⟩⟩⟩
  · exact Or.inr ⟨h, Or.inl k⟩
theorem Gr2.rok {bt : Int} {p q : Nat → Int} {n i : Nat} (h : Gr2 bt p q n i 0) : ∀ j, j < n → rok (p j) (q j) := by
  rcases h with ⟨e, _⟩ | ⟨h, _⟩
  · omega
  · exact RFlt.all h
theorem Gr2.many {bt : Int} {p q : Nat → Int} {n i : Nat} (h : Gr2 bt p q n i 0) (hi : i < n) (hp : 100 * q i < p i) : Gr2 bt p q n (i + 1) 2 := by
  rcases h with ⟨e, _⟩ | ⟨h, ⟨e, _⟩ | ⟨k, _⟩⟩
  · omega
  · omega
  · exact Or.inr ⟨h, Or.inr ⟨k, Or.inr ⟨rfl, i, hi, hp⟩⟩⟩
theorem Gr2.ok {bt : Int} {p q : Nat → Int} {n i : Nat} (h : Gr2 bt p q n i 0) (hi : i < n) (hp : p i ≤ 100 * q i) : Gr2 bt p q n (i + 1) 0 := by
  rcases h with ⟨e, _⟩ | ⟨h, ⟨e, _⟩ | ⟨k, ⟨_, l⟩ | ⟨e, _⟩⟩⟩
  · omega
  · omega
  · refine Or.inr ⟨h, Or.inr ⟨k, Or.inl ⟨rfl, fun j hj => ?_⟩⟩⟩
    by_cases c : j = i
    · subst c; exact hp
    · exact l j (by omega)
  · omega
theorem Gr2.fin {bt : Int} {p q : Nat → Int} {n i : Nat} {e : Int} (h : Gr2 bt p q n i e) (hc : i = n ∨ e ≠ 0) : GmE bt p q n e := by
  rcases h with ⟨e1, h⟩ | ⟨h, ⟨e1, k⟩ | ⟨k, ⟨e1, l⟩ | ⟨e1, l⟩⟩⟩
  · subst e1; exact Or.inl ⟨h, rfl⟩
  · exact Or.inr ⟨h, Or.inl ⟨e1, k⟩⟩
  · rcases hc with c | c
    · subst c; exact Or.inr ⟨h, Or.inr (Or.inr ⟨e1, fun j hj => ⟨k j hj, l j hj⟩⟩)⟩
    · exact absurd e1 c
  · exact Or.inr ⟨h, Or.inr (Or.inl ⟨e1, k, l⟩)⟩
set_option maxRecDepth 100000 in
set_option maxHeartbeats 4000000 in
theorem gammaReady_any (bt : Int) (b n cap : Nat) (p q : Nat → Int) (w : World) (h : Rats w b n p q) (hn : n ≤ 1000) :
    Calls Try.prog 26 #[.int .i64 bt, .slice (some ⟨b, 0, none⟩) n cap] w fun r w' => ∃ z, r = .returned (.int .i64 z) ∧ GmE bt p q n z ∧ Below w.heap.size w w' := by
  have hblt := h.lt
  have HH := hide h
  clear h
  go_enter Try.func26, Try.ntmps26
  go_wp2_with fail
  refine (refReady_any bt b n cap p q _ (unhide HH) hn).mono ?_
  rintro r w1 ⟨z, rfl, hz, hB⟩
  have HZ := hide hz
  clear hz
  go_wp2_with fail
  go_loopw [5, 6] (fun ee ii wr => ∃ (i : Nat) (e : Int), ii = .int .i64 (i : Int) ∧ ee = .int .i64 e ∧ i ≤ n ∧ Gr1 bt p q n i e ∧ Below w.heap.size w wr) (fun _ ii _ => n - (intOf ii).toNat)
  case atStart => exact ⟨0, z, by simp, rfl, by omega, Gr1.start (unhide HZ), hB⟩
  case round =>
    clear hB
    obtain ⟨i, e, rfl, rfl, hi, h1, hB⟩ := hrel
    have H1 := hide h1
    clear h1
    by_cases hin : i < n
    · have hi1 : (i : Int) < (n : Int) := by omega
      have R1 := (unhide HH).below hB
      have g0 := R1.c0 i hin
      have g1 := R1.c1 i hin
      have hblt1 := R1.lt
      clear R1
      by_cases he : e = 0
      · subst he
        by_cases hp : p i ≤ 0
        · go_wp2_with fail
          go_roundw
          case rel => exact ⟨i + 1, 5, by go_num, rfl, by omega, (unhide H1).none hin hp, hB⟩
          case measure => simp [intOf]; omega
        · have hp' : ¬ p i ≤ 0 := hp
          go_wp2_with fail
          go_roundw
          case rel => exact ⟨i + 1, 0, by go_num, rfl, by omega, (unhide H1).ok (by omega), hB⟩
          case measure => simp [intOf]; omega
      · have HX := hide ((unhide H1).fin (Or.inr he))
        clear g0 g1
        go_wp2_with fail
        go_loopw [5, 7] (fun ee ii wr => ∃ (i : Nat) (e : Int), ii = .int .i64 (i : Int) ∧ ee = .int .i64 e ∧ i ≤ n ∧ e ≠ 0 ∧ Gr2 bt p q n i e ∧ Below w.heap.size w wr) (fun _ ii _ => n - (intOf ii).toNat)
        case atStart => exact ⟨0, e, by simp, rfl, by omega, he, (unhide HX).two, hB⟩
        case round =>
          clear hB
          obtain ⟨j, e2, rfl, rfl, hj, he2, h2, hB⟩ := hrel
          have H2 := hide h2
          clear h2
          by_cases hjn : j < n
          · have hj1 : (j : Int) < (n : Int) := by omega
            go_wp2_with fail
            go_ret
            exact ⟨e2, rfl, (unhide H2).fin (Or.inr he2), hB⟩
          · have hj1 : ¬ (j : Int) < (n : Int) := by omega
            go_wp2_with fail
            go_ret
            exact ⟨e2, rfl, (unhide H2).fin (Or.inr he2), hB⟩
    · have hi1 : ¬ (i : Int) < (n : Int) := by omega
      have HX := hide ((unhide H1).fin (Or.inl (show i = n by omega)))
      go_wp2_with fail
      go_loopw [5, 7] (fun ee ii wr => ∃ (i : Nat) (e : Int), ii = .int .i64 (i : Int) ∧ ee = .int .i64 e ∧ i ≤ n ∧ Gr2 bt p q n i e ∧ Below w.heap.size w wr) (fun _ ii _ => n - (intOf ii).toNat)
      case atStart => exact ⟨0, e, by simp, rfl, by omega, (unhide HX).two, hB⟩
      case round =>
        clear hB
        obtain ⟨j, e2, rfl, rfl, hj, h2, hB⟩ := hrel
        have H2 := hide h2
        by_cases hjn : j < n
        · have hj1 : (j : Int) < (n : Int) := by omega
          have R2 := (unhide HH).below hB
          have g0 := R2.c0 j hjn
          have g1 := R2.c1 j hjn
          have hblt2 := R2.lt
          clear h2 R2
          by_cases he2 : e2 = 0
          · subst he2
            have rk := (unhide H2).rok j hjn
            obtain ⟨r1, r2, r3, r4⟩ := rk
            by_cases hp : 100 * q j < p j
            · go_wp2_with fail
              (try go_region)
              all_goals
                go_wp2_with fail
                go_roundw
                case rel => exact ⟨j + 1, 2, by go_num, rfl, by omega, (unhide H2).many hjn hp, (by first | exact hB | exact hB.drew)⟩
                case measure => simp [intOf]; omega
            · have hp' : ¬ 100 * q j < p j := hp
              go_wp2_with fail
              (try go_region)
              all_goals
                go_wp2_with fail
                go_roundw
                case rel => exact ⟨j + 1, 0, by go_num, rfl, by omega, (unhide H2).ok hjn (by omega), (by first | exact hB | exact hB.drew)⟩
                case measure => simp [intOf]; omega
          · go_wp2_with fail
            go_ret
            exact ⟨e2, rfl, (unhide H2).fin (Or.inr he2), hB⟩
        · have hj1 : ¬ (j : Int) < (n : Int) := by omega
          clear h2
          go_wp2_with fail
          go_ret
          exact ⟨e2, rfl, (unhide H2).fin (Or.inl (by omega)), hB⟩
end Go.Proofs.Ytgmnknmjainabab
