/-
  Texts Tou, Two2, Lowx, Rais, Psu, Pel, GamT, LgmC, UppM, BetV, SerM, ExqI, UppI, Ex2I: what they hold is told in the last text.
-/
import Derived.Test.YtgmnknmjainababK16
set_option linter.unnecessarySimpa false
set_option linter.unusedSimpArgs false
set_option linter.unusedVariables false
namespace Go.Proofs.Ytgmnknmjainabab
open Go.RowKit
attribute [local go_sem ↓] Go.wp_at_zero Go.wp_at_succ
def touB (lo hi : Int) (i : Nat) (lo' hi' : Int) (j : Nat) : Bool := decide (lo * Q i ≤ hi' * Q j) && decide (lo' * Q j ≤ hi * Q i)
theorem downZ_up (x : Int) (a b : Int) (i : Nat) (h : b - a = (i : Int)) : downZ x (a - b) = x * Q i := by
  unfold downZ
  by_cases h0 : i = 0
  · subst h0
    have e : a - b = 0 := by omega
    rw [e]; simp [Q]
  · rw [if_neg (by omega)]; congr 2; omega
theorem downZ_upn (x : Int) (a b : Int) (i : Nat) (h : b - a = (i : Int)) : -(downZ (-x) (a - b)) = x * Q i := by
  rw [downZ_up _ a b i h, Int.neg_mul, Int.neg_neg]
set_option maxRecDepth 100000 in
set_option maxHeartbeats 4000000 in
theorem touch_le (w : World) (s t : Sp) (k i j : Nat) (lo hi lo' hi' : Int) (hs : SpAt w s k lo hi) (ht : SpAt w t k lo' hi') (hk : k ≤ 300000000) (s0 : 0 ≤ s.bits) (s1 : s.bits ≤ 1000000) (t0 : 0 ≤ t.bits) (t1 : t.bits ≤ 1000000) (hc : t.bits ≤ s.bits) (hi1 : s.bits - s.bits = (i : Int)) (hj1 : s.bits - t.bits = (j : Int)) :
    Calls Try.prog 23 #[.agg #[.bool s.ln, .slice s.la s.lN s.lc, .bool s.hn, .slice s.ha s.hN s.hc, .int .i64 s.bits], .agg #[.bool t.ln, .slice t.la t.lN t.lc, .bool t.hn, .slice t.ha t.hN t.hc, .int .i64 t.bits]] w fun r w' => r = .returned (.bool (touB lo hi i lo' hi' j)) ∧ Below w.heap.size w w' := by
  obtain ⟨W, hW⟩ : ∃ W, W = (w.alloc (.cells #[.bool s.ln, .slice s.la s.lN s.lc, .bool s.hn, .slice s.ha s.hN s.hc, .int .i64 s.bits] 36)).alloc (.cells #[.bool t.ln, .slice t.la t.lN t.lc, .bool t.hn, .slice t.ha t.hN t.hc, .int .i64 t.bits] 36) := ⟨_, rfl⟩
  have hBW : Below w.heap.size w W := by rw [hW]; exact bl2 _ _ _
  have A : SpC W w.heap.size s := by rw [hW]; exact ⟨by simp [go_sem], by simp [go_sem], by simp [go_sem], by simp [go_sem], by simp [go_sem]⟩
  have G : SpC W (w.heap.size + 1) t := by rw [hW]; exact ⟨by simp [go_sem], by simp [go_sem], by simp [go_sem], by simp [go_sem], by simp [go_sem]⟩
  have FA : ∀ o, W.frozen? ⟨w.heap.size, o, none⟩ = false := by intro o; rw [hW]; simp [go_sem]
  have FG : ∀ o, W.frozen? ⟨w.heap.size + 1, o, none⟩ = false := by intro o; rw [hW]; simp [go_sem]
  have a1 := hide (downZ_up lo s.bits (s.bits) i hi1)
  have a2 := hide (downZ_upn hi s.bits (s.bits) i hi1)
  have a3 := hide (downZ_up lo' t.bits (s.bits) j hj1)
  have a4 := hide (downZ_upn hi' t.bits (s.bits) j hj1)
  have HS := hide (hs.below hBW)
  have HT := hide (ht.below hBW)
  have HA := hide A
  have HG := hide G
  have lA := A.lt
  have lG := G.lt
  have nAG : w.heap.size ≠ w.heap.size + 1 := by omega
  clear hi1 hj1 hs ht
  go_enter Try.func23, Try.ntmps23
  go_wp2_with fail
  rw [← hW]
  clear hW
  obtain ⟨x0, x1, x2, x3, x4⟩ := A
  obtain ⟨y0, y1, y2, y3, y4⟩ := G
  try go_wp2_with fail
  go_cut [] (fun wx => ∃ s2 t2 : Sp, SpC wx w.heap.size s2 ∧ SpC wx (w.heap.size + 1) t2 ∧ SpAt wx s2 (k + 62505) (lo * Q i) (hi * Q i) ∧ SpAt wx t2 (k + 62505) (lo' * Q j) (hi' * Q j) ∧ Below w.heap.size w wx)
  case first =>
    go_region_with
      (first
        | (go_at_call 58; have hq := hB1; refine (refTurn_int _ t k (s.bits) lo' hi' ((unhide HT).below hB1) hk t0 t1 (by omega) (by omega)).mono ?_; rintro r w2 ⟨u2, rfl, hub2, hup2, hb2⟩; rw [unhide a3, unhide a4] at hup2; clear hub2; have hB2 := bthen hB1 hb2; replace hup1 := hup1.below hb2; have l2A := Nat.lt_of_lt_of_le lA hB2.size; have l2G := Nat.lt_of_lt_of_le lG hB2.size; obtain ⟨a0, a1, a2, a3, a4⟩ := (unhide HA).below hB2; obtain ⟨g0, g1, g2, g3, g4⟩ := (unhide HG).below hB2; have fA2 : ∀ o, w2.frozen? ⟨w.heap.size, o, none⟩ = false := (fun o => (hB2.frozen (p := ⟨w.heap.size, o, none⟩) lA).trans (FA o)); have fG2 : ∀ o, w2.frozen? ⟨w.heap.size + 1, o, none⟩ = false := (fun o => (hB2.frozen (p := ⟨w.heap.size + 1, o, none⟩) lG).trans (FG o)))
        | (go_at_call 58; refine (refTurn_int _ s k (s.bits) lo hi ((unhide HS).below (by repeat' (first | with_reducible exact Below.refl _ _ | with_reducible refine Below.drew ?_))) hk s0 s1 (by omega) (by omega)).mono ?_; rintro r w1 ⟨u1, rfl, hub1, hup1, hb1⟩; rw [unhide a1, unhide a2] at hup1; clear hub1; have hB1 : Below W.heap.size W w1 := bthen (by repeat' (first | with_reducible exact Below.refl _ _ | with_reducible refine Below.drew ?_)) hb1; obtain ⟨b0, b1, b2, b3, b4⟩ := (unhide HA).below hB1; obtain ⟨d0, d1, d2, d3, d4⟩ := (unhide HG).below hB1; have l1A := Nat.lt_of_lt_of_le lA hB1.size; have l1G := Nat.lt_of_lt_of_le lG hB1.size))
    all_goals
      go_wp2_with fail
      go_meet
      have A2 : SpC w2 w.heap.size s := ⟨a0, a1, a2, a3, a4⟩
      have G2 : SpC w2 (w.heap.size + 1) t := ⟨g0, g1, g2, g3, g4⟩
      obtain ⟨p1, p2, p3, p4⟩ := two_sp A2 G2 nAG u1 u2
      exact ⟨u1, u2, p1, p2, p3 hup1, p3 hup2, set5 (set5 (bthen hBW hB2) (Nat.le_refl _) _ _ _ _ _) (Nat.le_succ _) _ _ _ _ _⟩
  case rest =>
  obtain ⟨s2, t2, A, G, hs, ht, hBW⟩ := hcut
  clear HA HG HS HT lA lG x0 x1 x2 x3 x4 y0 y1 y2 y3 y4 FA FG
  have lA := A.lt
  have lG := G.lt
  by_cases hq : lo * Q i ≤ hi' * Q j
  · have c1 : cmpInt (lo * Q i) (hi' * Q j) ≤ 0 := by unfold cmpInt; split; omega; rw [if_neg (by omega)]; omega
    have HE := hide (show decide (cmpInt (lo' * Q j) (hi * Q i) ≤ 0) = touB lo hi i lo' hi' j by rw [cmp_le0]; unfold touB; rw [decide_eq_true hq, Bool.true_and])
    obtain ⟨x0, x1, x2, x3, x4⟩ := A
    obtain ⟨y0, y1, y2, y3, y4⟩ := G
    clear hq
    go_wp2_with fail
    refine (cmp_int _ _ _ _ _ _ _ _ (k + 62505) (k + 62505) (lo * Q i) (hi' * Q j) _ hs.lo ht.hi).mono ?_
    rintro r w1 ⟨rfl, hb1⟩
    have A := (SpC.mk x0 x1 x2 x3 x4).below hb1
    have G := (SpC.mk y0 y1 y2 y3 y4).below hb1
    replace hs := hs.below hb1
    replace ht := ht.below hb1
    replace hBW := bthen hBW hb1
    clear x0 x1 x2 x3 x4 y0 y1 y2 y3 y4 hb1
    obtain ⟨x0, x1, x2, x3, x4⟩ := A
    obtain ⟨y0, y1, y2, y3, y4⟩ := G
    go_wp2_with fail
    refine (cmp_int _ _ _ _ _ _ _ _ (k + 62505) (k + 62505) (lo' * Q j) (hi * Q i) _ ht.lo hs.hi).mono ?_
    rintro r w2 ⟨rfl, hb2⟩
    replace hBW := bthen hBW hb2
    go_wp2_with fail
    go_ret
    exact ⟨by rw [← unhide HE]; rfl, hBW⟩
  · have c1 : ¬ cmpInt (lo * Q i) (hi' * Q j) ≤ 0 := by unfold cmpInt; rw [if_neg (by omega), if_pos (by omega)]; omega
    have HE := hide (show touB lo hi i lo' hi' j = false by unfold touB; rw [decide_eq_false hq, Bool.false_and])
    obtain ⟨x0, x1, x2, x3, x4⟩ := A
    obtain ⟨y0, y1, y2, y3, y4⟩ := G
    clear hq
    go_wp2_with fail
    refine (cmp_int _ _ _ _ _ _ _ _ (k + 62505) (k + 62505) (lo * Q i) (hi' * Q j) _ hs.lo ht.hi).mono ?_
    rintro r w1 ⟨rfl, hb1⟩
    replace hBW := bthen hBW hb1
    go_wp2_with fail
    go_ret
    exact ⟨by rw [unhide HE]; rfl, hBW⟩
end Go.Proofs.Ytgmnknmjainabab
namespace Go.Proofs.Ytgmnknmjainabab
open Go.RowKit
attribute [local go_sem ↓] Go.wp_at_zero Go.wp_at_succ
def TwoP (W wx : World) (b k1 k2 : Nat) (a c : Int × Int) (p q : Value) : Prop :=
  ∃ (B B' : Nat) (x y : Sp), p = .pointer (some ⟨B, 0, none⟩) ∧ q = .pointer (some ⟨B', 0, none⟩) ∧ W.heap.size ≤ B ∧ W.heap.size ≤ B' ∧ B ≠ B' ∧ VrC wx B x ∧ VrC wx B' y ∧ SpAt wx x k1 a.1 a.2 ∧ SpAt wx y k2 c.1 c.2 ∧ x.bits = (b : Int) ∧ y.bits = (b : Int) ∧ Below W.heap.size W wx
variable {W w2 : World} {b k1 k2 : Nat} {a c : Int × Int} {x y : Sp} {T : TypeId}
end Go.Proofs.Ytgmnknmjainabab
namespace Go.Proofs.Ytgmnknmjainabab
open Go.RowKit
attribute [local go_sem ↓] Go.wp_at_zero Go.wp_at_succ
structure LowSt (w wr : World) (B5 B6 B7 b K : Nat) (U Pp Sm : Sp) (f : Nat → Int × Int) (X : Int) (i : Nat) : Prop where
  u : VrC wr B5 U
  p : VrC wr B6 Pp
  s : VrC wr B7 Sm
  up : SpAt wr U K (f i).1 (f i).2
  pp : SpAt wr Pp K X X
  sp : SpAt wr Sm K (sumI f i).1 (sumI f i).2
  ub : U.bits = (b : Int)
  pb : Pp.bits = (b : Int)
  sb : Sm.bits = (b : Int)
  no : NoC wr (w.heap.size + 1)
  be : Below w.heap.size w wr
  l5 : w.heap.size + 1 < B5
  l6 : w.heap.size + 1 < B6
  l7 : w.heap.size + 1 < B7
  n56 : B5 ≠ B6
  n57 : B5 ≠ B7
  n67 : B6 ≠ B7
theorem LowSt.below {w wr wr' : World} {B5 B6 B7 b K : Nat} {U Pp Sm : Sp} {f : Nat → Int × Int} {X : Int} {i : Nat} (h : LowSt w wr B5 B6 B7 b K U Pp Sm f X i) (hb : Below wr.heap.size wr wr') : LowSt w wr' B5 B6 B7 b K U Pp Sm f X i :=
  ⟨h.u.below hb, h.p.below hb, h.s.below hb, h.up.below hb, h.pp.below hb, h.sp.below hb, h.ub, h.pb, h.sb, h.no.below hb, bthen h.be hb, h.l5, h.l6, h.l7, h.n56, h.n57, h.n67⟩
end Go.Proofs.Ytgmnknmjainabab
namespace Go.Proofs.Ytgmnknmjainabab
open Go.RowKit
attribute [local go_sem ↓] Go.wp_at_zero Go.wp_at_succ
structure RaiSt2 (w wr : World) (B5 b K : Nat) (O S : Sp) (o s : Int × Int) : Prop where
  u : VrC wr B5 O
  v : VrC wr w.heap.size S
  up : SpAt wr O K o.1 o.2
  vp : SpAt wr S K s.1 s.2
  ub : O.bits = (b : Int)
  vb : S.bits = (b : Int)
  no : NoC wr (w.heap.size + 1)
  be : Below w.heap.size w wr
  l5 : w.heap.size + 1 < B5
theorem RaiSt2.below {w wr wr' : World} {B5 b K : Nat} {O S : Sp} {o s : Int × Int} (h : RaiSt2 w wr B5 b K O S o s) (hb : Below wr.heap.size wr wr') : RaiSt2 w wr' B5 b K O S o s :=
  ⟨h.u.below hb, h.v.below hb, h.up.below hb, h.vp.below hb, h.ub, h.vb, h.no.below hb, bthen h.be hb, h.l5⟩
end Go.Proofs.Ytgmnknmjainabab
namespace Go.Proofs.Ytgmnknmjainabab
open Go.RowKit
attribute [local go_sem ↓] Go.wp_at_zero Go.wp_at_succ
theorem narrowBy_four (w : World) (s : Sp) (b : Nat) (lo hi : Int) (h : SpAt w s 250 lo hi) (hb : s.bits = b) (hb1 : b ≤ 120) (hle : lo ≤ hi) (hN : narB lo hi (Q b) 4 = true) :
    Calls Try.prog 49 #[.agg #[.bool s.ln, .slice s.la s.lN s.lc, .bool s.hn, .slice s.ha s.hN s.hc, .int .i64 s.bits], .int .i64 4] w fun r w' => r = .returned (.bool true) ∧ Below w.heap.size w w' :=
  (narrowBy_int w s b 4 lo hi h hb hb1 (by omega) hle).mono fun r w' ⟨h1, h2⟩ => ⟨by rw [h1]; congr 2, h2⟩
end Go.Proofs.Ytgmnknmjainabab
namespace Go.Proofs.Ytgmnknmjainabab
open Go.RowKit
attribute [local go_sem ↓] Go.wp_at_zero Go.wp_at_succ
theorem touch_up {b i : Nat} {a c : Int × Int} {x : Nat → Rat} (h : Iv b a x) (k : Iv (b + i) c x) : touB a.1 a.2 i c.1 c.2 0 = true := by
  have q := Q_pos b
  have t1 := h.touch k
  have t2 := k.touch h
  rw [Q_add] at t1 t2
  have e1 : a.1 * (Q b * Q i) = a.1 * Q i * Q b := by grind
  have e2 : a.2 * (Q b * Q i) = a.2 * Q i * Q b := by grind
  rw [e1] at t1
  rw [e2] at t2
  have c1 : a.1 * Q i ≤ c.2 := Int.le_of_mul_le_mul_right t1 (by omega)
  have c2 : c.1 ≤ a.2 * Q i := Int.le_of_mul_le_mul_right t2 (by omega)
  have e0 : Q 0 = 1 := rfl
  unfold touB
  rw [e0]
  simp [c1, c2]
end Go.Proofs.Ytgmnknmjainabab
namespace Go.Proofs.Ytgmnknmjainabab
open Ex
theorem wholeG_iv (b : Nat) (c : Int) : Iv b (c * Q b, c * Q b) (fun _ => (c : Rat)) := by
  have q := Qr_pos b
  have e : ((c * Q b : Int) : Rat) / (Q b : Rat) = (c : Rat) := by
    rw [Rat.intCast_mul]
    exact Rat.le_antisymm (rdiv_le q Rat.le_refl) (rle_div q Rat.le_refl)
  refine Has.of_from 0 fun M _ => ?_
  simp only [e]
  exact ⟨Rat.le_refl, Rat.le_refl⟩
theorem tou_whole {b : Nat} {L H c : Int} {x : Nat → Rat} (h : Iv b (L, H) x) (hx : Null (fun M => (c : Rat) - x M)) : touB L H 0 (c * Q b) (c * Q b) 0 = true := by
  have k := h.congr hx
  exact touch_up (i := 0) k (wholeG_iv b c)
theorem gmV_next {n d : Int} (h0 : 0 < n) (hd : 0 < d) (g : Nat → Rat) (M : Nat) : gmV (n + d) d g M = gmV n d g M * ((n : Rat) / (d : Rat)) := by
  unfold gmV
  rw [stN_next hd h0, stP_next]
  have e : stQ d (stN n d + 1) = stQ d (stN n d) * d := rfl
  rw [e, Rat.intCast_mul, Rat.intCast_mul]
  have d0 : (0 : Rat) < (d : Rat) := by exact_mod_cast hd
  have q0 : (0 : Rat) < (stQ d (stN n d) : Rat) := by exact_mod_cast stQ_pos hd _
  generalize (stP n d (stN n d) : Rat) = P at *
  generalize (stQ d (stN n d) : Rat) = Q at *
  generalize g M = y
  have k : (n : Rat) * P / (Q * (d : Rat)) = P / Q * ((n : Rat) / (d : Rat)) := by
    have qd := Rat.mul_pos q0 d0
    refine rat_cancel qd ?_
    have e1 := rdm (a := (n : Rat) * P) qd
    have e2 := rdm (a := P) q0
    have e3 := rdm (a := (n : Rat)) d0
    have r1 : Q * (d : Rat) * ((n : Rat) * P / (Q * (d : Rat))) = (n : Rat) * P / (Q * (d : Rat)) * (Q * (d : Rat)) := by grind
    have r2 : Q * (d : Rat) * (P / Q * ((n : Rat) / (d : Rat))) = P / Q * Q * ((n : Rat) / (d : Rat) * (d : Rat)) := by grind
    rw [r1, r2, e1, e2, e3]; grind
  rw [k]; grind
end Go.Proofs.Ytgmnknmjainabab
namespace Go.Proofs.Ytgmnknmjainabab
open Ex
namespace Ex
theorem IsGam.congr {L : Rat → Nat → Rat} {a : Rat} {g g' : Nat → Rat} (h : IsGam L a g) (e : ∀ M, g' M = g M) : IsGam L a g' := by
  have : g' = g := funext e
  rw [this]; exact h
end Ex
theorem gam_steps {L : Rat → Nat → Rat} (hL : Lns L) {n d : Int} {g : Nat → Rat} (h0 : 0 < n) (h1 : n ≤ d) (hg : Gam1 L ((n : Rat) / (d : Rat)) g) (k : Nat) : IsGam L (((n + (k : Int) * d : Int) : Rat) / (d : Rat)) (gmV (n + (k : Int) * d) d g) := by
  have d0 : 0 < d := by omega
  have dr : (0 : Rat) < (d : Rat) := by exact_mod_cast d0
  have nr : (0 : Rat) < (n : Rat) := by exact_mod_cast h0
  induction k with
  | zero =>
    have e : n + ((0 : Nat) : Int) * d = n := by have : ((0 : Nat) : Int) = 0 := rfl
                                                 rw [this]; omega
    rw [e]
    refine (hg.isGam hL (rdiv_pos nr dr)).congr fun M => ?_
    have s : stN n d = 0 := by unfold stN; rw [Int.ediv_eq_zero_of_lt (by omega) (by omega)]; rfl
    unfold gmV
    rw [s]
    show ((1 : Int) : Rat) / ((1 : Int) : Rat) * g M = g M
    have : ((1 : Int) : Rat) / ((1 : Int) : Rat) = 1 := by decide +kernel
    rw [this]; grind
  | succ k ih =>
    have kd := Int.mul_nonneg (show (0 : Int) ≤ (k : Int) by omega) (show 0 ≤ d by omega)
    have e : n + ((k + 1 : Nat) : Int) * d = n + (k : Int) * d + d := by
      have : ((k + 1 : Nat) : Int) = (k : Int) + 1 := by omega
      rw [this]; grind
    have p : 0 < n + (k : Int) * d := by omega
    have pr' : (0 : Rat) < ((n + (k : Int) * d : Int) : Rat) := by exact_mod_cast p
    have nx := ih.next hL (rdiv_pos pr' dr)
    rw [e]
    have ea : ((n + (k : Int) * d + d : Int) : Rat) / (d : Rat) = ((n + (k : Int) * d : Int) : Rat) / (d : Rat) + 1 := by
      rw [Rat.intCast_add (n + (k : Int) * d) d, rdiv_add]
      have : (d : Rat) / (d : Rat) = 1 := Rat.le_antisymm (rdiv_le dr (by grind)) (rle_div dr (by grind))
      rw [this]
    rw [ea]
    refine nx.congr fun M => ?_
    rw [gmV_next p d0]; grind
theorem gam_ratio {L G : Rat → Nat → Rat} {X : Int → Int → Nat → Rat} (hE : GEnv L G X) {n d : Int} (h : StIn n d) : IsGam L ((n : Rat) / (d : Rat)) (gmV n d (G (gA n d))) := by
  obtain ⟨r1, r2, r3⟩ := h.rest
  have k := gam_steps hE.lns r1 r2 (hE.gam _ (gA_ok h).1 (gA_ok h).2) (stN n d)
  have e : n - (stN n d : Int) * d + (stN n d : Int) * d = n := by omega
  rw [e] at k
  exact k
end Go.Proofs.Ytgmnknmjainabab
namespace Go.Proofs.Ytgmnknmjainabab
open Ex
namespace Ex
def lw (L : Rat → Nat → Rat) (a x : Rat) (g : Nat → Rat) (M : Nat) : Rat := uG L a x M * (1 / g M)
theorem inv_of {g : Nat → Rat} (h : ∃ c : Rat, 0 < c ∧ ∃ N : Nat, ∀ M, N ≤ M → c ≤ g M) : Bdd (fun M => 1 / g M) ∧ Nn (fun M => 1 / g M) ∧ ∃ N : Nat, ∀ M, N ≤ M → g M * (1 / g M) = 1 ∧ 0 < g M ∧ 0 ≤ 1 / g M := by
  obtain ⟨c, c0, N, hc⟩ := h
  have one : ∀ M, N ≤ M → g M * (1 / g M) = 1 ∧ 0 < g M ∧ 0 ≤ 1 / g M := fun M hM => by
    have g0 : 0 < g M := by have := hc M hM; grind
    have := rdm (a := 1) g0
    exact ⟨by grind, g0, qle_div g0 (by grind)⟩
  refine ⟨Bdd.of_le (1 / c) N fun M hM => ?_, ⟨N, fun M hM => (one M hM).2.2⟩, N, one⟩
  obtain ⟨e1, e2, e3⟩ := one M hM
  have ic : 0 ≤ 1 / c := qle_div c0 (by grind)
  refine ⟨by grind, qdiv_le e2 ?_⟩
  have m := Rat.mul_le_mul_of_nonneg_left (hc M hM) ic
  have := rdm (a := 1) c0
  grind
theorem null_div {F l s : Nat → Rat} (hF : ∃ c : Rat, 0 < c ∧ ∃ N : Nat, ∀ M, N ≤ M → c ≤ F M) (h : Null (fun M => F M * l M - s M)) : Null (fun M => l M - s M / F M) := by
  obtain ⟨i1, i2, N, i3⟩ := inv_of hF
  refine (h.bmul i1).of_eq_from N fun M hM => ?_
  obtain ⟨e1, e2, e3⟩ := i3 M hM
  have d := rdm (a := s M) e2
  refine rat_cancel (c := F M) e2 ?_
  have r1 : F M * (l M - s M / F M) = F M * l M - s M / F M * F M := by grind
  have r2 : F M * ((F M * l M - s M) * (1 / F M)) = (F M * l M - s M) * (F M * (1 / F M)) := by grind
  rw [r1, r2, d, e1]; grind
end Ex
end Go.Proofs.Ytgmnknmjainabab
namespace Go.Proofs.Ytgmnknmjainabab.Ex
theorem bJ_pos {L : Rat → Nat → Rat} (hL : Lns L) {a b : Rat} (ha : 0 < a) (hb : 0 < b) : ∃ c : Rat, 0 < c ∧ ∃ N : Nat, ∀ M, N ≤ M → c ≤ bJ L a b M := by
  obtain ⟨c1, p1, N1, h1⟩ := Ev_low (pr_arg hL (show (0 : Rat) < 1 / 2 by grind) a)
  obtain ⟨c2, p2, N2, h2⟩ := Ev_low (pr_arg hL (show (0 : Rat) < 1 / 2 by grind) b)
  obtain ⟨N3, h3⟩ := bH_nn hL hb ha (show (0 : Rat) < 1 / 2 by grind) (by grind)
  have ip : 0 < 1 / a := rdiv_pos (by grind) ha
  refine ⟨c1 * c2 * (1 / a), Rat.mul_pos (Rat.mul_pos p1 p2) ip, N1 + N2 + N3 + 1, fun M hM => ?_⟩
  obtain ⟨m, rfl⟩ : ∃ m, M = m + 1 := ⟨M - 1, by omega⟩
  have f := bS_first ha hb (show (0 : Rat) ≤ 1 / 2 by grind) m
  have a1 : c1 ≤ pr L a (1 / 2) (m + 1) := h1 (m + 1) (by omega)
  have a2 : c2 ≤ pr L b (1 / 2) (m + 1) := h2 (m + 1) (by omega)
  have a3 := h3 (m + 1) (by omega)
  have e : (1 : Rat) - 1 / 2 = 1 / 2 := by grind
  have b' : c1 * c2 ≤ bP L a b (1 / 2) (m + 1) := by
    unfold bP
    rw [e]
    exact Rat.le_trans (Rat.mul_le_mul_of_nonneg_right a1 (Rat.le_of_lt p2)) (Rat.mul_le_mul_of_nonneg_left a2 (by grind))
  have c0 := Rat.mul_nonneg (Rat.le_of_lt p1) (Rat.le_of_lt p2)
  have k : c1 * c2 * (1 / a) ≤ bH L a b (1 / 2) (m + 1) := Rat.le_trans (Rat.mul_le_mul_of_nonneg_right b' (Rat.le_of_lt ip)) (Rat.mul_le_mul_of_nonneg_left f (by grind))
  unfold bJ
  grind
def bv (L : Rat → Nat → Rat) (a b x : Rat) (M : Nat) : Rat := bH L a b x M * (1 / bJ L a b M)
theorem bv_bdd {L : Rat → Nat → Rat} (hL : Lns L) {a b x : Rat} (ha : 0 < a) (hb : 0 < b) (hx : 0 < x) (h1 : x < 1) : Bdd (bv L a b x) := (bH_bdd hL ha hb hx h1).mul (inv_of (bJ_pos hL ha hb)).1
theorem bv_nn {L : Rat → Nat → Rat} (hL : Lns L) {a b x : Rat} (ha : 0 < a) (hb : 0 < b) (hx : 0 < x) (h1 : x < 1) : Nn (bv L a b x) := (bH_nn hL ha hb hx h1).mul (inv_of (bJ_pos hL ha hb)).2.1
theorem bv_mono {L : Rat → Nat → Rat} (hL : Lns L) {a b x y : Rat} (ha : 0 < a) (hb : 0 < b) (hx : 0 < x) (hxy : x ≤ y) (hy : y < 1) : LeN (bv L a b x) (bv L a b y) :=
  (bH_mono hL ha hb hx hxy hy).bmul (inv_of (bJ_pos hL ha hb)).1 (inv_of (bJ_pos hL ha hb)).2.1
theorem bv_turn {L : Rat → Nat → Rat} (hL : Lns L) {a b x : Rat} (ha : 0 < a) (hb : 0 < b) (hx : 0 < x) (h1 : x < 1) : Null (fun M => bv L a b x M - (1 - bv L b a (1 - x) M)) := by
  obtain ⟨i1, i2, N, i3⟩ := inv_of (bJ_pos hL ha hb)
  refine ((bJ_at hL ha hb hx h1).bmul i1).of_eq_from N fun M hM => ?_
  obtain ⟨e1, e2, e3⟩ := i3 M hM
  unfold bv
  rw [bJ_symm L b a M]
  generalize 1 / bJ L a b M = j at *
  generalize bJ L a b M = B at *
  generalize bH L a b x M = u at *
  generalize bH L b a (1 - x) M = v at *
  have : (u + v - B) * j = u * j + v * j - B * j := by grind
  rw [this, e1]; grind
theorem bv_one {L : Rat → Nat → Rat} (hL : Lns L) {a b x : Rat} (ha : 0 < a) (hb : 0 < b) (hx : 0 < x) (h1 : x < 1) : LeN (bv L a b x) (fun _ => 1) := by
  obtain ⟨N, hN⟩ := bv_nn hL hb ha (show 0 < 1 - x by grind) (by grind)
  exact LeN.of_null (bv_turn hL ha hb hx h1) N fun M hM => by have := hN M hM; grind
theorem bv_11 {L : Rat → Nat → Rat} (hL : Lns L) {x : Rat} (hx : 0 < x) (h1 : x < 1) : Null (fun M => bv L 1 1 x M - x) := by
  have one : (0 : Rat) < 1 := by grind
  obtain ⟨i1, i2, N, i3⟩ := inv_of (bJ_pos hL one one)
  refine (((bH_11 hL hx h1).bmul i1).sub (((bJ_11 hL).bmul i1).bmul (Bdd.const x))).of_eq_from N fun M hM => ?_
  obtain ⟨e1, e2, e3⟩ := i3 M hM
  unfold bv
  generalize 1 / bJ L 1 1 M = j at *
  generalize bJ L 1 1 M = B at *
  generalize bH L 1 1 x M = u at *
  have : (u - x) * j - (B - 1) * j * x = u * j - x * (B * j) := by grind
  rw [this, e1]; grind
theorem bv_21 {L : Rat → Nat → Rat} (hL : Lns L) {x : Rat} (hx : 0 < x) (h1 : x < 1) : Null (fun M => bv L 2 1 x M - x * x) := by
  have one : (0 : Rat) < 1 := by grind
  have two : (0 : Rat) < 2 := by grind
  have x1 : 0 < 1 - x := by grind
  have e2 : (1 : Rat) + 1 = 2 := by grind
  have n1 := bH_up hL one one hx h1
  have n2 := bJ_next hL one one
  rw [e2] at n1 n2
  have n3 := bH_11 hL hx h1
  have n4 := bJ_11 hL
  have p1 := (pr_one hL hx).bmul (pr_bdd hL x1 1)
  have p2 := (pr_one hL x1).bmul (Bdd.const x)
  obtain ⟨i1, i2, N, i3⟩ := inv_of (bJ_pos hL two one)
  have a1 : Null (fun M => bH L 2 1 x M - x * x / 2) := (((n1.add n3).sub (p1.add p2)).bmul (Bdd.const (1 / 2))).of_eq fun M => by unfold bP; grind
  have a2 : Null (fun M => bJ L 2 1 M - 1 / 2) := ((n2.add n4).bmul (Bdd.const (1 / 2))).of_eq fun M => by grind
  refine ((a1.bmul i1).sub ((a2.bmul i1).bmul (Bdd.const (x * x)))).of_eq_from N fun M hM => ?_
  obtain ⟨e1, e2, e3⟩ := i3 M hM
  unfold bv
  generalize 1 / bJ L 2 1 M = j at *
  generalize bJ L 2 1 M = B at *
  generalize bH L 2 1 x M = u at *
  have : (u - x * x / 2) * j - (B - 1 / 2) * j * (x * x) = u * j - x * x * (B * j) := by grind
  rw [this, e1]; grind
theorem pr_inv {L : Rat → Nat → Rat} (hL : Lns L) {x y : Rat} (hx : 0 < x) (hy : 0 < y) (e : x * y = 1) (c : Rat) : Null (fun M => Ev (fun M => c * L y M) M * pr L c x M - 1) := by
  have l := (hL y hy).add (hL x hx)
  have e' : (fun (_ : Nat) => y * x) = fun _ => 1 := by funext _; grind
  rw [e'] at l
  have n := isLog_one.uniq l
  have a := Ev_add (pr_arg hL hy c) (pr_arg hL hx c)
  have k := Ev_congr (x := fun M => c * L y M + c * L x M) (y := fun _ => 0) ((pr_arg hL hy c).add (pr_arg hL hx c)) (Bdd.const 0) ((n.bmul (Bdd.const (-c))).of_eq fun M => by grind)
  have z : Null (fun M => Ev (fun _ => (0 : Rat)) M - 1) := null_zero.of_eq_from 1 fun M hM => by
    obtain ⟨m, rfl⟩ : ∃ m, M = m + 1 := ⟨M - 1, by omega⟩
    have e0 : Ev (fun _ => (0 : Rat)) (m + 1) = 1 := E_zero m
    rw [e0]; grind
  exact ((a.add k).add z).of_eq fun M => by unfold pr; grind
def bY (L : Rat → Nat → Rat) (a b y z : Rat) (X : Nat → Rat) (M : Nat) : Rat := a * L y M + b * L z M + (L a M + X M)
theorem bY_bdd {L : Rat → Nat → Rat} (hL : Lns L) {a b y z : Rat} (ha : 0 < a) (hy : 0 < y) (hz : 0 < z) {X J : Nat → Rat} (hX : IsLog X J) : Bdd (bY L a b y z X) := ((pr_arg hL hy a).add (pr_arg hL hz b)).add ((hL a ha).1.add hX.1)
theorem bv_prod {L : Rat → Nat → Rat} (hL : Lns L) {a b x y z : Rat} {X : Nat → Rat} (ha : 0 < a) (hb : 0 < b) (hx : 0 < x) (h1 : x < 1) (hy : x * y = 1) (hz : (1 - x) * z = 1) (y0 : 0 < y) (z0 : 0 < z) (hX : IsLog X (bJ L a b)) : Null (fun M => Ev (bY L a b y z X) M * bv L a b x M - a * bS a b x M) := by
  have x1 : 0 < 1 - x := by grind
  obtain ⟨i1, i2, N, i3⟩ := inv_of (bJ_pos hL ha hb)
  have l := (hL a ha).add hX
  have b1 := pr_arg hL y0 a
  have b2 := pr_arg hL z0 b
  have s1 := Ev_add b1 b2
  have s2 := Ev_add (b1.add b2) l.1
  have bb := bv_bdd hL ha hb hx h1
  have n1 := s2.neg.bmul bb
  have n2 := (s1.neg.bmul (Ev_bdd l.1)).bmul bb
  have n3 := (l.2.bmul ((Ev_bdd b1).mul (Ev_bdd b2))).bmul bb
  have p1 := (pr_inv hL hx y0 hy a).bmul (((Ev_bdd b2).mul (pr_bdd hL x1 b)).mul ((Bdd.const a).mul (bS_Bdd ha hb (Rat.le_of_lt hx) h1)))
  have p2 := (pr_inv hL x1 z0 hz b).bmul ((Bdd.const a).mul (bS_Bdd ha hb (Rat.le_of_lt hx) h1))
  refine (((n1.add n2).add n3).add (p1.add p2)).of_eq_from N fun M hM => ?_
  obtain ⟨e1, e2, e3⟩ := i3 M hM
  have eY : Ev (bY L a b y z X) M = Ev (fun M => a * L y M + b * L z M + (L a M + X M)) M := rfl
  rw [eY]
  unfold bv bH bP
  dsimp only
  generalize Ev (fun M => a * L y M + b * L z M + (L a M + X M)) M = v at *
  generalize Ev (fun M => a * L y M + b * L z M) M = v2 at *
  generalize Ev (fun M => a * L y M) M = v3 at *
  generalize Ev (fun M => b * L z M) M = v4 at *
  generalize Ev (fun M => L a M + X M) M = v5 at *
  generalize pr L a x M = p at *
  generalize pr L b (1 - x) M = r at *
  generalize bS a b x M = s at *
  generalize 1 / bJ L a b M = j at *
  generalize bJ L a b M = B at *
  clear n1 n2 n3 p1 p2 s1 s2 bb l b1 b2 i1 i2 i3 hX eY
  have r1 : v3 * v4 * (a * B) * (p * r * s * j) = a * (v3 * p) * (v4 * r) * s * (B * j) := by grind
  rw [e1] at r1
  grind
theorem bv_quot {L : Rat → Nat → Rat} (hL : Lns L) {a b x y z : Rat} {X : Nat → Rat} (ha : 0 < a) (hb : 0 < b) (hx : 0 < x) (h1 : x < 1) (hy : x * y = 1) (hz : (1 - x) * z = 1) (y0 : 0 < y) (z0 : 0 < z) (hX : IsLog X (bJ L a b)) : Null (fun M => bv L a b x M - a * bS a b x M / Ev (bY L a b y z X) M) :=
  null_div (Ev_low (bY_bdd hL ha y0 z0 hX)) (bv_prod hL ha hb hx h1 hy hz y0 z0 hX)
theorem bY_nonneg {L : Rat → Nat → Rat} (hL : Lns L) {a b x y z : Rat} {X : Nat → Rat} (ha : 0 < a) (hb : 0 < b) (hx : 0 < x) (h1 : x < 1) (hy : x * y = 1) (hz : (1 - x) * z = 1) (y0 : 0 < y) (z0 : 0 < z) (hX : IsLog X (bJ L a b)) : LeN (fun _ => 0) (bY L a b y z X) := by
  have bY := bY_bdd (b := b) hL ha y0 z0 hX
  have l1 := (LeN.of_eqN (Null.symm (bv_prod hL ha hb hx h1 hy hz y0 z0 hX))).trans (by
    have l := (bv_one hL ha hb hx h1).bmul (Ev_bdd bY) (Ev_nn bY)
    exact LeN.trans (LeN.of_le 0 fun M _ => by grind) (l.trans (LeN.of_le 0 fun M _ => by show 1 * Ev (Ex.bY L a b y z X) M ≤ Ev (Ex.bY L a b y z X) M; grind)))
  have l2 : LeN (fun _ => 1) (Ev (Ex.bY L a b y z X)) := by
    refine LeN.trans (LeN.of_le 1 fun M hM => ?_) l1
    obtain ⟨m, rfl⟩ : ∃ m, M = m + 1 := ⟨M - 1, by omega⟩
    have f := bS_first ha hb (Rat.le_of_lt hx) m
    have k := Rat.mul_le_mul_of_nonneg_left f (Rat.le_of_lt ha)
    have d := rdm (a := 1) ha
    grind
  obtain ⟨z', hz', kz⟩ := l2.null
  intro e he
  exact Ev_back (Bdd.const 0) bY hz' 1 (fun M hM => by
    obtain ⟨m, rfl⟩ : ∃ m, M = m + 1 := ⟨M - 1, by omega⟩
    have e0 : Ev (fun _ => (0 : Rat)) (m + 1) = 1 := E_zero m
    rw [e0]; exact kz (m + 1)) e he
theorem bJ_log {L : Rat → Nat → Rat} (hL : Lns L) {a b : Rat} {ga gb gab X Y Z : Nat → Rat} (ha : 0 < a) (hb : 0 < b) (h1 : IsGam L a ga) (h2 : IsGam L b gb) (h3 : IsGam L (a + b) gab) (lx : IsLog X ga) (ly : IsLog Y gb) (lz : IsLog Z gab) : IsLog (fun M => X M + Y M - Z M) (bJ L a b) := by
  obtain ⟨i1, i2, N, i3⟩ := inv_of h3.pos
  have lz' := lz.neg (s := fun M => 1 / gab M) i1 N (fun M hM => by have := (i3 M hM).1; grind)
  have l := (lx.add ly).add lz'
  have e : (fun M => X M + Y M + -Z M) = fun M => X M + Y M - Z M := by funext M; grind
  rw [e] at l
  refine l.congr_r (((beta_gamma hL ha hb h1 h2 h3).bmul i1).neg.of_eq_from N fun M hM => ?_)
  obtain ⟨e1, e2, e3⟩ := i3 M hM
  generalize 1 / gab M = j at *
  generalize bJ L a b M = B at *
  have : (B * gab M - ga M * gb M) * j = B * (gab M * j) - ga M * gb M * j := by grind
  rw [this, e1]; grind
end Go.Proofs.Ytgmnknmjainabab.Ex
namespace Go.Proofs.Ytgmnknmjainabab
open Ex
structure SeOk (a : Int × Int) (u d : Nat → Int) : Prop where
  ok : RiOk u d
  a0 : 0 < a.1
  al : a.1 ≤ a.2
  aw : a.2 - a.1 ≤ 1
  mono : ∀ n, d (n + 2) ≤ u (n + 2) → d (n + 1) ≤ u (n + 1)
theorem se_each {a : Int × Int} {u d : Nat → Int} (h : SeOk a u d) (k : Nat) : 0 ≤ (riT a u d k).1 ∧ (riT a u d k).1 ≤ (riT a u d k).2 := ⟨riT_nonneg h.ok (by have := h.a0; omega) k, riT_le h.ok h.al k⟩
theorem se_rise {a : Int × Int} {u d : Nat → Int} (h : SeOk a u d) (k : Nat) (hk : d (k + 1) ≤ u (k + 1)) : a.2 ≤ (riT a u d k).2 := by
  induction k with
  | zero => exact Int.le_refl _
  | succ k ih =>
    have hk' := h.mono k hk
    have i := ih hk'
    obtain ⟨e1, e2⟩ := se_each h k
    have p := h.ok.d0 (k + 1)
    have c := dv_ceil ((riT a u d k).2 * u (k + 1)) p
    have m := Int.mul_le_mul_of_nonneg_left hk' (show 0 ≤ (riT a u d k).2 by omega)
    refine Int.le_trans i ?_
    refine Int.le_of_mul_le_mul_right (a := d (k + 1)) ?_ p
    exact Int.le_trans m c
theorem se_wide1 {a : Int × Int} {u d : Nat → Int} (h : SeOk a u d) (k : Nat) : ((riT a u d k).2 - (riT a u d k).1) * a.2 ≤ (1 + 2 * (k : Int)) * ((riT a u d k).2 + a.2) := by
  have a0 := h.a0
  have al := h.al
  obtain ⟨e1, e2⟩ := se_each h k
  have w := riT_wide h.ok (show 0 ≤ a.1 by omega) al (by omega) h.aw (fun k hk => se_rise h k hk) k
  refine Int.le_trans w (Int.mul_le_mul_of_nonneg_left ?_ (by omega))
  split <;> omega
theorem se_wideS {a : Int × Int} {u d : Nat → Int} (h : SeOk a u d) (k : Nat) : ((sumI (riT a u d) k).2 - (sumI (riT a u d) k).1) * a.2 ≤ (1 + 2 * (k : Int)) * ((sumI (riT a u d) k).2 + ((k : Int) + 1) * a.2) ∧ a.2 ≤ (sumI (riT a u d) k).2 ∧ a.1 ≤ (sumI (riT a u d) k).1 := by
  have a0 := h.a0
  have al := h.al
  have a2 : 0 ≤ a.2 := by omega
  induction k with
  | zero =>
    have w := se_wide1 h 0
    refine ⟨?_, Int.le_refl _, Int.le_refl _⟩
    show ((riT a u d 0).2 - (riT a u d 0).1) * a.2 ≤ (1 + 2 * ((0 : Nat) : Int)) * ((riT a u d 0).2 + (((0 : Nat) : Int) + 1) * a.2)
    have e : ((0 : Nat) : Int) = 0 := rfl
    rw [e] at w ⊢
    generalize ((riT a u d 0).2 - (riT a u d 0).1) * a.2 = z at *
    omega
  | succ k ih =>
    obtain ⟨i1, i3, i4⟩ := ih
    have w := se_wide1 h (k + 1)
    obtain ⟨e1, e2⟩ := se_each h (k + 1)
    have es1 : (sumI (riT a u d) (k + 1)).1 = (sumI (riT a u d) k).1 + (riT a u d (k + 1)).1 := rfl
    have es2 : (sumI (riT a u d) (k + 1)).2 = (sumI (riT a u d) k).2 + (riT a u d (k + 1)).2 := rfl
    have ec : ((k + 1 : Nat) : Int) = (k : Int) + 1 := by omega
    refine ⟨?_, by omega, by omega⟩
    rw [es1, es2]
    rw [ec] at w ⊢
    generalize (sumI (riT a u d) k).2 = S2 at *
    generalize (sumI (riT a u d) k).1 = S1 at *
    generalize (riT a u d (k + 1)).2 = T2 at *
    generalize (riT a u d (k + 1)).1 = T1 at *
    generalize a.2 = A at *
    have k0 : (0 : Int) ≤ (k : Int) := by omega
    have m1 := Int.mul_nonneg k0 a2
    have r0 : ((k : Int) + 1) * A = (k : Int) * A + A := by grind
    have m2 : (1 + 2 * (k : Int)) * (S2 + ((k : Int) + 1) * A) ≤ (1 + 2 * ((k : Int) + 1)) * (S2 + ((k : Int) + 1) * A) := Int.mul_le_mul_of_nonneg_right (by omega) (by omega)
    have r1 : (S2 + T2 - (S1 + T1)) * A = (S2 - S1) * A + (T2 - T1) * A := by grind
    have r2 : (1 + 2 * ((k : Int) + 1)) * (S2 + T2 + ((k : Int) + 1 + 1) * A) = (1 + 2 * ((k : Int) + 1)) * (S2 + ((k : Int) + 1) * A) + (1 + 2 * ((k : Int) + 1)) * (T2 + A) := by grind
    rw [r1, r2]
    omega
theorem se_ok {a : Int × Int} {u d : Nat → Int} (h : SeOk a u d) (N : Nat) : a.1 ≤ (riseI (riT a u d) N).1 ∧ (riseI (riT a u d) N).1 ≤ (riseI (riT a u d) N).2 ∧ ((riseI (riT a u d) N).2 - (riseI (riT a u d) N).1) * a.2 ≤ ((1 + 2 * (N : Int)) * ((N : Int) + 2) + 9) * (riseI (riT a u d) N).2 := by
  obtain ⟨w1, w3, w4⟩ := se_wideS h N
  have a0 := h.a0
  have al := h.al
  have e1 : (riseI (riT a u d) N).1 = (sumI (riT a u d) N).1 + 0 := rfl
  have e2 : (riseI (riT a u d) N).2 = (sumI (riT a u d) N).2 + 9 := rfl
  have sl : (sumI (riT a u d) N).1 ≤ (sumI (riT a u d) N).2 := sum_le (fun k => (se_each h k).2) N
  refine ⟨by omega, by omega, ?_⟩
  rw [e1, e2]
  generalize (sumI (riT a u d) N).2 = S2 at *
  generalize (sumI (riT a u d) N).1 = S1 at *
  generalize a.2 = A at *
  have m1 : (1 + 2 * (N : Int)) * (S2 + ((N : Int) + 1) * A) ≤ (1 + 2 * (N : Int)) * (((N : Int) + 2) * (S2 + 9)) := Int.mul_le_mul_of_nonneg_left (by
    have a := Int.mul_le_mul_of_nonneg_left (show A ≤ S2 + 9 by omega) (show 0 ≤ (N : Int) + 1 by omega)
    have e : ((N : Int) + 2) * (S2 + 9) = ((N : Int) + 1) * (S2 + 9) + (S2 + 9) := by grind
    omega) (by omega)
  have r : (S2 + 9 - (S1 + 0)) * A = (S2 - S1) * A + 9 * A := by grind
  have r2 : ((1 + 2 * (N : Int)) * ((N : Int) + 2) + 9) * (S2 + 9) = (1 + 2 * (N : Int)) * (((N : Int) + 2) * (S2 + 9)) + 9 * (S2 + 9) := by grind
  rw [r, r2]
  omega
theorem se_hi1 {a : Int × Int} {u d : Nat → Int} (h : SeOk a u d) {H c : Nat} (h0 : a.2 ≤ Q H) (hc : ∀ k, u (k + 1) ≤ Q c * d (k + 1)) (k : Nat) : (riT a u d k).2 ≤ Q (H + c * k) := by
  induction k with
  | zero => exact h0
  | succ k ih =>
    obtain ⟨e1, e2⟩ := se_each h k
    have m := cmul_ceil (x := (riT a u d k).2) (u := u (k + 1)) (v := d (k + 1)) (c := Q c) (h.ok.d0 (k + 1)) (by omega) (hc k)
    have e : Q (H + c * (k + 1)) = Q c * Q (H + c * k) := by rw [← Q_add]; congr 1; rw [Nat.mul_succ]; omega
    have m2 := Int.mul_le_mul_of_nonneg_left ih (show 0 ≤ Q c by have := Q_pos c; omega)
    show -(-((riT a u d k).2 * u (k + 1)) / d (k + 1)) ≤ _
    omega
theorem se_hi {a : Int × Int} {u d : Nat → Int} (h : SeOk a u d) {H c turn : Nat} (h0 : a.2 ≤ Q H) (hH : 2 ≤ H) (hc : ∀ k, u (k + 1) ≤ Q c * d (k + 1)) (h34 : ∀ k, turn ≤ k → 4 * u (k + 1) ≤ 3 * d (k + 1)) (k : Nat) : (riT a u d k).2 ≤ Q (H + c * turn) := by
  by_cases hk : k ≤ turn
  · exact Int.le_trans (se_hi1 h h0 hc k) (Q_mono (Nat.add_le_add_left (Nat.mul_le_mul_left c hk) H))
  · obtain ⟨j, rfl⟩ : ∃ j, k = turn + j := ⟨k - turn, by omega⟩
    have big : 3 ≤ Q (H + c * turn) := by have := Q_mono (show 2 ≤ H + c * turn by omega); have : Q 2 = 4 := rfl; omega
    clear hk
    induction j with
    | zero => exact se_hi1 h h0 hc _
    | succ j ih =>
      obtain ⟨e1, e2⟩ := se_each h (turn + j)
      have f := fall34 (x := (riT a u d (turn + j)).2) (h.ok.d0 (turn + j + 1)) (by omega) (h34 (turn + j) (by omega))
      have e : (riT a u d (turn + (j + 1))).2 = -(-((riT a u d (turn + j)).2 * u (turn + j + 1)) / d (turn + j + 1)) := rfl
      rw [e]
      omega
theorem se_set {a : Int × Int} {u d : Nat → Int} (h : SeOk a u d) {H c turn : Nat} (h0 : a.2 ≤ Q H) (hH : 2 ≤ H) (hc : ∀ k, u (k + 1) ≤ Q c * d (k + 1)) (h34 : ∀ k, turn ≤ k → 4 * u (k + 1) ≤ 3 * d (k + 1)) : ∃ N, N ≤ turn + 3 * (H + c * turn + 1) ∧ IsRise (riT a u d) turn N :=
  rise_ex h.ok (show 0 ≤ a.1 by have := h.a0; omega) h.al h34 (by
    have a' := se_hi h h0 hH hc h34 turn
    have e : Q (H + c * turn + 1) = 2 * Q (H + c * turn) := rfl
    have := Q_pos (H + c * turn)
    omega)
theorem se_fit {a : Int × Int} {u d : Nat → Int} (h : SeOk a u d) {H c turn : Nat} (h0 : a.2 ≤ Q H) (hH : 4 ≤ H) (hc : ∀ k, u (k + 1) ≤ Q c * d (k + 1)) (h34 : ∀ k, turn ≤ k → 4 * u (k + 1) ≤ 3 * d (k + 1)) (k : Nat) (hk : k ≤ 1000000) : (sumI (riT a u d) k).2 + 9 ≤ Q (H + c * turn + 21) := by
  obtain ⟨F, hF⟩ : ∃ F, F = H + c * turn := ⟨_, rfl⟩
  have hi : ∀ j, (riT a u d j).2 ≤ Q F := fun j => by rw [hF]; exact se_hi h h0 (by omega) hc h34 j
  have s : ∀ j : Nat, (sumI (riT a u d) j).2 ≤ ((j : Int) + 1) * Q F := fun j => by
    induction j with
    | zero =>
      have := hi 0
      show (riT a u d 0).2 ≤ (((0 : Nat) : Int) + 1) * Q F
      have e : ((0 : Nat) : Int) = 0 := rfl
      rw [e]; omega
    | succ j ih =>
      have := hi (j + 1)
      have e : (sumI (riT a u d) (j + 1)).2 = (sumI (riT a u d) j).2 + (riT a u d (j + 1)).2 := rfl
      have ec : ((j + 1 : Nat) : Int) + 1 = ((j : Int) + 1) + 1 := by omega
      have r : (((j : Int) + 1) + 1) * Q F = ((j : Int) + 1) * Q F + Q F := by grind
      rw [e, ec, r]; omega
  have a' := s k
  have q := Q_pos F
  have big : 9 ≤ Q F := by have := Q_mono (show 4 ≤ F by omega); have : Q 4 = 16 := rfl; omega
  have m := Int.mul_le_mul_of_nonneg_right (show (k : Int) + 1 ≤ 1000001 by omega) (show 0 ≤ Q F by omega)
  have e : Q (F + 21) = Q F * Q 21 := Q_add F 21
  have e19 : Q 21 = 2097152 := rfl
  rw [e19] at e
  rw [← hF]
  omega
end Go.Proofs.Ytgmnknmjainabab
namespace Go.Proofs.Ytgmnknmjainabab
open Ex
theorem sq_low2 {B : Nat} {d : Int × Int} {c : Int} (hd : d.1 ≤ d.2) (hc : 0 ≤ c) (t : Nat) (hq : Q t * c ≤ Q B) (h : Q B - c ≤ d.1) : Q B - Q t * c ≤ (sqI B d t).1 ∧ (sqI B d t).1 ≤ (sqI B d t).2 := by
  have q := Q_pos B
  induction t with
  | zero => exact ⟨by show Q B - 1 * c ≤ d.1; omega, hd⟩
  | succ t ih =>
    have e : Q (t + 1) = 2 * Q t := rfl
    have qt := Q_pos t
    have ec : Q (t + 1) * c = 2 * (Q t * c) := by rw [e]; grind
    have tc := Int.mul_nonneg (show 0 ≤ Q t by omega) hc
    obtain ⟨i1, i2⟩ := ih (by omega)
    refine ⟨?_, mulI_le B⟩
    show Q B - Q (t + 1) * c ≤ (mulI B (sqI B d t) (sqI B d t)).1
    rw [ec]
    generalize sqI B d t = a at *
    generalize Q t * c = y at *
    obtain ⟨_, _, _, _, hh⟩ := least4 (a.1 * a.1) (a.1 * a.2) (a.2 * a.1) (a.2 * a.2)
    have c0 : 0 ≤ a.1 := by omega
    have m1 := Int.mul_le_mul_of_nonneg_left i2 c0
    have m2 := Int.mul_le_mul_of_nonneg_right i2 c0
    have m3 := Int.mul_le_mul i2 i2 c0 (by omega)
    have m4 := Int.mul_le_mul i1 i1 (by omega) c0
    have e2 : (Q B - y) * (Q B - y) = (Q B - 2 * y) * Q B + y * y := by grind
    have m5 := Int.mul_nonneg tc tc
    have m6 : (Q B - 2 * y) * Q B ≤ leastZ (pr4 (a.1 * a.1) (a.1 * a.2) (a.2 * a.1) (a.2 * a.2)) 3 := by omega
    exact Int.le_ediv_of_mul_le (by omega) m6
theorem sqs_rel2 {B : Nat} {d : Int × Int} {C c : Int} (hd : d.1 ≤ d.2) (hc : 0 ≤ c) (hl : Q B - c ≤ d.1) (hC : 0 ≤ C) (h : (d.2 - d.1) * Q B ≤ C * d.2) (i : Nat) (hi : 2 * (Q i * c) ≤ Q B) :
    ((sqI B d i).2 - (sqI B d i).1) * Q B ≤ (Q i * (C + 4) - 4) * (sqI B d i).2 := by
  induction i with
  | zero =>
    show (d.2 - d.1) * Q B ≤ (1 * (C + 4) - 4) * d.2
    have : 1 * (C + 4) - 4 = C := by omega
    rw [this]; exact h
  | succ i ih =>
    have es : Q (i + 1) = 2 * Q i := rfl
    have q0 := Q_pos i
    have ec : Q (i + 1) * c = 2 * (Q i * c) := by rw [es]; grind
    have tc := Int.mul_nonneg (show 0 ≤ Q i by omega) hc
    have i1 := ih (by omega)
    obtain ⟨l1, l2⟩ := sq_low2 (B := B) hd hc i (by omega) hl
    obtain ⟨l3, l4⟩ := sq_low2 (B := B) hd hc (i + 1) (by omega) hl
    have m := Int.mul_le_mul_of_nonneg_right q0 (show 0 ≤ C + 4 by omega)
    have r := sq_rel (B := B) (a := sqI B d i) (C := Q i * (C + 4) - 4) (by omega) l2 (by omega) i1 (by
      have e : (mulI B (sqI B d i) (sqI B d i)).2 = (sqI B d (i + 1)).2 := rfl
      rw [e]; omega)
    have ec : 2 * (Q i * (C + 4) - 4) + 4 = Q (i + 1) * (C + 4) - 4 := by rw [es]; grind
    rw [ec] at r
    exact r
theorem iv_one_le {B : Nat} {a : Int × Int} {x : Nat → Rat} (h : Iv B a x) (k : LeN (fun _ => 1) x) : Q B ≤ a.2 := by
  have q := Qr_pos B
  refine Int.not_lt.1 fun hlt => ?_
  have d : (0 : Rat) < 1 / (Q B : Rat) := rdiv_pos (by grind) q
  obtain ⟨e, he⟩ : ∃ e, e = 1 / (Q B : Rat) / 4 := ⟨_, rfl⟩
  have e0 : 0 < e := by grind
  obtain ⟨N1, k1⟩ := h e e0
  obtain ⟨N2, k2⟩ := k e e0
  have a1 := (k1 (N1 + N2) (by omega)).2
  have a2 := k2 (N1 + N2) (by omega)
  simp only [] at a2
  have c := cast_le (show a.2 + 1 ≤ Q B by omega)
  rw [Rat.intCast_add] at c
  have c1 : ((1 : Int) : Rat) = 1 := rfl
  rw [c1] at c
  have m : ((a.2 : Rat) + 1) / (Q B : Rat) ≤ 1 := qdiv_le q (by grind)
  rw [rdiv_add] at m
  generalize 1 / (Q B : Rat) = i at *
  grind
theorem Ev_one_le {x : Nat → Rat} (hb : Bdd x) (h : LeN (fun _ => 0) x) : LeN (fun _ => 1) (Ev x) := by
  obtain ⟨z, hz, kz⟩ := h.null
  obtain ⟨v, hv, N, k⟩ := Ev_mono (Bdd.const 0) hb hz 0 (fun M _ => kz M)
  refine LeN.of_null hv (N + 1) fun M hM => ?_
  obtain ⟨m, rfl⟩ : ∃ m, M = m + 1 := ⟨M - 1, by omega⟩
  have e0 : Ev (fun _ => (0 : Rat)) (m + 1) = 1 := E_zero m
  have := k (m + 1) (by omega)
  rw [e0] at this
  exact this
end Go.Proofs.Ytgmnknmjainabab
namespace Go.Proofs.Ytgmnknmjainabab
open Ex
structure LwLog (L : Rat → Nat → Rat) (x : Rat) (B : Nat) (o : Int × Int) : Prop where
  le : o.1 ≤ o.2
  ab : Abs o (264 * Q B)
  wd : o.2 - o.1 ≤ 132 * (2 * (B : Int) + 14)
  iv : Iv B o (L x)
theorem lwLog_of {L : Rat → Nat → Rat} (hL : Lns L) {n d : Int} {B : Nat} (hn : 0 < n) (hd : 0 < d) (hB : 16 ≤ B) {n' d' c : Int} {N N2 : Nat} (h : Bal n d n' d' c) (c1 : -65 ≤ c) (c2 : c ≤ 65) (hN : IsStop (lnT n' d' B) N) (hN2 : IsStop (lnT 2 1 B) N2) : LwLog L ((n : Rat) / (d : Rat)) B (lnOf (doneI (lnT n' d' B) N) (doneI (lnT 2 1 B) N2) c) := by
  obtain ⟨b1, b2, b3⟩ := log_bound (k := c) h.1 hB hN hN2 65 c1 c2
  obtain ⟨l, il, iv⟩ := log_has hn hd h B N N2
  have q := Q_pos B
  refine ⟨b1, b2.mono (by omega), by omega, ?_⟩
  have nr : (0 : Rat) < (n : Rat) := by exact_mod_cast hn
  have dr : (0 : Rat) < (d : Rat) := by exact_mod_cast hd
  exact iv.congr ((hL _ (rdiv_pos nr dr)).uniq il)
structure LgP2 (x : Nat → Rat) (B : Nat) (l u : Int) : Prop where
  le : l ≤ u
  wd : u - l ≤ 20000000 * ((B : Int) * (B : Int)) + 180000000
  ab : Abs (l, u) (120000 * Q B)
  iv : Iv B (l, u) x
theorem lgam_ok2 {n d : Int} {g lp x l1 l2 : Nat → Rat} {B : Nat} {a o1 o2 o : Int × Int} (h : StIn n d) (hB0 : 40 ≤ B) (hB : B ≤ 1000) (ha : GaV g B a) (ls : LsIn a B o1 o2 l1 l2) (hp : IsLog lp (fun _ => (stP n d (stN n d) : Rat) / (stQ d (stN n d) : Rat))) (io : Iv B o lp) (k1 : LbOk B o1) (k2 : LbOk B o2) (k3 : LbOk B o) (hx : IsLog x (gmV n d g)) (hgp : ∃ c : Rat, 0 < c ∧ ∃ N : Nat, ∀ M, N ≤ M → c ≤ g M) {L : Rat → Nat → Rat} (hL : Lns L) : LgP2 x B (o1.1 + o.1) (o2.2 + o.2) := by
  have pr := lgam_ok h hB0 hB ha ls hp io k1 k2 k3 hx hgp hL
  have q := Q_pos B
  have big := QB_big hB0 hB
  have BB := Int.mul_nonneg (show (0 : Int) ≤ (B : Int) by omega) (show (0 : Int) ≤ (B : Int) by omega)
  have a0 : 0 < a.1 := by have := ha.lo; omega
  have al := ha.le
  have twice : a.2 ≤ 2 * a.1 := by
    have m := Int.mul_le_mul_of_nonneg_right big (show 0 ≤ a.2 by omega)
    have r := ha.rel
    have s : 16 * (a.2 - a.1) ≤ a.2 := by
      refine Int.le_of_mul_le_mul_right (a := Q B) ?_ (by omega)
      have r1 : 16 * (a.2 - a.1) * Q B = 16 * ((a.2 - a.1) * Q B) := by grind
      have r2 : 16 * (10000000 * ((B : Int) * (B : Int))) * a.2 = 16 * (10000000 * ((B : Int) * (B : Int)) * a.2) := by grind
      have r3 : Q B * a.2 = a.2 * Q B := Int.mul_comm _ _
      omega
    omega
  have w := ls_wide ls (C := 20000000 * ((B : Int) * (B : Int))) (by
    have m1 := Int.mul_le_mul_of_nonneg_left twice (show 0 ≤ 10000000 * ((B : Int) * (B : Int)) by omega)
    have r := ha.rel
    have r2 : 10000000 * ((B : Int) * (B : Int)) * (2 * a.1) = 20000000 * ((B : Int) * (B : Int)) * a.1 := by grind
    omega)
  have w1 := k1.wd
  have w2 := k2.wd
  have w3 := k3.wd
  obtain ⟨x1, x2, x3, x4⟩ := k1.ab
  obtain ⟨y1, y2, y3, y4⟩ := k2.ab
  obtain ⟨z1, z2, z3, z4⟩ := k3.ab
  exact ⟨pr.le, by omega, ⟨by show _ ≤ o1.1 + o.1; omega, by show o1.1 + o.1 ≤ _; omega, by show _ ≤ o2.2 + o.2; omega, by show o2.2 + o.2 ≤ _; omega⟩, pr.iv⟩
theorem mulle {a b c d : Int} (h1 : a ≤ b) (h2 : c ≤ d) (h3 : 0 ≤ c) (h4 : 0 ≤ b) : a * c ≤ b * d := Int.mul_le_mul h1 h2 h3 h4
def luHi (s e : Int × Int) (B : Nat) : Int := if dvHi s.1 s.2 e.1 e.2 B ≤ Q B then dvHi s.1 s.2 e.1 e.2 B else Q B
structure LwPr (x : Nat → Rat) (B : Nat) (l u : Int) : Prop where
  lo : 0 ≤ l
  le : l ≤ u
  hi : u ≤ Q B
  wd : u - l ≤ Q 89
  iv : Iv B (l, u) x
theorem iv_le_one {B : Nat} {a : Int × Int} {x : Nat → Rat} (h : Iv B a x) (k : LeN x (fun _ => 1)) : a.1 ≤ Q B := leN_le h k (LeN.of_le 0 fun M _ => by
  have q := Qr_pos B
  have : (Q B : Rat) / (Q B : Rat) = 1 := by rw [Rat.div_def, Rat.mul_inv_cancel _ (by grind)]
  rw [this]; exact Rat.le_refl)
theorem Iv.capL {B : Nat} {a : Int × Int} {x : Nat → Rat} (h : Iv B a x) (k : LeN x (fun _ => 1)) : Iv B (a.1, if a.2 ≤ Q B then a.2 else Q B) x := by
  split
  · exact h
  · intro e he
    obtain ⟨N, hN⟩ := h e he
    obtain ⟨N0, hx⟩ := k e he
    refine ⟨N + N0, fun M hM => ?_⟩
    have g := (hN M (by omega)).1
    have g2 := hx M (by omega)
    have q := Qr_pos B
    have e1 : (Q B : Rat) / (Q B : Rat) = 1 := by rw [Rat.div_def, Rat.mul_inv_cancel _ (by grind)]
    simp only []
    rw [e1]
    constructor <;> grind
theorem part_ok {B : Nat} {s e : Int × Int} {x : Nat → Rat} {C D : Int} (hB : 40 ≤ B) (s0 : 0 ≤ s.1) (sl : s.1 ≤ s.2) (e0 : 0 < e.1) (el : e.1 ≤ e.2) (hC : 0 ≤ C) (hD : 0 ≤ D) (hC2 : C ≤ 100000000000) (hD2 : D ≤ 1000000000000000) (hDq : D ≤ Q B) (hs : (s.2 - s.1) * Q B ≤ C * s.2) (he : (e.2 - e.1) * Q B ≤ D * e.2) (iv : Iv B (dvLo s.1 s.2 e.1 e.2 B, dvHi s.1 s.2 e.1 e.2 B) x) (h1 : LeN x (fun _ => 1)) : LwPr x B (dvLo s.1 s.2 e.1 e.2 B) (luHi s e B) := by
  have q := Q_pos B
  have q40 := Q_mono hB
  have e40 : Q 40 = 1099511627776 := rfl
  obtain ⟨d1, d2⟩ := dv_pos (b := B) s0 sl e0 el
  have cap := iv.capL h1
  have le := cap.le
  have l1 := iv_le_one iv h1
  have l0 : 0 ≤ dvLo s.1 s.2 e.1 e.2 B := by rw [d1]; exact Int.ediv_nonneg (Int.mul_nonneg s0 (by omega)) (by omega)
  have hi : luHi s e B ≤ Q B := by unfold luHi; split <;> omega
  refine ⟨l0, le, hi, ?_, cap⟩
  by_cases c : B ≤ 89
  · have := Q_mono c
    omega
  · have r := dv_rel (q := Q B) (C := C) (D := D) (by omega) s0 hC hD (by omega) hDq e0 el hs sl he d1 d2
    have hh : luHi s e B ≤ dvHi s.1 s.2 e.1 e.2 B := by unfold luHi; split <;> omega
    simp only [] at l1 le
    generalize dvLo s.1 s.2 e.1 e.2 B = lo at *
    generalize dvHi s.1 s.2 e.1 e.2 B = up at *
    have q90 := Q_mono (show 60 ≤ B by omega)
    have e60 : Q 60 = 1152921504606846976 := rfl
    have e89 : Q 89 = 618970019642690137449562112 := by decide +kernel
    by_cases u0 : up ≤ 0
    · omega
    · have m := Int.mul_le_mul_of_nonneg_right (show 2 * (C + D) ≤ Q B by omega) (show 0 ≤ up by omega)
      have r1 : (up - lo) * Q B = up * Q B - lo * Q B := by grind
      have r2 : 2 * (C + D) * up = 2 * ((C + D) * up) := by grind
      have r3 : Q B * up = up * Q B := Int.mul_comm _ _
      have k1 : up ≤ 2 * lo + 4 := by
        refine Int.le_of_mul_le_mul_right (a := Q B) ?_ (by omega)
        have r4 : (2 * lo + 4) * Q B = 2 * (lo * Q B) + 4 * Q B := by grind
        omega
      have k2 := Int.mul_le_mul_of_nonneg_left (show up ≤ 3 * Q B by omega) (show 0 ≤ C + D by omega)
      have k3 : up - lo ≤ 3 * (C + D) + 2 := by
        refine Int.le_of_mul_le_mul_right (a := Q B) ?_ (by omega)
        have r4 : (3 * (C + D) + 2) * Q B = (C + D) * (3 * Q B) + 2 * Q B := by grind
        omega
      omega
end Go.Proofs.Ytgmnknmjainabab
namespace Go.Proofs.Ytgmnknmjainabab
open Ex
theorem expT_wide1 {B : Nat} {sm : Int × Int} {ws : Int} (hB : 8 ≤ B) (hs : Abs sm (Q (B - 8))) (hsl : sm.1 ≤ sm.2) (hw : sm.2 - sm.1 ≤ ws) : (expT B sm 1).2 - (expT B sm 1).1 ≤ ws + 2 := by
  have q := Q_pos B
  have h1 := mulI_wide (c := ws) (expT_abs hB hs 0) hs (expT_le B sm 0) hsl (by
    have e : (expT B sm 0).2 - (expT B sm 0).1 = 0 := by show Q B - Q B = 0; omega
    rw [e]
    have m := Int.mul_le_mul_of_nonneg_left hw (show 0 ≤ Q B by omega)
    have : Q (B - 8 * 0) = Q B := rfl
    rw [this, Int.mul_zero, Int.mul_comm ws]; omega)
  have h2 := scaleI_wide (a := mulI B (expT B sm 0) sm) (n := 1) (d := ((0 : Nat) : Int) + 1) (c := ws + 1) (by omega) (by simp; omega)
  show (scaleI (mulI B (expT B sm 0) sm) 1 (((0 : Nat) : Int) + 1)).2 - (scaleI (mulI B (expT B sm 0) sm) 1 (((0 : Nat) : Int) + 1)).1 ≤ ws + 2
  omega
theorem expT_wide2 {B : Nat} {sm : Int × Int} {ws : Int} (hB : 8 ≤ B) (hs : Abs sm (Q (B - 8))) (hsl : sm.1 ≤ sm.2) (hw : sm.2 - sm.1 ≤ ws) (n : Nat) : (expT B sm (n + 2)).2 - (expT B sm (n + 2)).1 ≤ ws / 64 + 6 := by
  have ws0 : 0 ≤ ws := by omega
  have step : ∀ (m : Nat) (c : Int), (expT B sm (m + 1)).2 - (expT B sm (m + 1)).1 ≤ c → 0 ≤ c → (expT B sm (m + 2)).2 - (expT B sm (m + 2)).1 ≤ (ws + c + 255) / 256 + 2 := fun m c hc c0 => by
    have q := Q_pos (B - 8)
    have e := Q_eight hB
    have m1 : Q (B - 8 * (m + 1)) ≤ Q (B - 8) := Q_mono (by omega)
    have p1 := Int.mul_le_mul m1 hw (by omega) (by omega)
    have p2 := Int.mul_le_mul_of_nonneg_left hc (show 0 ≤ Q (B - 8) by omega)
    have h1 := mulI_wide (c := (ws + c + 255) / 256) (expT_abs hB hs (m + 1)) hs (expT_le B sm (m + 1)) hsl (by
      have e2 : (ws + c + 255) / 256 * Q B = Q (B - 8) * (256 * ((ws + c + 255) / 256)) := by rw [e]; grind
      rw [e2]
      have := Int.mul_le_mul_of_nonneg_left (show ws + c ≤ 256 * ((ws + c + 255) / 256) by omega) (show 0 ≤ Q (B - 8) by omega)
      rw [Int.mul_add] at this
      omega)
    have c1 : 0 ≤ (ws + c + 255) / 256 := by omega
    have hp := Int.mul_nonneg (show 0 ≤ (ws + c + 255) / 256 + 1 by omega) (show 0 ≤ ((m + 1 : Nat) : Int) by omega)
    have h2 := scaleI_wide (a := mulI B (expT B sm (m + 1)) sm) (n := 1) (d := ((m + 1 : Nat) : Int) + 1) (c := (ws + c + 255) / 256 + 1) (by omega) (by
      rw [Int.mul_one, Int.mul_add, Int.mul_one]; omega)
    show (scaleI (mulI B (expT B sm (m + 1)) sm) 1 (((m + 1 : Nat) : Int) + 1)).2 - (scaleI (mulI B (expT B sm (m + 1)) sm) 1 (((m + 1 : Nat) : Int) + 1)).1 ≤ _
    omega
  induction n with
  | zero =>
    have := step 0 (ws + 2) (expT_wide1 hB hs hsl hw) (by omega)
    omega
  | succ n ih =>
    have := step (n + 1) (ws / 64 + 6) ih (by omega)
    omega
theorem expS_wide {B : Nat} {sm : Int × Int} {ws : Int} (hB : 8 ≤ B) (hs : Abs sm (Q (B - 8))) (hsl : sm.1 ≤ sm.2) (hw : sm.2 - sm.1 ≤ ws) (N : Nat) : (sumI (expT B sm) N).2 - (sumI (expT B sm) N).1 ≤ ws + 2 + (N : Int) * (ws / 64 + 6) := by
  have ws0 : 0 ≤ ws := by omega
  induction N with
  | zero =>
    show Q B - Q B ≤ ws + 2 + ((0 : Nat) : Int) * (ws / 64 + 6)
    have : ((0 : Nat) : Int) = 0 := rfl
    rw [this, Int.zero_mul]; omega
  | succ n ih =>
    have e1 : (sumI (expT B sm) (n + 1)).1 = (sumI (expT B sm) n).1 + (expT B sm (n + 1)).1 := rfl
    have e2 : (sumI (expT B sm) (n + 1)).2 = (sumI (expT B sm) n).2 + (expT B sm (n + 1)).2 := rfl
    have ec : ((n + 1 : Nat) : Int) * (ws / 64 + 6) = (n : Int) * (ws / 64 + 6) + (ws / 64 + 6) := by
      have : ((n + 1 : Nat) : Int) = (n : Int) + 1 := by omega
      rw [this, Int.add_mul, Int.one_mul]
    rw [e1, e2, ec]
    match n with
    | 0 =>
      have w1 := expT_wide1 hB hs hsl hw
      have s : (sumI (expT B sm) 0).2 - (sumI (expT B sm) 0).1 = 0 := by show Q B - Q B = 0; omega
      have z : ((0 : Nat) : Int) = 0 := rfl
      rw [z, Int.zero_mul]
      have w2 : (expT B sm (0 + 1)).2 - (expT B sm (0 + 1)).1 ≤ ws + 2 := w1
      omega
    | n + 1 =>
      have w2 : (expT B sm (n + 1 + 1)).2 - (expT B sm (n + 1 + 1)).1 ≤ ws / 64 + 6 := expT_wide2 hB hs hsl hw n
      have ih' := ih
      generalize (((n + 1 : Nat) : Int)) * (ws / 64 + 6) = z at *
      omega
def exD2 (ws : Int) (t : Nat) : Int := 2 * ws + 340 * Q t
theorem exq_ok2 {B t N : Nat} {a : Int × Int} {x : Nat → Rat} {ws : Int} (hB : 16 ≤ B) (hB2 : B ≤ 400) (ha : Iv B a x) (hx : LeN (fun _ => 0) x) (hw : a.2 - a.1 ≤ ws) (hA : Abs (downI a t) (Q (B - 8))) (hN : IsStop (expT B (downI a t)) N) (hD : 2 * exD2 ws t ≤ Q B) :
    Q B ≤ 2 * (sqI B (doneI (expT B (downI a t)) N) t).1 ∧ (sqI B (doneI (expT B (downI a t)) N) t).1 ≤ (sqI B (doneI (expT B (downI a t)) N) t).2 ∧ (sqI B (doneI (expT B (downI a t)) N) t).2 ≤ Q (B + eb t) ∧ ((sqI B (doneI (expT B (downI a t)) N) t).2 - (sqI B (doneI (expT B (downI a t)) N) t).1) * Q B ≤ exD2 ws t * (sqI B (doneI (expT B (downI a t)) N) t).2 ∧ Iv B (sqI B (doneI (expT B (downI a t)) N) t) (Ev x) := by
  have q := Q_pos t
  have qB := Q_pos B
  have al := ha.le
  have ws0 : 0 ≤ ws := by omega
  obtain ⟨u, hu⟩ : ∃ u, u = ws / Q t + 1 := ⟨_, rfl⟩
  have wu : ws ≤ u * Q t := by
    have := dv_floor2 ws (show 0 < Q t by omega)
    rw [← hu] at this; omega
  have uw : u * Q t ≤ ws + Q t := by
    have := Int.ediv_mul_le ws (show Q t ≠ 0 by omega)
    have r : u * Q t = ws / Q t * Q t + Q t := by rw [hu]; grind
    omega
  have u0 : 0 ≤ u := by have := Int.ediv_nonneg ws0 (show 0 ≤ Q t by omega); omega
  obtain ⟨g1, g2, g3, g4⟩ := exp_bound (ws := u) hB hA al (by omega) hN
  have hsl : (downI a t).1 ≤ (downI a t).2 := by
    have := scaleI_le (a := a) (n := 1) (d := Q t) al (by omega) (by omega)
    simpa [scaleI, downI] using this
  have dle := done_le (expT_le B (downI a t)) N
  have wd : (downI a t).2 - (downI a t).1 ≤ u + 1 := div_wide (by omega) (by omega)
  have wS := expS_wide (by omega) hA hsl wd N
  have hx2 : Bdd (fun M => x M / (Q t : Rat)) := Has.bdd (ha.down t)
  have qr := Qr_pos t
  have l0 : LeN (fun _ => 0) (fun M => x M / (Q t : Rat)) := by
    obtain ⟨z, hz, kz⟩ := hx.null
    refine LeN.of_null (hz.bmul (Bdd.const (1 / (Q t : Rat)))) 0 fun M _ => ?_
    have k := kz M
    have ip : (0 : Rat) ≤ 1 / (Q t : Rat) := qle_div qr (by grind)
    have m := Rat.mul_le_mul_of_nonneg_right k ip
    have e : x M / (Q t : Rat) = x M * (1 / (Q t : Rat)) := by rw [Rat.div_def, Rat.div_def, Rat.one_mul]
    rw [e]
    grind
  have up := iv_one_le (expSum_has (N := N) (by omega) (ha.down t) hA) (Ev_one_le hx2 l0)
  have hn1 := hN.1
  have wD : (doneI (expT B (downI a t)) N).2 - (doneI (expT B (downI a t)) N).1 ≤ (u + 1) + 2 + (N : Int) * ((u + 1) / 64 + 6) + 2 := by
    simp only [doneI, addI]; omega
  obtain ⟨D, hDD⟩ : ∃ D, D = doneI (expT B (downI a t)) N := ⟨_, rfl⟩
  rw [← hDD] at dle wD up
  obtain ⟨c, hc⟩ : ∃ c, c = 2 * (u + 1) + 310 := ⟨_, rfl⟩
  have c0 : 0 ≤ c := by omega
  have wC : D.2 - D.1 ≤ c := by
    have m := Int.mul_le_mul_of_nonneg_right (show (N : Int) ≤ 51 by omega) (show 0 ≤ (u + 1) / 64 + 6 by omega)
    omega
  have tc : Q t * (c + 4) ≤ exD2 ws t := by
    unfold exD2
    rw [hc]
    have r : Q t * (2 * (u + 1) + 310 + 4) = 2 * (u * Q t) + 316 * Q t := by grind
    omega
  have r4 : Q t * (c + 4) = Q t * c + 4 * Q t := by grind
  have low : Q B - c ≤ D.1 := by omega
  have rel : (D.2 - D.1) * Q B ≤ c * D.2 := Int.le_trans (Int.mul_le_mul_of_nonneg_right wC (by omega)) (Int.mul_le_mul_of_nonneg_left up c0)
  have sl := sq_low2 (B := B) dle c0 t (by omega) low
  have rs := sqs_rel2 (B := B) dle c0 low c0 rel t (by omega)
  have iv := exp_has (N := N) (by omega) ha hA
  rw [← hDD] at g1 g2 iv ⊢
  refine ⟨by omega, g1, g2.2.2.2, ?_, iv⟩
  refine Int.le_trans rs (Int.mul_le_mul_of_nonneg_right (by omega) ?_)
  omega
end Go.Proofs.Ytgmnknmjainabab
