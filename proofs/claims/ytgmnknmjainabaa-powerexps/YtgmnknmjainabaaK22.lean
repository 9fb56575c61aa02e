/-
  The numbers that make up a power of e of a number from 0 to 1, as package tailsureref takes them. Plain arithmetic: no statement of the seat is proved here.
  What tailsureref.lowExp answers, and that it leaves old memory alone.
  What tailsureref.Raised answers, and that it leaves old memory alone.
  Powers of e as package tailsureref makes them: of the whole part, and of the rest. Plain arithmetic: no statement of the seat is proved here.
  1 over a power of e; powers of e of a span. Plain arithmetic: no statement of the seat is proved here.
  What tailsureref.Exp answers of a number from 0 on, and that it leaves old memory alone.
-/
import Derived.Test.YtgmnknmjainabaaK21
namespace Go.Proofs.Ytgmnknmjainabaa
set_option linter.unusedVariables false
open Ex

/-- What is left out is at most 1. -/
def doneT (f : Nat → Int × Int) (N : Nat) : Int × Int := addI (sumI f N) (-1, 1)
theorem Iv.mono {B : Nat} {a b : Int × Int} {x : Nat → Rat} (h : Iv B a x) (h1 : b.1 ≤ a.1) (h2 : a.2 ≤ b.2) : Iv B b x := by
  have q := Qr_pos B
  exact Has.mono h (rdiv_le q (by rw [rdm q]; exact cast_le h1)) (rdiv_le q (by rw [rdm q]; exact cast_le h2))
theorem doneT_has {B N : Nat} {f : Nat → Int × Int} {x : Nat → Rat} (h : Iv B (doneI f N) x) (hr : reachI (f N) ≤ 1) : Iv B (doneT f N) x := by
  refine h.mono ?_ ?_ <;> simp only [doneT, doneI, addI] <;> omega
theorem low_abs {b : Nat} {X : Int} (h0 : 0 ≤ X) (h1 : X ≤ Q b) (n : Nat) : Abs (expT b (X, X) (n + 1)) (Q (b - n)) := by
  have hX : Abs (X, X) (Q b) := ⟨by simp only []; omega, by simp only []; omega, by simp only []; omega, by simp only []; omega⟩
  induction n with
  | zero =>
    have h2 : Abs (expT b (X, X) 0) (Q b) := by have := Q_pos b; exact ⟨by simp [expT]; omega, by simp [expT], by simp [expT]; omega, by simp [expT]⟩
    exact scaleI_abs (mulI_abs h2 hX (Int.le_refl _)) (by omega) (by omega) (by omega)
  | succ n ih =>
    have h2 : Abs (mulI b (expT b (X, X) (n + 1)) (X, X)) (Q (b - n)) := mulI_abs ih hX (Int.le_refl _)
    obtain ⟨g1, g2, g3, g4⟩ := h2
    have q := Q_pos (b - (n + 1))
    have hq : Q (b - n) ≤ Q (b - (n + 1)) * ((n + 1 : Nat) + 1 : Int) := by
      by_cases hb : b - n = 0
      · have e : b - (n + 1) = 0 := by omega
        rw [hb, e]; simp [Q]; omega
      · have e : b - n = b - (n + 1) + 1 := by omega
        rw [e]
        have e2 : Q (b - (n + 1) + 1) = 2 * Q (b - (n + 1)) := rfl
        rw [e2]
        have := Int.mul_le_mul_of_nonneg_left (show (2 : Int) ≤ ((n + 1 : Nat) + 1 : Int) by omega) (show 0 ≤ Q (b - (n + 1)) by omega)
        omega
    have d0 : (0 : Int) < ((n + 1 : Nat) + 1 : Int) := by omega
    have r1 := round_abs (x := (mulI b (expT b (X, X) (n + 1)) (X, X)).1 * 1) (m := Q (b - (n + 1))) d0 (by omega) (by omega)
    have r2 := round_abs (x := (mulI b (expT b (X, X) (n + 1)) (X, X)).2 * 1) (m := Q (b - (n + 1))) d0 (by omega) (by omega)
    exact ⟨r1.1, r1.2.1, r2.2.2.1, r2.2.2.2⟩
theorem low_absB {b : Nat} {X : Int} (h0 : 0 ≤ X) (h1 : X ≤ Q b) (n : Nat) : Abs (expT b (X, X) n) (Q b) := by
  cases n with
  | zero => have := Q_pos b; exact ⟨by simp [expT]; omega, by simp [expT], by simp [expT]; omega, by simp [expT]⟩
  | succ n => exact (low_abs h0 h1 n).mono (Q_mono (by omega))
/-- Where tailsureref.lowExp ends. -/
def LowStop (f : Nat → Int × Int) (N : Nat) : Prop := 3 ≤ N ∧ reachI (f N) ≤ 1 ∧ ∀ n, 3 ≤ n → n < N → 1 < reachI (f n)
theorem low_stop {b : Nat} {X : Int} (h0 : 0 ≤ X) (h1 : X ≤ Q b) : ∃ N, N ≤ b + 4 ∧ LowStop (expT b (X, X)) N := by
  have h2 : 3 ≤ b + 4 ∧ reachI (expT b (X, X) (b + 4)) ≤ 1 := by
    refine ⟨by omega, ?_⟩
    have := abs_reach (low_abs h0 h1 (b + 3))
    have e : b - (b + 3) = 0 := by omega
    rw [e] at this; exact this
  obtain ⟨N, n1, n2, n3⟩ := exists_least (p := fun n => 3 ≤ n ∧ reachI (expT b (X, X) n) ≤ 1) h2
  exact ⟨N, n1, n2.1, n2.2, fun n h3 hn => by have := n3 n hn; simp at this; have := this h3; omega⟩
/-- The ends are not below 0. -/
theorem low_nonneg {b : Nat} {X : Int} (h0 : 0 ≤ X) (n : Nat) : 0 ≤ (expT b (X, X) n).1 := by
  induction n with
  | zero => have := Q_pos b; simp only [expT]; omega
  | succ n ih =>
    have hle := expT_le b (X, X) n
    have q := Q_pos b
    have l := (least4 ((expT b (X, X) n).1 * X) ((expT b (X, X) n).1 * X) ((expT b (X, X) n).2 * X) ((expT b (X, X) n).2 * X)).2.2.2.2
    have p1 := Int.mul_nonneg ih h0
    have p2 := Int.mul_nonneg (show 0 ≤ (expT b (X, X) n).2 by omega) h0
    have h3 : 0 ≤ (mulI b (expT b (X, X) n) (X, X)).1 := by
      simp only [mulI]
      refine Int.ediv_nonneg ?_ (by omega)
      rcases l with l | l | l | l <;> rw [l] <;> assumption
    simp only [expT, scaleI]
    exact Int.ediv_nonneg (by omega) (by omega)
theorem low_sum {b : Nat} {X : Int} (h0 : 0 ≤ X) (n : Nat) : Q b ≤ (sumI (expT b (X, X)) n).1 := by
  induction n with
  | zero => simp [sumI, expT]
  | succ n ih => simp only [sumI, addI]; have := low_nonneg (b := b) h0 (n + 1); omega
theorem low_sumabs {b : Nat} {X : Int} (h0 : 0 ≤ X) (h1 : X ≤ Q b) (n : Nat) : Abs (sumI (expT b (X, X)) n) (((n : Int) + 1) * Q b) := by
  induction n with
  | zero => simp only [sumI]; exact (low_absB h0 h1 0).mono (by simp)
  | succ n ih =>
    simp only [sumI]
    refine (ih.add (low_absB h0 h1 (n + 1))).mono ?_
    have : (((n + 1 : Nat) : Int) + 1) * Q b = ((n : Int) + 1) * Q b + Q b := by
      have e : (((n + 1 : Nat) : Int) + 1) = ((n : Int) + 1) + 1 := by omega
      rw [e, Int.add_mul, Int.one_mul]
    omega
theorem tm_half1 {x b : Rat} (hx : AB x 1) {n : Nat} (hn : 1 ≤ n) (h : AB (tm x n) b) : AB (tm x (n + 1)) (b / 2) := by
  have e := tm_succ x n
  have hp := pos1 n
  have g := hx.mul h
  rw [← e] at g
  have e3 : tm x (n + 1) = ((n : Rat) + 1) * tm x (n + 1) / ((n : Rat) + 1) := by grind
  rw [e3]
  refine rdiv_AB hp (g.mono ?_)
  have hn' : (1 : Rat) ≤ (n : Rat) := by exact_mod_cast hn
  have := Rat.mul_nonneg (show 0 ≤ (n : Rat) - 1 by grind) h.nonneg
  grind
/-- It has e to the power of X over 2 to the power of b. -/
theorem low_has {b N : Nat} {X : Int} (h0 : 0 ≤ X) (h1 : X ≤ Q b) (hN : LowStop (expT b (X, X)) N) : Iv b (doneT (expT b (X, X)) N) (Ev (fun _ => (X : Rat) / (Q b : Rat))) := by
  have q := Qr_pos b
  have hX : Iv b (X, X) (fun _ => (X : Rat) / (Q b : Rat)) := Has.const Rat.le_refl Rat.le_refl
  have hx : AB ((X : Rat) / (Q b : Rat)) 1 := by
    refine rdiv_AB q ?_
    have c1 : ((0 : Int) : Rat) ≤ (X : Rat) := cast_le h0
    have c2 := cast_le h1
    have c0 : ((0 : Int) : Rat) = 0 := rfl
    rw [c0] at c1
    constructor <;> grind
  refine doneT_has ?_ hN.2.1
  exact done_has (expT_le b (X, X)) (fun n _ => expT_has hX n) 0 (fun M _ n c hn hc => tm_half1 hx (by have := hN.1; omega) hc)
end Go.Proofs.Ytgmnknmjainabaa

namespace Go.Proofs.Ytgmnknmjainabaa
set_option linter.unusedVariables false
set_option linter.unusedSimpArgs false
set_option linter.unnecessarySimpa false
open Go.RowKit
attribute [local go_sem ↓] Go.wp_at_zero Go.wp_at_succ

theorem refTimes_iv (w : World) (s t : Sp) (k b : Nat) (a c : Int × Int) (hs : SpAt w s k a.1 a.2) (ht : SpAt w t k c.1 c.2) (hk : k ≤ 300000000) (hb : s.bits = (b : Int)) (hbm : b ≤ 1000000) :
    Calls Try.prog 36 #[.agg #[.bool s.ln, .slice s.la s.lN s.lc, .bool s.hn, .slice s.ha s.hN s.hc, .int .i64 s.bits], .agg #[.bool t.ln, .slice t.la t.lN t.lc, .bool t.hn, .slice t.ha t.hN t.hc, .int .i64 t.bits]] w (SpanAns w b (k + k + 8) (mulI b a c).1 (mulI b a c).2) :=
  (refTimes_int w s t k a.1 a.2 c.1 c.2 hs ht hk (by omega) (by omega)).mono fun r w' h => by
    rw [hb, downZ_nat, downZ_nat] at h; exact h
theorem refPlus_iv (w : World) (s t : Sp) (k b : Nat) (a c : Int × Int) (hs : SpAt w s k a.1 a.2) (ht : SpAt w t k c.1 c.2) (hk : k ≤ 700000000) (hb : s.bits = (b : Int)) :
    Calls Try.prog 34 #[.agg #[.bool s.ln, .slice s.la s.lN s.lc, .bool s.hn, .slice s.ha s.hN s.hc, .int .i64 s.bits], .agg #[.bool t.ln, .slice t.la t.lN t.lc, .bool t.hn, .slice t.ha t.hN t.hc, .int .i64 t.bits]] w (SpanAns w b (k + 1) (addI a c).1 (addI a c).2) :=
  (refPlus_int w s t k a.1 a.2 c.1 c.2 hs ht hk).mono fun r w' h => by rw [hb] at h; exact h
theorem small_reach {lo hi : Int} : smallB lo hi 1 = decide (reachI (lo, hi) ≤ 1) := by
  unfold smallB reachI maxZ
  rw [Bool.eq_iff_iff, Bool.and_eq_true, decide_eq_true_iff, decide_eq_true_iff, decide_eq_true_iff]
  simp only []
  split <;> omega
/-- Where tailsureref.lowExp is behind some rounds. -/
structure LowSt (w wr : World) (B5 B6 B7 b K : Nat) (U Pp Sm : Sp) (f : Nat → Int × Int) (X : Int) (i : Nat) : Prop where
  u : VrC wr B5 U
  p : VrC wr B6 Pp
  s : VrC wr B7 Sm
  up : SpAt wr U K (f i).1 (f i).2
  pp : SpAt wr Pp K X X
  sp : SpAt wr Sm K (sumI f i).1 (sumI f i).2
  ub : U.bits = (b : Int)
  pb : Pp.bits = (b : Int)
  sb : Sm.bits = (b : Int)
  no : NoC wr (w.heap.size + 1)
  be : Below w.heap.size w wr
  l5 : w.heap.size + 1 < B5
  l6 : w.heap.size + 1 < B6
  l7 : w.heap.size + 1 < B7
  n56 : B5 ≠ B6
  n57 : B5 ≠ B7
  n67 : B6 ≠ B7
theorem LowSt.below {w wr wr' : World} {B5 B6 B7 b K : Nat} {U Pp Sm : Sp} {f : Nat → Int × Int} {X : Int} {i : Nat} (h : LowSt w wr B5 B6 B7 b K U Pp Sm f X i) (hb : Below wr.heap.size wr wr') : LowSt w wr' B5 B6 B7 b K U Pp Sm f X i :=
  ⟨h.u.below hb, h.p.below hb, h.s.below hb, h.up.below hb, h.pp.below hb, h.sp.below hb, h.ub, h.pb, h.sb, h.no.below hb, bthen h.be hb, h.l5, h.l6, h.l7, h.n56, h.n57, h.n67⟩

set_option maxRecDepth 100000 in
set_option maxHeartbeats 4000000 in
theorem lowExp_iv (w : World) (x : Nm) (k b N K : Nat) (X : Int) (hx : IntAt w x.neg x.a x.n x.cap k X) (hkK : k ≤ K) (h0 : 0 ≤ X) (h1 : X ≤ Q b) (hb : b ≤ 100000) (hN : LowStop (expT b (X, X)) N) (hNb : N ≤ b + 4) (hK : Q (b + 20) < P K) (hK2 : K ≤ 10000000) (hK3 : b / 16 + 18 ≤ K) :
    Calls Try.prog 140 #[.agg #[.bool x.neg, .slice x.a x.n x.cap], .int .i64 b] w (SpanAns w b (K + 1) (doneT (expT b (X, X)) N).1 (doneT (expT b (X, X)) N).2) := by
  obtain ⟨W, hW⟩ : ∃ W, W = (w.alloc (.cells #[.bool x.neg, .slice x.a x.n x.cap] 24)).alloc (.cells #[.bool false, .slice none 0 0, .bool false, .slice none 0 0, .int .i64 0] 38) := ⟨_, rfl⟩
  have hBW : Below w.heap.size w W := by rw [hW]; exact bl2 _ _ _
  have A : NmC W w.heap.size x := by rw [hW]; exact ⟨by simp [go_sem], by simp [go_sem]⟩
  have R : NoC W (w.heap.size + 1) := by rw [hW]; exact ⟨by simp [go_sem], by simp [go_sem], by simp [go_sem], by simp [go_sem], by simp [go_sem], fun o => by simp [go_sem]⟩
  have HX := hide ((hx.below hBW).mono hkK)
  have lR := R.lt
  have hQb := Q_pos b
  have hQK : Q b * 1048576 < P K := by
    have e : Q (b + 20) = Q b * Q 20 := Q_add b 20
    have e2 : Q 20 = 1048576 := rfl
    rw [e, e2] at hK; exact hK
  have HFIT : Hid (∀ j, j ≤ N → -P K < (expT b (X, X) j).1 ∧ (expT b (X, X) j).2 < P K) := hide (fun j _ => by
    obtain ⟨g1, g2, g3, g4⟩ := low_absB h0 h1 j
    omega)
  have HFITS : Hid (∀ j, j ≤ N → -P K < (sumI (expT b (X, X)) j).1 ∧ (sumI (expT b (X, X)) j).2 < P K) := hide (fun j hj => by
    obtain ⟨g1, g2, g3, g4⟩ := low_sumabs h0 h1 j
    have := Int.mul_le_mul_of_nonneg_right (show (j : Int) + 1 ≤ 1048575 by omega) (show 0 ≤ Q b by omega)
    omega)
  have HN := hide hN
  have HK := hide (show ∀ w', Below W.heap.size W w' → (w'.cell? ⟨w.heap.size, 0, none⟩ = some (.bool x.neg) ∧ w'.cell? ⟨w.heap.size, 1, none⟩ = some (.slice x.a x.n x.cap)) from fun w' hB => ⟨(A.below hB).c0, (A.below hB).c1⟩)
  clear hx hN hQK
  go_enter Try.func140, Try.ntmps140
  go_wp2
  rw [← hW]
  clear hW
  obtain ⟨x0, x1⟩ := unhide HK _ (Below.refl _ _)
  go_cut [5, 6] (fun p q wx => TwoP W wx b K K (expT b (X, X) 0) (X, X) p q)
  case first =>
    go_region_held3 (fun w' => w'.cell? ⟨w.heap.size, 0, none⟩ = some (.bool x.neg) ∧ w'.cell? ⟨w.heap.size, 1, none⟩ = some (.slice x.a x.n x.cap)) (exact unhide HK _ (by repeat' (first | with_reducible exact hBU1 | with_reducible exact Below.refl _ _ | with_reducible refine Below.drew ?_ | with_reducible refine balloc ?_ _ | with_reducible refine Below.setCell ?_ (by first | with_reducible exact Nat.le_refl _ | with_reducible exact Nat.le_succ _ | with_reducible exact hlU1 | with_reducible exact Nat.le_succ_of_le hlU1) _)))
      (first
        | (go_at_call 118; refine (refWhole _ 1 b hb (by decide) (by decide)).mono ?_; rintro r wU1 ⟨vU1, rfl, hvbU1, hintU1, hbU1⟩; have HVBU1 := hide hvbU1; clear hvbU1; have hBU1 : Below W.heap.size W wU1 := (by first | with_reducible exact bthen (Below.refl _ _).drew hbU1 | with_reducible exact bthen (bl1 _ _).drew hbU1 | with_reducible exact bthen (bl2 _ _ _).drew hbU1); (first | with_reducible have gaU1 := ((noc_new W 38).below (Below.refl _ _).drew).below hbU1 | with_reducible have gaU1 := ((noc_new W 38).below (bl1 _ _).drew).below hbU1 | skip); (try with_reducible have gbU1 := ((noc_new' (W.alloc _) (W.heap.size + 1) (hs1 _ _) 38).below (Below.refl _ _).drew).below hbU1); have hlU1 := hBU1.size; (try have eaU1 := gaU1); (try obtain ⟨zaU10, zaU11, zaU12, zaU13, zaU14, zaU15⟩ := eaU1); (try have yaU1 := gaU1.lt); (try have ebU1 := gbU1); (try obtain ⟨zbU10, zbU11, zbU12, zbU13, zbU14, zbU15⟩ := ebU1); (try have ybU1 := gbU1.lt)))
    all_goals
      have hiXU := (show SpAt wU1 vU1 K (expT b (X, X) 0).1 (expT b (X, X) 0).2 by rw [show (expT b (X, X) 0).1 = 1 * Q b from (Int.one_mul _).symm, show (expT b (X, X) 0).2 = 1 * Q b from (Int.one_mul _).symm]; exact hintU1.mono hK3)
      have hiYU := (show SpAt wU1 ⟨x.neg, x.a, x.n, x.cap, x.neg, x.a, x.n, x.cap, (b : Int)⟩ K X X from ⟨(unhide HX).below hBU1, (unhide HX).below hBU1⟩)
      go_wp2_with fail
      go_meet
      first
        | with_reducible exact twoP_aa (x := vU1) (y := ⟨x.neg, x.a, x.n, x.cap, x.neg, x.a, x.n, x.cap, (b : Int)⟩) hBU1 hiXU hiYU (unhide HVBU1) rfl
        | with_reducible exact twoP_aa' (x := vU1) (y := ⟨x.neg, x.a, x.n, x.cap, x.neg, x.a, x.n, x.cap, (b : Int)⟩) hBU1 hiXU hiYU (unhide HVBU1) rfl
        | with_reducible exact twoP_sa (x := vU1) (y := ⟨x.neg, x.a, x.n, x.cap, x.neg, x.a, x.n, x.cap, (b : Int)⟩) hBU1 hiXU hiYU (unhide HVBU1) rfl (by assumption) (by first | with_reducible exact Nat.le_refl _ | with_reducible exact Nat.le_succ _ | with_reducible exact hlU1 | with_reducible exact Nat.le_succ_of_le hlU1)
        | with_reducible exact twoP_as (x := vU1) (y := ⟨x.neg, x.a, x.n, x.cap, x.neg, x.a, x.n, x.cap, (b : Int)⟩) hBU1 hiXU hiYU (unhide HVBU1) rfl (by assumption) (by first | with_reducible exact Nat.le_refl _ | with_reducible exact Nat.le_succ _ | with_reducible exact hlU1 | with_reducible exact Nat.le_succ_of_le hlU1)
        | with_reducible exact twoP_ss (x := vU1) (y := ⟨x.neg, x.a, x.n, x.cap, x.neg, x.a, x.n, x.cap, (b : Int)⟩) hBU1 hiXU hiYU (unhide HVBU1) rfl (by assumption) (by assumption) (by first | with_reducible exact Nat.le_refl _ | with_reducible exact Nat.le_succ _ | with_reducible exact hlU1 | with_reducible exact Nat.le_succ_of_le hlU1) (by first | with_reducible exact Nat.le_refl _ | with_reducible exact Nat.le_succ _ | with_reducible exact hlU1 | with_reducible exact Nat.le_succ_of_le hlU1) (by omega)
  case rest =>
  obtain ⟨BU, CU, xU, yU, rfl, rfl, hHU, hJU, hneU, XU, YU, hxU, hyU, bxU, byU, hblU⟩ := hcut
  replace R := R.below hblU
  replace hBW := bthen hBW hblU
  have lx := XU.lt
  have ly := YU.lt
  have lR2 := R.lt
  obtain ⟨⟨y0, y1, y2, y3, y4⟩, y5⟩ := XU
  have XU : VrC wc BU xU := ⟨⟨y0, y1, y2, y3, y4⟩, y5⟩
  have st0 : LowSt w (wc.alloc (.cells #[.bool xU.ln, .slice xU.la xU.lN xU.lc, .bool xU.hn, .slice xU.ha xU.hN xU.hc, .int .i64 xU.bits] 38)) BU CU wc.heap.size b K xU yU xU (expT b (X, X)) X 0 := ⟨XU.below (bl1 _ _), YU.below (bl1 _ _), vr_new wc xU _, hxU.below (bl1 _ _), hyU.below (bl1 _ _), hxU.below (bl1 _ _), bxU, byU, bxU, R.below (bl1 _ _), balloc hBW _, by omega, by omega, by omega, hneU, by omega, by omega⟩
  have HBX := hide bxU
  clear bxU byU hxU hyU HX HK A x0 x1
  go_wp2_with fail
  go_loopw [8] (fun nn wr => ∃ (i : Nat) (U Pp Sm : Sp), nn = .int .i64 ((i : Int) + 1) ∧ i < N ∧ LowSt w wr BU CU wc.heap.size b K U Pp Sm (expT b (X, X)) X i) (fun nn _ => N + 1 - (intOf nn).toNat)
  case atStart => exact ⟨0, xU, yU, xU, rfl, by have := (unhide HN).1; omega, st0⟩
  case round =>
    obtain ⟨i, U, Pp, Sm, rfl, hi, st⟩ := hrel
    have hlim : (i : Int) + 1 < 3 * (b : Int) + 20 := by omega
    clear y0 y1 y2 y3 y4 y5 XU
    obtain ⟨⟨y0, y1, y2, y3, y4⟩, y5⟩ := st.u
    obtain ⟨⟨z0, z1, z2, z3, z4⟩, z5⟩ := st.p
    go_wp2_with fail
    refine (refTimes_iv _ U Pp K b (expT b (X, X) i) (X, X) st.up st.pp (by omega) st.ub (by omega)).mono ?_
    rintro r w1 ⟨v1, rfl, hvb1, hvp1, hb1⟩
    replace st := st.below hb1
    have HV1 := hide hvb1
    clear hb1 hvb1 y0 y1 y2 y3 y4 y5 z0 z1 z2 z3 z4 z5
    go_wp2_with fail
    refine (numOf_int 1 _ (by decide) (by decide)).mono ?_
    rintro r w2 ⟨neg2, a2, n2, c2, rfl, hint2, hb2⟩
    replace st := st.below hb2
    replace hvp1 := hvp1.below hb2
    clear hb2
    go_wp2_with fail
    refine (numOf_int ((i : Int) + 1) _ (by omega) (by omega)).mono ?_
    rintro r w3 ⟨neg3, a3, n3, c3, rfl, hint3, hb3⟩
    replace st := st.below hb3
    replace hvp1 := hvp1.below hb3
    replace hint2 := hint2.below hb3
    clear hb3
    go_wp2_with fail
    refine (refBy _ v1 ⟨neg2, a2, n2, c2⟩ ⟨neg3, a3, n3, c3⟩ _ _ _ b _ 1 ((i : Int) + 1) hvp1 hint2 hint3 (by omega) (by omega) (by omega) (by omega) (unhide HV1)).mono ?_
    rintro r w4 ⟨v4, rfl, hvb4, hvp4, hb4⟩
    rw [byI_nonneg (mulI_le b) (by omega)] at hvp4
    have e4 : scaleI (mulI b (expT b (X, X) i) (X, X)) 1 ((i : Int) + 1) = expT b (X, X) (i + 1) := rfl
    rw [e4] at hvp4
    replace hvp4 := hvp4.fits (K := K) (expT_le b (X, X) _) (unhide HFIT _ (by omega)).1 (unhide HFIT _ (by omega)).2
    replace st := st.below hb4
    have HV4 := hide hvb4
    clear hb4 hvb4 hvp1 hint2 hint3 e4
    obtain ⟨V4, hV4⟩ : ∃ V4, V4 = put5w w4 BU v4 := ⟨_, rfl⟩
    have U4 : VrC V4 BU v4 := by rw [hV4]; exact st.u.put v4
    have P4 : VrC V4 CU Pp := by rw [hV4]; exact st.p.off (Ne.symm st.n56) v4
    have S4 : VrC V4 wc.heap.size Sm := by rw [hV4]; exact st.s.off (Ne.symm st.n57) v4
    have up4 : SpAt V4 v4 K (expT b (X, X) (i + 1)).1 (expT b (X, X) (i + 1)).2 := by rw [hV4]; exact hvp4.put st.u.c v4
    have pp4 : SpAt V4 Pp K X X := by rw [hV4]; exact st.pp.put st.u.c v4
    have sp4 : SpAt V4 Sm K (sumI (expT b (X, X)) i).1 (sumI (expT b (X, X)) i).2 := by rw [hV4]; exact st.sp.put st.u.c v4
    have R4 : NoC V4 (w.heap.size + 1) := by rw [hV4]; exact st.no.off (by have := st.l5; omega) v4
    have B4 : Below w.heap.size w V4 := by rw [hV4]; exact below_put st.be (by have := st.l5; omega) v4
    have hpb := hide st.pb
    have hsb := hide st.sb
    have l5 := st.l5
    have l6 := st.l6
    have l7 := st.l7
    have n56 := st.n56
    have n57 := st.n57
    have n67 := st.n67
    have lu := st.u.lt
    have ls := st.s.lt
    obtain ⟨⟨y0, y1, y2, y3, y4⟩, y5⟩ := st.u
    obtain ⟨⟨z0, z1, z2, z3, z4⟩, z5⟩ := st.s
    clear st hvp4
    go_wp2_with fail
    have hV4' : V4 = put5w w4 BU v4 := hV4
    unfold put5w at hV4'
    rw [← hV4']
    clear hV4' hV4 y0 y1 y2 y3 y4 y5 z0 z1 z2 z3 z4 z5
    refine (refPlus_iv _ Sm v4 K b (sumI (expT b (X, X)) i) (expT b (X, X) (i + 1)) sp4 up4 (by omega) (unhide hsb)).mono ?_
    rintro r w5 ⟨v5, rfl, hvb5, hvp5, hb5⟩
    have e5 : addI (sumI (expT b (X, X)) i) (expT b (X, X) (i + 1)) = sumI (expT b (X, X)) (i + 1) := rfl
    rw [e5] at hvp5
    replace hvp5 := hvp5.fits (K := K) (sum_le (expT_le b (X, X)) _) (unhide HFITS _ (by omega)).1 (unhide HFITS _ (by omega)).2
    have U5 := U4.below hb5
    have P5 := P4.below hb5
    have S5 := S4.below hb5
    have up5 := up4.below hb5
    have pp5 := pp4.below hb5
    have R5 := R4.below hb5
    have B5 := bthen B4 hb5
    have HV5 := hide hvb5
    clear hb5 hvb5 U4 P4 S4 up4 pp4 sp4 R4 B4 e5
    have stn : LowSt w (put5w w5 wc.heap.size v5) BU CU wc.heap.size b K v4 Pp v5 (expT b (X, X)) X (i + 1) := ⟨U5.off n57 v5, P5.off n67 v5, S5.put v5, up5.put S5.c v5, pp5.put S5.c v5, hvp5.put S5.c v5, unhide HV4, unhide hpb, unhide HV5, R5.off (by omega) v5, below_put B5 (by omega) v5, l5, l6, l7, n56, n57, n67⟩
    have lu5 := U5.lt
    have ls5 := S5.lt
    obtain ⟨⟨y0, y1, y2, y3, y4⟩, y5⟩ := U5
    obtain ⟨⟨z0, z1, z2, z3, z4⟩, z5⟩ := S5
    clear P5 up5 pp5 R5 B5 hvp5
    obtain ⟨V5, hV5⟩ : ∃ V5, V5 = put5w w5 wc.heap.size v5 := ⟨_, rfl⟩
    rw [← hV5] at stn
    unfold put5w at hV5
    go_wp2_with fail
    rw [← hV5]
    clear hV5 y0 y1 y2 y3 y4 y5 z0 z1 z2 z3 z4 z5
    refine (refSmall _ v4 K 1 _ _ stn.up (by omega) (by omega)).mono ?_
    rintro r w6 ⟨rfl, hb6⟩
    rw [small_reach]
    replace stn := stn.below hb6
    clear hb6
    have er : reachI ((expT b (X, X) (i + 1)).1, (expT b (X, X) (i + 1)).2) = reachI (expT b (X, X) (i + 1)) := rfl
    rw [er]
    clear er
    by_cases hin : i + 1 < N
    · by_cases hr : reachI (expT b (X, X) (i + 1)) ≤ 1
      · have h3 : ¬ (2 : Int) < (i : Int) + 1 := by
          intro h3
          have := (unhide HN).2.2 (i + 1) (by omega) hin
          omega
        rw [decide_eq_true hr]
        clear hr
        go_wp2_with fail
        go_roundw
        case rel => exact ⟨i + 1, v4, Pp, v5, by go_num, hin, stn⟩
        case measure => simp [intOf]; omega
      · rw [decide_eq_false hr]
        clear hr
        go_wp2_with fail
        go_roundw
        case rel => exact ⟨i + 1, v4, Pp, v5, by go_num, hin, stn⟩
        case measure => simp [intOf]; omega
    · have hie : i + 1 = N := by omega
      have hr : reachI (expT b (X, X) (i + 1)) ≤ 1 := by rw [hie]; exact (unhide HN).2.1
      have h3 : (2 : Int) < (i : Int) + 1 := by have := (unhide HN).1; omega
      rw [decide_eq_true hr]
      have HIE := hide hie
      clear hr hie
      have ls6 := stn.s.lt
      obtain ⟨⟨z0, z1, z2, z3, z4⟩, z5⟩ := stn.s
      go_wp2_with fail
      refine (refTail _ v5 K 1 _ _ stn.sp (by omega) (by omega) (by omega) (by omega)).mono ?_
      rintro r w7 ⟨v7, rfl, hvb7, hvp7, hb7⟩
      obtain ⟨q0, q1, q2, q3, q4, q5⟩ := stn.no.below hb7
      have hBf := bthen stn.be hb7
      have HV7 := hide (hvb7.trans stn.sb)
      rw [unhide HIE] at hvp7
      clear hvb7 hb7
      go_wp2_with fail
      refine bodyPost_ret (v := .agg #[.bool v7.ln, .slice v7.la v7.lN v7.lc, .bool v7.hn, .slice v7.ha v7.hN v7.hc, .int .i64 v7.bits]) (by simp [results, Try.results140, go_sem, q0, q1, q2, q3, q4]) rfl ⟨v7, rfl, unhide HV7, ?_, ?_⟩
      · exact SpAt.put5 hvp7 q0 q1 q2 q3 q4 _ _ _ _ _
      · exact set5 hBf (Nat.le_succ _) _ _ _ _ _
end Go.Proofs.Ytgmnknmjainabaa

namespace Go.Proofs.Ytgmnknmjainabaa
set_option linter.unusedVariables false
set_option linter.unusedSimpArgs false
set_option linter.unnecessarySimpa false
open Go.RowKit
attribute [local go_sem ↓] Go.wp_at_zero Go.wp_at_succ

/-- Powers of a span, as tailsureref.Raised makes them: what is taken together, and the square. -/
def raiI (b : Nat) (o s : Int × Int) : Nat → Nat → Int × Int
  | 0, _ => o
  | f + 1, n => if n = 0 then o else raiI b (if n % 2 = 1 then mulI b o s else o) (mulI b s s) f (n / 2)

structure RaiSt2 (w wr : World) (B5 b K : Nat) (O S : Sp) (o s : Int × Int) : Prop where
  u : VrC wr B5 O
  v : VrC wr w.heap.size S
  up : SpAt wr O K o.1 o.2
  vp : SpAt wr S K s.1 s.2
  ub : O.bits = (b : Int)
  vb : S.bits = (b : Int)
  no : NoC wr (w.heap.size + 1)
  be : Below w.heap.size w wr
  l5 : w.heap.size + 1 < B5
theorem RaiSt2.below {w wr wr' : World} {B5 b K : Nat} {O S : Sp} {o s : Int × Int} (h : RaiSt2 w wr B5 b K O S o s) (hb : Below wr.heap.size wr wr') : RaiSt2 w wr' B5 b K O S o s :=
  ⟨h.u.below hb, h.v.below hb, h.up.below hb, h.vp.below hb, h.ub, h.vb, h.no.below hb, bthen h.be hb, h.l5⟩

set_option maxRecDepth 100000 in
set_option maxHeartbeats 4000000 in
theorem refRaised_iv (w : World) (s : Sp) (b K n : Nat) (a : Int × Int) (Inv : Nat → Int × Int → Int × Int → Prop) (hs : SpAt w s K a.1 a.2) (hbits : s.bits = (b : Int)) (hb : b ≤ 100000) (hn : n ≤ 1000000) (hK2 : K ≤ 10000000) (hK3 : b / 16 + 18 ≤ K)
    (hI0 : Inv n (Q b, Q b) a)
    (hI1 : ∀ m o c, 0 < m → Inv m o c → Inv (m / 2) (if m % 2 = 1 then mulI b o c else o) (mulI b c c) ∧ (-P K < (mulI b o c).1 ∧ (mulI b o c).2 < P K ∨ m % 2 ≠ 1) ∧ -P K < (mulI b c c).1 ∧ (mulI b c c).2 < P K) :
    Calls Try.prog 139 #[.agg #[.bool s.ln, .slice s.la s.lN s.lc, .bool s.hn, .slice s.ha s.hN s.hc, .int .i64 s.bits], .int .i64 n] w (fun r w' => ∃ o c, Inv 0 o c ∧ SpanAns w b K o.1 o.2 r w') := by
  obtain ⟨W, hW⟩ : ∃ W, W = (w.alloc (.cells #[.bool s.ln, .slice s.la s.lN s.lc, .bool s.hn, .slice s.ha s.hN s.hc, .int .i64 s.bits] 38)).alloc (.cells #[.bool false, .slice none 0 0, .bool false, .slice none 0 0, .int .i64 0] 38) := ⟨_, rfl⟩
  have hBW : Below w.heap.size w W := by rw [hW]; exact bl2 _ _ _
  have A : VrC W w.heap.size s := by rw [hW]; exact ⟨⟨by simp [go_sem], by simp [go_sem], by simp [go_sem], by simp [go_sem], by simp [go_sem]⟩, fun o => by simp [go_sem]⟩
  have R : NoC W (w.heap.size + 1) := by rw [hW]; exact ⟨by simp [go_sem], by simp [go_sem], by simp [go_sem], by simp [go_sem], by simp [go_sem], fun o => by simp [go_sem]⟩
  have HS := hide (hs.below hBW)
  have HI0 := hide hI0
  have HI1 := hide hI1
  have HB := hide hbits
  clear hs hI0 hI1 hbits
  go_enter Try.func139, Try.ntmps139
  go_wp2_with fail
  rw [← hW, unhide HB]
  clear hW
  refine (refWhole _ 1 b hb (by decide) (by decide)).mono ?_
  rintro r w1 ⟨v1, rfl, hvb1, hvp1, hb1⟩
  rw [Int.one_mul] at hvp1
  replace hvp1 := hvp1.mono hK3
  replace A := A.below hb1
  replace R := R.below hb1
  replace hBW := bthen hBW hb1
  replace HS := hide ((unhide HS).below hb1)
  have lR := R.lt
  have st0 : RaiSt2 w (w1.alloc (.cells #[.bool v1.ln, .slice v1.la v1.lN v1.lc, .bool v1.hn, .slice v1.ha v1.hN v1.hc, .int .i64 v1.bits] 38)) w1.heap.size b K v1 s (Q b, Q b) a := ⟨vr_new w1 v1 _, A.below (bl1 _ _), hvp1.below (bl1 _ _), (unhide HS).below (bl1 _ _), hvb1, unhide HB, R.below (bl1 _ _), balloc hBW _, by omega⟩
  have HV1 := hide hvb1
  clear hvb1 hvp1 A R hBW HS hb1
  go_wp2_with fail
  go_loopw [1] (fun mm wr => ∃ (m : Nat) (O S : Sp) (o c : Int × Int), mm = .int .i64 (m : Int) ∧ m ≤ n ∧ Inv m o c ∧ RaiSt2 w wr w1.heap.size b K O S o c) (fun mm _ => (intOf mm).toNat)
  case atStart => exact ⟨n, v1, s, (Q b, Q b), a, rfl, Nat.le_refl _, unhide HI0, st0⟩
  case round =>
    obtain ⟨m, O, S, o, c, rfl, hmn, hInv, st⟩ := hrel
    have HInv := hide hInv
    clear hInv
    by_cases hm : 0 < m
    · have hm' : (0 : Int) < (m : Int) := by omega
      have q1 : ((m : Int)).tdiv 2 = ((m / 2 : Nat) : Int) := by rw [Int.tdiv_eq_ediv_of_nonneg (by omega)]; omega
      have HQ := hide q1
      obtain ⟨k1, k2, k3⟩ := unhide HI1 m o c hm (unhide HInv)
      have HN := hide k1
      have HF := hide k2
      have HG := hide k3
      clear k1 k2 k3 q1
      have lv := st.v.lt
      have lu := st.u.lt
      by_cases hodd : m % 2 = 1
      · have q2 : ((m : Int)).tmod 2 = 1 := by rw [Int.tmod_eq_emod_of_nonneg (by omega)]; omega
        have q3 : (m : Int) % 2 = 1 := by omega
        have HO := hide hodd
        obtain ⟨⟨y0, y1, y2, y3, y4⟩, y5⟩ := st.u
        obtain ⟨⟨z0, z1, z2, z3, z4⟩, z5⟩ := st.v
        clear hodd
        go_wp2_with fail
        refine (refTimes_iv _ O S K b o c st.up st.vp (by omega) st.ub (by omega)).mono ?_
        rintro r w2 ⟨v2, rfl, hvb2, hvp2, hb2⟩
        have hf := (unhide HF).resolve_right (fun h => h (unhide HO))
        replace hvp2 := hvp2.fits (K := K) (mulI_le b) hf.1 hf.2
        replace st := st.below hb2
        have HV2 := hide hvb2
        clear hvb2 hb2 hf y0 y1 y2 y3 y4 y5 z0 z1 z2 z3 z4 z5
        have ne5 : w.heap.size ≠ w1.heap.size := by have := st.l5; omega
        have st2 : RaiSt2 w (put5w w2 w1.heap.size v2) w1.heap.size b K v2 S (mulI b o c) c := ⟨st.u.put v2, st.v.off ne5 v2, hvp2.put st.u.c v2, st.vp.put st.u.c v2, unhide HV2, st.vb, st.no.off (by have := st.l5; omega) v2, below_put st.be (by have := st.l5; omega) v2, st.l5⟩
        have lv2 := st.v.lt
        have lu2 := st.u.lt
        obtain ⟨⟨y0, y1, y2, y3, y4⟩, y5⟩ := st.u
        obtain ⟨⟨z0, z1, z2, z3, z4⟩, z5⟩ := st.v
        obtain ⟨V2, hV2⟩ : ∃ V2, V2 = put5w w2 w1.heap.size v2 := ⟨_, rfl⟩
        rw [← hV2] at st2
        unfold put5w at hV2
        clear st hvp2
        go_wp2_with fail
        rw [← hV2]
        clear hV2 y0 y1 y2 y3 y4 y5 z0 z1 z2 z3 z4 z5
        refine (refTimes_iv _ S S K b c c st2.vp st2.vp (by omega) st2.vb (by omega)).mono ?_
        rintro r w3 ⟨v3, rfl, hvb3, hvp3, hb3⟩
        replace hvp3 := hvp3.fits (K := K) (mulI_le b) (unhide HG).1 (unhide HG).2
        replace st2 := st2.below hb3
        have HV3 := hide hvb3
        clear hvb3 hb3
        have st3 : RaiSt2 w (put5w w3 w.heap.size v3) w1.heap.size b K v2 v3 (mulI b o c) (mulI b c c) := ⟨st2.u.off (Ne.symm ne5) v3, st2.v.put v3, st2.up.put st2.v.c v3, hvp3.put st2.v.c v3, st2.ub, unhide HV3, st2.no.off (by omega) v3, below_put st2.be (Nat.le_refl _) v3, st2.l5⟩
        unfold put5w at st3
        have lv3 := st2.v.lt
        obtain ⟨⟨z0, z1, z2, z3, z4⟩, z5⟩ := st2.v
        clear st2 hvp3
        go_wp2_with fail
        go_roundw
        case rel =>
          refine ⟨m / 2, v2, v3, mulI b o c, mulI b c c, ?_, by omega, ?_, st3⟩
          · first | exact congrArg _ (unhide HQ) | (congr 1; omega)
          · have := unhide HN
            rw [if_pos (unhide HO)] at this
            exact this
        case measure => have := unhide HQ; simp [intOf]; omega
      · have q2 : ((m : Int)).tmod 2 = 0 := by rw [Int.tmod_eq_emod_of_nonneg (by omega)]; omega
        have q3 : (m : Int) % 2 = 0 := by omega
        have HO := hide hodd
        obtain ⟨⟨z0, z1, z2, z3, z4⟩, z5⟩ := st.v
        clear hodd
        go_wp2_with fail
        refine (refTimes_iv _ S S K b c c st.vp st.vp (by omega) st.vb (by omega)).mono ?_
        rintro r w3 ⟨v3, rfl, hvb3, hvp3, hb3⟩
        replace hvp3 := hvp3.fits (K := K) (mulI_le b) (unhide HG).1 (unhide HG).2
        replace st := st.below hb3
        have HV3 := hide hvb3
        clear hvb3 hb3 z0 z1 z2 z3 z4 z5
        have ne5 : w.heap.size ≠ w1.heap.size := by have := st.l5; omega
        have st3 : RaiSt2 w (put5w w3 w.heap.size v3) w1.heap.size b K O v3 o (mulI b c c) := ⟨st.u.off (Ne.symm ne5) v3, st.v.put v3, st.up.put st.v.c v3, hvp3.put st.v.c v3, st.ub, unhide HV3, st.no.off (by omega) v3, below_put st.be (Nat.le_refl _) v3, st.l5⟩
        unfold put5w at st3
        have lv3 := st.v.lt
        obtain ⟨⟨z0, z1, z2, z3, z4⟩, z5⟩ := st.v
        clear st hvp3
        go_wp2_with fail
        go_roundw
        case rel =>
          refine ⟨m / 2, O, v3, o, mulI b c c, ?_, by omega, ?_, st3⟩
          · first | exact congrArg _ (unhide HQ) | (congr 1; omega)
          · have := unhide HN
            rw [if_neg (unhide HO)] at this
            exact this
        case measure => have := unhide HQ; simp [intOf]; omega
    · have hm0 : m = 0 := by omega
      subst hm0
      have lu := st.u.lt
      obtain ⟨⟨y0, y1, y2, y3, y4⟩, y5⟩ := st.u
      obtain ⟨q0, q1, q2, q3, q4, q5⟩ := st.no
      have hub := hide st.ub
      go_wp2_with fail
      refine bodyPost_ret (v := .agg #[.bool O.ln, .slice O.la O.lN O.lc, .bool O.hn, .slice O.ha O.hN O.hc, .int .i64 O.bits]) (by simp [results, Try.results139, go_sem, q0, q1, q2, q3, q4]) rfl ⟨o, c, unhide HInv, O, rfl, unhide hub, ?_, ?_⟩
      · exact SpAt.put5 st.up q0 q1 q2 q3 q4 _ _ _ _ _
      · exact set5 st.be (Nat.le_succ _) _ _ _ _ _
end Go.Proofs.Ytgmnknmjainabaa

namespace Go.Proofs.Ytgmnknmjainabaa
set_option linter.unusedVariables false
open Ex

theorem doneT_le {f : Nat → Int × Int} (hle : ∀ n, (f n).1 ≤ (f n).2) (n : Nat) : (doneT f n).1 ≤ (doneT f n).2 := by
  have := sum_le hle n
  simp only [doneT, addI]; omega
theorem low_low {b : Nat} {X : Int} (h0 : 0 ≤ X) (N : Nat) : Q b - 1 ≤ (doneT (expT b (X, X)) N).1 := by
  have := low_sum (b := b) h0 N
  simp only [doneT, addI]; omega
/-- The sum is less than four times 1. -/
theorem low_up {b N : Nat} {X : Int} (h0 : 0 ≤ X) (h1 : X ≤ Q b) (hN : LowStop (expT b (X, X)) N) : (sumI (expT b (X, X)) N).2 + Q (b - (N - 1)) ≤ 3 * Q b + 3 := by
  have key : ∀ n, n + 1 ≤ N → (sumI (expT b (X, X)) (n + 1)).2 + Q (b - n) ≤ 3 * Q b + (if n ≥ 3 then 3 else n) := fun n => by
    induction n with
    | zero =>
      intro _
      have g0 := (low_absB h0 h1 0).2.2.2
      have g1 : (expT b (X, X) 1).2 ≤ Q b := (low_abs h0 h1 0).2.2.2
      simp only [sumI, addI, Nat.sub_zero]
      simp
      omega
    | succ n ih =>
      intro hn
      have ih := ih (by omega)
      have g := (low_abs h0 h1 (n + 1)).2.2.2
      have e : (sumI (expT b (X, X)) (n + 1 + 1)).2 = (sumI (expT b (X, X)) (n + 1)).2 + (expT b (X, X) (n + 1 + 1)).2 := rfl
      rw [e]
      by_cases hb : 1 ≤ b - n
      · have e2 : Q (b - n) = 2 * Q (b - (n + 1)) := by
          have : b - n = b - (n + 1) + 1 := by omega
          rw [this]; rfl
        split at ih <;> split <;> omega
      · -- then what came last was within 1 already
        have e3 : b - n = 0 := by omega
        have e4 : b - (n + 1) = 0 := by omega
        rw [e3] at ih
        rw [e4] at g ⊢
        have h2 : Q 0 = 1 := rfl
        by_cases h3 : 3 ≤ n + 1
        · exfalso
          have := hN.2.2 (n + 1) h3 (by omega)
          have h4 := abs_reach (low_abs h0 h1 n)
          rw [e3] at h4
          omega
        · split at ih <;> split <;> omega
  obtain ⟨n, rfl⟩ : ∃ n, N = n + 1 := ⟨N - 1, by have := hN.1; omega⟩
  have := key n (Nat.le_refl _)
  simp only [Nat.add_sub_cancel]
  split at this <;> omega
theorem low_box {b N : Nat} {X : Int} (hb : 4 ≤ b) (h0 : 0 ≤ X) (h1 : X ≤ Q b) (hN : LowStop (expT b (X, X)) N) : Abs (doneT (expT b (X, X)) N) (Q (b + 2)) := by
  have g1 := low_low (b := b) h0 N
  have g2 := low_up h0 h1 hN
  have g3 := doneT_le (expT_le b (X, X)) N
  have q := Q_pos (b - (N - 1))
  have q2 := Q_mono hb
  have e : Q 4 = 16 := rfl
  have e2 : Q (b + 2) = 2 * (2 * Q b) := rfl
  have g4 : (doneT (expT b (X, X)) N).2 = (sumI (expT b (X, X)) N).2 + 1 := rfl
  exact ⟨by omega, by omega, by omega, by omega⟩
/-- Products of what is nearly 1 or more. -/
theorem mul_low {B : Nat} {a c : Int × Int} {α β : Int} (ha : Q B - α ≤ a.1) (hc : Q B - β ≤ c.1) (la : a.1 ≤ a.2) (lc : c.1 ≤ c.2) (a0 : 0 ≤ Q B - α) (c0 : 0 ≤ Q B - β) (hα : 0 ≤ α) (hβ : 0 ≤ β) : Q B - α - β ≤ (mulI B a c).1 := by
  have q := Q_pos B
  have l := (least4 (a.1 * c.1) (a.1 * c.2) (a.2 * c.1) (a.2 * c.2)).2.2.2.2
  have p1 := Int.mul_le_mul ha hc c0 (by omega)
  have p2 := Int.mul_le_mul ha (show Q B - β ≤ c.2 by omega) c0 (by omega)
  have p3 := Int.mul_le_mul (show Q B - α ≤ a.2 by omega) hc c0 (by omega)
  have p4 := Int.mul_le_mul (show Q B - α ≤ a.2 by omega) (show Q B - β ≤ c.2 by omega) c0 (by omega)
  have e : (Q B - α) * (Q B - β) = (Q B - α - β) * Q B + α * β := by grind
  have ab := Int.mul_nonneg hα hβ
  simp only [mulI]
  rw [Int.le_ediv_iff_mul_le (by omega)]
  omega
/-- Where tailsureref.Raised is: of e itself. -/
def EInv (B n : Nat) (m : Nat) (o c : Int × Int) : Prop :=
  ∃ j e : Nat, j + e * m = n ∧ 1 ≤ e ∧ e ≤ 2 * n + 1 ∧ Iv B o (Ev (fun _ => (j : Rat))) ∧ Iv B c (Ev (fun _ => (e : Rat))) ∧ Abs o (Q (B + 2 * j)) ∧ Abs c (Q (B + 2 * e)) ∧ o.1 ≤ o.2 ∧ c.1 ≤ c.2 ∧ Q B - 2 * (j : Int) ≤ o.1 ∧ Q B - (2 * (e : Int) - 1) ≤ c.1
theorem ev_nat (i j : Nat) : Null (fun M => Ev (fun _ => (i : Rat)) M * Ev (fun _ => (j : Rat)) M - Ev (fun _ => ((i + j : Nat) : Rat)) M) := by
  have n := Ev_add (Bdd.const (i : Rat)) (Bdd.const (j : Rat))
  have e : (fun _ : Nat => (i : Rat) + (j : Rat)) = fun _ => ((i + j : Nat) : Rat) := funext fun _ => by simp
  rw [e] at n; exact n
theorem einv_step {B n m : Nat} {o c : Int × Int} (hB : 20 ≤ B) (hn : n ≤ 2000) (hm : 0 < m) (h : EInv B n m o c) :
    EInv B n (m / 2) (if m % 2 = 1 then mulI B o c else o) (mulI B c c) ∧ Abs (mulI B c c) (Q (B + 4 * (2 * n + 1))) ∧ (m % 2 = 1 → Abs (mulI B o c) (Q (B + 2 * n))) := by
  obtain ⟨j, e, h1, h2, h3, h4, h5, h6, h7, h8, h9, h10, h11⟩ := h
  have hem : e ≤ n := by
    have := Nat.mul_le_mul_left e hm
    omega
  have hQ : 1048576 ≤ Q B := by have := Q_mono hB; have e : Q 20 = 1048576 := rfl; omega
  have habs : ∀ p q r : Nat, ∀ u v : Int × Int, p + q = r → Abs u (Q (B + 2 * p)) → Abs v (Q (B + 2 * q)) → Abs (mulI B u v) (Q (B + 2 * r)) := fun p q r u v hr hu hv => by
    refine mulI_abs hu hv ?_
    rw [← Q_add, ← Q_add]
    exact Q_mono (by omega)
  have hcc := habs e e (2 * e) c c (by omega) h7 h7
  have hsq : Iv B (mulI B c c) (Ev (fun _ => ((2 * e : Nat) : Rat))) := by
    have : Iv B (mulI B c c) (Ev (fun _ => ((e + e : Nat) : Rat))) := (h5.mul h5).congr ((ev_nat e e).neg.of_eq fun M => by grind)
    rw [show e + e = 2 * e by omega] at this
    exact this
  have hlow : Q B - (2 * ((2 * e : Nat) : Int) - 1) ≤ (mulI B c c).1 := by
    have := mul_low (B := B) h11 h11 h9 h9 (by omega) (by omega) (by omega) (by omega)
    omega
  refine ⟨?_, hcc.mono (Q_mono (by omega)), fun hodd => ?_⟩
  · by_cases hodd : m % 2 = 1
    · rw [if_pos hodd]
      have hme : e * m = 2 * e * (m / 2) + e := by
        have : m = 2 * (m / 2) + 1 := by omega
        have e1 : e * m = e * (2 * (m / 2) + 1) := by rw [← this]
        rw [e1, Nat.mul_add, Nat.mul_one, ← Nat.mul_assoc, Nat.mul_comm e 2]
      refine ⟨j + e, 2 * e, by omega, by omega, by omega, ?_, hsq, habs j e (j + e) o c rfl h6 h7, hcc, mulI_le B, mulI_le B, ?_, hlow⟩
      · exact (h4.mul h5).congr ((ev_nat j e).neg.of_eq fun M => by grind)
      · have hj : j ≤ n := by omega
        have := mul_low (B := B) h10 h11 h8 h9 (by omega) (by omega) (by omega) (by omega)
        omega
    · rw [if_neg hodd]
      have hme : e * m = 2 * e * (m / 2) := by
        have : m = 2 * (m / 2) := by omega
        have e1 : e * m = e * (2 * (m / 2)) := by rw [← this]
        rw [e1, ← Nat.mul_assoc, Nat.mul_comm e 2]
      exact ⟨j, 2 * e, by omega, by omega, by omega, h4, hsq, h6, hcc, h8, mulI_le B, h10, hlow⟩
  · have hje : j + e ≤ n := by
      have := Nat.mul_le_mul_left e (show 1 ≤ m by omega)
      omega
    exact (habs j e (j + e) o c rfl h6 h7).mono (Q_mono (by omega))
theorem einv_start {B N n : Nat} (hB : 20 ≤ B) (hN : LowStop (expT B (Q B, Q B)) N) : EInv B n n (Q B, Q B) (doneT (expT B (Q B, Q B)) N) := by
  have q := Q_pos B
  have qr := Qr_pos B
  have e1 : (Q B : Rat) / (Q B : Rat) = 1 := by rw [Rat.div_def, Rat.mul_inv_cancel _ (by grind)]
  refine ⟨0, 1, by omega, by omega, by omega, ?_, ?_, ?_, low_box (by omega) (by omega) (Int.le_refl _) hN, Int.le_refl _, doneT_le (expT_le _ _) N, by simp, ?_⟩
  · have h : Iv B (Q B, Q B) (fun _ => (1 : Rat)) := by
      have := Has.const (a := (Q B : Rat) / (Q B : Rat)) (b := (Q B : Rat) / (Q B : Rat)) (c := 1) (by rw [e1]; exact Rat.le_refl) (by rw [e1]; exact Rat.le_refl)
      exact this
    refine h.congr (null_zero.of_eq_from 1 fun M hM => ?_)
    obtain ⟨m, rfl⟩ : ∃ m, M = m + 1 := ⟨M - 1, by omega⟩
    show E ((0 : Nat) : Rat) (m + 1) - 1 = 0
    have : ((0 : Nat) : Rat) = 0 := by simp
    rw [this, E_zero]; grind
  · have := low_has (b := B) (X := Q B) (by omega) (Int.le_refl _) hN
    rw [e1] at this
    have e2 : ((1 : Nat) : Rat) = 1 := rfl
    rw [e2]; exact this
  · exact ⟨by simp; omega, by simp, by simp; omega, by simp⟩
  · have := low_low (b := B) (X := Q B) (by omega) N
    simp; omega
/-- Its end. -/
theorem einv_end {B n : Nat} {o c : Int × Int} (h : EInv B n 0 o c) : Iv B o (Ev (fun _ => (n : Rat))) ∧ Abs o (Q (B + 2 * n)) ∧ o.1 ≤ o.2 ∧ Q B - 2 * (n : Int) ≤ o.1 := by
  obtain ⟨j, e, h1, h2, h3, h4, h5, h6, h7, h8, h9, h10, h11⟩ := h
  have : j = n := by omega
  subst this
  exact ⟨h4, h6, h8, h10⟩
/-- The whole part, and the rest. -/
theorem expR_has {B n N : Nat} {X : Int} {o : Int × Int} (hB : 20 ≤ B) (hX : X / Q B = (n : Int)) (h0 : 0 ≤ X) (hn : n ≤ 2000) (ho : Iv (B + 40) o (Ev (fun _ => (n : Rat)))) (ha : Abs o (Q (B + 40 + 2 * n))) (hle : o.1 ≤ o.2) (hlo : Q (B + 40) - 2 * (n : Int) ≤ o.1)
    (hN : LowStop (expT (B + 40) ((X - n * Q B) * Q 40, (X - n * Q B) * Q 40)) N) (hY0 : 0 ≤ (X - n * Q B) * Q 40) (hY1 : (X - n * Q B) * Q 40 ≤ Q (B + 40)) :
    let p := mulI (B + 40) o (doneT (expT (B + 40) ((X - n * Q B) * Q 40, (X - n * Q B) * Q 40)) N)
    Iv B (downI p 40) (Ev (fun _ => (X : Rat) / (Q B : Rat))) ∧ Abs p (Q (B + 40 + 2 * (n + 1))) ∧ p.1 ≤ p.2 ∧ Q B - 1 ≤ (downI p 40).1 := by
  intro p
  have qB := Qr_pos B
  have q40 := Qr_pos 40
  have hl := low_has hY0 hY1 hN
  have hm := ho.mul hl
  have n1 := Ev_add (Bdd.const (n : Rat)) (Bdd.const (((X - n * Q B) * Q 40 : Int) / (Q (B + 40) : Rat)))
  have e : (fun _ : Nat => (n : Rat) + (((X - n * Q B) * Q 40 : Int) : Rat) / (Q (B + 40) : Rat)) = fun _ => (X : Rat) / (Q B : Rat) := funext fun _ => by
    have e1 : (Q (B + 40) : Rat) = (Q B : Rat) * (Q 40 : Rat) := by rw [Q_add, Rat.intCast_mul]
    have e2 : (((X - n * Q B) * Q 40 : Int) : Rat) = ((X : Rat) - (n : Rat) * (Q B : Rat)) * (Q 40 : Rat) := by
      rw [Rat.intCast_mul, Rat.intCast_sub, Rat.intCast_mul]; rfl
    have f1 := rdm (a := (X : Rat)) qB
    have f2 := rdm (a := (((X - n * Q B) * Q 40 : Int) : Rat)) (show (0 : Rat) < (Q (B + 40) : Rat) from Qr_pos _)
    rw [e1, e2] at f2 ⊢
    generalize (X : Rat) / (Q B : Rat) = x at *
    generalize ((X : Rat) - (n : Rat) * (Q B : Rat)) * (Q 40 : Rat) / ((Q B : Rat) * (Q 40 : Rat)) = y at *
    -- y QB Q40 = (x QB - n QB) Q40
    have f3 : (Q 40 : Rat) * ((Q B : Rat) * (y - (x - n))) = 0 := by rw [← f1] at f2; grind
    rcases Rat.mul_eq_zero.1 f3 with h | h
    · grind
    · rcases Rat.mul_eq_zero.1 h with h | h
      · grind
      · grind
  rw [e] at n1
  have hp : Iv (B + 40) p (Ev (fun _ => (X : Rat) / (Q B : Rat))) := hm.congr (n1.neg.of_eq fun M => by grind)
  have hd := low_low (b := B + 40) hY0 N
  have hdl := doneT_le (expT_le (B + 40) ((X - n * Q B) * Q 40, (X - n * Q B) * Q 40)) N
  have hq : 1048576 ≤ Q (B + 40) := by have := Q_mono (show 20 ≤ B + 40 by omega); have e : Q 20 = 1048576 := rfl; omega
  have hlow : Q (B + 40) - 2 * (n : Int) - 1 ≤ p.1 := mul_low hlo hd hle hdl (by omega) (by omega) (by omega) (by omega)
  refine ⟨hp.to, ?_, mulI_le _, ?_⟩
  · refine mulI_abs ha (low_box (by omega) hY0 hY1 hN) ?_
    rw [← Q_add, ← Q_add]
    exact Q_mono (by omega)
  · show Q B - 1 ≤ p.1 / Q 40
    have e40 : Q 40 = 1099511627776 := rfl
    have eB : Q (B + 40) = Q B * Q 40 := Q_add B 40
    rw [Int.le_ediv_iff_mul_le (by rw [e40]; omega), Int.sub_mul, ← eB]
    omega
end Go.Proofs.Ytgmnknmjainabaa

namespace Go.Proofs.Ytgmnknmjainabaa
set_option linter.unusedVariables false
open Ex

namespace Ex
theorem has_inv {a b L H : Rat} {y z : Nat → Rat} (hy : Has a b y) (ha : 0 < a) (hz : Null (fun M => z M * y M - 1)) (N0 : Nat) (hz0 : ∀ M, N0 ≤ M → 0 ≤ z M) (h1 : L * b ≤ 1) (h2 : 1 ≤ H * a) : Has L H z := fun e he => by
  have hab := hy.le
  have hb : 0 < b := by grind
  obtain ⟨l, hl⟩ := AB.self L
  obtain ⟨h, hh⟩ := AB.self H
  have l0 := hl.nonneg
  have h0 := hh.nonneg
  obtain ⟨hl1, hl2⟩ := hl
  obtain ⟨hh1, hh2⟩ := hh
  have hK : 0 < 2 * (l + h + e + 1) := by grind
  have hae := Rat.mul_pos he ha
  have hδ := rdiv_pos hae hK
  have hδe := rdm (a := e * a) hK
  obtain ⟨N1, k1⟩ := hy _ hδ
  obtain ⟨N2, k2⟩ := hz _ hδ
  refine ⟨N0 + N1 + N2, fun M hM => ?_⟩
  obtain ⟨y1, y2⟩ := k1 M (by omega)
  obtain ⟨z1, z2⟩ : AB (z M * y M - 1) (e * a / (2 * (l + h + e + 1))) := k2 M (by omega)
  have zp := hz0 M (by omega)
  generalize e * a / (2 * (l + h + e + 1)) = δ at *
  generalize z M = Z at *
  generalize y M = Y at *
  have hd2 : δ * (2 * (l + h + e + 1)) = 2 * (δ * l) + 2 * (δ * h) + 2 * (δ * e) + 2 * δ := by grind
  rw [hd2] at hδe
  have p1 := Rat.mul_nonneg (Rat.le_of_lt hδ) l0
  have p2 := Rat.mul_nonneg (Rat.le_of_lt hδ) h0
  have p3 := Rat.mul_pos hδ he
  have p4 := Rat.mul_nonneg (Rat.le_of_lt he) (show 0 ≤ b - a by grind)
  constructor
  · refine Rat.not_lt.1 fun hn => ?_
    -- Z < L - e; Z Y <= Z (b + δ) <= (L - e) (b + δ)
    have q1 := Rat.mul_nonneg zp (show 0 ≤ b + δ - Y by grind)
    have q2 := Rat.mul_pos (show 0 < L - e - Z by grind) (show 0 < b + δ by grind)
    have q3 : L * δ ≤ δ * l := by
      have := Rat.mul_nonneg (Rat.le_of_lt hδ) (show 0 ≤ l - L by grind)
      grind
    grind
  · refine Rat.not_lt.1 fun hn => ?_
    have q1 := Rat.mul_nonneg zp (show 0 ≤ Y - (a - δ) by grind)
    have q4 : δ < a := by
      refine Rat.not_le.1 fun hc => ?_
      have := Rat.mul_nonneg (show 0 ≤ δ - a by grind) (Rat.le_of_lt he)
      grind
    have q2 := Rat.mul_pos (show 0 < Z - (H + e) by grind) (show 0 < a - δ by grind)
    have q3 : H * δ ≤ δ * h := by
      have := Rat.mul_nonneg (Rat.le_of_lt hδ) (show 0 ≤ h - H by grind)
      grind
    grind
theorem has_between {a b c d : Rat} {u v x m n : Nat → Rat} (hu : Has a b u) (hv : Has c d v) (hm : Null m) (hn : Null n) (N : Nat) (h1 : ∀ M, N ≤ M → u M ≤ x M + m M) (N' : Nat) (h2 : ∀ M, N' ≤ M → x M ≤ v M + n M) : Has a d x := fun e he => by
  obtain ⟨N1, k1⟩ := hu (e / 2) (by grind)
  obtain ⟨N2, k2⟩ := hv (e / 2) (by grind)
  obtain ⟨N3, k3⟩ := hm (e / 2) (by grind)
  obtain ⟨N4, k4⟩ := hn (e / 2) (by grind)
  refine ⟨N + N' + N1 + N2 + N3 + N4, fun M hM => ?_⟩
  have g1 := k1 M (by omega)
  have g2 := k2 M (by omega)
  obtain ⟨g3, g4⟩ := k3 M (by omega)
  obtain ⟨g5, g6⟩ := k4 M (by omega)
  have g7 := h1 M (by omega)
  have g8 := h2 M (by omega)
  constructor <;> grind
end Ex
/-- 1 over a power of e. -/
theorem inv_has {B : Nat} {p : Int × Int} {x : Rat} {lo hi : Int} (hp : 0 < p.1) (h : Iv B p (Ev (fun _ => -x))) (h1 : lo * p.2 ≤ Q B * Q B) (h2 : Q B * Q B ≤ hi * p.1) : Iv B (lo, hi) (Ev (fun _ => x)) := by
  have q := Qr_pos B
  obtain ⟨c, hc, N, hN⟩ := Ev_low (Bdd.const x)
  have hz := Ev_inv (Bdd.const x)
  have q2 := Rat.mul_pos q q
  have hp' : (0 : Rat) < (p.1 : Rat) := by exact_mod_cast hp
  refine has_inv h (rdiv_pos hp' q) hz N (fun M hM => by have := hN M hM; grind) ?_ ?_
  · have e1 := rdm (a := (lo : Rat)) q
    have e2 := rdm (a := (p.2 : Rat)) q
    have g := cast_le h1
    rw [Rat.intCast_mul, Rat.intCast_mul] at g
    simp only []
    generalize (lo : Rat) / (Q B : Rat) = u at *
    generalize (p.2 : Rat) / (Q B : Rat) = v at *
    rw [← e1, ← e2] at g
    refine Rat.not_lt.1 fun hn => ?_
    have := Rat.mul_pos (show 0 < u * v - 1 by grind) q2
    grind
  · have e1 := rdm (a := (hi : Rat)) q
    have e2 := rdm (a := (p.1 : Rat)) q
    have g := cast_le h2
    rw [Rat.intCast_mul, Rat.intCast_mul] at g
    simp only []
    generalize (hi : Rat) / (Q B : Rat) = u at *
    generalize (p.1 : Rat) / (Q B : Rat) = v at *
    rw [← e1, ← e2] at g
    refine Rat.not_lt.1 fun hn => ?_
    have := Rat.mul_pos (show 0 < 1 - u * v by grind) q2
    grind
/-- Of a span. -/
theorem expOf_has {B : Nat} {s u v : Int × Int} {x : Rat} (h : Iv B s (fun _ => x)) (hu : Iv B u (Ev (fun _ => (s.1 : Rat) / (Q B : Rat)))) (hv : Iv B v (Ev (fun _ => (s.2 : Rat) / (Q B : Rat)))) : Iv B (u.1, v.2) (Ev (fun _ => x)) := by
  have hx : (s.1 : Rat) / (Q B : Rat) ≤ x ∧ x ≤ (s.2 : Rat) / (Q B : Rat) := by
    have h1 := Has.touch h (Has.const (a := x) (b := x) (c := x) Rat.le_refl Rat.le_refl)
    have h2 := Has.touch (Has.const (a := x) (b := x) (c := x) Rat.le_refl Rat.le_refl) h
    exact ⟨h1, h2⟩
  obtain ⟨m, hm, N, h1⟩ := Ev_mono (Bdd.const ((s.1 : Rat) / (Q B : Rat))) (Bdd.const x) null_zero 0 (fun M _ => by have := hx.1; grind)
  obtain ⟨n, hn, N', h2⟩ := Ev_mono (Bdd.const x) (Bdd.const ((s.2 : Rat) / (Q B : Rat))) null_zero 0 (fun M _ => by have := hx.2; grind)
  exact has_between hu hv hm hn N h1 N' h2
end Go.Proofs.Ytgmnknmjainabaa

namespace Go.Proofs.Ytgmnknmjainabaa
set_option linter.unusedVariables false
set_option linter.unusedSimpArgs false
set_option linter.unnecessarySimpa false
open Go.RowKit
attribute [local go_sem ↓] Go.wp_at_zero Go.wp_at_succ

/-- What tailsureref.Exp answers. -/
def RExpAns (w : World) (B K : Nat) (X : Int) (r : Ending) (w' : World) : Prop :=
  ∃ o : Int × Int, Iv B o (Ex.Ev (fun _ => (X : Rat) / (Q B : Rat))) ∧ o.1 ≤ o.2 ∧ SpanAns w B K o.1 o.2 r w'
theorem Tp_le {d : Nat → Int} (hd : Dgs d) (j n : Nat) (h : j ≤ n) : Tp d j n ≤ V d n := by
  have e := V_split d j (n - j)
  rw [show j + (n - j) = n by omega] at e
  have h1 := V_nonneg hd j
  have h2 := Tp_nonneg hd j n
  have h3 := P_pos j
  have h4 : Tp d j n ≤ P j * Tp d j n := by
    have := Int.mul_le_mul_of_nonneg_right h3 h2
    omega
  unfold Tp at *
  omega

set_option maxRecDepth 100000 in
set_option maxHeartbeats 4000000 in
theorem refExp_pos (w : World) (x : Nm) (k B K n : Nat) (X : Int) (hx : IntAt w x.neg x.a x.n x.cap k X) (h0 : 0 ≤ X) (hXn : X / Q B = (n : Int)) (hn : n ≤ 2000) (hB : 20 ≤ B) (hB2 : B ≤ 50000) (hK : Q (B + 40 + 4 * (2 * n + 1) + 20) < P K) (hK2 : K ≤ 1000000) (hkK : k ≤ K) (hK3 : (B + 40) / 16 + 30 ≤ K) :
    Calls Try.prog 114 #[.agg #[.bool x.neg, .slice x.a x.n x.cap], .int .i64 B] w (fun r w' => ∃ o : Int × Int, Iv B o (Ex.Ev (fun _ => (X : Rat) / (Q B : Rat))) ∧ o.1 ≤ o.2 ∧ Q B - 1 ≤ o.1 ∧ o.2 < P K ∧ SpanAns w B K o.1 o.2 r w') := by
  obtain ⟨W, hW⟩ : ∃ W, W = (w.alloc (.cells #[.bool x.neg, .slice x.a x.n x.cap] 24)).alloc (.cells #[.bool false, .slice none 0 0, .bool false, .slice none 0 0, .int .i64 0] 38) := ⟨_, rfl⟩
  have hBW : Below w.heap.size w W := by rw [hW]; exact bl2 _ _ _
  have A : NmC W w.heap.size x := by rw [hW]; exact ⟨by simp [go_sem], by simp [go_sem]⟩
  have R : NoC W (w.heap.size + 1) := by rw [hW]; exact ⟨by simp [go_sem], by simp [go_sem], by simp [go_sem], by simp [go_sem], by simp [go_sem], fun o => by simp [go_sem]⟩
  have HX := hide ((hx.below hBW).mono hkK)
  have lA := A.lt
  have lR := R.lt
  have hs0 : ¬ cmpInt X 0 < 0 := by unfold cmpInt; rw [if_neg (by omega)]; split <;> omega
  have HXN := hide hXn
  clear hx hXn
  go_enter Try.func114, Try.ntmps114
  go_wp2_with fail
  rw [← hW]
  clear hW
  refine (sign_int _ _ _ _ _ X _ (unhide HX)).mono ?_
  rintro r w1 ⟨rfl, hb1⟩
  replace A := A.below hb1
  replace R := R.below hb1
  replace hBW := bthen hBW hb1
  replace HX := hide ((unhide HX).below hb1)
  have lA1 := A.lt
  clear hb1
  have x0 := A.c0
  have x1 := A.c1
  go_wp2_with fail
  refine (down_int _ _ _ _ B K X _ (unhide HX) (by omega) (by omega)).mono ?_
  rintro r w2 ⟨neg2, a2, n2, c2, rfl, hint2, hb2⟩
  rw [unhide HXN] at hint2
  replace A := A.below hb2
  replace R := R.below hb2
  replace hBW := bthen hBW hb2
  replace HX := hide ((unhide HX).below hb2)
  have lR2 := R.lt
  clear hb2 x0 x1 hs0
  have HI2 := hide hint2
  obtain ⟨d, dg, dtop, dneg, dk, dz⟩ := hint2
  have hV : V d n2 = (n : Int) := by
    have hv := V_nonneg dg.dgs n2
    cases neg2
    · simp [sgn] at dz; omega
    · simp [sgn] at dz; omega
  obtain ⟨V2, hV2⟩ : ∃ V2, V2 = w2.alloc (.cells #[.bool neg2, .slice a2 n2 c2] 24) := ⟨_, rfl⟩
  have bV2 : Below w2.heap.size w2 V2 := by rw [hV2]; exact bl1 _ _
  have D2 : NmC V2 w2.heap.size ⟨neg2, a2, n2, c2⟩ := by rw [hV2]; exact nmc_new w2 ⟨neg2, a2, n2, c2⟩ _
  have dg2 := dg.below bV2
  have HDG := hide dg2
  replace A := A.below bV2
  replace R := R.below bV2
  replace hBW := bthen hBW bV2
  replace HX := hide ((unhide HX).below bV2)
  replace HI2 := hide ((unhide HI2).below bV2)
  have hdgs := hide dg.dgs
  have hroom := dg.room
  have HV := hide hV
  have lD := D2.lt
  have HD2 := hide D2
  have d0' := D2.c0
  have d1' := D2.c1
  clear dg dg2 dtop dneg dk dz hV bV2 D2
  go_wp2_with fail
  rw [← hV2]
  clear hV2
  go_loop [6, 7] (fun nn ii => ∃ j : Nat, nn = .int .i64 (Tp d j n2) ∧ ii = .int .i64 ((j : Int) - 1) ∧ j ≤ n2) (fun _ ii => (intOf ii + 1).toNat)
  case atStart => exact ⟨n2, by rw [Tp_top], rfl, Nat.le_refl _⟩
  case round =>
    obtain ⟨j, rfl, rfl, hj⟩ := hrel
    by_cases hj0 : 0 < j
    · obtain ⟨m, rfl⟩ : ∃ m, j = m + 1 := ⟨j - 1, by omega⟩
      have em : (((m + 1 : Nat) : Int) - 1) = (m : Int) := by omega
      rw [em]
      obtain ⟨bb, off, ha, hlt, hcell⟩ := (unhide HDG).at_ (by omega)
      have hc := hcell m (by omega)
      have hm2 : (m : Int) < (n2 : Int) := by omega
      have t1 := Tp_nonneg (unhide hdgs) (m + 1) n2
      have t2 := Tp_le (unhide hdgs) (m + 1) n2 (by omega)
      have t3 := unhide HV
      obtain ⟨g1, g2⟩ := unhide hdgs m
      have t4 := Tp_step d m n2 (by omega)
      have HT4 := hide t4
      have t5 : Tp d (m + 1) n2 ≤ 2000 := by omega
      subst ha
      clear hcell em t2 t3 t4
      go_wp2_with fail
      go_round
      case rel =>
        refine ⟨m, ?_, ?_, by omega⟩
        · rw [unhide HT4, Int.add_comm]
        · rfl
      case measure => simp [intOf]
    · have hj1 : j = 0 := by omega
      subst hj1
      rw [Tp_zero, unhide HV]
      have lA3 := A.lt
      have lR3 := R.lt
      clear d0' d1' hj hj0
      have hQK : Q (B + 40 + 20) < P K := Int.lt_of_le_of_lt (Q_mono (by omega)) hK
      have hq40 := Q_pos (B + 40)
      obtain ⟨N1, n11, n12⟩ := low_stop (b := B + 40) (X := Q (B + 40)) (by omega) (Int.le_refl _)
      have hE0 := einv_start (n := n) (by omega) n12
      have hbox := low_box (by omega) (by omega) (Int.le_refl _) n12
      have hfit1 : -P K < (doneT (expT (B + 40) (Q (B + 40), Q (B + 40))) N1).1 ∧ (doneT (expT (B + 40) (Q (B + 40), Q (B + 40))) N1).2 < P K := by
        have h2 := Q_mono (show B + 40 + 2 ≤ B + 40 + 20 by omega)
        have := hbox.1
        have := hbox.2.2.2
        omega
      have HST := hide n12
      have HE0 := hide hE0
      have HF1 := hide hfit1
      have HLE1 := hide (doneT_le (expT_le (B + 40) (Q (B + 40), Q (B + 40))) N1)
      clear n12 hE0 hbox hfit1
      go_wp2_with fail
      rw [show ((B : Int) + 40) = ((B + 40 : Nat) : Int) by omega]
      refine (power2_int (B + 40) _ (by omega)).mono ?_
      rintro r w3 ⟨neg3, a3, n3, c3, rfl, hint3, hb3⟩
      replace A := A.below hb3
      replace R := R.below hb3
      replace hBW := bthen hBW hb3
      replace HX := hide ((unhide HX).below hb3)
      replace HI2 := hide ((unhide HI2).below hb3)
      replace HD2 := hide ((unhide HD2).below hb3)
      clear hb3
      go_wp2_with fail
      refine (lowExp_iv _ ⟨neg3, a3, n3, c3⟩ _ (B + 40) N1 K (Q (B + 40)) hint3 (by omega) (by omega) (Int.le_refl _) (by omega) (unhide HST) n11 hQK (by omega) (by omega)).mono ?_
      rintro r w4 ⟨v4, rfl, hvb4, hvp4, hb4⟩
      replace hvp4 := hvp4.fits (K := K) (unhide HLE1) (unhide HF1).1 (unhide HF1).2
      replace A := A.below hb4
      replace R := R.below hb4
      replace hBW := bthen hBW hb4
      replace HX := hide ((unhide HX).below hb4)
      replace HI2 := hide ((unhide HI2).below hb4)
      replace HD2 := hide ((unhide HD2).below hb4)
      have HV4 := hide hvb4
      clear hb4 hvb4 hint3
      go_wp2_with fail
      refine (refRaised_iv _ v4 (B + 40) K n _ (EInv (B + 40) n) hvp4 (unhide HV4) (by omega) (by omega) (by omega) (by omega) (unhide HE0) (fun m o c hm hI => ?_)).mono ?_
      · obtain ⟨g1, g2, g3⟩ := einv_step (by omega) hn hm hI
        have h2 := Q_mono (show B + 40 + 4 * (2 * n + 1) ≤ B + 40 + 4 * (2 * n + 1) + 20 by omega)
        have h3 := Q_mono (show B + 40 + 2 * n ≤ B + 40 + 4 * (2 * n + 1) + 20 by omega)
        have := g2.1
        have := g2.2.2.2
        refine ⟨g1, ?_, by omega, by omega⟩
        by_cases hodd : m % 2 = 1
        · have g4 := g3 hodd
          have := g4.1
          have := g4.2.2.2
          exact Or.inl ⟨by omega, by omega⟩
        · exact Or.inr hodd
      rintro r we ⟨oe, ce, hEI, ve, rfl, hveb, hvep, hb5⟩
      obtain ⟨i1, i2, i3, i4⟩ := einv_end hEI
      have HI := hide (And.intro i1 (And.intro i2 (And.intro i3 i4)))
      have HVE := hide hveb
      replace A := A.below hb5
      replace R := R.below hb5
      replace hBW := bthen hBW hb5
      replace HX := hide ((unhide HX).below hb5)
      replace HI2 := hide ((unhide HI2).below hb5)
      replace HD2 := hide ((unhide HD2).below hb5)
      have lA5 := A.lt
      have lR5 := R.lt
      have lD5 := (unhide HD2).lt
      clear hb5 hveb hEI i1 i2 i3 i4 hvp4
      obtain ⟨Ve, hVe⟩ : ∃ Ve, Ve = we.alloc (.cells #[.bool ve.ln, .slice ve.la ve.lN ve.lc, .bool ve.hn, .slice ve.ha ve.hN ve.hc, .int .i64 ve.bits] 38) := ⟨_, rfl⟩
      have bVe : Below we.heap.size we Ve := by rw [hVe]; exact bl1 _ _
      have E5 : SpC Ve we.heap.size ve := by rw [hVe]; exact spc_new we ve _
      replace A := A.below bVe
      replace R := R.below bVe
      replace hBW := bthen hBW bVe
      replace HX := hide ((unhide HX).below bVe)
      replace HI2 := hide ((unhide HI2).below bVe)
      have D5 := (unhide HD2).below bVe
      have HVEP := hide (hvep.below bVe)
      clear bVe HD2 hvep
      have HK := hide (show ∀ w', Below Ve.heap.size Ve w' → (w'.cell? ⟨we.heap.size, 0, none⟩ = some (.bool ve.ln) ∧ w'.cell? ⟨we.heap.size, 1, none⟩ = some (.slice ve.la ve.lN ve.lc) ∧ w'.cell? ⟨we.heap.size, 2, none⟩ = some (.bool ve.hn) ∧ w'.cell? ⟨we.heap.size, 3, none⟩ = some (.slice ve.ha ve.hN ve.hc) ∧ w'.cell? ⟨we.heap.size, 4, none⟩ = some (.int .i64 ve.bits) ∧ w'.cell? ⟨w.heap.size, 0, none⟩ = some (.bool x.neg) ∧ w'.cell? ⟨w.heap.size, 1, none⟩ = some (.slice x.a x.n x.cap) ∧ w'.cell? ⟨w2.heap.size, 0, none⟩ = some (.bool neg2) ∧ w'.cell? ⟨w2.heap.size, 1, none⟩ = some (.slice a2 n2 c2)) from fun w' hB => ⟨(E5.below hB).c0, (E5.below hB).c1, (E5.below hB).c2, (E5.below hB).c3, (E5.below hB).c4, (A.below hB).c0, (A.below hB).c1, (D5.below hB).c0, (D5.below hB).c1⟩)
      have lE := E5.lt
      -- the rest
      have hQB := Q_pos B
      have hmod : X - n * Q B = X % Q B := by
        have h1 := Int.emod_add_mul_ediv X (Q B)
        rw [unhide HXN] at h1
        rw [Int.mul_comm (n : Int)]
        omega
      have hY0 : 0 ≤ (X - n * Q B) * Q 40 := by
        rw [hmod]; exact Int.mul_nonneg (Int.emod_nonneg _ (by omega)) (by have := Q_pos 40; omega)
      have hY1 : (X - n * Q B) * Q 40 ≤ Q (B + 40) := by
        rw [hmod, Q_add]
        exact Int.mul_le_mul_of_nonneg_right (by have := Int.emod_lt_of_pos X (show 0 < Q B by omega); omega) (by have := Q_pos 40; omega)
      obtain ⟨N2, n21, n22⟩ := low_stop hY0 hY1
      have hR := expR_has hB (unhide HXN) h0 hn (unhide HI).1 (unhide HI).2.1 (unhide HI).2.2.1 (unhide HI).2.2.2 n22 hY0 hY1
      have hbox2 := low_box (by omega) hY0 hY1 n22
      have hle2 := doneT_le (expT_le (B + 40) ((X - n * Q B) * Q 40, (X - n * Q B) * Q 40)) N2
      have HST2 := hide n22
      have HR := hide hR
      have HF2 := hide (show -P K < (doneT (expT (B + 40) ((X - n * Q B) * Q 40, (X - n * Q B) * Q 40)) N2).1 ∧ (doneT (expT (B + 40) ((X - n * Q B) * Q 40, (X - n * Q B) * Q 40)) N2).2 < P K by
        have h2 := Q_mono (show B + 40 + 2 ≤ B + 40 + 20 by omega)
        have := hbox2.1
        have := hbox2.2.2.2
        omega)
      have HLE2 := hide hle2
      have HY := hide (And.intro hY0 hY1)
      clear n22 hR hbox2 hle2 hmod hY0 hY1
      obtain ⟨p, hp⟩ : ∃ p, p = mulI (B + 40) oe (doneT (expT (B + 40) ((X - n * Q B) * Q 40, (X - n * Q B) * Q 40)) N2) := ⟨_, rfl⟩
      have HP := hide hp
      have HRP : Hid (Iv B (downI p 40) (Ex.Ev (fun _ => (X : Rat) / (Q B : Rat))) ∧ Abs p (Q (B + 40 + 2 * (n + 1))) ∧ p.1 ≤ p.2 ∧ Q B - 1 ≤ (downI p 40).1) := hide (by rw [hp]; exact unhide HR)
      clear hp HR
      go_wp2_with fail
      rw [← hVe]
      clear hVe
      obtain ⟨x0, x1, x2, x3, x4, x5, x6, x7, x8⟩ := unhide HK _ (Below.refl _ _)
      have hD0 : Below Ve.heap.size Ve Ve.drew := (Below.refl _ _).drew
      have m1 : w.heap.size + 1 ≠ we.heap.size := by omega
      have m2 : w.heap.size + 1 ≠ w.heap.size := by omega
      have m3 : w.heap.size + 1 ≠ w2.heap.size := by omega
      have m4 : we.heap.size ≠ w.heap.size + 1 := by omega
      have m5 : w.heap.size ≠ w.heap.size + 1 := by omega
      have m6 : w2.heap.size ≠ w.heap.size + 1 := by omega
      have eBB : ((B + 40 : Nat) : Int) - (B : Int) = ((40 : Nat) : Int) := by omega
      have HBB := hide eBB
      clear eBB
      go_region_held3 (fun w' => w'.cell? ⟨we.heap.size, 0, none⟩ = some (.bool ve.ln) ∧ w'.cell? ⟨we.heap.size, 1, none⟩ = some (.slice ve.la ve.lN ve.lc) ∧ w'.cell? ⟨we.heap.size, 2, none⟩ = some (.bool ve.hn) ∧ w'.cell? ⟨we.heap.size, 3, none⟩ = some (.slice ve.ha ve.hN ve.hc) ∧ w'.cell? ⟨we.heap.size, 4, none⟩ = some (.int .i64 ve.bits) ∧ w'.cell? ⟨w.heap.size, 0, none⟩ = some (.bool x.neg) ∧ w'.cell? ⟨w.heap.size, 1, none⟩ = some (.slice x.a x.n x.cap) ∧ w'.cell? ⟨w2.heap.size, 0, none⟩ = some (.bool neg2) ∧ w'.cell? ⟨w2.heap.size, 1, none⟩ = some (.slice a2 n2 c2)) (first | exact unhide HK _ (by first | with_reducible exact hD0 | with_reducible exact hD8 | with_reducible exact hD7 | with_reducible exact hD6 | with_reducible exact hD5 | with_reducible exact hD4 | with_reducible exact hD3 | with_reducible exact hD2 | with_reducible exact hD1) | go_keep)
        (first
          | (go_at_call 22; have hq := hD7; refine (refTurn_int _ v17 (K + K + 8) B p.1 p.2 (by rw [unhide HP]; exact hvp17) (by omega) (by have := unhide HV17; omega) (by have := unhide HV17; omega) (by omega) (by omega)).mono ?_; rintro r' w18 ⟨v18, rfl, hvb18, hvp18, hb18⟩; have hD8 := bthen hD7 hb18; rw [unhide HV17, unhide HBB, downZ_nat, downZ_nat] at hvp18; have HV18 := hide hvb18; clear hvb18; obtain ⟨q0, q1, q2, q3, q4, q5⟩ := R.below hD8; obtain ⟨y0, y1, y2, y3, y4, y5, y6, y7, y8⟩ := unhide HK _ hD8)
          | (go_at_call 36; have hq := hD6; refine (refTimes_iv _ ve v16 K (B + 40) oe _ ((unhide HVEP).below hD6) hvp16 (by omega) (unhide HVE) (by omega)).mono ?_; rintro r' w17 ⟨v17, rfl, hvb17, hvp17, hb17⟩; have hD7 := bthen hD6 hb17; have HV17 := hide hvb17; clear hvb17)
          | (go_at_call 140; have hq := hD5; refine (lowExp_iv _ ⟨neg15, a15, n15, c15⟩ _ (B + 40) N2 K ((X - n * Q B) * Q 40) (hint15.fits (K := K) (by have := (unhide HY).1; have := P_pos K; omega) (Int.lt_of_le_of_lt (unhide HY).2 (Int.lt_of_le_of_lt (Q_mono (by omega)) hQK))) (Nat.le_refl _) (unhide HY).1 (unhide HY).2 (by omega) (unhide HST2) n21 hQK (by omega) (by omega)).mono ?_; rintro r' w16 ⟨v16, rfl, hvb16, hvp16, hb16⟩; replace hvp16 := hvp16.fits (K := K) (unhide HLE2) (unhide HF2).1 (unhide HF2).2; have hD6 := bthen hD5 hb16; have HV16 := hide hvb16; clear hvb16)
          | (go_at_call 52; have hq := hD4; refine (mul_int _ _ _ _ _ _ _ _ (K + (K + 5 + (B / 16 + 5)) + 5) 7 (X - n * Q B) (Q 40) _ ((hint13.below hb14).mono (by omega)) hint14 (by omega) (by omega)).mono ?_; rintro r' w15 ⟨neg15, a15, n15, c15, rfl, hint15, hb15⟩; have hD5 := bthen hD4 hb15)
          | (go_at_call 51; have hq := hD3; refine (power2_int 40 _ (by omega)).mono ?_; rintro r' w14 ⟨neg14, a14, n14, c14, rfl, hint14, hb14⟩; have hD4 := bthen hD3 hb14)
          | (go_at_call 50; have hq := hD2; refine (sub_int _ _ _ _ _ _ _ _ K (K + 5 + (B / 16 + 5)) X (n * Q B) _ ((unhide HX).below hD2) hint12 (by omega) (by omega)).mono ?_; rintro r' w13 ⟨neg13, a13, n13, c13, rfl, hint13, hb13⟩; have hD3 := bthen hD2 hb13)
          | (go_at_call 52; have hq := hD1; refine (mul_int _ _ _ _ _ _ _ _ (K + 5) (B / 16 + 5) n (Q B) _ ((unhide HI2).below hD1) hint11 (by omega) (by omega)).mono ?_; rintro r' w12 ⟨neg12, a12, n12, c12, rfl, hint12, hb12⟩; have hD2 := bthen hD1 hb12)
          | (go_at_call 51; refine (power2_int B _ (by omega)).mono ?_; rintro r' w11 ⟨neg11, a11, n11', c11, rfl, hint11, hb11⟩; have hD1 := bthen hD0 hb11))
      all_goals
        obtain ⟨z1, z2, z3, z4⟩ := unhide HRP
        have hzd : Abs (downI p 40) (Q (B + 2 * (n + 1))) := by
          obtain ⟨k1, k2, k3, k4⟩ := z2
          have e : Q (B + 40 + 2 * (n + 1)) = Q (B + 2 * (n + 1)) * Q 40 := by rw [← Q_add]; congr 1; omega
          rw [e] at k1 k2 k3 k4
          have r1 := round_abs (q := Q 40) (by have := Q_pos 40; omega) k1 k2
          have r2 := round_abs (q := Q 40) (by have := Q_pos 40; omega) k3 k4
          exact ⟨r1.1, r1.2.1, r2.2.2.1, r2.2.2.2⟩
        have hzP : Q (B + 2 * (n + 1)) < P K := Int.lt_of_le_of_lt (Q_mono (by omega)) hK
        have hzle : (downI p 40).1 ≤ (downI p 40).2 := by
          have := scaleI_le (a := p) (n := 1) (d := Q 40) z3 (by have := Q_pos 40; omega) (by omega)
          simpa [scaleI, downI] using this
        have e1 : p.1 / Q 40 = (downI p 40).1 := rfl
        have e2 : -(-p.2 / Q 40) = (downI p 40).2 := rfl
        rw [e1, e2] at hvp18
        replace hvp18 := hvp18.fits (K := K) hzle (by have := hzd.1; omega) (by have := hzd.2.2.2; omega)
        have HZ := hide (And.intro z1 (And.intro hzle (And.intro z4 (show (downI p 40).2 < P K by have := hzd.2.2.2; omega))))
        clear z1 z2 z3 z4 hzd hzP hzle e1 e2
        go_wp2_with fail
        refine bodyPost_ret (v := .agg #[.bool v18.ln, .slice v18.la v18.lN v18.lc, .bool v18.hn, .slice v18.ha v18.hN v18.hc, .int .i64 v18.bits]) (by simp [results, Try.results114, go_sem, q0, q1, q2, q3, q4]) rfl ⟨downI p 40, (unhide HZ).1, (unhide HZ).2.1, (unhide HZ).2.2.1, (unhide HZ).2.2.2, v18, rfl, unhide HV18, ?_, ?_⟩
        · exact SpAt.put5 hvp18 q0 q1 q2 q3 q4 _ _ _ _ _
        · exact set5 (bthen hBW hD8) (Nat.le_succ _) _ _ _ _ _
end Go.Proofs.Ytgmnknmjainabaa
