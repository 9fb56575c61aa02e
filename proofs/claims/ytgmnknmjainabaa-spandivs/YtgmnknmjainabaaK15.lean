/-
  What tailsureref.RootDown answers of a right number that is not below 0, and that it leaves old memory alone.
  What tailsureref.Roots answers of a right span that has nothing below 0, and that it leaves old memory alone.
  What the way that span.Meet hands to span.made answers, and that it leaves old memory alone.
-/
import Derived.Test.YtgmnknmjainabaaK14
namespace Go.Proofs.Ytgmnknmjainabaa
set_option linter.unusedVariables false
set_option linter.unusedSimpArgs false
set_option linter.unnecessarySimpa false
open Go.RowKit
attribute [local go_sem ↓] Go.wp_at_zero Go.wp_at_succ

theorem len_Q {w : World} {neg : Bool} {a : Option Addr} {n cap k : Nat} {x : Int} (h : IntAt w neg a n cap k x) (hx : 0 ≤ x) (hk : k ≤ 100000000) : ∃ (d : Nat → Int) (L : Nat), Dig w a n cap d ∧ lenZ n d = (L : Int) ∧ x < Q L ∧ L ≤ 16 * k := by
  obtain ⟨d, g1, g2, g3, g4, g5⟩ := h
  rcases Nat.eq_zero_or_pos n with h0 | h0
  · subst h0
    refine ⟨d, 0, g1, by simp [lenZ], ?_, by omega⟩
    have : x = 0 := by rw [g5]; cases neg <;> simp [sgn, V]
    rw [this]; simp [Q]
  · obtain ⟨L, l1, l2, l3⟩ := lenZ_Q g1.dgs h0 (by omega)
    have hxV : V d n = x := by
      have := V_nonneg g1.dgs n
      cases neg
      · simpa [sgn] using g5.symm
      · simp [sgn] at g5; omega
    refine ⟨d, L + 1, g1, by rw [l1]; omega, by rw [← hxV]; exact l3, ?_⟩
    have := lenZ_le n d; omega
theorem NoI.put2 {w : World} {B B' : Nat} (h : NoI w B) (hne : B ≠ B') (u0 u1 : Value) : NoI ((w.setCell ⟨B', 0, none⟩ u0).setCell ⟨B', 1, none⟩ u1) B := by
  obtain ⟨q0, q1, q2⟩ := h
  exact ⟨cell_put2 q0 hne _ _, cell_put2 q1 hne _ _, fun o => by rw [frozen_set', frozen_set']; exact q2 o⟩
theorem bisect {x l h : Int} (hl : 0 ≤ l) (h1 : l + 1 < h) : l < (l + h) / 2 ∧ (l + h) / 2 < h := by omega

theorem cmp_gt_dec (x y : Int) : decide (0 < cmpInt x y) = decide (y < x) := by unfold cmpInt; split <;> (try split) <;> simp <;> omega
theorem cmp_le_dec (x y : Int) : decide (cmpInt x y ≤ 0) = decide (x ≤ y) := by unfold cmpInt; split <;> (try split) <;> simp <;> omega
/-- What a round of RootDown stands on: the two ends in their variables, the number, and the result's own place. -/
structure RDs (w wr : World) (BL BH : Nat) (X Y : Nm) (neg : Bool) (a : Option Addr) (n cap k : Nat) (x zl zh : Int) : Prop where
  hX : NmC wr BL X
  hY : NmC wr BH Y
  fL : ∀ o, wr.frozen? ⟨BL, o, none⟩ = false
  fH : ∀ o, wr.frozen? ⟨BH, o, none⟩ = false
  hl : IntAt wr X.neg X.a X.n X.cap (k + 2) zl
  hh : IntAt wr Y.neg Y.a Y.n Y.cap (k + 2) zh
  A : NmC wr w.heap.size ⟨neg, a, n, cap⟩
  R : NoI wr (w.heap.size + 1)
  hx : IntAt wr neg a n cap k x
  hB : Below w.heap.size w wr
theorem RDs.below {w wr w' : World} {BL BH : Nat} {X Y : Nm} {neg : Bool} {a : Option Addr} {n cap k : Nat} {x zl zh : Int} (h : RDs w wr BL BH X Y neg a n cap k x zl zh) (hb : Below wr.heap.size wr w') : RDs w w' BL BH X Y neg a n cap k x zl zh :=
  ⟨h.hX.below hb, h.hY.below hb, fun o => (hb.frozen (p := ⟨BL, o, none⟩) h.hX.lt).trans (h.fL o), fun o => (hb.frozen (p := ⟨BH, o, none⟩) h.hY.lt).trans (h.fH o), h.hl.below hb, h.hh.below hb, h.A.below hb, h.R.below hb, h.hx.below hb, bthen h.hB hb⟩

set_option maxRecDepth 100000 in
set_option maxHeartbeats 4000000 in
theorem rootDown_int (neg : Bool) (a : Option Addr) (n cap k : Nat) (x : Int) (w : World) (h1 : IntAt w neg a n cap k x) (hk : k ≤ 100000000) (hx : 0 ≤ x) :
    Calls Try.prog 98 #[.agg #[.bool neg, .slice a n cap]] w (IntAns w (k + 10) (rtZ x)) := by
  obtain ⟨d, L, g1, l1, l2, l3⟩ := len_Q h1 hx hk
  obtain ⟨K0, hK0⟩ : ∃ K0 : Nat, (L : Int) / 2 + 1 = (K0 : Int) := ⟨L / 2 + 1, by omega⟩
  have hK0' : L + 1 ≤ 2 * K0 ∧ K0 ≤ L + 1 := by omega
  have hl0 : 0 ≤ (L : Int) := by omega
  have hlb : (L : Int) ≤ 1600000000 := by omega
  have hq0 := Q_pos K0
  have hsq : x < Q K0 * Q K0 := by
    rw [← Q_add]
    have := Q_mono (show L ≤ K0 + K0 by omega); omega
  have hPk : Q K0 < P (k + 2) := by
    rw [← Q_P]
    have h5 := Q_mono (show K0 + 1 ≤ 16 * (k + 2) by omega)
    simp only [Q] at h5; omega
  have HSQ := hide hsq
  obtain ⟨W, hW⟩ : ∃ W, W = (w.alloc (.cells #[.bool neg, .slice a n cap] 24)).alloc (.cells #[.bool false, .slice none 0 0] 24) := ⟨_, rfl⟩
  have hBW : Below w.heap.size w W := by rw [hW]; exact bl2 _ _ _
  have A : NmC W w.heap.size ⟨neg, a, n, cap⟩ := by rw [hW]; exact ⟨by simp [go_sem], by simp [go_sem]⟩
  have R : NoI W (w.heap.size + 1) := by rw [hW]; exact ⟨by simp [go_sem], by simp [go_sem], fun o => by simp [go_sem]⟩
  have GD := hide (g1.below hBW)
  have HX := hide (h1.below hBW)
  have HL := hide l1
  have HK0 := hide hK0'
  clear g1 h1 l1 hsq l2 l3 hK0'
  go_enter Try.func98, Try.ntmps98
  go_wp2_with fail
  rw [← hW]
  clear hW
  refine (len_any _ _ _ _ d _ (unhide GD)).mono ?_
  rintro r w0 ⟨rfl, hb0⟩
  rw [unhide HL]
  replace A := A.below hb0
  replace R := R.below hb0
  replace hBW := bthen hBW hb0
  replace HX := hide ((unhide HX).below hb0)
  clear hb0 GD
  go_wp2_with fail
  refine (power2_int K0 _ (by have := unhide HK0; omega)).mono ?_
  rintro r w1 ⟨neg1, a1, n1, c1, rfl, hint1, hb1⟩
  replace A := A.below hb1
  replace R := R.below hb1
  replace hBW := bthen hBW hb1
  replace HX := hide ((unhide HX).below hb1)
  clear hb1
  have hint0 := hint1.fit (by omega) hPk
  obtain ⟨W1, hW1⟩ : ∃ W', W' = (w1.alloc (.cells #[.bool false, .slice none 0 0] 24)).alloc (.cells #[.bool neg1, .slice a1 n1 c1] 24) := ⟨_, rfl⟩
  have hc1 : Below w1.heap.size w1 W1 := by rw [hW1]; exact bl2 _ _ _
  have X0 : NmC W1 w1.heap.size ⟨false, none, 0, 0⟩ := by rw [hW1]; exact ⟨by simp [go_sem], by simp [go_sem]⟩
  have Y0 : NmC W1 (w1.heap.size + 1) ⟨neg1, a1, n1, c1⟩ := by rw [hW1]; exact ⟨by simp [go_sem], by simp [go_sem]⟩
  have F0 : ∀ o, W1.frozen? ⟨w1.heap.size, o, none⟩ = false := by intro o; rw [hW1]; simp [go_sem]
  have F1 : ∀ o, W1.frozen? ⟨w1.heap.size + 1, o, none⟩ = false := by intro o; rw [hW1]; simp [go_sem]
  have nAL : w.heap.size ≠ w1.heap.size := Nat.ne_of_lt A.lt
  have nAH : w.heap.size ≠ w1.heap.size + 1 := Nat.ne_of_lt (Nat.lt_succ_of_lt A.lt)
  have nRL : w.heap.size + 1 ≠ w1.heap.size := Nat.ne_of_lt R.lt
  have nRH : w.heap.size + 1 ≠ w1.heap.size + 1 := Nat.ne_of_lt (Nat.lt_succ_of_lt R.lt)
  have hwL : w.heap.size ≤ w1.heap.size := hBW.size
  have hwH : w.heap.size ≤ w1.heap.size + 1 := Nat.le_succ_of_le hBW.size
  go_wp2_with fail
  rw [← hW1]
  clear hW1
  replace A := A.below hc1
  replace R := R.below hc1
  replace hBW := bthen hBW hc1
  replace HX := hide ((unhide HX).below hc1)
  replace hint0 := hint0.below hc1
  obtain ⟨BL, hBL⟩ : ∃ BL, BL = w1.heap.size := ⟨_, rfl⟩
  obtain ⟨BH, hBH⟩ : ∃ BH, BH = w1.heap.size + 1 := ⟨_, rfl⟩
  have nLH : BL ≠ BH := by rw [hBL, hBH]; exact Nat.ne_of_lt (Nat.lt_succ_self _)
  have nHL : BH ≠ BL := fun e => nLH e.symm
  rw [← hBH] at Y0 F1 nAH nRH hwH ⊢
  rw [← hBL] at X0 F0 nAL nRL hwL ⊢
  clear hBL hBH
  clear hc1 HL hint1
  go_loopg [5] (Q K0).toNat (fun gg p wr => ∃ (X Y : Nm) (zl zh : Int), RDs w wr BL BH X Y neg a n cap k x zl zh ∧ 0 ≤ zl ∧ zl < zh ∧ zh ≤ Q K0 ∧ zl * zl ≤ x ∧ x < zh * zh ∧ (zh - zl).toNat ≤ gg)
  case atStart =>
    exact ⟨⟨false, none, 0, 0⟩, ⟨neg1, a1, n1, c1⟩, 0, Q K0, ⟨X0, Y0, F0, F1, zeroInt _ _, hint0, A, R, unhide HX, hBW⟩, Int.le_refl _, by omega, Int.le_refl _, by omega, unhide HSQ, by omega⟩
  case round =>
    obtain ⟨X, Y, zl, zh, D, h0, hlt, hq, hsl, hsh, hg⟩ := hrel
    have HSL := hide hsl
    have HSH := hide hsh
    clear hsl hsh
    have lL := D.hX.lt
    have lH := D.hY.lt
    have lA := D.A.lt
    have lR := D.R.lt
    obtain ⟨i0, i1⟩ := D.hX
    obtain ⟨i2, i3⟩ := D.hY
    go_wp2_with fail
    refine (sub_int _ _ _ _ _ _ _ _ (k + 2) (k + 2) zh zl _ D.hh D.hl (by omega) (by omega)).mono ?_
    rintro r w2 ⟨neg2, a2, n2, c2, rfl, hint2, hb2⟩
    replace D := D.below hb2
    go_wp2_with fail
    refine (numOf_int 1 _ (by decide) (by decide)).mono ?_
    rintro r w3 ⟨neg3, a3, n3, c3, rfl, hint3, hb3⟩
    replace D := D.below hb3
    replace hint2 := hint2.below hb3
    go_wp2_with fail
    refine (cmp_int _ _ _ _ _ _ _ _ _ 4 (zh - zl) 1 _ hint2 hint3).mono ?_
    rintro r w4 ⟨rfl, hb4⟩
    replace D := D.below hb4
    clear hint2 hint3 hb2 hb3 hb4 i0 i1 i2 i3 lL lH lA lR
    have lL := D.hX.lt
    have lH := D.hY.lt
    have lA := D.A.lt
    have lR := D.R.lt
    obtain ⟨i0, i1⟩ := D.hX
    obtain ⟨i2, i3⟩ := D.hY
    by_cases hgo : 1 < zh - zl
    · have t1 : 0 < cmpInt (zh - zl) 1 := by unfold cmpInt; rw [if_neg (by omega), if_pos hgo]; omega
      obtain ⟨md, hmd⟩ : ∃ md, md = (zl + zh) / 2 := ⟨_, rfl⟩
      obtain ⟨m1, m2⟩ := bisect (x := x) h0 (show zl + 1 < zh by omega)
      rw [← hmd] at m1 m2
      have HMD := hide (show (zl + zh) / Q 1 = md from hmd.symm)
      clear hmd hgo
      go_wp2_with fail
      refine (add_int _ _ _ _ _ _ _ _ (k + 2) (k + 2) zl zh _ D.hl D.hh (by omega) (by omega)).mono ?_
      rintro r w5 ⟨neg5, a5, n5, c5, rfl, hint5, hb5⟩
      replace D := D.below hb5
      go_wp2_with fail
      refine (down_int _ _ _ _ 1 _ (zl + zh) _ hint5 (by omega) (by omega)).mono ?_
      rintro r w6 ⟨neg6, a6, n6, c6, rfl, hint6, hb6⟩
      replace D := D.below hb6
      rw [unhide HMD] at hint6
      have hint6 := hint6.fit (K := k + 2) (by omega) (by omega)
      clear hint5 hb5 hb6
      obtain ⟨W6, hW6⟩ : ∃ W', W' = w6.alloc (.cells #[.bool neg6, .slice a6 n6 c6] 24) := ⟨_, rfl⟩
      have hc6 : Below w6.heap.size w6 W6 := by rw [hW6]; exact bl1 _ _
      have X6 : NmC W6 w6.heap.size ⟨neg6, a6, n6, c6⟩ := by rw [hW6]; exact nmc_new w6 ⟨neg6, a6, n6, c6⟩ _
      have n6L : w6.heap.size ≠ BL := Nat.ne_of_gt D.hX.lt
      have n6H : w6.heap.size ≠ BH := Nat.ne_of_gt D.hY.lt
      replace D := D.below hc6
      replace hint6 := hide (hint6.below hc6)
      have HD := hide D
      have HK6 := hide (show ∀ w', Below W6.heap.size W6 w' → (w'.cell? ⟨w6.heap.size, 0, none⟩ = some (.bool neg6) ∧ w'.cell? ⟨w6.heap.size, 1, none⟩ = some (.slice a6 n6 c6) ∧ w'.cell? ⟨w.heap.size, 0, none⟩ = some (.bool neg) ∧ w'.cell? ⟨w.heap.size, 1, none⟩ = some (.slice a n cap)) from fun w' hB => ⟨(X6.below hB).c0, (X6.below hB).c1, (D.below hB).A.c0, (D.below hB).A.c1⟩)
      clear i0 i1 i2 i3 lL lH lA lR
      have l6 := X6.lt
      have lA := D.A.lt
      obtain ⟨j0, j1, j2, j3⟩ := unhide HK6 _ (Below.refl _ _)
      go_wp2_with fail
      rw [← hW6]
      clear hW6
      go_cut [27] (fun p wx => p = .bool (decide (md * md ≤ x)) ∧ Below W6.heap.size W6 wx)
      case first =>
        go_region_held3 (fun w' => w'.cell? ⟨w6.heap.size, 0, none⟩ = some (.bool neg6) ∧ w'.cell? ⟨w6.heap.size, 1, none⟩ = some (.slice a6 n6 c6) ∧ w'.cell? ⟨w.heap.size, 0, none⟩ = some (.bool neg) ∧ w'.cell? ⟨w.heap.size, 1, none⟩ = some (.slice a n cap)) (exact unhide HK6 _ (by (repeat' (first | with_reducible exact hB8 | with_reducible exact hB7 | with_reducible exact Below.refl _ _ | with_reducible refine Below.drew ?_ | with_reducible refine balloc ?_ _))))
          (first
            | (go_at_call 33; have hq9 := hB7; refine (cmp_int _ _ _ _ _ _ _ _ _ k (md * md) x _ (hint7.below (by (repeat' (first | with_reducible exact Below.refl _ _ | with_reducible refine Below.drew ?_ | with_reducible refine balloc ?_ _)))) ((unhide HD).hx.below (by (repeat' (first | with_reducible exact hB7 | with_reducible exact Below.refl _ _ | with_reducible refine Below.drew ?_ | with_reducible refine balloc ?_ _))))).mono ?_; rintro r w8 ⟨rfl, hb8⟩; have hB8 := bthen hB7 hb8)
            | (go_at_call 52; refine (mul_int _ _ _ _ _ _ _ _ (k + 2) (k + 2) md md _ ((unhide hint6).below (by (repeat' (first | with_reducible exact Below.refl _ _ | with_reducible refine Below.drew ?_ | with_reducible refine balloc ?_ _)))) ((unhide hint6).below (by (repeat' (first | with_reducible exact Below.refl _ _ | with_reducible refine Below.drew ?_ | with_reducible refine balloc ?_ _)))) (by omega) (by omega)).mono ?_; rintro r w7 ⟨neg7, a7, n7, c7, rfl, hint7, hb7⟩; have hB7 : Below W6.heap.size W6 w7 := bthen (by (repeat' (first | with_reducible exact Below.refl _ _ | with_reducible refine Below.drew ?_ | with_reducible refine balloc ?_ _))) hb7))
        all_goals
          go_wp2_with fail
          go_meet
          refine ⟨?_, (by (repeat' (first | with_reducible exact hB8 | with_reducible exact Below.refl _ _ | with_reducible refine Below.drew ?_ | with_reducible refine balloc ?_ _)))⟩
          congr 1
          exact cmp_le_dec _ _
      case rest =>
      obtain ⟨rfl, hbl⟩ := hcut
      replace D := D.below hbl
      replace X6 := X6.below hbl
      replace hint6 := (unhide hint6).below hbl
      clear HK6 HD hbl l6 lA j0 j1 j2 j3
      have lL := D.hX.lt
      have lH := D.hY.lt
      have l6 := X6.lt
      have fL := D.fL
      have fH := D.fH
      obtain ⟨i0, i1⟩ := D.hX
      obtain ⟨i2, i3⟩ := D.hY
      obtain ⟨j0, j1⟩ := X6
      by_cases hle : md * md ≤ x
      · have hd : decide (md * md ≤ x) = true := decide_eq_true hle
        have HLE := hide hle
        clear hle
        rw [hd]
        go_wp2_with fail
        go_roundg (zh - md).toNat
        case rel =>
          refine ⟨⟨neg6, a6, n6, c6⟩, Y, md, zh, ⟨⟨by simp [go_sem, i0, i1], by simp [go_sem, i0, i1]⟩, D.hY.put2 nHL _ _, fun o => by rw [frozen_set', frozen_set']; exact fL o, fun o => by rw [frozen_set', frozen_set']; exact fH o, hint6.put2 i0 i1 _ _, D.hh.put2 i0 i1 _ _, D.A.put2 nAL _ _, D.R.put2 nRL _ _, D.hx.put2 i0 i1 _ _, set2 D.hB hwL _ _⟩, by omega, by omega, hq, unhide HLE, unhide HSH, Nat.le_refl _⟩
        case measure => omega
      · have hd : decide (md * md ≤ x) = false := decide_eq_false hle
        have HLE := hide (Int.not_le.mp hle)
        clear hle
        rw [hd]
        go_wp2_with fail
        go_roundg (md - zl).toNat
        case rel =>
          refine ⟨X, ⟨neg6, a6, n6, c6⟩, zl, md, ⟨D.hX.put2 nLH _ _, ⟨by simp [go_sem, i2, i3], by simp [go_sem, i2, i3]⟩, fun o => by rw [frozen_set', frozen_set']; exact fL o, fun o => by rw [frozen_set', frozen_set']; exact fH o, D.hl.put2 i2 i3 _ _, hint6.put2 i2 i3 _ _, D.A.put2 nAH _ _, D.R.put2 nRH _ _, D.hx.put2 i2 i3 _ _, set2 D.hB hwH _ _⟩, h0, by omega, by omega, unhide HSL, unhide HLE, Nat.le_refl _⟩
        case measure => omega
    · have t1 : ¬ 0 < cmpInt (zh - zl) 1 := by unfold cmpInt; split <;> (try split) <;> omega
      have HE := hide (show rtZ x = zl by
        have h9 : zh = zl + 1 := by omega
        have := unhide HSL
        have h8 := unhide HSH
        rw [h9] at h8
        obtain ⟨p1, p2⟩ := rtZ_sq hx
        exact root_uniq (rtZ_nonneg x) h0 p1 p2 this h8)
      clear hgo
      have q := D.R
      obtain ⟨q0, q1, q2⟩ := q
      go_wp2_with fail
      refine bodyPost_ret (v := .agg #[.bool X.neg, .slice X.a X.n X.cap]) (by simp [results, Try.results98, go_sem, lR, q0, q1]) rfl ⟨X.neg, X.a, X.n, X.cap, rfl, ?_, ?_⟩
      · rw [unhide HE]; exact (D.hl.put2 q0 q1 _ _).mono (by omega)
      · exact set2 D.hB (Nat.le_succ _) _ _
end Go.Proofs.Ytgmnknmjainabaa

namespace Go.Proofs.Ytgmnknmjainabaa
set_option linter.unusedVariables false
set_option linter.unusedSimpArgs false
set_option linter.unnecessarySimpa false
open Go.RowKit
attribute [local go_sem ↓] Go.wp_at_zero Go.wp_at_succ

set_option maxRecDepth 100000 in
set_option maxHeartbeats 8000000 in
theorem refRoots_int (w : World) (s : Sp) (k b : Nat) (lo hi : Int) (hs : SpAt w s k lo hi) (hk : k ≤ 30000000) (hb : b ≤ 1000000) (hbits : s.bits = b) (h0 : 0 ≤ lo) (h1 : 0 ≤ hi) :
    Calls Try.prog 41 #[.agg #[.bool s.ln, .slice s.la s.lN s.lc, .bool s.hn, .slice s.ha s.hN s.hc, .int .i64 s.bits]] w (SpanAns w b (b / 16 + k + 30) (rtZ (lo * Q b)) (rtU (hi * Q b))) := by
  have HBT := hide hbits
  have hqb := Q_pos b
  have HL0 := hide (show 0 ≤ lo * Q b from Int.mul_nonneg h0 (by omega))
  have HH0 := hide (show 0 ≤ hi * Q b from Int.mul_nonneg h1 (by omega))
  clear hbits hqb h0 h1
  obtain ⟨W, hW⟩ : ∃ W, W = (w.alloc (.cells #[.bool s.ln, .slice s.la s.lN s.lc, .bool s.hn, .slice s.ha s.hN s.hc, .int .i64 s.bits] 38)).alloc (.cells #[.bool false, .slice none 0 0, .bool false, .slice none 0 0, .int .i64 0] 38) := ⟨_, rfl⟩
  have hBW : Below w.heap.size w W := by rw [hW]; exact bl2 _ _ _
  have A : SpC W w.heap.size s := by rw [hW]; exact ⟨by simp [go_sem], by simp [go_sem], by simp [go_sem], by simp [go_sem], by simp [go_sem]⟩
  have R : NoC W (w.heap.size + 1) := by rw [hW]; exact ⟨by simp [go_sem], by simp [go_sem], by simp [go_sem], by simp [go_sem], by simp [go_sem], fun o => by simp [go_sem]⟩
  replace hs := hide (hs.below hBW)
  have lA := A.lt
  have lR1 := R.lt
  have HK := hide (show ∀ w', Below W.heap.size W w' → (w'.cell? ⟨w.heap.size, 0, none⟩ = some (.bool s.ln) ∧ w'.cell? ⟨w.heap.size, 1, none⟩ = some (.slice s.la s.lN s.lc) ∧ w'.cell? ⟨w.heap.size, 2, none⟩ = some (.bool s.hn) ∧ w'.cell? ⟨w.heap.size, 3, none⟩ = some (.slice s.ha s.hN s.hc) ∧ w'.cell? ⟨w.heap.size, 4, none⟩ = some (.int .i64 (b : Int))) from fun w' hB => ⟨(A.below hB).c0, (A.below hB).c1, (A.below hB).c2, (A.below hB).c3, by rw [← unhide HBT]; exact (A.below hB).c4⟩)
  obtain ⟨x0, x1, x2, x3, x4⟩ := unhide HK _ (Below.refl _ _)
  go_enter Try.func41, Try.ntmps41
  go_wp2
  rw [← hW]
  clear hW
  go_cut [3, 4] (fun p q wx => TwoV W wx (k + b / 16 + 5) (k + b / 16 + 5) (lo * Q b) (hi * Q b) p q)
  case first =>
    go_region_held3 (fun w' => w'.cell? ⟨w.heap.size, 0, none⟩ = some (.bool s.ln) ∧ w'.cell? ⟨w.heap.size, 1, none⟩ = some (.slice s.la s.lN s.lc) ∧ w'.cell? ⟨w.heap.size, 2, none⟩ = some (.bool s.hn) ∧ w'.cell? ⟨w.heap.size, 3, none⟩ = some (.slice s.ha s.hN s.hc) ∧ w'.cell? ⟨w.heap.size, 4, none⟩ = some (.int .i64 (b : Int))) (exact unhide HK _ (by repeat' (first | with_reducible exact hBL4 | with_reducible exact hBL3 | with_reducible exact hBL2 | with_reducible exact hBL1 | with_reducible exact Below.refl _ _ | with_reducible refine Below.drew ?_ | with_reducible refine balloc ?_ _ | with_reducible refine Below.setCell ?_ (by first | with_reducible exact Nat.le_refl _ | with_reducible exact Nat.le_succ _ | with_reducible exact hlL1 | with_reducible exact Nat.le_succ_of_le hlL1 | with_reducible exact hlL2 | with_reducible exact Nat.le_succ_of_le hlL2 | with_reducible exact hlL3 | with_reducible exact Nat.le_succ_of_le hlL3 | with_reducible exact hlL4 | with_reducible exact Nat.le_succ_of_le hlL4) _)))
      (first
        | (go_at_call 52; have hq := hBL3; refine (mul_int _ _ _ _ _ _ _ _ k (b / 16 + 5) hi (Q b) _ ((unhide hs).hi.below (by repeat' (first | with_reducible exact hBL3 | with_reducible exact Below.refl _ _ | with_reducible refine Below.drew ?_ | with_reducible refine balloc ?_ _))) (hintL3.below (by repeat' (first | with_reducible exact Below.refl _ _ | with_reducible refine Below.drew ?_ | with_reducible refine balloc ?_ _))) (by omega) (by omega)).mono ?_; rintro r wL4 ⟨negL4, aL4, nL4, cL4, rfl, hintL4, hbL4⟩; have hCL4 : Below wL3.heap.size wL3 wL4 := (by first | with_reducible exact hbL4 | with_reducible exact bthen (bl1 _ _) hbL4 | with_reducible exact bthen (bl2 _ _ _) hbL4); have hBL4 := bthen hBL3 hCL4; (first | with_reducible have gaL4 := (noi_new wL3 24).below hbL4 | with_reducible have gaL4 := ((noi_new wL3 24).below (bl1 _ _)).below hbL4 | skip); (try with_reducible have gbL4 := (noi_new' (wL3.alloc _) (wL3.heap.size + 1) (hs1 _ _) 24).below hbL4); replace hintL1 := hintL1.below hCL4; (try have maL1 := gaL1.lt); (try have mbL1 := gbL1.lt); (try replace gaL1 := gaL1.below hCL4); (try replace gbL1 := gbL1.below hCL4); replace hintL2 := hintL2.below hCL4; (try have maL2 := gaL2.lt); (try have mbL2 := gbL2.lt); (try replace gaL2 := gaL2.below hCL4); (try replace gbL2 := gbL2.below hCL4); replace hintL3 := hintL3.below hCL4; (try have maL3 := gaL3.lt); (try have mbL3 := gbL3.lt); (try replace gaL3 := gaL3.below hCL4); (try replace gbL3 := gbL3.below hCL4); have hlL4 := hBL4.size; (try have eaL1 := gaL1); (try obtain ⟨zaL10, zaL11, zaL12⟩ := eaL1); (try have yaL1 := gaL1.lt); (try have ebL1 := gbL1); (try obtain ⟨zbL10, zbL11, zbL12⟩ := ebL1); (try have ybL1 := gbL1.lt); (try have eaL2 := gaL2); (try obtain ⟨zaL20, zaL21, zaL22⟩ := eaL2); (try have yaL2 := gaL2.lt); (try have ebL2 := gbL2); (try obtain ⟨zbL20, zbL21, zbL22⟩ := ebL2); (try have ybL2 := gbL2.lt); (try have eaL3 := gaL3); (try obtain ⟨zaL30, zaL31, zaL32⟩ := eaL3); (try have yaL3 := gaL3.lt); (try have ebL3 := gbL3); (try obtain ⟨zbL30, zbL31, zbL32⟩ := ebL3); (try have ybL3 := gbL3.lt); (try have eaL4 := gaL4); (try obtain ⟨zaL40, zaL41, zaL42⟩ := eaL4); (try have yaL4 := gaL4.lt); (try have ebL4 := gbL4); (try obtain ⟨zbL40, zbL41, zbL42⟩ := ebL4); (try have ybL4 := gbL4.lt))
        | (go_at_call 51; have hq := hBL2; refine (power2_int b _ (by omega)).mono ?_; rintro r wL3 ⟨negL3, aL3, nL3, cL3, rfl, hintL3, hbL3⟩; have hCL3 : Below wL2.heap.size wL2 wL3 := (by first | with_reducible exact hbL3 | with_reducible exact bthen (bl1 _ _) hbL3 | with_reducible exact bthen (bl2 _ _ _) hbL3); have hBL3 := bthen hBL2 hCL3; (first | with_reducible have gaL3 := (noi_new wL2 24).below hbL3 | with_reducible have gaL3 := ((noi_new wL2 24).below (bl1 _ _)).below hbL3 | skip); (try with_reducible have gbL3 := (noi_new' (wL2.alloc _) (wL2.heap.size + 1) (hs1 _ _) 24).below hbL3); replace hintL1 := hintL1.below hCL3; (try have maL1 := gaL1.lt); (try have mbL1 := gbL1.lt); (try replace gaL1 := gaL1.below hCL3); (try replace gbL1 := gbL1.below hCL3); replace hintL2 := hintL2.below hCL3; (try have maL2 := gaL2.lt); (try have mbL2 := gbL2.lt); (try replace gaL2 := gaL2.below hCL3); (try replace gbL2 := gbL2.below hCL3); have hlL3 := hBL3.size)
        | (go_at_call 52; have hq := hBL1; refine (mul_int _ _ _ _ _ _ _ _ k (b / 16 + 5) lo (Q b) _ ((unhide hs).lo.below (by repeat' (first | with_reducible exact hBL1 | with_reducible exact Below.refl _ _ | with_reducible refine Below.drew ?_ | with_reducible refine balloc ?_ _))) (hintL1.below (by repeat' (first | with_reducible exact Below.refl _ _ | with_reducible refine Below.drew ?_ | with_reducible refine balloc ?_ _))) (by omega) (by omega)).mono ?_; rintro r wL2 ⟨negL2, aL2, nL2, cL2, rfl, hintL2, hbL2⟩; have hCL2 : Below wL1.heap.size wL1 wL2 := (by first | with_reducible exact hbL2 | with_reducible exact bthen (bl1 _ _) hbL2 | with_reducible exact bthen (bl2 _ _ _) hbL2); have hBL2 := bthen hBL1 hCL2; (first | with_reducible have gaL2 := (noi_new wL1 24).below hbL2 | with_reducible have gaL2 := ((noi_new wL1 24).below (bl1 _ _)).below hbL2 | skip); (try with_reducible have gbL2 := (noi_new' (wL1.alloc _) (wL1.heap.size + 1) (hs1 _ _) 24).below hbL2); replace hintL1 := hintL1.below hCL2; (try have maL1 := gaL1.lt); (try have mbL1 := gbL1.lt); (try replace gaL1 := gaL1.below hCL2); (try replace gbL1 := gbL1.below hCL2); have hlL2 := hBL2.size)
        | (go_at_call 51; refine (power2_int b _ (by omega)).mono ?_; rintro r wL1 ⟨negL1, aL1, nL1, cL1, rfl, hintL1, hbL1⟩; have hBL1 : Below W.heap.size W wL1 := (by first | with_reducible exact bthen (Below.refl _ _).drew hbL1 | with_reducible exact bthen (bl1 _ _).drew hbL1 | with_reducible exact bthen (bl2 _ _ _).drew hbL1); (first | with_reducible have gaL1 := ((noi_new W 24).below (Below.refl _ _).drew).below hbL1 | with_reducible have gaL1 := ((noi_new W 24).below (bl1 _ _).drew).below hbL1 | skip); (try with_reducible have gbL1 := ((noi_new' (W.alloc _) (W.heap.size + 1) (hs1 _ _) 24).below (Below.refl _ _).drew).below hbL1); have hlL1 := hBL1.size))
    all_goals
      go_wp2_with fail
      go_meet
      first
        | with_reducible exact two_aa (x := (Nm.mk negL2 aL2 nL2 cL2)) (y := (Nm.mk negL4 aL4 nL4 cL4)) hBL4 (IntAt.mono hintL2 (by omega)) (IntAt.mono hintL4 (by omega))
        | with_reducible exact two_aa' (x := (Nm.mk negL2 aL2 nL2 cL2)) (y := (Nm.mk negL4 aL4 nL4 cL4)) hBL4 (IntAt.mono hintL2 (by omega)) (IntAt.mono hintL4 (by omega))
        | with_reducible exact two_sa (x := (Nm.mk negL2 aL2 nL2 cL2)) (y := (Nm.mk negL4 aL4 nL4 cL4)) hBL4 (IntAt.mono hintL2 (by omega)) (IntAt.mono hintL4 (by omega)) (by assumption) (by first | with_reducible exact Nat.le_refl _ | with_reducible exact Nat.le_succ _ | with_reducible exact hlL1 | with_reducible exact Nat.le_succ_of_le hlL1 | with_reducible exact hlL2 | with_reducible exact Nat.le_succ_of_le hlL2 | with_reducible exact hlL3 | with_reducible exact Nat.le_succ_of_le hlL3 | with_reducible exact hlL4 | with_reducible exact Nat.le_succ_of_le hlL4)
        | with_reducible exact two_as (x := (Nm.mk negL2 aL2 nL2 cL2)) (y := (Nm.mk negL4 aL4 nL4 cL4)) hBL4 (IntAt.mono hintL2 (by omega)) (IntAt.mono hintL4 (by omega)) (by assumption) (by first | with_reducible exact Nat.le_refl _ | with_reducible exact Nat.le_succ _ | with_reducible exact hlL1 | with_reducible exact Nat.le_succ_of_le hlL1 | with_reducible exact hlL2 | with_reducible exact Nat.le_succ_of_le hlL2 | with_reducible exact hlL3 | with_reducible exact Nat.le_succ_of_le hlL3 | with_reducible exact hlL4 | with_reducible exact Nat.le_succ_of_le hlL4)
        | with_reducible exact two_ss (x := (Nm.mk negL2 aL2 nL2 cL2)) (y := (Nm.mk negL4 aL4 nL4 cL4)) hBL4 (IntAt.mono hintL2 (by omega)) (IntAt.mono hintL4 (by omega)) (by assumption) (by assumption) (by first | with_reducible exact Nat.le_refl _ | with_reducible exact Nat.le_succ _ | with_reducible exact hlL1 | with_reducible exact Nat.le_succ_of_le hlL1 | with_reducible exact hlL2 | with_reducible exact Nat.le_succ_of_le hlL2 | with_reducible exact hlL3 | with_reducible exact Nat.le_succ_of_le hlL3 | with_reducible exact hlL4 | with_reducible exact Nat.le_succ_of_le hlL4) (by first | with_reducible exact Nat.le_refl _ | with_reducible exact Nat.le_succ _ | with_reducible exact hlL1 | with_reducible exact Nat.le_succ_of_le hlL1 | with_reducible exact hlL2 | with_reducible exact Nat.le_succ_of_le hlL2 | with_reducible exact hlL3 | with_reducible exact Nat.le_succ_of_le hlL3 | with_reducible exact hlL4 | with_reducible exact Nat.le_succ_of_le hlL4) (by omega)
  case rest =>
  obtain ⟨⟨BL, xL, rfl, jL0, jL1, hintL, hHL, hltL⟩, ⟨CL, yL, rfl, jL2, jL3, hjntL, hJL, hjtL⟩, hneL, hfzL, hfyL, hblL⟩ := hcut
  have XL : NmC wc BL xL := ⟨jL0, jL1⟩
  have YL : NmC wc CL yL := ⟨jL2, jL3⟩
  replace hneL : BL ≠ CL := fun e9 => hneL (by rw [e9])
  replace hfzL : ∀ o, wc.frozen? ⟨BL, o, none⟩ = false := hfzL _ rfl
  replace hfyL : ∀ o, wc.frozen? ⟨CL, o, none⟩ = false := hfyL _ rfl
  replace hBW := bthen hBW hblL
  replace A := A.below hblL
  replace R := R.below hblL
  have nLR : BL ≠ w.heap.size + 1 := Nat.ne_of_gt (Nat.lt_of_lt_of_le lR1 hHL)
  have nAR : w.heap.size ≠ w.heap.size + 1 := by omega
  clear x0 x1 x2 x3 x4 HK hs hblL hfzL hfyL hneL lA
  have lC := YL.lt
  go_wp2_with fail
  refine (rootDown_int _ _ _ _ (k + b / 16 + 5) (hi * Q b) _ hjntL (by omega) (unhide HH0)).mono ?_
  rintro r w2 ⟨neg2, a2, n2, c2, rfl, hint2, hb2⟩
  replace hBW := bthen hBW hb2
  replace A := A.below hb2
  replace R := R.below hb2
  replace XL := XL.below hb2
  replace YL := YL.below hb2
  replace hintL := hintL.below hb2
  replace hjntL := hjntL.below hb2
  clear hb2 jL0 jL1 jL2 jL3 lC hltL hjtL
  obtain ⟨W2, hW2⟩ : ∃ W', W' = w2.alloc (.cells #[.bool neg2, .slice a2 n2 c2] 24) := ⟨_, rfl⟩
  have hc2 : Below w2.heap.size w2 W2 := by rw [hW2]; exact bl1 _ _
  have X2 : NmC W2 w2.heap.size ⟨neg2, a2, n2, c2⟩ := by rw [hW2]; exact nmc_new w2 ⟨neg2, a2, n2, c2⟩ _
  have F2 : ∀ o, W2.frozen? ⟨w2.heap.size, o, none⟩ = false := by intro o; rw [hW2]; simp [go_sem]
  have nL2 : BL ≠ w2.heap.size := Nat.ne_of_lt XL.lt
  have nC2 : CL ≠ w2.heap.size := Nat.ne_of_lt YL.lt
  have nR2 : w2.heap.size ≠ w.heap.size + 1 := Nat.ne_of_gt R.lt
  have nR2' : w.heap.size + 1 ≠ w2.heap.size := Nat.ne_of_lt R.lt
  have nA : w.heap.size ≠ w2.heap.size := Nat.ne_of_lt A.lt
  have hwB : w.heap.size ≤ w2.heap.size := Nat.le_of_lt A.lt
  replace hBW := bthen hBW hc2
  replace A := A.below hc2
  replace R := R.below hc2
  replace hintL := hide (hintL.below hc2)
  have hint1 := hide (hjntL.below hc2)
  replace hint2 := hide (hint2.below hc2)
  replace XL := XL.below hc2
  have X1 := YL.below hc2
  clear hc2 YL hjntL
  go_wp2_with fail
  rw [← hW2]
  clear hW2
  have HK3 := hide (show ∀ w', Below W2.heap.size W2 w' → (w'.cell? ⟨CL, 0, none⟩ = some (.bool yL.neg) ∧ w'.cell? ⟨CL, 1, none⟩ = some (.slice yL.a yL.n yL.cap) ∧ w'.cell? ⟨w2.heap.size, 0, none⟩ = some (.bool (Nm.mk neg2 a2 n2 c2).neg) ∧ w'.cell? ⟨w2.heap.size, 1, none⟩ = some (.slice (Nm.mk neg2 a2 n2 c2).a (Nm.mk neg2 a2 n2 c2).n (Nm.mk neg2 a2 n2 c2).cap)) from fun w' hB => ⟨(X1.below hB).c0, (X1.below hB).c1, (X2.below hB).c0, (X2.below hB).c1⟩)
  have l1 := X1.lt
  have l2 := X2.lt
  obtain ⟨v0, v1, v2, v3⟩ := unhide HK3 _ (Below.refl _ _)
  go_wp2_with fail
  go_cut [25] (fun p wx => p = .bool (decide (rtZ (hi * Q b) * rtZ (hi * Q b) < (hi * Q b))) ∧ Below W2.heap.size W2 wx)
  case first =>
    go_region_held3 (fun w' => w'.cell? ⟨CL, 0, none⟩ = some (.bool yL.neg) ∧ w'.cell? ⟨CL, 1, none⟩ = some (.slice yL.a yL.n yL.cap) ∧ w'.cell? ⟨w2.heap.size, 0, none⟩ = some (.bool (Nm.mk neg2 a2 n2 c2).neg) ∧ w'.cell? ⟨w2.heap.size, 1, none⟩ = some (.slice (Nm.mk neg2 a2 n2 c2).a (Nm.mk neg2 a2 n2 c2).n (Nm.mk neg2 a2 n2 c2).cap)) (exact unhide HK3 _ (by (repeat' (first | with_reducible exact hB4 | with_reducible exact hB3 | with_reducible exact Below.refl _ _ | with_reducible refine Below.drew ?_ | with_reducible refine balloc ?_ _)) <;> fail))
      (first
        | (go_at_call 33; have hq := hB3; refine (cmp_int _ _ _ _ _ _ _ _ _ _ (rtZ (hi * Q b) * rtZ (hi * Q b)) (hi * Q b) _ (hint3.below (by (repeat' (first | with_reducible exact Below.refl _ _ | with_reducible refine Below.drew ?_ | with_reducible refine balloc ?_ _)) <;> fail)) ((unhide hint1).below (by (repeat' (first | with_reducible exact hB3 | with_reducible exact Below.refl _ _ | with_reducible refine Below.drew ?_ | with_reducible refine balloc ?_ _)) <;> fail))).mono ?_; rintro r w4 ⟨rfl, hb4⟩; have hB4 := bthen hB3 hb4)
        | (go_at_call 52; refine (mul_int _ _ _ _ _ _ _ _ _ _ (rtZ (hi * Q b)) (rtZ (hi * Q b)) _ ((unhide hint2).below (by (repeat' (first | with_reducible exact Below.refl _ _ | with_reducible refine Below.drew ?_ | with_reducible refine balloc ?_ _)) <;> fail)) ((unhide hint2).below (by (repeat' (first | with_reducible exact Below.refl _ _ | with_reducible refine Below.drew ?_ | with_reducible refine balloc ?_ _)) <;> fail)) (by omega) (by omega)).mono ?_; rintro r w3 ⟨neg3, a3, n3, c3, rfl, hint3, hb3⟩; have hB3 : Below W2.heap.size W2 w3 := bthen (by (repeat' (first | with_reducible exact Below.refl _ _ | with_reducible refine Below.drew ?_ | with_reducible refine balloc ?_ _)) <;> fail) hb3))
    all_goals
      go_wp2_with fail
      go_meet
      refine ⟨?_, (by (repeat' (first | with_reducible exact hB4 | with_reducible exact Below.refl _ _ | with_reducible refine Below.drew ?_ | with_reducible refine balloc ?_ _)) <;> fail)⟩
      congr 1
      exact cmp_lt_dec _ _
  case rest =>
  obtain ⟨rfl, hbl⟩ := hcut
  replace A := A.below hbl
  replace R := R.below hbl
  replace XL := XL.below hbl
  replace hintL := hide ((unhide hintL).below hbl)
  replace F2 : ∀ o, wc.frozen? ⟨w2.heap.size, o, none⟩ = false := fun o => (hbl.frozen (p := ⟨w2.heap.size, o, none⟩) X2.lt).trans (F2 o)
  replace X2 := X2.below hbl
  replace hint2 := hide ((unhide hint2).below hbl)
  replace hBW := bthen hBW hbl
  clear hint1 X1 hbl
  clear v0 v1 v2 v3 HK3 l1 l2
  go_upto_if 25 with fail
  go_cut [26] (fun _ wx => ∃ x : Nm, NmC wx w2.heap.size x ∧ IntAt wx x.neg x.a x.n x.cap (b / 16 + k + 30) (rtU (hi * Q b)) ∧ SpC wx w.heap.size s ∧ NoC wx (w.heap.size + 1) ∧ NmC wx BL xL ∧ IntAt wx xL.neg xL.a xL.n xL.cap (k + b / 16 + 5) (lo * Q b) ∧ Below w.heap.size w wx)
  case first =>
    have l2 := X2.lt
    have HX2 := hide X2
    obtain ⟨v2, v3⟩ := X2
    by_cases hlt : rtZ (hi * Q b) * rtZ (hi * Q b) < (hi * Q b)
    · have hd : decide (rtZ (hi * Q b) * rtZ (hi * Q b) < (hi * Q b)) = true := decide_eq_true hlt
      have HU := hide (show rtU (hi * Q b) = rtZ (hi * Q b) + 1 by unfold rtU; rw [if_pos hlt])
      clear hlt
      rw [hd]
      go_wp2_with fail
      go_region_with
        (first
          | (go_at_call 49; have hq := hb5; refine (add_int _ _ _ _ _ _ _ _ _ 4 (rtZ (hi * Q b)) 1 _ ((unhide hint2).below hB5) hint5 (by omega) (by omega)).mono ?_; rintro r w6 ⟨neg6, a6, n6, c6, rfl, hint6, hb6⟩; have hB6 := bthen hB5 hb6; have F6 : ∀ o, w6.frozen? ⟨w2.heap.size, o, none⟩ = false := (fun o => (hB6.frozen (p := ⟨w2.heap.size, o, none⟩) l2).trans (F2 o)); have l6 := Nat.lt_of_lt_of_le l2 hB6.size; obtain ⟨v7, v8⟩ := (unhide HX2).below hB6)
          | (go_at_call 62; refine (numOf_int 1 _ (by decide) (by decide)).mono ?_; rintro r w5 ⟨neg5, a5, n5, c5, rfl, hint5, hb5⟩; have hB5 : Below wc.heap.size wc w5 := bthen (by (repeat' (first | with_reducible exact Below.refl _ _ | with_reducible refine Below.drew ?_ | with_reducible refine balloc ?_ _)) <;> fail) hb5; have l5 := hB5.size; obtain ⟨v5, v6⟩ := (unhide HX2).below hB5))
      all_goals
        go_wp2_with fail
        go_meet
        rw [unhide HU]
        exact ⟨⟨neg6, a6, n6, c6⟩, ⟨by simp [go_sem, v7, v8], by simp [go_sem, v7, v8]⟩, (hint6.put2 v7 v8 _ _).mono (by omega), (A.below hB6).put2 nA _ _, (R.below hB6).put2 nR2' _ _, (XL.below hB6).put2 nL2 _ _, ((unhide hintL).below hB6).put2 v7 v8 _ _, set2 (bthen hBW hB6) hwB _ _⟩
    · have hd : decide (rtZ (hi * Q b) * rtZ (hi * Q b) < (hi * Q b)) = false := decide_eq_false hlt
      have HU := hide (show rtU (hi * Q b) = rtZ (hi * Q b) by unfold rtU; rw [if_neg hlt])
      clear hlt
      rw [hd]
      go_wp2_with fail
      go_meet
      rw [unhide HU]
      exact ⟨⟨neg2, a2, n2, c2⟩, ⟨v2, v3⟩, (unhide hint2).mono (by omega), A, R, XL, unhide hintL, hBW⟩
  case rest =>
  obtain ⟨x, X2, hint, A, R, XL, hintL, hBW⟩ := hcut
  clear F2 hint2
  have HK5 := hide (show ∀ w', Below wc.heap.size wc w' → (w'.cell? ⟨BL, 0, none⟩ = some (.bool xL.neg) ∧ w'.cell? ⟨BL, 1, none⟩ = some (.slice xL.a xL.n xL.cap) ∧ w'.cell? ⟨w2.heap.size, 0, none⟩ = some (.bool x.neg) ∧ w'.cell? ⟨w2.heap.size, 1, none⟩ = some (.slice x.a x.n x.cap) ∧ w'.cell? ⟨w.heap.size, 4, none⟩ = some (.int .i64 (b : Int))) from fun w' hB => ⟨(XL.below hB).c0, (XL.below hB).c1, (X2.below hB).c0, (X2.below hB).c1, by rw [← unhide HBT]; exact (A.below hB).c4⟩)
  have lA := A.lt
  have lX := X2.lt
  have lL := XL.lt
  have lR := R.lt
  replace hint := hide hint
  replace hintL := hide hintL
  obtain ⟨x0, x1, x2, x3, x4⟩ := unhide HK5 _ (Below.refl _ _)
  go_wp2_with fail
  go_region_held3 (fun w' => w'.cell? ⟨BL, 0, none⟩ = some (.bool xL.neg) ∧ w'.cell? ⟨BL, 1, none⟩ = some (.slice xL.a xL.n xL.cap) ∧ w'.cell? ⟨w2.heap.size, 0, none⟩ = some (.bool x.neg) ∧ w'.cell? ⟨w2.heap.size, 1, none⟩ = some (.slice x.a x.n x.cap) ∧ w'.cell? ⟨w.heap.size, 4, none⟩ = some (.int .i64 (b : Int))) (first | exact unhide HK5 _ (by first | with_reducible exact hB8 | with_reducible exact (Below.refl _ _).drew | with_reducible exact Below.refl _ _) | exact ⟨cell_put5' y0 nLR _ _ _ _ _, cell_put5' y1 nLR _ _ _ _ _, cell_put5' y2 nR2 _ _ _ _ _, cell_put5' y3 nR2 _ _ _ _ _, cell_put5' y4 nAR _ _ _ _ _⟩)
    (first
      | (go_at_call 98; refine (rootDown_int _ _ _ _ (k + b / 16 + 5) (lo * Q b) _ ((unhide hintL).below (by (repeat' (first | with_reducible exact Below.refl _ _ | with_reducible refine Below.drew ?_ | with_reducible refine balloc ?_ _)) <;> fail)) (by omega) (unhide HL0)).mono ?_; rintro r w8 ⟨neg8, a8, n8, c8, rfl, hint8, hb8⟩; have hB8 : Below wc.heap.size wc w8 := bthen (by (repeat' (first | with_reducible exact Below.refl _ _ | with_reducible refine Below.drew ?_ | with_reducible refine balloc ?_ _)) <;> fail) hb8; have R8 := R.below hB8; have l8 := R8.lt; obtain ⟨q0, q1, q2, q3, q4, q5⟩ := R8; obtain ⟨y0, y1, y2, y3, y4⟩ := unhide HK5 _ hB8))
  all_goals
    go_wp2_with fail
    refine bodyPost_ret (v := .agg #[.bool neg8, .slice a8 n8 c8, .bool x.neg, .slice x.a x.n x.cap, .int .i64 b]) (by simp [results, Try.results41, go_sem, l8, q0, q1, q2, q3, q4]) rfl ⟨⟨neg8, a8, n8, c8, x.neg, x.a, x.n, x.cap, b⟩, rfl, rfl, ?_, ?_⟩
    · exact SpAt.put5 ⟨hint8.mono (by omega), (unhide hint).below hB8⟩ q0 q1 q2 q3 q4 _ _ _ _ _
    · exact set5 (bthen hBW hB8) (by omega) _ _ _ _ _
end Go.Proofs.Ytgmnknmjainabaa

namespace Go.Proofs.Ytgmnknmjainabaa
set_option linter.unusedVariables false
set_option linter.unusedSimpArgs false
set_option linter.unnecessarySimpa false
open Go.RowKit
attribute [local go_sem ↓] Go.wp_at_zero Go.wp_at_succ

theorem noc_newB (w : World) (B : Nat) (hB : w.heap.size = B) (T : TypeId) : NoC (w.alloc (.cells #[.bool false, .slice none 0 0, .bool false, .slice none 0 0, .int .i64 0] T)) B := by subst hB; exact noc_new w T
theorem nums2f (w : World) (B : Nat) (hB : w.heap.size = B) (neg neg2 : Bool) (a a2 : Option Addr) (n n2 c c2 : Nat) (k : Nat) (zx zy : Int) (T : TypeId) (hx : IntAt w neg a n c k zx) (hy : IntAt w neg2 a2 n2 c2 k zy) :
    Nums (w.alloc (.cells #[.bool neg, .slice a n c, .bool neg2, .slice a2 n2 c2] T)) B 2 k (pr ⟨neg, a, n, c⟩ ⟨neg2, a2, n2, c2⟩) (pr zx zy) := nums2' w B hB ⟨neg, a, n, c⟩ ⟨neg2, a2, n2, c2⟩ k zx zy T hx hy
theorem mx1 (x y : Int) : mostZ (pr x y) 1 = maxZ x y := rfl
theorem mn1 (x y : Int) : leastZ (pr x y) 1 = minZ x y := rfl
theorem h1p (w : World) (o1 : Obj) : (w.alloc o1).heap.size = w.heap.size + 1 := by simp
theorem h2p (w : World) (o1 o2 : Obj) : ((w.alloc o1).alloc o2).heap.size = w.heap.size + 1 + 1 := by simp
theorem spc_put5 {w : World} {B : Nat} (h : NoC w B) (s : Sp) : SpC (((((w.setCell ⟨B, 0, none⟩ (.bool s.ln)).setCell ⟨B, 1, none⟩ (.slice s.la s.lN s.lc)).setCell ⟨B, 2, none⟩ (.bool s.hn)).setCell ⟨B, 3, none⟩ (.slice s.ha s.hN s.hc)).setCell ⟨B, 4, none⟩ (.int .i64 s.bits)) B s := by
  obtain ⟨q0, q1, q2, q3, q4, q5⟩ := h
  constructor <;> simp [go_sem, q0, q1, q2, q3, q4]

set_option maxRecDepth 100000 in
set_option maxHeartbeats 4000000 in
theorem meet1_int (w : World) (B0 B1 : Nat) (s t : Sp) (k : Nat) (lo hi lo' hi' : Int) (hs : SpAt w s k lo hi) (ht : SpAt w t k lo' hi') (hk : k ≤ 300000000) (a : SpC w B0 s) (g : SpC w B1 t) :
    Calls Try.prog 97 #[.pointer (some ⟨B0, 0, none⟩), .pointer (some ⟨B1, 0, none⟩)] w fun r w' => (minZ hi hi' < maxZ lo lo' → PairAns w 0 (k + 1) 0 0 5 r w') ∧ (maxZ lo lo' ≤ minZ hi hi' → PairAns w s.bits (k + 1) (maxZ lo lo') (minZ hi hi') 0 r w') := by
  have l0 := a.lt
  have l1 := g.lt
  obtain ⟨W, hW⟩ : ∃ W, W = w.alloc (.cells #[.bool false, .slice none 0 0, .bool false, .slice none 0 0, .int .i64 0] 26) := ⟨_, rfl⟩
  have hBW : Below w.heap.size w W := by rw [hW]; exact bl1 _ _
  have r0 : NoC W w.heap.size := by rw [hW]; exact noc_new _ _
  have a0 := a.below hBW
  have g0 := g.below hBW
  have HS := hide (hs.below hBW)
  have HT := hide (ht.below hBW)
  have HK := hide (show ∀ w', Below W.heap.size W w' → (w'.cell? ⟨B0, 0, none⟩ = some (.bool s.ln) ∧ w'.cell? ⟨B0, 1, none⟩ = some (.slice s.la s.lN s.lc) ∧ w'.cell? ⟨B0, 2, none⟩ = some (.bool s.hn) ∧ w'.cell? ⟨B0, 3, none⟩ = some (.slice s.ha s.hN s.hc) ∧ w'.cell? ⟨B0, 4, none⟩ = some (.int .i64 s.bits) ∧ w'.cell? ⟨B1, 0, none⟩ = some (.bool t.ln) ∧ w'.cell? ⟨B1, 1, none⟩ = some (.slice t.la t.lN t.lc) ∧ w'.cell? ⟨B1, 2, none⟩ = some (.bool t.hn) ∧ w'.cell? ⟨B1, 3, none⟩ = some (.slice t.ha t.hN t.hc)) from fun w' hB => by
    obtain ⟨x0, x1, x2, x3, x4⟩ := a0.below hB
    obtain ⟨y0, y1, y2, y3, y4⟩ := g0.below hB
    exact ⟨x0, x1, x2, x3, x4, y0, y1, y2, y3⟩)
  clear hs ht a g
  have lr := r0.lt
  go_enter Try.func97, Try.ntmps97
  go_wp2
  obtain ⟨x0, x1, x2, x3, x4, y0, y1, y2, y3⟩ := unhide HK _ (Below.refl _ _)
  rw [← hW]
  clear hW
  go_cut [4] (fun p wx => ∃ (B4 : Nat) (v : Sp), p = .pointer (some ⟨B4, 0, none⟩) ∧ SpC wx B4 v ∧ SpAt wx v (k + 1) (maxZ lo lo') (minZ hi hi') ∧ v.bits = s.bits ∧ W.heap.size ≤ B4 ∧ Below W.heap.size W wx)
  case first =>
    go_region_held3 (fun w' => w'.cell? ⟨B0, 0, none⟩ = some (.bool s.ln) ∧ w'.cell? ⟨B0, 1, none⟩ = some (.slice s.la s.lN s.lc) ∧ w'.cell? ⟨B0, 2, none⟩ = some (.bool s.hn) ∧ w'.cell? ⟨B0, 3, none⟩ = some (.slice s.ha s.hN s.hc) ∧ w'.cell? ⟨B0, 4, none⟩ = some (.int .i64 s.bits) ∧ w'.cell? ⟨B1, 0, none⟩ = some (.bool t.ln) ∧ w'.cell? ⟨B1, 1, none⟩ = some (.slice t.la t.lN t.lc) ∧ w'.cell? ⟨B1, 2, none⟩ = some (.bool t.hn) ∧ w'.cell? ⟨B1, 3, none⟩ = some (.slice t.ha t.hN t.hc)) (exact unhide HK _ (by repeat' (first | with_reducible exact hB2 | with_reducible exact hB1 | with_reducible exact Below.refl _ _ | with_reducible refine Below.drew ?_ | with_reducible refine balloc ?_ _ | with_reducible refine Below.setCell ?_ (by first | with_reducible exact Nat.le_refl _ | with_reducible exact hl1 | with_reducible exact hl2 | with_reducible exact Nat.le_succ _ | with_reducible exact Nat.le_succ_of_le (Nat.le_succ _) | with_reducible exact Nat.le_succ_of_le hl1) _)))
      (first
        | (go_at_call 88; have hq := hB1; refine (leastw_int _ 1 _ k (pr ⟨s.hn, s.ha, s.hN, s.hc⟩ ⟨t.hn, t.ha, t.hN, t.hc⟩) (pr hi hi') _ (by first | with_reducible exact ((nums2f W W.heap.size rfl s.hn t.hn s.ha t.ha s.hN t.hN s.hc t.hc k hi hi' 24 (unhide HS).hi (unhide HT).hi).below (bthen (Below.refl _ _).drew hb1)).below (Below.refl _ _) | with_reducible exact ((nums2f W W.heap.size rfl s.hn t.hn s.ha t.ha s.hN t.hN s.hc t.hc k hi hi' 24 (unhide HS).hi (unhide HT).hi).below (bthen (Below.refl _ _).drew hb1)).below (bl1 _ _) | with_reducible exact ((nums2f W W.heap.size rfl s.hn t.hn s.ha t.ha s.hN t.hN s.hc t.hc k hi hi' 24 (unhide HS).hi (unhide HT).hi).below (bthen (bl1 _ _).drew hb1)).below (Below.refl _ _) | with_reducible exact ((nums2f W W.heap.size rfl s.hn t.hn s.ha t.ha s.hN t.hN s.hc t.hc k hi hi' 24 (unhide HS).hi (unhide HT).hi).below (bthen (bl1 _ _).drew hb1)).below (bl1 _ _) | with_reducible exact ((nums2f W W.heap.size rfl s.hn t.hn s.ha t.ha s.hN t.hN s.hc t.hc k hi hi' 24 (unhide HS).hi (unhide HT).hi).below (bthen (bl2 _ _ _).drew hb1)).below (Below.refl _ _) | with_reducible exact ((nums2f W W.heap.size rfl s.hn t.hn s.ha t.ha s.hN t.hN s.hc t.hc k hi hi' 24 (unhide HS).hi (unhide HT).hi).below (bthen (bl2 _ _ _).drew hb1)).below (bl1 _ _) | with_reducible exact ((nums2f (W.alloc _) (W.heap.size + 1) (h1p _ _) s.hn t.hn s.ha t.ha s.hN t.hN s.hc t.hc k hi hi' 24 ((unhide HS).hi.below (bl1 _ _)) ((unhide HT).hi.below (bl1 _ _))).below (bthen (Below.refl _ _).drew hb1)).below (Below.refl _ _) | with_reducible exact ((nums2f (W.alloc _) (W.heap.size + 1) (h1p _ _) s.hn t.hn s.ha t.ha s.hN t.hN s.hc t.hc k hi hi' 24 ((unhide HS).hi.below (bl1 _ _)) ((unhide HT).hi.below (bl1 _ _))).below (bthen (Below.refl _ _).drew hb1)).below (bl1 _ _) | with_reducible exact ((nums2f (W.alloc _) (W.heap.size + 1) (h1p _ _) s.hn t.hn s.ha t.ha s.hN t.hN s.hc t.hc k hi hi' 24 ((unhide HS).hi.below (bl1 _ _)) ((unhide HT).hi.below (bl1 _ _))).below (bthen (bl1 _ _).drew hb1)).below (Below.refl _ _) | with_reducible exact ((nums2f (W.alloc _) (W.heap.size + 1) (h1p _ _) s.hn t.hn s.ha t.ha s.hN t.hN s.hc t.hc k hi hi' 24 ((unhide HS).hi.below (bl1 _ _)) ((unhide HT).hi.below (bl1 _ _))).below (bthen (bl1 _ _).drew hb1)).below (bl1 _ _) | with_reducible exact ((nums2f (W.alloc _) (W.heap.size + 1) (h1p _ _) s.hn t.hn s.ha t.ha s.hN t.hN s.hc t.hc k hi hi' 24 ((unhide HS).hi.below (bl1 _ _)) ((unhide HT).hi.below (bl1 _ _))).below (bthen (bl2 _ _ _).drew hb1)).below (Below.refl _ _) | with_reducible exact ((nums2f (W.alloc _) (W.heap.size + 1) (h1p _ _) s.hn t.hn s.ha t.ha s.hN t.hN s.hc t.hc k hi hi' 24 ((unhide HS).hi.below (bl1 _ _)) ((unhide HT).hi.below (bl1 _ _))).below (bthen (bl2 _ _ _).drew hb1)).below (bl1 _ _) | with_reducible exact ((nums2f ((W.alloc _).alloc _) (W.heap.size + 1 + 1) (h2p _ _ _) s.hn t.hn s.ha t.ha s.hN t.hN s.hc t.hc k hi hi' 24 ((unhide HS).hi.below (bl2 _ _ _)) ((unhide HT).hi.below (bl2 _ _ _))).below (bthen (Below.refl _ _).drew hb1)).below (Below.refl _ _) | with_reducible exact ((nums2f ((W.alloc _).alloc _) (W.heap.size + 1 + 1) (h2p _ _ _) s.hn t.hn s.ha t.ha s.hN t.hN s.hc t.hc k hi hi' 24 ((unhide HS).hi.below (bl2 _ _ _)) ((unhide HT).hi.below (bl2 _ _ _))).below (bthen (Below.refl _ _).drew hb1)).below (bl1 _ _) | with_reducible exact ((nums2f ((W.alloc _).alloc _) (W.heap.size + 1 + 1) (h2p _ _ _) s.hn t.hn s.ha t.ha s.hN t.hN s.hc t.hc k hi hi' 24 ((unhide HS).hi.below (bl2 _ _ _)) ((unhide HT).hi.below (bl2 _ _ _))).below (bthen (bl1 _ _).drew hb1)).below (Below.refl _ _) | with_reducible exact ((nums2f ((W.alloc _).alloc _) (W.heap.size + 1 + 1) (h2p _ _ _) s.hn t.hn s.ha t.ha s.hN t.hN s.hc t.hc k hi hi' 24 ((unhide HS).hi.below (bl2 _ _ _)) ((unhide HT).hi.below (bl2 _ _ _))).below (bthen (bl1 _ _).drew hb1)).below (bl1 _ _) | with_reducible exact ((nums2f ((W.alloc _).alloc _) (W.heap.size + 1 + 1) (h2p _ _ _) s.hn t.hn s.ha t.ha s.hN t.hN s.hc t.hc k hi hi' 24 ((unhide HS).hi.below (bl2 _ _ _)) ((unhide HT).hi.below (bl2 _ _ _))).below (bthen (bl2 _ _ _).drew hb1)).below (Below.refl _ _) | with_reducible exact ((nums2f ((W.alloc _).alloc _) (W.heap.size + 1 + 1) (h2p _ _ _) s.hn t.hn s.ha t.ha s.hN t.hN s.hc t.hc k hi hi' 24 ((unhide HS).hi.below (bl2 _ _ _)) ((unhide HT).hi.below (bl2 _ _ _))).below (bthen (bl2 _ _ _).drew hb1)).below (bl1 _ _) | with_reducible exact (nums2f w1 w1.heap.size rfl s.hn t.hn s.ha t.ha s.hN t.hN s.hc t.hc k hi hi' 24 ((unhide HS).hi.below (hB1)) ((unhide HT).hi.below (hB1))).below (Below.refl _ _) | with_reducible exact (nums2f w1 w1.heap.size rfl s.hn t.hn s.ha t.ha s.hN t.hN s.hc t.hc k hi hi' 24 ((unhide HS).hi.below (hB1)) ((unhide HT).hi.below (hB1))).below (bl1 _ _) | with_reducible exact (nums2f (w1.alloc _) (w1.heap.size + 1) (h1p _ _) s.hn t.hn s.ha t.ha s.hN t.hN s.hc t.hc k hi hi' 24 ((unhide HS).hi.below (balloc hB1 _)) ((unhide HT).hi.below (balloc hB1 _))).below (Below.refl _ _) | with_reducible exact (nums2f (w1.alloc _) (w1.heap.size + 1) (h1p _ _) s.hn t.hn s.ha t.ha s.hN t.hN s.hc t.hc k hi hi' 24 ((unhide HS).hi.below (balloc hB1 _)) ((unhide HT).hi.below (balloc hB1 _))).below (bl1 _ _)) (by omega) (by omega)).mono ?_; rintro r w2 ⟨neg2, a2, n2, c2, rfl, hint2, hb2⟩; have hB12 : Below w1.heap.size w1 w2 := (by first | with_reducible exact bthen (Below.refl _ _) hb2 | with_reducible exact bthen (bl1 _ _) hb2 | with_reducible exact bthen (bl2 _ _ _) hb2); replace hint1 := hint1.below hB12; have hB2 := bthen hB1 hB12; have hl2 := hB2.size; (try replace g4 := g4.below hB12); (first | with_reducible have g4 := (noc_newB w1 w1.heap.size rfl 26).below (bthen (Below.refl _ _) hb2) | with_reducible have g4 := (noc_newB w1 w1.heap.size rfl 26).below (bthen (bl1 _ _) hb2) | with_reducible have g4 := (noc_newB (w1.alloc _) (w1.heap.size + 1) (h1p _ _) 26).below (bthen (Below.refl _ _) hb2) | with_reducible have g4 := (noc_newB (w1.alloc _) (w1.heap.size + 1) (h1p _ _) 26).below (bthen (bl1 _ _) hb2) | skip); (try have e4 := g4.lt); (try have e4' := Nat.ne_of_lt e4); (try have e4'' := Nat.ne_of_gt e4); (try obtain ⟨z0, z1, z2, z3, z4, z5⟩ := g4); obtain ⟨f0, f1, f2, f3, f4, f5, f6, f7, f8⟩ := unhide HK _ hB2)
        | (go_at_call 89; refine (most_int _ 1 _ k (pr ⟨s.ln, s.la, s.lN, s.lc⟩ ⟨t.ln, t.la, t.lN, t.lc⟩) (pr lo lo') _ (by first | with_reducible exact (nums2f W W.heap.size rfl s.ln t.ln s.la t.la s.lN t.lN s.lc t.lc k lo lo' 24 (unhide HS).lo (unhide HT).lo).below (Below.refl _ _).drew | with_reducible exact (nums2f W W.heap.size rfl s.ln t.ln s.la t.la s.lN t.lN s.lc t.lc k lo lo' 24 (unhide HS).lo (unhide HT).lo).below (bl1 _ _).drew | with_reducible exact (nums2f W W.heap.size rfl s.ln t.ln s.la t.la s.lN t.lN s.lc t.lc k lo lo' 24 (unhide HS).lo (unhide HT).lo).below (bl2 _ _ _).drew | with_reducible exact (nums2f (W.alloc _) (W.heap.size + 1) (h1p _ _) s.ln t.ln s.la t.la s.lN t.lN s.lc t.lc k lo lo' 24 ((unhide HS).lo.below (bl1 _ _)) ((unhide HT).lo.below (bl1 _ _))).below (Below.refl _ _).drew | with_reducible exact (nums2f (W.alloc _) (W.heap.size + 1) (h1p _ _) s.ln t.ln s.la t.la s.lN t.lN s.lc t.lc k lo lo' 24 ((unhide HS).lo.below (bl1 _ _)) ((unhide HT).lo.below (bl1 _ _))).below (bl1 _ _).drew | with_reducible exact (nums2f (W.alloc _) (W.heap.size + 1) (h1p _ _) s.ln t.ln s.la t.la s.lN t.lN s.lc t.lc k lo lo' 24 ((unhide HS).lo.below (bl1 _ _)) ((unhide HT).lo.below (bl1 _ _))).below (bl2 _ _ _).drew | with_reducible exact (nums2f ((W.alloc _).alloc _) (W.heap.size + 1 + 1) (h2p _ _ _) s.ln t.ln s.la t.la s.lN t.lN s.lc t.lc k lo lo' 24 ((unhide HS).lo.below (bl2 _ _ _)) ((unhide HT).lo.below (bl2 _ _ _))).below (Below.refl _ _).drew | with_reducible exact (nums2f ((W.alloc _).alloc _) (W.heap.size + 1 + 1) (h2p _ _ _) s.ln t.ln s.la t.la s.lN t.lN s.lc t.lc k lo lo' 24 ((unhide HS).lo.below (bl2 _ _ _)) ((unhide HT).lo.below (bl2 _ _ _))).below (bl1 _ _).drew | with_reducible exact (nums2f ((W.alloc _).alloc _) (W.heap.size + 1 + 1) (h2p _ _ _) s.ln t.ln s.la t.la s.lN t.lN s.lc t.lc k lo lo' 24 ((unhide HS).lo.below (bl2 _ _ _)) ((unhide HT).lo.below (bl2 _ _ _))).below (bl2 _ _ _).drew) (by omega) (by omega)).mono ?_; rintro r w1 ⟨neg1, a1, n1, c1, rfl, hint1, hb1⟩; have hB1 : Below W.heap.size W w1 := (by first | with_reducible exact bthen (Below.refl _ _).drew hb1 | with_reducible exact bthen (bl1 _ _).drew hb1 | with_reducible exact bthen (bl2 _ _ _).drew hb1 | with_reducible exact bthen (bl3 _ _ _ _).drew hb1); have hl1 := hB1.size; (first | with_reducible have g4 := ((noc_newB W W.heap.size rfl 26).below (Below.refl _ _).drew).below hb1 | with_reducible have g4 := ((noc_newB W W.heap.size rfl 26).below (bl1 _ _).drew).below hb1 | with_reducible have g4 := ((noc_newB W W.heap.size rfl 26).below (bl2 _ _ _).drew).below hb1 | with_reducible have g4 := ((noc_newB (W.alloc _) (W.heap.size + 1) (h1p _ _) 26).below (Below.refl _ _).drew).below hb1 | with_reducible have g4 := ((noc_newB (W.alloc _) (W.heap.size + 1) (h1p _ _) 26).below (bl1 _ _).drew).below hb1 | with_reducible have g4 := ((noc_newB (W.alloc _) (W.heap.size + 1) (h1p _ _) 26).below (bl2 _ _ _).drew).below hb1 | with_reducible have g4 := ((noc_newB ((W.alloc _).alloc _) (W.heap.size + 1 + 1) (h2p _ _ _) 26).below (Below.refl _ _).drew).below hb1 | with_reducible have g4 := ((noc_newB ((W.alloc _).alloc _) (W.heap.size + 1 + 1) (h2p _ _ _) 26).below (bl1 _ _).drew).below hb1 | with_reducible have g4 := ((noc_newB ((W.alloc _).alloc _) (W.heap.size + 1 + 1) (h2p _ _ _) 26).below (bl2 _ _ _).drew).below hb1 | skip)))
    all_goals
      go_wp2_with fail
      go_meet
      have i1 : IntAt w2 neg1 a1 n1 c1 (k + 1) (maxZ lo lo') := (by rw [mx1] at hint1; exact hint1)
      have i2 : IntAt w2 neg2 a2 n2 c2 (k + 1) (minZ hi hi') := (by rw [mn1] at hint2; exact hint2)
      refine ⟨_, ⟨neg1, a1, n1, c1, neg2, a2, n2, c2, s.bits⟩, rfl, ?_, ?_, rfl, ?_, ?_⟩
      · first | with_reducible exact spc_put5 (NoC.mk z0 z1 z2 z3 z4 z5) ⟨neg1, a1, n1, c1, neg2, a2, n2, c2, s.bits⟩ | with_reducible exact spc_new w2 ⟨neg1, a1, n1, c1, neg2, a2, n2, c2, s.bits⟩ _
      · first | with_reducible exact SpAt.put5 ⟨i1, i2⟩ z0 z1 z2 z3 z4 _ _ _ _ _ | with_reducible exact ⟨i1.below (bl1 _ _), i2.below (bl1 _ _)⟩
      · first | with_reducible exact hl2 | with_reducible exact hl1 | with_reducible exact Nat.le_refl _ | with_reducible exact Nat.le_succ _ | with_reducible exact Nat.le_succ_of_le (Nat.le_succ _) | with_reducible exact Nat.le_succ_of_le hl1
      · repeat' (first | with_reducible exact hB2 | with_reducible exact hB1 | with_reducible exact Below.refl _ _ | with_reducible refine Below.drew ?_ | with_reducible refine balloc ?_ _ | with_reducible refine Below.setCell ?_ (by first | with_reducible exact Nat.le_refl _ | with_reducible exact hl1 | with_reducible exact hl2 | with_reducible exact Nat.le_succ _ | with_reducible exact Nat.le_succ_of_le (Nat.le_succ _) | with_reducible exact Nat.le_succ_of_le hl1) _)
  case rest =>
  obtain ⟨B4, v, rfl, V, hv, hvb, hB4, hbl⟩ := hcut
  have hVB := hide hvb
  have R := r0.below hbl
  have hB := bthen hBW hbl
  clear hvb x0 x1 x2 x3 x4 y0 y1 y2 y3 HK a0 g0 HS HT hbl
  obtain ⟨v0, v1, v2, v3, v4⟩ := V
  have V : SpC wc B4 v := ⟨v0, v1, v2, v3, v4⟩
  have lV := V.lt
  have nB : B4 ≠ w.heap.size := Nat.ne_of_gt (Nat.lt_of_lt_of_le lr hB4)
  have nB' : w.heap.size ≠ B4 := fun e => nB e.symm
  go_wp2_with fail
  refine (cmp_int _ _ _ _ _ _ _ _ (k + 1) (k + 1) _ _ _ hv.lo hv.hi).mono ?_
  rintro r w3 ⟨rfl, hb3⟩
  replace V := V.below hb3
  replace R := R.below hb3
  replace hB := bthen hB hb3
  replace hv := hv.below hb3
  have lV := V.lt
  have lR := R.lt
  clear v0 v1 v2 v3 v4 hb3
  obtain ⟨v0, v1, v2, v3, v4⟩ := V
  obtain ⟨q0, q1, q2, q3, q4, q5⟩ := R
  by_cases hc : minZ hi hi' < maxZ lo lo'
  · have t1 : 0 < cmpInt (maxZ lo lo') (minZ hi hi') := by unfold cmpInt; rw [if_neg (by omega), if_pos hc]; omega
    have HC := hide hc
    clear hc
    go_wp2_with fail
    refine bodyPost_ret (v := .tuple #[.agg #[.bool false, .slice none 0 0, .bool false, .slice none 0 0, .int .i64 0], .int .i64 5]) (by simp [results, Try.results97, go_sem, lR, q0, q1, q2, q3, q4]) rfl ⟨fun _ => ⟨⟨false, none, 0, 0, false, none, 0, 0, 0⟩, rfl, rfl, zeroSp _ _, ?_⟩, fun h9 => by have := unhide HC; omega⟩
    exact set5 hB (Nat.le_refl _) _ _ _ _ _
  · have t1 : ¬ 0 < cmpInt (maxZ lo lo') (minZ hi hi') := by unfold cmpInt; split <;> (try rw [if_neg (by omega)]) <;> omega
    have HC := hide hc
    clear hc
    go_wp2_with fail
    refine bodyPost_ret (v := .tuple #[.agg #[.bool v.ln, .slice v.la v.lN v.lc, .bool v.hn, .slice v.ha v.hN v.hc, .int .i64 v.bits], .int .i64 0]) (by simp [results, Try.results97, go_sem, lR, q0, q1, q2, q3, q4]) rfl ⟨fun h9 => by have := unhide HC; omega, fun _ => ⟨v, rfl, unhide hVB, ?_, ?_⟩⟩
    · exact SpAt.put5 hv q0 q1 q2 q3 q4 _ _ _ _ _
    · exact set5 hB (Nat.le_refl _) _ _ _ _ _
end Go.Proofs.Ytgmnknmjainabaa
