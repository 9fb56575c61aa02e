/-
  What wide.Root answers of a right span that has nothing below 0, and that it leaves old memory alone.
  Two variables of numbers in memory that are made in one statement, wherever they came to lie.
  What tailsureref.Over answers of right spans, the second one more than 0, and that it leaves old memory alone.
  What tailsureref.Over answers of right spans, the second one less than 0; and both ways together; and that it leaves old memory alone.
-/
import Derived.Test.YtgmnknmjainababGreatK09
namespace Go.Proofs.YtgmnknmjainababGreat
set_option linter.unusedVariables false
set_option linter.unusedSimpArgs false
set_option linter.unnecessarySimpa false
open Go.RowKit
attribute [local go_sem ↓] Go.wp_at_zero Go.wp_at_succ

theorem cell_put2 {w : World} {B B' o : Nat} {v : Option Value} (h : w.cell? ⟨B, o, none⟩ = v) (hne : B ≠ B') (u0 u1 : Value) : ((w.setCell ⟨B', 0, none⟩ u0).setCell ⟨B', 1, none⟩ u1).cell? ⟨B, o, none⟩ = v := by
  have ne : ∀ i : Nat, (⟨B', i, none⟩ : Addr) ≠ ⟨B, o, none⟩ := fun i e => hne (by injection e with e1; exact e1.symm)
  rw [World.cell?_setCell_other _ _ _ _ (ne 1), World.cell?_setCell_other _ _ _ _ (ne 0)]
  exact h
theorem cell_put5' {w : World} {B B' o : Nat} {v : Option Value} (h : w.cell? ⟨B, o, none⟩ = v) (hne : B ≠ B') (u0 u1 u2 u3 u4 : Value) :
    (((((w.setCell ⟨B', 0, none⟩ u0).setCell ⟨B', 1, none⟩ u1).setCell ⟨B', 2, none⟩ u2).setCell ⟨B', 3, none⟩ u3).setCell ⟨B', 4, none⟩ u4).cell? ⟨B, o, none⟩ = v := by
  have ne : ∀ i : Nat, (⟨B', i, none⟩ : Addr) ≠ ⟨B, o, none⟩ := fun i e => hne (by injection e with e1; exact e1.symm)
  rw [World.cell?_setCell_other _ _ _ _ (ne 4), World.cell?_setCell_other _ _ _ _ (ne 3), World.cell?_setCell_other _ _ _ _ (ne 2), World.cell?_setCell_other _ _ _ _ (ne 1), World.cell?_setCell_other _ _ _ _ (ne 0)]
  exact h
theorem SpC.put2 {w : World} {B B' : Nat} {s : Sp} (h : SpC w B s) (hne : B ≠ B') (u0 u1 : Value) : SpC ((w.setCell ⟨B', 0, none⟩ u0).setCell ⟨B', 1, none⟩ u1) B s :=
  ⟨cell_put2 h.c0 hne _ _, cell_put2 h.c1 hne _ _, cell_put2 h.c2 hne _ _, cell_put2 h.c3 hne _ _, cell_put2 h.c4 hne _ _⟩
theorem NmC.put2 {w : World} {B B' : Nat} {x : Nm} (h : NmC w B x) (hne : B ≠ B') (u0 u1 : Value) : NmC ((w.setCell ⟨B', 0, none⟩ u0).setCell ⟨B', 1, none⟩ u1) B x :=
  ⟨cell_put2 h.c0 hne _ _, cell_put2 h.c1 hne _ _⟩
theorem NoC.put2 {w : World} {B B' : Nat} (h : NoC w B) (hne : B ≠ B') (u0 u1 : Value) : NoC ((w.setCell ⟨B', 0, none⟩ u0).setCell ⟨B', 1, none⟩ u1) B := by
  obtain ⟨q0, q1, q2, q3, q4, q5⟩ := h
  exact ⟨cell_put2 q0 hne _ _, cell_put2 q1 hne _ _, cell_put2 q2 hne _ _, cell_put2 q3 hne _ _, cell_put2 q4 hne _ _, fun o => by rw [frozen_set', frozen_set']; exact q5 o⟩
theorem SpAt.put2 {w : World} {s : Sp} {k : Nat} {lo hi : Int} (h : SpAt w s k lo hi) {B : Nat} {x0 : Bool} {y0 : Option Addr} {y1 y2 : Nat} (h0 : w.cell? ⟨B, 0, none⟩ = some (.bool x0)) (h1 : w.cell? ⟨B, 1, none⟩ = some (.slice y0 y1 y2)) (u0 u1 : Value) :
    SpAt ((w.setCell ⟨B, 0, none⟩ u0).setCell ⟨B, 1, none⟩ u1) s k lo hi := ⟨h.lo.put2 h0 h1 _ _, h.hi.put2 h0 h1 _ _⟩
theorem cmp_lt_dec (x y : Int) : decide (cmpInt x y < 0) = decide (x < y) := by unfold cmpInt; split <;> (try split) <;> simp <;> omega

set_option maxRecDepth 100000 in
set_option maxHeartbeats 4000000 in
theorem wideRoot_int (w : World) (s : Sp) (k b : Nat) (lo hi : Int) (hs : SpAt w s k lo hi) (hk : k ≤ 30000000) (hb : b ≤ 1000000) (hbits : s.bits = b) :
    Calls Tryz.prog 159 #[.agg #[.bool s.ln, .slice s.la s.lN s.lc, .bool s.hn, .slice s.ha s.hN s.hc, .int .i64 s.bits]] w (SpanAns w b (b / 16 + k + 20) (rtZ (lo * Q b)) (rtU (hi * Q b))) := by
  have HBT := hide hbits
  clear hbits
  obtain ⟨W, hW⟩ : ∃ W, W = (w.alloc (.cells #[.bool s.ln, .slice s.la s.lN s.lc, .bool s.hn, .slice s.ha s.hN s.hc, .int .i64 s.bits] 28)).alloc (.cells #[.bool false, .slice none 0 0, .bool false, .slice none 0 0, .int .i64 0] 28) := ⟨_, rfl⟩
  have hBW : Below w.heap.size w W := by rw [hW]; exact bl2 _ _ _
  have A : SpC W w.heap.size s := by rw [hW]; exact ⟨by simp [go_sem], by simp [go_sem], by simp [go_sem], by simp [go_sem], by simp [go_sem]⟩
  have R : NoC W (w.heap.size + 1) := by rw [hW]; exact ⟨by simp [go_sem], by simp [go_sem], by simp [go_sem], by simp [go_sem], by simp [go_sem], fun o => by simp [go_sem]⟩
  replace hs := hs.below hBW
  go_enter Tryz.func159, Tryz.ntmps159
  go_wp2_with fail
  rw [← hW]
  clear hW
  rw [unhide HBT]
  refine (up_int _ _ _ _ b k hi _ hs.hi (by omega) (by omega)).mono ?_
  rintro r w1 ⟨neg1, a1, n1, c1, rfl, hint1, hb1⟩
  replace hBW := bthen hBW hb1
  replace A := A.below hb1
  replace R := R.below hb1
  replace hs := hs.below hb1
  clear hb1
  obtain ⟨x1, hx1⟩ : ∃ x : Nm, x = ⟨neg1, a1, n1, c1⟩ := ⟨_, rfl⟩
  obtain ⟨W1, hW1⟩ : ∃ W', W' = w1.alloc (.cells #[.bool neg1, .slice a1 n1 c1] 26) := ⟨_, rfl⟩
  have hc1 : Below w1.heap.size w1 W1 := by rw [hW1]; exact bl1 _ _
  have X1 : NmC W1 w1.heap.size ⟨neg1, a1, n1, c1⟩ := by rw [hW1]; exact nmc_new w1 ⟨neg1, a1, n1, c1⟩ _
  have nR1 : w1.heap.size ≠ w.heap.size + 1 := Nat.ne_of_gt R.lt
  obtain ⟨u0, u1⟩ := X1
  have X1 : NmC W1 w1.heap.size ⟨neg1, a1, n1, c1⟩ := ⟨u0, u1⟩
  have lX1 := X1.lt
  go_wp2_with fail
  rw [← hW1]
  clear hW1 u0 u1 lX1 hx1 x1
  replace hBW := bthen hBW hc1
  replace A := A.below hc1
  replace R := R.below hc1
  replace hs := hs.below hc1
  replace hint1 := hint1.below hc1
  clear hc1
  refine (root_rt _ _ _ _ _ (hi * Q b) _ hint1 (by omega)).mono ?_
  rintro r w2 ⟨neg2, a2, n2, c2, rfl, hint2, hb2⟩
  replace hBW := bthen hBW hb2
  replace A := A.below hb2
  replace R := R.below hb2
  replace hs := hs.below hb2
  replace hint1 := hint1.below hb2
  replace X1 := X1.below hb2
  clear hb2
  obtain ⟨W2, hW2⟩ : ∃ W', W' = w2.alloc (.cells #[.bool neg2, .slice a2 n2 c2] 26) := ⟨_, rfl⟩
  have hc2 : Below w2.heap.size w2 W2 := by rw [hW2]; exact bl1 _ _
  have X2 : NmC W2 w2.heap.size ⟨neg2, a2, n2, c2⟩ := by rw [hW2]; exact nmc_new w2 ⟨neg2, a2, n2, c2⟩ _
  have F2 : ∀ o, W2.frozen? ⟨w2.heap.size, o, none⟩ = false := by intro o; rw [hW2]; simp [go_sem]
  have n12 : w1.heap.size ≠ w2.heap.size := Nat.ne_of_lt X1.lt
  have nR2 : w2.heap.size ≠ w.heap.size + 1 := Nat.ne_of_gt R.lt
  have nR2' : w.heap.size + 1 ≠ w2.heap.size := Nat.ne_of_lt R.lt
  have nAR : w.heap.size ≠ w.heap.size + 1 := Nat.ne_of_lt (Nat.lt_succ_self _)
  have nA : w.heap.size ≠ w2.heap.size := Nat.ne_of_lt A.lt
  have hwB : w.heap.size ≤ w2.heap.size := Nat.le_of_lt A.lt
  replace hBW := bthen hBW hc2
  replace A := A.below hc2
  replace R := R.below hc2
  replace hs := hs.below hc2
  replace hint1 := hide (hint1.below hc2)
  replace hint2 := hide (hint2.below hc2)
  replace X1 := X1.below hc2
  clear hc2
  go_wp2_with fail
  rw [← hW2]
  clear hW2
  have HK3 := hide (show ∀ w', Below W2.heap.size W2 w' → (w'.cell? ⟨w1.heap.size, 0, none⟩ = some (.bool (Nm.mk neg1 a1 n1 c1).neg) ∧ w'.cell? ⟨w1.heap.size, 1, none⟩ = some (.slice (Nm.mk neg1 a1 n1 c1).a (Nm.mk neg1 a1 n1 c1).n (Nm.mk neg1 a1 n1 c1).cap) ∧ w'.cell? ⟨w2.heap.size, 0, none⟩ = some (.bool (Nm.mk neg2 a2 n2 c2).neg) ∧ w'.cell? ⟨w2.heap.size, 1, none⟩ = some (.slice (Nm.mk neg2 a2 n2 c2).a (Nm.mk neg2 a2 n2 c2).n (Nm.mk neg2 a2 n2 c2).cap)) from fun w' hB => ⟨(X1.below hB).c0, (X1.below hB).c1, (X2.below hB).c0, (X2.below hB).c1⟩)
  have l1 := X1.lt
  have l2 := X2.lt
  obtain ⟨v0, v1, v2, v3⟩ := unhide HK3 _ (Below.refl _ _)
  go_wp2_with fail
  go_cut [17] (fun p wx => p = .bool (decide (rtZ (hi * Q b) * rtZ (hi * Q b) < (hi * Q b))) ∧ Below W2.heap.size W2 wx)
  case first =>
    go_region_held3 (fun w' => w'.cell? ⟨w1.heap.size, 0, none⟩ = some (.bool (Nm.mk neg1 a1 n1 c1).neg) ∧ w'.cell? ⟨w1.heap.size, 1, none⟩ = some (.slice (Nm.mk neg1 a1 n1 c1).a (Nm.mk neg1 a1 n1 c1).n (Nm.mk neg1 a1 n1 c1).cap) ∧ w'.cell? ⟨w2.heap.size, 0, none⟩ = some (.bool (Nm.mk neg2 a2 n2 c2).neg) ∧ w'.cell? ⟨w2.heap.size, 1, none⟩ = some (.slice (Nm.mk neg2 a2 n2 c2).a (Nm.mk neg2 a2 n2 c2).n (Nm.mk neg2 a2 n2 c2).cap)) (exact unhide HK3 _ (by (repeat' (first | with_reducible exact hB4 | with_reducible exact hB3 | with_reducible exact Below.refl _ _ | with_reducible refine Below.drew ?_ | with_reducible refine balloc ?_ _)) <;> fail))
      (first
        | (go_at_call 46; have hq := hB3; refine (cmp_int _ _ _ _ _ _ _ _ _ _ (rtZ (hi * Q b) * rtZ (hi * Q b)) (hi * Q b) _ (hint3.below (by (repeat' (first | with_reducible exact Below.refl _ _ | with_reducible refine Below.drew ?_ | with_reducible refine balloc ?_ _)) <;> fail)) ((unhide hint1).below (by (repeat' (first | with_reducible exact hB3 | with_reducible exact Below.refl _ _ | with_reducible refine Below.drew ?_ | with_reducible refine balloc ?_ _)) <;> fail))).mono ?_; rintro r w4 ⟨rfl, hb4⟩; have hB4 := bthen hB3 hb4)
        | (go_at_call 66; refine (mul_int _ _ _ _ _ _ _ _ _ _ (rtZ (hi * Q b)) (rtZ (hi * Q b)) _ ((unhide hint2).below (by (repeat' (first | with_reducible exact Below.refl _ _ | with_reducible refine Below.drew ?_ | with_reducible refine balloc ?_ _)) <;> fail)) ((unhide hint2).below (by (repeat' (first | with_reducible exact Below.refl _ _ | with_reducible refine Below.drew ?_ | with_reducible refine balloc ?_ _)) <;> fail)) (by omega) (by omega)).mono ?_; rintro r w3 ⟨neg3, a3, n3, c3, rfl, hint3, hb3⟩; have hB3 : Below W2.heap.size W2 w3 := bthen (by (repeat' (first | with_reducible exact Below.refl _ _ | with_reducible refine Below.drew ?_ | with_reducible refine balloc ?_ _)) <;> fail) hb3))
    all_goals
      go_wp2_with fail
      go_meet
      refine ⟨?_, (by (repeat' (first | with_reducible exact hB4 | with_reducible exact Below.refl _ _ | with_reducible refine Below.drew ?_ | with_reducible refine balloc ?_ _)) <;> fail)⟩
      congr 1
      exact cmp_lt_dec _ _
  case rest =>
  obtain ⟨rfl, hbl⟩ := hcut
  replace A := A.below hbl
  replace R := R.below hbl
  replace hs := hs.below hbl
  replace F2 : ∀ o, wc.frozen? ⟨w2.heap.size, o, none⟩ = false := fun o => (hbl.frozen (p := ⟨w2.heap.size, o, none⟩) X2.lt).trans (F2 o)
  replace X2 := X2.below hbl
  replace hint2 := hide ((unhide hint2).below hbl)
  replace hBW := bthen hBW hbl
  clear hint1 X1 hbl
  clear v0 v1 v2 v3 HK3 l1 l2
  go_upto_if 17 with fail
  go_cut [18] (fun _ wx => ∃ x : Nm, NmC wx w2.heap.size x ∧ IntAt wx x.neg x.a x.n x.cap (b / 16 + k + 20) (rtU (hi * Q b)) ∧ SpC wx w.heap.size s ∧ NoC wx (w.heap.size + 1) ∧ SpAt wx s k lo hi ∧ Below w.heap.size w wx)
  case first =>
    have l2 := X2.lt
    have HX2 := hide X2
    obtain ⟨v2, v3⟩ := X2
    by_cases hlt : rtZ (hi * Q b) * rtZ (hi * Q b) < (hi * Q b)
    · have hd : decide (rtZ (hi * Q b) * rtZ (hi * Q b) < (hi * Q b)) = true := decide_eq_true hlt
      have HU := hide (show rtU (hi * Q b) = rtZ (hi * Q b) + 1 by unfold rtU; rw [if_pos hlt])
      clear hlt
      rw [hd]
      go_wp2_with fail
      go_region_with
        (first
          | (go_at_call 65; have hq := hb5; refine (add_int _ _ _ _ _ _ _ _ _ 4 (rtZ (hi * Q b)) 1 _ ((unhide hint2).below hB5) hint5 (by omega) (by omega)).mono ?_; rintro r w6 ⟨neg6, a6, n6, c6, rfl, hint6, hb6⟩; have hB6 := bthen hB5 hb6; have F6 : ∀ o, w6.frozen? ⟨w2.heap.size, o, none⟩ = false := (fun o => (hB6.frozen (p := ⟨w2.heap.size, o, none⟩) l2).trans (F2 o)); have l6 := Nat.lt_of_lt_of_le l2 hB6.size; obtain ⟨v7, v8⟩ := (unhide HX2).below hB6)
          | (go_at_call 43; refine (numOf_int 1 _ (by decide) (by decide)).mono ?_; rintro r w5 ⟨neg5, a5, n5, c5, rfl, hint5, hb5⟩; have hB5 : Below wc.heap.size wc w5 := bthen (by (repeat' (first | with_reducible exact Below.refl _ _ | with_reducible refine Below.drew ?_ | with_reducible refine balloc ?_ _)) <;> fail) hb5; have l5 := hB5.size; obtain ⟨v5, v6⟩ := (unhide HX2).below hB5))
      all_goals
        go_wp2_with fail
        go_meet
        rw [unhide HU]
        exact ⟨⟨neg6, a6, n6, c6⟩, ⟨by simp [go_sem, v7, v8], by simp [go_sem, v7, v8]⟩, (hint6.put2 v7 v8 _ _).mono (by omega), (A.below hB6).put2 nA _ _, (R.below hB6).put2 nR2' _ _, (hs.below hB6).put2 v7 v8 _ _, set2 (bthen hBW hB6) hwB _ _⟩
    · have hd : decide (rtZ (hi * Q b) * rtZ (hi * Q b) < (hi * Q b)) = false := decide_eq_false hlt
      have HU := hide (show rtU (hi * Q b) = rtZ (hi * Q b) by unfold rtU; rw [if_neg hlt])
      clear hlt
      rw [hd]
      go_wp2_with fail
      go_meet
      rw [unhide HU]
      exact ⟨⟨neg2, a2, n2, c2⟩, ⟨v2, v3⟩, (unhide hint2).mono (by omega), A, R, hs, hBW⟩
  case rest =>
  obtain ⟨x, X2, hint, A, R, hs, hBW⟩ := hcut
  clear F2 hint2
  have HK5 := hide (show ∀ w', Below wc.heap.size wc w' → (w'.cell? ⟨w.heap.size, 0, none⟩ = some (.bool s.ln) ∧ w'.cell? ⟨w.heap.size, 1, none⟩ = some (.slice s.la s.lN s.lc) ∧ w'.cell? ⟨w.heap.size, 2, none⟩ = some (.bool s.hn) ∧ w'.cell? ⟨w.heap.size, 3, none⟩ = some (.slice s.ha s.hN s.hc) ∧ w'.cell? ⟨w.heap.size, 4, none⟩ = some (.int .i64 (b : Int)) ∧ w'.cell? ⟨w2.heap.size, 0, none⟩ = some (.bool x.neg) ∧ w'.cell? ⟨w2.heap.size, 1, none⟩ = some (.slice x.a x.n x.cap)) from fun w' hB => ⟨(A.below hB).c0, (A.below hB).c1, (A.below hB).c2, (A.below hB).c3, by rw [← unhide HBT]; exact (A.below hB).c4, (X2.below hB).c0, (X2.below hB).c1⟩)
  have HK5s := hide (show ∀ w' u0 u1 u2 u3 u4, Below wc.heap.size wc w' → ((((((w'.setCell ⟨w.heap.size + 1, 0, none⟩ u0).setCell ⟨w.heap.size + 1, 1, none⟩ u1).setCell ⟨w.heap.size + 1, 2, none⟩ u2).setCell ⟨w.heap.size + 1, 3, none⟩ u3).setCell ⟨w.heap.size + 1, 4, none⟩ u4).cell? ⟨w.heap.size, 0, none⟩ = some (.bool s.ln) ∧ (((((w'.setCell ⟨w.heap.size + 1, 0, none⟩ u0).setCell ⟨w.heap.size + 1, 1, none⟩ u1).setCell ⟨w.heap.size + 1, 2, none⟩ u2).setCell ⟨w.heap.size + 1, 3, none⟩ u3).setCell ⟨w.heap.size + 1, 4, none⟩ u4).cell? ⟨w.heap.size, 1, none⟩ = some (.slice s.la s.lN s.lc) ∧ (((((w'.setCell ⟨w.heap.size + 1, 0, none⟩ u0).setCell ⟨w.heap.size + 1, 1, none⟩ u1).setCell ⟨w.heap.size + 1, 2, none⟩ u2).setCell ⟨w.heap.size + 1, 3, none⟩ u3).setCell ⟨w.heap.size + 1, 4, none⟩ u4).cell? ⟨w.heap.size, 2, none⟩ = some (.bool s.hn) ∧ (((((w'.setCell ⟨w.heap.size + 1, 0, none⟩ u0).setCell ⟨w.heap.size + 1, 1, none⟩ u1).setCell ⟨w.heap.size + 1, 2, none⟩ u2).setCell ⟨w.heap.size + 1, 3, none⟩ u3).setCell ⟨w.heap.size + 1, 4, none⟩ u4).cell? ⟨w.heap.size, 3, none⟩ = some (.slice s.ha s.hN s.hc) ∧ (((((w'.setCell ⟨w.heap.size + 1, 0, none⟩ u0).setCell ⟨w.heap.size + 1, 1, none⟩ u1).setCell ⟨w.heap.size + 1, 2, none⟩ u2).setCell ⟨w.heap.size + 1, 3, none⟩ u3).setCell ⟨w.heap.size + 1, 4, none⟩ u4).cell? ⟨w.heap.size, 4, none⟩ = some (.int .i64 (b : Int)) ∧ (((((w'.setCell ⟨w.heap.size + 1, 0, none⟩ u0).setCell ⟨w.heap.size + 1, 1, none⟩ u1).setCell ⟨w.heap.size + 1, 2, none⟩ u2).setCell ⟨w.heap.size + 1, 3, none⟩ u3).setCell ⟨w.heap.size + 1, 4, none⟩ u4).cell? ⟨w2.heap.size, 0, none⟩ = some (.bool x.neg) ∧ (((((w'.setCell ⟨w.heap.size + 1, 0, none⟩ u0).setCell ⟨w.heap.size + 1, 1, none⟩ u1).setCell ⟨w.heap.size + 1, 2, none⟩ u2).setCell ⟨w.heap.size + 1, 3, none⟩ u3).setCell ⟨w.heap.size + 1, 4, none⟩ u4).cell? ⟨w2.heap.size, 1, none⟩ = some (.slice x.a x.n x.cap)) from fun w' u0 u1 u2 u3 u4 hB => ⟨cell_put5' (A.below hB).c0 nAR _ _ _ _ _, cell_put5' (A.below hB).c1 nAR _ _ _ _ _, cell_put5' (A.below hB).c2 nAR _ _ _ _ _, cell_put5' (A.below hB).c3 nAR _ _ _ _ _, cell_put5' (by rw [← unhide HBT]; exact (A.below hB).c4) nAR _ _ _ _ _, cell_put5' (X2.below hB).c0 nR2 _ _ _ _ _, cell_put5' (X2.below hB).c1 nR2 _ _ _ _ _⟩)
  have lA := A.lt
  have lX := X2.lt
  have lR := R.lt
  replace hint := hide hint
  replace hs := hide hs
  obtain ⟨x0, x1, x2, x3, x4, v2, v3⟩ := unhide HK5 _ (Below.refl _ _)
  go_wp2_with fail
  go_region_held3 (fun w' => w'.cell? ⟨w.heap.size, 0, none⟩ = some (.bool s.ln) ∧ w'.cell? ⟨w.heap.size, 1, none⟩ = some (.slice s.la s.lN s.lc) ∧ w'.cell? ⟨w.heap.size, 2, none⟩ = some (.bool s.hn) ∧ w'.cell? ⟨w.heap.size, 3, none⟩ = some (.slice s.ha s.hN s.hc) ∧ w'.cell? ⟨w.heap.size, 4, none⟩ = some (.int .i64 (b : Int)) ∧ w'.cell? ⟨w2.heap.size, 0, none⟩ = some (.bool x.neg) ∧ w'.cell? ⟨w2.heap.size, 1, none⟩ = some (.slice x.a x.n x.cap)) (first | exact unhide HK5 _ (by first | with_reducible exact hB8 | with_reducible exact hB7 | with_reducible exact (Below.refl _ _).drew | with_reducible exact Below.refl _ _) | exact unhide HK5s _ _ _ _ _ _ hB8)
    (first
      | (go_at_call 189; have hq := hB7; refine (root_rt _ _ _ _ _ (lo * Q b) _ hint7 (by omega)).mono ?_; rintro r w8 ⟨neg8, a8, n8, c8, rfl, hint8, hb8⟩; have hB8 := bthen hB7 hb8; have R8 := R.below hB8; have l8 := R8.lt; obtain ⟨q0, q1, q2, q3, q4, q5⟩ := R8; obtain ⟨y0, y1, y2, y3, y4, y5, y6⟩ := unhide HK5 _ hB8)
      | (go_at_call 95; refine (up_int _ _ _ _ b k lo _ ((unhide hs).lo.below (by (repeat' (first | with_reducible exact Below.refl _ _ | with_reducible refine Below.drew ?_ | with_reducible refine balloc ?_ _)) <;> fail)) (by omega) (by omega)).mono ?_; rintro r w7 ⟨neg7, a7, n7, c7, rfl, hint7, hb7⟩; have hB7 : Below wc.heap.size wc w7 := bthen (by (repeat' (first | with_reducible exact Below.refl _ _ | with_reducible refine Below.drew ?_ | with_reducible refine balloc ?_ _)) <;> fail) hb7))
  all_goals
    go_wp2_with fail
    refine bodyPost_ret (v := .agg #[.bool neg8, .slice a8 n8 c8, .bool x.neg, .slice x.a x.n x.cap, .int .i64 b]) (by simp [results, Tryz.results159, go_sem, l8, q0, q1, q2, q3, q4]) rfl ⟨⟨neg8, a8, n8, c8, x.neg, x.a, x.n, x.cap, b⟩, rfl, rfl, ?_, ?_⟩
    · exact SpAt.put5 ⟨hint8.mono (by omega), (unhide hint).below hB8⟩ q0 q1 q2 q3 q4 _ _ _ _ _
    · exact set5 (bthen hBW hB8) (by omega) _ _ _ _ _
end Go.Proofs.YtgmnknmjainababGreat

namespace Go.Proofs.YtgmnknmjainababGreat
set_option linter.unusedVariables false
set_option linter.unusedSimpArgs false
set_option linter.unnecessarySimpa false
open Go.RowKit

theorem noi_new' (w : World) (B : Nat) (hB : w.heap.size = B) (T : TypeId) : NoI (w.alloc (.cells #[.bool false, .slice none 0 0] T)) B := by subst hB; exact noi_new w T
theorem hs1 (w : World) (o1 : Obj) : (w.alloc o1).heap.size = w.heap.size + 1 := by simp
/-- Two variables that were made behind world W. -/
def TwoV (W wx : World) (k1 k2 : Nat) (z1 z2 : Int) (p q : Value) : Prop :=
  VarAt wx p W.heap.size k1 z1 ∧ VarAt wx q W.heap.size k2 z2 ∧ p ≠ q ∧ FzP wx p ∧ FzP wx q ∧ Below W.heap.size W wx

theorem put_nm {w : World} {B : Nat} (h : NoI w B) (x : Nm) : NmC ((w.setCell ⟨B, 0, none⟩ (.bool x.neg)).setCell ⟨B, 1, none⟩ (.slice x.a x.n x.cap)) B x := by
  obtain ⟨q0, q1, q2⟩ := h
  constructor <;> simp [go_sem, q0, q1]
theorem put_fz {w : World} {B B' : Nat} (h : ∀ o, w.frozen? ⟨B, o, none⟩ = false) (u0 u1 : Value) : ∀ o, ((w.setCell ⟨B', 0, none⟩ u0).setCell ⟨B', 1, none⟩ u1).frozen? ⟨B, o, none⟩ = false := fun o => by rw [frozen_set', frozen_set']; exact h o
theorem nepp {B B' : Nat} (h : B ≠ B') : (Value.pointer (some ⟨B, 0, none⟩)) ≠ .pointer (some ⟨B', 0, none⟩) := by intro e; injection e with e1; injection e1 with e2; injection e2 with e3; exact h e3

theorem two_mk {W wx : World} {k1 k2 : Nat} {z1 z2 : Int} {B B' : Nat} {x y : Nm} (hx : NmC wx B x) (hy : NmC wx B' y) (ix : IntAt wx x.neg x.a x.n x.cap k1 z1) (iy : IntAt wx y.neg y.a y.n y.cap k2 z2) (h1 : W.heap.size ≤ B) (h2 : W.heap.size ≤ B') (hne : B ≠ B') (f1 : ∀ o, wx.frozen? ⟨B, o, none⟩ = false) (f2 : ∀ o, wx.frozen? ⟨B', o, none⟩ = false) (hb : Below W.heap.size W wx) :
    TwoV W wx k1 k2 z1 z2 (.pointer (some ⟨B, 0, none⟩)) (.pointer (some ⟨B', 0, none⟩)) :=
  ⟨⟨B, x, rfl, hx.c0, hx.c1, ix, h1, hx.lt⟩, ⟨B', y, rfl, hy.c0, hy.c1, iy, h2, hy.lt⟩, nepp hne, fun C hC o => (by cases hC; exact f1 o), fun C hC o => (by cases hC; exact f2 o), hb⟩

variable {W w2 : World} {k1 k2 : Nat} {z1 z2 : Int} {x y : Nm} {T : TypeId}
theorem two_aa (hb : Below W.heap.size W w2) (ix : IntAt w2 x.neg x.a x.n x.cap k1 z1) (iy : IntAt w2 y.neg y.a y.n y.cap k2 z2) :
    TwoV W ((w2.alloc (.cells #[.bool x.neg, .slice x.a x.n x.cap] T)).alloc (.cells #[.bool y.neg, .slice y.a y.n y.cap] T)) k1 k2 z1 z2 (.pointer (some ⟨w2.heap.size, 0, none⟩)) (.pointer (some ⟨w2.heap.size + 1, 0, none⟩)) :=
  two_mk (x := x) (y := y) ⟨by simp [go_sem], by simp [go_sem]⟩ ⟨by simp [go_sem], by simp [go_sem]⟩ (ix.below (bl2 _ _ _)) (iy.below (bl2 _ _ _)) hb.size (Nat.le_succ_of_le hb.size) (Nat.ne_of_lt (Nat.lt_succ_self _)) (fun o => by simp [go_sem]) (fun o => by simp [go_sem]) (bthen hb (bl2 _ _ _))
theorem two_aa' (hb : Below W.heap.size W w2) (ix : IntAt w2 x.neg x.a x.n x.cap k1 z1) (iy : IntAt w2 y.neg y.a y.n y.cap k2 z2) :
    TwoV W ((w2.alloc (.cells #[.bool y.neg, .slice y.a y.n y.cap] T)).alloc (.cells #[.bool x.neg, .slice x.a x.n x.cap] T)) k1 k2 z1 z2 (.pointer (some ⟨w2.heap.size + 1, 0, none⟩)) (.pointer (some ⟨w2.heap.size, 0, none⟩)) :=
  two_mk (x := x) (y := y) ⟨by simp [go_sem], by simp [go_sem]⟩ ⟨by simp [go_sem], by simp [go_sem]⟩ (ix.below (bl2 _ _ _)) (iy.below (bl2 _ _ _)) (Nat.le_succ_of_le hb.size) hb.size (Nat.ne_of_gt (Nat.lt_succ_self _)) (fun o => by simp [go_sem]) (fun o => by simp [go_sem]) (bthen hb (bl2 _ _ _))
theorem two_sa {B : Nat} (hb : Below W.heap.size W w2) (ix : IntAt w2 x.neg x.a x.n x.cap k1 z1) (iy : IntAt w2 y.neg y.a y.n y.cap k2 z2) (g : NoI w2 B) (h1 : W.heap.size ≤ B) :
    TwoV W (((w2.setCell ⟨B, 0, none⟩ (.bool x.neg)).setCell ⟨B, 1, none⟩ (.slice x.a x.n x.cap)).alloc (.cells #[.bool y.neg, .slice y.a y.n y.cap] T)) k1 k2 z1 z2 (.pointer (some ⟨B, 0, none⟩)) (.pointer (some ⟨w2.heap.size, 0, none⟩)) := by
  have hx := put_nm g x
  have ix' := ix.put2 g.c0 g.c1 (.bool x.neg) (.slice x.a x.n x.cap)
  have iy' := iy.put2 g.c0 g.c1 (.bool x.neg) (.slice x.a x.n x.cap)
  have hl := g.lt
  have hs : w2.heap.size = ((w2.setCell ⟨B, 0, none⟩ (.bool x.neg)).setCell ⟨B, 1, none⟩ (.slice x.a x.n x.cap)).heap.size := by simp [World.setCell]
  have hf := put_fz (B' := B) (fun o => g.fz o) (.bool x.neg) (.slice x.a x.n x.cap)
  have hb' := set2 hb h1 (.bool x.neg) (.slice x.a x.n x.cap)
  generalize ((w2.setCell ⟨B, 0, none⟩ (.bool x.neg)).setCell ⟨B, 1, none⟩ (.slice x.a x.n x.cap)) = V at *
  rw [hs]
  exact two_mk (x := x) (y := y) (hx.below (bl1 _ _)) ⟨by simp [go_sem], by simp [go_sem]⟩ (ix'.below (bl1 _ _)) (iy'.below (bl1 _ _)) h1 hb'.size (by omega) (fun o => ((bl1 V _).frozen (p := ⟨B, o, none⟩) (show B < V.heap.size by omega)).trans (hf o)) (fun o => by simp [go_sem]) (bthen hb' (bl1 _ _))
theorem two_as {B : Nat} (hb : Below W.heap.size W w2) (ix : IntAt w2 x.neg x.a x.n x.cap k1 z1) (iy : IntAt w2 y.neg y.a y.n y.cap k2 z2) (g : NoI w2 B) (h1 : W.heap.size ≤ B) :
    TwoV W (((w2.setCell ⟨B, 0, none⟩ (.bool y.neg)).setCell ⟨B, 1, none⟩ (.slice y.a y.n y.cap)).alloc (.cells #[.bool x.neg, .slice x.a x.n x.cap] T)) k1 k2 z1 z2 (.pointer (some ⟨w2.heap.size, 0, none⟩)) (.pointer (some ⟨B, 0, none⟩)) := by
  obtain ⟨a1, a2, a3, a4, a5, a6⟩ := two_sa (T := T) hb iy ix g h1
  exact ⟨a2, a1, fun e => a3 e.symm, a5, a4, a6⟩
theorem two_ss {B B' : Nat} (hb : Below W.heap.size W w2) (ix : IntAt w2 x.neg x.a x.n x.cap k1 z1) (iy : IntAt w2 y.neg y.a y.n y.cap k2 z2) (g : NoI w2 B) (g' : NoI w2 B') (h1 : W.heap.size ≤ B) (h2 : W.heap.size ≤ B') (hne : B ≠ B') :
    TwoV W ((((w2.setCell ⟨B, 0, none⟩ (.bool x.neg)).setCell ⟨B, 1, none⟩ (.slice x.a x.n x.cap)).setCell ⟨B', 0, none⟩ (.bool y.neg)).setCell ⟨B', 1, none⟩ (.slice y.a y.n y.cap)) k1 k2 z1 z2 (.pointer (some ⟨B, 0, none⟩)) (.pointer (some ⟨B', 0, none⟩)) := by
  have hx := put_nm g x
  have ix' := ix.put2 g.c0 g.c1 (.bool x.neg) (.slice x.a x.n x.cap)
  have iy' := iy.put2 g.c0 g.c1 (.bool x.neg) (.slice x.a x.n x.cap)
  have hf := put_fz (B' := B) (fun o => g.fz o) (.bool x.neg) (.slice x.a x.n x.cap)
  have hf' := put_fz (B' := B) (fun o => g'.fz o) (.bool x.neg) (.slice x.a x.n x.cap)
  have hb' := set2 hb h1 (.bool x.neg) (.slice x.a x.n x.cap)
  have q0 := cell_put2 g'.c0 (fun e => hne e.symm) (.bool x.neg) (.slice x.a x.n x.cap)
  have q1 := cell_put2 g'.c1 (fun e => hne e.symm) (.bool x.neg) (.slice x.a x.n x.cap)
  generalize ((w2.setCell ⟨B, 0, none⟩ (.bool x.neg)).setCell ⟨B, 1, none⟩ (.slice x.a x.n x.cap)) = V at *
  have g2 : NoI V B' := ⟨q0, q1, hf'⟩
  exact two_mk (x := x) (y := y) (hx.put2 hne _ _) (put_nm g2 y) (ix'.put2 q0 q1 _ _) (iy'.put2 q0 q1 _ _) h1 h2 hne (put_fz hf _ _) (put_fz hf' _ _) (set2 hb' h2 _ _)
end Go.Proofs.YtgmnknmjainababGreat

namespace Go.Proofs.YtgmnknmjainababGreat
set_option linter.unusedVariables false
set_option linter.unusedSimpArgs false
set_option linter.unnecessarySimpa false
open Go.RowKit
attribute [local go_sem ↓] Go.wp_at_zero Go.wp_at_succ

/-- The ends of the quotients of what is from l to h over what is from p to q, p more than 0. -/
def ovLo (l h p q : Int) : Int := if l < 0 then l / p else l / q
def ovHi (l h p q : Int) : Int := if h < 0 then -(-h / q) else -(-h / p)

/-- What stands of tailsureref.Over behind its variables l, h (at BL, CL) and lo, hi (at BM, CM). -/
structure OVs (w wr : World) (s t : Sp) (k k1 k2 BL CL BM CM : Nat) (xL yL xM yM : Nm) (lo' hi' l h m n : Int) : Prop where
  A : SpC wr w.heap.size s
  G : SpC wr (w.heap.size + 1) t
  R : NoC wr (w.heap.size + 1 + 1)
  XL : NmC wr BL xL
  YL : NmC wr CL yL
  XM : NmC wr BM xM
  YM : NmC wr CM yM
  il : IntAt wr xL.neg xL.a xL.n xL.cap k1 l
  ih : IntAt wr yL.neg yL.a yL.n yL.cap k1 h
  im : IntAt wr xM.neg xM.a xM.n xM.cap k2 m
  jn : IntAt wr yM.neg yM.a yM.n yM.cap k2 n
  ht : SpAt wr t k lo' hi'
  fM : ∀ o, wr.frozen? ⟨BM, o, none⟩ = false
  fN : ∀ o, wr.frozen? ⟨CM, o, none⟩ = false
  hB : Below w.heap.size w wr
/-- Its variables lie apart. -/
structure OVd (w : World) (BL CL BM CM : Nat) : Prop where
  m1 : w.heap.size ≠ BM
  m2 : w.heap.size + 1 ≠ BM
  m3 : w.heap.size + 1 + 1 ≠ BM
  m4 : BL ≠ BM
  m5 : CL ≠ BM
  n1 : w.heap.size ≠ CM
  n2 : w.heap.size + 1 ≠ CM
  n3 : w.heap.size + 1 + 1 ≠ CM
  n4 : BL ≠ CM
  n5 : CL ≠ CM
  mn : BM ≠ CM
  le : w.heap.size ≤ BM ∧ w.heap.size ≤ CM
variable {w wr w' : World} {s t : Sp} {k k1 k2 BL CL BM CM : Nat} {xL yL xM yM : Nm} {lo' hi' l h m n : Int}
theorem OVs.below (D : OVs w wr s t k k1 k2 BL CL BM CM xL yL xM yM lo' hi' l h m n) (hb : Below wr.heap.size wr w') : OVs w w' s t k k1 k2 BL CL BM CM xL yL xM yM lo' hi' l h m n :=
  ⟨D.A.below hb, D.G.below hb, D.R.below hb, D.XL.below hb, D.YL.below hb, D.XM.below hb, D.YM.below hb, D.il.below hb, D.ih.below hb, D.im.below hb, D.jn.below hb, D.ht.below hb, fun o => (hb.frozen (p := ⟨BM, o, none⟩) D.XM.lt).trans (D.fM o), fun o => (hb.frozen (p := ⟨CM, o, none⟩) D.YM.lt).trans (D.fN o), bthen D.hB hb⟩
theorem nm_put {w : World} {B : Nat} {y : Nm} (h : NmC w B y) (x : Nm) : NmC ((w.setCell ⟨B, 0, none⟩ (.bool x.neg)).setCell ⟨B, 1, none⟩ (.slice x.a x.n x.cap)) B x := by
  obtain ⟨q0, q1⟩ := h
  constructor <;> simp [go_sem, q0, q1]
theorem OVs.setM (D : OVs w wr s t k k1 k2 BL CL BM CM xL yL xM yM lo' hi' l h m n) (E : OVd w BL CL BM CM) (x : Nm) {z : Int} (hz : IntAt wr x.neg x.a x.n x.cap k2 z) :
    OVs w ((wr.setCell ⟨BM, 0, none⟩ (.bool x.neg)).setCell ⟨BM, 1, none⟩ (.slice x.a x.n x.cap)) s t k k1 k2 BL CL BM CM xL yL x yM lo' hi' l h z n := by
  have c0 := D.XM.c0
  have c1 := D.XM.c1
  exact ⟨D.A.put2 E.m1 _ _, D.G.put2 E.m2 _ _, D.R.put2 E.m3 _ _, D.XL.put2 E.m4 _ _, D.YL.put2 E.m5 _ _, nm_put D.XM x, D.YM.put2 (fun e => E.mn e.symm) _ _, D.il.put2 c0 c1 _ _, D.ih.put2 c0 c1 _ _, hz.put2 c0 c1 _ _, D.jn.put2 c0 c1 _ _, D.ht.put2 c0 c1 _ _, put_fz D.fM _ _, put_fz D.fN _ _, set2 D.hB E.le.1 _ _⟩
theorem OVs.setN (D : OVs w wr s t k k1 k2 BL CL BM CM xL yL xM yM lo' hi' l h m n) (E : OVd w BL CL BM CM) (x : Nm) {z : Int} (hz : IntAt wr x.neg x.a x.n x.cap k2 z) :
    OVs w ((wr.setCell ⟨CM, 0, none⟩ (.bool x.neg)).setCell ⟨CM, 1, none⟩ (.slice x.a x.n x.cap)) s t k k1 k2 BL CL BM CM xL yL xM x lo' hi' l h m z := by
  have c0 := D.YM.c0
  have c1 := D.YM.c1
  exact ⟨D.A.put2 E.n1 _ _, D.G.put2 E.n2 _ _, D.R.put2 E.n3 _ _, D.XL.put2 E.n4 _ _, D.YL.put2 E.n5 _ _, D.XM.put2 E.mn _ _, nm_put D.YM x, D.il.put2 c0 c1 _ _, D.ih.put2 c0 c1 _ _, D.im.put2 c0 c1 _ _, hz.put2 c0 c1 _ _, D.ht.put2 c0 c1 _ _, put_fz D.fM _ _, put_fz D.fN _ _, set2 D.hB E.le.2 _ _⟩

set_option maxRecDepth 100000 in
set_option maxHeartbeats 8000000 in
theorem refOver_pos (w : World) (s t : Sp) (k b : Nat) (lo hi lo' hi' : Int) (hs : SpAt w s k lo hi) (ht : SpAt w t k lo' hi') (hk : k ≤ 50000000) (hb : b ≤ 1000000) (hbits : s.bits = b) (hp : 0 < lo') (hp2 : lo' ≤ hi') :
    Calls Tryz.prog 91 #[.agg #[.bool s.ln, .slice s.la s.lN s.lc, .bool s.hn, .slice s.ha s.hN s.hc, .int .i64 s.bits], .agg #[.bool t.ln, .slice t.la t.lN t.lc, .bool t.hn, .slice t.ha t.hN t.hc, .int .i64 t.bits]] w (SpanAns w b (k + b / 16 + 20) (ovLo (lo * Q b) (hi * Q b) lo' hi') (ovHi (lo * Q b) (hi * Q b) lo' hi')) := by
  have HBT := hide hbits
  have t1 : ¬ cmpInt hi' 0 < 0 := by unfold cmpInt; rw [if_neg (by omega)]; split <;> omega
  clear hbits
  obtain ⟨W, hW⟩ : ∃ W, W = ((w.alloc (.cells #[.bool s.ln, .slice s.la s.lN s.lc, .bool s.hn, .slice s.ha s.hN s.hc, .int .i64 s.bits] 36)).alloc (.cells #[.bool t.ln, .slice t.la t.lN t.lc, .bool t.hn, .slice t.ha t.hN t.hc, .int .i64 t.bits] 36)).alloc (.cells #[.bool false, .slice none 0 0, .bool false, .slice none 0 0, .int .i64 0] 36) := ⟨_, rfl⟩
  have hBW : Below w.heap.size w W := by rw [hW]; exact bl3 _ _ _ _
  have A : SpC W w.heap.size s := by rw [hW]; exact ⟨by simp [go_sem], by simp [go_sem], by simp [go_sem], by simp [go_sem], by simp [go_sem]⟩
  have G : SpC W (w.heap.size + 1) t := by rw [hW]; exact ⟨by simp [go_sem], by simp [go_sem], by simp [go_sem], by simp [go_sem], by simp [go_sem]⟩
  have R : NoC W (w.heap.size + 1 + 1) := by rw [hW]; exact ⟨by simp [go_sem], by simp [go_sem], by simp [go_sem], by simp [go_sem], by simp [go_sem], fun o => by simp [go_sem]⟩
  replace hs := hide (hs.below hBW)
  replace ht := hide (ht.below hBW)
  go_enter Tryz.func91, Tryz.ntmps91
  go_wp2_with fail
  rw [← hW]
  clear hW
  refine (sign_int _ _ _ _ k hi' _ (unhide ht).hi).mono ?_
  rintro r w0 ⟨rfl, hb0⟩
  replace hBW := bthen hBW hb0
  replace A := A.below hb0
  replace G := G.below hb0
  replace R := R.below hb0
  replace hs := hide ((unhide hs).below hb0)
  replace ht := hide ((unhide ht).below hb0)
  clear hb0
  have lA := A.lt
  obtain ⟨x0, x1, x2, x3, x4⟩ := A
  have A : SpC w0 w.heap.size s := ⟨x0, x1, x2, x3, x4⟩
  go_wp2_with fail
  clear x0 x1 x2 x3 x4 lA
  rw [unhide HBT]
  refine (power2_int b _ (by omega)).mono ?_
  rintro r w1 ⟨neg1, a1, n1, c1, rfl, hint1, hb1⟩
  replace hBW := bthen hBW hb1
  replace A := A.below hb1
  replace G := G.below hb1
  replace R := R.below hb1
  replace hs := hide ((unhide hs).below hb1)
  replace ht := hide ((unhide ht).below hb1)
  clear hb1
  obtain ⟨W1, hW1⟩ : ∃ W', W' = w1.alloc (.cells #[.bool neg1, .slice a1 n1 c1] 26) := ⟨_, rfl⟩
  have hc1 : Below w1.heap.size w1 W1 := by rw [hW1]; exact bl1 _ _
  have X1 : NmC W1 w1.heap.size ⟨neg1, a1, n1, c1⟩ := by rw [hW1]; exact nmc_new w1 ⟨neg1, a1, n1, c1⟩ _
  replace hBW := bthen hBW hc1
  replace A := A.below hc1
  replace G := G.below hc1
  replace R := R.below hc1
  replace hs := hide ((unhide hs).below hc1)
  replace ht := hide ((unhide ht).below hc1)
  replace hint1 := hide (hint1.below hc1)
  have lA := A.lt
  have lX := X1.lt
  have lR1 := R.lt
  have hBW0 := hBW
  have HK := hide (show ∀ w', Below W1.heap.size W1 w' → (w'.cell? ⟨w.heap.size, 0, none⟩ = some (.bool s.ln) ∧ w'.cell? ⟨w.heap.size, 1, none⟩ = some (.slice s.la s.lN s.lc) ∧ w'.cell? ⟨w.heap.size, 2, none⟩ = some (.bool s.hn) ∧ w'.cell? ⟨w.heap.size, 3, none⟩ = some (.slice s.ha s.hN s.hc) ∧ w'.cell? ⟨w1.heap.size, 0, none⟩ = some (.bool neg1) ∧ w'.cell? ⟨w1.heap.size, 1, none⟩ = some (.slice a1 n1 c1)) from fun w' hB => ⟨(A.below hB).c0, (A.below hB).c1, (A.below hB).c2, (A.below hB).c3, (X1.below hB).c0, (X1.below hB).c1⟩)
  obtain ⟨x0, x1, x2, x3, z0, z1⟩ := unhide HK _ (Below.refl _ _)
  go_wp2_with fail
  rw [← hW1]
  clear hW1
  go_cut [6, 7] (fun p q wx => TwoV W1 wx (k + b / 16 + 5) (k + b / 16 + 5) (lo * Q b) (hi * Q b) p q)
  case first =>
    go_region_held3 (fun w' => w'.cell? ⟨w.heap.size, 0, none⟩ = some (.bool s.ln) ∧ w'.cell? ⟨w.heap.size, 1, none⟩ = some (.slice s.la s.lN s.lc) ∧ w'.cell? ⟨w.heap.size, 2, none⟩ = some (.bool s.hn) ∧ w'.cell? ⟨w.heap.size, 3, none⟩ = some (.slice s.ha s.hN s.hc) ∧ w'.cell? ⟨w1.heap.size, 0, none⟩ = some (.bool neg1) ∧ w'.cell? ⟨w1.heap.size, 1, none⟩ = some (.slice a1 n1 c1)) (exact unhide HK _ (by repeat' (first | with_reducible exact hBL2 | with_reducible exact hBL1 | with_reducible exact Below.refl _ _ | with_reducible refine Below.drew ?_ | with_reducible refine balloc ?_ _ | with_reducible refine Below.setCell ?_ (by first | with_reducible exact Nat.le_refl _ | with_reducible exact Nat.le_succ _ | with_reducible exact hlL1 | with_reducible exact Nat.le_succ_of_le hlL1 | with_reducible exact hlL2 | with_reducible exact Nat.le_succ_of_le hlL2) _)))
      (first
        | (go_at_call 66; have hq := hBL1; refine (mul_int _ _ _ _ _ _ _ _ k (b / 16 + 5) hi (Q b) _ ((unhide hs).hi.below (by repeat' (first | with_reducible exact hBL1 | with_reducible exact Below.refl _ _ | with_reducible refine Below.drew ?_ | with_reducible refine balloc ?_ _))) ((unhide hint1).below (by repeat' (first | with_reducible exact hBL1 | with_reducible exact Below.refl _ _ | with_reducible refine Below.drew ?_ | with_reducible refine balloc ?_ _))) (by omega) (by omega)).mono ?_; rintro r wL2 ⟨negL2, aL2, nL2, cL2, rfl, hintL2, hbL2⟩; have hCL2 : Below wL1.heap.size wL1 wL2 := (by first | with_reducible exact hbL2 | with_reducible exact bthen (bl1 _ _) hbL2 | with_reducible exact bthen (bl2 _ _ _) hbL2); have hBL2 := bthen hBL1 hCL2; (first | with_reducible have gaL2 := (noi_new wL1 26).below hbL2 | with_reducible have gaL2 := ((noi_new wL1 26).below (bl1 _ _)).below hbL2 | skip); (try with_reducible have gbL2 := (noi_new' (wL1.alloc _) (wL1.heap.size + 1) (hs1 _ _) 26).below hbL2); replace hintL1 := hintL1.below hCL2; (try have maL1 := gaL1.lt); (try have mbL1 := gbL1.lt); (try replace gaL1 := gaL1.below hCL2); (try replace gbL1 := gbL1.below hCL2); have hlL2 := hBL2.size; (try have eaL1 := gaL1); (try obtain ⟨zaL10, zaL11, zaL12⟩ := eaL1); (try have yaL1 := gaL1.lt); (try have ebL1 := gbL1); (try obtain ⟨zbL10, zbL11, zbL12⟩ := ebL1); (try have ybL1 := gbL1.lt); (try have eaL2 := gaL2); (try obtain ⟨zaL20, zaL21, zaL22⟩ := eaL2); (try have yaL2 := gaL2.lt); (try have ebL2 := gbL2); (try obtain ⟨zbL20, zbL21, zbL22⟩ := ebL2); (try have ybL2 := gbL2.lt))
        | (go_at_call 66; refine (mul_int _ _ _ _ _ _ _ _ k (b / 16 + 5) lo (Q b) _ ((unhide hs).lo.below (by repeat' (first | with_reducible exact Below.refl _ _ | with_reducible refine Below.drew ?_ | with_reducible refine balloc ?_ _))) ((unhide hint1).below (by repeat' (first | with_reducible exact Below.refl _ _ | with_reducible refine Below.drew ?_ | with_reducible refine balloc ?_ _))) (by omega) (by omega)).mono ?_; rintro r wL1 ⟨negL1, aL1, nL1, cL1, rfl, hintL1, hbL1⟩; have hBL1 : Below W1.heap.size W1 wL1 := (by first | with_reducible exact bthen (Below.refl _ _).drew hbL1 | with_reducible exact bthen (bl1 _ _).drew hbL1 | with_reducible exact bthen (bl2 _ _ _).drew hbL1); (first | with_reducible have gaL1 := ((noi_new W1 26).below (Below.refl _ _).drew).below hbL1 | with_reducible have gaL1 := ((noi_new W1 26).below (bl1 _ _).drew).below hbL1 | skip); (try with_reducible have gbL1 := ((noi_new' (W1.alloc _) (W1.heap.size + 1) (hs1 _ _) 26).below (Below.refl _ _).drew).below hbL1); have hlL1 := hBL1.size))
    all_goals
      go_wp2_with fail
      go_meet
      first
        | with_reducible exact two_aa (x := (Nm.mk negL1 aL1 nL1 cL1)) (y := (Nm.mk negL2 aL2 nL2 cL2)) hBL2 (IntAt.mono hintL1 (by omega)) (IntAt.mono hintL2 (by omega))
        | with_reducible exact two_aa' (x := (Nm.mk negL1 aL1 nL1 cL1)) (y := (Nm.mk negL2 aL2 nL2 cL2)) hBL2 (IntAt.mono hintL1 (by omega)) (IntAt.mono hintL2 (by omega))
        | with_reducible exact two_sa (x := (Nm.mk negL1 aL1 nL1 cL1)) (y := (Nm.mk negL2 aL2 nL2 cL2)) hBL2 (IntAt.mono hintL1 (by omega)) (IntAt.mono hintL2 (by omega)) (by assumption) (by first | with_reducible exact Nat.le_refl _ | with_reducible exact Nat.le_succ _ | with_reducible exact hlL1 | with_reducible exact Nat.le_succ_of_le hlL1 | with_reducible exact hlL2 | with_reducible exact Nat.le_succ_of_le hlL2)
        | with_reducible exact two_as (x := (Nm.mk negL1 aL1 nL1 cL1)) (y := (Nm.mk negL2 aL2 nL2 cL2)) hBL2 (IntAt.mono hintL1 (by omega)) (IntAt.mono hintL2 (by omega)) (by assumption) (by first | with_reducible exact Nat.le_refl _ | with_reducible exact Nat.le_succ _ | with_reducible exact hlL1 | with_reducible exact Nat.le_succ_of_le hlL1 | with_reducible exact hlL2 | with_reducible exact Nat.le_succ_of_le hlL2)
        | with_reducible exact two_ss (x := (Nm.mk negL1 aL1 nL1 cL1)) (y := (Nm.mk negL2 aL2 nL2 cL2)) hBL2 (IntAt.mono hintL1 (by omega)) (IntAt.mono hintL2 (by omega)) (by assumption) (by assumption) (by first | with_reducible exact Nat.le_refl _ | with_reducible exact Nat.le_succ _ | with_reducible exact hlL1 | with_reducible exact Nat.le_succ_of_le hlL1 | with_reducible exact hlL2 | with_reducible exact Nat.le_succ_of_le hlL2) (by first | with_reducible exact Nat.le_refl _ | with_reducible exact Nat.le_succ _ | with_reducible exact hlL1 | with_reducible exact Nat.le_succ_of_le hlL1 | with_reducible exact hlL2 | with_reducible exact Nat.le_succ_of_le hlL2) (by omega)
  case rest =>
  obtain ⟨⟨BL, xL, rfl, jL0, jL1, hintL, hHL, hltL⟩, ⟨CL, yL, rfl, jL2, jL3, hjntL, hJL, hjtL⟩, hneL, hfzL, hfyL, hblL⟩ := hcut
  have XL : NmC wc BL xL := ⟨jL0, jL1⟩
  have YL : NmC wc CL yL := ⟨jL2, jL3⟩
  replace hneL : BL ≠ CL := fun e9 => hneL (by rw [e9])
  replace hfzL : ∀ o, wc.frozen? ⟨BL, o, none⟩ = false := hfzL _ rfl
  replace hfyL : ∀ o, wc.frozen? ⟨CL, o, none⟩ = false := hfyL _ rfl
  replace hBW := bthen hBW hblL
  replace A := A.below hblL
  replace G := G.below hblL
  replace R := R.below hblL
  replace hs := hide ((unhide hs).below hblL)
  replace ht := hide ((unhide ht).below hblL)
  replace hintL := hide hintL
  replace hjntL := hide hjntL
  have nRL : w.heap.size + 1 + 1 ≠ BL := Nat.ne_of_lt (Nat.lt_of_lt_of_le lR1 hHL)
  clear x0 x1 x2 x3 z0 z1 HK lA lX X1 hint1 hblL hfzL hfyL hneL hc1
  obtain ⟨W2, hW2⟩ : ∃ W', W' = wc := ⟨_, rfl⟩
  subst hW2
  have HK := hide (show ∀ w', Below W2.heap.size W2 w' → (w'.cell? ⟨w.heap.size + 1, 0, none⟩ = some (.bool t.ln) ∧ w'.cell? ⟨w.heap.size + 1, 1, none⟩ = some (.slice t.la t.lN t.lc) ∧ w'.cell? ⟨w.heap.size + 1, 2, none⟩ = some (.bool t.hn) ∧ w'.cell? ⟨w.heap.size + 1, 3, none⟩ = some (.slice t.ha t.hN t.hc) ∧ w'.cell? ⟨BL, 0, none⟩ = some (.bool xL.neg) ∧ w'.cell? ⟨BL, 1, none⟩ = some (.slice xL.a xL.n xL.cap) ∧ w'.cell? ⟨CL, 0, none⟩ = some (.bool yL.neg) ∧ w'.cell? ⟨CL, 1, none⟩ = some (.slice yL.a yL.n yL.cap)) from fun w' hB => ⟨(G.below hB).c0, (G.below hB).c1, (G.below hB).c2, (G.below hB).c3, (XL.below hB).c0, (XL.below hB).c1, (YL.below hB).c0, (YL.below hB).c1⟩)
  have lG := G.lt
  have lX := XL.lt
  have lY := YL.lt
  have lR2 := R.lt
  obtain ⟨x0, x1, x2, x3, z0, z1, z2, z3⟩ := unhide HK _ (Below.refl _ _)
  go_wp2_with fail
  go_cut [8, 9] (fun p q wx => TwoV W2 wx (k + b / 16 + 14) (k + b / 16 + 14) (lo * Q b / hi') (-(-(hi * Q b) / lo')) p q)
  case first =>
    go_region_held3 (fun w' => w'.cell? ⟨w.heap.size + 1, 0, none⟩ = some (.bool t.ln) ∧ w'.cell? ⟨w.heap.size + 1, 1, none⟩ = some (.slice t.la t.lN t.lc) ∧ w'.cell? ⟨w.heap.size + 1, 2, none⟩ = some (.bool t.hn) ∧ w'.cell? ⟨w.heap.size + 1, 3, none⟩ = some (.slice t.ha t.hN t.hc) ∧ w'.cell? ⟨BL, 0, none⟩ = some (.bool xL.neg) ∧ w'.cell? ⟨BL, 1, none⟩ = some (.slice xL.a xL.n xL.cap) ∧ w'.cell? ⟨CL, 0, none⟩ = some (.bool yL.neg) ∧ w'.cell? ⟨CL, 1, none⟩ = some (.slice yL.a yL.n yL.cap)) (exact unhide HK _ (by repeat' (first | with_reducible exact hBM2 | with_reducible exact hBM1 | with_reducible exact Below.refl _ _ | with_reducible refine Below.drew ?_ | with_reducible refine balloc ?_ _ | with_reducible refine Below.setCell ?_ (by first | with_reducible exact Nat.le_refl _ | with_reducible exact Nat.le_succ _ | with_reducible exact hlM1 | with_reducible exact Nat.le_succ_of_le hlM1 | with_reducible exact hlM2 | with_reducible exact Nat.le_succ_of_le hlM2) _)))
      (first
        | (go_at_call 109; have hq := hBM1; refine (refUp_any _ _ _ _ _ _ _ _ (k + b / 16 + 5) k (hi * Q b) lo' _ ((unhide hjntL).below (by repeat' (first | with_reducible exact hBM1 | with_reducible exact Below.refl _ _ | with_reducible refine Below.drew ?_ | with_reducible refine balloc ?_ _))) ((unhide ht).lo.below (by repeat' (first | with_reducible exact hBM1 | with_reducible exact Below.refl _ _ | with_reducible refine Below.drew ?_ | with_reducible refine balloc ?_ _))) (by omega) (by omega) (by omega)).mono ?_; rintro r wM2 ⟨negM2, aM2, nM2, cM2, rfl, hintM2, hbM2⟩; have hCM2 : Below wM1.heap.size wM1 wM2 := (by first | with_reducible exact hbM2 | with_reducible exact bthen (bl1 _ _) hbM2 | with_reducible exact bthen (bl2 _ _ _) hbM2); have hBM2 := bthen hBM1 hCM2; (first | with_reducible have gaM2 := (noi_new wM1 26).below hbM2 | with_reducible have gaM2 := ((noi_new wM1 26).below (bl1 _ _)).below hbM2 | skip); (try with_reducible have gbM2 := (noi_new' (wM1.alloc _) (wM1.heap.size + 1) (hs1 _ _) 26).below hbM2); replace hintM1 := hintM1.below hCM2; (try have maM1 := gaM1.lt); (try have mbM1 := gbM1.lt); (try replace gaM1 := gaM1.below hCM2); (try replace gbM1 := gbM1.below hCM2); have hlM2 := hBM2.size; (try have eaM1 := gaM1); (try obtain ⟨zaM10, zaM11, zaM12⟩ := eaM1); (try have yaM1 := gaM1.lt); (try have ebM1 := gbM1); (try obtain ⟨zbM10, zbM11, zbM12⟩ := ebM1); (try have ybM1 := gbM1.lt); (try have eaM2 := gaM2); (try obtain ⟨zaM20, zaM21, zaM22⟩ := eaM2); (try have yaM2 := gaM2.lt); (try have ebM2 := gbM2); (try obtain ⟨zbM20, zbM21, zbM22⟩ := ebM2); (try have ybM2 := gbM2.lt))
        | (go_at_call 108; refine (refDown_any _ _ _ _ _ _ _ _ (k + b / 16 + 5) k (lo * Q b) hi' _ ((unhide hintL).below (by repeat' (first | with_reducible exact Below.refl _ _ | with_reducible refine Below.drew ?_ | with_reducible refine balloc ?_ _))) ((unhide ht).hi.below (by repeat' (first | with_reducible exact Below.refl _ _ | with_reducible refine Below.drew ?_ | with_reducible refine balloc ?_ _))) (by omega) (by omega) (by omega)).mono ?_; rintro r wM1 ⟨negM1, aM1, nM1, cM1, rfl, hintM1, hbM1⟩; have hBM1 : Below W2.heap.size W2 wM1 := (by first | with_reducible exact bthen (Below.refl _ _).drew hbM1 | with_reducible exact bthen (bl1 _ _).drew hbM1 | with_reducible exact bthen (bl2 _ _ _).drew hbM1); (first | with_reducible have gaM1 := ((noi_new W2 26).below (Below.refl _ _).drew).below hbM1 | with_reducible have gaM1 := ((noi_new W2 26).below (bl1 _ _).drew).below hbM1 | skip); (try with_reducible have gbM1 := ((noi_new' (W2.alloc _) (W2.heap.size + 1) (hs1 _ _) 26).below (Below.refl _ _).drew).below hbM1); have hlM1 := hBM1.size))
    all_goals
      go_wp2_with fail
      go_meet
      first
        | with_reducible exact two_aa (x := (Nm.mk negM1 aM1 nM1 cM1)) (y := (Nm.mk negM2 aM2 nM2 cM2)) hBM2 (IntAt.mono hintM1 (by omega)) (IntAt.mono hintM2 (by omega))
        | with_reducible exact two_aa' (x := (Nm.mk negM1 aM1 nM1 cM1)) (y := (Nm.mk negM2 aM2 nM2 cM2)) hBM2 (IntAt.mono hintM1 (by omega)) (IntAt.mono hintM2 (by omega))
        | with_reducible exact two_sa (x := (Nm.mk negM1 aM1 nM1 cM1)) (y := (Nm.mk negM2 aM2 nM2 cM2)) hBM2 (IntAt.mono hintM1 (by omega)) (IntAt.mono hintM2 (by omega)) (by assumption) (by first | with_reducible exact Nat.le_refl _ | with_reducible exact Nat.le_succ _ | with_reducible exact hlM1 | with_reducible exact Nat.le_succ_of_le hlM1 | with_reducible exact hlM2 | with_reducible exact Nat.le_succ_of_le hlM2)
        | with_reducible exact two_as (x := (Nm.mk negM1 aM1 nM1 cM1)) (y := (Nm.mk negM2 aM2 nM2 cM2)) hBM2 (IntAt.mono hintM1 (by omega)) (IntAt.mono hintM2 (by omega)) (by assumption) (by first | with_reducible exact Nat.le_refl _ | with_reducible exact Nat.le_succ _ | with_reducible exact hlM1 | with_reducible exact Nat.le_succ_of_le hlM1 | with_reducible exact hlM2 | with_reducible exact Nat.le_succ_of_le hlM2)
        | with_reducible exact two_ss (x := (Nm.mk negM1 aM1 nM1 cM1)) (y := (Nm.mk negM2 aM2 nM2 cM2)) hBM2 (IntAt.mono hintM1 (by omega)) (IntAt.mono hintM2 (by omega)) (by assumption) (by assumption) (by first | with_reducible exact Nat.le_refl _ | with_reducible exact Nat.le_succ _ | with_reducible exact hlM1 | with_reducible exact Nat.le_succ_of_le hlM1 | with_reducible exact hlM2 | with_reducible exact Nat.le_succ_of_le hlM2) (by first | with_reducible exact Nat.le_refl _ | with_reducible exact Nat.le_succ _ | with_reducible exact hlM1 | with_reducible exact Nat.le_succ_of_le hlM1 | with_reducible exact hlM2 | with_reducible exact Nat.le_succ_of_le hlM2) (by omega)
  case rest =>
  obtain ⟨⟨BM, xM, rfl, jM0, jM1, hintM, hHM, hltM⟩, ⟨CM, yM, rfl, jM2, jM3, hjntM, hJM, hjtM⟩, hneM, hfzM, hfyM, hblM⟩ := hcut
  have XM : NmC wc BM xM := ⟨jM0, jM1⟩
  have YM : NmC wc CM yM := ⟨jM2, jM3⟩
  replace hneM : BM ≠ CM := fun e9 => hneM (by rw [e9])
  replace hfzM : ∀ o, wc.frozen? ⟨BM, o, none⟩ = false := hfzM _ rfl
  replace hfyM : ∀ o, wc.frozen? ⟨CM, o, none⟩ = false := hfyM _ rfl
  replace hBW := bthen hBW hblM
  replace A := A.below hblM
  replace G := G.below hblM
  replace R := R.below hblM
  replace XL := XL.below hblM
  replace YL := YL.below hblM
  replace ht := (unhide ht).below hblM
  replace hintL := (unhide hintL).below hblM
  replace hjntL := (unhide hjntL).below hblM
  have D : OVs w wc s t k (k + b / 16 + 5) (k + b / 16 + 14) BL CL BM CM xL yL xM yM lo' hi' (lo * Q b) (hi * Q b) (lo * Q b / hi') (-(-(hi * Q b) / lo')) := ⟨A, G, R, XL, YL, XM, YM, hintL, hjntL, hintM, hjntM, ht, hfzM, hfyM, hBW⟩
  have E : OVd w BL CL BM CM := by
    have a1 := hBW0.size
    exact ⟨by omega, by omega, by omega, by omega, by omega, by omega, by omega, by omega, by omega, by omega, by omega, by omega⟩
  clear x0 x1 x2 x3 z0 z1 z2 z3 HK lG lX lY hblM hs A G R XL YL XM YM hintL hjntL hintM hjntM ht hfzM hfyM hBW jM0 jM1 jM2 jM3 jL0 jL1 jL2 jL3 lR2 lR1 hltL hjtL hltM hjtM nRL hneM hHL hJL hHM hJM hBW0
  have lL := D.XL.lt
  have lC := D.YL.lt
  have lM := D.XM.lt
  have lN := D.YM.lt
  have lG := D.G.lt
  have lA := D.A.lt
  obtain ⟨i0, i1⟩ := D.XL
  obtain ⟨i2, i3⟩ := D.YL
  obtain ⟨i4, i5⟩ := D.XM
  obtain ⟨i6, i7⟩ := D.YM
  obtain ⟨y0, y1, y2, y3, y4⟩ := D.G
  obtain ⟨e0, e1, e2, e3, e4⟩ := D.A
  have fM := D.fM
  have fN := D.fN
  go_wp2_with fail
  refine (sign_int _ _ _ _ (k + b / 16 + 5) (lo * Q b) _ D.il).mono ?_
  rintro r w3 ⟨rfl, hb3⟩
  replace D := D.below hb3
  clear hb3 i0 i1 i2 i3 i4 i5 i6 i7 y0 y1 y2 y3 y4 e0 e1 e2 e3 e4 fM fN lL lC lM lN lG lA
  by_cases c1 : lo * Q b < 0
  · have t2 : cmpInt (lo * Q b) 0 < 0 := by unfold cmpInt; rw [if_pos c1]; omega
    have HO1 := hide (show ovLo (lo * Q b) (hi * Q b) lo' hi' = lo * Q b / lo' by unfold ovLo; rw [if_pos c1])
    clear c1
    have lL := D.XL.lt
    have lC := D.YL.lt
    have lM := D.XM.lt
    have lN := D.YM.lt
    have lG := D.G.lt
    have lA := D.A.lt
    obtain ⟨i0, i1⟩ := D.XL
    obtain ⟨i2, i3⟩ := D.YL
    obtain ⟨i4, i5⟩ := D.XM
    obtain ⟨i6, i7⟩ := D.YM
    obtain ⟨y0, y1, y2, y3, y4⟩ := D.G
    obtain ⟨e0, e1, e2, e3, e4⟩ := D.A
    have fM := D.fM
    have fN := D.fN
    go_wp2_with fail
    refine (refDown_any _ _ _ _ _ _ _ _ (k + b / 16 + 5) k (lo * Q b) lo' _ D.il D.ht.lo (by omega) (by omega) (by omega)).mono ?_
    rintro r w4 ⟨neg4, a4, n4, c4, rfl, hint4, hb4⟩
    replace D := D.below hb4
    clear hb4 i0 i1 i2 i3 i4 i5 i6 i7 y0 y1 y2 y3 y4 e0 e1 e2 e3 e4 fM fN lL lC lM lN lG lA
    have lL := D.XL.lt
    have lC := D.YL.lt
    have lM := D.XM.lt
    have lN := D.YM.lt
    have lG := D.G.lt
    have lA := D.A.lt
    obtain ⟨i0, i1⟩ := D.XL
    obtain ⟨i2, i3⟩ := D.YL
    obtain ⟨i4, i5⟩ := D.XM
    obtain ⟨i6, i7⟩ := D.YM
    obtain ⟨y0, y1, y2, y3, y4⟩ := D.G
    obtain ⟨e0, e1, e2, e3, e4⟩ := D.A
    have fM := D.fM
    have fN := D.fN
    have D2 := D.setM E ⟨neg4, a4, n4, c4⟩ (hint4.mono (by omega))
    obtain ⟨V4, hV4⟩ : ∃ V', V' = (w4.setCell ⟨BM, 0, none⟩ (.bool neg4)).setCell ⟨BM, 1, none⟩ (.slice a4 n4 c4) := ⟨_, rfl⟩
    rw [← hV4] at D2
    go_upto_region 8 with fail
    rw [← hV4]
    clear hV4 D i0 i1 i2 i3 i4 i5 i6 i7 y0 y1 y2 y3 y4 e0 e1 e2 e3 e4 fM fN lL lC lM lN lG lA
    have D := D2
    clear D2
    have lL := D.XL.lt
    have lC := D.YL.lt
    have lM := D.XM.lt
    have lN := D.YM.lt
    have lG := D.G.lt
    have lA := D.A.lt
    obtain ⟨i0, i1⟩ := D.XL
    obtain ⟨i2, i3⟩ := D.YL
    obtain ⟨i4, i5⟩ := D.XM
    obtain ⟨i6, i7⟩ := D.YM
    obtain ⟨y0, y1, y2, y3, y4⟩ := D.G
    obtain ⟨e0, e1, e2, e3, e4⟩ := D.A
    have fM := D.fM
    have fN := D.fN
    go_wp2_with fail
    refine (sign_int _ _ _ _ (k + b / 16 + 5) (hi * Q b) _ D.ih).mono ?_
    rintro r w5 ⟨rfl, hb5⟩
    replace D := D.below hb5
    clear hb5 i0 i1 i2 i3 i4 i5 i6 i7 y0 y1 y2 y3 y4 e0 e1 e2 e3 e4 fM fN lL lC lM lN lG lA
    by_cases c2 : hi * Q b < 0
    · have t3 : cmpInt (hi * Q b) 0 < 0 := by unfold cmpInt; rw [if_pos c2]; omega
      have HO2 := hide (show ovHi (lo * Q b) (hi * Q b) lo' hi' = -(-(hi * Q b) / hi') by unfold ovHi; rw [if_pos c2])
      clear c2
      have lL := D.XL.lt
      have lC := D.YL.lt
      have lM := D.XM.lt
      have lN := D.YM.lt
      have lG := D.G.lt
      have lA := D.A.lt
      obtain ⟨i0, i1⟩ := D.XL
      obtain ⟨i2, i3⟩ := D.YL
      obtain ⟨i4, i5⟩ := D.XM
      obtain ⟨i6, i7⟩ := D.YM
      obtain ⟨y0, y1, y2, y3, y4⟩ := D.G
      obtain ⟨e0, e1, e2, e3, e4⟩ := D.A
      have fM := D.fM
      have fN := D.fN
      go_wp2_with fail
      refine (refUp_any _ _ _ _ _ _ _ _ (k + b / 16 + 5) k (hi * Q b) hi' _ D.ih D.ht.hi (by omega) (by omega) (by omega)).mono ?_
      rintro r w6 ⟨neg6, a6, n6, c6, rfl, hint6, hb6⟩
      replace D := D.below hb6
      clear hb6 i0 i1 i2 i3 i4 i5 i6 i7 y0 y1 y2 y3 y4 e0 e1 e2 e3 e4 fM fN lL lC lM lN lG lA
      have lL := D.XL.lt
      have lC := D.YL.lt
      have lM := D.XM.lt
      have lN := D.YM.lt
      have lG := D.G.lt
      have lA := D.A.lt
      obtain ⟨i0, i1⟩ := D.XL
      obtain ⟨i2, i3⟩ := D.YL
      obtain ⟨i4, i5⟩ := D.XM
      obtain ⟨i6, i7⟩ := D.YM
      obtain ⟨y0, y1, y2, y3, y4⟩ := D.G
      obtain ⟨e0, e1, e2, e3, e4⟩ := D.A
      have fM := D.fM
      have fN := D.fN
      have D2 := D.setN E ⟨neg6, a6, n6, c6⟩ (hint6.mono (by omega))
      obtain ⟨V6, hV6⟩ : ∃ V', V' = (w6.setCell ⟨CM, 0, none⟩ (.bool neg6)).setCell ⟨CM, 1, none⟩ (.slice a6 n6 c6) := ⟨_, rfl⟩
      rw [← hV6] at D2
      go_upto_region 10 with fail
      rw [← hV6]
      clear hV6 D i0 i1 i2 i3 i4 i5 i6 i7 y0 y1 y2 y3 y4 e0 e1 e2 e3 e4 fM fN lL lC lM lN lG lA
      have D := D2
      have lL := D.XL.lt
      have lC := D.YL.lt
      have lM := D.XM.lt
      have lN := D.YM.lt
      have lG := D.G.lt
      have lA := D.A.lt
      obtain ⟨i0, i1⟩ := D.XL
      obtain ⟨i2, i3⟩ := D.YL
      obtain ⟨i4, i5⟩ := D.XM
      obtain ⟨i6, i7⟩ := D.YM
      obtain ⟨y0, y1, y2, y3, y4⟩ := D.G
      obtain ⟨e0, e1, e2, e3, e4⟩ := D.A
      have fM := D.fM
      have fN := D.fN
      have hR := D.R
      have lR := hR.lt
      obtain ⟨q0, q1, q2, q3, q4, q5⟩ := hR
      go_wp2_with fail
      refine bodyPost_ret (v := .agg #[.bool (Nm.mk neg4 a4 n4 c4).neg, .slice (Nm.mk neg4 a4 n4 c4).a (Nm.mk neg4 a4 n4 c4).n (Nm.mk neg4 a4 n4 c4).cap, .bool (Nm.mk neg6 a6 n6 c6).neg, .slice (Nm.mk neg6 a6 n6 c6).a (Nm.mk neg6 a6 n6 c6).n (Nm.mk neg6 a6 n6 c6).cap, .int .i64 s.bits]) (by simp [results, Tryz.results91, go_sem, lR, q0, q1, q2, q3, q4]) rfl ⟨⟨(Nm.mk neg4 a4 n4 c4).neg, (Nm.mk neg4 a4 n4 c4).a, (Nm.mk neg4 a4 n4 c4).n, (Nm.mk neg4 a4 n4 c4).cap, (Nm.mk neg6 a6 n6 c6).neg, (Nm.mk neg6 a6 n6 c6).a, (Nm.mk neg6 a6 n6 c6).n, (Nm.mk neg6 a6 n6 c6).cap, s.bits⟩, rfl, unhide HBT, ?_, ?_⟩
      · rw [unhide HO1, unhide HO2]; exact SpAt.put5 ⟨D.im.mono (by omega), D.jn.mono (by omega)⟩ q0 q1 q2 q3 q4 _ _ _ _ _
      · exact set5 D.hB (by omega) _ _ _ _ _
    · have t3 : ¬ cmpInt (hi * Q b) 0 < 0 := by unfold cmpInt; rw [if_neg c2]; split <;> omega
      have HO2 := hide (show ovHi (lo * Q b) (hi * Q b) lo' hi' = -(-(hi * Q b) / lo') by unfold ovHi; rw [if_neg c2])
      clear c2
      have lL := D.XL.lt
      have lC := D.YL.lt
      have lM := D.XM.lt
      have lN := D.YM.lt
      have lG := D.G.lt
      have lA := D.A.lt
      obtain ⟨i0, i1⟩ := D.XL
      obtain ⟨i2, i3⟩ := D.YL
      obtain ⟨i4, i5⟩ := D.XM
      obtain ⟨i6, i7⟩ := D.YM
      obtain ⟨y0, y1, y2, y3, y4⟩ := D.G
      obtain ⟨e0, e1, e2, e3, e4⟩ := D.A
      have fM := D.fM
      have fN := D.fN
      have hR := D.R
      have lR := hR.lt
      obtain ⟨q0, q1, q2, q3, q4, q5⟩ := hR
      go_wp2_with fail
      refine bodyPost_ret (v := .agg #[.bool (Nm.mk neg4 a4 n4 c4).neg, .slice (Nm.mk neg4 a4 n4 c4).a (Nm.mk neg4 a4 n4 c4).n (Nm.mk neg4 a4 n4 c4).cap, .bool yM.neg, .slice yM.a yM.n yM.cap, .int .i64 s.bits]) (by simp [results, Tryz.results91, go_sem, lR, q0, q1, q2, q3, q4]) rfl ⟨⟨(Nm.mk neg4 a4 n4 c4).neg, (Nm.mk neg4 a4 n4 c4).a, (Nm.mk neg4 a4 n4 c4).n, (Nm.mk neg4 a4 n4 c4).cap, yM.neg, yM.a, yM.n, yM.cap, s.bits⟩, rfl, unhide HBT, ?_, ?_⟩
      · rw [unhide HO1, unhide HO2]; exact SpAt.put5 ⟨D.im.mono (by omega), D.jn.mono (by omega)⟩ q0 q1 q2 q3 q4 _ _ _ _ _
      · exact set5 D.hB (by omega) _ _ _ _ _
  · have t2 : ¬ cmpInt (lo * Q b) 0 < 0 := by unfold cmpInt; rw [if_neg c1]; split <;> omega
    have HO1 := hide (show ovLo (lo * Q b) (hi * Q b) lo' hi' = lo * Q b / hi' by unfold ovLo; rw [if_neg c1])
    clear c1
    have lL := D.XL.lt
    have lC := D.YL.lt
    have lM := D.XM.lt
    have lN := D.YM.lt
    have lG := D.G.lt
    have lA := D.A.lt
    obtain ⟨i0, i1⟩ := D.XL
    obtain ⟨i2, i3⟩ := D.YL
    obtain ⟨i4, i5⟩ := D.XM
    obtain ⟨i6, i7⟩ := D.YM
    obtain ⟨y0, y1, y2, y3, y4⟩ := D.G
    obtain ⟨e0, e1, e2, e3, e4⟩ := D.A
    have fM := D.fM
    have fN := D.fN
    go_wp2_with fail
    refine (sign_int _ _ _ _ (k + b / 16 + 5) (hi * Q b) _ D.ih).mono ?_
    rintro r w5 ⟨rfl, hb5⟩
    replace D := D.below hb5
    clear hb5 i0 i1 i2 i3 i4 i5 i6 i7 y0 y1 y2 y3 y4 e0 e1 e2 e3 e4 fM fN lL lC lM lN lG lA
    by_cases c2 : hi * Q b < 0
    · have t3 : cmpInt (hi * Q b) 0 < 0 := by unfold cmpInt; rw [if_pos c2]; omega
      have HO2 := hide (show ovHi (lo * Q b) (hi * Q b) lo' hi' = -(-(hi * Q b) / hi') by unfold ovHi; rw [if_pos c2])
      clear c2
      have lL := D.XL.lt
      have lC := D.YL.lt
      have lM := D.XM.lt
      have lN := D.YM.lt
      have lG := D.G.lt
      have lA := D.A.lt
      obtain ⟨i0, i1⟩ := D.XL
      obtain ⟨i2, i3⟩ := D.YL
      obtain ⟨i4, i5⟩ := D.XM
      obtain ⟨i6, i7⟩ := D.YM
      obtain ⟨y0, y1, y2, y3, y4⟩ := D.G
      obtain ⟨e0, e1, e2, e3, e4⟩ := D.A
      have fM := D.fM
      have fN := D.fN
      go_wp2_with fail
      refine (refUp_any _ _ _ _ _ _ _ _ (k + b / 16 + 5) k (hi * Q b) hi' _ D.ih D.ht.hi (by omega) (by omega) (by omega)).mono ?_
      rintro r w6 ⟨neg6, a6, n6, c6, rfl, hint6, hb6⟩
      replace D := D.below hb6
      clear hb6 i0 i1 i2 i3 i4 i5 i6 i7 y0 y1 y2 y3 y4 e0 e1 e2 e3 e4 fM fN lL lC lM lN lG lA
      have lL := D.XL.lt
      have lC := D.YL.lt
      have lM := D.XM.lt
      have lN := D.YM.lt
      have lG := D.G.lt
      have lA := D.A.lt
      obtain ⟨i0, i1⟩ := D.XL
      obtain ⟨i2, i3⟩ := D.YL
      obtain ⟨i4, i5⟩ := D.XM
      obtain ⟨i6, i7⟩ := D.YM
      obtain ⟨y0, y1, y2, y3, y4⟩ := D.G
      obtain ⟨e0, e1, e2, e3, e4⟩ := D.A
      have fM := D.fM
      have fN := D.fN
      have D2 := D.setN E ⟨neg6, a6, n6, c6⟩ (hint6.mono (by omega))
      obtain ⟨V6, hV6⟩ : ∃ V', V' = (w6.setCell ⟨CM, 0, none⟩ (.bool neg6)).setCell ⟨CM, 1, none⟩ (.slice a6 n6 c6) := ⟨_, rfl⟩
      rw [← hV6] at D2
      go_upto_region 10 with fail
      rw [← hV6]
      clear hV6 D i0 i1 i2 i3 i4 i5 i6 i7 y0 y1 y2 y3 y4 e0 e1 e2 e3 e4 fM fN lL lC lM lN lG lA
      have D := D2
      have lL := D.XL.lt
      have lC := D.YL.lt
      have lM := D.XM.lt
      have lN := D.YM.lt
      have lG := D.G.lt
      have lA := D.A.lt
      obtain ⟨i0, i1⟩ := D.XL
      obtain ⟨i2, i3⟩ := D.YL
      obtain ⟨i4, i5⟩ := D.XM
      obtain ⟨i6, i7⟩ := D.YM
      obtain ⟨y0, y1, y2, y3, y4⟩ := D.G
      obtain ⟨e0, e1, e2, e3, e4⟩ := D.A
      have fM := D.fM
      have fN := D.fN
      have hR := D.R
      have lR := hR.lt
      obtain ⟨q0, q1, q2, q3, q4, q5⟩ := hR
      go_wp2_with fail
      refine bodyPost_ret (v := .agg #[.bool xM.neg, .slice xM.a xM.n xM.cap, .bool (Nm.mk neg6 a6 n6 c6).neg, .slice (Nm.mk neg6 a6 n6 c6).a (Nm.mk neg6 a6 n6 c6).n (Nm.mk neg6 a6 n6 c6).cap, .int .i64 s.bits]) (by simp [results, Tryz.results91, go_sem, lR, q0, q1, q2, q3, q4]) rfl ⟨⟨xM.neg, xM.a, xM.n, xM.cap, (Nm.mk neg6 a6 n6 c6).neg, (Nm.mk neg6 a6 n6 c6).a, (Nm.mk neg6 a6 n6 c6).n, (Nm.mk neg6 a6 n6 c6).cap, s.bits⟩, rfl, unhide HBT, ?_, ?_⟩
      · rw [unhide HO1, unhide HO2]; exact SpAt.put5 ⟨D.im.mono (by omega), D.jn.mono (by omega)⟩ q0 q1 q2 q3 q4 _ _ _ _ _
      · exact set5 D.hB (by omega) _ _ _ _ _
    · have t3 : ¬ cmpInt (hi * Q b) 0 < 0 := by unfold cmpInt; rw [if_neg c2]; split <;> omega
      have HO2 := hide (show ovHi (lo * Q b) (hi * Q b) lo' hi' = -(-(hi * Q b) / lo') by unfold ovHi; rw [if_neg c2])
      clear c2
      have lL := D.XL.lt
      have lC := D.YL.lt
      have lM := D.XM.lt
      have lN := D.YM.lt
      have lG := D.G.lt
      have lA := D.A.lt
      obtain ⟨i0, i1⟩ := D.XL
      obtain ⟨i2, i3⟩ := D.YL
      obtain ⟨i4, i5⟩ := D.XM
      obtain ⟨i6, i7⟩ := D.YM
      obtain ⟨y0, y1, y2, y3, y4⟩ := D.G
      obtain ⟨e0, e1, e2, e3, e4⟩ := D.A
      have fM := D.fM
      have fN := D.fN
      have hR := D.R
      have lR := hR.lt
      obtain ⟨q0, q1, q2, q3, q4, q5⟩ := hR
      go_wp2_with fail
      refine bodyPost_ret (v := .agg #[.bool xM.neg, .slice xM.a xM.n xM.cap, .bool yM.neg, .slice yM.a yM.n yM.cap, .int .i64 s.bits]) (by simp [results, Tryz.results91, go_sem, lR, q0, q1, q2, q3, q4]) rfl ⟨⟨xM.neg, xM.a, xM.n, xM.cap, yM.neg, yM.a, yM.n, yM.cap, s.bits⟩, rfl, unhide HBT, ?_, ?_⟩
      · rw [unhide HO1, unhide HO2]; exact SpAt.put5 ⟨D.im.mono (by omega), D.jn.mono (by omega)⟩ q0 q1 q2 q3 q4 _ _ _ _ _
      · exact set5 D.hB (by omega) _ _ _ _ _
end Go.Proofs.YtgmnknmjainababGreat

namespace Go.Proofs.YtgmnknmjainababGreat
set_option linter.unusedVariables false
set_option linter.unusedSimpArgs false
set_option linter.unnecessarySimpa false
open Go.RowKit
attribute [local go_sem ↓] Go.wp_at_zero Go.wp_at_succ

set_option maxRecDepth 100000 in
set_option maxHeartbeats 4000000 in
theorem refOver_neg (w : World) (s t : Sp) (k b : Nat) (lo hi lo' hi' : Int) (hs : SpAt w s k lo hi) (ht : SpAt w t k lo' hi') (hk : k ≤ 50000000) (hb : b ≤ 1000000) (hbits : s.bits = b) (hp : hi' < 0) (hp2 : lo' ≤ hi') :
    Calls Tryz.prog 91 #[.agg #[.bool s.ln, .slice s.la s.lN s.lc, .bool s.hn, .slice s.ha s.hN s.hc, .int .i64 s.bits], .agg #[.bool t.ln, .slice t.la t.lN t.lc, .bool t.hn, .slice t.ha t.hN t.hc, .int .i64 t.bits]] w (SpanAns w b (k + b / 16 + 20) (ovLo (-hi * Q b) (-lo * Q b) (-hi') (-lo')) (ovHi (-hi * Q b) (-lo * Q b) (-hi') (-lo'))) := by
  have HBT := hide hbits
  have t1 : cmpInt hi' 0 < 0 := by unfold cmpInt; rw [if_pos (by omega)]; omega
  clear hbits
  obtain ⟨W, hW⟩ : ∃ W, W = ((w.alloc (.cells #[.bool s.ln, .slice s.la s.lN s.lc, .bool s.hn, .slice s.ha s.hN s.hc, .int .i64 s.bits] 36)).alloc (.cells #[.bool t.ln, .slice t.la t.lN t.lc, .bool t.hn, .slice t.ha t.hN t.hc, .int .i64 t.bits] 36)).alloc (.cells #[.bool false, .slice none 0 0, .bool false, .slice none 0 0, .int .i64 0] 36) := ⟨_, rfl⟩
  have hBW : Below w.heap.size w W := by rw [hW]; exact bl3 _ _ _ _
  have A : SpC W w.heap.size s := by rw [hW]; exact ⟨by simp [go_sem], by simp [go_sem], by simp [go_sem], by simp [go_sem], by simp [go_sem]⟩
  have G : SpC W (w.heap.size + 1) t := by rw [hW]; exact ⟨by simp [go_sem], by simp [go_sem], by simp [go_sem], by simp [go_sem], by simp [go_sem]⟩
  have R : NoC W (w.heap.size + 1 + 1) := by rw [hW]; exact ⟨by simp [go_sem], by simp [go_sem], by simp [go_sem], by simp [go_sem], by simp [go_sem], fun o => by simp [go_sem]⟩
  replace hs := hide (hs.below hBW)
  replace ht := hide (ht.below hBW)
  go_enter Tryz.func91, Tryz.ntmps91
  go_wp2_with fail
  rw [← hW]
  clear hW
  refine (sign_int _ _ _ _ k hi' _ (unhide ht).hi).mono ?_
  rintro r w0 ⟨rfl, hb0⟩
  replace hBW := bthen hBW hb0
  replace A := A.below hb0
  replace G := G.below hb0
  replace R := R.below hb0
  replace hs := hide ((unhide hs).below hb0)
  replace ht := hide ((unhide ht).below hb0)
  clear hb0
  have lA := A.lt
  have lG := G.lt
  have hsl := hide (unhide hs).lo
  have hsh := hide (unhide hs).hi
  have htl := hide (unhide ht).lo
  have hth := hide (unhide ht).hi
  have nq1 : w.heap.size ≠ w.heap.size + 1 + 1 := by omega
  have nq2 : w.heap.size + 1 ≠ w.heap.size + 1 + 1 := by omega
  have HK := hide (show ∀ w', Below w0.heap.size w0 w' → (w'.cell? ⟨w.heap.size, 0, none⟩ = some (.bool s.ln) ∧ w'.cell? ⟨w.heap.size, 1, none⟩ = some (.slice s.la s.lN s.lc) ∧ w'.cell? ⟨w.heap.size, 2, none⟩ = some (.bool s.hn) ∧ w'.cell? ⟨w.heap.size, 3, none⟩ = some (.slice s.ha s.hN s.hc) ∧ w'.cell? ⟨w.heap.size, 4, none⟩ = some (.int .i64 s.bits) ∧ w'.cell? ⟨w.heap.size + 1, 0, none⟩ = some (.bool t.ln) ∧ w'.cell? ⟨w.heap.size + 1, 1, none⟩ = some (.slice t.la t.lN t.lc) ∧ w'.cell? ⟨w.heap.size + 1, 2, none⟩ = some (.bool t.hn) ∧ w'.cell? ⟨w.heap.size + 1, 3, none⟩ = some (.slice t.ha t.hN t.hc) ∧ w'.cell? ⟨w.heap.size + 1, 4, none⟩ = some (.int .i64 t.bits)) from fun w' hB => ⟨(A.below hB).c0, (A.below hB).c1, (A.below hB).c2, (A.below hB).c3, (A.below hB).c4, (G.below hB).c0, (G.below hB).c1, (G.below hB).c2, (G.below hB).c3, (G.below hB).c4⟩)
  obtain ⟨x0, x1, x2, x3, x4, y0, y1, y2, y3, y4⟩ := unhide HK _ (Below.refl _ _)
  go_wp2_with fail
  go_region_held3 (fun w' => w'.cell? ⟨w.heap.size, 0, none⟩ = some (.bool s.ln) ∧ w'.cell? ⟨w.heap.size, 1, none⟩ = some (.slice s.la s.lN s.lc) ∧ w'.cell? ⟨w.heap.size, 2, none⟩ = some (.bool s.hn) ∧ w'.cell? ⟨w.heap.size, 3, none⟩ = some (.slice s.ha s.hN s.hc) ∧ w'.cell? ⟨w.heap.size, 4, none⟩ = some (.int .i64 s.bits) ∧ w'.cell? ⟨w.heap.size + 1, 0, none⟩ = some (.bool t.ln) ∧ w'.cell? ⟨w.heap.size + 1, 1, none⟩ = some (.slice t.la t.lN t.lc) ∧ w'.cell? ⟨w.heap.size + 1, 2, none⟩ = some (.bool t.hn) ∧ w'.cell? ⟨w.heap.size + 1, 3, none⟩ = some (.slice t.ha t.hN t.hc) ∧ w'.cell? ⟨w.heap.size + 1, 4, none⟩ = some (.int .i64 t.bits)) (first | exact unhide HK _ (by first | with_reducible exact hB5 | with_reducible exact hB4 | with_reducible exact hB3 | with_reducible exact hB2 | with_reducible exact hB1 | with_reducible exact (Below.refl _ _).drew | with_reducible exact Below.refl _ _) | exact ⟨cell_put5' e0 nq1 _ _ _ _ _, cell_put5' e1 nq1 _ _ _ _ _, cell_put5' e2 nq1 _ _ _ _ _, cell_put5' e3 nq1 _ _ _ _ _, cell_put5' e4 nq1 _ _ _ _ _, cell_put5' f0 nq2 _ _ _ _ _, cell_put5' f1 nq2 _ _ _ _ _, cell_put5' f2 nq2 _ _ _ _ _, cell_put5' f3 nq2 _ _ _ _ _, cell_put5' f4 nq2 _ _ _ _ _⟩)
    (first
      | (go_at_call 91; refine (refOver_pos _ ⟨neg1, a1, n1, c1, neg2, a2, n2, c2, s.bits⟩ ⟨neg3, a3, n3, c3, neg4, a4, n4, c4, t.bits⟩ k b (-hi) (-lo) (-hi') (-lo') ⟨hint1, hint2⟩ ⟨hint3, hint4⟩ hk hb (unhide HBT) (by omega) (by omega)).mono ?_; rintro r w5 ⟨u, rfl, hub, hup, hb5⟩; have hB5 := bthen hB4 hb5; have R5 := R.below hB5; have l5 := R5.lt; obtain ⟨q0, q1, q2, q3, q4, q5⟩ := R5; obtain ⟨e0, e1, e2, e3, e4, f0, f1, f2, f3, f4⟩ := unhide HK _ hB5; have HUB := hide hub; clear hub)
      | (go_at_call 103; have hq := hB3; refine (neg_int _ _ _ _ k lo' _ ((unhide htl).below hB3) (by omega)).mono ?_; rintro r w4 ⟨neg4, a4, n4, c4, rfl, hint4, hb4⟩; have hB4 := bthen hB3 hb4; replace hint1 := hint1.below hb4; replace hint2 := hint2.below hb4; replace hint3 := hint3.below hb4)
      | (go_at_call 103; have hq := hB2; refine (neg_int _ _ _ _ k hi' _ ((unhide hth).below hB2) (by omega)).mono ?_; rintro r w3 ⟨neg3, a3, n3, c3, rfl, hint3, hb3⟩; have hB3 := bthen hB2 hb3; replace hint1 := hint1.below hb3; replace hint2 := hint2.below hb3)
      | (go_at_call 103; have hq := hB1; refine (neg_int _ _ _ _ k lo _ ((unhide hsl).below hB1) (by omega)).mono ?_; rintro r w2 ⟨neg2, a2, n2, c2, rfl, hint2, hb2⟩; have hB2 := bthen hB1 hb2; replace hint1 := hint1.below hb2)
      | (go_at_call 103; refine (neg_int _ _ _ _ k hi _ ((unhide hsh).below (Below.refl _ _).drew) (by omega)).mono ?_; rintro r w1 ⟨neg1, a1, n1, c1, rfl, hint1, hb1⟩; have hB1 : Below w0.heap.size w0 w1 := bthen (Below.refl _ _).drew hb1))
  all_goals
    go_wp2_with fail
    refine bodyPost_ret (v := .agg #[.bool u.ln, .slice u.la u.lN u.lc, .bool u.hn, .slice u.ha u.hN u.hc, .int .i64 u.bits]) (by simp [results, Tryz.results91, go_sem, l5, q0, q1, q2, q3, q4]) rfl ⟨u, rfl, unhide HUB, ?_, ?_⟩
    · exact SpAt.put5 hup q0 q1 q2 q3 q4 _ _ _ _ _
    · exact set5 (bthen hBW hB5) (by omega) _ _ _ _ _

/-- The ends of the quotients of two spans, the second one without 0. -/
def dvLo (lo hi lo' hi' : Int) (b : Nat) : Int := if hi' < 0 then ovLo (-hi * Q b) (-lo * Q b) (-hi') (-lo') else ovLo (lo * Q b) (hi * Q b) lo' hi'
def dvHi (lo hi lo' hi' : Int) (b : Nat) : Int := if hi' < 0 then ovHi (-hi * Q b) (-lo * Q b) (-hi') (-lo') else ovHi (lo * Q b) (hi * Q b) lo' hi'

theorem refOver_any (w : World) (s t : Sp) (k b : Nat) (lo hi lo' hi' : Int) (hs : SpAt w s k lo hi) (ht : SpAt w t k lo' hi') (hk : k ≤ 50000000) (hb : b ≤ 1000000) (hbits : s.bits = b) (hp : ¬ (lo' ≤ 0 ∧ 0 ≤ hi')) (hp2 : lo' ≤ hi') :
    Calls Tryz.prog 91 #[.agg #[.bool s.ln, .slice s.la s.lN s.lc, .bool s.hn, .slice s.ha s.hN s.hc, .int .i64 s.bits], .agg #[.bool t.ln, .slice t.la t.lN t.lc, .bool t.hn, .slice t.ha t.hN t.hc, .int .i64 t.bits]] w (SpanAns w b (k + b / 16 + 20) (dvLo lo hi lo' hi' b) (dvHi lo hi lo' hi' b)) := by
  unfold dvLo dvHi
  by_cases h : hi' < 0
  · rw [if_pos h, if_pos h]; exact refOver_neg w s t k b lo hi lo' hi' hs ht hk hb hbits h hp2
  · rw [if_neg h, if_neg h]; exact refOver_pos w s t k b lo hi lo' hi' hs ht hk hb hbits (by omega) hp2
end Go.Proofs.YtgmnknmjainababGreat
