/-
  What wide.Raised answers of a whole number and of how often it is taken, and that it leaves old memory alone.
  What law.Check answers of whatever law, and that it leaves old memory alone.
  In how many ways a number comes (law.ways), and that it leaves old memory alone.
  Least and most of quotients of numbers between ends, and roots of whole numbers, down and up: plain arithmetic.
  What wide.Root answers of a right span that has nothing below 0, and that it leaves old memory alone.
  Two variables of numbers in memory that are made in one statement, wherever they came to lie.
-/
import Derived.Test.YtgmnknmjainababGreatK09
namespace Go.Proofs.YtgmnknmjainababGreat
set_option linter.unusedVariables false
set_option linter.unusedSimpArgs false
set_option linter.unnecessarySimpa false
open Go.RowKit
attribute [local go_sem ↓] Go.wp_at_zero Go.wp_at_succ

theorem put_nm2 {w : World} {B : Nat} {z : Nm} (h : NmC w B z) (x : Nm) : NmC ((w.setCell ⟨B, 0, none⟩ (.bool x.neg)).setCell ⟨B, 1, none⟩ (.slice x.a x.n x.cap)) B x := by
  obtain ⟨q0, q1⟩ := h
  constructor <;> simp [go_sem, q0, q1]
theorem put_fz2 {w : World} {B B' : Nat} (h : ∀ o, w.frozen? ⟨B, o, none⟩ = false) (u0 u1 : Value) : ∀ o, ((w.setCell ⟨B', 0, none⟩ u0).setCell ⟨B', 1, none⟩ u1).frozen? ⟨B, o, none⟩ = false := fun o => by rw [frozen_set', frozen_set']; exact h o
theorem NmC.off {w : World} {B B' : Nat} {x : Nm} (h : NmC w B x) (hne : B ≠ B') (u0 u1 : Value) : NmC ((w.setCell ⟨B', 0, none⟩ u0).setCell ⟨B', 1, none⟩ u1) B x := by
  obtain ⟨q0, q1⟩ := h
  constructor <;> simp [go_sem, q0, q1, hne, Ne.symm hne]
theorem NoI.off {w : World} {B B' : Nat} (h : NoI w B) (hne : B ≠ B') (u0 u1 : Value) : NoI ((w.setCell ⟨B', 0, none⟩ u0).setCell ⟨B', 1, none⟩ u1) B := by
  obtain ⟨q0, q1, q2⟩ := h
  exact ⟨by simp [go_sem, q0, hne, Ne.symm hne], by simp [go_sem, q1, hne, Ne.symm hne], put_fz2 q2 _ _⟩

/-- Where wide.Raised is behind some rounds. -/
structure RaiSt (w wr : World) (B : Nat) (a : Int) (k j e : Nat) (X Y : Nm) : Prop where
  je : j * e ≤ k
  e1 : 1 ≤ e
  e2 : e ≤ 2 * k + 1
  x : NmC wr B X
  y : NmC wr (B + 1) Y
  fx : ∀ o, wr.frozen? ⟨B, o, none⟩ = false
  fy : ∀ o, wr.frozen? ⟨B + 1, o, none⟩ = false
  ix : IntAt wr X.neg X.a X.n X.cap (4 * (k - j * e) + 4) (a ^ (k - j * e))
  iy : IntAt wr Y.neg Y.a Y.n Y.cap (4 * e) (a ^ e)
  no : NoI wr w.heap.size
  be : Below w.heap.size w wr
  lo : w.heap.size < B

theorem RaiSt.below {w wr wr' : World} {B : Nat} {a : Int} {k j e : Nat} {X Y : Nm} (h : RaiSt w wr B a k j e X Y) (hb : Below wr.heap.size wr wr') : RaiSt w wr' B a k j e X Y :=
  ⟨h.je, h.e1, h.e2, h.x.below hb, h.y.below hb, fun o => (hb.frozen (p := ⟨B, o, none⟩) h.x.lt).trans (h.fx o), fun o => (hb.frozen (p := ⟨B + 1, o, none⟩) h.y.lt).trans (h.fy o), h.ix.below hb, h.iy.below hb, h.no.below hb, bthen h.be hb, h.lo⟩

theorem pow_even (a : Int) (e : Nat) : a ^ e * a ^ e = a ^ (2 * e) := by rw [← Int.pow_add]; congr 1; omega

set_option maxRecDepth 100000 in
set_option maxHeartbeats 4000000 in
theorem raised_int (a : Int) (k : Nat) (w : World) (ha0 : -9223372036854775808 ≤ a) (ha1 : a ≤ 9223372036854775807) (hk : k ≤ 10000000) :
    Calls Tryz.prog 154 #[.int .i64 a, .int .i64 k] w (IntAns w (4 * k + 4) (a ^ k)) := by
  go_enter Tryz.func154, Tryz.ntmps154
  go_wp2_with fail
  refine (numOf_int 1 _ (by decide) (by decide)).mono ?_
  rintro r w1 ⟨neg1, a1, n1, c1, rfl, hint1, hb1⟩
  have R1 := (noi_new w 26).below hb1
  have b1 : Below w.heap.size w w1 := bthen (bl1 _ _) hb1
  clear hb1
  go_wp2_with fail
  refine (numOf_int a _ ha0 ha1).mono ?_
  rintro r w2 ⟨neg2, a2, n2, c2, rfl, hint2, hb2⟩
  have R2 := R1.below hb2
  have b2 := bthen b1 hb2
  replace hint1 := hint1.below hb2
  clear hb2 R1 b1
  have lR := R2.lt
  go_wp2_with fail
  go_loopw [1] (fun kk wr => ∃ (j e : Nat) (X Y : Nm), kk = .int .i64 j ∧ RaiSt w wr w2.heap.size a k j e X Y) (fun kk _ => (intOf kk).toNat)
  case atStart =>
    refine ⟨k, 1, ⟨neg1, a1, n1, c1⟩, ⟨neg2, a2, n2, c2⟩, rfl, by omega, Nat.le_refl _, by omega, ⟨by simp [go_sem], by simp [go_sem]⟩, ⟨by simp [go_sem], by simp [go_sem]⟩, fun o => by simp [go_sem], fun o => by simp [go_sem], ?_, ?_, ?_, ?_, lR⟩
    · have e0 : k - k * 1 = 0 := by omega
      rw [e0, Int.pow_zero]
      exact hint1.below (bl2 _ _ _)
    · rw [Int.pow_one]; exact hint2.below (bl2 _ _ _)
    · exact R2.below (bl2 _ _ _)
    · exact bthen b2 (bl2 _ _ _)
  case round =>
    obtain ⟨j, e, X, Y, rfl, st⟩ := hrel
    by_cases hj : 0 < j
    · have hj' : (0 : Int) < (j : Int) := by omega
      have hje : e ≤ k := Nat.le_trans (Nat.le_mul_of_pos_left e hj) st.je
      have hjk : j ≤ k := Nat.le_trans (Nat.le_mul_of_pos_right j st.e1) st.je
      have q1 : ((j : Int)).tdiv 2 = ((j / 2 : Nat) : Int) := by rw [Int.tdiv_eq_ediv_of_nonneg (by omega)]; omega
      have HQ := hide q1
      obtain ⟨x0, x1⟩ := st.x
      obtain ⟨y0, y1⟩ := st.y
      have l1 := st.x.lt
      have l2 := st.y.lt
      have hR := st.no.lt
      by_cases hm : j % 2 = 1
      · have q2 : ((j : Int)).tmod 2 = 1 := by rw [Int.tmod_eq_emod_of_nonneg (by omega)]; omega
        obtain ⟨m, hm2⟩ : ∃ m, j = 2 * m + 1 := ⟨j / 2, by omega⟩
        have hje2 : k - j * e + e = k - m * (2 * e) := by
          have h1 := st.je
          have h2 : j * e = m * (2 * e) + e := by rw [hm2, Nat.add_mul, Nat.one_mul, Nat.mul_comm 2 m, Nat.mul_assoc]
          omega
        have hme : m * (2 * e) ≤ k := by
          have h1 := st.je
          have h2 : j * e = m * (2 * e) + e := by rw [hm2, Nat.add_mul, Nat.one_mul, Nat.mul_comm 2 m, Nat.mul_assoc]
          omega
        have HE := hide hje2
        have HM := hide hm2
        have ix := hide st.ix
        have iy := hide st.iy
        clear q1 hm2 hje2 hm
        go_wp2_with fail
        refine (mul_int _ _ _ _ _ _ _ _ (4 * (k - j * e) + 4) (4 * e) _ _ _ (unhide ix) (unhide iy) (by omega) (by omega)).mono ?_
        rintro r w3 ⟨neg3, a3, n3, c3, rfl, hint3, hb3⟩
        have st3 := st.below hb3
        clear hb3 st
        rw [← Int.pow_add, unhide HE] at hint3
        obtain ⟨s0, s1⟩ := st3.x
        obtain ⟨W, hW⟩ : ∃ W, W = (w3.setCell ⟨w2.heap.size, 0, none⟩ (.bool neg3)).setCell ⟨w2.heap.size, 1, none⟩ (.slice a3 n3 c3) := ⟨_, rfl⟩
        have X4 : NmC W w2.heap.size ⟨neg3, a3, n3, c3⟩ := by rw [hW]; exact put_nm2 st3.x ⟨neg3, a3, n3, c3⟩
        have Y4 : NmC W (w2.heap.size + 1) Y := by rw [hW]; exact st3.y.off (by omega) _ _
        have F4 : ∀ o, W.frozen? ⟨w2.heap.size, o, none⟩ = false := by rw [hW]; exact put_fz2 st3.fx _ _
        have G4 : ∀ o, W.frozen? ⟨w2.heap.size + 1, o, none⟩ = false := by rw [hW]; exact put_fz2 st3.fy _ _
        have I4 := hide (show IntAt W neg3 a3 n3 c3 _ _ by rw [hW]; exact hint3.put2 s0 s1 _ _)
        have J4 := hide (show IntAt W Y.neg Y.a Y.n Y.cap _ _ by rw [hW]; exact st3.iy.put2 s0 s1 _ _)
        have N4 : NoI W w.heap.size := by rw [hW]; exact st3.no.off (by omega) _ _
        have B4 : Below w.heap.size w W := by rw [hW]; exact set2 st3.be (by omega) _ _
        have lW : W.heap.size = w3.heap.size := by rw [hW]; simp [World.setCell]
        have l3 := st3.y.lt
        have f0 := st3.fx 0
        have f1 := st3.fx 1
        have lo := st3.lo
        have je1 := st3.e1
        have jje := st3.je
        have e22 := st3.e2
        clear x0 x1 y0 y1
        obtain ⟨y0, y1⟩ := st3.y
        clear st3 hint3
        go_wp2_with fail
        rw [← hW]
        clear hW s0 s1 f0 f1 y0 y1
        refine (mul_int _ _ _ _ _ _ _ _ (4 * e) (4 * e) _ _ _ (unhide J4) (unhide J4) (by omega) (by omega)).mono ?_
        rintro r w5 ⟨neg5, a5, n5, c5, rfl, hint5, hb5⟩
        rw [pow_even] at hint5
        replace X4 := X4.below hb5
        replace Y4 := Y4.below hb5
        replace I4 := hide ((unhide I4).below hb5)
        replace N4 := N4.below hb5
        replace B4 := bthen B4 hb5
        have F5 : ∀ o, w5.frozen? ⟨w2.heap.size, o, none⟩ = false := fun o => (hb5.frozen (p := ⟨w2.heap.size, o, none⟩) (by show w2.heap.size < W.heap.size; omega)).trans (F4 o)
        have G5 : ∀ o, w5.frozen? ⟨w2.heap.size + 1, o, none⟩ = false := fun o => (hb5.frozen (p := ⟨w2.heap.size + 1, o, none⟩) (by show w2.heap.size + 1 < W.heap.size; omega)).trans (G4 o)
        obtain ⟨y0, y1⟩ := Y4
        have f0 := G5 0
        have f1 := G5 1
        go_wp2_with fail
        refine ⟨⟨m, 2 * e, ⟨neg3, a3, n3, c3⟩, ⟨neg5, a5, n5, c5⟩, by have := unhide HM; congr 1; omega, by omega, by omega, by omega, X4.off (by omega) _ _, put_nm2 (z := Y) ⟨y0, y1⟩ ⟨neg5, a5, n5, c5⟩, put_fz2 F5 _ _, put_fz2 G5 _ _, ?_, ?_, N4.off (by omega) _ _, set2 B4 (by omega) _ _, lo⟩, ?_⟩
        · exact ((unhide I4).put2 y0 y1 _ _).mono (by have := unhide HE; omega)
        · exact (hint5.put2 y0 y1 _ _).mono (by omega)
        · simp [intOf]; omega
      · have q2 : ((j : Int)).tmod 2 = 0 := by rw [Int.tmod_eq_emod_of_nonneg (by omega)]; omega
        obtain ⟨m, hm2⟩ : ∃ m, j = 2 * m := ⟨j / 2, by omega⟩
        have hje2 : j * e = m * (2 * e) := by rw [hm2, Nat.mul_comm 2 m, Nat.mul_assoc]
        have HE := hide hje2
        have HM := hide hm2
        have jje := st.je
        have lo := st.lo
        have je1 := st.e1
        have iy := hide st.iy
        clear q1 hm2 hje2 hm
        go_wp2_with fail
        refine (mul_int _ _ _ _ _ _ _ _ (4 * e) (4 * e) _ _ _ (unhide iy) (unhide iy) (by omega) (by omega)).mono ?_
        rintro r w5 ⟨neg5, a5, n5, c5, rfl, hint5, hb5⟩
        rw [pow_even] at hint5
        have st5 := st.below hb5
        clear hb5 st x0 x1 y0 y1
        obtain ⟨y0, y1⟩ := st5.y
        have F5 := st5.fx
        have G5 := st5.fy
        have f0 := G5 0
        have f1 := G5 1
        have X4 := st5.x
        have N4 := st5.no
        have B4 := st5.be
        have I4 := hide st5.ix
        clear st5
        have hme : m * (2 * e) ≤ k := by have := unhide HE; omega
        go_wp2_with fail
        refine ⟨⟨m, 2 * e, X, ⟨neg5, a5, n5, c5⟩, by have := unhide HM; congr 1; omega, by omega, by omega, by omega, X4.off (by omega) _ _, put_nm2 (z := Y) ⟨y0, y1⟩ ⟨neg5, a5, n5, c5⟩, put_fz2 F5 _ _, put_fz2 G5 _ _, ?_, ?_, N4.off (by omega) _ _, set2 B4 (by omega) _ _, lo⟩, ?_⟩
        · rw [← unhide HE]; exact (unhide I4).put2 y0 y1 _ _
        · exact (hint5.put2 y0 y1 _ _).mono (by omega)
        · simp [intOf]; omega
    · have hj0 : j = 0 := by omega
      subst hj0
      obtain ⟨x0, x1⟩ := st.x
      obtain ⟨z0, z1, z2⟩ := st.no
      have ix := hide st.ix
      have hb := st.be
      clear st
      go_wp2_with fail
      refine bodyPost_ret (v := .agg #[.bool X.neg, .slice X.a X.n X.cap]) (by simp [results, Tryz.results154, go_sem, z0, z1]) rfl ⟨X.neg, X.a, X.n, X.cap, rfl, ?_, ?_⟩
      · have h := unhide ix
        rw [Nat.zero_mul, Nat.sub_zero] at h
        exact h.put2 z0 z1 _ _
      · exact set2 hb (Nat.le_refl _) _ _
end Go.Proofs.YtgmnknmjainababGreat

namespace Go.Proofs.YtgmnknmjainababGreat
set_option linter.unusedVariables false
set_option linter.unusedSimpArgs false
set_option linter.unnecessarySimpa false
open Go.RowKit
attribute [local go_sem ↓] Go.wp_at_zero Go.wp_at_succ

/-- What is said of a law. -/
def lawE (k p q r s : Int) : Int :=
  if k < 1 ∨ 7 < k then 6 else if ¬ rok p q ∨ ¬ rok r s then 3 else if oneB k = true ∧ ¬ (r = 0 ∧ s = 1) then 1
  else if saidB k p q r s = false then 3 else if farB k p q r s = true then 2 else 0

set_option maxRecDepth 100000 in
set_option maxHeartbeats 4000000 in
theorem check_k0 (k p q r s : Int) (w : World) (h1 : k < 1) :
    Calls Tryz.prog 34 #[.agg #[.int .i64 k, .int .i64 p, .int .i64 q, .int .i64 r, .int .i64 s]] w fun z w' => z = .returned (.int .i64 6) ∧ Below w.heap.size w w' := by
  go_enter Tryz.func34, Tryz.ntmps34
  go_wp2
  go_ret
  exact ⟨rfl, bl1 _ _⟩

set_option maxRecDepth 100000 in
set_option maxHeartbeats 4000000 in
theorem check_k8 (k p q r s : Int) (w : World) (h1 : 1 ≤ k) (h7 : 7 < k) :
    Calls Tryz.prog 34 #[.agg #[.int .i64 k, .int .i64 p, .int .i64 q, .int .i64 r, .int .i64 s]] w fun z w' => z = .returned (.int .i64 6) ∧ Below w.heap.size w w' := by
  go_enter Tryz.func34, Tryz.ntmps34
  go_wp2
  go_ret
  exact ⟨rfl, bl1 _ _⟩

set_option maxRecDepth 100000 in
set_option maxHeartbeats 4000000 in
theorem check_r1 (k p q r s : Int) (w : World) (h1 : 1 ≤ k) (h7 : k ≤ 7) (hc1 : decide (rok p q) = false) :
    Calls Tryz.prog 34 #[.agg #[.int .i64 k, .int .i64 p, .int .i64 q, .int .i64 r, .int .i64 s]] w fun z w' => z = .returned (.int .i64 3) ∧ Below w.heap.size w w' := by
  go_enter Tryz.func34, Tryz.ntmps34
  go_wp2_with (first
    | (go_at_call 80; refine (ratioRight_any p q _).mono ?_; rintro r' w1 ⟨rfl, hb1⟩; rw [hc1]; obtain ⟨hsz1, hcell1, hfz1⟩ := near (w.heap.size + 1) (by simp) hb1))
  go_ret
  exact ⟨rfl, bthen (bl1 _ _) hb1⟩

set_option maxRecDepth 100000 in
set_option maxHeartbeats 4000000 in
theorem check_r2 (k p q r s : Int) (w : World) (h1 : 1 ≤ k) (h7 : k ≤ 7) (hc1 : decide (rok p q) = true) (hc2 : decide (rok r s) = false) :
    Calls Tryz.prog 34 #[.agg #[.int .i64 k, .int .i64 p, .int .i64 q, .int .i64 r, .int .i64 s]] w fun z w' => z = .returned (.int .i64 3) ∧ Below w.heap.size w w' := by
  go_enter Tryz.func34, Tryz.ntmps34
  go_wp2_with (first
    | (go_at_call 80; have hq := hb1; refine (ratioRight_any r s _).mono ?_; rintro r' w2 ⟨rfl, hb2⟩; rw [hc2]; obtain ⟨hsz2, hcell2, hfz2⟩ := near (w.heap.size + 1) hsz1 hb2)
    | (go_at_call 80; refine (ratioRight_any p q _).mono ?_; rintro r' w1 ⟨rfl, hb1⟩; rw [hc1]; obtain ⟨hsz1, hcell1, hfz1⟩ := near (w.heap.size + 1) (by simp) hb1))
  go_ret
  exact ⟨rfl, bthen (bthen (bl1 _ _) hb1) hb2⟩

set_option maxRecDepth 100000 in
set_option maxHeartbeats 4000000 in
theorem check_z0 (k p q r s : Int) (w : World) (h1 : 1 ≤ k) (h7 : k ≤ 7) (hc1 : decide (rok p q) = true) (hc2 : decide (rok r s) = true) (ho : oneB k = true) (z0 : r ≠ 0) :
    Calls Tryz.prog 34 #[.agg #[.int .i64 k, .int .i64 p, .int .i64 q, .int .i64 r, .int .i64 s]] w fun z w' => z = .returned (.int .i64 1) ∧ Below w.heap.size w w' := by
  go_enter Tryz.func34, Tryz.ntmps34
  go_wp2_with (first
    | (go_at_call 81; refine (madeOfOne_any k _).mono ?_; rintro r' w3 ⟨rfl, hb3⟩; rw [ho]; obtain ⟨hsz3, hcell3, hfz3⟩ := near (w.heap.size + 1) hsz2 hb3)
    | (go_at_call 80; have hq := hb1; refine (ratioRight_any r s _).mono ?_; rintro r' w2 ⟨rfl, hb2⟩; rw [hc2]; obtain ⟨hsz2, hcell2, hfz2⟩ := near (w.heap.size + 1) hsz1 hb2)
    | (go_at_call 80; refine (ratioRight_any p q _).mono ?_; rintro r' w1 ⟨rfl, hb1⟩; rw [hc1]; obtain ⟨hsz1, hcell1, hfz1⟩ := near (w.heap.size + 1) (by simp) hb1))
  go_ret
  exact ⟨rfl, bthen (bthen (bthen (bl1 _ _) hb1) hb2) hb3⟩

set_option maxRecDepth 100000 in
set_option maxHeartbeats 4000000 in
theorem check_z1 (k p q r s : Int) (w : World) (h1 : 1 ≤ k) (h7 : k ≤ 7) (hc1 : decide (rok p q) = true) (hc2 : decide (rok r s) = true) (ho : oneB k = true) (z1 : s ≠ 1) :
    Calls Tryz.prog 34 #[.agg #[.int .i64 k, .int .i64 p, .int .i64 q, .int .i64 r, .int .i64 s]] w fun z w' => z = .returned (.int .i64 1) ∧ Below w.heap.size w w' := by
  go_enter Tryz.func34, Tryz.ntmps34
  go_wp2_with (first
    | (go_at_call 81; refine (madeOfOne_any k _).mono ?_; rintro r' w3 ⟨rfl, hb3⟩; rw [ho]; obtain ⟨hsz3, hcell3, hfz3⟩ := near (w.heap.size + 1) hsz2 hb3)
    | (go_at_call 80; have hq := hb1; refine (ratioRight_any r s _).mono ?_; rintro r' w2 ⟨rfl, hb2⟩; rw [hc2]; obtain ⟨hsz2, hcell2, hfz2⟩ := near (w.heap.size + 1) hsz1 hb2)
    | (go_at_call 80; refine (ratioRight_any p q _).mono ?_; rintro r' w1 ⟨rfl, hb1⟩; rw [hc1]; obtain ⟨hsz1, hcell1, hfz1⟩ := near (w.heap.size + 1) (by simp) hb1))
  go_ret
  exact ⟨rfl, bthen (bthen (bthen (bl1 _ _) hb1) hb2) hb3⟩

set_option maxRecDepth 100000 in
set_option maxHeartbeats 4000000 in
theorem check_os (k p q : Int) (w : World) (h1 : 1 ≤ k) (h7 : k ≤ 7) (hr1 : rok p q) (hr2 : rok 0 1) (hc1 : decide (rok p q) = true) (hc2 : decide (rok 0 1) = true) (ho : oneB k = true) (hs : saidB k p q 0 1 = false) :
    Calls Tryz.prog 34 #[.agg #[.int .i64 k, .int .i64 p, .int .i64 q, .int .i64 0, .int .i64 1]] w fun z w' => z = .returned (.int .i64 3) ∧ Below w.heap.size w w' := by
  go_enter Tryz.func34, Tryz.ntmps34
  go_wp2_with (first
    | (go_at_call 82; refine (asSaid_any k p q 0 1 _ h1 h7).mono ?_; rintro r' w4 ⟨rfl, hb4⟩; rw [hs]; obtain ⟨hsz4, hcell4, hfz4⟩ := near (w.heap.size + 1) hsz3 hb4)
    | (go_at_call 81; refine (madeOfOne_any k _).mono ?_; rintro r' w3 ⟨rfl, hb3⟩; rw [ho]; obtain ⟨hsz3, hcell3, hfz3⟩ := near (w.heap.size + 1) hsz2 hb3)
    | (go_at_call 80; have hq := hb1; refine (ratioRight_any 0 1 _).mono ?_; rintro r' w2 ⟨rfl, hb2⟩; rw [hc2]; obtain ⟨hsz2, hcell2, hfz2⟩ := near (w.heap.size + 1) hsz1 hb2)
    | (go_at_call 80; refine (ratioRight_any p q _).mono ?_; rintro r' w1 ⟨rfl, hb1⟩; rw [hc1]; obtain ⟨hsz1, hcell1, hfz1⟩ := near (w.heap.size + 1) (by simp) hb1))
  go_ret
  exact ⟨rfl, bthen (bthen (bthen (bthen (bl1 _ _) hb1) hb2) hb3) hb4⟩

set_option maxRecDepth 100000 in
set_option maxHeartbeats 4000000 in
theorem check_of (k p q : Int) (w : World) (h1 : 1 ≤ k) (h7 : k ≤ 7) (hr1 : rok p q) (hr2 : rok 0 1) (hc1 : decide (rok p q) = true) (hc2 : decide (rok 0 1) = true) (ho : oneB k = true) (hs : saidB k p q 0 1 = true) (hf : farB k p q 0 1 = false) :
    Calls Tryz.prog 34 #[.agg #[.int .i64 k, .int .i64 p, .int .i64 q, .int .i64 0, .int .i64 1]] w fun z w' => z = .returned (.int .i64 0) ∧ Below w.heap.size w w' := by
  go_enter Tryz.func34, Tryz.ntmps34
  go_wp2_with (first
    | (go_at_call 83; refine (tooFar_any k p q 0 1 _ hr1 hr2).mono ?_; rintro r' w5 ⟨rfl, hb5⟩; rw [hf])
    | (go_at_call 82; refine (asSaid_any k p q 0 1 _ h1 h7).mono ?_; rintro r' w4 ⟨rfl, hb4⟩; rw [hs]; obtain ⟨hsz4, hcell4, hfz4⟩ := near (w.heap.size + 1) hsz3 hb4)
    | (go_at_call 81; refine (madeOfOne_any k _).mono ?_; rintro r' w3 ⟨rfl, hb3⟩; rw [ho]; obtain ⟨hsz3, hcell3, hfz3⟩ := near (w.heap.size + 1) hsz2 hb3)
    | (go_at_call 80; have hq := hb1; refine (ratioRight_any 0 1 _).mono ?_; rintro r' w2 ⟨rfl, hb2⟩; rw [hc2]; obtain ⟨hsz2, hcell2, hfz2⟩ := near (w.heap.size + 1) hsz1 hb2)
    | (go_at_call 80; refine (ratioRight_any p q _).mono ?_; rintro r' w1 ⟨rfl, hb1⟩; rw [hc1]; obtain ⟨hsz1, hcell1, hfz1⟩ := near (w.heap.size + 1) (by simp) hb1))
  go_ret
  exact ⟨rfl, bthen (bthen (bthen (bthen (bthen (bl1 _ _) hb1) hb2) hb3) hb4) hb5⟩

set_option maxRecDepth 100000 in
set_option maxHeartbeats 4000000 in
theorem check_om (k p q : Int) (w : World) (h1 : 1 ≤ k) (h7 : k ≤ 7) (hr1 : rok p q) (hr2 : rok 0 1) (hc1 : decide (rok p q) = true) (hc2 : decide (rok 0 1) = true) (ho : oneB k = true) (hs : saidB k p q 0 1 = true) (hf : farB k p q 0 1 = true) :
    Calls Tryz.prog 34 #[.agg #[.int .i64 k, .int .i64 p, .int .i64 q, .int .i64 0, .int .i64 1]] w fun z w' => z = .returned (.int .i64 2) ∧ Below w.heap.size w w' := by
  go_enter Tryz.func34, Tryz.ntmps34
  go_wp2_with (first
    | (go_at_call 83; refine (tooFar_any k p q 0 1 _ hr1 hr2).mono ?_; rintro r' w5 ⟨rfl, hb5⟩; rw [hf])
    | (go_at_call 82; refine (asSaid_any k p q 0 1 _ h1 h7).mono ?_; rintro r' w4 ⟨rfl, hb4⟩; rw [hs]; obtain ⟨hsz4, hcell4, hfz4⟩ := near (w.heap.size + 1) hsz3 hb4)
    | (go_at_call 81; refine (madeOfOne_any k _).mono ?_; rintro r' w3 ⟨rfl, hb3⟩; rw [ho]; obtain ⟨hsz3, hcell3, hfz3⟩ := near (w.heap.size + 1) hsz2 hb3)
    | (go_at_call 80; have hq := hb1; refine (ratioRight_any 0 1 _).mono ?_; rintro r' w2 ⟨rfl, hb2⟩; rw [hc2]; obtain ⟨hsz2, hcell2, hfz2⟩ := near (w.heap.size + 1) hsz1 hb2)
    | (go_at_call 80; refine (ratioRight_any p q _).mono ?_; rintro r' w1 ⟨rfl, hb1⟩; rw [hc1]; obtain ⟨hsz1, hcell1, hfz1⟩ := near (w.heap.size + 1) (by simp) hb1))
  go_ret
  exact ⟨rfl, bthen (bthen (bthen (bthen (bthen (bl1 _ _) hb1) hb2) hb3) hb4) hb5⟩

set_option maxRecDepth 100000 in
set_option maxHeartbeats 4000000 in
theorem check_ns (k p q r s : Int) (w : World) (h1 : 1 ≤ k) (h7 : k ≤ 7) (hr1 : rok p q) (hr2 : rok r s) (hc1 : decide (rok p q) = true) (hc2 : decide (rok r s) = true) (ho : oneB k = false) (hs : saidB k p q r s = false) :
    Calls Tryz.prog 34 #[.agg #[.int .i64 k, .int .i64 p, .int .i64 q, .int .i64 r, .int .i64 s]] w fun z w' => z = .returned (.int .i64 3) ∧ Below w.heap.size w w' := by
  go_enter Tryz.func34, Tryz.ntmps34
  go_wp2_with (first
    | (go_at_call 82; refine (asSaid_any k p q r s _ h1 h7).mono ?_; rintro r' w4 ⟨rfl, hb4⟩; rw [hs]; obtain ⟨hsz4, hcell4, hfz4⟩ := near (w.heap.size + 1) hsz3 hb4)
    | (go_at_call 81; refine (madeOfOne_any k _).mono ?_; rintro r' w3 ⟨rfl, hb3⟩; rw [ho]; obtain ⟨hsz3, hcell3, hfz3⟩ := near (w.heap.size + 1) hsz2 hb3)
    | (go_at_call 80; have hq := hb1; refine (ratioRight_any r s _).mono ?_; rintro r' w2 ⟨rfl, hb2⟩; rw [hc2]; obtain ⟨hsz2, hcell2, hfz2⟩ := near (w.heap.size + 1) hsz1 hb2)
    | (go_at_call 80; refine (ratioRight_any p q _).mono ?_; rintro r' w1 ⟨rfl, hb1⟩; rw [hc1]; obtain ⟨hsz1, hcell1, hfz1⟩ := near (w.heap.size + 1) (by simp) hb1))
  go_ret
  exact ⟨rfl, bthen (bthen (bthen (bthen (bl1 _ _) hb1) hb2) hb3) hb4⟩

set_option maxRecDepth 100000 in
set_option maxHeartbeats 4000000 in
theorem check_nf (k p q r s : Int) (w : World) (h1 : 1 ≤ k) (h7 : k ≤ 7) (hr1 : rok p q) (hr2 : rok r s) (hc1 : decide (rok p q) = true) (hc2 : decide (rok r s) = true) (ho : oneB k = false) (hs : saidB k p q r s = true) (hf : farB k p q r s = false) :
    Calls Tryz.prog 34 #[.agg #[.int .i64 k, .int .i64 p, .int .i64 q, .int .i64 r, .int .i64 s]] w fun z w' => z = .returned (.int .i64 0) ∧ Below w.heap.size w w' := by
  go_enter Tryz.func34, Tryz.ntmps34
  go_wp2_with (first
    | (go_at_call 83; refine (tooFar_any k p q r s _ hr1 hr2).mono ?_; rintro r' w5 ⟨rfl, hb5⟩; rw [hf])
    | (go_at_call 82; refine (asSaid_any k p q r s _ h1 h7).mono ?_; rintro r' w4 ⟨rfl, hb4⟩; rw [hs]; obtain ⟨hsz4, hcell4, hfz4⟩ := near (w.heap.size + 1) hsz3 hb4)
    | (go_at_call 81; refine (madeOfOne_any k _).mono ?_; rintro r' w3 ⟨rfl, hb3⟩; rw [ho]; obtain ⟨hsz3, hcell3, hfz3⟩ := near (w.heap.size + 1) hsz2 hb3)
    | (go_at_call 80; have hq := hb1; refine (ratioRight_any r s _).mono ?_; rintro r' w2 ⟨rfl, hb2⟩; rw [hc2]; obtain ⟨hsz2, hcell2, hfz2⟩ := near (w.heap.size + 1) hsz1 hb2)
    | (go_at_call 80; refine (ratioRight_any p q _).mono ?_; rintro r' w1 ⟨rfl, hb1⟩; rw [hc1]; obtain ⟨hsz1, hcell1, hfz1⟩ := near (w.heap.size + 1) (by simp) hb1))
  go_ret
  exact ⟨rfl, bthen (bthen (bthen (bthen (bthen (bl1 _ _) hb1) hb2) hb3) hb4) hb5⟩

set_option maxRecDepth 100000 in
set_option maxHeartbeats 4000000 in
theorem check_nm (k p q r s : Int) (w : World) (h1 : 1 ≤ k) (h7 : k ≤ 7) (hr1 : rok p q) (hr2 : rok r s) (hc1 : decide (rok p q) = true) (hc2 : decide (rok r s) = true) (ho : oneB k = false) (hs : saidB k p q r s = true) (hf : farB k p q r s = true) :
    Calls Tryz.prog 34 #[.agg #[.int .i64 k, .int .i64 p, .int .i64 q, .int .i64 r, .int .i64 s]] w fun z w' => z = .returned (.int .i64 2) ∧ Below w.heap.size w w' := by
  go_enter Tryz.func34, Tryz.ntmps34
  go_wp2_with (first
    | (go_at_call 83; refine (tooFar_any k p q r s _ hr1 hr2).mono ?_; rintro r' w5 ⟨rfl, hb5⟩; rw [hf])
    | (go_at_call 82; refine (asSaid_any k p q r s _ h1 h7).mono ?_; rintro r' w4 ⟨rfl, hb4⟩; rw [hs]; obtain ⟨hsz4, hcell4, hfz4⟩ := near (w.heap.size + 1) hsz3 hb4)
    | (go_at_call 81; refine (madeOfOne_any k _).mono ?_; rintro r' w3 ⟨rfl, hb3⟩; rw [ho]; obtain ⟨hsz3, hcell3, hfz3⟩ := near (w.heap.size + 1) hsz2 hb3)
    | (go_at_call 80; have hq := hb1; refine (ratioRight_any r s _).mono ?_; rintro r' w2 ⟨rfl, hb2⟩; rw [hc2]; obtain ⟨hsz2, hcell2, hfz2⟩ := near (w.heap.size + 1) hsz1 hb2)
    | (go_at_call 80; refine (ratioRight_any p q _).mono ?_; rintro r' w1 ⟨rfl, hb1⟩; rw [hc1]; obtain ⟨hsz1, hcell1, hfz1⟩ := near (w.heap.size + 1) (by simp) hb1))
  go_ret
  exact ⟨rfl, bthen (bthen (bthen (bthen (bthen (bl1 _ _) hb1) hb2) hb3) hb4) hb5⟩

theorem check_law (k p q r s : Int) (w : World) :
    Calls Tryz.prog 34 #[.agg #[.int .i64 k, .int .i64 p, .int .i64 q, .int .i64 r, .int .i64 s]] w fun z w' => z = .returned (.int .i64 (lawE k p q r s)) ∧ Below w.heap.size w w' := by
  by_cases h1 : k < 1
  · rw [show lawE k p q r s = 6 by unfold lawE; rw [if_pos (by omega)]]; exact check_k0 k p q r s w h1
  by_cases h7 : 7 < k
  · rw [show lawE k p q r s = 6 by unfold lawE; rw [if_pos (by omega)]]; exact check_k8 k p q r s w (by omega) h7
  have n1 : ¬ (k < 1 ∨ 7 < k) := by omega
  cases hc1 : decide (rok p q)
  · rw [show lawE k p q r s = 3 by unfold lawE; rw [if_neg n1, if_pos (Or.inl (of_decide_eq_false hc1))]]; exact check_r1 k p q r s w (by omega) (by omega) hc1
  cases hc2 : decide (rok r s)
  · rw [show lawE k p q r s = 3 by unfold lawE; rw [if_neg n1, if_pos (Or.inr (of_decide_eq_false hc2))]]; exact check_r2 k p q r s w (by omega) (by omega) hc1 hc2
  have hr1 := of_decide_eq_true hc1
  have hr2 := of_decide_eq_true hc2
  have n2 : ¬ (¬ rok p q ∨ ¬ rok r s) := by simp [hr1, hr2]
  cases ho : oneB k
  · have n3 : ¬ (oneB k = true ∧ ¬ (r = 0 ∧ s = 1)) := fun ⟨h, _⟩ => by rw [ho] at h; cases h
    cases hs : saidB k p q r s
    · rw [show lawE k p q r s = 3 by unfold lawE; rw [if_neg n1, if_neg n2, if_neg n3, if_pos hs]]; exact check_ns k p q r s w (by omega) (by omega) hr1 hr2 hc1 hc2 ho hs
    have n4 : ¬ saidB k p q r s = false := by simp [hs]
    cases hf : farB k p q r s
    · rw [show lawE k p q r s = 0 by unfold lawE; rw [if_neg n1, if_neg n2, if_neg n3, if_neg n4, if_neg (by simp [hf])]]; exact check_nf k p q r s w (by omega) (by omega) hr1 hr2 hc1 hc2 ho hs hf
    · rw [show lawE k p q r s = 2 by unfold lawE; rw [if_neg n1, if_neg n2, if_neg n3, if_neg n4, if_pos hf]]; exact check_nm k p q r s w (by omega) (by omega) hr1 hr2 hc1 hc2 ho hs hf
  by_cases z0 : r = 0
  case neg => rw [show lawE k p q r s = 1 by unfold lawE; rw [if_neg n1, if_neg n2, if_pos ⟨ho, by omega⟩]]; exact check_z0 k p q r s w (by omega) (by omega) hc1 hc2 ho z0
  by_cases z1 : s = 1
  case neg => rw [show lawE k p q r s = 1 by unfold lawE; rw [if_neg n1, if_neg n2, if_pos ⟨ho, by omega⟩]]; exact check_z1 k p q r s w (by omega) (by omega) hc1 hc2 ho z1
  have n3 : ¬ (oneB k = true ∧ ¬ (r = 0 ∧ s = 1)) := fun ⟨_, h⟩ => h ⟨z0, z1⟩
  subst z0 z1
  cases hs : saidB k p q 0 1
  · rw [show lawE k p q 0 1 = 3 by unfold lawE; rw [if_neg n1, if_neg n2, if_neg n3, if_pos hs]]; exact check_os k p q w (by omega) (by omega) hr1 hr2 hc1 hc2 ho hs
  have n4 : ¬ saidB k p q 0 1 = false := by simp [hs]
  cases hf : farB k p q 0 1
  · rw [show lawE k p q 0 1 = 0 by unfold lawE; rw [if_neg n1, if_neg n2, if_neg n3, if_neg n4, if_neg (by simp [hf])]]; exact check_of k p q w (by omega) (by omega) hr1 hr2 hc1 hc2 ho hs hf
  · rw [show lawE k p q 0 1 = 2 by unfold lawE; rw [if_neg n1, if_neg n2, if_neg n3, if_neg n4, if_pos hf]]; exact check_om k p q w (by omega) (by omega) hr1 hr2 hc1 hc2 ho hs hf
end Go.Proofs.YtgmnknmjainababGreat

namespace Go.Proofs.YtgmnknmjainababGreat
set_option linter.unusedVariables false
set_option linter.unusedSimpArgs false
set_option linter.unnecessarySimpa false
open Go.RowKit
attribute [local go_sem ↓] Go.wp_at_zero Go.wp_at_succ

/-- A law in a block. -/
structure LwC (w : World) (B : Nat) (k p q r s : Int) : Prop where
  c0 : w.cell? ⟨B, 0, none⟩ = some (.int .i64 k)
  c1 : w.cell? ⟨B, 1, none⟩ = some (.int .i64 p)
  c2 : w.cell? ⟨B, 2, none⟩ = some (.int .i64 q)
  c3 : w.cell? ⟨B, 3, none⟩ = some (.int .i64 r)
  c4 : w.cell? ⟨B, 4, none⟩ = some (.int .i64 s)
theorem LwC.lt {w : World} {B : Nat} {k p q r s : Int} (h : LwC w B k p q r s) : B < w.heap.size := World.block_lt_of_cell? w ⟨B, 0, none⟩ h.c0
theorem LwC.below {w w' : World} {B : Nat} {k p q r s : Int} (h : LwC w B k p q r s) (hb : Below w.heap.size w w') : LwC w' B k p q r s :=
  ⟨(hb.cell (p := ⟨B, 0, none⟩) h.lt).trans h.c0, (hb.cell (p := ⟨B, 1, none⟩) h.lt).trans h.c1, (hb.cell (p := ⟨B, 2, none⟩) h.lt).trans h.c2, (hb.cell (p := ⟨B, 3, none⟩) h.lt).trans h.c3, (hb.cell (p := ⟨B, 4, none⟩) h.lt).trans h.c4⟩
theorem LwC.off {w : World} {B B' : Nat} {k p q r s : Int} (h : LwC w B k p q r s) (hne : B ≠ B') (u0 u1 : Value) : LwC ((w.setCell ⟨B', 0, none⟩ u0).setCell ⟨B', 1, none⟩ u1) B k p q r s := by
  obtain ⟨q0, q1, q2, q3, q4⟩ := h
  constructor <;> simp [go_sem, q0, q1, q2, q3, q4, hne, Ne.symm hne]
theorem lwc_new (w : World) (k p q r s : Int) (T : TypeId) : LwC (w.alloc (.cells #[.int .i64 k, .int .i64 p, .int .i64 q, .int .i64 r, .int .i64 s] T)) w.heap.size k p q r s := ⟨by simp, by simp, by simp, by simp, by simp⟩

/-- In how many ways, behind some rounds. -/
def wayF (b o : Int) : Nat → Int
  | 0 => b
  | i + 1 => wayF b o i * (o + ((i : Int) + 1)) / ((i : Int) + 1)

set_option maxRecDepth 100000 in
set_option maxHeartbeats 4000000 in
theorem ways_int (k p q r s : Int) (n : Nat) (w : World) (hn : (n : Int) ≤ p) (hp : p ≤ 100) (hr : 0 ≤ r) (hs : r ≤ s) (hs2 : s ≤ 1024) :
    Calls Tryz.prog 153 #[.agg #[.int .i64 k, .int .i64 p, .int .i64 q, .int .i64 r, .int .i64 s], .int .i64 n] w (IntAns w (408 + 20 * n) (wayF (r ^ n * (s - r) ^ (p.toNat - n)) (p - n) n)) := by
  obtain ⟨W, hW⟩ : ∃ W, W = (w.alloc (.cells #[.int .i64 k, .int .i64 p, .int .i64 q, .int .i64 r, .int .i64 s] 53)).alloc (.cells #[.bool false, .slice none 0 0] 26) := ⟨_, rfl⟩
  have hBW : Below w.heap.size w W := by rw [hW]; exact bl2 _ _ _
  have L : LwC W w.heap.size k p q r s := by rw [hW]; exact (lwc_new w k p q r s _).below (bl1 _ _)
  have R : NoI W (w.heap.size + 1) := by rw [hW]; exact ⟨by simp [go_sem], by simp [go_sem], fun o => by simp [go_sem]⟩
  obtain ⟨m, hm⟩ : ∃ m : Nat, p - n = (m : Int) := ⟨(p - n).toNat, by omega⟩
  have hm2 : p.toNat - n = m := by omega
  rw [hm, hm2]
  have HK := hide (show ∀ w', Below W.heap.size W w' → (w'.cell? ⟨w.heap.size, 3, none⟩ = some (.int .i64 r) ∧ w'.cell? ⟨w.heap.size, 4, none⟩ = some (.int .i64 s)) from fun w' hB => ⟨(L.below hB).c3, (L.below hB).c4⟩)
  have lW := L.lt
  have lR := R.lt
  go_enter Tryz.func153, Tryz.ntmps153
  go_wp2
  rw [← hW]
  clear hW
  obtain ⟨i0, i1, i2, i3, i4⟩ := L
  have HSR := hide (show IntKind.i64.wrap (s - r) = s - r from i64_id _ (by omega) (by omega))
  go_cut [6] (fun p wx => VarAt wx p W.heap.size 408 (r ^ n * (s - r) ^ m) ∧ FzP wx p ∧ Below W.heap.size W wx)
  case first =>
    go_region_held3 (fun w' => w'.cell? ⟨w.heap.size, 3, none⟩ = some (.int .i64 r) ∧ w'.cell? ⟨w.heap.size, 4, none⟩ = some (.int .i64 s)) (exact unhide HK _ (by repeat' (first | with_reducible exact hBX3 | with_reducible exact hBX2 | with_reducible exact hBX1 | with_reducible exact Below.refl _ _ | with_reducible refine Below.drew ?_ | with_reducible refine balloc ?_ _ | with_reducible refine Below.setCell ?_ (by first | exact Nat.le_refl _ | exact hlX1 | exact hlX2 | exact hlX3) _)))
      (first
        | (go_at_call 66; have hq := hBX2; refine (mul_int _ _ _ _ _ _ _ _ (4 * n + 4) (4 * m + 4) (r ^ n) ((s - r) ^ m) _ (hintX1.below (by first | with_reducible exact Below.refl _ _ | with_reducible exact bl1 _ _)) (hintX2.below (by first | with_reducible exact Below.refl _ _ | with_reducible exact bl1 _ _)) (by omega) (by omega)).mono ?_; rintro r wX3 ⟨negX3, aX3, nX3, cX3, rfl, hintX3, hbX3⟩; have hCX3 : Below wX2.heap.size wX2 wX3 := (by first | with_reducible exact hbX3 | with_reducible exact bthen (bl1 _ _) hbX3); have hBX3 := bthen hBX2 hCX3; (try with_reducible have gX3 := (noi_new wX2 26).below hbX3); replace hintX1 := hintX1.below hCX3; (try replace gX1 := gX1.below hCX3); replace hintX2 := hintX2.below hCX3; (try replace gX2 := gX2.below hCX3); have hlX3 := hBX3.size; (try have mX1 := gX1.lt); (try have eX1 := Nat.ne_of_lt mX1); (try have eX1' := Nat.ne_of_gt mX1); (try obtain ⟨zX10, zX11, zX12⟩ := gX1); (try have mX2 := gX2.lt); (try have eX2 := Nat.ne_of_lt mX2); (try have eX2' := Nat.ne_of_gt mX2); (try obtain ⟨zX20, zX21, zX22⟩ := gX2); (try have mX3 := gX3.lt); (try have eX3 := Nat.ne_of_lt mX3); (try have eX3' := Nat.ne_of_gt mX3); (try obtain ⟨zX30, zX31, zX32⟩ := gX3))
        | (go_at_call 154; have hq := hBX1; rw [unhide HSR]; refine (raised_int (s - r) m _ (by omega) (by omega) (by omega)).mono ?_; rintro r wX2 ⟨negX2, aX2, nX2, cX2, rfl, hintX2, hbX2⟩; have hCX2 : Below wX1.heap.size wX1 wX2 := (by first | with_reducible exact hbX2 | with_reducible exact bthen (bl1 _ _) hbX2); have hBX2 := bthen hBX1 hCX2; (try with_reducible have gX2 := (noi_new wX1 26).below hbX2); replace hintX1 := hintX1.below hCX2; (try replace gX1 := gX1.below hCX2); have hlX2 := hBX2.size)
        | (go_at_call 154; refine (raised_int r n _ (by omega) (by omega) (by omega)).mono ?_; rintro r wX1 ⟨negX1, aX1, nX1, cX1, rfl, hintX1, hbX1⟩; have hBX1 : Below W.heap.size W wX1 := (by first | with_reducible exact bthen (Below.refl _ _).drew hbX1 | with_reducible exact bthen (bl1 _ _).drew hbX1); (try with_reducible have gX1 := ((noi_new W 26).below (Below.refl _ _).drew).below hbX1); have hlX1 := hBX1.size))
    all_goals
      go_wp2_with fail
      go_meet
      refine ⟨⟨_, ⟨negX3, aX3, nX3, cX3⟩, rfl, ?_, ?_, ?_, ?_, ?_⟩, ?_, ?_⟩
      · simp [go_sem, *]
      · simp [go_sem, *]
      · first | with_reducible exact IntAt.mono (hintX3.below (bl1 _ _)) (by omega) | with_reducible exact IntAt.mono (hintX3.put2 (by assumption) (by assumption) _ _) (by omega)
      · first | exact Nat.le_refl _ | exact hlX1 | exact hlX2 | exact hlX3
      · simp [World.setCell]; try omega
      · intro B hB o; cases hB; simp [go_sem, *]
      · repeat' (first | with_reducible exact hBX3 | with_reducible exact hBX2 | with_reducible exact hBX1 | with_reducible exact Below.refl _ _ | with_reducible refine Below.drew ?_ | with_reducible refine balloc ?_ _ | with_reducible refine Below.setCell ?_ (by first | exact Nat.le_refl _ | exact hlX1 | exact hlX2 | exact hlX3) _)
  case rest =>
  obtain ⟨⟨BX, xX, rfl, jX0, jX1, hintX, hHX, hltX⟩, hfzX, hblX⟩ := hcut
  have XX : NmC wc BX xX := ⟨jX0, jX1⟩
  have F0 : ∀ o, wc.frozen? ⟨BX, o, none⟩ = false := hfzX BX rfl
  have L : LwC W w.heap.size k p q r s := ⟨i0, i1, i2, i3, i4⟩
  replace L := L.below hblX
  replace R := R.below hblX
  replace hBW := bthen hBW hblX
  have hn0 : w.heap.size + 1 < BX := Nat.lt_of_lt_of_le lR hHX
  clear i0 i1 i2 i3 i4 HK hblX hfzX
  go_wp2_with fail
  go_loopw [7] (fun kk wr => ∃ (i : Nat) (X : Nm), kk = .int .i64 ((i : Int) + 1) ∧ i ≤ n ∧ NmC wr BX X ∧ (∀ o, wr.frozen? ⟨BX, o, none⟩ = false) ∧ IntAt wr X.neg X.a X.n X.cap (408 + 20 * i) (wayF (r ^ n * (s - r) ^ m) m i) ∧ NoI wr (w.heap.size + 1) ∧ Below w.heap.size w wr) (fun kk _ => n + 1 - (intOf kk).toNat)
  case atStart => exact ⟨0, xX, rfl, Nat.zero_le _, XX, F0, hintX, R, hBW⟩
  case round =>
    obtain ⟨i, X, rfl, hi, hX, hF, hint, R, hB⟩ := hrel
    by_cases hin : i < n
    · have hin' : (i : Int) + 1 ≤ n := by omega
      have HA := hide (show IntKind.i64.wrap ((m : Int) + ((i : Int) + 1)) = (m : Int) + ((i : Int) + 1) from i64_id _ (by omega) (by omega))
      have HKr := hide (show ∀ w', Below wr.heap.size wr w' → (w'.cell? ⟨BX, 0, none⟩ = some (.bool X.neg) ∧ w'.cell? ⟨BX, 1, none⟩ = some (.slice X.a X.n X.cap)) from fun w' hB => ⟨(hX.below hB).c0, (hX.below hB).c1⟩)
      have lX := hX.lt
      have hint := hide hint
      obtain ⟨x0, x1⟩ := unhide HKr _ (Below.refl _ _)
      go_wp2_with fail
      go_region_with
        (first
          | (go_at_call 119; have hq := hD3; refine (floor_any _ _ _ _ _ _ _ _ (408 + 20 * i + 4) 4 (wayF (r ^ n * (s - r) ^ m) m i * ((m : Int) + ((i : Int) + 1))) ((i : Int) + 1) _ (hint2.below hb3) hint3 (by omega) (by omega)).mono ?_; rintro r' w4 ⟨neg4, a4, n4, c4, rfl, hint4, hb4⟩; have hD4 := bthen hD3 hb4; have lD4 := hD4.size; have X4 := hX.below hD4; obtain ⟨z0, z1⟩ := X4; have F4 : ∀ o, w4.frozen? ⟨BX, o, none⟩ = false := fun o => (hD4.frozen (p := ⟨BX, o, none⟩) lX).trans (hF o))
          | (go_at_call 66; have hq := hD1; refine (mul_int _ _ _ _ _ _ _ _ (408 + 20 * i) 4 (wayF (r ^ n * (s - r) ^ m) m i) ((m : Int) + ((i : Int) + 1)) _ ((unhide hint).below hD1) hint1 (by omega) (by omega)).mono ?_; rintro r' w2 ⟨neg2, a2, n2, c2, rfl, hint2, hb2⟩; have hD2 := bthen hD1 hb2; obtain ⟨b0, b1⟩ := hX.below hD2)
          | (go_at_call 43; have hq := hD2; refine (numOf_int ((i : Int) + 1) _ (by omega) (by omega)).mono ?_; rintro r' w3 ⟨neg3, a3, n3, c3, rfl, hint3, hb3⟩; have hD3 := bthen hD2 hb3; obtain ⟨c0, c1⟩ := hX.below hD3)
          | (go_at_call 43; rw [unhide HA]; refine (numOf_int ((m : Int) + ((i : Int) + 1)) _ (by omega) (by omega)).mono ?_; rintro r' w1 ⟨neg1, a1, n1, c1, rfl, hint1, hb1⟩; have hD1 : Below wr.heap.size wr w1 := bthen (by repeat' (first | with_reducible exact Below.refl _ _ | with_reducible refine Below.drew ?_)) hb1; obtain ⟨d0, d1⟩ := hX.below hD1))
      all_goals
        go_wp2_with fail
        go_roundw
        case rel => exact ⟨i + 1, ⟨neg4, a4, n4, c4⟩, by go_num, by omega, put_nm2 (z := X) ⟨z0, z1⟩ ⟨neg4, a4, n4, c4⟩, put_fz2 F4 _ _, (hint4.put2 z0 z1 _ _).mono (by omega), (R.below hD4).off (by omega) _ _, set2 (bthen hB hD4) (by omega) _ _⟩
        case measure => simp [intOf]; omega
    · have hie : i = n := by omega
      subst hie
      obtain ⟨x0, x1⟩ := hX
      obtain ⟨z0, z1, z2⟩ := R
      have hint := hide hint
      go_wp2_with fail
      refine bodyPost_ret (v := .agg #[.bool X.neg, .slice X.a X.n X.cap]) (by simp [results, Tryz.results153, go_sem, z0, z1]) rfl ⟨X.neg, X.a, X.n, X.cap, rfl, ?_, ?_⟩
      · exact (unhide hint).put2 z0 z1 _ _
      · exact set2 hB (Nat.le_succ _) _ _
end Go.Proofs.YtgmnknmjainababGreat

namespace Go.Proofs.YtgmnknmjainababGreat
set_option linter.unusedVariables false
set_option linter.unusedSimpArgs false
set_option linter.unnecessarySimpa false
open Go.RowKit

theorem div_le_div_pos {a p q : Int} (hp : 0 < p) (hpq : p ≤ q) (ha : 0 ≤ a) : a / q ≤ a / p := by
  have hq : 0 < q := by omega
  have h0 : 0 ≤ a / q := Int.ediv_nonneg ha (by omega)
  rw [Int.le_ediv_iff_mul_le hp]
  have h1 := Int.ediv_mul_le a (show q ≠ 0 by omega)
  have h2 := Int.mul_le_mul_of_nonneg_left hpq h0
  omega
theorem div_le_div_neg {a p q : Int} (hp : 0 < p) (hpq : p ≤ q) (ha : a ≤ 0) : a / p ≤ a / q := by
  have hq : 0 < q := by omega
  have h0 : a / p ≤ 0 := by
    have := Int.ediv_le_ediv hp ha
    simpa using this
  rw [Int.le_ediv_iff_mul_le hq]
  have h1 := Int.ediv_mul_le a (show p ≠ 0 by omega)
  have h2 := Int.mul_le_mul_of_nonneg_left hpq (show 0 ≤ -(a / p) by omega)
  rw [Int.neg_mul, Int.neg_mul] at h2
  omega
theorem over_least {l h p q : Int} (hlh : l ≤ h) (hp : 0 < p) (hpq : p ≤ q) :
    leastZ (pr4 (l / p) (l / q) (h / p) (h / q)) 3 = if l < 0 then l / p else l / q := by
  have m1 : l / p ≤ h / p := Int.ediv_le_ediv hp hlh
  have m2 : l / q ≤ h / q := Int.ediv_le_ediv (by omega) hlh
  have d1 : 0 ≤ l → l / q ≤ l / p := div_le_div_pos hp hpq
  have d2 : l ≤ 0 → l / p ≤ l / q := div_le_div_neg hp hpq
  have d3 : 0 ≤ h → h / q ≤ h / p := div_le_div_pos hp hpq
  have d4 : h ≤ 0 → h / p ≤ h / q := div_le_div_neg hp hpq
  simp only [leastZ, pr4]
  simp
  generalize l / p = A at *
  generalize l / q = B at *
  generalize h / p = C at *
  generalize h / q = D at *
  split <;> split <;> split <;> split <;> omega
theorem over_most {l h p q : Int} (hlh : l ≤ h) (hp : 0 < p) (hpq : p ≤ q) :
    mostZ (pr4 (-(-l / p)) (-(-l / q)) (-(-h / p)) (-(-h / q))) 3 = if h < 0 then -(-h / q) else -(-h / p) := by
  have m1 : -h / p ≤ -l / p := Int.ediv_le_ediv hp (by omega)
  have m2 : -h / q ≤ -l / q := Int.ediv_le_ediv (by omega) (by omega)
  have d1 : 0 ≤ -l → -l / q ≤ -l / p := div_le_div_pos hp hpq
  have d2 : -l ≤ 0 → -l / p ≤ -l / q := div_le_div_neg hp hpq
  have d3 : 0 ≤ -h → -h / q ≤ -h / p := div_le_div_pos hp hpq
  have d4 : -h ≤ 0 → -h / p ≤ -h / q := div_le_div_neg hp hpq
  simp only [mostZ, pr4]
  simp
  generalize -l / p = A at *
  generalize -l / q = B at *
  generalize -h / p = C at *
  generalize -h / q = D at *
  split <;> split <;> split <;> split <;> omega
end Go.Proofs.YtgmnknmjainababGreat

namespace Go.Proofs.YtgmnknmjainababGreat
set_option linter.unusedVariables false
set_option linter.unusedSimpArgs false
set_option linter.unnecessarySimpa false
open Go.RowKit
attribute [local go_sem ↓] Go.wp_at_zero Go.wp_at_succ

theorem cell_put2 {w : World} {B B' o : Nat} {v : Option Value} (h : w.cell? ⟨B, o, none⟩ = v) (hne : B ≠ B') (u0 u1 : Value) : ((w.setCell ⟨B', 0, none⟩ u0).setCell ⟨B', 1, none⟩ u1).cell? ⟨B, o, none⟩ = v := by
  have ne : ∀ i : Nat, (⟨B', i, none⟩ : Addr) ≠ ⟨B, o, none⟩ := fun i e => hne (by injection e with e1; exact e1.symm)
  rw [World.cell?_setCell_other _ _ _ _ (ne 1), World.cell?_setCell_other _ _ _ _ (ne 0)]
  exact h
theorem cell_put5' {w : World} {B B' o : Nat} {v : Option Value} (h : w.cell? ⟨B, o, none⟩ = v) (hne : B ≠ B') (u0 u1 u2 u3 u4 : Value) :
    (((((w.setCell ⟨B', 0, none⟩ u0).setCell ⟨B', 1, none⟩ u1).setCell ⟨B', 2, none⟩ u2).setCell ⟨B', 3, none⟩ u3).setCell ⟨B', 4, none⟩ u4).cell? ⟨B, o, none⟩ = v := by
  have ne : ∀ i : Nat, (⟨B', i, none⟩ : Addr) ≠ ⟨B, o, none⟩ := fun i e => hne (by injection e with e1; exact e1.symm)
  rw [World.cell?_setCell_other _ _ _ _ (ne 4), World.cell?_setCell_other _ _ _ _ (ne 3), World.cell?_setCell_other _ _ _ _ (ne 2), World.cell?_setCell_other _ _ _ _ (ne 1), World.cell?_setCell_other _ _ _ _ (ne 0)]
  exact h
theorem SpC.put2 {w : World} {B B' : Nat} {s : Sp} (h : SpC w B s) (hne : B ≠ B') (u0 u1 : Value) : SpC ((w.setCell ⟨B', 0, none⟩ u0).setCell ⟨B', 1, none⟩ u1) B s :=
  ⟨cell_put2 h.c0 hne _ _, cell_put2 h.c1 hne _ _, cell_put2 h.c2 hne _ _, cell_put2 h.c3 hne _ _, cell_put2 h.c4 hne _ _⟩
theorem NmC.put2 {w : World} {B B' : Nat} {x : Nm} (h : NmC w B x) (hne : B ≠ B') (u0 u1 : Value) : NmC ((w.setCell ⟨B', 0, none⟩ u0).setCell ⟨B', 1, none⟩ u1) B x :=
  ⟨cell_put2 h.c0 hne _ _, cell_put2 h.c1 hne _ _⟩
theorem NoC.put2 {w : World} {B B' : Nat} (h : NoC w B) (hne : B ≠ B') (u0 u1 : Value) : NoC ((w.setCell ⟨B', 0, none⟩ u0).setCell ⟨B', 1, none⟩ u1) B := by
  obtain ⟨q0, q1, q2, q3, q4, q5⟩ := h
  exact ⟨cell_put2 q0 hne _ _, cell_put2 q1 hne _ _, cell_put2 q2 hne _ _, cell_put2 q3 hne _ _, cell_put2 q4 hne _ _, fun o => by rw [frozen_set', frozen_set']; exact q5 o⟩
theorem SpAt.put2 {w : World} {s : Sp} {k : Nat} {lo hi : Int} (h : SpAt w s k lo hi) {B : Nat} {x0 : Bool} {y0 : Option Addr} {y1 y2 : Nat} (h0 : w.cell? ⟨B, 0, none⟩ = some (.bool x0)) (h1 : w.cell? ⟨B, 1, none⟩ = some (.slice y0 y1 y2)) (u0 u1 : Value) :
    SpAt ((w.setCell ⟨B, 0, none⟩ u0).setCell ⟨B, 1, none⟩ u1) s k lo hi := ⟨h.lo.put2 h0 h1 _ _, h.hi.put2 h0 h1 _ _⟩
end Go.Proofs.YtgmnknmjainababGreat

namespace Go.Proofs.YtgmnknmjainababGreat
set_option linter.unusedVariables false
set_option linter.unusedSimpArgs false
set_option linter.unnecessarySimpa false
open Go.RowKit

theorem noi_new' (w : World) (B : Nat) (hB : w.heap.size = B) (T : TypeId) : NoI (w.alloc (.cells #[.bool false, .slice none 0 0] T)) B := by subst hB; exact noi_new w T
theorem hs1 (w : World) (o1 : Obj) : (w.alloc o1).heap.size = w.heap.size + 1 := by simp
/-- Two variables that were made behind world W. -/
def TwoV (W wx : World) (k1 k2 : Nat) (z1 z2 : Int) (p q : Value) : Prop :=
  VarAt wx p W.heap.size k1 z1 ∧ VarAt wx q W.heap.size k2 z2 ∧ p ≠ q ∧ FzP wx p ∧ FzP wx q ∧ Below W.heap.size W wx

theorem put_nm {w : World} {B : Nat} (h : NoI w B) (x : Nm) : NmC ((w.setCell ⟨B, 0, none⟩ (.bool x.neg)).setCell ⟨B, 1, none⟩ (.slice x.a x.n x.cap)) B x := by
  obtain ⟨q0, q1, q2⟩ := h
  constructor <;> simp [go_sem, q0, q1]
theorem put_fz {w : World} {B B' : Nat} (h : ∀ o, w.frozen? ⟨B, o, none⟩ = false) (u0 u1 : Value) : ∀ o, ((w.setCell ⟨B', 0, none⟩ u0).setCell ⟨B', 1, none⟩ u1).frozen? ⟨B, o, none⟩ = false := fun o => by rw [frozen_set', frozen_set']; exact h o
theorem nepp {B B' : Nat} (h : B ≠ B') : (Value.pointer (some ⟨B, 0, none⟩)) ≠ .pointer (some ⟨B', 0, none⟩) := by intro e; injection e with e1; injection e1 with e2; injection e2 with e3; exact h e3

theorem two_mk {W wx : World} {k1 k2 : Nat} {z1 z2 : Int} {B B' : Nat} {x y : Nm} (hx : NmC wx B x) (hy : NmC wx B' y) (ix : IntAt wx x.neg x.a x.n x.cap k1 z1) (iy : IntAt wx y.neg y.a y.n y.cap k2 z2) (h1 : W.heap.size ≤ B) (h2 : W.heap.size ≤ B') (hne : B ≠ B') (f1 : ∀ o, wx.frozen? ⟨B, o, none⟩ = false) (f2 : ∀ o, wx.frozen? ⟨B', o, none⟩ = false) (hb : Below W.heap.size W wx) :
    TwoV W wx k1 k2 z1 z2 (.pointer (some ⟨B, 0, none⟩)) (.pointer (some ⟨B', 0, none⟩)) :=
  ⟨⟨B, x, rfl, hx.c0, hx.c1, ix, h1, hx.lt⟩, ⟨B', y, rfl, hy.c0, hy.c1, iy, h2, hy.lt⟩, nepp hne, fun C hC o => (by cases hC; exact f1 o), fun C hC o => (by cases hC; exact f2 o), hb⟩

variable {W w2 : World} {k1 k2 : Nat} {z1 z2 : Int} {x y : Nm} {T : TypeId}
theorem two_aa (hb : Below W.heap.size W w2) (ix : IntAt w2 x.neg x.a x.n x.cap k1 z1) (iy : IntAt w2 y.neg y.a y.n y.cap k2 z2) :
    TwoV W ((w2.alloc (.cells #[.bool x.neg, .slice x.a x.n x.cap] T)).alloc (.cells #[.bool y.neg, .slice y.a y.n y.cap] T)) k1 k2 z1 z2 (.pointer (some ⟨w2.heap.size, 0, none⟩)) (.pointer (some ⟨w2.heap.size + 1, 0, none⟩)) :=
  two_mk (x := x) (y := y) ⟨by simp [go_sem], by simp [go_sem]⟩ ⟨by simp [go_sem], by simp [go_sem]⟩ (ix.below (bl2 _ _ _)) (iy.below (bl2 _ _ _)) hb.size (Nat.le_succ_of_le hb.size) (Nat.ne_of_lt (Nat.lt_succ_self _)) (fun o => by simp [go_sem]) (fun o => by simp [go_sem]) (bthen hb (bl2 _ _ _))
theorem two_aa' (hb : Below W.heap.size W w2) (ix : IntAt w2 x.neg x.a x.n x.cap k1 z1) (iy : IntAt w2 y.neg y.a y.n y.cap k2 z2) :
    TwoV W ((w2.alloc (.cells #[.bool y.neg, .slice y.a y.n y.cap] T)).alloc (.cells #[.bool x.neg, .slice x.a x.n x.cap] T)) k1 k2 z1 z2 (.pointer (some ⟨w2.heap.size + 1, 0, none⟩)) (.pointer (some ⟨w2.heap.size, 0, none⟩)) :=
  two_mk (x := x) (y := y) ⟨by simp [go_sem], by simp [go_sem]⟩ ⟨by simp [go_sem], by simp [go_sem]⟩ (ix.below (bl2 _ _ _)) (iy.below (bl2 _ _ _)) (Nat.le_succ_of_le hb.size) hb.size (Nat.ne_of_gt (Nat.lt_succ_self _)) (fun o => by simp [go_sem]) (fun o => by simp [go_sem]) (bthen hb (bl2 _ _ _))
theorem two_sa {B : Nat} (hb : Below W.heap.size W w2) (ix : IntAt w2 x.neg x.a x.n x.cap k1 z1) (iy : IntAt w2 y.neg y.a y.n y.cap k2 z2) (g : NoI w2 B) (h1 : W.heap.size ≤ B) :
    TwoV W (((w2.setCell ⟨B, 0, none⟩ (.bool x.neg)).setCell ⟨B, 1, none⟩ (.slice x.a x.n x.cap)).alloc (.cells #[.bool y.neg, .slice y.a y.n y.cap] T)) k1 k2 z1 z2 (.pointer (some ⟨B, 0, none⟩)) (.pointer (some ⟨w2.heap.size, 0, none⟩)) := by
  have hx := put_nm g x
  have ix' := ix.put2 g.c0 g.c1 (.bool x.neg) (.slice x.a x.n x.cap)
  have iy' := iy.put2 g.c0 g.c1 (.bool x.neg) (.slice x.a x.n x.cap)
  have hl := g.lt
  have hs : w2.heap.size = ((w2.setCell ⟨B, 0, none⟩ (.bool x.neg)).setCell ⟨B, 1, none⟩ (.slice x.a x.n x.cap)).heap.size := by simp [World.setCell]
  have hf := put_fz (B' := B) (fun o => g.fz o) (.bool x.neg) (.slice x.a x.n x.cap)
  have hb' := set2 hb h1 (.bool x.neg) (.slice x.a x.n x.cap)
  generalize ((w2.setCell ⟨B, 0, none⟩ (.bool x.neg)).setCell ⟨B, 1, none⟩ (.slice x.a x.n x.cap)) = V at *
  rw [hs]
  exact two_mk (x := x) (y := y) (hx.below (bl1 _ _)) ⟨by simp [go_sem], by simp [go_sem]⟩ (ix'.below (bl1 _ _)) (iy'.below (bl1 _ _)) h1 hb'.size (by omega) (fun o => ((bl1 V _).frozen (p := ⟨B, o, none⟩) (show B < V.heap.size by omega)).trans (hf o)) (fun o => by simp [go_sem]) (bthen hb' (bl1 _ _))
theorem two_as {B : Nat} (hb : Below W.heap.size W w2) (ix : IntAt w2 x.neg x.a x.n x.cap k1 z1) (iy : IntAt w2 y.neg y.a y.n y.cap k2 z2) (g : NoI w2 B) (h1 : W.heap.size ≤ B) :
    TwoV W (((w2.setCell ⟨B, 0, none⟩ (.bool y.neg)).setCell ⟨B, 1, none⟩ (.slice y.a y.n y.cap)).alloc (.cells #[.bool x.neg, .slice x.a x.n x.cap] T)) k1 k2 z1 z2 (.pointer (some ⟨w2.heap.size, 0, none⟩)) (.pointer (some ⟨B, 0, none⟩)) := by
  obtain ⟨a1, a2, a3, a4, a5, a6⟩ := two_sa (T := T) hb iy ix g h1
  exact ⟨a2, a1, fun e => a3 e.symm, a5, a4, a6⟩
theorem two_ss {B B' : Nat} (hb : Below W.heap.size W w2) (ix : IntAt w2 x.neg x.a x.n x.cap k1 z1) (iy : IntAt w2 y.neg y.a y.n y.cap k2 z2) (g : NoI w2 B) (g' : NoI w2 B') (h1 : W.heap.size ≤ B) (h2 : W.heap.size ≤ B') (hne : B ≠ B') :
    TwoV W ((((w2.setCell ⟨B, 0, none⟩ (.bool x.neg)).setCell ⟨B, 1, none⟩ (.slice x.a x.n x.cap)).setCell ⟨B', 0, none⟩ (.bool y.neg)).setCell ⟨B', 1, none⟩ (.slice y.a y.n y.cap)) k1 k2 z1 z2 (.pointer (some ⟨B, 0, none⟩)) (.pointer (some ⟨B', 0, none⟩)) := by
  have hx := put_nm g x
  have ix' := ix.put2 g.c0 g.c1 (.bool x.neg) (.slice x.a x.n x.cap)
  have iy' := iy.put2 g.c0 g.c1 (.bool x.neg) (.slice x.a x.n x.cap)
  have hf := put_fz (B' := B) (fun o => g.fz o) (.bool x.neg) (.slice x.a x.n x.cap)
  have hf' := put_fz (B' := B) (fun o => g'.fz o) (.bool x.neg) (.slice x.a x.n x.cap)
  have hb' := set2 hb h1 (.bool x.neg) (.slice x.a x.n x.cap)
  have q0 := cell_put2 g'.c0 (fun e => hne e.symm) (.bool x.neg) (.slice x.a x.n x.cap)
  have q1 := cell_put2 g'.c1 (fun e => hne e.symm) (.bool x.neg) (.slice x.a x.n x.cap)
  generalize ((w2.setCell ⟨B, 0, none⟩ (.bool x.neg)).setCell ⟨B, 1, none⟩ (.slice x.a x.n x.cap)) = V at *
  have g2 : NoI V B' := ⟨q0, q1, hf'⟩
  exact two_mk (x := x) (y := y) (hx.put2 hne _ _) (put_nm g2 y) (ix'.put2 q0 q1 _ _) (iy'.put2 q0 q1 _ _) h1 h2 hne (put_fz hf _ _) (put_fz hf' _ _) (set2 hb' h2 _ _)
end Go.Proofs.YtgmnknmjainababGreat
