/-
  What span.Check and tailsureref.CheckSpan answer of whatever span, and that they leave old memory alone.
-/
import Derived.Test.YtibbhnmbmgllcaaNumK
namespace Go.Proofs.Ytibbhnmbmgllcaa
set_option linter.unusedVariables false
set_option linter.unusedSimpArgs false
set_option linter.unnecessarySimpa false
open Go.RowKit

/-- A span as it lies in a frame. -/
structure Sp where
  ln : Bool
  la : Option Addr
  lN : Nat
  lc : Nat
  hn : Bool
  ha : Option Addr
  hN : Nat
  hc : Nat
  bits : Int

/-- Its digits, whatever they are. -/
structure SpDig (w : World) (s : Sp) (d e : Nat → Int) : Prop where
  lo : Dig w s.la s.lN s.lc d
  hi : Dig w s.ha s.hN s.hc e

theorem SpDig.below {w w' : World} {s : Sp} {d e : Nat → Int} (h : SpDig w s d e) (hb : Below w.heap.size w w') : SpDig w' s d e := ⟨h.lo.below hb, h.hi.below hb⟩

/-- What Check says. -/
def chkE (s : Sp) (d e : Nat → Int) : Int :=
  if s.bits < 1 ∨ 120 < s.bits then 3
  else if rightB s.ln s.lN d = false ∨ rightB s.hn s.hN e = false then 1
  else if 4000 < lenZ s.lN d ∨ 4000 < lenZ s.hN e then 2
  else if 0 < cmpI s.ln s.hn d e s.lN s.hN then 4
  else 0

theorem chkE_cases (s : Sp) (d e : Nat → Int) : chkE s d e = 0 ∨ chkE s d e = 1 ∨ chkE s d e = 2 ∨ chkE s d e = 3 ∨ chkE s d e = 4 := by
  unfold chkE; repeat' split
  all_goals simp

set_option maxHeartbeats 400000 in
theorem between_any (n l m : Int) (w : World) :
    Calls Try.prog 75 #[.int .i64 n, .int .i64 l, .int .i64 m] w fun r w' => r = .returned (.bool (decide (l ≤ n) && decide (n ≤ m))) ∧ w' = w := by
  by_cases h : l ≤ n
  · go_enter Try.func75, Try.ntmps75
    go_wp2
    go_ret
    exact ⟨by simp [h], rfl⟩
  · go_enter Try.func75, Try.ntmps75
    go_wp2
    go_ret
    exact ⟨by simp; omega, rfl⟩

set_option maxRecDepth 100000 in
set_option maxHeartbeats 4000000 in
theorem check_any (s : Sp) (d e : Nat → Int) (w : World) (h : SpDig w s d e) :
    Calls Try.prog 25 #[.agg #[.bool s.ln, .slice s.la s.lN s.lc, .bool s.hn, .slice s.ha s.hN s.hc, .int .i64 s.bits]] w fun r w' => r = .returned (.int .i64 (chkE s d e)) ∧ Below w.heap.size w w' := by
  by_cases c0 : s.bits < 1
  · have HC := hide (show chkE s d e = 3 by unfold chkE; simp [c0])
    go_enter Try.func25, Try.ntmps25
    go_wp2_with fail
    go_ret
    exact ⟨by rw [unhide HC]; rfl, bl1 _ _⟩
  by_cases c1 : 120 < s.bits
  · have HC := hide (show chkE s d e = 3 by unfold chkE; simp [c0, c1])
    go_enter Try.func25, Try.ntmps25
    go_wp2_with fail
    go_ret
    exact ⟨by rw [unhide HC]; rfl, bl1 _ _⟩
  by_cases c2 : rightB s.ln s.lN d = false
  · have HC := hide (show chkE s d e = 1 by unfold chkE; simp [c0, c1, c2])
    go_enter Try.func25, Try.ntmps25
    go_wp2_with fail
    refine (isRight_any _ _ _ _ d _ (h.lo.below (bl1 _ _))).mono ?_
    rintro r w1 ⟨rfl, hb1⟩
    obtain ⟨hsz1, hcell1, hfz1⟩ := near (w.heap.size + 1) (by simp) hb1
    go_wp2_with fail
    go_ret
    exact ⟨by rw [unhide HC]; rfl, bthen (bl1 _ _) hb1⟩
  have c2' : rightB s.ln s.lN d  = true := by simpa using c2
  by_cases c3 : rightB s.hn s.hN e = false
  · have HC := hide (show chkE s d e = 1 by unfold chkE; simp [c0, c1, c2, c3])
    go_enter Try.func25, Try.ntmps25
    go_wp2_with fail
    refine (isRight_any _ _ _ _ d _ (h.lo.below (bl1 _ _))).mono ?_
    rintro r w1 ⟨rfl, hb1⟩
    obtain ⟨hsz1, hcell1, hfz1⟩ := near (w.heap.size + 1) (by simp) hb1
    go_wp2_with fail
    refine (isRight_any _ _ _ _ e _ (h.hi.below (bthen (bl1 _ _) hb1))).mono ?_
    rintro r w2 ⟨rfl, hb2⟩
    obtain ⟨hsz2, hcell2, hfz2⟩ := near (w.heap.size + 1) hsz1 hb2
    go_wp2_with fail
    go_ret
    exact ⟨by rw [unhide HC]; rfl, bthen (bthen (bl1 _ _) hb1) hb2⟩
  have c3' : rightB s.hn s.hN e  = true := by simpa using c3
  by_cases c4 : 4000 < lenZ s.lN d
  · have HC := hide (show chkE s d e = 2 by unfold chkE; simp [c0, c1, c2, c3, c4])
    go_enter Try.func25, Try.ntmps25
    go_wp2_with fail
    refine (isRight_any _ _ _ _ d _ (h.lo.below (bl1 _ _))).mono ?_
    rintro r w1 ⟨rfl, hb1⟩
    obtain ⟨hsz1, hcell1, hfz1⟩ := near (w.heap.size + 1) (by simp) hb1
    go_wp2_with fail
    refine (isRight_any _ _ _ _ e _ (h.hi.below (bthen (bl1 _ _) hb1))).mono ?_
    rintro r w2 ⟨rfl, hb2⟩
    obtain ⟨hsz2, hcell2, hfz2⟩ := near (w.heap.size + 1) hsz1 hb2
    go_wp2_with fail
    refine (len_any _ _ _ _ d _ (h.lo.below (bthen (bthen (bl1 _ _) hb1) hb2))).mono ?_
    rintro r w3 ⟨rfl, hb3⟩
    obtain ⟨hsz3, hcell3, hfz3⟩ := near (w.heap.size + 1) hsz2 hb3
    go_wp2_with fail
    go_ret
    exact ⟨by rw [unhide HC]; rfl, bthen (bthen (bthen (bl1 _ _) hb1) hb2) hb3⟩
  by_cases c5 : 4000 < lenZ s.hN e
  · have HC := hide (show chkE s d e = 2 by unfold chkE; simp [c0, c1, c2, c3, c4, c5])
    go_enter Try.func25, Try.ntmps25
    go_wp2_with fail
    refine (isRight_any _ _ _ _ d _ (h.lo.below (bl1 _ _))).mono ?_
    rintro r w1 ⟨rfl, hb1⟩
    obtain ⟨hsz1, hcell1, hfz1⟩ := near (w.heap.size + 1) (by simp) hb1
    go_wp2_with fail
    refine (isRight_any _ _ _ _ e _ (h.hi.below (bthen (bl1 _ _) hb1))).mono ?_
    rintro r w2 ⟨rfl, hb2⟩
    obtain ⟨hsz2, hcell2, hfz2⟩ := near (w.heap.size + 1) hsz1 hb2
    go_wp2_with fail
    refine (len_any _ _ _ _ d _ (h.lo.below (bthen (bthen (bl1 _ _) hb1) hb2))).mono ?_
    rintro r w3 ⟨rfl, hb3⟩
    obtain ⟨hsz3, hcell3, hfz3⟩ := near (w.heap.size + 1) hsz2 hb3
    go_wp2_with fail
    refine (len_any _ _ _ _ e _ (h.hi.below (bthen (bthen (bthen (bl1 _ _) hb1) hb2) hb3))).mono ?_
    rintro r w4 ⟨rfl, hb4⟩
    obtain ⟨hsz4, hcell4, hfz4⟩ := near (w.heap.size + 1) hsz3 hb4
    go_wp2_with fail
    go_ret
    exact ⟨by rw [unhide HC]; rfl, bthen (bthen (bthen (bthen (bl1 _ _) hb1) hb2) hb3) hb4⟩
  by_cases c6 : 0 < cmpI s.ln s.hn d e s.lN s.hN
  · have HC := hide (show chkE s d e = 4 by unfold chkE; simp [c0, c1, c2, c3, c4, c5, c6])
    go_enter Try.func25, Try.ntmps25
    go_wp2_with fail
    refine (isRight_any _ _ _ _ d _ (h.lo.below (bl1 _ _))).mono ?_
    rintro r w1 ⟨rfl, hb1⟩
    obtain ⟨hsz1, hcell1, hfz1⟩ := near (w.heap.size + 1) (by simp) hb1
    go_wp2_with fail
    refine (isRight_any _ _ _ _ e _ (h.hi.below (bthen (bl1 _ _) hb1))).mono ?_
    rintro r w2 ⟨rfl, hb2⟩
    obtain ⟨hsz2, hcell2, hfz2⟩ := near (w.heap.size + 1) hsz1 hb2
    go_wp2_with fail
    refine (len_any _ _ _ _ d _ (h.lo.below (bthen (bthen (bl1 _ _) hb1) hb2))).mono ?_
    rintro r w3 ⟨rfl, hb3⟩
    obtain ⟨hsz3, hcell3, hfz3⟩ := near (w.heap.size + 1) hsz2 hb3
    go_wp2_with fail
    refine (len_any _ _ _ _ e _ (h.hi.below (bthen (bthen (bthen (bl1 _ _) hb1) hb2) hb3))).mono ?_
    rintro r w4 ⟨rfl, hb4⟩
    obtain ⟨hsz4, hcell4, hfz4⟩ := near (w.heap.size + 1) hsz3 hb4
    go_wp2_with fail
    refine (cmp_any _ _ _ _ _ _ _ _ d e _ (h.lo.below (bthen (bthen (bthen (bthen (bl1 _ _) hb1) hb2) hb3) hb4)) (h.hi.below (bthen (bthen (bthen (bthen (bl1 _ _) hb1) hb2) hb3) hb4))).mono ?_
    rintro r w5 ⟨rfl, hb5⟩
    obtain ⟨hsz5, hcell5, hfz5⟩ := near (w.heap.size + 1) hsz4 hb5
    go_wp2_with fail
    go_ret
    exact ⟨by rw [unhide HC]; rfl, bthen (bthen (bthen (bthen (bthen (bl1 _ _) hb1) hb2) hb3) hb4) hb5⟩
  have HC := hide (show chkE s d e = 0 by unfold chkE; simp [c0, c1, c2, c3, c4, c5, c6])
  go_enter Try.func25, Try.ntmps25
  go_wp2_with fail
  refine (isRight_any _ _ _ _ d _ (h.lo.below (bl1 _ _))).mono ?_
  rintro r w1 ⟨rfl, hb1⟩
  obtain ⟨hsz1, hcell1, hfz1⟩ := near (w.heap.size + 1) (by simp) hb1
  go_wp2_with fail
  refine (isRight_any _ _ _ _ e _ (h.hi.below (bthen (bl1 _ _) hb1))).mono ?_
  rintro r w2 ⟨rfl, hb2⟩
  obtain ⟨hsz2, hcell2, hfz2⟩ := near (w.heap.size + 1) hsz1 hb2
  go_wp2_with fail
  refine (len_any _ _ _ _ d _ (h.lo.below (bthen (bthen (bl1 _ _) hb1) hb2))).mono ?_
  rintro r w3 ⟨rfl, hb3⟩
  obtain ⟨hsz3, hcell3, hfz3⟩ := near (w.heap.size + 1) hsz2 hb3
  go_wp2_with fail
  refine (len_any _ _ _ _ e _ (h.hi.below (bthen (bthen (bthen (bl1 _ _) hb1) hb2) hb3))).mono ?_
  rintro r w4 ⟨rfl, hb4⟩
  obtain ⟨hsz4, hcell4, hfz4⟩ := near (w.heap.size + 1) hsz3 hb4
  go_wp2_with fail
  refine (cmp_any _ _ _ _ _ _ _ _ d e _ (h.lo.below (bthen (bthen (bthen (bthen (bl1 _ _) hb1) hb2) hb3) hb4)) (h.hi.below (bthen (bthen (bthen (bthen (bl1 _ _) hb1) hb2) hb3) hb4))).mono ?_
  rintro r w5 ⟨rfl, hb5⟩
  obtain ⟨hsz5, hcell5, hfz5⟩ := near (w.heap.size + 1) hsz4 hb5
  go_wp2_with fail
  go_ret
  exact ⟨by rw [unhide HC]; rfl, bthen (bthen (bthen (bthen (bthen (bl1 _ _) hb1) hb2) hb3) hb4) hb5⟩

set_option maxRecDepth 100000 in
set_option maxHeartbeats 4000000 in
theorem checkSpan_any (s : Sp) (d e : Nat → Int) (w : World) (h : SpDig w s d e) :
    Calls Try.prog 17 #[.agg #[.bool s.ln, .slice s.la s.lN s.lc, .bool s.hn, .slice s.ha s.hN s.hc, .int .i64 s.bits]] w fun r w' => r = .returned (.int .i64 (chkE s d e)) ∧ Below w.heap.size w w' := by
  by_cases c0 : s.bits < 1
  · have HC := hide (show chkE s d e = 3 by unfold chkE; simp [c0])
    have hb : (decide (1 ≤ s.bits) && decide (s.bits ≤ 120)) = false := by simp; omega
    go_enter Try.func17, Try.ntmps17
    go_wp2_with fail
    refine (between_any _ _ _ _).mono ?_
    rintro r w' ⟨rfl, rfl⟩
    go_wp2_with fail
    go_ret
    exact ⟨by rw [unhide HC]; rfl, bl1 _ _⟩
  by_cases c1 : 120 < s.bits
  · have HC := hide (show chkE s d e = 3 by unfold chkE; simp [c0, c1])
    have hb : decide (s.bits ≤ 120) = false := by simp; omega
    go_enter Try.func17, Try.ntmps17
    go_wp2_with fail
    refine (between_any _ _ _ _).mono ?_
    rintro r w' ⟨rfl, rfl⟩
    go_wp2_with fail
    go_ret
    exact ⟨by rw [unhide HC]; rfl, bl1 _ _⟩
  by_cases c2 : rightB s.ln s.lN d = false
  · have HC := hide (show chkE s d e = 1 by unfold chkE; simp [c0, c1, c2])
    have hb : (decide (1 ≤ s.bits) && decide (s.bits ≤ 120)) = true := by simp; omega
    go_enter Try.func17, Try.ntmps17
    go_wp2_with fail
    refine (between_any _ _ _ _).mono ?_
    rintro r w' ⟨rfl, rfl⟩
    go_wp2_with fail
    refine (isRight_any _ _ _ _ d _ (h.lo.below (bl1 _ _))).mono ?_
    rintro r w1 ⟨rfl, hb1⟩
    obtain ⟨hsz1, hcell1, hfz1⟩ := near (w.heap.size + 1) (by simp) hb1
    go_wp2_with fail
    go_ret
    exact ⟨by rw [unhide HC]; rfl, bthen (bl1 _ _) hb1⟩
  have c2' : rightB s.ln s.lN d  = true := by simpa using c2
  by_cases c3 : rightB s.hn s.hN e = false
  · have HC := hide (show chkE s d e = 1 by unfold chkE; simp [c0, c1, c2, c3])
    have hb : (decide (1 ≤ s.bits) && decide (s.bits ≤ 120)) = true := by simp; omega
    go_enter Try.func17, Try.ntmps17
    go_wp2_with fail
    refine (between_any _ _ _ _).mono ?_
    rintro r w' ⟨rfl, rfl⟩
    go_wp2_with fail
    refine (isRight_any _ _ _ _ d _ (h.lo.below (bl1 _ _))).mono ?_
    rintro r w1 ⟨rfl, hb1⟩
    obtain ⟨hsz1, hcell1, hfz1⟩ := near (w.heap.size + 1) (by simp) hb1
    go_wp2_with fail
    refine (isRight_any _ _ _ _ e _ (h.hi.below (bthen (bl1 _ _) hb1))).mono ?_
    rintro r w2 ⟨rfl, hb2⟩
    obtain ⟨hsz2, hcell2, hfz2⟩ := near (w.heap.size + 1) hsz1 hb2
    go_wp2_with fail
    go_ret
    exact ⟨by rw [unhide HC]; rfl, bthen (bthen (bl1 _ _) hb1) hb2⟩
  have c3' : rightB s.hn s.hN e  = true := by simpa using c3
  by_cases c4 : 4000 < lenZ s.lN d
  · have HC := hide (show chkE s d e = 2 by unfold chkE; simp [c0, c1, c2, c3, c4])
    have hb : (decide (1 ≤ s.bits) && decide (s.bits ≤ 120)) = true := by simp; omega
    go_enter Try.func17, Try.ntmps17
    go_wp2_with fail
    refine (between_any _ _ _ _).mono ?_
    rintro r w' ⟨rfl, rfl⟩
    go_wp2_with fail
    refine (isRight_any _ _ _ _ d _ (h.lo.below (bl1 _ _))).mono ?_
    rintro r w1 ⟨rfl, hb1⟩
    obtain ⟨hsz1, hcell1, hfz1⟩ := near (w.heap.size + 1) (by simp) hb1
    go_wp2_with fail
    refine (isRight_any _ _ _ _ e _ (h.hi.below (bthen (bl1 _ _) hb1))).mono ?_
    rintro r w2 ⟨rfl, hb2⟩
    obtain ⟨hsz2, hcell2, hfz2⟩ := near (w.heap.size + 1) hsz1 hb2
    go_wp2_with fail
    refine (len_any _ _ _ _ d _ (h.lo.below (bthen (bthen (bl1 _ _) hb1) hb2))).mono ?_
    rintro r w3 ⟨rfl, hb3⟩
    obtain ⟨hsz3, hcell3, hfz3⟩ := near (w.heap.size + 1) hsz2 hb3
    go_wp2_with fail
    go_ret
    exact ⟨by rw [unhide HC]; rfl, bthen (bthen (bthen (bl1 _ _) hb1) hb2) hb3⟩
  by_cases c5 : 4000 < lenZ s.hN e
  · have HC := hide (show chkE s d e = 2 by unfold chkE; simp [c0, c1, c2, c3, c4, c5])
    have hb : (decide (1 ≤ s.bits) && decide (s.bits ≤ 120)) = true := by simp; omega
    go_enter Try.func17, Try.ntmps17
    go_wp2_with fail
    refine (between_any _ _ _ _).mono ?_
    rintro r w' ⟨rfl, rfl⟩
    go_wp2_with fail
    refine (isRight_any _ _ _ _ d _ (h.lo.below (bl1 _ _))).mono ?_
    rintro r w1 ⟨rfl, hb1⟩
    obtain ⟨hsz1, hcell1, hfz1⟩ := near (w.heap.size + 1) (by simp) hb1
    go_wp2_with fail
    refine (isRight_any _ _ _ _ e _ (h.hi.below (bthen (bl1 _ _) hb1))).mono ?_
    rintro r w2 ⟨rfl, hb2⟩
    obtain ⟨hsz2, hcell2, hfz2⟩ := near (w.heap.size + 1) hsz1 hb2
    go_wp2_with fail
    refine (len_any _ _ _ _ d _ (h.lo.below (bthen (bthen (bl1 _ _) hb1) hb2))).mono ?_
    rintro r w3 ⟨rfl, hb3⟩
    obtain ⟨hsz3, hcell3, hfz3⟩ := near (w.heap.size + 1) hsz2 hb3
    go_wp2_with fail
    refine (len_any _ _ _ _ e _ (h.hi.below (bthen (bthen (bthen (bl1 _ _) hb1) hb2) hb3))).mono ?_
    rintro r w4 ⟨rfl, hb4⟩
    obtain ⟨hsz4, hcell4, hfz4⟩ := near (w.heap.size + 1) hsz3 hb4
    go_wp2_with fail
    go_ret
    exact ⟨by rw [unhide HC]; rfl, bthen (bthen (bthen (bthen (bl1 _ _) hb1) hb2) hb3) hb4⟩
  by_cases c6 : 0 < cmpI s.ln s.hn d e s.lN s.hN
  · have HC := hide (show chkE s d e = 4 by unfold chkE; simp [c0, c1, c2, c3, c4, c5, c6])
    have hb : (decide (1 ≤ s.bits) && decide (s.bits ≤ 120)) = true := by simp; omega
    go_enter Try.func17, Try.ntmps17
    go_wp2_with fail
    refine (between_any _ _ _ _).mono ?_
    rintro r w' ⟨rfl, rfl⟩
    go_wp2_with fail
    refine (isRight_any _ _ _ _ d _ (h.lo.below (bl1 _ _))).mono ?_
    rintro r w1 ⟨rfl, hb1⟩
    obtain ⟨hsz1, hcell1, hfz1⟩ := near (w.heap.size + 1) (by simp) hb1
    go_wp2_with fail
    refine (isRight_any _ _ _ _ e _ (h.hi.below (bthen (bl1 _ _) hb1))).mono ?_
    rintro r w2 ⟨rfl, hb2⟩
    obtain ⟨hsz2, hcell2, hfz2⟩ := near (w.heap.size + 1) hsz1 hb2
    go_wp2_with fail
    refine (len_any _ _ _ _ d _ (h.lo.below (bthen (bthen (bl1 _ _) hb1) hb2))).mono ?_
    rintro r w3 ⟨rfl, hb3⟩
    obtain ⟨hsz3, hcell3, hfz3⟩ := near (w.heap.size + 1) hsz2 hb3
    go_wp2_with fail
    refine (len_any _ _ _ _ e _ (h.hi.below (bthen (bthen (bthen (bl1 _ _) hb1) hb2) hb3))).mono ?_
    rintro r w4 ⟨rfl, hb4⟩
    obtain ⟨hsz4, hcell4, hfz4⟩ := near (w.heap.size + 1) hsz3 hb4
    go_wp2_with fail
    refine (cmp_any _ _ _ _ _ _ _ _ d e _ (h.lo.below (bthen (bthen (bthen (bthen (bl1 _ _) hb1) hb2) hb3) hb4)) (h.hi.below (bthen (bthen (bthen (bthen (bl1 _ _) hb1) hb2) hb3) hb4))).mono ?_
    rintro r w5 ⟨rfl, hb5⟩
    obtain ⟨hsz5, hcell5, hfz5⟩ := near (w.heap.size + 1) hsz4 hb5
    go_wp2_with fail
    go_ret
    exact ⟨by rw [unhide HC]; rfl, bthen (bthen (bthen (bthen (bthen (bl1 _ _) hb1) hb2) hb3) hb4) hb5⟩
  have HC := hide (show chkE s d e = 0 by unfold chkE; simp [c0, c1, c2, c3, c4, c5, c6])
  have hb : (decide (1 ≤ s.bits) && decide (s.bits ≤ 120)) = true := by simp; omega
  go_enter Try.func17, Try.ntmps17
  go_wp2_with fail
  refine (between_any _ _ _ _).mono ?_
  rintro r w' ⟨rfl, rfl⟩
  go_wp2_with fail
  refine (isRight_any _ _ _ _ d _ (h.lo.below (bl1 _ _))).mono ?_
  rintro r w1 ⟨rfl, hb1⟩
  obtain ⟨hsz1, hcell1, hfz1⟩ := near (w.heap.size + 1) (by simp) hb1
  go_wp2_with fail
  refine (isRight_any _ _ _ _ e _ (h.hi.below (bthen (bl1 _ _) hb1))).mono ?_
  rintro r w2 ⟨rfl, hb2⟩
  obtain ⟨hsz2, hcell2, hfz2⟩ := near (w.heap.size + 1) hsz1 hb2
  go_wp2_with fail
  refine (len_any _ _ _ _ d _ (h.lo.below (bthen (bthen (bl1 _ _) hb1) hb2))).mono ?_
  rintro r w3 ⟨rfl, hb3⟩
  obtain ⟨hsz3, hcell3, hfz3⟩ := near (w.heap.size + 1) hsz2 hb3
  go_wp2_with fail
  refine (len_any _ _ _ _ e _ (h.hi.below (bthen (bthen (bthen (bl1 _ _) hb1) hb2) hb3))).mono ?_
  rintro r w4 ⟨rfl, hb4⟩
  obtain ⟨hsz4, hcell4, hfz4⟩ := near (w.heap.size + 1) hsz3 hb4
  go_wp2_with fail
  refine (cmp_any _ _ _ _ _ _ _ _ d e _ (h.lo.below (bthen (bthen (bthen (bthen (bl1 _ _) hb1) hb2) hb3) hb4)) (h.hi.below (bthen (bthen (bthen (bthen (bl1 _ _) hb1) hb2) hb3) hb4))).mono ?_
  rintro r w5 ⟨rfl, hb5⟩
  obtain ⟨hsz5, hcell5, hfz5⟩ := near (w.heap.size + 1) hsz4 hb5
  go_wp2_with fail
  go_ret
  exact ⟨by rw [unhide HC]; rfl, bthen (bthen (bthen (bthen (bthen (bl1 _ _) hb1) hb2) hb3) hb4) hb5⟩
end Go.Proofs.Ytibbhnmbmgllcaa
