/-
  What num.IsRight, Sign, compare, Cmp, Len answer, and that they leave old memory alone.
-/
import Derived.Test.YtibbhnmbmgllcaaProg
import Derived.Test.YtibbhnmbmgllcaaBase
import Derived.WalkKit
import Derived.WalkSpells
import Derived.WalkLawsBesides
import Derived.Deep.QuietTactic
import Derived.BigQuiet
import Derived.Deep.OwnRows
namespace Go.Proofs.Ytibbhnmbmgllcaa
set_option linter.unusedVariables false
set_option linter.unusedSimpArgs false
set_option linter.unnecessarySimpa false
open Go.RowKit

set_option maxHeartbeats 400000 in
theorem isRight_any (neg : Bool) (a : Option Addr) (n cap : Nat) (d : Nat → Int) (w : World) (h : Dig w a n cap d) :
    Calls Try.prog 76 #[.agg #[.bool neg, .slice a n cap]] w fun e w' => e = .returned (.bool (rightB neg n d)) ∧ Below w.heap.size w w' := by
  have hr := h.room
  have hl := h.le
  by_cases hn : n = 0
  · subst hn
    go_enter Try.func76, Try.ntmps76
    go_wp2
    go_ret
    exact ⟨by simp [rightB], (Below.refl _ _).alloc (Nat.le_refl _) _⟩
  · obtain ⟨b, off, rfl, hb, hc⟩ := h.at_ (by omega)
    have hc1 := hc (n - 1) (by omega)
    have hz : ((n : Int) == 0) = false := by simp; omega
    have hi : ((n : Int) - 1) = ((n - 1 : Nat) : Int) := by omega
    go_enter Try.func76, Try.ntmps76
    go_wp2
    go_ret
    exact ⟨by simp [rightB, hn], ((Below.refl _ _).alloc (Nat.le_refl _) _)⟩

/-- num.Sign, of the digits' number. -/
def signZ (neg : Bool) (n : Nat) : Int := if n = 0 then 0 else if neg then -1 else 1

set_option maxHeartbeats 400000 in
theorem sign_any (neg : Bool) (a : Option Addr) (n cap : Nat) (w : World) (hr : n ≤ 70368744177664) :
    Calls Try.prog 40 #[.agg #[.bool neg, .slice a n cap]] w fun e w' => e = .returned (.int .i64 (signZ neg n)) ∧ Below w.heap.size w w' := by
  by_cases hn : n = 0
  · subst hn
    go_enter Try.func40, Try.ntmps40
    go_wp2
    all_goals (go_ret; exact ⟨by simp [signZ], (Below.refl _ _).alloc (Nat.le_refl _) _⟩)
  · have hz : ((n : Int) == 0) = false := by simp; omega
    cases neg
    all_goals
      go_enter Try.func40, Try.ntmps40
      go_wp2
      go_ret
      exact ⟨by simp [signZ, hn], (Below.refl _ _).alloc (Nat.le_refl _) _⟩

/-- num.compare: digits held against digits, the upmost first. -/
def cmpTo (d e : Nat → Int) : Nat → Int
  | 0 => 0
  | n + 1 => if d n < e n then -1 else if e n < d n then 1 else cmpTo d e n
def cmpZ (d e : Nat → Int) (n m : Nat) : Int := if n < m then -1 else if m < n then 1 else cmpTo d e n

set_option maxHeartbeats 400000 in
theorem compare_any (a c : Option Addr) (n m cap cap2 : Nat) (d e : Nat → Int) (w : World) (ha : Dig w a n cap d) (hc : Dig w c m cap2 e) :
    Calls Try.prog 90 #[.slice a n cap, .slice c m cap2] w fun r w' => r = .returned (.int .i64 (cmpZ d e n m)) ∧ Below w.heap.size w w' := by
  have hr := ha.room
  have hl := ha.le
  have hr2 := hc.room
  have hl2 := hc.le
  by_cases hne : n = m
  · subst hne
    have hz : ((n : Int) != n) = false := by simp
    go_enter Try.func90, Try.ntmps90
    go_wp2
    go_loopw [5] (fun i wr => ∃ k : Nat, k ≤ n ∧ i = .int .i64 ((k : Int) - 1) ∧ cmpTo d e n = cmpTo d e k ∧ Below w.heap.size w wr) (fun i _ => (intOf i + 1).toNat)
    case atStart => exact ⟨n, Nat.le_refl _, rfl, rfl, Below.refl _ _⟩
    case round =>
      obtain ⟨k, hk, rfl, hcm, hbl⟩ := hrel
      by_cases hk0 : k = 0
      · subst hk0
        go_wp2
        go_ret
        exact ⟨by simp [cmpZ, hcm, cmpTo], hbl⟩
      · obtain ⟨b1, o1, rfl, hb1, hc1⟩ := ha.at_ (by omega)
        obtain ⟨b2, o2, rfl, hb2, hc2⟩ := hc.at_ (by omega)
        obtain ⟨q, rfl⟩ : ∃ q, k = q + 1 := ⟨k - 1, by omega⟩
        have e0 : ((q + 1 : Nat) : Int) - 1 = (q : Int) := by omega
        rw [e0]
        have g1 : wr.cell? ⟨b1, o1 + q, none⟩ = some (.int .u16 (d q)) := (hbl.cell (p := ⟨b1, o1 + q, none⟩) hb1).trans (hc1 q (by omega))
        have g2 : wr.cell? ⟨b2, o2 + q, none⟩ = some (.int .u16 (e q)) := (hbl.cell (p := ⟨b2, o2 + q, none⟩) hb2).trans (hc2 q (by omega))
        have gq : (q : Int) < (n : Int) := by omega
        have Hcm := hide hcm
        clear hcm e0 ha hc hc1 hc2
        by_cases hlt : d q < e q
        · have t1 : (d q != e q) = true := by rw [bne_iff_ne]; omega
          go_wp2
          go_quiet (fail)
          go_wp2
          go_quiet (fail)
          go_wp2
          go_ret
          exact ⟨by simp [cmpZ, unhide Hcm, cmpTo, hlt], below_drewN (below_drewN hbl _) _⟩
        · by_cases hgt : e q < d q
          · have t1 : (d q != e q) = true := by rw [bne_iff_ne]; omega
            go_wp2
            go_quiet (fail)
            go_wp2
            go_quiet (fail)
            go_wp2
            go_ret
            exact ⟨by simp [cmpZ, unhide Hcm, cmpTo, hlt, hgt], below_drewN (below_drewN hbl _) _⟩
          · have t1 : (d q != e q) = false := by rw [bne_eq_false_iff_eq]; omega
            have Hn := hide (show cmpTo d e (q + 1) = cmpTo d e q by simp [cmpTo, hlt, hgt])
            go_wp2
            go_quiet (fail)
            go_wp2
            go_roundw
            case rel => exact ⟨q, by omega, by go_num, by rw [unhide Hcm, unhide Hn], below_drewN hbl _⟩
            case measure => simp [intOf]; try omega
  · have hz : ((n : Int) != m) = true := by rw [bne_iff_ne]; omega
    by_cases hlt : n < m
    · have hlt' : (n : Int) < m := by omega
      go_enter Try.func90, Try.ntmps90
      go_wp2
      go_ret
      exact ⟨by simp [cmpZ, hlt], Below.refl _ _⟩
    · have hlt' : ¬ (n : Int) < m := by omega
      go_enter Try.func90, Try.ntmps90
      go_wp2
      go_ret
      have hgt : m < n := by omega
      exact ⟨by simp [cmpZ, hlt, hgt], Below.refl _ _⟩

/-- num.Cmp. -/
def cmpI (neg neg2 : Bool) (d e : Nat → Int) (n m : Nat) : Int :=
  if neg != neg2 then (if neg then -1 else 1) else if neg then - cmpZ d e n m else cmpZ d e n m

theorem cmpTo_bd (d e : Nat → Int) (n : Nat) : -1 ≤ cmpTo d e n ∧ cmpTo d e n ≤ 1 := by
  induction n with
  | zero => simp [cmpTo]
  | succ n ih => simp only [cmpTo]; split <;> (try split) <;> omega
theorem cmpZ_bd (d e : Nat → Int) (n m : Nat) : -1 ≤ cmpZ d e n m ∧ cmpZ d e n m ≤ 1 := by
  have := cmpTo_bd d e n
  unfold cmpZ; split <;> (try split) <;> omega

set_option maxHeartbeats 400000 in
theorem cmp_any (neg neg2 : Bool) (a c : Option Addr) (n m cap cap2 : Nat) (d e : Nat → Int) (w : World) (ha : Dig w a n cap d) (hc : Dig w c m cap2 e) :
    Calls Try.prog 33 #[.agg #[.bool neg, .slice a n cap], .agg #[.bool neg2, .slice c m cap2]] w fun r w' => r = .returned (.int .i64 (cmpI neg neg2 d e n m)) ∧ Below w.heap.size w w' := by
  have hbd := cmpZ_bd d e n m
  obtain ⟨b1, b2⟩ := hbd
  cases neg <;> cases neg2
  all_goals
    go_enter Try.func33, Try.ntmps33
    go_wp2_with (go_at_call 90; refine (compare_any _ _ _ _ _ _ d e _ (ha.below (bl2 _ _ _)) (hc.below (bl2 _ _ _))).mono ?_; rintro r w' ⟨rfl, hb⟩)
    go_ret
    first | exact ⟨by simp [cmpI], bthen (bl2 _ _ _) ‹_›⟩ | exact ⟨by simp [cmpI], bl2 _ _ _⟩

set_option maxHeartbeats 400000 in
theorem len_any (neg : Bool) (a : Option Addr) (n cap : Nat) (d : Nat → Int) (w : World) (ha : Dig w a n cap d) :
    Calls Try.prog 77 #[.agg #[.bool neg, .slice a n cap]] w fun r w' => r = .returned (.int .i64 (lenZ n d)) ∧ Below w.heap.size w w' := by
  have hr := ha.room
  have hl := ha.le
  by_cases hn : n = 0
  · subst hn
    go_enter Try.func77, Try.ntmps77
    go_wp2
    go_ret
    exact ⟨by simp [lenZ], (Below.refl _ _).alloc (Nat.le_refl _) _⟩
  · have hz : ((n : Int) == 0) = false := by simp; omega
    obtain ⟨b, off, rfl, hb, hc⟩ := ha.at_ (by omega)
    have hc1 := hc (n - 1) (by omega)
    have hi : ((n : Int) - 1) = ((n - 1 : Nat) : Int) := by omega
    go_enter Try.func77, Try.ntmps77
    go_wp2
    go_loop [4, 5] (fun k x => ∃ (f j : Nat) (y : Int), j + f = 16 ∧ k = .int .i64 j ∧ x = .int .u16 y ∧ 0 ≤ y ∧ y < Q f ∧ j + blenF f y = blenF 16 (d (n - 1))) (fun _ x => (intOf x).toNat)
    case atStart => exact ⟨16, 0, _, rfl, rfl, rfl, (ha.dgs _).1, (ha.dgs _).2, by simp⟩
    case round =>
      obtain ⟨f, j, y, hf, rfl, rfl, hy0, hyf, hbl⟩ := hrel
      by_cases hy : y = 0
      · subst hy
        have hb0 : blenF f 0 = 0 := by cases f <;> simp [blenF]
        have HB := hide (show (j : Int) = blenF 16 (d (n - 1)) by omega)
        clear hbl
        go_wp2
        go_ret
        exact ⟨by simp [lenZ, hn, ← unhide HB]; omega, bl1 _ _⟩
      · have hpos : 0 < y := by omega
        match f, hf, hyf, hbl with
        | 0, _, hyf, _ => simp [Q] at hyf; omega
        | f + 1, hf, hyf, hbl =>
        have Hb2 := hide (show (j : Int) + 1 + blenF f (y / 2) = blenF 16 (d (n - 1)) by rw [← hbl]; simp [blenF, show ¬ y ≤ 0 by omega]; omega)
        have hyf2 : y < 2 * Q f := hyf
        have hy3 : y / 2 < Q f := by omega
        clear hbl hyf hyf2
        go_wp2
        go_round
        case rel => exact ⟨f, j + 1, y / 2, by omega, by go_num, by go_num, by omega, hy3, by have := unhide Hb2; omega⟩
        case measure => simp [intOf]; try omega
end Go.Proofs.Ytibbhnmbmgllcaa
