/-
  What span.Narrow answers of whatever span, and that it leaves old memory alone.
-/
import Derived.Test.YtibbhnmbmgllcaaSpanH
namespace Go.Proofs.Ytibbhnmbmgllcaa
set_option linter.unusedVariables false
set_option linter.unusedSimpArgs false
set_option linter.unnecessarySimpa false
open Go.RowKit

/-- What Narrow says against a span and a number. -/
def narE (c n : Int) : Int := if c ≠ 0 then c else if n < 0 ∨ 1000000 < n then 3 else 0
/-- The numbers of a span. -/
def loZ (s : Sp) (d : Nat → Int) : Int := sgn s.ln (V d s.lN)
def hiZ (s : Sp) (e : Nat → Int) : Int := sgn s.hn (V e s.hN)
/-- What Narrow answers. -/
def narZ (s : Sp) (d e : Nat → Int) (n : Int) : Bool := if narE (chkE s d e) n = 0 then narB (loZ s d) (hiZ s e) (Q s.bits.toNat) n else false

set_option maxRecDepth 100000 in
set_option maxHeartbeats 2000000 in
theorem spanNarrow_any (w : World) (s : Sp) (d e : Nat → Int) (n : Int) (hs : SpDig w s d e) :
    Calls Try.prog 45 #[.agg #[.bool s.ln, .slice s.la s.lN s.lc, .bool s.hn, .slice s.ha s.hN s.hc, .int .i64 s.bits], .int .i64 n] w fun r w' =>
      r = .returned (.tuple #[.bool (narZ s d e n), .int .i64 (narE (chkE s d e) n)]) ∧ Below w.heap.size w w' := by
  have HF := hide (fun W B hB hS => fault1 W B hB s d e 26 1 hS)
  by_cases h1 : chkE s d e = 0
  · obtain ⟨k1, k2, k3, k4⟩ := chk_ok hs h1
    have h1' : (chkE s d e != 0) = false := by simp [h1]
    by_cases h2 : n < 0
    · have HE := hide (show narE (chkE s d e) n = 3 by simp [narE, h1, h2])
      have HZ := hide (show narZ s d e n = false by unfold narZ; rw [unhide HE]; rfl)
      clear h1
      go_enter Try.func45, Try.ntmps45
      go_wp2_with fail
      refine (unhide HF _ _ (by simp) (hs.below (bl1 _ _))).mono ?_
      rintro r w1 ⟨rfl, hb1⟩
      go_wp2_with fail
      go_ret2
      exact ⟨by rw [unhide HE, unhide HZ]; rfl, bthen (bl1 _ _) hb1⟩
    · by_cases h3 : 1000000 < n
      · have HE := hide (show narE (chkE s d e) n = 3 by simp [narE, h1, h2, h3])
        have HZ := hide (show narZ s d e n = false by unfold narZ; rw [unhide HE]; rfl)
        clear h1
        go_enter Try.func45, Try.ntmps45
        go_wp2_with fail
        refine (unhide HF _ _ (by simp) (hs.below (bl1 _ _))).mono ?_
        rintro r w1 ⟨rfl, hb1⟩
        go_wp2_with fail
        go_ret2
        exact ⟨by rw [unhide HE, unhide HZ]; rfl, bthen (bl1 _ _) hb1⟩
      · have HE := hide (show narE (chkE s d e) n = 0 by simp [narE, h1, h2, h3])
        have HZ := hide (show narZ s d e n = narB (loZ s d) (hiZ s e) (Q s.bits.toNat) n by unfold narZ; rw [unhide HE]; rfl)
        obtain ⟨N, rfl⟩ := Int.eq_ofNat_of_zero_le (show 0 ≤ n by omega)
        have K1 := hide k1
        have hbits : s.bits = ((s.bits.toNat : Nat) : Int) := by omega
        have HB := hide hbits
        clear h1 k1 hbits
        go_enter Try.func45, Try.ntmps45
        go_wp2_with fail
        refine (unhide HF _ _ (by simp) (hs.below (bl1 _ _))).mono ?_
        rintro r w1 ⟨rfl, hb1⟩
        obtain ⟨hsz1, hcell1, hfz1⟩ := near (w.heap.size + 1) (by simp) hb1
        go_wp2_with fail
        refine (narrow_int _ s s.bits.toNat N _ _ ((unhide K1).below (bthen (bl1 _ _) hb1)) (unhide HB) (by omega) (by omega)).mono ?_
        rintro r w2 ⟨rfl, hb2⟩
        go_wp2_with fail
        go_ret2
        exact ⟨by rw [unhide HE, unhide HZ]; rfl, bthen (bthen (bl1 _ _) hb1) hb2⟩
  · have h1' : (chkE s d e != 0) = true := by simp [h1]
    have HE := hide (show narE (chkE s d e) n = chkE s d e by simp [narE, h1])
    have HZ := hide (show narZ s d e n = false by unfold narZ; rw [unhide HE, if_neg h1])
    clear h1
    go_enter Try.func45, Try.ntmps45
    go_wp2_with fail
    refine (unhide HF _ _ (by simp) (hs.below (bl1 _ _))).mono ?_
    rintro r w1 ⟨rfl, hb1⟩
    go_wp2_with fail
    go_ret2
    exact ⟨by rw [unhide HE, unhide HZ]; rfl, bthen (bl1 _ _) hb1⟩
end Go.Proofs.Ytibbhnmbmgllcaa
