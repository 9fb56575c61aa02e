/-
  What tailsurelaw.lawBegun answers: true.
  What tailsureref.CheckLaw answers of whatever law: the same as law.Check.
  What tailsureref.CheckLaw answers of whatever law: the same as law.Check.
  tailsurelaw.PowerExps returns true of whatever ratio and bits.
-/
import Derived.Test.YtgmnknmjainababGreatK17
namespace Go.Proofs.YtgmnknmjainababGreat
set_option linter.unusedVariables false
set_option linter.unusedSimpArgs false
set_option linter.unnecessarySimpa false
open Go.RowKit
attribute [local go_sem ↓] Go.wp_at_zero Go.wp_at_succ

set_option maxRecDepth 100000 in
set_option maxHeartbeats 4000000 in
theorem lawBegun_any (w : World) : Calls Tryz.prog 33 #[] w fun r w' => r = .returned (.bool true) ∧ Below w.heap.size w w' := by
  go_enter Tryz.func33, Tryz.ntmps33
  go_wp2_with fail
  refine (below_coin _).mono ?_
  rintro r' w1 ⟨s, rfl, hsb, hs, hb1⟩
  have C : LwC w1 w.heap.size 6 2 1 1 2 := (lwc_new w 6 2 1 1 2 _).below hb1
  have hB : Below w.heap.size w w1 := bthen (bl1 _ _) hb1
  have HSB := hide hsb
  clear hb1 hsb
  have lC := C.lt
  obtain ⟨x0, x1, x2, x3, x4⟩ := C
  go_wp2_with fail
  refine (mass_coin _).mono ?_
  rintro r' w2 ⟨t, rfl, htb, ht, hb2⟩
  have S : SpC w2 w1.heap.size s := (spc_new w1 s _).below hb2
  replace hs := (hs.below (bl1 _ _)).below hb2
  replace hB := bthen (balloc hB _) hb2
  have HTB := hide htb
  clear hb2 htb x0 x1 x2 x3 x4
  have lS := S.lt
  have S2 := S
  have lS2 := S2.lt
  obtain ⟨V, hV⟩ : ∃ V, V = w2.alloc (.cells #[.bool t.ln, .slice t.la t.lN t.lc, .bool t.hn, .slice t.ha t.hN t.hc, .int .i64 t.bits] 28) := ⟨_, rfl⟩
  have bV : Below w2.heap.size w2 V := by rw [hV]; exact bl1 _ _
  have T : SpC V w2.heap.size t := by rw [hV]; exact spc_new _ _ _
  replace S := S.below bV
  replace hs := hs.below bV
  replace ht := ht.below bV
  replace hB := bthen hB bV
  clear bV lS
  have lS := S.lt
  have lT := T.lt
  obtain ⟨x0, x1, x2, x3, x4⟩ := S2
  go_wp2_with fail
  rw [← hV]
  refine (refOf_any _ s).mono ?_
  rintro r' w3 ⟨rfl, hb3⟩
  clear hV x0 x1 x2 x3 x4
  replace S := S.below hb3
  replace T := T.below hb3
  replace hB := bthen hB hb3
  replace hs := hs.below hb3
  replace ht := ht.below hb3
  clear hb3
  go_wp2_with fail
  refine (numOf_int 3 _ (by decide) (by decide)).mono ?_
  rintro r' w4 ⟨neg4, a4, n4, c4, rfl, hint4, hb4⟩
  replace S := S.below hb4
  replace T := T.below hb4
  replace hB := bthen hB hb4
  replace hs := hs.below hb4
  replace ht := ht.below hb4
  clear hb4
  go_wp2_with fail
  refine (numOf_int 4 _ (by decide) (by decide)).mono ?_
  rintro r' w5 ⟨neg5, a5, n5, c5, rfl, hint5, hb5⟩
  replace hint4 := hint4.below hb5
  replace S := S.below hb5
  replace T := T.below hb5
  replace hB := bthen hB hb5
  replace hs := hs.below hb5
  replace ht := ht.below hb5
  clear hb5
  go_wp2_with fail
  refine (refRatio_core _ _ _ _ _ _ _ _ 4 4 20 3 4 _ hint4 hint5 (by omega) (by omega) (by omega) (by decide) (fun neg' a' n' cap' w' p1 p2 => floor_any _ _ _ _ _ _ _ _ _ 4 _ _ w' p1 p2 (by omega) (by decide))).mono ?_
  rintro r' w6 ⟨u, rfl, hub, hup, hb6⟩
  have HUU := hide hub
  clear hub
  rw [show (3 : Int) * Q 20 / 4 = 786432 by decide, show -(-((3 : Int) * Q 20) / 4) = 786432 by decide] at hup
  replace S := S.below hb6
  replace T := T.below hb6
  replace hB := bthen hB hb6
  replace hs := hs.below hb6
  replace ht := ht.below hb6
  clear hb6
  go_wp2_with fail
  refine (touch_le _ s u 250 0 0 786432 786432 786432 786432 hs (hup.mono (by omega)) (by omega) (by have := unhide HSB; omega) (by have := unhide HSB; omega) (by have := unhide HUU; omega) (by have := unhide HUU; omega) (by have := unhide HSB; have := unhide HUU; omega) (by omega) (by have := unhide HSB; have := unhide HUU; omega)).mono ?_
  rintro r' w7 ⟨rfl, hb7⟩
  rw [show touB 786432 786432 0 786432 786432 0 = true by decide]
  clear HUU hup hint5 hint4
  replace S := S.below hb7
  replace T := T.below hb7
  replace hB := bthen hB hb7
  replace hs := hs.below hb7
  replace ht := ht.below hb7
  clear hb7
  obtain ⟨x0, x1, x2, x3, x4⟩ := S
  obtain ⟨y0, y1, y2, y3, y4⟩ := T
  go_wp2_with fail
  refine (refOf_any _ t).mono ?_
  rintro r' w8 ⟨rfl, hb8⟩
  have S := SpC.mk x0 x1 x2 x3 x4
  have T := SpC.mk y0 y1 y2 y3 y4
  clear x0 x1 x2 x3 x4 y0 y1 y2 y3 y4
  replace S := S.below hb8
  replace T := T.below hb8
  replace hB := bthen hB hb8
  replace hs := hs.below hb8
  replace ht := ht.below hb8
  clear hb8
  go_wp2_with fail
  refine (numOf_int 1 _ (by decide) (by decide)).mono ?_
  rintro r' w9 ⟨neg9, a9, n9, c9, rfl, hint9, hb9⟩
  replace S := S.below hb9
  replace T := T.below hb9
  replace hB := bthen hB hb9
  replace hs := hs.below hb9
  replace ht := ht.below hb9
  clear hb9
  go_wp2_with fail
  refine (numOf_int 2 _ (by decide) (by decide)).mono ?_
  rintro r' w10 ⟨neg10, a10, n10, c10, rfl, hint10, hb10⟩
  replace hint9 := hint9.below hb10
  replace S := S.below hb10
  replace T := T.below hb10
  replace hB := bthen hB hb10
  replace hs := hs.below hb10
  replace ht := ht.below hb10
  clear hb10
  go_wp2_with fail
  refine (refRatio_core _ _ _ _ _ _ _ _ 4 4 20 1 2 _ hint9 hint10 (by omega) (by omega) (by omega) (by decide) (fun neg' a' n' cap' w' p1 p2 => floor_any _ _ _ _ _ _ _ _ _ 4 _ _ w' p1 p2 (by omega) (by decide))).mono ?_
  rintro r' w11 ⟨u, rfl, hub, hup, hb11⟩
  have HUU := hide hub
  clear hub
  rw [show (1 : Int) * Q 20 / 2 = 524288 by decide, show -(-((1 : Int) * Q 20) / 2) = 524288 by decide] at hup
  replace S := S.below hb11
  replace T := T.below hb11
  replace hB := bthen hB hb11
  replace hs := hs.below hb11
  replace ht := ht.below hb11
  clear hb11
  go_wp2_with fail
  refine (touch_le _ t u 250 0 0 524288 524288 524288 524288 ht (hup.mono (by omega)) (by omega) (by have := unhide HTB; omega) (by have := unhide HTB; omega) (by have := unhide HUU; omega) (by have := unhide HUU; omega) (by have := unhide HTB; have := unhide HUU; omega) (by omega) (by have := unhide HTB; have := unhide HUU; omega)).mono ?_
  rintro r' w12 ⟨rfl, hb12⟩
  rw [show touB 524288 524288 0 524288 524288 0 = true by decide]
  clear HUU hup hint10 hint9
  replace S := S.below hb12
  replace T := T.below hb12
  replace hB := bthen hB hb12
  replace hs := hs.below hb12
  replace ht := ht.below hb12
  clear hb12
  obtain ⟨x0, x1, x2, x3, x4⟩ := S
  obtain ⟨y0, y1, y2, y3, y4⟩ := T
  go_wp2_with fail
  refine (narrowBy_int _ s 20 4 786432 786432 hs (unhide HSB) (by omega) (by omega) (by omega)).mono ?_
  rintro r' wz ⟨rfl, hbz⟩
  rw [show narB 786432 786432 (Q 20) ((4 : Nat) : Int) = true by decide]
  replace hB := bthen hB hbz
  go_wp2_with fail
  go_ret
  exact ⟨rfl, hB⟩
end Go.Proofs.YtgmnknmjainababGreat

namespace Go.Proofs.YtgmnknmjainababGreat
set_option linter.unusedVariables false
set_option linter.unusedSimpArgs false
set_option linter.unnecessarySimpa false
open Go.RowKit
attribute [local go_sem ↓] Go.wp_at_zero Go.wp_at_succ

set_option maxRecDepth 100000 in
set_option maxHeartbeats 4000000 in
theorem ref_k0 (k p q r s : Int) (w : World) (h1 : k < 1) :
    Calls Tryz.prog 35 #[.agg #[.int .i64 k, .int .i64 p, .int .i64 q, .int .i64 r, .int .i64 s]] w fun z w' => z = .returned (.int .i64 6) ∧ Below w.heap.size w w' := by
  go_enter Tryz.func35, Tryz.ntmps35
  go_wp2
  go_ret
  exact ⟨rfl, bl1 _ _⟩

set_option maxRecDepth 100000 in
set_option maxHeartbeats 4000000 in
theorem ref_k8 (k p q r s : Int) (w : World) (h1 : 1 ≤ k) (h7 : 7 < k) :
    Calls Tryz.prog 35 #[.agg #[.int .i64 k, .int .i64 p, .int .i64 q, .int .i64 r, .int .i64 s]] w fun z w' => z = .returned (.int .i64 6) ∧ Below w.heap.size w w' := by
  go_enter Tryz.func35, Tryz.ntmps35
  go_wp2
  go_ret
  exact ⟨rfl, bl1 _ _⟩

set_option maxRecDepth 100000 in
set_option maxHeartbeats 4000000 in
theorem ref_r1 (k p q r s : Int) (w : World) (h1 : 1 ≤ k) (h7 : k ≤ 7) (hc1 : decide (rok p q) = false) :
    Calls Tryz.prog 35 #[.agg #[.int .i64 k, .int .i64 p, .int .i64 q, .int .i64 r, .int .i64 s]] w fun z w' => z = .returned (.int .i64 3) ∧ Below w.heap.size w w' := by
  go_enter Tryz.func35, Tryz.ntmps35
  go_wp2_with (first
      | (go_at_call 44; refine (refRightRatio p q _).mono ?_; rintro r' w1 ⟨rfl, hb1⟩; rw [hc1]; obtain ⟨hsz1, hcell1, hfz1⟩ := near (w.heap.size + 1) (by simp) hb1))
  go_ret
  exact ⟨rfl, bthen (bl1 _ _) hb1⟩

set_option maxRecDepth 100000 in
set_option maxHeartbeats 4000000 in
theorem ref_r2 (k p q r s : Int) (w : World) (h1 : 1 ≤ k) (h7 : k ≤ 7) (hc1 : decide (rok p q) = true) (hc2 : decide (rok r s) = false) :
    Calls Tryz.prog 35 #[.agg #[.int .i64 k, .int .i64 p, .int .i64 q, .int .i64 r, .int .i64 s]] w fun z w' => z = .returned (.int .i64 3) ∧ Below w.heap.size w w' := by
  go_enter Tryz.func35, Tryz.ntmps35
  go_wp2_with (first
      | (go_at_call 44; have hq := hb1; refine (refRightRatio r s _).mono ?_; rintro r' w2 ⟨rfl, hb2⟩; rw [hc2]; obtain ⟨hsz2, hcell2, hfz2⟩ := near (w.heap.size + 1) hsz1 hb2)
      | (go_at_call 44; refine (refRightRatio p q _).mono ?_; rintro r' w1 ⟨rfl, hb1⟩; rw [hc1]; obtain ⟨hsz1, hcell1, hfz1⟩ := near (w.heap.size + 1) (by simp) hb1))
  go_ret
  exact ⟨rfl, bthen (bthen (bl1 _ _) hb1) hb2⟩

set_option maxRecDepth 100000 in
set_option maxHeartbeats 4000000 in
theorem ref_z0_2 (p q r s : Int) (w : World) (hc1 : decide (rok p q) = true) (hc2 : decide (rok r s) = true) (z0 : r ≠ 0) :
    Calls Tryz.prog 35 #[.agg #[.int .i64 2, .int .i64 p, .int .i64 q, .int .i64 r, .int .i64 s]] w fun z w' => z = .returned (.int .i64 1) ∧ Below w.heap.size w w' := by
  go_enter Tryz.func35, Tryz.ntmps35
  go_wp2_with (first
      | (go_at_call 44; have hq := hb1; refine (refRightRatio r s _).mono ?_; rintro r' w2 ⟨rfl, hb2⟩; rw [hc2]; obtain ⟨hsz2, hcell2, hfz2⟩ := near (w.heap.size + 1) hsz1 hb2)
      | (go_at_call 44; refine (refRightRatio p q _).mono ?_; rintro r' w1 ⟨rfl, hb1⟩; rw [hc1]; obtain ⟨hsz1, hcell1, hfz1⟩ := near (w.heap.size + 1) (by simp) hb1))
  go_ret
  exact ⟨rfl, bthen (bthen (bl1 _ _) hb1) hb2⟩

set_option maxRecDepth 100000 in
set_option maxHeartbeats 4000000 in
theorem ref_z1_2 (p q s : Int) (w : World) (hc1 : decide (rok p q) = true) (hc2 : decide (rok 0 s) = true) (z1 : s ≠ 1) :
    Calls Tryz.prog 35 #[.agg #[.int .i64 2, .int .i64 p, .int .i64 q, .int .i64 0, .int .i64 s]] w fun z w' => z = .returned (.int .i64 1) ∧ Below w.heap.size w w' := by
  go_enter Tryz.func35, Tryz.ntmps35
  go_wp2_with (first
      | (go_at_call 44; have hq := hb1; refine (refRightRatio 0 s _).mono ?_; rintro r' w2 ⟨rfl, hb2⟩; rw [hc2]; obtain ⟨hsz2, hcell2, hfz2⟩ := near (w.heap.size + 1) hsz1 hb2)
      | (go_at_call 44; refine (refRightRatio p q _).mono ?_; rintro r' w1 ⟨rfl, hb1⟩; rw [hc1]; obtain ⟨hsz1, hcell1, hfz1⟩ := near (w.heap.size + 1) (by simp) hb1))
  go_ret
  exact ⟨rfl, bthen (bthen (bl1 _ _) hb1) hb2⟩

set_option maxRecDepth 100000 in
set_option maxHeartbeats 4000000 in
theorem ref_n_2 (p q : Int) (w : World) (a1 : -1048576 ≤ p) (a2 : p ≤ 1048576) (a3 : 1 ≤ q) (a4 : q ≤ 1024) (hc1 : decide (rok p q) = true) (hc2 : decide (rok 0 1) = true) (c : p ≤ 0) :
    Calls Tryz.prog 35 #[.agg #[.int .i64 2, .int .i64 p, .int .i64 q, .int .i64 0, .int .i64 1]] w fun z w' => z = .returned (.int .i64 3) ∧ Below w.heap.size w w' := by
  go_enter Tryz.func35, Tryz.ntmps35
  go_wp2_with (first
      | (go_at_call 44; have hq := hb1; refine (refRightRatio 0 1 _).mono ?_; rintro r' w2 ⟨rfl, hb2⟩; rw [hc2]; obtain ⟨hsz2, hcell2, hfz2⟩ := near (w.heap.size + 1) hsz1 hb2)
      | (go_at_call 44; refine (refRightRatio p q _).mono ?_; rintro r' w1 ⟨rfl, hb1⟩; rw [hc1]; obtain ⟨hsz1, hcell1, hfz1⟩ := near (w.heap.size + 1) (by simp) hb1))
  go_ret
  exact ⟨rfl, bthen (bthen (bl1 _ _) hb1) hb2⟩

set_option maxRecDepth 100000 in
set_option maxHeartbeats 4000000 in
theorem ref_m_2 (p q : Int) (w : World) (a1 : -1048576 ≤ p) (a2 : p ≤ 1048576) (a3 : 1 ≤ q) (a4 : q ≤ 1024) (hc1 : decide (rok p q) = true) (hc2 : decide (rok 0 1) = true) (c : 0 < p) (d : 100 * q < p) :
    Calls Tryz.prog 35 #[.agg #[.int .i64 2, .int .i64 p, .int .i64 q, .int .i64 0, .int .i64 1]] w fun z w' => z = .returned (.int .i64 2) ∧ Below w.heap.size w w' := by
  go_enter Tryz.func35, Tryz.ntmps35
  go_wp2_with (first
      | (go_at_call 44; have hq := hb1; refine (refRightRatio 0 1 _).mono ?_; rintro r' w2 ⟨rfl, hb2⟩; rw [hc2]; obtain ⟨hsz2, hcell2, hfz2⟩ := near (w.heap.size + 1) hsz1 hb2)
      | (go_at_call 44; refine (refRightRatio p q _).mono ?_; rintro r' w1 ⟨rfl, hb1⟩; rw [hc1]; obtain ⟨hsz1, hcell1, hfz1⟩ := near (w.heap.size + 1) (by simp) hb1))
  go_ret
  exact ⟨rfl, bthen (bthen (bl1 _ _) hb1) hb2⟩

set_option maxRecDepth 100000 in
set_option maxHeartbeats 4000000 in
theorem ref_o_2 (p q : Int) (w : World) (a1 : -1048576 ≤ p) (a2 : p ≤ 1048576) (a3 : 1 ≤ q) (a4 : q ≤ 1024) (hc1 : decide (rok p q) = true) (hc2 : decide (rok 0 1) = true) (c : 0 < p) (d : p ≤ 100 * q) :
    Calls Tryz.prog 35 #[.agg #[.int .i64 2, .int .i64 p, .int .i64 q, .int .i64 0, .int .i64 1]] w fun z w' => z = .returned (.int .i64 0) ∧ Below w.heap.size w w' := by
  go_enter Tryz.func35, Tryz.ntmps35
  go_wp2_with (first
      | (go_at_call 44; have hq := hb1; refine (refRightRatio 0 1 _).mono ?_; rintro r' w2 ⟨rfl, hb2⟩; rw [hc2]; obtain ⟨hsz2, hcell2, hfz2⟩ := near (w.heap.size + 1) hsz1 hb2)
      | (go_at_call 44; refine (refRightRatio p q _).mono ?_; rintro r' w1 ⟨rfl, hb1⟩; rw [hc1]; obtain ⟨hsz1, hcell1, hfz1⟩ := near (w.heap.size + 1) (by simp) hb1))
  go_ret
  exact ⟨rfl, bthen (bthen (bl1 _ _) hb1) hb2⟩

set_option maxRecDepth 100000 in
set_option maxHeartbeats 4000000 in
theorem ref_z0_5 (p q r s : Int) (w : World) (hc1 : decide (rok p q) = true) (hc2 : decide (rok r s) = true) (z0 : r ≠ 0) :
    Calls Tryz.prog 35 #[.agg #[.int .i64 5, .int .i64 p, .int .i64 q, .int .i64 r, .int .i64 s]] w fun z w' => z = .returned (.int .i64 1) ∧ Below w.heap.size w w' := by
  go_enter Tryz.func35, Tryz.ntmps35
  go_wp2_with (first
      | (go_at_call 44; have hq := hb1; refine (refRightRatio r s _).mono ?_; rintro r' w2 ⟨rfl, hb2⟩; rw [hc2]; obtain ⟨hsz2, hcell2, hfz2⟩ := near (w.heap.size + 1) hsz1 hb2)
      | (go_at_call 44; refine (refRightRatio p q _).mono ?_; rintro r' w1 ⟨rfl, hb1⟩; rw [hc1]; obtain ⟨hsz1, hcell1, hfz1⟩ := near (w.heap.size + 1) (by simp) hb1))
  go_ret
  exact ⟨rfl, bthen (bthen (bl1 _ _) hb1) hb2⟩

set_option maxRecDepth 100000 in
set_option maxHeartbeats 4000000 in
theorem ref_z1_5 (p q s : Int) (w : World) (hc1 : decide (rok p q) = true) (hc2 : decide (rok 0 s) = true) (z1 : s ≠ 1) :
    Calls Tryz.prog 35 #[.agg #[.int .i64 5, .int .i64 p, .int .i64 q, .int .i64 0, .int .i64 s]] w fun z w' => z = .returned (.int .i64 1) ∧ Below w.heap.size w w' := by
  go_enter Tryz.func35, Tryz.ntmps35
  go_wp2_with (first
      | (go_at_call 44; have hq := hb1; refine (refRightRatio 0 s _).mono ?_; rintro r' w2 ⟨rfl, hb2⟩; rw [hc2]; obtain ⟨hsz2, hcell2, hfz2⟩ := near (w.heap.size + 1) hsz1 hb2)
      | (go_at_call 44; refine (refRightRatio p q _).mono ?_; rintro r' w1 ⟨rfl, hb1⟩; rw [hc1]; obtain ⟨hsz1, hcell1, hfz1⟩ := near (w.heap.size + 1) (by simp) hb1))
  go_ret
  exact ⟨rfl, bthen (bthen (bl1 _ _) hb1) hb2⟩

set_option maxRecDepth 100000 in
set_option maxHeartbeats 4000000 in
theorem ref_n_5 (p q : Int) (w : World) (a1 : -1048576 ≤ p) (a2 : p ≤ 1048576) (a3 : 1 ≤ q) (a4 : q ≤ 1024) (hc1 : decide (rok p q) = true) (hc2 : decide (rok 0 1) = true) (c : p ≤ 0) :
    Calls Tryz.prog 35 #[.agg #[.int .i64 5, .int .i64 p, .int .i64 q, .int .i64 0, .int .i64 1]] w fun z w' => z = .returned (.int .i64 3) ∧ Below w.heap.size w w' := by
  go_enter Tryz.func35, Tryz.ntmps35
  go_wp2_with (first
      | (go_at_call 44; have hq := hb1; refine (refRightRatio 0 1 _).mono ?_; rintro r' w2 ⟨rfl, hb2⟩; rw [hc2]; obtain ⟨hsz2, hcell2, hfz2⟩ := near (w.heap.size + 1) hsz1 hb2)
      | (go_at_call 44; refine (refRightRatio p q _).mono ?_; rintro r' w1 ⟨rfl, hb1⟩; rw [hc1]; obtain ⟨hsz1, hcell1, hfz1⟩ := near (w.heap.size + 1) (by simp) hb1))
  go_ret
  exact ⟨rfl, bthen (bthen (bl1 _ _) hb1) hb2⟩

set_option maxRecDepth 100000 in
set_option maxHeartbeats 4000000 in
theorem ref_m_5 (p q : Int) (w : World) (a1 : -1048576 ≤ p) (a2 : p ≤ 1048576) (a3 : 1 ≤ q) (a4 : q ≤ 1024) (hc1 : decide (rok p q) = true) (hc2 : decide (rok 0 1) = true) (c : 0 < p) (d : 100 * q < p) :
    Calls Tryz.prog 35 #[.agg #[.int .i64 5, .int .i64 p, .int .i64 q, .int .i64 0, .int .i64 1]] w fun z w' => z = .returned (.int .i64 2) ∧ Below w.heap.size w w' := by
  go_enter Tryz.func35, Tryz.ntmps35
  go_wp2_with (first
      | (go_at_call 44; have hq := hb1; refine (refRightRatio 0 1 _).mono ?_; rintro r' w2 ⟨rfl, hb2⟩; rw [hc2]; obtain ⟨hsz2, hcell2, hfz2⟩ := near (w.heap.size + 1) hsz1 hb2)
      | (go_at_call 44; refine (refRightRatio p q _).mono ?_; rintro r' w1 ⟨rfl, hb1⟩; rw [hc1]; obtain ⟨hsz1, hcell1, hfz1⟩ := near (w.heap.size + 1) (by simp) hb1))
  go_ret
  exact ⟨rfl, bthen (bthen (bl1 _ _) hb1) hb2⟩

set_option maxRecDepth 100000 in
set_option maxHeartbeats 4000000 in
theorem ref_o_5 (p q : Int) (w : World) (a1 : -1048576 ≤ p) (a2 : p ≤ 1048576) (a3 : 1 ≤ q) (a4 : q ≤ 1024) (hc1 : decide (rok p q) = true) (hc2 : decide (rok 0 1) = true) (c : 0 < p) (d : p ≤ 100 * q) :
    Calls Tryz.prog 35 #[.agg #[.int .i64 5, .int .i64 p, .int .i64 q, .int .i64 0, .int .i64 1]] w fun z w' => z = .returned (.int .i64 0) ∧ Below w.heap.size w w' := by
  go_enter Tryz.func35, Tryz.ntmps35
  go_wp2_with (first
      | (go_at_call 44; have hq := hb1; refine (refRightRatio 0 1 _).mono ?_; rintro r' w2 ⟨rfl, hb2⟩; rw [hc2]; obtain ⟨hsz2, hcell2, hfz2⟩ := near (w.heap.size + 1) hsz1 hb2)
      | (go_at_call 44; refine (refRightRatio p q _).mono ?_; rintro r' w1 ⟨rfl, hb1⟩; rw [hc1]; obtain ⟨hsz1, hcell1, hfz1⟩ := near (w.heap.size + 1) (by simp) hb1))
  go_ret
  exact ⟨rfl, bthen (bthen (bl1 _ _) hb1) hb2⟩

set_option maxRecDepth 100000 in
set_option maxHeartbeats 4000000 in
theorem ref_z0_7 (p q r s : Int) (w : World) (hc1 : decide (rok p q) = true) (hc2 : decide (rok r s) = true) (z0 : r ≠ 0) :
    Calls Tryz.prog 35 #[.agg #[.int .i64 7, .int .i64 p, .int .i64 q, .int .i64 r, .int .i64 s]] w fun z w' => z = .returned (.int .i64 1) ∧ Below w.heap.size w w' := by
  go_enter Tryz.func35, Tryz.ntmps35
  go_wp2_with (first
      | (go_at_call 44; have hq := hb1; refine (refRightRatio r s _).mono ?_; rintro r' w2 ⟨rfl, hb2⟩; rw [hc2]; obtain ⟨hsz2, hcell2, hfz2⟩ := near (w.heap.size + 1) hsz1 hb2)
      | (go_at_call 44; refine (refRightRatio p q _).mono ?_; rintro r' w1 ⟨rfl, hb1⟩; rw [hc1]; obtain ⟨hsz1, hcell1, hfz1⟩ := near (w.heap.size + 1) (by simp) hb1))
  go_ret
  exact ⟨rfl, bthen (bthen (bl1 _ _) hb1) hb2⟩

set_option maxRecDepth 100000 in
set_option maxHeartbeats 4000000 in
theorem ref_z1_7 (p q s : Int) (w : World) (hc1 : decide (rok p q) = true) (hc2 : decide (rok 0 s) = true) (z1 : s ≠ 1) :
    Calls Tryz.prog 35 #[.agg #[.int .i64 7, .int .i64 p, .int .i64 q, .int .i64 0, .int .i64 s]] w fun z w' => z = .returned (.int .i64 1) ∧ Below w.heap.size w w' := by
  go_enter Tryz.func35, Tryz.ntmps35
  go_wp2_with (first
      | (go_at_call 44; have hq := hb1; refine (refRightRatio 0 s _).mono ?_; rintro r' w2 ⟨rfl, hb2⟩; rw [hc2]; obtain ⟨hsz2, hcell2, hfz2⟩ := near (w.heap.size + 1) hsz1 hb2)
      | (go_at_call 44; refine (refRightRatio p q _).mono ?_; rintro r' w1 ⟨rfl, hb1⟩; rw [hc1]; obtain ⟨hsz1, hcell1, hfz1⟩ := near (w.heap.size + 1) (by simp) hb1))
  go_ret
  exact ⟨rfl, bthen (bthen (bl1 _ _) hb1) hb2⟩

set_option maxRecDepth 100000 in
set_option maxHeartbeats 4000000 in
theorem ref_n_7 (p q : Int) (w : World) (a1 : -1048576 ≤ p) (a2 : p ≤ 1048576) (a3 : 1 ≤ q) (a4 : q ≤ 1024) (hc1 : decide (rok p q) = true) (hc2 : decide (rok 0 1) = true) (c : p ≤ 0) :
    Calls Tryz.prog 35 #[.agg #[.int .i64 7, .int .i64 p, .int .i64 q, .int .i64 0, .int .i64 1]] w fun z w' => z = .returned (.int .i64 3) ∧ Below w.heap.size w w' := by
  go_enter Tryz.func35, Tryz.ntmps35
  go_wp2_with (first
      | (go_at_call 44; have hq := hb1; refine (refRightRatio 0 1 _).mono ?_; rintro r' w2 ⟨rfl, hb2⟩; rw [hc2]; obtain ⟨hsz2, hcell2, hfz2⟩ := near (w.heap.size + 1) hsz1 hb2)
      | (go_at_call 44; refine (refRightRatio p q _).mono ?_; rintro r' w1 ⟨rfl, hb1⟩; rw [hc1]; obtain ⟨hsz1, hcell1, hfz1⟩ := near (w.heap.size + 1) (by simp) hb1))
  go_ret
  exact ⟨rfl, bthen (bthen (bl1 _ _) hb1) hb2⟩

set_option maxRecDepth 100000 in
set_option maxHeartbeats 4000000 in
theorem ref_m_7 (p q : Int) (w : World) (a1 : -1048576 ≤ p) (a2 : p ≤ 1048576) (a3 : 1 ≤ q) (a4 : q ≤ 1024) (hc1 : decide (rok p q) = true) (hc2 : decide (rok 0 1) = true) (c : 0 < p) (d : 100 * q < p) :
    Calls Tryz.prog 35 #[.agg #[.int .i64 7, .int .i64 p, .int .i64 q, .int .i64 0, .int .i64 1]] w fun z w' => z = .returned (.int .i64 2) ∧ Below w.heap.size w w' := by
  go_enter Tryz.func35, Tryz.ntmps35
  go_wp2_with (first
      | (go_at_call 44; have hq := hb1; refine (refRightRatio 0 1 _).mono ?_; rintro r' w2 ⟨rfl, hb2⟩; rw [hc2]; obtain ⟨hsz2, hcell2, hfz2⟩ := near (w.heap.size + 1) hsz1 hb2)
      | (go_at_call 44; refine (refRightRatio p q _).mono ?_; rintro r' w1 ⟨rfl, hb1⟩; rw [hc1]; obtain ⟨hsz1, hcell1, hfz1⟩ := near (w.heap.size + 1) (by simp) hb1))
  go_ret
  exact ⟨rfl, bthen (bthen (bl1 _ _) hb1) hb2⟩

set_option maxRecDepth 100000 in
set_option maxHeartbeats 4000000 in
theorem ref_o_7 (p q : Int) (w : World) (a1 : -1048576 ≤ p) (a2 : p ≤ 1048576) (a3 : 1 ≤ q) (a4 : q ≤ 1024) (hc1 : decide (rok p q) = true) (hc2 : decide (rok 0 1) = true) (c : 0 < p) (d : p ≤ 100 * q) :
    Calls Tryz.prog 35 #[.agg #[.int .i64 7, .int .i64 p, .int .i64 q, .int .i64 0, .int .i64 1]] w fun z w' => z = .returned (.int .i64 0) ∧ Below w.heap.size w w' := by
  go_enter Tryz.func35, Tryz.ntmps35
  go_wp2_with (first
      | (go_at_call 44; have hq := hb1; refine (refRightRatio 0 1 _).mono ?_; rintro r' w2 ⟨rfl, hb2⟩; rw [hc2]; obtain ⟨hsz2, hcell2, hfz2⟩ := near (w.heap.size + 1) hsz1 hb2)
      | (go_at_call 44; refine (refRightRatio p q _).mono ?_; rintro r' w1 ⟨rfl, hb1⟩; rw [hc1]; obtain ⟨hsz1, hcell1, hfz1⟩ := near (w.heap.size + 1) (by simp) hb1))
  go_ret
  exact ⟨rfl, bthen (bthen (bl1 _ _) hb1) hb2⟩

set_option maxRecDepth 100000 in
set_option maxHeartbeats 4000000 in
theorem ref_n_1 (p q r s : Int) (w : World) (a1 : -1048576 ≤ p) (a2 : p ≤ 1048576) (a3 : 1 ≤ q) (a4 : q ≤ 1024) (b1 : -1048576 ≤ r) (b2 : r ≤ 1048576) (b3 : 1 ≤ s) (b4 : s ≤ 1024) (hc1 : decide (rok p q) = true) (hc2 : decide (rok r s) = true) (c : r ≤ 0) :
    Calls Tryz.prog 35 #[.agg #[.int .i64 1, .int .i64 p, .int .i64 q, .int .i64 r, .int .i64 s]] w fun z w' => z = .returned (.int .i64 3) ∧ Below w.heap.size w w' := by
  go_enter Tryz.func35, Tryz.ntmps35
  go_wp2_with (first
      | (go_at_call 44; have hq := hb1; refine (refRightRatio r s _).mono ?_; rintro r' w2 ⟨rfl, hb2⟩; rw [hc2]; obtain ⟨hsz2, hcell2, hfz2⟩ := near (w.heap.size + 1) hsz1 hb2)
      | (go_at_call 44; refine (refRightRatio p q _).mono ?_; rintro r' w1 ⟨rfl, hb1⟩; rw [hc1]; obtain ⟨hsz1, hcell1, hfz1⟩ := near (w.heap.size + 1) (by simp) hb1))
  go_ret
  exact ⟨rfl, bthen (bthen (bl1 _ _) hb1) hb2⟩

set_option maxRecDepth 100000 in
set_option maxHeartbeats 4000000 in
theorem ref_m1_1 (p q r s : Int) (w : World) (a1 : -1048576 ≤ p) (a2 : p ≤ 1048576) (a3 : 1 ≤ q) (a4 : q ≤ 1024) (b1 : -1048576 ≤ r) (b2 : r ≤ 1048576) (b3 : 1 ≤ s) (b4 : s ≤ 1024) (hc1 : decide (rok p q) = true) (hc2 : decide (rok r s) = true) (c : 0 < r) (d : 100 * q < p) :
    Calls Tryz.prog 35 #[.agg #[.int .i64 1, .int .i64 p, .int .i64 q, .int .i64 r, .int .i64 s]] w fun z w' => z = .returned (.int .i64 2) ∧ Below w.heap.size w w' := by
  go_enter Tryz.func35, Tryz.ntmps35
  go_wp2_with (first
      | (go_at_call 44; have hq := hb1; refine (refRightRatio r s _).mono ?_; rintro r' w2 ⟨rfl, hb2⟩; rw [hc2]; obtain ⟨hsz2, hcell2, hfz2⟩ := near (w.heap.size + 1) hsz1 hb2)
      | (go_at_call 44; refine (refRightRatio p q _).mono ?_; rintro r' w1 ⟨rfl, hb1⟩; rw [hc1]; obtain ⟨hsz1, hcell1, hfz1⟩ := near (w.heap.size + 1) (by simp) hb1))
  go_ret
  exact ⟨rfl, bthen (bthen (bl1 _ _) hb1) hb2⟩

set_option maxRecDepth 100000 in
set_option maxHeartbeats 4000000 in
theorem ref_m2_1 (p q r s : Int) (w : World) (a1 : -1048576 ≤ p) (a2 : p ≤ 1048576) (a3 : 1 ≤ q) (a4 : q ≤ 1024) (b1 : -1048576 ≤ r) (b2 : r ≤ 1048576) (b3 : 1 ≤ s) (b4 : s ≤ 1024) (hc1 : decide (rok p q) = true) (hc2 : decide (rok r s) = true) (c : 0 < r) (d : p ≤ 100 * q) (d2 : p < -(100 * q)) :
    Calls Tryz.prog 35 #[.agg #[.int .i64 1, .int .i64 p, .int .i64 q, .int .i64 r, .int .i64 s]] w fun z w' => z = .returned (.int .i64 2) ∧ Below w.heap.size w w' := by
  go_enter Tryz.func35, Tryz.ntmps35
  go_wp2_with (first
      | (go_at_call 44; have hq := hb1; refine (refRightRatio r s _).mono ?_; rintro r' w2 ⟨rfl, hb2⟩; rw [hc2]; obtain ⟨hsz2, hcell2, hfz2⟩ := near (w.heap.size + 1) hsz1 hb2)
      | (go_at_call 44; refine (refRightRatio p q _).mono ?_; rintro r' w1 ⟨rfl, hb1⟩; rw [hc1]; obtain ⟨hsz1, hcell1, hfz1⟩ := near (w.heap.size + 1) (by simp) hb1))
  go_ret
  exact ⟨rfl, bthen (bthen (bl1 _ _) hb1) hb2⟩

set_option maxRecDepth 100000 in
set_option maxHeartbeats 4000000 in
theorem ref_m3_1 (p q r s : Int) (w : World) (a1 : -1048576 ≤ p) (a2 : p ≤ 1048576) (a3 : 1 ≤ q) (a4 : q ≤ 1024) (b1 : -1048576 ≤ r) (b2 : r ≤ 1048576) (b3 : 1 ≤ s) (b4 : s ≤ 1024) (hc1 : decide (rok p q) = true) (hc2 : decide (rok r s) = true) (c : 0 < r) (d : p ≤ 100 * q) (d2 : -(100 * q) ≤ p) (d3 : 100 * s < r) :
    Calls Tryz.prog 35 #[.agg #[.int .i64 1, .int .i64 p, .int .i64 q, .int .i64 r, .int .i64 s]] w fun z w' => z = .returned (.int .i64 2) ∧ Below w.heap.size w w' := by
  go_enter Tryz.func35, Tryz.ntmps35
  go_wp2_with (first
      | (go_at_call 44; have hq := hb1; refine (refRightRatio r s _).mono ?_; rintro r' w2 ⟨rfl, hb2⟩; rw [hc2]; obtain ⟨hsz2, hcell2, hfz2⟩ := near (w.heap.size + 1) hsz1 hb2)
      | (go_at_call 44; refine (refRightRatio p q _).mono ?_; rintro r' w1 ⟨rfl, hb1⟩; rw [hc1]; obtain ⟨hsz1, hcell1, hfz1⟩ := near (w.heap.size + 1) (by simp) hb1))
  go_ret
  exact ⟨rfl, bthen (bthen (bl1 _ _) hb1) hb2⟩

set_option maxRecDepth 100000 in
set_option maxHeartbeats 4000000 in
theorem ref_m4_1 (p q r s : Int) (w : World) (a1 : -1048576 ≤ p) (a2 : p ≤ 1048576) (a3 : 1 ≤ q) (a4 : q ≤ 1024) (b1 : -1048576 ≤ r) (b2 : r ≤ 1048576) (b3 : 1 ≤ s) (b4 : s ≤ 1024) (hc1 : decide (rok p q) = true) (hc2 : decide (rok r s) = true) (c : 0 < r) (d : p ≤ 100 * q) (d2 : -(100 * q) ≤ p) (d3 : r ≤ 100 * s) (d4 : 100 * r < s) :
    Calls Tryz.prog 35 #[.agg #[.int .i64 1, .int .i64 p, .int .i64 q, .int .i64 r, .int .i64 s]] w fun z w' => z = .returned (.int .i64 2) ∧ Below w.heap.size w w' := by
  go_enter Tryz.func35, Tryz.ntmps35
  go_wp2_with (first
      | (go_at_call 44; have hq := hb1; refine (refRightRatio r s _).mono ?_; rintro r' w2 ⟨rfl, hb2⟩; rw [hc2]; obtain ⟨hsz2, hcell2, hfz2⟩ := near (w.heap.size + 1) hsz1 hb2)
      | (go_at_call 44; refine (refRightRatio p q _).mono ?_; rintro r' w1 ⟨rfl, hb1⟩; rw [hc1]; obtain ⟨hsz1, hcell1, hfz1⟩ := near (w.heap.size + 1) (by simp) hb1))
  go_ret
  exact ⟨rfl, bthen (bthen (bl1 _ _) hb1) hb2⟩

set_option maxRecDepth 100000 in
set_option maxHeartbeats 4000000 in
theorem ref_o_1 (p q r s : Int) (w : World) (a1 : -1048576 ≤ p) (a2 : p ≤ 1048576) (a3 : 1 ≤ q) (a4 : q ≤ 1024) (b1 : -1048576 ≤ r) (b2 : r ≤ 1048576) (b3 : 1 ≤ s) (b4 : s ≤ 1024) (hc1 : decide (rok p q) = true) (hc2 : decide (rok r s) = true) (c : 0 < r) (d : p ≤ 100 * q) (d2 : -(100 * q) ≤ p) (d3 : r ≤ 100 * s) (d4 : s ≤ 100 * r) :
    Calls Tryz.prog 35 #[.agg #[.int .i64 1, .int .i64 p, .int .i64 q, .int .i64 r, .int .i64 s]] w fun z w' => z = .returned (.int .i64 0) ∧ Below w.heap.size w w' := by
  go_enter Tryz.func35, Tryz.ntmps35
  go_wp2_with (first
      | (go_at_call 44; have hq := hb1; refine (refRightRatio r s _).mono ?_; rintro r' w2 ⟨rfl, hb2⟩; rw [hc2]; obtain ⟨hsz2, hcell2, hfz2⟩ := near (w.heap.size + 1) hsz1 hb2)
      | (go_at_call 44; refine (refRightRatio p q _).mono ?_; rintro r' w1 ⟨rfl, hb1⟩; rw [hc1]; obtain ⟨hsz1, hcell1, hfz1⟩ := near (w.heap.size + 1) (by simp) hb1))
  go_ret
  exact ⟨rfl, bthen (bthen (bl1 _ _) hb1) hb2⟩

set_option maxRecDepth 100000 in
set_option maxHeartbeats 4000000 in
theorem ref_p_3 (p q r s : Int) (w : World) (a1 : -1048576 ≤ p) (a2 : p ≤ 1048576) (a3 : 1 ≤ q) (a4 : q ≤ 1024) (b1 : -1048576 ≤ r) (b2 : r ≤ 1048576) (b3 : 1 ≤ s) (b4 : s ≤ 1024) (hc1 : decide (rok p q) = true) (hc2 : decide (rok r s) = true) (c0 : p ≤ 0) :
    Calls Tryz.prog 35 #[.agg #[.int .i64 3, .int .i64 p, .int .i64 q, .int .i64 r, .int .i64 s]] w fun z w' => z = .returned (.int .i64 3) ∧ Below w.heap.size w w' := by
  go_enter Tryz.func35, Tryz.ntmps35
  go_wp2_with (first
      | (go_at_call 44; have hq := hb1; refine (refRightRatio r s _).mono ?_; rintro r' w2 ⟨rfl, hb2⟩; rw [hc2]; obtain ⟨hsz2, hcell2, hfz2⟩ := near (w.heap.size + 1) hsz1 hb2)
      | (go_at_call 44; refine (refRightRatio p q _).mono ?_; rintro r' w1 ⟨rfl, hb1⟩; rw [hc1]; obtain ⟨hsz1, hcell1, hfz1⟩ := near (w.heap.size + 1) (by simp) hb1))
  go_ret
  exact ⟨rfl, bthen (bthen (bl1 _ _) hb1) hb2⟩

set_option maxRecDepth 100000 in
set_option maxHeartbeats 4000000 in
theorem ref_n_3 (p q r s : Int) (w : World) (a1 : -1048576 ≤ p) (a2 : p ≤ 1048576) (a3 : 1 ≤ q) (a4 : q ≤ 1024) (b1 : -1048576 ≤ r) (b2 : r ≤ 1048576) (b3 : 1 ≤ s) (b4 : s ≤ 1024) (hc1 : decide (rok p q) = true) (hc2 : decide (rok r s) = true) (c0 : 0 < p) (c : r ≤ 0) :
    Calls Tryz.prog 35 #[.agg #[.int .i64 3, .int .i64 p, .int .i64 q, .int .i64 r, .int .i64 s]] w fun z w' => z = .returned (.int .i64 3) ∧ Below w.heap.size w w' := by
  go_enter Tryz.func35, Tryz.ntmps35
  go_wp2_with (first
      | (go_at_call 44; have hq := hb1; refine (refRightRatio r s _).mono ?_; rintro r' w2 ⟨rfl, hb2⟩; rw [hc2]; obtain ⟨hsz2, hcell2, hfz2⟩ := near (w.heap.size + 1) hsz1 hb2)
      | (go_at_call 44; refine (refRightRatio p q _).mono ?_; rintro r' w1 ⟨rfl, hb1⟩; rw [hc1]; obtain ⟨hsz1, hcell1, hfz1⟩ := near (w.heap.size + 1) (by simp) hb1))
  go_ret
  exact ⟨rfl, bthen (bthen (bl1 _ _) hb1) hb2⟩

set_option maxRecDepth 100000 in
set_option maxHeartbeats 4000000 in
theorem ref_m1_3 (p q r s : Int) (w : World) (a1 : -1048576 ≤ p) (a2 : p ≤ 1048576) (a3 : 1 ≤ q) (a4 : q ≤ 1024) (b1 : -1048576 ≤ r) (b2 : r ≤ 1048576) (b3 : 1 ≤ s) (b4 : s ≤ 1024) (hc1 : decide (rok p q) = true) (hc2 : decide (rok r s) = true) (c0 : 0 < p) (c : 0 < r) (d : 100 * q < p) :
    Calls Tryz.prog 35 #[.agg #[.int .i64 3, .int .i64 p, .int .i64 q, .int .i64 r, .int .i64 s]] w fun z w' => z = .returned (.int .i64 2) ∧ Below w.heap.size w w' := by
  go_enter Tryz.func35, Tryz.ntmps35
  go_wp2_with (first
      | (go_at_call 44; have hq := hb1; refine (refRightRatio r s _).mono ?_; rintro r' w2 ⟨rfl, hb2⟩; rw [hc2]; obtain ⟨hsz2, hcell2, hfz2⟩ := near (w.heap.size + 1) hsz1 hb2)
      | (go_at_call 44; refine (refRightRatio p q _).mono ?_; rintro r' w1 ⟨rfl, hb1⟩; rw [hc1]; obtain ⟨hsz1, hcell1, hfz1⟩ := near (w.heap.size + 1) (by simp) hb1))
  go_ret
  exact ⟨rfl, bthen (bthen (bl1 _ _) hb1) hb2⟩

set_option maxRecDepth 100000 in
set_option maxHeartbeats 4000000 in
theorem ref_m3_3 (p q r s : Int) (w : World) (a1 : -1048576 ≤ p) (a2 : p ≤ 1048576) (a3 : 1 ≤ q) (a4 : q ≤ 1024) (b1 : -1048576 ≤ r) (b2 : r ≤ 1048576) (b3 : 1 ≤ s) (b4 : s ≤ 1024) (hc1 : decide (rok p q) = true) (hc2 : decide (rok r s) = true) (c0 : 0 < p) (c : 0 < r) (d : p ≤ 100 * q) (d2 : -(100 * q) ≤ p) (d3 : 100 * s < r) :
    Calls Tryz.prog 35 #[.agg #[.int .i64 3, .int .i64 p, .int .i64 q, .int .i64 r, .int .i64 s]] w fun z w' => z = .returned (.int .i64 2) ∧ Below w.heap.size w w' := by
  go_enter Tryz.func35, Tryz.ntmps35
  go_wp2_with (first
      | (go_at_call 44; have hq := hb1; refine (refRightRatio r s _).mono ?_; rintro r' w2 ⟨rfl, hb2⟩; rw [hc2]; obtain ⟨hsz2, hcell2, hfz2⟩ := near (w.heap.size + 1) hsz1 hb2)
      | (go_at_call 44; refine (refRightRatio p q _).mono ?_; rintro r' w1 ⟨rfl, hb1⟩; rw [hc1]; obtain ⟨hsz1, hcell1, hfz1⟩ := near (w.heap.size + 1) (by simp) hb1))
  go_ret
  exact ⟨rfl, bthen (bthen (bl1 _ _) hb1) hb2⟩

set_option maxRecDepth 100000 in
set_option maxHeartbeats 4000000 in
theorem ref_m4_3 (p q r s : Int) (w : World) (a1 : -1048576 ≤ p) (a2 : p ≤ 1048576) (a3 : 1 ≤ q) (a4 : q ≤ 1024) (b1 : -1048576 ≤ r) (b2 : r ≤ 1048576) (b3 : 1 ≤ s) (b4 : s ≤ 1024) (hc1 : decide (rok p q) = true) (hc2 : decide (rok r s) = true) (c0 : 0 < p) (c : 0 < r) (d : p ≤ 100 * q) (d2 : -(100 * q) ≤ p) (d3 : r ≤ 100 * s) (d4 : 100 * r < s) :
    Calls Tryz.prog 35 #[.agg #[.int .i64 3, .int .i64 p, .int .i64 q, .int .i64 r, .int .i64 s]] w fun z w' => z = .returned (.int .i64 2) ∧ Below w.heap.size w w' := by
  go_enter Tryz.func35, Tryz.ntmps35
  go_wp2_with (first
      | (go_at_call 44; have hq := hb1; refine (refRightRatio r s _).mono ?_; rintro r' w2 ⟨rfl, hb2⟩; rw [hc2]; obtain ⟨hsz2, hcell2, hfz2⟩ := near (w.heap.size + 1) hsz1 hb2)
      | (go_at_call 44; refine (refRightRatio p q _).mono ?_; rintro r' w1 ⟨rfl, hb1⟩; rw [hc1]; obtain ⟨hsz1, hcell1, hfz1⟩ := near (w.heap.size + 1) (by simp) hb1))
  go_ret
  exact ⟨rfl, bthen (bthen (bl1 _ _) hb1) hb2⟩

set_option maxRecDepth 100000 in
set_option maxHeartbeats 4000000 in
theorem ref_o_3 (p q r s : Int) (w : World) (a1 : -1048576 ≤ p) (a2 : p ≤ 1048576) (a3 : 1 ≤ q) (a4 : q ≤ 1024) (b1 : -1048576 ≤ r) (b2 : r ≤ 1048576) (b3 : 1 ≤ s) (b4 : s ≤ 1024) (hc1 : decide (rok p q) = true) (hc2 : decide (rok r s) = true) (c0 : 0 < p) (c : 0 < r) (d : p ≤ 100 * q) (d2 : -(100 * q) ≤ p) (d3 : r ≤ 100 * s) (d4 : s ≤ 100 * r) :
    Calls Tryz.prog 35 #[.agg #[.int .i64 3, .int .i64 p, .int .i64 q, .int .i64 r, .int .i64 s]] w fun z w' => z = .returned (.int .i64 0) ∧ Below w.heap.size w w' := by
  go_enter Tryz.func35, Tryz.ntmps35
  go_wp2_with (first
      | (go_at_call 44; have hq := hb1; refine (refRightRatio r s _).mono ?_; rintro r' w2 ⟨rfl, hb2⟩; rw [hc2]; obtain ⟨hsz2, hcell2, hfz2⟩ := near (w.heap.size + 1) hsz1 hb2)
      | (go_at_call 44; refine (refRightRatio p q _).mono ?_; rintro r' w1 ⟨rfl, hb1⟩; rw [hc1]; obtain ⟨hsz1, hcell1, hfz1⟩ := near (w.heap.size + 1) (by simp) hb1))
  go_ret
  exact ⟨rfl, bthen (bthen (bl1 _ _) hb1) hb2⟩

set_option maxRecDepth 100000 in
set_option maxHeartbeats 4000000 in
theorem ref_p_4 (p q r s : Int) (w : World) (a1 : -1048576 ≤ p) (a2 : p ≤ 1048576) (a3 : 1 ≤ q) (a4 : q ≤ 1024) (b1 : -1048576 ≤ r) (b2 : r ≤ 1048576) (b3 : 1 ≤ s) (b4 : s ≤ 1024) (hc1 : decide (rok p q) = true) (hc2 : decide (rok r s) = true) (c0 : p ≤ 0) :
    Calls Tryz.prog 35 #[.agg #[.int .i64 4, .int .i64 p, .int .i64 q, .int .i64 r, .int .i64 s]] w fun z w' => z = .returned (.int .i64 3) ∧ Below w.heap.size w w' := by
  go_enter Tryz.func35, Tryz.ntmps35
  go_wp2_with (first
      | (go_at_call 44; have hq := hb1; refine (refRightRatio r s _).mono ?_; rintro r' w2 ⟨rfl, hb2⟩; rw [hc2]; obtain ⟨hsz2, hcell2, hfz2⟩ := near (w.heap.size + 1) hsz1 hb2)
      | (go_at_call 44; refine (refRightRatio p q _).mono ?_; rintro r' w1 ⟨rfl, hb1⟩; rw [hc1]; obtain ⟨hsz1, hcell1, hfz1⟩ := near (w.heap.size + 1) (by simp) hb1))
  go_ret
  exact ⟨rfl, bthen (bthen (bl1 _ _) hb1) hb2⟩

set_option maxRecDepth 100000 in
set_option maxHeartbeats 4000000 in
theorem ref_n_4 (p q r s : Int) (w : World) (a1 : -1048576 ≤ p) (a2 : p ≤ 1048576) (a3 : 1 ≤ q) (a4 : q ≤ 1024) (b1 : -1048576 ≤ r) (b2 : r ≤ 1048576) (b3 : 1 ≤ s) (b4 : s ≤ 1024) (hc1 : decide (rok p q) = true) (hc2 : decide (rok r s) = true) (c0 : 0 < p) (c : r ≤ 0) :
    Calls Tryz.prog 35 #[.agg #[.int .i64 4, .int .i64 p, .int .i64 q, .int .i64 r, .int .i64 s]] w fun z w' => z = .returned (.int .i64 3) ∧ Below w.heap.size w w' := by
  go_enter Tryz.func35, Tryz.ntmps35
  go_wp2_with (first
      | (go_at_call 44; have hq := hb1; refine (refRightRatio r s _).mono ?_; rintro r' w2 ⟨rfl, hb2⟩; rw [hc2]; obtain ⟨hsz2, hcell2, hfz2⟩ := near (w.heap.size + 1) hsz1 hb2)
      | (go_at_call 44; refine (refRightRatio p q _).mono ?_; rintro r' w1 ⟨rfl, hb1⟩; rw [hc1]; obtain ⟨hsz1, hcell1, hfz1⟩ := near (w.heap.size + 1) (by simp) hb1))
  go_ret
  exact ⟨rfl, bthen (bthen (bl1 _ _) hb1) hb2⟩

set_option maxRecDepth 100000 in
set_option maxHeartbeats 4000000 in
theorem ref_m1_4 (p q r s : Int) (w : World) (a1 : -1048576 ≤ p) (a2 : p ≤ 1048576) (a3 : 1 ≤ q) (a4 : q ≤ 1024) (b1 : -1048576 ≤ r) (b2 : r ≤ 1048576) (b3 : 1 ≤ s) (b4 : s ≤ 1024) (hc1 : decide (rok p q) = true) (hc2 : decide (rok r s) = true) (c0 : 0 < p) (c : 0 < r) (d : 100 * q < p) :
    Calls Tryz.prog 35 #[.agg #[.int .i64 4, .int .i64 p, .int .i64 q, .int .i64 r, .int .i64 s]] w fun z w' => z = .returned (.int .i64 2) ∧ Below w.heap.size w w' := by
  go_enter Tryz.func35, Tryz.ntmps35
  go_wp2_with (first
      | (go_at_call 44; have hq := hb1; refine (refRightRatio r s _).mono ?_; rintro r' w2 ⟨rfl, hb2⟩; rw [hc2]; obtain ⟨hsz2, hcell2, hfz2⟩ := near (w.heap.size + 1) hsz1 hb2)
      | (go_at_call 44; refine (refRightRatio p q _).mono ?_; rintro r' w1 ⟨rfl, hb1⟩; rw [hc1]; obtain ⟨hsz1, hcell1, hfz1⟩ := near (w.heap.size + 1) (by simp) hb1))
  go_ret
  exact ⟨rfl, bthen (bthen (bl1 _ _) hb1) hb2⟩

set_option maxRecDepth 100000 in
set_option maxHeartbeats 4000000 in
theorem ref_m3_4 (p q r s : Int) (w : World) (a1 : -1048576 ≤ p) (a2 : p ≤ 1048576) (a3 : 1 ≤ q) (a4 : q ≤ 1024) (b1 : -1048576 ≤ r) (b2 : r ≤ 1048576) (b3 : 1 ≤ s) (b4 : s ≤ 1024) (hc1 : decide (rok p q) = true) (hc2 : decide (rok r s) = true) (c0 : 0 < p) (c : 0 < r) (d : p ≤ 100 * q) (d2 : -(100 * q) ≤ p) (d3 : 100 * s < r) :
    Calls Tryz.prog 35 #[.agg #[.int .i64 4, .int .i64 p, .int .i64 q, .int .i64 r, .int .i64 s]] w fun z w' => z = .returned (.int .i64 2) ∧ Below w.heap.size w w' := by
  go_enter Tryz.func35, Tryz.ntmps35
  go_wp2_with (first
      | (go_at_call 44; have hq := hb1; refine (refRightRatio r s _).mono ?_; rintro r' w2 ⟨rfl, hb2⟩; rw [hc2]; obtain ⟨hsz2, hcell2, hfz2⟩ := near (w.heap.size + 1) hsz1 hb2)
      | (go_at_call 44; refine (refRightRatio p q _).mono ?_; rintro r' w1 ⟨rfl, hb1⟩; rw [hc1]; obtain ⟨hsz1, hcell1, hfz1⟩ := near (w.heap.size + 1) (by simp) hb1))
  go_ret
  exact ⟨rfl, bthen (bthen (bl1 _ _) hb1) hb2⟩

set_option maxRecDepth 100000 in
set_option maxHeartbeats 4000000 in
theorem ref_m4_4 (p q r s : Int) (w : World) (a1 : -1048576 ≤ p) (a2 : p ≤ 1048576) (a3 : 1 ≤ q) (a4 : q ≤ 1024) (b1 : -1048576 ≤ r) (b2 : r ≤ 1048576) (b3 : 1 ≤ s) (b4 : s ≤ 1024) (hc1 : decide (rok p q) = true) (hc2 : decide (rok r s) = true) (c0 : 0 < p) (c : 0 < r) (d : p ≤ 100 * q) (d2 : -(100 * q) ≤ p) (d3 : r ≤ 100 * s) (d4 : 100 * r < s) :
    Calls Tryz.prog 35 #[.agg #[.int .i64 4, .int .i64 p, .int .i64 q, .int .i64 r, .int .i64 s]] w fun z w' => z = .returned (.int .i64 2) ∧ Below w.heap.size w w' := by
  go_enter Tryz.func35, Tryz.ntmps35
  go_wp2_with (first
      | (go_at_call 44; have hq := hb1; refine (refRightRatio r s _).mono ?_; rintro r' w2 ⟨rfl, hb2⟩; rw [hc2]; obtain ⟨hsz2, hcell2, hfz2⟩ := near (w.heap.size + 1) hsz1 hb2)
      | (go_at_call 44; refine (refRightRatio p q _).mono ?_; rintro r' w1 ⟨rfl, hb1⟩; rw [hc1]; obtain ⟨hsz1, hcell1, hfz1⟩ := near (w.heap.size + 1) (by simp) hb1))
  go_ret
  exact ⟨rfl, bthen (bthen (bl1 _ _) hb1) hb2⟩

set_option maxRecDepth 100000 in
set_option maxHeartbeats 4000000 in
theorem ref_o_4 (p q r s : Int) (w : World) (a1 : -1048576 ≤ p) (a2 : p ≤ 1048576) (a3 : 1 ≤ q) (a4 : q ≤ 1024) (b1 : -1048576 ≤ r) (b2 : r ≤ 1048576) (b3 : 1 ≤ s) (b4 : s ≤ 1024) (hc1 : decide (rok p q) = true) (hc2 : decide (rok r s) = true) (c0 : 0 < p) (c : 0 < r) (d : p ≤ 100 * q) (d2 : -(100 * q) ≤ p) (d3 : r ≤ 100 * s) (d4 : s ≤ 100 * r) :
    Calls Tryz.prog 35 #[.agg #[.int .i64 4, .int .i64 p, .int .i64 q, .int .i64 r, .int .i64 s]] w fun z w' => z = .returned (.int .i64 0) ∧ Below w.heap.size w w' := by
  go_enter Tryz.func35, Tryz.ntmps35
  go_wp2_with (first
      | (go_at_call 44; have hq := hb1; refine (refRightRatio r s _).mono ?_; rintro r' w2 ⟨rfl, hb2⟩; rw [hc2]; obtain ⟨hsz2, hcell2, hfz2⟩ := near (w.heap.size + 1) hsz1 hb2)
      | (go_at_call 44; refine (refRightRatio p q _).mono ?_; rintro r' w1 ⟨rfl, hb1⟩; rw [hc1]; obtain ⟨hsz1, hcell1, hfz1⟩ := near (w.heap.size + 1) (by simp) hb1))
  go_ret
  exact ⟨rfl, bthen (bthen (bl1 _ _) hb1) hb2⟩
end Go.Proofs.YtgmnknmjainababGreat

namespace Go.Proofs.YtgmnknmjainababGreat
set_option linter.unusedVariables false
set_option linter.unusedSimpArgs false
set_option linter.unnecessarySimpa false
open Go.RowKit
attribute [local go_sem ↓] Go.wp_at_zero Go.wp_at_succ

set_option maxRecDepth 100000 in
set_option maxHeartbeats 4000000 in
theorem ref_q_6 (p q r s : Int) (w : World) (hc1 : decide (rok p q) = true) (hc2 : decide (rok r s) = true) (c : q ≠ 1) :
    Calls Tryz.prog 35 #[.agg #[.int .i64 6, .int .i64 p, .int .i64 q, .int .i64 r, .int .i64 s]] w fun z w' => z = .returned (.int .i64 3) ∧ Below w.heap.size w w' := by
  go_enter Tryz.func35, Tryz.ntmps35
  go_wp2_with (first
      | (go_at_call 44; have hq := hb1; refine (refRightRatio r s _).mono ?_; rintro r' w2 ⟨rfl, hb2⟩; rw [hc2]; obtain ⟨hsz2, hcell2, hfz2⟩ := near (w.heap.size + 1) hsz1 hb2)
      | (go_at_call 44; refine (refRightRatio p q _).mono ?_; rintro r' w1 ⟨rfl, hb1⟩; rw [hc1]; obtain ⟨hsz1, hcell1, hfz1⟩ := near (w.heap.size + 1) (by simp) hb1))
  go_ret
  exact ⟨rfl, bthen (bthen (bl1 _ _) hb1) hb2⟩

set_option maxRecDepth 100000 in
set_option maxHeartbeats 4000000 in
theorem ref_b1_6 (p r s : Int) (w : World) (hc1 : decide (rok p 1) = true) (hc2 : decide (rok r s) = true) (hg1 : (decide (0 ≤ p) && decide (p ≤ 100)) = false) :
    Calls Tryz.prog 35 #[.agg #[.int .i64 6, .int .i64 p, .int .i64 1, .int .i64 r, .int .i64 s]] w fun z w' => z = .returned (.int .i64 3) ∧ Below w.heap.size w w' := by
  go_enter Tryz.func35, Tryz.ntmps35
  go_wp2_with (first
      | (go_at_call 84; refine (between_any p 0 100 _).mono ?_; rintro r' w3 ⟨rfl, hw3⟩; rw [hg1]; subst hw3; have hbt := hb2)
      | (go_at_call 44; have hq := hb1; refine (refRightRatio r s _).mono ?_; rintro r' w2 ⟨rfl, hb2⟩; rw [hc2]; obtain ⟨hsz2, hcell2, hfz2⟩ := near (w.heap.size + 1) hsz1 hb2)
      | (go_at_call 44; refine (refRightRatio p 1 _).mono ?_; rintro r' w1 ⟨rfl, hb1⟩; rw [hc1]; obtain ⟨hsz1, hcell1, hfz1⟩ := near (w.heap.size + 1) (by simp) hb1))
  go_ret
  exact ⟨rfl, bthen (bthen (bl1 _ _) hb1) hb2⟩

set_option maxRecDepth 100000 in
set_option maxHeartbeats 4000000 in
theorem ref_b2_6 (p r s : Int) (w : World) (hc1 : decide (rok p 1) = true) (hc2 : decide (rok r s) = true) (hg1 : (decide (0 ≤ p) && decide (p ≤ 100)) = true) (hg2 : (decide (0 ≤ r) && decide (r ≤ s)) = false) :
    Calls Tryz.prog 35 #[.agg #[.int .i64 6, .int .i64 p, .int .i64 1, .int .i64 r, .int .i64 s]] w fun z w' => z = .returned (.int .i64 3) ∧ Below w.heap.size w w' := by
  go_enter Tryz.func35, Tryz.ntmps35
  go_wp2_with (first
      | (go_at_call 84; have hq := hbt; refine (between_any r 0 s _).mono ?_; rintro r' w4 ⟨rfl, hw4⟩; rw [hg2]; subst hw4)
      | (go_at_call 84; refine (between_any p 0 100 _).mono ?_; rintro r' w3 ⟨rfl, hw3⟩; rw [hg1]; subst hw3; have hbt := hb2)
      | (go_at_call 44; have hq := hb1; refine (refRightRatio r s _).mono ?_; rintro r' w2 ⟨rfl, hb2⟩; rw [hc2]; obtain ⟨hsz2, hcell2, hfz2⟩ := near (w.heap.size + 1) hsz1 hb2)
      | (go_at_call 44; refine (refRightRatio p 1 _).mono ?_; rintro r' w1 ⟨rfl, hb1⟩; rw [hc1]; obtain ⟨hsz1, hcell1, hfz1⟩ := near (w.heap.size + 1) (by simp) hb1))
  go_ret
  exact ⟨rfl, bthen (bthen (bl1 _ _) hb1) hb2⟩

set_option maxRecDepth 100000 in
set_option maxHeartbeats 4000000 in
theorem ref_o_6 (p r s : Int) (w : World) (hc1 : decide (rok p 1) = true) (hc2 : decide (rok r s) = true) (hg1 : (decide (0 ≤ p) && decide (p ≤ 100)) = true) (hg2 : (decide (0 ≤ r) && decide (r ≤ s)) = true) :
    Calls Tryz.prog 35 #[.agg #[.int .i64 6, .int .i64 p, .int .i64 1, .int .i64 r, .int .i64 s]] w fun z w' => z = .returned (.int .i64 0) ∧ Below w.heap.size w w' := by
  go_enter Tryz.func35, Tryz.ntmps35
  go_wp2_with (first
      | (go_at_call 84; have hq := hbt; refine (between_any r 0 s _).mono ?_; rintro r' w4 ⟨rfl, hw4⟩; rw [hg2]; subst hw4)
      | (go_at_call 84; refine (between_any p 0 100 _).mono ?_; rintro r' w3 ⟨rfl, hw3⟩; rw [hg1]; subst hw3; have hbt := hb2)
      | (go_at_call 44; have hq := hb1; refine (refRightRatio r s _).mono ?_; rintro r' w2 ⟨rfl, hb2⟩; rw [hc2]; obtain ⟨hsz2, hcell2, hfz2⟩ := near (w.heap.size + 1) hsz1 hb2)
      | (go_at_call 44; refine (refRightRatio p 1 _).mono ?_; rintro r' w1 ⟨rfl, hb1⟩; rw [hc1]; obtain ⟨hsz1, hcell1, hfz1⟩ := near (w.heap.size + 1) (by simp) hb1))
  go_ret
  exact ⟨rfl, bthen (bthen (bl1 _ _) hb1) hb2⟩
theorem ref_law (k p q r s : Int) (w : World) :
    Calls Tryz.prog 35 #[.agg #[.int .i64 k, .int .i64 p, .int .i64 q, .int .i64 r, .int .i64 s]] w fun z w' => z = .returned (.int .i64 (lawE k p q r s)) ∧ Below w.heap.size w w' := by
  by_cases h1 : k < 1
  · rw [show lawE k p q r s = 6 by unfold lawE; rw [if_pos (by omega)]]; exact ref_k0 k p q r s w h1
  by_cases h7 : 7 < k
  · rw [show lawE k p q r s = 6 by unfold lawE; rw [if_pos (by omega)]]; exact ref_k8 k p q r s w (by omega) h7
  have n1 : ¬ (k < 1 ∨ 7 < k) := by omega
  cases hc1 : decide (rok p q)
  · rw [show lawE k p q r s = 3 by unfold lawE; rw [if_neg n1, if_pos (Or.inl (of_decide_eq_false hc1))]]; exact ref_r1 k p q r s w (by omega) (by omega) hc1
  cases hc2 : decide (rok r s)
  · rw [show lawE k p q r s = 3 by unfold lawE; rw [if_neg n1, if_pos (Or.inr (of_decide_eq_false hc2))]]; exact ref_r2 k p q r s w (by omega) (by omega) hc1 hc2
  have hr1 := of_decide_eq_true hc1
  have hr2 := of_decide_eq_true hc2
  have n2 : ¬ (¬ rok p q ∨ ¬ rok r s) := by simp [hr1, hr2]
  have hE : lawE k p q r s = if oneB k = true ∧ ¬ (r = 0 ∧ s = 1) then 1 else if saidB k p q r s = false then 3 else if farB k p q r s = true then 2 else 0 := by
    unfold lawE; rw [if_neg n1, if_neg n2]
  rw [hE]
  clear hE
  obtain ⟨a1, a2, a3, a4⟩ := hr1
  obtain ⟨b1, b2, b3, b4⟩ := hr2
  obtain rfl | rfl | rfl | rfl | rfl | rfl | rfl : k = 1 ∨ k = 2 ∨ k = 3 ∨ k = 4 ∨ k = 5 ∨ k = 6 ∨ k = 7 := by omega
  · rw [if_neg (fun h => absurd h.1 (by decide))]
    by_cases c : r ≤ 0
    · rw [if_pos (by simp [saidB]; omega)]; exact ref_n_1 p q r s w a1 a2 a3 a4 b1 b2 b3 b4 hc1 hc2 c
    rw [if_neg (by simp [saidB]; omega)]
    by_cases d : p ≤ 100 * q
    case neg => rw [if_pos (by simp [farB, oneB, withinB]; omega)]; exact ref_m1_1 p q r s w a1 a2 a3 a4 b1 b2 b3 b4 hc1 hc2 (by omega) (by omega)
    by_cases d2 : -(100 * q) ≤ p
    case neg => rw [if_pos (by simp [farB, oneB, withinB]; omega)]; exact ref_m2_1 p q r s w a1 a2 a3 a4 b1 b2 b3 b4 hc1 hc2 (by omega) d (by omega)
    by_cases d3 : r ≤ 100 * s
    case neg => rw [if_pos (by simp [farB, oneB, withinB]; omega)]; exact ref_m3_1 p q r s w a1 a2 a3 a4 b1 b2 b3 b4 hc1 hc2 (by omega) d d2 (by omega)
    by_cases d4 : s ≤ 100 * r
    case neg => rw [if_pos (by simp [farB, oneB, withinB]; omega)]; exact ref_m4_1 p q r s w a1 a2 a3 a4 b1 b2 b3 b4 hc1 hc2 (by omega) d d2 d3 (by omega)
    rw [if_neg (by simp [farB, oneB, withinB]; omega)]; exact ref_o_1 p q r s w a1 a2 a3 a4 b1 b2 b3 b4 hc1 hc2 (by omega) d d2 d3 d4
  · by_cases z0 : r = 0
    case neg => rw [if_pos ⟨by decide, by omega⟩]; exact ref_z0_2 p q r s w hc1 hc2 z0
    subst z0
    by_cases z1 : s = 1
    case neg => rw [if_pos ⟨by decide, by omega⟩]; exact ref_z1_2 p q s w hc1 hc2 z1
    subst z1
    rw [if_neg (by omega)]
    by_cases c : p ≤ 0
    · rw [if_pos (by simp [saidB]; omega)]; exact ref_n_2 p q w a1 a2 a3 a4 hc1 hc2 c
    rw [if_neg (by simp [saidB]; omega)]
    by_cases d : p ≤ 100 * q
    · rw [if_neg (by simp [farB, oneB, withinB]; omega)]; exact ref_o_2 p q w a1 a2 a3 a4 hc1 hc2 (by omega) d
    · rw [if_pos (by simp [farB, oneB, withinB]; omega)]; exact ref_m_2 p q w a1 a2 a3 a4 hc1 hc2 (by omega) (by omega)
  · rw [if_neg (fun h => absurd h.1 (by decide))]
    by_cases c0 : p ≤ 0
    · rw [if_pos (by simp [saidB]; omega)]; exact ref_p_3 p q r s w a1 a2 a3 a4 b1 b2 b3 b4 hc1 hc2 c0
    by_cases c : r ≤ 0
    · rw [if_pos (by simp [saidB]; omega)]; exact ref_n_3 p q r s w a1 a2 a3 a4 b1 b2 b3 b4 hc1 hc2 (by omega) c
    rw [if_neg (by simp [saidB]; omega)]
    by_cases d : p ≤ 100 * q
    case neg => rw [if_pos (by simp [farB, oneB, withinB]; omega)]; exact ref_m1_3 p q r s w a1 a2 a3 a4 b1 b2 b3 b4 hc1 hc2 (by omega) (by omega) (by omega)
    have d2 : -(100 * q) ≤ p := by omega
    by_cases d3 : r ≤ 100 * s
    case neg => rw [if_pos (by simp [farB, oneB, withinB]; omega)]; exact ref_m3_3 p q r s w a1 a2 a3 a4 b1 b2 b3 b4 hc1 hc2 (by omega) (by omega) d d2 (by omega)
    by_cases d4 : s ≤ 100 * r
    case neg => rw [if_pos (by simp [farB, oneB, withinB]; omega)]; exact ref_m4_3 p q r s w a1 a2 a3 a4 b1 b2 b3 b4 hc1 hc2 (by omega) (by omega) d d2 d3 (by omega)
    rw [if_neg (by simp [farB, oneB, withinB]; omega)]; exact ref_o_3 p q r s w a1 a2 a3 a4 b1 b2 b3 b4 hc1 hc2 (by omega) (by omega) d d2 d3 d4
  · rw [if_neg (fun h => absurd h.1 (by decide))]
    by_cases c0 : p ≤ 0
    · rw [if_pos (by simp [saidB]; omega)]; exact ref_p_4 p q r s w a1 a2 a3 a4 b1 b2 b3 b4 hc1 hc2 c0
    by_cases c : r ≤ 0
    · rw [if_pos (by simp [saidB]; omega)]; exact ref_n_4 p q r s w a1 a2 a3 a4 b1 b2 b3 b4 hc1 hc2 (by omega) c
    rw [if_neg (by simp [saidB]; omega)]
    by_cases d : p ≤ 100 * q
    case neg => rw [if_pos (by simp [farB, oneB, withinB]; omega)]; exact ref_m1_4 p q r s w a1 a2 a3 a4 b1 b2 b3 b4 hc1 hc2 (by omega) (by omega) (by omega)
    have d2 : -(100 * q) ≤ p := by omega
    by_cases d3 : r ≤ 100 * s
    case neg => rw [if_pos (by simp [farB, oneB, withinB]; omega)]; exact ref_m3_4 p q r s w a1 a2 a3 a4 b1 b2 b3 b4 hc1 hc2 (by omega) (by omega) d d2 (by omega)
    by_cases d4 : s ≤ 100 * r
    case neg => rw [if_pos (by simp [farB, oneB, withinB]; omega)]; exact ref_m4_4 p q r s w a1 a2 a3 a4 b1 b2 b3 b4 hc1 hc2 (by omega) (by omega) d d2 d3 (by omega)
    rw [if_neg (by simp [farB, oneB, withinB]; omega)]; exact ref_o_4 p q r s w a1 a2 a3 a4 b1 b2 b3 b4 hc1 hc2 (by omega) (by omega) d d2 d3 d4
  · by_cases z0 : r = 0
    case neg => rw [if_pos ⟨by decide, by omega⟩]; exact ref_z0_5 p q r s w hc1 hc2 z0
    subst z0
    by_cases z1 : s = 1
    case neg => rw [if_pos ⟨by decide, by omega⟩]; exact ref_z1_5 p q s w hc1 hc2 z1
    subst z1
    rw [if_neg (by omega)]
    by_cases c : p ≤ 0
    · rw [if_pos (by simp [saidB]; omega)]; exact ref_n_5 p q w a1 a2 a3 a4 hc1 hc2 c
    rw [if_neg (by simp [saidB]; omega)]
    by_cases d : p ≤ 100 * q
    · rw [if_neg (by simp [farB, oneB, withinB]; omega)]; exact ref_o_5 p q w a1 a2 a3 a4 hc1 hc2 (by omega) d
    · rw [if_pos (by simp [farB, oneB, withinB]; omega)]; exact ref_m_5 p q w a1 a2 a3 a4 hc1 hc2 (by omega) (by omega)
  · rw [if_neg (fun h => absurd h.1 (by decide))]
    by_cases c : q = 1
    case neg => rw [if_pos (by simp [saidB, c])]; exact ref_q_6 p q r s w hc1 hc2 c
    subst c
    cases hg1 : (decide (0 ≤ p) && decide (p ≤ 100))
    · rw [if_pos (by simp at hg1; simp [saidB]; omega)]; exact ref_b1_6 p r s w hc1 hc2 hg1
    cases hg2 : (decide (0 ≤ r) && decide (r ≤ s))
    · rw [if_pos (by simp at hg2; simp [saidB]; omega)]; exact ref_b2_6 p r s w hc1 hc2 hg1 hg2
    rw [if_neg (by simp at hg1 hg2; simp [saidB]; omega), if_neg (by simp [farB])]; exact ref_o_6 p r s w hc1 hc2 hg1 hg2
  · by_cases z0 : r = 0
    case neg => rw [if_pos ⟨by decide, by omega⟩]; exact ref_z0_7 p q r s w hc1 hc2 z0
    subst z0
    by_cases z1 : s = 1
    case neg => rw [if_pos ⟨by decide, by omega⟩]; exact ref_z1_7 p q s w hc1 hc2 z1
    subst z1
    rw [if_neg (by omega)]
    by_cases c : p ≤ 0
    · rw [if_pos (by simp [saidB]; omega)]; exact ref_n_7 p q w a1 a2 a3 a4 hc1 hc2 c
    rw [if_neg (by simp [saidB]; omega)]
    by_cases d : p ≤ 100 * q
    · rw [if_neg (by simp [farB, oneB, withinB]; omega)]; exact ref_o_7 p q w a1 a2 a3 a4 hc1 hc2 (by omega) d
    · rw [if_pos (by simp [farB, oneB, withinB]; omega)]; exact ref_m_7 p q w a1 a2 a3 a4 hc1 hc2 (by omega) (by omega)
end Go.Proofs.YtgmnknmjainababGreat

namespace Go.Proofs.YtgmnknmjainababGreat
set_option linter.unusedVariables false
set_option linter.unusedSimpArgs false
set_option linter.unnecessarySimpa false
open Go.RowKit
attribute [local go_sem ↓] Go.wp_at_zero Go.wp_at_succ

theorem touch_up {b i : Nat} {a c : Int × Int} {x : Nat → Rat} (h : Iv b a x) (k : Iv (b + i) c x) : touB a.1 a.2 i c.1 c.2 0 = true := by
  have q := Q_pos b
  have t1 := h.touch k
  have t2 := k.touch h
  rw [Q_add] at t1 t2
  have e1 : a.1 * (Q b * Q i) = a.1 * Q i * Q b := by grind
  have e2 : a.2 * (Q b * Q i) = a.2 * Q i * Q b := by grind
  rw [e1] at t1
  rw [e2] at t2
  have c1 : a.1 * Q i ≤ c.2 := Int.le_of_mul_le_mul_right t1 (by omega)
  have c2 : c.1 ≤ a.2 * Q i := Int.le_of_mul_le_mul_right t2 (by omega)
  have e0 : Q 0 = 1 := rfl
  unfold touB
  rw [e0]
  simp [c1, c2]
theorem lawSure_ok (w : World) (s t : Sp) (b i k : Nat) (lo hi lo' hi' : Int) (hs : SpAt w s 250 lo hi) (ht : SpAt w t k lo' hi') (hk0 : 250 ≤ k) (hk : k ≤ 300000000) (hb : s.bits = b) (hb1 : b ≤ 120) (hle : lo ≤ hi) (hi0 : 1 ≤ i) (hi1 : i ≤ 1000) (htb : t.bits = ((b + i : Nat) : Int)) (hN : narB lo hi (Q b) 4 = true) (hT : touB lo hi i lo' hi' 0 = true) :
    Calls Tryz.prog 12 #[.agg #[.bool s.ln, .slice s.la s.lN s.lc, .bool s.hn, .slice s.ha s.hN s.hc, .int .i64 s.bits], .int .i64 0, .int .i64 0, .int .i64 b, .agg #[.bool t.ln, .slice t.la t.lN t.lc, .bool t.hn, .slice t.ha t.hN t.hc, .int .i64 t.bits]] w fun r w' => r = .returned (.bool true) ∧ Below w.heap.size w w' := by
  rw [← hb]
  rcases cmp3 lo hi with ⟨h1, h2⟩ | ⟨h1, h2⟩ | ⟨h1, h2⟩
  · exact lawSure_a w s t b i k lo hi lo' hi' hs ht hk0 hk hb hb1 hle hi0 hi1 htb hN hT h1
  · exact lawSure_b w s t b i k lo hi lo' hi' hs ht hk0 hk hb hb1 hle hi0 hi1 htb hN hT h1
  · omega

end Go.Proofs.YtgmnknmjainababGreat
