/-
  What the way that span.To hands to span.made answers, and what span.To answers of whatever span; they leave old memory alone.
-/
import Derived.Test.YtibbhnmbmgllcaaMade3
import Derived.Test.YtibbhnmbmgllcaaRefs5
namespace Go.Proofs.Ytibbhnmbmgllcaa
set_option linter.unusedVariables false
set_option linter.unusedSimpArgs false
set_option linter.unnecessarySimpa false
open Go.RowKit
attribute [local go_sem ↓] Go.wp_at_zero Go.wp_at_succ

set_option maxRecDepth 100000 in
set_option maxHeartbeats 2000000 in
theorem to1_bad (w : World) (B0 B1 : Nat) (bt : Int) (k : Nat) (h : ¬ (8 ≤ bt ∧ bt ≤ 120)) (g : w.cell? ⟨B1, 0, none⟩ = some (.int .i64 bt)) (l : B1 < w.heap.size) :
    Calls Try.prog 73 #[.pointer (some ⟨B1, 0, none⟩), .pointer (some ⟨B0, 0, none⟩)] w (PairAns w 0 k 0 0 3) := by
  have hE : bitE bt = 3 := by unfold bitE; rw [if_neg h]
  go_enter Try.func73, Try.ntmps73
  go_wp2_with fail
  refine (ratioFault_none _ _).mono ?_
  rintro r w1 ⟨rfl, hb1⟩
  rw [hE]
  obtain ⟨q0, q1, q2, q3, q4, q5⟩ := (noc_new w 26).below hb1
  go_wp2_with fail
  refine bodyPost_ret (v := .tuple #[.agg #[.bool false, .slice none 0 0, .bool false, .slice none 0 0, .int .i64 0], .int .i64 3]) (by simp [results, Try.results73, go_sem, q0, q1, q2, q3, q4]) rfl ⟨⟨false, none, 0, 0, false, none, 0, 0, 0⟩, rfl, rfl, zeroSp _ _, ?_⟩
  exact set5 (bthen (bl1 _ _) hb1) (Nat.le_refl _) _ _ _ _ _

set_option maxRecDepth 100000 in
set_option maxHeartbeats 2000000 in
theorem to1_int (w : World) (B0 B1 : Nat) (s : Sp) (bt : Int) (k : Nat) (lo hi : Int) (hs : SpAt w s k lo hi) (hk : k ≤ 300000000) (hb0 : 0 ≤ s.bits) (hbm : s.bits ≤ 1000000) (h1 : 8 ≤ bt) (h2 : bt ≤ 120) (a : SpC w B0 s) (g : w.cell? ⟨B1, 0, none⟩ = some (.int .i64 bt)) (l : B1 < w.heap.size) :
    Calls Try.prog 73 #[.pointer (some ⟨B1, 0, none⟩), .pointer (some ⟨B0, 0, none⟩)] w (PairAns w bt (k + 62505) (downZ lo (s.bits - bt)) (-(downZ (-hi) (s.bits - bt))) 0) := by
  have hE : bitE bt = 0 := by unfold bitE; rw [if_pos ⟨h1, h2⟩]
  have l0 := a.lt
  go_enter Try.func73, Try.ntmps73
  go_wp2_with fail
  refine (ratioFault_none _ _).mono ?_
  rintro r w1 ⟨rfl, hb1⟩
  rw [hE]
  have hB1 : Below w.heap.size w w1 := bthen (bl1 _ _) hb1
  have hN1 := (noc_new w 26).below hb1
  obtain ⟨a0, a1, a2, a3, a4⟩ := a.below hB1
  have g1 := (hB1.cell (p := ⟨B1, 0, none⟩) l).trans g
  have l1 := Nat.lt_of_lt_of_le l hB1.size
  have l01 := Nat.lt_of_lt_of_le l0 hB1.size
  go_wp2_with fail
  refine (wideTo_int _ s k bt lo hi (hs.below hB1) hk hb0 hbm (by omega) (by omega)).mono ?_
  rintro r w2 ⟨u, rfl, hub, hup, hb2⟩
  obtain ⟨q0, q1, q2, q3, q4, q5⟩ := hN1.below hb2
  have HB := hide hub
  clear hub
  go_wp2_with fail
  refine bodyPost_ret (v := .tuple #[.agg #[.bool u.ln, .slice u.la u.lN u.lc, .bool u.hn, .slice u.ha u.hN u.hc, .int .i64 u.bits], .int .i64 0]) (by simp [results, Try.results73, go_sem, q0, q1, q2, q3, q4]) rfl ⟨u, rfl, unhide HB, ?_, ?_⟩
  · exact SpAt.put5 hup q0 q1 q2 q3 q4 _ _ _ _ _
  · exact set5 (bthen hB1 hb2) (Nat.le_refl _) _ _ _ _ _

/-- A contract of a callee that answers a span and an errno, of one span and a number. -/
def SaidT (s : Sp) (bt : Int) (d e : Nat → Int) (b : Int) (k : Nat) (lo hi er : Int) : Prop :=
  ∀ W, SpDig W s d e → Calls Try.prog 16 #[.agg #[.bool s.ln, .slice s.la s.lN s.lc, .bool s.hn, .slice s.ha s.hN s.hc, .int .i64 s.bits], .int .i64 bt] W (PairAns W b k lo hi er)
theorem saidTo_bad (s : Sp) (bt : Int) (d e : Nat → Int) (hE : chkE s d e ≠ 0) : SaidT s bt d e 0 70000 0 0 (chkE s d e) := fun W hs =>
  span1_To W s bt d e hs _ _ _ _ _ fun W1 B0 B1 B cap _ _ _ _ hS => made_bad_To _ _ B W1 _ _ _ 1 cap (by omega) hS _ (fun z hz => flt_one hz) hE 70000
theorem saidTo_err (s : Sp) (bt : Int) (d e : Nat → Int) (hE : chkE s d e = 0) (h : ¬ (8 ≤ bt ∧ bt ≤ 120)) : SaidT s bt d e 0 70000 0 0 3 := fun W hs =>
  span1_To W s bt d e hs _ _ _ _ _ fun W1 B0 B1 B cap _ _ g l hS => made_err_To _ _ B W1 _ _ _ 1 cap (by omega) hS (fun z hz => by rw [flt_one hz, hE]) 0 70000 0 0 3 (by omega)
    (fun w' hb => to1_bad w' B0 B1 bt 70000 h ((hb.cell (p := ⟨B1, 0, none⟩) l).trans g) (Nat.lt_of_lt_of_le l hb.size))
theorem saidTo_fit (s : Sp) (bt : Int) (d e : Nat → Int) (hE : chkE s d e = 0) (h1 : 8 ≤ bt) (h2 : bt ≤ 120) (lo hi : Int) (hlo : lo = loZ s d) (hhi : hi = hiZ s e) :
    SaidT s bt d e (fitZ (downZ lo (s.bits - bt)) (-(downZ (-hi) (s.bits - bt))) bt) 70000 (fitZ (downZ lo (s.bits - bt)) (-(downZ (-hi) (s.bits - bt))) (downZ lo (s.bits - bt))) (fitZ (downZ lo (s.bits - bt)) (-(downZ (-hi) (s.bits - bt))) (-(downZ (-hi) (s.bits - bt)))) (fitE (downZ lo (s.bits - bt)) (-(downZ (-hi) (s.bits - bt)))) := fun W hs => by
  obtain ⟨p1, p2, p3, p4⟩ := chk_ok hs hE
  subst hlo hhi
  replace p1 : SpAt W s 250 (loZ s d) (hiZ s e) := p1
  have hl : loZ s d ≤ hiZ s e := p4
  refine span1_To W s bt d e hs _ _ _ _ _ fun W1 B0 B1 B cap hB hA g l hS => ?_
  exact made_fit_To _ _ B W1 _ _ _ 1 cap (by omega) hS (fun z hz => by rw [flt_one hz, hE]) bt 70000 _ _
    (fun w' hb => (to1_int w' B0 B1 s bt 250 _ _ ((p1.below hB).below hb) (by omega) (by omega) (by omega) h1 h2 (hA.below hb) ((hb.cell (p := ⟨B1, 0, none⟩) l).trans g) (Nat.lt_of_lt_of_le l hb.size)).mono fun r w2 h => h.mono (by omega))
    (Int.le_trans (downZ_le hl) (downZ_ceil _ _)) (by omega) h2
end Go.Proofs.Ytibbhnmbmgllcaa
