/-
  What span.fit, wide.Add, span.made and span.Add answer, and that they leave old memory alone.
-/
import Derived.Test.YtibbhnmbmgllcaaSpanK
namespace Go.Proofs.Ytibbhnmbmgllcaa
set_option linter.unusedVariables false
set_option linter.unusedSimpArgs false
set_option linter.unnecessarySimpa false
open Go.RowKit
attribute [local go_sem ↓] Go.wp_at_zero Go.wp_at_succ

/-- A span, or none, and an errno. -/
def FitAns (w : World) (s : Sp) (d e : Nat → Int) (r : Ending) (w' : World) : Prop :=
  ((chkE s d e = 0 ∧ r = .returned (.tuple #[.agg #[.bool s.ln, .slice s.la s.lN s.lc, .bool s.hn, .slice s.ha s.hN s.hc, .int .i64 s.bits], .int .i64 0])) ∨
   (chkE s d e ≠ 0 ∧ r = .returned (.tuple #[.agg #[.bool false, .slice none 0 0, .bool false, .slice none 0 0, .int .i64 0], .int .i64 (chkE s d e)]))) ∧ Below w.heap.size w w'

set_option maxRecDepth 100000 in
set_option maxHeartbeats 2000000 in
theorem fit_any (w : World) (s : Sp) (d e : Nat → Int) (h : SpDig w s d e) :
    Calls Try.prog 124 #[.agg #[.bool s.ln, .slice s.la s.lN s.lc, .bool s.hn, .slice s.ha s.hN s.hc, .int .i64 s.bits]] w (FitAns w s d e) := by
  by_cases h1 : chkE s d e = 0
  · have h1' : (chkE s d e != 0) = false := by simp [h1]
    have HE := hide h1
    clear h1
    go_enter Try.func124, Try.ntmps124
    go_wp2_with (go_at_call 25; refine (check_any s d e _ (h.below (bl2 _ _ _))).mono ?_; rintro r w1 ⟨rfl, hb1⟩; obtain ⟨hsz1, hcell1, hfz1⟩ := near (w.heap.size + 1 + 1) (by simp) hb1)
    refine bodyPost_ret (v := .tuple #[.agg #[.bool s.ln, .slice s.la s.lN s.lc, .bool s.hn, .slice s.ha s.hN s.hc, .int .i64 s.bits], .int .i64 0]) (by simp [results, Try.results124, go_sem, hcell1]) rfl ⟨Or.inl ⟨unhide HE, rfl⟩, ?_⟩
    exact set5 (bthen (bl2 _ _ _) hb1) (Nat.le_succ _) _ _ _ _ _
  · have h1' : (chkE s d e != 0) = true := by simp [h1]
    have HE := hide h1
    clear h1
    go_enter Try.func124, Try.ntmps124
    go_wp2_with (go_at_call 25; refine (check_any s d e _ (h.below (bl2 _ _ _))).mono ?_; rintro r w1 ⟨rfl, hb1⟩; obtain ⟨hsz1, hcell1, hfz1⟩ := near (w.heap.size + 1 + 1) (by simp) hb1)
    refine bodyPost_ret (v := .tuple #[.agg #[.bool false, .slice none 0 0, .bool false, .slice none 0 0, .int .i64 0], .int .i64 (chkE s d e)]) (by simp [results, Try.results124, go_sem, hcell1]) rfl ⟨Or.inr ⟨unhide HE, rfl⟩, ?_⟩
    exact set5 (bthen (bl2 _ _ _) hb1) (Nat.le_succ _) _ _ _ _ _

set_option maxRecDepth 100000 in
set_option maxHeartbeats 2000000 in
theorem wideAdd_int (w : World) (s t : Sp) (k : Nat) (lo hi lo' hi' : Int) (hs : SpAt w s k lo hi) (ht : SpAt w t k lo' hi') (hk : k ≤ 700000000) :
    Calls Try.prog 82 #[.agg #[.bool s.ln, .slice s.la s.lN s.lc, .bool s.hn, .slice s.ha s.hN s.hc, .int .i64 s.bits], .agg #[.bool t.ln, .slice t.la t.lN t.lc, .bool t.hn, .slice t.ha t.hN t.hc, .int .i64 t.bits]] w (SpanAns w s.bits (k + 1) (lo + lo') (hi + hi')) := by
  have ne1 : w.heap.size ≠ w.heap.size + 1 + 1 := by omega
  have ne2 : w.heap.size + 1 + 1 ≠ w.heap.size := by omega
  have le2 : w.heap.size ≤ w.heap.size + 1 + 1 := by omega
  go_enter Try.func82, Try.ntmps82
  go_wp2
  go_region_held3 (fun w' => w'.cell? ⟨w.heap.size, 0, none⟩ = some (.bool s.ln) ∧ w'.cell? ⟨w.heap.size, 1, none⟩ = some (.slice s.la s.lN s.lc) ∧ w'.cell? ⟨w.heap.size, 2, none⟩ = some (.bool s.hn) ∧ w'.cell? ⟨w.heap.size, 3, none⟩ = some (.slice s.ha s.hN s.hc) ∧ w'.cell? ⟨w.heap.size, 4, none⟩ = some (.int .i64 s.bits) ∧ w'.cell? ⟨w.heap.size + 1, 0, none⟩ = some (.bool t.ln) ∧ w'.cell? ⟨w.heap.size + 1, 1, none⟩ = some (.slice t.la t.lN t.lc) ∧ w'.cell? ⟨w.heap.size + 1, 2, none⟩ = some (.bool t.hn) ∧ w'.cell? ⟨w.heap.size + 1, 3, none⟩ = some (.slice t.ha t.hN t.hc)) (go_keep)
    (first
      | (go_at_call 49; have hq := hb1; refine (add_int _ _ _ _ _ _ _ _ k k hi hi' _ (hs.hi.below (bthen (bl3 _ _ _ _).drew hb1)) (ht.hi.below (bthen (bl3 _ _ _ _).drew hb1)) (by omega) (by omega)).mono ?_; rintro r w2 ⟨neg2, a2, n2, c2, rfl, hint2, hb2⟩; obtain ⟨hsz2, hcell2, hfz2⟩ := near (w.heap.size + 1 + 1 + 1) hsz1 hb2)
      | (go_at_call 49; refine (add_int _ _ _ _ _ _ _ _ k k lo lo' _ (hs.lo.below (bl3 _ _ _ _).drew) (ht.lo.below (bl3 _ _ _ _).drew) (by omega) (by omega)).mono ?_; rintro r w1 ⟨neg1, a1, n1, c1, rfl, hint1, hb1⟩; obtain ⟨hsz1, hcell1, hfz1⟩ := near (w.heap.size + 1 + 1 + 1) (by simp) hb1))
  go_wp2
  have q0 : w2.cell? ⟨w.heap.size + 1 + 1, 0, none⟩ = some (.bool false) := by simp [hcell2, hcell1, go_sem]
  have q1 : w2.cell? ⟨w.heap.size + 1 + 1, 1, none⟩ = some (.slice none 0 0) := by simp [hcell2, hcell1, go_sem]
  have q2 : w2.cell? ⟨w.heap.size + 1 + 1, 2, none⟩ = some (.bool false) := by simp [hcell2, hcell1, go_sem]
  have q3 : w2.cell? ⟨w.heap.size + 1 + 1, 3, none⟩ = some (.slice none 0 0) := by simp [hcell2, hcell1, go_sem]
  have q4 : w2.cell? ⟨w.heap.size + 1 + 1, 4, none⟩ = some (.int .i64 0) := by simp [hcell2, hcell1, go_sem]
  refine bodyPost_ret (v := .agg #[.bool neg1, .slice a1 n1 c1, .bool neg2, .slice a2 n2 c2, .int .i64 s.bits]) (by simp [results, Try.results82, go_sem, q0, q1, q2, q3, q4]) rfl ⟨⟨neg1, a1, n1, c1, neg2, a2, n2, c2, s.bits⟩, rfl, rfl, ?_, ?_⟩
  · exact SpAt.put5 ⟨(hint1.below hb2).mono (by omega), hint2.mono (by omega)⟩ q0 q1 q2 q3 q4 _ _ _ _ _
  · exact set5 (bthen (bthen (bl3 _ _ _ _).drew hb1) hb2) le2 _ _ _ _ _

theorem lenZ_le (n : Nat) (d : Nat → Int) : lenZ n d ≤ 16 * n := by
  unfold lenZ
  have := blenF_bd 16 (d (n - 1))
  split <;> omega

/-- A small right span is one that Check has nothing against. -/
theorem chk_small {w : World} {s : Sp} {k : Nat} {lo hi : Int} (h : SpAt w s k lo hi) (hk : k ≤ 250) (hle : lo ≤ hi) (h1 : 1 ≤ s.bits) (h2 : s.bits ≤ 120) : ∃ d e, SpDig w s d e ∧ chkE s d e = 0 := by
  obtain ⟨⟨d, p1, p2, p3, p4, p5⟩, ⟨e, r1, r2, r3, r4, r5⟩⟩ := h
  refine ⟨d, e, ⟨p1, r1⟩, ?_⟩
  have l1 := lenZ_le s.lN d
  have l2 := lenZ_le s.hN e
  have g1 : rightB s.ln s.lN d ≠ false := by
    unfold rightB
    by_cases h0 : s.lN = 0
    · simp [h0, p3 h0]
    · rw [if_neg h0]; simpa using (show d (s.lN - 1) ≠ 0 by omega)
  have g2 : rightB s.hn s.hN e ≠ false := by
    unfold rightB
    by_cases h0 : s.hN = 0
    · simp [h0, r3 h0]
    · rw [if_neg h0]; simpa using (show e (s.hN - 1) ≠ 0 by omega)
  have g3 : ¬ 0 < cmpI s.ln s.hn d e s.lN s.hN := by
    rw [sgn_nonneg_lt p1.dgs r1.dgs s.ln s.hn s.lN s.hN p2 r2 p3 r3, ← p5, ← r5]
    exact cmpInt_le0 (by omega)
  unfold chkE
  rw [if_neg (by omega), if_neg (fun q => q.elim g1 g2), if_neg (by omega), if_neg g3]

set_option maxRecDepth 100000 in
set_option maxHeartbeats 2000000 in
theorem made_ok_Add (p1 p2 : Value) (B : Nat) (W : World) (f : Nat → Sp) (d e : Nat → Nat → Int) (n cap : Nat) (hn : n ≤ 1000) (hS : Spans W B n f d e) (h0 : ∀ z, Flt (fun j => chkE (f j) (d j) (e j)) (fun j => (f j).bits) n z → z = 0)
    (b : Int) (k : Nat) (lo hi : Int) (hF : ∀ w', Below W.heap.size W w' → Calls Try.prog 81 #[p1, p2] w' (PairAns w' b k lo hi 0)) (hk : k ≤ 250) (hle : lo ≤ hi) (hb1 : 1 ≤ b) (hb2 : b ≤ 120) :
    Calls Try.prog 72 #[.func (.func 81) #[] #[p1, p2], .slice (some ⟨B, 0, none⟩) n cap] W (PairAns W b k lo hi 0) := by
  have HF := hide hF
  have HZ := hide h0
  have HS := hide hS
  clear hF h0 hS
  go_enter Try.func72, Try.ntmps72
  go_wp2_with fail
  refine (fault_any _ _ _ f d e _ ((unhide HS).below (bl1 _ _)) hn).mono ?_
  rintro r w1 ⟨z, rfl, hz, hb1'⟩
  have hz0 := unhide HZ z hz
  subst hz0
  obtain ⟨hsz1, hcell1, hfz1⟩ := near (W.heap.size + 1) (by simp) hb1'
  have hB1 : Below W.heap.size W w1 := bthen (bl1 _ _) hb1'
  clear hz
  go_wp2_with fail
  refine (unhide HF _ hB1).mono ?_
  rintro r w2 ⟨s, rfl, hsb, hsp, hb3⟩
  have hB2 := bthen hB1 hb3
  obtain ⟨hsz2, hcell2, hfz2⟩ := near (W.heap.size + 1) hsz1 hb3
  have hz0 := Nat.lt_of_lt_of_le (Nat.lt_succ_self W.heap.size) hsz2
  obtain ⟨dd, ee, hdig, hchk⟩ := chk_small hsp hk hle (by omega) (by omega)
  have q0 : w2.cell? ⟨W.heap.size, 0, none⟩ = some (.bool false) := by simp [hcell2, hcell1]
  have q1 : w2.cell? ⟨W.heap.size, 1, none⟩ = some (.slice none 0 0) := by simp [hcell2, hcell1]
  have q2 : w2.cell? ⟨W.heap.size, 2, none⟩ = some (.bool false) := by simp [hcell2, hcell1]
  have q3 : w2.cell? ⟨W.heap.size, 3, none⟩ = some (.slice none 0 0) := by simp [hcell2, hcell1]
  have q4 : w2.cell? ⟨W.heap.size, 4, none⟩ = some (.int .i64 0) := by simp [hcell2, hcell1]
  have q5 : ∀ o, w2.frozen? ⟨W.heap.size, o, none⟩ = false := by intro o; simp [hfz2, hfz1, go_sem]
  have HB := hide hsb
  have HC := hide hchk
  clear hsb hcell2 hcell1 hfz2 hfz1 hb1' hchk
  go_wp2_with fail
  refine (fit_any _ s dd ee (hdig.below (bl1 _ _))).mono ?_
  rintro r w3 ⟨hr, hb4⟩
  have hr' : r = .returned (.tuple #[.agg #[.bool s.ln, .slice s.la s.lN s.lc, .bool s.hn, .slice s.ha s.hN s.hc, .int .i64 s.bits], .int .i64 0]) := by
    rcases hr with ⟨_, h⟩ | ⟨h, _⟩
    · exact h
    · exact absurd (unhide HC) h
  subst hr'
  clear hr
  have hB3 : Below w2.heap.size w2 w3 := bthen (bl1 _ _) hb4
  have t0 := (hB3.cell (p := ⟨W.heap.size, 0, none⟩) hz0).trans q0
  have t1 := (hB3.cell (p := ⟨W.heap.size, 1, none⟩) hz0).trans q1
  have t2 := (hB3.cell (p := ⟨W.heap.size, 2, none⟩) hz0).trans q2
  have t3 := (hB3.cell (p := ⟨W.heap.size, 3, none⟩) hz0).trans q3
  have t4 := (hB3.cell (p := ⟨W.heap.size, 4, none⟩) hz0).trans q4
  have t5 : ∀ o, w3.frozen? ⟨W.heap.size, o, none⟩ = false := fun o => (hB3.frozen (p := ⟨W.heap.size, o, none⟩) hz0).trans (q5 o)
  go_wp2_with fail
  refine bodyPost_ret (v := .tuple #[.agg #[.bool s.ln, .slice s.la s.lN s.lc, .bool s.hn, .slice s.ha s.hN s.hc, .int .i64 s.bits], .int .i64 0]) (by simp [results, Try.results72, go_sem, t0, t1, t2, t3, t4]) rfl ⟨s, rfl, unhide HB, ?_, ?_⟩
  · exact SpAt.put5 (hsp.below hB3) t0 t1 t2 t3 t4 _ _ _ _ _
  · exact set5 (bthen hB2 hB3) (Nat.le_refl _) _ _ _ _ _

set_option maxRecDepth 100000 in
set_option maxHeartbeats 2000000 in
theorem add1_int (w : World) (B0 B1 : Nat) (s t : Sp) (k : Nat) (lo hi lo' hi' : Int) (hs : SpAt w s k lo hi) (ht : SpAt w t k lo' hi') (hk : k ≤ 700000000)
    (a0 : w.cell? ⟨B0, 0, none⟩ = some (.bool s.ln)) (a1 : w.cell? ⟨B0, 1, none⟩ = some (.slice s.la s.lN s.lc)) (a2 : w.cell? ⟨B0, 2, none⟩ = some (.bool s.hn)) (a3 : w.cell? ⟨B0, 3, none⟩ = some (.slice s.ha s.hN s.hc)) (a4 : w.cell? ⟨B0, 4, none⟩ = some (.int .i64 s.bits))
    (b0 : w.cell? ⟨B1, 0, none⟩ = some (.bool t.ln)) (b1 : w.cell? ⟨B1, 1, none⟩ = some (.slice t.la t.lN t.lc)) (b2 : w.cell? ⟨B1, 2, none⟩ = some (.bool t.hn)) (b3 : w.cell? ⟨B1, 3, none⟩ = some (.slice t.ha t.hN t.hc)) (b4 : w.cell? ⟨B1, 4, none⟩ = some (.int .i64 t.bits)) :
    Calls Try.prog 81 #[.pointer (some ⟨B0, 0, none⟩), .pointer (some ⟨B1, 0, none⟩)] w (PairAns w s.bits (k + 1) (lo + lo') (hi + hi') 0) := by
  have l0 : B0 < w.heap.size := World.block_lt_of_cell? w ⟨B0, 0, none⟩ a0
  have l1 : B1 < w.heap.size := World.block_lt_of_cell? w ⟨B1, 0, none⟩ b0
  go_enter Try.func81, Try.ntmps81
  go_wp2_with fail
  refine (wideAdd_int _ s t k lo hi lo' hi' (hs.below (bl1 _ _)) (ht.below (bl1 _ _)) hk).mono ?_
  rintro r w1 ⟨u, rfl, hub, hup, hb1⟩
  obtain ⟨hsz1, hcell1, hfz1⟩ := near (w.heap.size + 1) (by simp) hb1
  have q0 : w1.cell? ⟨w.heap.size, 0, none⟩ = some (.bool false) := by simp [hcell1]
  have q1 : w1.cell? ⟨w.heap.size, 1, none⟩ = some (.slice none 0 0) := by simp [hcell1]
  have q2 : w1.cell? ⟨w.heap.size, 2, none⟩ = some (.bool false) := by simp [hcell1]
  have q3 : w1.cell? ⟨w.heap.size, 3, none⟩ = some (.slice none 0 0) := by simp [hcell1]
  have q4 : w1.cell? ⟨w.heap.size, 4, none⟩ = some (.int .i64 0) := by simp [hcell1]
  have q5 : ∀ o, w1.frozen? ⟨w.heap.size, o, none⟩ = false := by intro o; simp [hfz1, go_sem]
  have HB := hide hub
  clear hub
  go_wp2_with fail
  refine bodyPost_ret (v := .tuple #[.agg #[.bool u.ln, .slice u.la u.lN u.lc, .bool u.hn, .slice u.ha u.hN u.hc, .int .i64 u.bits], .int .i64 0]) (by simp [results, Try.results81, go_sem, q0, q1, q2, q3, q4]) rfl ⟨u, rfl, unhide HB, ?_, ?_⟩
  · exact SpAt.put5 hup q0 q1 q2 q3 q4 _ _ _ _ _
  · exact set5 (bthen (bl1 _ _) hb1) (Nat.le_refl _) _ _ _ _ _
end Go.Proofs.Ytibbhnmbmgllcaa
