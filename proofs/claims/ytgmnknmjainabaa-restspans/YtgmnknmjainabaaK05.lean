/-
  What span.Of answers of whatever ratio, and that it leaves old memory alone.
  What span.fit, wide.Add, span.made and span.Add answer, and that they leave old memory alone.
  Plain arithmetic: how many bits a number has hangs on the number alone; what Check says of a right span; roots.
  What span.made answers, for each way that is handed to it, and what span.Add and its like answer of whatever spans; they leave old memory alone.
  What wide.Opposite and wide.Sub answer of right spans, and that they leave old memory alone.
  What tailsureref.Of, Plus, Less, SameSpan, Done, wide.Sub and tailsurelaw.spanIs answer, and that they leave old memory alone.
  What wide.ceilDown, wide.corners of num.Mul, wide.Mul and tailsureref.Times answer of right spans, and that they leave old memory alone.
  What the way that span.Hull hands to span.made answers, and that it leaves old memory alone.
-/
import Derived.Test.YtgmnknmjainabaaK04
namespace Go.Proofs.Ytgmnknmjainabaa
set_option linter.unusedVariables false
set_option linter.unusedSimpArgs false
set_option linter.unnecessarySimpa false
open Go.RowKit
attribute [local go_sem ↓] Go.wp_at_zero Go.wp_at_succ

/-- A span and an errno. -/
def PairAns (w : World) (b : Int) (k : Nat) (lo hi er : Int) (r : Ending) (w' : World) : Prop :=
  ∃ s : Sp, r = .returned (.tuple #[.agg #[.bool s.ln, .slice s.la s.lN s.lc, .bool s.hn, .slice s.ha s.hN s.hc, .int .i64 s.bits], .int .i64 er]) ∧ s.bits = b ∧ SpAt w' s k lo hi ∧ Below w.heap.size w w'

theorem zeroInt (w : World) (k : Nat) : IntAt w false none 0 0 k 0 :=
  ⟨fun _ => 0, ⟨fun h => by omega, fun _ => ⟨by simp, by simp⟩, Nat.le_refl _, by omega⟩, Or.inl rfl, fun _ => rfl, by omega, by simp [sgn, V]⟩
theorem zeroSp (w : World) (k : Nat) : SpAt w ⟨false, none, 0, 0, false, none, 0, 0, 0⟩ k 0 0 := ⟨zeroInt w k, zeroInt w k⟩

theorem rats1 (w : World) (p q : Int) (T : TypeId) : Rats (w.alloc (.cells #[.int .i64 p, .int .i64 q] T)) w.heap.size 1 (fun _ => p) (fun _ => q) := by
  refine ⟨by simp, ?_, ?_⟩
  all_goals
    intro j hj
    match j, hj with
    | 0, _ => simp

theorem ratioFault1 (bt : Int) (w : World) (B : Nat) (hB : w.heap.size = B) (p q : Int) (T : TypeId) (cap : Nat) :
    Calls Try.prog 70 #[.int .i64 bt, .slice (some ⟨B, 0, none⟩) 1 cap] (w.alloc (.cells #[.int .i64 p, .int .i64 q] T)) fun r w' =>
      r = .returned (.int .i64 (ratE p q bt)) ∧ Below w.heap.size w w' := by
  subst hB
  exact (ratioFault_any bt w.heap.size 1 cap (fun _ => p) (fun _ => q) _ (rats1 w p q T) (by omega)).mono fun r w' ⟨z, h1, h2, h3⟩ => by
    refine ⟨?_, (bl1 _ _).trans (h3.mono (by simp))⟩
    rw [h1]; unfold ratE
    rcases h2 with ⟨rfl, h4, h5⟩ | ⟨rfl, h4⟩
    · rw [if_pos ⟨h5 0 (by omega), h4⟩]
    · rw [if_neg (fun ⟨h5, h6⟩ => h4 ⟨h6, fun _ _ => h5⟩)]

set_option maxRecDepth 100000 in
set_option maxHeartbeats 2000000 in
theorem spanOf_ok (p q : Int) (b : Nat) (w : World) (h1 : -1048576 ≤ p) (h2 : p ≤ 1048576) (h3 : 1 ≤ q) (h4 : q ≤ 1024) (h5 : 8 ≤ b) (h6 : b ≤ 120) :
    Calls Try.prog 15 #[.agg #[.int .i64 p, .int .i64 q], .int .i64 b] w (PairAns w b 100 (p * Q b / q) (-(-(p * Q b) / q)) 0) := by
  have d1 : ratE p q b = 0 := by unfold ratE; rw [if_pos]; exact ⟨⟨h1, h2, h3, h4⟩, by omega, by omega⟩
  go_enter Try.func15, Try.ntmps15
  go_wp2_with (go_at_call 70; refine (ratioFault1 _ _ _ (by simp) _ _ _ _).mono ?_; rintro r w1 ⟨rfl, hb1⟩; rw [d1]; obtain ⟨hsz1, hcell1, hfz1⟩ := near (w.heap.size + 1 + 1) (by simp) hb1)
  have k0 : w1.cell? ⟨w.heap.size, 0, none⟩ = some (.int .i64 p) := by simp [hcell1, go_sem]
  have k1 : w1.cell? ⟨w.heap.size, 1, none⟩ = some (.int .i64 q) := by simp [hcell1, go_sem]
  have r0 : w1.cell? ⟨w.heap.size + 1, 0, none⟩ = some (.bool false) := by simp [hcell1, go_sem]
  have r1 : w1.cell? ⟨w.heap.size + 1, 1, none⟩ = some (.slice none 0 0) := by simp [hcell1, go_sem]
  have r2 : w1.cell? ⟨w.heap.size + 1, 2, none⟩ = some (.bool false) := by simp [hcell1, go_sem]
  have r3 : w1.cell? ⟨w.heap.size + 1, 3, none⟩ = some (.slice none 0 0) := by simp [hcell1, go_sem]
  have r4 : w1.cell? ⟨w.heap.size + 1, 4, none⟩ = some (.int .i64 0) := by simp [hcell1, go_sem]
  have r5 : ∀ o, w1.frozen? ⟨w.heap.size + 1, o, none⟩ = false := by intro o; simp [hfz1, go_sem]
  have hBw : Below w.heap.size w w1 := bthen (bl2 _ _ _) hb1
  have hl0 : w.heap.size < w1.heap.size := by omega
  have hl1 : w.heap.size + 1 < w1.heap.size := by omega
  have HK := hide (show ∀ w', Below w1.heap.size w1 w' → (w'.cell? ⟨w.heap.size, 0, none⟩ = some (.int .i64 p) ∧ w'.cell? ⟨w.heap.size, 1, none⟩ = some (.int .i64 q)) from fun w' hB => ⟨(hB.cell (p := ⟨w.heap.size, 0, none⟩) hl0).trans k0, (hB.cell (p := ⟨w.heap.size, 1, none⟩) hl0).trans k1⟩)
  have HR := hide (show ∀ w', Below w1.heap.size w1 w' → (w'.cell? ⟨w.heap.size + 1, 0, none⟩ = some (.bool false) ∧ w'.cell? ⟨w.heap.size + 1, 1, none⟩ = some (.slice none 0 0) ∧ w'.cell? ⟨w.heap.size + 1, 2, none⟩ = some (.bool false) ∧ w'.cell? ⟨w.heap.size + 1, 3, none⟩ = some (.slice none 0 0) ∧ w'.cell? ⟨w.heap.size + 1, 4, none⟩ = some (.int .i64 0) ∧ ∀ o, w'.frozen? ⟨w.heap.size + 1, o, none⟩ = false) from fun w' hB =>
    ⟨(hB.cell (p := ⟨w.heap.size + 1, 0, none⟩) hl1).trans r0, (hB.cell (p := ⟨w.heap.size + 1, 1, none⟩) hl1).trans r1, (hB.cell (p := ⟨w.heap.size + 1, 2, none⟩) hl1).trans r2, (hB.cell (p := ⟨w.heap.size + 1, 3, none⟩) hl1).trans r3, (hB.cell (p := ⟨w.heap.size + 1, 4, none⟩) hl1).trans r4, fun o => (hB.frozen (p := ⟨w.heap.size + 1, o, none⟩) hl1).trans (r5 o)⟩)
  clear r0 r1 r2 r3 r4 r5 hcell1 hfz1 hb1
  go_region_held3 (fun w' => w'.cell? ⟨w.heap.size, 0, none⟩ = some (.int .i64 p) ∧ w'.cell? ⟨w.heap.size, 1, none⟩ = some (.int .i64 q)) (first | exact unhide HK _ (by first | exact (Below.refl _ _).drew | exact hB2 | exact hB3 | exact hB4) | go_keep)
    (first
      | (go_at_call 62; have hq := hb2; refine (numOf_int q _ (by omega) (by omega)).mono ?_; rintro r w3 ⟨neg3, a3, n3, c3, rfl, hint3, hb3⟩; have hB3 := bthen hB2 hb3)
      | (go_at_call 62; refine (numOf_int p _ (by omega) (by omega)).mono ?_; rintro r w2 ⟨neg2, a2, n2, c2, rfl, hint2, hb2⟩; have hB2 : Below w1.heap.size w1 w2 := bthen (Below.refl _ _).drew hb2)
      | (go_at_call 71; refine (wideOf_small _ _ _ _ _ _ _ _ 4 4 b p q _ (hint2.below hb3) hint3 (by omega) (by omega) (by omega) (by omega)).mono ?_; rintro r w4 ⟨s, rfl, hsb, hsp, hb4⟩; have HSB := hide hsb; clear hsb; have hB4 := bthen hB3 hb4; obtain ⟨q0, q1, q2, q3, q4, q5⟩ := unhide HR w4 hB4; obtain ⟨q6, q7⟩ := unhide HK w4 hB4))
  go_wp2
  refine bodyPost_ret (v := .tuple #[.agg #[.bool s.ln, .slice s.la s.lN s.lc, .bool s.hn, .slice s.ha s.hN s.hc, .int .i64 s.bits], .int .i64 0]) (by simp [results, Try.results15, go_sem, q0, q1, q2, q3, q4]) rfl ⟨s, rfl, unhide HSB, ?_, ?_⟩
  · exact SpAt.put5 ⟨hsp.lo.mono (by omega), hsp.hi.mono (by omega)⟩ q0 q1 q2 q3 q4 _ _ _ _ _
  · exact set5 (hBw.trans (hB4.mono hBw.size)) (Nat.le_succ _) _ _ _ _ _

end Go.Proofs.Ytgmnknmjainabaa

namespace Go.Proofs.Ytgmnknmjainabaa
set_option linter.unusedVariables false
set_option linter.unusedSimpArgs false
set_option linter.unnecessarySimpa false
open Go.RowKit
attribute [local go_sem ↓] Go.wp_at_zero Go.wp_at_succ

/-- A span, or none, and an errno. -/
def FitAns (w : World) (s : Sp) (d e : Nat → Int) (r : Ending) (w' : World) : Prop :=
  ((chkE s d e = 0 ∧ r = .returned (.tuple #[.agg #[.bool s.ln, .slice s.la s.lN s.lc, .bool s.hn, .slice s.ha s.hN s.hc, .int .i64 s.bits], .int .i64 0])) ∨
   (chkE s d e ≠ 0 ∧ r = .returned (.tuple #[.agg #[.bool false, .slice none 0 0, .bool false, .slice none 0 0, .int .i64 0], .int .i64 (chkE s d e)]))) ∧ Below w.heap.size w w'

set_option maxRecDepth 100000 in
set_option maxHeartbeats 2000000 in
theorem fit_any (w : World) (s : Sp) (d e : Nat → Int) (h : SpDig w s d e) :
    Calls Try.prog 124 #[.agg #[.bool s.ln, .slice s.la s.lN s.lc, .bool s.hn, .slice s.ha s.hN s.hc, .int .i64 s.bits]] w (FitAns w s d e) := by
  by_cases h1 : chkE s d e = 0
  · have h1' : (chkE s d e != 0) = false := by simp [h1]
    have HE := hide h1
    clear h1
    go_enter Try.func124, Try.ntmps124
    go_wp2_with (go_at_call 25; refine (check_any s d e _ (h.below (bl2 _ _ _))).mono ?_; rintro r w1 ⟨rfl, hb1⟩; obtain ⟨hsz1, hcell1, hfz1⟩ := near (w.heap.size + 1 + 1) (by simp) hb1)
    refine bodyPost_ret (v := .tuple #[.agg #[.bool s.ln, .slice s.la s.lN s.lc, .bool s.hn, .slice s.ha s.hN s.hc, .int .i64 s.bits], .int .i64 0]) (by simp [results, Try.results124, go_sem, hcell1]) rfl ⟨Or.inl ⟨unhide HE, rfl⟩, ?_⟩
    exact set5 (bthen (bl2 _ _ _) hb1) (Nat.le_succ _) _ _ _ _ _
  · have h1' : (chkE s d e != 0) = true := by simp [h1]
    have HE := hide h1
    clear h1
    go_enter Try.func124, Try.ntmps124
    go_wp2_with (go_at_call 25; refine (check_any s d e _ (h.below (bl2 _ _ _))).mono ?_; rintro r w1 ⟨rfl, hb1⟩; obtain ⟨hsz1, hcell1, hfz1⟩ := near (w.heap.size + 1 + 1) (by simp) hb1)
    refine bodyPost_ret (v := .tuple #[.agg #[.bool false, .slice none 0 0, .bool false, .slice none 0 0, .int .i64 0], .int .i64 (chkE s d e)]) (by simp [results, Try.results124, go_sem, hcell1]) rfl ⟨Or.inr ⟨unhide HE, rfl⟩, ?_⟩
    exact set5 (bthen (bl2 _ _ _) hb1) (Nat.le_succ _) _ _ _ _ _

set_option maxRecDepth 100000 in
set_option maxHeartbeats 2000000 in
theorem wideAdd_int (w : World) (s t : Sp) (k : Nat) (lo hi lo' hi' : Int) (hs : SpAt w s k lo hi) (ht : SpAt w t k lo' hi') (hk : k ≤ 700000000) :
    Calls Try.prog 82 #[.agg #[.bool s.ln, .slice s.la s.lN s.lc, .bool s.hn, .slice s.ha s.hN s.hc, .int .i64 s.bits], .agg #[.bool t.ln, .slice t.la t.lN t.lc, .bool t.hn, .slice t.ha t.hN t.hc, .int .i64 t.bits]] w (SpanAns w s.bits (k + 1) (lo + lo') (hi + hi')) := by
  have ne1 : w.heap.size ≠ w.heap.size + 1 + 1 := by omega
  have ne2 : w.heap.size + 1 + 1 ≠ w.heap.size := by omega
  have le2 : w.heap.size ≤ w.heap.size + 1 + 1 := by omega
  go_enter Try.func82, Try.ntmps82
  go_wp2
  go_region_held3 (fun w' => w'.cell? ⟨w.heap.size, 0, none⟩ = some (.bool s.ln) ∧ w'.cell? ⟨w.heap.size, 1, none⟩ = some (.slice s.la s.lN s.lc) ∧ w'.cell? ⟨w.heap.size, 2, none⟩ = some (.bool s.hn) ∧ w'.cell? ⟨w.heap.size, 3, none⟩ = some (.slice s.ha s.hN s.hc) ∧ w'.cell? ⟨w.heap.size, 4, none⟩ = some (.int .i64 s.bits) ∧ w'.cell? ⟨w.heap.size + 1, 0, none⟩ = some (.bool t.ln) ∧ w'.cell? ⟨w.heap.size + 1, 1, none⟩ = some (.slice t.la t.lN t.lc) ∧ w'.cell? ⟨w.heap.size + 1, 2, none⟩ = some (.bool t.hn) ∧ w'.cell? ⟨w.heap.size + 1, 3, none⟩ = some (.slice t.ha t.hN t.hc)) (go_keep)
    (first
      | (go_at_call 49; have hq := hb1; refine (add_int _ _ _ _ _ _ _ _ k k hi hi' _ (hs.hi.below (bthen (bl3 _ _ _ _).drew hb1)) (ht.hi.below (bthen (bl3 _ _ _ _).drew hb1)) (by omega) (by omega)).mono ?_; rintro r w2 ⟨neg2, a2, n2, c2, rfl, hint2, hb2⟩; obtain ⟨hsz2, hcell2, hfz2⟩ := near (w.heap.size + 1 + 1 + 1) hsz1 hb2)
      | (go_at_call 49; refine (add_int _ _ _ _ _ _ _ _ k k lo lo' _ (hs.lo.below (bl3 _ _ _ _).drew) (ht.lo.below (bl3 _ _ _ _).drew) (by omega) (by omega)).mono ?_; rintro r w1 ⟨neg1, a1, n1, c1, rfl, hint1, hb1⟩; obtain ⟨hsz1, hcell1, hfz1⟩ := near (w.heap.size + 1 + 1 + 1) (by simp) hb1))
  go_wp2
  have q0 : w2.cell? ⟨w.heap.size + 1 + 1, 0, none⟩ = some (.bool false) := by simp [hcell2, hcell1, go_sem]
  have q1 : w2.cell? ⟨w.heap.size + 1 + 1, 1, none⟩ = some (.slice none 0 0) := by simp [hcell2, hcell1, go_sem]
  have q2 : w2.cell? ⟨w.heap.size + 1 + 1, 2, none⟩ = some (.bool false) := by simp [hcell2, hcell1, go_sem]
  have q3 : w2.cell? ⟨w.heap.size + 1 + 1, 3, none⟩ = some (.slice none 0 0) := by simp [hcell2, hcell1, go_sem]
  have q4 : w2.cell? ⟨w.heap.size + 1 + 1, 4, none⟩ = some (.int .i64 0) := by simp [hcell2, hcell1, go_sem]
  refine bodyPost_ret (v := .agg #[.bool neg1, .slice a1 n1 c1, .bool neg2, .slice a2 n2 c2, .int .i64 s.bits]) (by simp [results, Try.results82, go_sem, q0, q1, q2, q3, q4]) rfl ⟨⟨neg1, a1, n1, c1, neg2, a2, n2, c2, s.bits⟩, rfl, rfl, ?_, ?_⟩
  · exact SpAt.put5 ⟨(hint1.below hb2).mono (by omega), hint2.mono (by omega)⟩ q0 q1 q2 q3 q4 _ _ _ _ _
  · exact set5 (bthen (bthen (bl3 _ _ _ _).drew hb1) hb2) le2 _ _ _ _ _

theorem lenZ_le (n : Nat) (d : Nat → Int) : lenZ n d ≤ 16 * n := by
  unfold lenZ
  have := blenF_bd 16 (d (n - 1))
  split <;> omega

/-- A small right span is one that Check has nothing against. -/
theorem chk_small {w : World} {s : Sp} {k : Nat} {lo hi : Int} (h : SpAt w s k lo hi) (hk : k ≤ 250) (hle : lo ≤ hi) (h1 : 1 ≤ s.bits) (h2 : s.bits ≤ 120) : ∃ d e, SpDig w s d e ∧ chkE s d e = 0 := by
  obtain ⟨⟨d, p1, p2, p3, p4, p5⟩, ⟨e, r1, r2, r3, r4, r5⟩⟩ := h
  refine ⟨d, e, ⟨p1, r1⟩, ?_⟩
  have l1 := lenZ_le s.lN d
  have l2 := lenZ_le s.hN e
  have g1 : rightB s.ln s.lN d ≠ false := by
    unfold rightB
    by_cases h0 : s.lN = 0
    · simp [h0, p3 h0]
    · rw [if_neg h0]; simpa using (show d (s.lN - 1) ≠ 0 by omega)
  have g2 : rightB s.hn s.hN e ≠ false := by
    unfold rightB
    by_cases h0 : s.hN = 0
    · simp [h0, r3 h0]
    · rw [if_neg h0]; simpa using (show e (s.hN - 1) ≠ 0 by omega)
  have g3 : ¬ 0 < cmpI s.ln s.hn d e s.lN s.hN := by
    rw [sgn_nonneg_lt p1.dgs r1.dgs s.ln s.hn s.lN s.hN p2 r2 p3 r3, ← p5, ← r5]
    exact cmpInt_le0 (by omega)
  unfold chkE
  rw [if_neg (by omega), if_neg (fun q => q.elim g1 g2), if_neg (by omega), if_neg g3]

set_option maxRecDepth 100000 in
set_option maxHeartbeats 2000000 in
theorem made_ok_Add (p1 p2 : Value) (B : Nat) (W : World) (f : Nat → Sp) (d e : Nat → Nat → Int) (n cap : Nat) (hn : n ≤ 1000) (hS : Spans W B n f d e) (h0 : ∀ z, Flt (fun j => chkE (f j) (d j) (e j)) (fun j => (f j).bits) n z → z = 0)
    (b : Int) (k : Nat) (lo hi : Int) (hF : ∀ w', Below W.heap.size W w' → Calls Try.prog 81 #[p1, p2] w' (PairAns w' b k lo hi 0)) (hk : k ≤ 250) (hle : lo ≤ hi) (hb1 : 1 ≤ b) (hb2 : b ≤ 120) :
    Calls Try.prog 72 #[.func (.func 81) #[] #[p1, p2], .slice (some ⟨B, 0, none⟩) n cap] W (PairAns W b k lo hi 0) := by
  have HF := hide hF
  have HZ := hide h0
  have HS := hide hS
  clear hF h0 hS
  go_enter Try.func72, Try.ntmps72
  go_wp2_with fail
  refine (fault_any _ _ _ f d e _ ((unhide HS).below (bl1 _ _)) hn).mono ?_
  rintro r w1 ⟨z, rfl, hz, hb1'⟩
  have hz0 := unhide HZ z hz
  subst hz0
  obtain ⟨hsz1, hcell1, hfz1⟩ := near (W.heap.size + 1) (by simp) hb1'
  have hB1 : Below W.heap.size W w1 := bthen (bl1 _ _) hb1'
  clear hz
  go_wp2_with fail
  refine (unhide HF _ hB1).mono ?_
  rintro r w2 ⟨s, rfl, hsb, hsp, hb3⟩
  have hB2 := bthen hB1 hb3
  obtain ⟨hsz2, hcell2, hfz2⟩ := near (W.heap.size + 1) hsz1 hb3
  have hz0 := Nat.lt_of_lt_of_le (Nat.lt_succ_self W.heap.size) hsz2
  obtain ⟨dd, ee, hdig, hchk⟩ := chk_small hsp hk hle (by omega) (by omega)
  have q0 : w2.cell? ⟨W.heap.size, 0, none⟩ = some (.bool false) := by simp [hcell2, hcell1]
  have q1 : w2.cell? ⟨W.heap.size, 1, none⟩ = some (.slice none 0 0) := by simp [hcell2, hcell1]
  have q2 : w2.cell? ⟨W.heap.size, 2, none⟩ = some (.bool false) := by simp [hcell2, hcell1]
  have q3 : w2.cell? ⟨W.heap.size, 3, none⟩ = some (.slice none 0 0) := by simp [hcell2, hcell1]
  have q4 : w2.cell? ⟨W.heap.size, 4, none⟩ = some (.int .i64 0) := by simp [hcell2, hcell1]
  have q5 : ∀ o, w2.frozen? ⟨W.heap.size, o, none⟩ = false := by intro o; simp [hfz2, hfz1, go_sem]
  have HB := hide hsb
  have HC := hide hchk
  clear hsb hcell2 hcell1 hfz2 hfz1 hb1' hchk
  go_wp2_with fail
  refine (fit_any _ s dd ee (hdig.below (bl1 _ _))).mono ?_
  rintro r w3 ⟨hr, hb4⟩
  have hr' : r = .returned (.tuple #[.agg #[.bool s.ln, .slice s.la s.lN s.lc, .bool s.hn, .slice s.ha s.hN s.hc, .int .i64 s.bits], .int .i64 0]) := by
    rcases hr with ⟨_, h⟩ | ⟨h, _⟩
    · exact h
    · exact absurd (unhide HC) h
  subst hr'
  clear hr
  have hB3 : Below w2.heap.size w2 w3 := bthen (bl1 _ _) hb4
  have t0 := (hB3.cell (p := ⟨W.heap.size, 0, none⟩) hz0).trans q0
  have t1 := (hB3.cell (p := ⟨W.heap.size, 1, none⟩) hz0).trans q1
  have t2 := (hB3.cell (p := ⟨W.heap.size, 2, none⟩) hz0).trans q2
  have t3 := (hB3.cell (p := ⟨W.heap.size, 3, none⟩) hz0).trans q3
  have t4 := (hB3.cell (p := ⟨W.heap.size, 4, none⟩) hz0).trans q4
  have t5 : ∀ o, w3.frozen? ⟨W.heap.size, o, none⟩ = false := fun o => (hB3.frozen (p := ⟨W.heap.size, o, none⟩) hz0).trans (q5 o)
  go_wp2_with fail
  refine bodyPost_ret (v := .tuple #[.agg #[.bool s.ln, .slice s.la s.lN s.lc, .bool s.hn, .slice s.ha s.hN s.hc, .int .i64 s.bits], .int .i64 0]) (by simp [results, Try.results72, go_sem, t0, t1, t2, t3, t4]) rfl ⟨s, rfl, unhide HB, ?_, ?_⟩
  · exact SpAt.put5 (hsp.below hB3) t0 t1 t2 t3 t4 _ _ _ _ _
  · exact set5 (bthen hB2 hB3) (Nat.le_refl _) _ _ _ _ _

set_option maxRecDepth 100000 in
set_option maxHeartbeats 2000000 in
theorem add1_int (w : World) (B0 B1 : Nat) (s t : Sp) (k : Nat) (lo hi lo' hi' : Int) (hs : SpAt w s k lo hi) (ht : SpAt w t k lo' hi') (hk : k ≤ 700000000)
    (a0 : w.cell? ⟨B0, 0, none⟩ = some (.bool s.ln)) (a1 : w.cell? ⟨B0, 1, none⟩ = some (.slice s.la s.lN s.lc)) (a2 : w.cell? ⟨B0, 2, none⟩ = some (.bool s.hn)) (a3 : w.cell? ⟨B0, 3, none⟩ = some (.slice s.ha s.hN s.hc)) (a4 : w.cell? ⟨B0, 4, none⟩ = some (.int .i64 s.bits))
    (b0 : w.cell? ⟨B1, 0, none⟩ = some (.bool t.ln)) (b1 : w.cell? ⟨B1, 1, none⟩ = some (.slice t.la t.lN t.lc)) (b2 : w.cell? ⟨B1, 2, none⟩ = some (.bool t.hn)) (b3 : w.cell? ⟨B1, 3, none⟩ = some (.slice t.ha t.hN t.hc)) (b4 : w.cell? ⟨B1, 4, none⟩ = some (.int .i64 t.bits)) :
    Calls Try.prog 81 #[.pointer (some ⟨B0, 0, none⟩), .pointer (some ⟨B1, 0, none⟩)] w (PairAns w s.bits (k + 1) (lo + lo') (hi + hi') 0) := by
  have l0 : B0 < w.heap.size := World.block_lt_of_cell? w ⟨B0, 0, none⟩ a0
  have l1 : B1 < w.heap.size := World.block_lt_of_cell? w ⟨B1, 0, none⟩ b0
  go_enter Try.func81, Try.ntmps81
  go_wp2_with fail
  refine (wideAdd_int _ s t k lo hi lo' hi' (hs.below (bl1 _ _)) (ht.below (bl1 _ _)) hk).mono ?_
  rintro r w1 ⟨u, rfl, hub, hup, hb1⟩
  obtain ⟨hsz1, hcell1, hfz1⟩ := near (w.heap.size + 1) (by simp) hb1
  have q0 : w1.cell? ⟨w.heap.size, 0, none⟩ = some (.bool false) := by simp [hcell1]
  have q1 : w1.cell? ⟨w.heap.size, 1, none⟩ = some (.slice none 0 0) := by simp [hcell1]
  have q2 : w1.cell? ⟨w.heap.size, 2, none⟩ = some (.bool false) := by simp [hcell1]
  have q3 : w1.cell? ⟨w.heap.size, 3, none⟩ = some (.slice none 0 0) := by simp [hcell1]
  have q4 : w1.cell? ⟨w.heap.size, 4, none⟩ = some (.int .i64 0) := by simp [hcell1]
  have q5 : ∀ o, w1.frozen? ⟨w.heap.size, o, none⟩ = false := by intro o; simp [hfz1, go_sem]
  have HB := hide hub
  clear hub
  go_wp2_with fail
  refine bodyPost_ret (v := .tuple #[.agg #[.bool u.ln, .slice u.la u.lN u.lc, .bool u.hn, .slice u.ha u.hN u.hc, .int .i64 u.bits], .int .i64 0]) (by simp [results, Try.results81, go_sem, q0, q1, q2, q3, q4]) rfl ⟨u, rfl, unhide HB, ?_, ?_⟩
  · exact SpAt.put5 hup q0 q1 q2 q3 q4 _ _ _ _ _
  · exact set5 (bthen (bl1 _ _) hb1) (Nat.le_refl _) _ _ _ _ _
end Go.Proofs.Ytgmnknmjainabaa

namespace Go.Proofs.Ytgmnknmjainabaa
set_option linter.unusedVariables false
set_option linter.unusedSimpArgs false
set_option linter.unnecessarySimpa false
open Go.RowKit

theorem blenF_Q (f : Nat) : ∀ x : Int, 0 < x → x < Q f → ∃ b : Nat, blenF f x = (b : Int) + 1 ∧ Q b ≤ x ∧ x < Q (b + 1) := by
  induction f with
  | zero => intro x h0 h1; simp [Q] at h1; omega
  | succ f ih =>
    intro x h0 h1
    have hx : ¬ x ≤ 0 := by omega
    simp only [blenF, hx, if_false]
    simp only [Q] at h1
    by_cases h2 : x / 2 = 0
    · refine ⟨0, ?_, by simp [Q]; omega, by simp [Q]; omega⟩
      rw [h2]; cases f <;> simp [blenF]
    · obtain ⟨b, e1, e2, e3⟩ := ih (x / 2) (by omega) (by omega)
      refine ⟨b + 1, by rw [e1]; omega, ?_, ?_⟩
      · simp only [Q]; omega
      · simp only [Q] at *; omega

theorem lenZ_Q {d : Nat → Int} (hd : Dgs d) {n : Nat} (hn : 0 < n) (ht : d (n - 1) ≠ 0) : ∃ L : Nat, lenZ n d = (L : Int) + 1 ∧ Q L ≤ V d n ∧ V d n < Q (L + 1) := by
  obtain ⟨m, rfl⟩ : ∃ m, n = m + 1 := ⟨n - 1, by omega⟩
  simp only [Nat.add_sub_cancel] at ht
  have hx := hd m
  obtain ⟨b, e1, e2, e3⟩ := blenF_Q 16 (d m) (by omega) (by rw [Q16]; omega)
  refine ⟨16 * m + b, ?_, ?_, ?_⟩
  · unfold lenZ; rw [if_neg (by omega)]; simp only [Nat.add_sub_cancel]; rw [e1]; omega
  · rw [Q_add, Q_P]; simp only [V]
    have h1 := V_nonneg hd m
    have h2 : P m * Q b ≤ P m * d m := Int.mul_le_mul_of_nonneg_left e2 (by have := P_pos m; omega)
    rw [Int.mul_comm (d m)]; omega
  · rw [show 16 * m + b + 1 = 16 * m + (b + 1) by omega, Q_add, Q_P]; simp only [V]
    have h1 := V_lt hd m
    have h2 : P m * (d m + 1) ≤ P m * Q (b + 1) := Int.mul_le_mul_of_nonneg_left (by omega) (by have := P_pos m; omega)
    rw [Int.mul_add, Int.mul_one] at h2
    rw [Int.mul_comm (d m)]; omega

/-- Too many bits. -/
def big (z : Int) : Prop := Q 4000 ≤ z ∨ z ≤ - Q 4000
instance (z : Int) : Decidable (big z) := by unfold big; infer_instance

theorem lenZ_big {d : Nat → Int} (hd : Dgs d) {n : Nat} (ht : n = 0 ∨ d (n - 1) ≠ 0) (neg : Bool) : 4000 < lenZ n d ↔ big (sgn neg (V d n)) := by
  have hq := Q_pos 4000
  by_cases hn : n = 0
  · subst hn
    have h1 : lenZ 0 d = 0 := by simp [lenZ]
    have h2 : sgn neg (V d 0) = 0 := by cases neg <;> simp [sgn, V]
    rw [h1, h2]; unfold big; constructor <;> intro h <;> omega
  · obtain ⟨L, e1, e2, e3⟩ := lenZ_Q hd (show 0 < n by omega) (by omega)
    rw [e1]
    have key : (4000 : Int) < (L : Int) + 1 ↔ Q 4000 ≤ V d n := by
      constructor
      · intro h
        have := Q_mono (show 4000 ≤ L by omega)
        omega
      · intro h
        rcases Nat.lt_or_ge 4000 (L + 1) with h2 | h2
        · omega
        · have := Q_mono h2; omega
    have hv := V_nonneg hd n
    rw [key]; unfold big
    cases neg <;> simp only [sgn] <;> constructor <;> intro h <;> simp at * <;> omega

theorem newton_up {a x : Int} (hx : 0 < x) : a < ((x + a / x) / 2 + 1) * ((x + a / x) / 2 + 1) := by
  obtain ⟨t, ht⟩ : ∃ t, t = a / x := ⟨_, rfl⟩
  obtain ⟨y, hy⟩ : ∃ y, y = (x + t) / 2 := ⟨_, rfl⟩
  rw [← ht, ← hy]
  have h1 : a < (t + 1) * x := by
    have h2 := Int.mul_ediv_add_emod a x
    have h3 := Int.emod_lt_of_pos a hx
    rw [← ht] at h2
    rw [Int.add_mul, Int.one_mul, Int.mul_comm t x]; omega
  have h4 : (x + t + 1) * x ≤ (2 * y + 2) * x := Int.mul_le_mul_of_nonneg_right (by omega) (by omega)
  have h5 : 0 ≤ (y + 1 - x) * (y + 1 - x) := by
    rcases Int.le_total 0 (y + 1 - x) with h | h
    · exact Int.mul_nonneg h h
    · exact Int.mul_nonneg_of_nonpos_of_nonpos h h
  have h6 : (y + 1 - x) * (y + 1 - x) = (y + 1) * (y + 1) - 2 * ((y + 1) * x) + x * x := by
    rw [Int.sub_mul, Int.mul_sub, Int.mul_sub, Int.mul_comm x (y + 1)]; omega
  have h7 : (2 * y + 2) * x = 2 * ((y + 1) * x) := by rw [← Int.mul_assoc]; congr 1; omega
  have h8 : (x + t + 1) * x = x * x + (t + 1) * x := by rw [← Int.add_mul]; congr 1; omega
  omega

theorem newton_end {a x : Int} (hx : 0 < x) (ha : 0 ≤ a) (h : x ≤ (x + a / x) / 2) : x * x ≤ a := by
  have h1 : x ≤ a / x := by omega
  have h2 := Int.mul_ediv_add_emod a x
  have h3 := Int.emod_nonneg a (show x ≠ 0 by omega)
  have h4 := Int.mul_le_mul_of_nonneg_left h1 (show 0 ≤ x by omega)
  omega
theorem sq_lt {x y : Int} (hx : 0 ≤ x) (hy : 0 ≤ y) (h : x * x < y * y) : x < y := by
  rcases Int.lt_or_le x y with h1 | h1
  · exact h1
  · have := Int.mul_le_mul h1 h1 hy hx; omega
/-- A root is one number. -/
theorem root_uniq {a x y : Int} (hx : 0 ≤ x) (hy : 0 ≤ y) (h1 : x * x ≤ a) (h2 : a < (x + 1) * (x + 1)) (h3 : y * y ≤ a) (h4 : a < (y + 1) * (y + 1)) : x = y := by
  have := sq_lt hx (show 0 ≤ y + 1 by omega) (by omega)
  have := sq_lt hy (show 0 ≤ x + 1 by omega) (by omega)
  omega

/-- Whether a span is too wide. -/
def bigs (lo hi : Int) : Prop := big lo ∨ big hi
instance (lo hi : Int) : Decidable (bigs lo hi) := by unfold bigs; infer_instance
/-- What comes of a span of right bits: an errno, and numbers. -/
def fitE (lo hi : Int) : Int := if bigs lo hi then 2 else 0
def fitZ (lo hi z : Int) : Int := if bigs lo hi then 0 else z

theorem rightB_of {neg : Bool} {n : Nat} {d : Nat → Int} (h1 : n = 0 ∨ d (n - 1) ≠ 0) (h2 : n = 0 → neg = false) : rightB neg n d ≠ false := by
  unfold rightB
  by_cases h0 : n = 0
  · simp [h0, h2 h0]
  · rw [if_neg h0]; simpa using (show d (n - 1) ≠ 0 by omega)

/-- What Check says of a right span of right bits. -/
theorem chk_fit {w : World} {s : Sp} {k : Nat} {lo hi : Int} (h : SpAt w s k lo hi) (hle : lo ≤ hi) (h1 : 1 ≤ s.bits) (h2 : s.bits ≤ 120) : ∃ d e, SpDig w s d e ∧ chkE s d e = fitE lo hi := by
  obtain ⟨⟨d, p1, p2, p3, p4, p5⟩, ⟨e, r1, r2, r3, r4, r5⟩⟩ := h
  refine ⟨d, e, ⟨p1, r1⟩, ?_⟩
  have g1 := rightB_of (neg := s.ln) p2 p3
  have g2 := rightB_of (neg := s.hn) r2 r3
  have b1 := lenZ_big p1.dgs p2 s.ln
  have b2 := lenZ_big r1.dgs r2 s.hn
  rw [← p5] at b1
  rw [← r5] at b2
  have g3 : ¬ 0 < cmpI s.ln s.hn d e s.lN s.hN := by
    rw [sgn_nonneg_lt p1.dgs r1.dgs s.ln s.hn s.lN s.hN p2 r2 p3 r3, ← p5, ← r5]
    exact cmpInt_le0 (by omega)
  by_cases hb : bigs lo hi
  · have f : fitE lo hi = 2 := if_pos hb
    rw [f]; unfold chkE
    rw [if_neg (by omega), if_neg (fun q => q.elim g1 g2), if_pos (by rw [b1, b2]; exact hb)]
  · have f : fitE lo hi = 0 := if_neg hb
    rw [f]; unfold chkE
    rw [if_neg (by omega), if_neg (fun q => q.elim g1 g2), if_neg (by rw [b1, b2]; exact hb), if_neg g3]

/-- What span.fit and tailsureref.Done answer. -/
theorem fit_cases (lo hi : Int) : (bigs lo hi ∧ fitE lo hi = 2 ∧ ∀ z, fitZ lo hi z = 0) ∨ (¬ bigs lo hi ∧ fitE lo hi = 0 ∧ ∀ z, fitZ lo hi z = z) := by
  by_cases hb : bigs lo hi
  · exact Or.inl ⟨hb, if_pos hb, fun _ => if_pos hb⟩
  · exact Or.inr ⟨hb, if_neg hb, fun _ => if_neg hb⟩
end Go.Proofs.Ytgmnknmjainabaa

namespace Go.Proofs.Ytgmnknmjainabaa
set_option linter.unusedVariables false
set_option linter.unusedSimpArgs false
set_option linter.unnecessarySimpa false
open Go.RowKit
attribute [local go_sem ↓] Go.wp_at_zero Go.wp_at_succ

/-- A span lies in a block. -/
structure SpC (w : World) (B : Nat) (s : Sp) : Prop where
  c0 : w.cell? ⟨B, 0, none⟩ = some (.bool s.ln)
  c1 : w.cell? ⟨B, 1, none⟩ = some (.slice s.la s.lN s.lc)
  c2 : w.cell? ⟨B, 2, none⟩ = some (.bool s.hn)
  c3 : w.cell? ⟨B, 3, none⟩ = some (.slice s.ha s.hN s.hc)
  c4 : w.cell? ⟨B, 4, none⟩ = some (.int .i64 s.bits)
theorem SpC.lt {w : World} {B : Nat} {s : Sp} (h : SpC w B s) : B < w.heap.size := World.block_lt_of_cell? w ⟨B, 0, none⟩ h.c0
theorem SpC.below {w w' : World} {B : Nat} {s : Sp} (h : SpC w B s) (hb : Below w.heap.size w w') : SpC w' B s :=
  ⟨(hb.cell (p := ⟨B, 0, none⟩) h.lt).trans h.c0, (hb.cell (p := ⟨B, 1, none⟩) h.lt).trans h.c1, (hb.cell (p := ⟨B, 2, none⟩) h.lt).trans h.c2, (hb.cell (p := ⟨B, 3, none⟩) h.lt).trans h.c3, (hb.cell (p := ⟨B, 4, none⟩) h.lt).trans h.c4⟩
theorem spc_new (w : World) (s : Sp) (T : TypeId) : SpC (w.alloc (.cells #[.bool s.ln, .slice s.la s.lN s.lc, .bool s.hn, .slice s.ha s.hN s.hc, .int .i64 s.bits] T)) w.heap.size s := ⟨by simp, by simp, by simp, by simp, by simp⟩
/-- An empty span in a block that may be written. -/
structure NoC (w : World) (B : Nat) : Prop where
  c0 : w.cell? ⟨B, 0, none⟩ = some (.bool false)
  c1 : w.cell? ⟨B, 1, none⟩ = some (.slice none 0 0)
  c2 : w.cell? ⟨B, 2, none⟩ = some (.bool false)
  c3 : w.cell? ⟨B, 3, none⟩ = some (.slice none 0 0)
  c4 : w.cell? ⟨B, 4, none⟩ = some (.int .i64 0)
  fz : ∀ o, w.frozen? ⟨B, o, none⟩ = false
theorem NoC.lt {w : World} {B : Nat} (h : NoC w B) : B < w.heap.size := World.block_lt_of_cell? w ⟨B, 0, none⟩ h.c0
theorem NoC.below {w w' : World} {B : Nat} (h : NoC w B) (hb : Below w.heap.size w w') : NoC w' B :=
  ⟨(hb.cell (p := ⟨B, 0, none⟩) h.lt).trans h.c0, (hb.cell (p := ⟨B, 1, none⟩) h.lt).trans h.c1, (hb.cell (p := ⟨B, 2, none⟩) h.lt).trans h.c2, (hb.cell (p := ⟨B, 3, none⟩) h.lt).trans h.c3, (hb.cell (p := ⟨B, 4, none⟩) h.lt).trans h.c4, fun o => (hb.frozen (p := ⟨B, o, none⟩) h.lt).trans (h.fz o)⟩
theorem noc_new (w : World) (T : TypeId) : NoC (w.alloc (.cells #[.bool false, .slice none 0 0, .bool false, .slice none 0 0, .int .i64 0] T)) w.heap.size := ⟨by simp, by simp, by simp, by simp, by simp, fun o => by simp [go_sem]⟩
theorem SpAt.putN {w : World} {s : Sp} {k : Nat} {lo hi : Int} (h : SpAt w s k lo hi) {B : Nat} (hB : NoC w B) (u0 u1 u2 u3 u4 : Value) :
    SpAt (((((w.setCell ⟨B, 0, none⟩ u0).setCell ⟨B, 1, none⟩ u1).setCell ⟨B, 2, none⟩ u2).setCell ⟨B, 3, none⟩ u3).setCell ⟨B, 4, none⟩ u4) s k lo hi := SpAt.put5 h hB.c0 hB.c1 hB.c2 hB.c3 hB.c4 _ _ _ _ _

theorem SpAt.mono {w : World} {s : Sp} {k k' : Nat} {lo hi : Int} (h : SpAt w s k lo hi) (hk : k ≤ k') : SpAt w s k' lo hi := ⟨h.lo.mono hk, h.hi.mono hk⟩
theorem PairAns.mono {w : World} {b : Int} {k k' : Nat} {lo hi er : Int} {r : Ending} {w' : World} (h : PairAns w b k lo hi er r w') (hk : k ≤ k') : PairAns w b k' lo hi er r w' := by
  obtain ⟨s, h1, h2, h3, h4⟩ := h
  exact ⟨s, h1, h2, h3.mono hk, h4⟩

theorem flt_pr {s t : Sp} {d e d' e' : Nat → Int} {z : Int} (hz : Flt (fun j => chkE (pr s t j) (pr d d' j) (pr e e' j)) (fun j => (pr s t j).bits) 2 z) : z = fltE2 (chkE s d e) (chkE t d' e') s.bits t.bits := by
  have e1 : (fun j => chkE (pr s t j) (pr d d' j) (pr e e' j)) = (fun j => pr (chkE s d e) (chkE t d' e') j) := by
    funext j; unfold pr; split <;> rfl
  have e2 : (fun j => (pr s t j).bits) = (fun j => pr s.bits t.bits j) := by
    funext j; unfold pr; split <;> rfl
  rw [e1, e2] at hz
  exact flt2 hz

end Go.Proofs.Ytgmnknmjainabaa

namespace Go.Proofs.Ytgmnknmjainabaa
set_option linter.unusedVariables false
set_option linter.unusedSimpArgs false
set_option linter.unnecessarySimpa false
open Go.RowKit
attribute [local go_sem ↓] Go.wp_at_zero Go.wp_at_succ

set_option maxRecDepth 100000 in
set_option maxHeartbeats 2000000 in
theorem opposite_int (w : World) (s : Sp) (k : Nat) (lo hi : Int) (hs : SpAt w s k lo hi) (hk : k ≤ 700000000) :
    Calls Try.prog 126 #[.agg #[.bool s.ln, .slice s.la s.lN s.lc, .bool s.hn, .slice s.ha s.hN s.hc, .int .i64 s.bits]] w (SpanAns w s.bits k (-hi) (-lo)) := by
  go_enter Try.func126, Try.ntmps126
  go_wp2
  go_region_held3 (fun w' => w'.cell? ⟨w.heap.size, 0, none⟩ = some (.bool s.ln) ∧ w'.cell? ⟨w.heap.size, 1, none⟩ = some (.slice s.la s.lN s.lc) ∧ w'.cell? ⟨w.heap.size, 2, none⟩ = some (.bool s.hn) ∧ w'.cell? ⟨w.heap.size, 3, none⟩ = some (.slice s.ha s.hN s.hc) ∧ w'.cell? ⟨w.heap.size, 4, none⟩ = some (.int .i64 s.bits)) (go_keep)
    (first
      | (go_at_call 80; have hq := hb1; refine (neg_int _ _ _ _ k lo _ (hs.lo.below (bthen (bl2 _ _ _).drew hb1)) (by omega)).mono ?_; rintro r w2 ⟨neg2, a2, n2, c2, rfl, hint2, hb2⟩; obtain ⟨hsz2, hcell2, hfz2⟩ := near (w.heap.size + 1 + 1) hsz1 hb2)
      | (go_at_call 80; refine (neg_int _ _ _ _ k hi _ (hs.hi.below (bl2 _ _ _).drew) (by omega)).mono ?_; rintro r w1 ⟨neg1, a1, n1, c1, rfl, hint1, hb1⟩; obtain ⟨hsz1, hcell1, hfz1⟩ := near (w.heap.size + 1 + 1) (by simp) hb1))
  go_wp2
  have q0 : w2.cell? ⟨w.heap.size + 1, 0, none⟩ = some (.bool false) := by simp [hcell2, hcell1, go_sem]
  have q1 : w2.cell? ⟨w.heap.size + 1, 1, none⟩ = some (.slice none 0 0) := by simp [hcell2, hcell1, go_sem]
  have q2 : w2.cell? ⟨w.heap.size + 1, 2, none⟩ = some (.bool false) := by simp [hcell2, hcell1, go_sem]
  have q3 : w2.cell? ⟨w.heap.size + 1, 3, none⟩ = some (.slice none 0 0) := by simp [hcell2, hcell1, go_sem]
  have q4 : w2.cell? ⟨w.heap.size + 1, 4, none⟩ = some (.int .i64 0) := by simp [hcell2, hcell1, go_sem]
  refine bodyPost_ret (v := .agg #[.bool neg1, .slice a1 n1 c1, .bool neg2, .slice a2 n2 c2, .int .i64 s.bits]) (by simp [results, Try.results126, go_sem, q0, q1, q2, q3, q4]) rfl ⟨⟨neg1, a1, n1, c1, neg2, a2, n2, c2, s.bits⟩, rfl, rfl, ?_, ?_⟩
  · exact SpAt.put5 ⟨hint1.below hb2, hint2⟩ q0 q1 q2 q3 q4 _ _ _ _ _
  · exact set5 (bthen (bthen (bl2 _ _ _).drew hb1) hb2) (Nat.le_succ _) _ _ _ _ _
end Go.Proofs.Ytgmnknmjainabaa

namespace Go.Proofs.Ytgmnknmjainabaa
set_option linter.unusedVariables false
set_option linter.unusedSimpArgs false
set_option linter.unnecessarySimpa false
open Go.RowKit
attribute [local go_sem ↓] Go.wp_at_zero Go.wp_at_succ

theorem cmpInt_self (x : Int) : cmpInt x x = 0 := by simp [cmpInt]

theorem isRight_int (neg : Bool) (a : Option Addr) (n cap k : Nat) (x : Int) (w : World) (h : IntAt w neg a n cap k x) :
    Calls Try.prog 76 #[.agg #[.bool neg, .slice a n cap]] w fun r w' => r = .returned (.bool true) ∧ Below w.heap.size w w' := by
  obtain ⟨d, h1, h2, h3, h4, h5⟩ := h
  have h6 : rightB neg n d = true := by
    have := rightB_of (neg := neg) h2 h3
    simpa using this
  exact (isRight_any neg a n cap d w h1).mono fun r w' ⟨p1, p2⟩ => ⟨by rw [p1, h6], p2⟩

set_option maxRecDepth 100000 in
set_option maxHeartbeats 2000000 in
theorem same_true (w : World) (s t : Sp) (k : Nat) (lo hi : Int) (hs : SpAt w s k lo hi) (ht : SpAt w t k lo hi) (hb : s.bits = t.bits) :
    Calls Try.prog 32 #[.agg #[.bool s.ln, .slice s.la s.lN s.lc, .bool s.hn, .slice s.ha s.hN s.hc, .int .i64 s.bits], .agg #[.bool t.ln, .slice t.la t.lN t.lc, .bool t.hn, .slice t.ha t.hN t.hc, .int .i64 t.bits]] w fun r w' => r = .returned (.bool true) ∧ Below w.heap.size w w' := by
  have hb1 : (s.bits == t.bits) = true := by simp [hb]
  clear hb
  go_enter Try.func32, Try.ntmps32
  go_wp2_with fail
  refine (cmp_int _ _ _ _ _ _ _ _ k k lo lo _ (hs.lo.below (bl2 _ _ _)) (ht.lo.below (bl2 _ _ _))).mono ?_
  rintro r w1 ⟨rfl, hb1'⟩
  obtain ⟨hsz1, hcell1, hfz1⟩ := near (w.heap.size + 1 + 1) (by simp) hb1'
  have hB1 : Below w.heap.size w w1 := bthen (bl2 _ _ _) hb1'
  rw [cmpInt_self]
  go_wp2_with fail
  refine (cmp_int _ _ _ _ _ _ _ _ k k hi hi _ (hs.hi.below hB1) (ht.hi.below hB1)).mono ?_
  rintro r w2 ⟨rfl, hb2⟩
  obtain ⟨hsz2, hcell2, hfz2⟩ := near (w.heap.size + 1 + 1) hsz1 hb2
  have hB2 : Below w.heap.size w w2 := bthen hB1 hb2
  rw [cmpInt_self]
  go_wp2_with fail
  refine (isRight_int _ _ _ _ k lo _ (hs.lo.below hB2)).mono ?_
  rintro r w3 ⟨rfl, hb3⟩
  obtain ⟨hsz3, hcell3, hfz3⟩ := near (w.heap.size + 1 + 1) hsz2 hb3
  have hB3 : Below w.heap.size w w3 := bthen hB2 hb3
  go_wp2_with fail
  refine (isRight_int _ _ _ _ k hi _ (hs.hi.below hB3)).mono ?_
  rintro r w4 ⟨rfl, hb4⟩
  go_wp2_with fail
  go_ret
  exact ⟨rfl, bthen hB3 hb4⟩

end Go.Proofs.Ytgmnknmjainabaa

namespace Go.Proofs.Ytgmnknmjainabaa
set_option linter.unusedVariables false
set_option linter.unusedSimpArgs false
set_option linter.unnecessarySimpa false
open Go.RowKit
attribute [local go_sem ↓] Go.wp_at_zero Go.wp_at_succ

set_option maxRecDepth 100000 in
set_option maxHeartbeats 2000000 in
theorem corners_mul (w : World) (s t : Sp) (k : Nat) (lo hi lo' hi' : Int) (hs : SpAt w s k lo hi) (ht : SpAt w t k lo' hi') (hk : k ≤ 300000000) :
    Calls Try.prog 127 #[.agg #[.bool s.ln, .slice s.la s.lN s.lc, .bool s.hn, .slice s.ha s.hN s.hc, .int .i64 s.bits], .agg #[.bool t.ln, .slice t.la t.lN t.lc, .bool t.hn, .slice t.ha t.hN t.hc, .int .i64 t.bits], .func (.func 52) #[] #[]] w fun r w' =>
      ∃ B f, r = .returned (.slice (some ⟨B, 0, none⟩) 4 4) ∧ Nums w' B 4 (k + k) f (pr4 (lo * lo') (lo * hi') (hi * lo') (hi * hi')) ∧ Below w.heap.size w w' := by
  obtain ⟨W, hW⟩ : ∃ W, W = (w.alloc (.cells #[.bool s.ln, .slice s.la s.lN s.lc, .bool s.hn, .slice s.ha s.hN s.hc, .int .i64 s.bits] 26)).alloc (.cells #[.bool t.ln, .slice t.la t.lN t.lc, .bool t.hn, .slice t.ha t.hN t.hc, .int .i64 t.bits] 26) := ⟨_, rfl⟩
  have hBW : Below w.heap.size w W := by rw [hW]; exact bl2 _ _ _
  have a0 : SpC W w.heap.size s := by rw [hW]; exact ⟨by simp [go_sem], by simp [go_sem], by simp [go_sem], by simp [go_sem], by simp [go_sem]⟩
  have g0 : SpC W (w.heap.size + 1) t := by rw [hW]; exact ⟨by simp [go_sem], by simp [go_sem], by simp [go_sem], by simp [go_sem], by simp [go_sem]⟩
  have HS := hide (hs.below hBW)
  have HT := hide (ht.below hBW)
  have hB0 : Below W.heap.size W W.drew := (Below.refl _ _).drew
  have HK := hide (show ∀ w', Below W.heap.size W w' → (w'.cell? ⟨w.heap.size, 0, none⟩ = some (.bool s.ln) ∧ w'.cell? ⟨w.heap.size, 1, none⟩ = some (.slice s.la s.lN s.lc) ∧ w'.cell? ⟨w.heap.size, 2, none⟩ = some (.bool s.hn) ∧ w'.cell? ⟨w.heap.size, 3, none⟩ = some (.slice s.ha s.hN s.hc) ∧ w'.cell? ⟨w.heap.size + 1, 0, none⟩ = some (.bool t.ln) ∧ w'.cell? ⟨w.heap.size + 1, 1, none⟩ = some (.slice t.la t.lN t.lc) ∧ w'.cell? ⟨w.heap.size + 1, 2, none⟩ = some (.bool t.hn) ∧ w'.cell? ⟨w.heap.size + 1, 3, none⟩ = some (.slice t.ha t.hN t.hc)) from fun w' hB => by
    obtain ⟨x0, x1, x2, x3, x4⟩ := a0.below hB
    obtain ⟨y0, y1, y2, y3, y4⟩ := g0.below hB
    exact ⟨x0, x1, x2, x3, y0, y1, y2, y3⟩)
  go_enter Try.func127, Try.ntmps127
  go_wp2
  obtain ⟨x0, x1, x2, x3, x4⟩ := a0
  obtain ⟨y0, y1, y2, y3, y4⟩ := g0
  rw [← hW]
  clear hW
  go_region_held3 (fun w' => w'.cell? ⟨w.heap.size, 0, none⟩ = some (.bool s.ln) ∧ w'.cell? ⟨w.heap.size, 1, none⟩ = some (.slice s.la s.lN s.lc) ∧ w'.cell? ⟨w.heap.size, 2, none⟩ = some (.bool s.hn) ∧ w'.cell? ⟨w.heap.size, 3, none⟩ = some (.slice s.ha s.hN s.hc) ∧ w'.cell? ⟨w.heap.size + 1, 0, none⟩ = some (.bool t.ln) ∧ w'.cell? ⟨w.heap.size + 1, 1, none⟩ = some (.slice t.la t.lN t.lc) ∧ w'.cell? ⟨w.heap.size + 1, 2, none⟩ = some (.bool t.hn) ∧ w'.cell? ⟨w.heap.size + 1, 3, none⟩ = some (.slice t.ha t.hN t.hc)) (exact unhide HK _ (by first | exact hB0 | exact balloc hB4 _ | exact hB4 | exact hB3 | exact hB2 | exact hB1))
    (first
      | (go_at_call 52; have hq := hB3; refine (mul_int _ _ _ _ _ _ _ _ k k hi hi' _ ((unhide HS).hi.below hB3) ((unhide HT).hi.below hB3) (by omega) (by omega)).mono ?_; rintro r w4 ⟨neg4, a4, n4, c4, rfl, hint4, hb4⟩; have hint1 := hint1.below hb4; have hint2 := hint2.below hb4; have hint3 := hint3.below hb4; have hB4 := bthen hB3 hb4)
      | (go_at_call 52; have hq := hB2; refine (mul_int _ _ _ _ _ _ _ _ k k hi lo' _ ((unhide HS).hi.below hB2) ((unhide HT).lo.below hB2) (by omega) (by omega)).mono ?_; rintro r w3 ⟨neg3, a3, n3, c3, rfl, hint3, hb3⟩; have hint1 := hint1.below hb3; have hint2 := hint2.below hb3; have hB3 := bthen hB2 hb3)
      | (go_at_call 52; have hq := hB1; refine (mul_int _ _ _ _ _ _ _ _ k k lo hi' _ ((unhide HS).lo.below hB1) ((unhide HT).hi.below hB1) (by omega) (by omega)).mono ?_; rintro r w2 ⟨neg2, a2, n2, c2, rfl, hint2, hb2⟩; have hint1 := hint1.below hb2; have hB2 := bthen hB1 hb2)
      | (go_at_call 52; have hq := hB0; refine (mul_int _ _ _ _ _ _ _ _ k k lo lo' _ ((unhide HS).lo.below hB0) ((unhide HT).lo.below hB0) (by omega) (by omega)).mono ?_; rintro r w1 ⟨neg1, a1, n1, c1, rfl, hint1, hb1⟩; have hB1 := bthen hB0 hb1))
  go_wp2
  go_ret
  exact ⟨w4.heap.size, pr4 ⟨neg1, a1, n1, c1⟩ ⟨neg2, a2, n2, c2⟩ ⟨neg3, a3, n3, c3⟩ ⟨neg4, a4, n4, c4⟩, rfl, nums4 w4 _ rfl ⟨neg1, a1, n1, c1⟩ ⟨neg2, a2, n2, c2⟩ ⟨neg3, a3, n3, c3⟩ ⟨neg4, a4, n4, c4⟩ _ _ _ _ _ _ hint1 hint2 hint3 hint4, bthen hBW (balloc hB4 _)⟩

end Go.Proofs.Ytgmnknmjainabaa

namespace Go.Proofs.Ytgmnknmjainabaa
set_option linter.unusedVariables false
set_option linter.unusedSimpArgs false
set_option linter.unnecessarySimpa false
open Go.RowKit
attribute [local go_sem ↓] Go.wp_at_zero Go.wp_at_succ

theorem cell_put5 {w : World} {B B' o : Nat} {v : Option Value} (h : w.cell? ⟨B, o, none⟩ = v) (hne : B ≠ B') (u0 u1 u2 u3 u4 : Value) :
    (((((w.setCell ⟨B', 0, none⟩ u0).setCell ⟨B', 1, none⟩ u1).setCell ⟨B', 2, none⟩ u2).setCell ⟨B', 3, none⟩ u3).setCell ⟨B', 4, none⟩ u4).cell? ⟨B, o, none⟩ = v := by
  have ne : ∀ i : Nat, (⟨B', i, none⟩ : Addr) ≠ ⟨B, o, none⟩ := fun i e => hne (by injection e with e1; exact e1.symm)
  rw [World.cell?_setCell_other _ _ _ _ (ne 4), World.cell?_setCell_other _ _ _ _ (ne 3), World.cell?_setCell_other _ _ _ _ (ne 2), World.cell?_setCell_other _ _ _ _ (ne 1), World.cell?_setCell_other _ _ _ _ (ne 0)]
  exact h
theorem SpC.put {w : World} {B B' : Nat} {s : Sp} (h : SpC w B s) (hne : B ≠ B') (u0 u1 u2 u3 u4 : Value) :
    SpC (((((w.setCell ⟨B', 0, none⟩ u0).setCell ⟨B', 1, none⟩ u1).setCell ⟨B', 2, none⟩ u2).setCell ⟨B', 3, none⟩ u3).setCell ⟨B', 4, none⟩ u4) B s :=
  ⟨cell_put5 h.c0 hne _ _ _ _ _, cell_put5 h.c1 hne _ _ _ _ _, cell_put5 h.c2 hne _ _ _ _ _, cell_put5 h.c3 hne _ _ _ _ _, cell_put5 h.c4 hne _ _ _ _ _⟩

theorem nums2' (w : World) (B : Nat) (hB : w.heap.size = B) (x y : Nm) (k : Nat) (zx zy : Int) (T : TypeId) (hx : IntAt w x.neg x.a x.n x.cap k zx) (hy : IntAt w y.neg y.a y.n y.cap k zy) :
    Nums (w.alloc (.cells #[.bool x.neg, .slice x.a x.n x.cap, .bool y.neg, .slice y.a y.n y.cap] T)) B 2 k (pr x y) (pr zx zy) := by
  subst hB; exact nums2 w x y k zx zy T hx hy

end Go.Proofs.Ytgmnknmjainabaa
