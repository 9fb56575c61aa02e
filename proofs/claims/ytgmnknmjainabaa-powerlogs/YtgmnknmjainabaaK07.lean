/-
  What span.made answers, for each way that is handed to it, and what span.Add and its like answer of whatever spans; they leave old memory alone.
  What wide.Opposite and wide.Sub answer of right spans, and that they leave old memory alone.
  What tailsureref.Of, Plus, Less, SameSpan, Done, wide.Sub and tailsurelaw.spanIs answer, and that they leave old memory alone.
  What wide.ceilDown, wide.corners of num.Mul, wide.Mul and tailsureref.Times answer of right spans, and that they leave old memory alone.
  What the ways that span.Sub, span.Mul and span.Hull hand to span.made answer, and that they leave old memory alone.
-/
import Derived.Test.YtgmnknmjainabaaK06
namespace Go.Proofs.Ytgmnknmjainabaa
set_option linter.unusedVariables false
set_option linter.unusedSimpArgs false
set_option linter.unnecessarySimpa false
open Go.RowKit
attribute [local go_sem ↓] Go.wp_at_zero Go.wp_at_succ

/-- A span lies in a block. -/
structure SpC (w : World) (B : Nat) (s : Sp) : Prop where
  c0 : w.cell? ⟨B, 0, none⟩ = some (.bool s.ln)
  c1 : w.cell? ⟨B, 1, none⟩ = some (.slice s.la s.lN s.lc)
  c2 : w.cell? ⟨B, 2, none⟩ = some (.bool s.hn)
  c3 : w.cell? ⟨B, 3, none⟩ = some (.slice s.ha s.hN s.hc)
  c4 : w.cell? ⟨B, 4, none⟩ = some (.int .i64 s.bits)
theorem SpC.lt {w : World} {B : Nat} {s : Sp} (h : SpC w B s) : B < w.heap.size := World.block_lt_of_cell? w ⟨B, 0, none⟩ h.c0
theorem SpC.below {w w' : World} {B : Nat} {s : Sp} (h : SpC w B s) (hb : Below w.heap.size w w') : SpC w' B s :=
  ⟨(hb.cell (p := ⟨B, 0, none⟩) h.lt).trans h.c0, (hb.cell (p := ⟨B, 1, none⟩) h.lt).trans h.c1, (hb.cell (p := ⟨B, 2, none⟩) h.lt).trans h.c2, (hb.cell (p := ⟨B, 3, none⟩) h.lt).trans h.c3, (hb.cell (p := ⟨B, 4, none⟩) h.lt).trans h.c4⟩
theorem spc_new (w : World) (s : Sp) (T : TypeId) : SpC (w.alloc (.cells #[.bool s.ln, .slice s.la s.lN s.lc, .bool s.hn, .slice s.ha s.hN s.hc, .int .i64 s.bits] T)) w.heap.size s := ⟨by simp, by simp, by simp, by simp, by simp⟩
/-- An empty span in a block that may be written. -/
structure NoC (w : World) (B : Nat) : Prop where
  c0 : w.cell? ⟨B, 0, none⟩ = some (.bool false)
  c1 : w.cell? ⟨B, 1, none⟩ = some (.slice none 0 0)
  c2 : w.cell? ⟨B, 2, none⟩ = some (.bool false)
  c3 : w.cell? ⟨B, 3, none⟩ = some (.slice none 0 0)
  c4 : w.cell? ⟨B, 4, none⟩ = some (.int .i64 0)
  fz : ∀ o, w.frozen? ⟨B, o, none⟩ = false
theorem NoC.lt {w : World} {B : Nat} (h : NoC w B) : B < w.heap.size := World.block_lt_of_cell? w ⟨B, 0, none⟩ h.c0
theorem NoC.below {w w' : World} {B : Nat} (h : NoC w B) (hb : Below w.heap.size w w') : NoC w' B :=
  ⟨(hb.cell (p := ⟨B, 0, none⟩) h.lt).trans h.c0, (hb.cell (p := ⟨B, 1, none⟩) h.lt).trans h.c1, (hb.cell (p := ⟨B, 2, none⟩) h.lt).trans h.c2, (hb.cell (p := ⟨B, 3, none⟩) h.lt).trans h.c3, (hb.cell (p := ⟨B, 4, none⟩) h.lt).trans h.c4, fun o => (hb.frozen (p := ⟨B, o, none⟩) h.lt).trans (h.fz o)⟩
theorem noc_new (w : World) (T : TypeId) : NoC (w.alloc (.cells #[.bool false, .slice none 0 0, .bool false, .slice none 0 0, .int .i64 0] T)) w.heap.size := ⟨by simp, by simp, by simp, by simp, by simp, fun o => by simp [go_sem]⟩
theorem SpAt.putN {w : World} {s : Sp} {k : Nat} {lo hi : Int} (h : SpAt w s k lo hi) {B : Nat} (hB : NoC w B) (u0 u1 u2 u3 u4 : Value) :
    SpAt (((((w.setCell ⟨B, 0, none⟩ u0).setCell ⟨B, 1, none⟩ u1).setCell ⟨B, 2, none⟩ u2).setCell ⟨B, 3, none⟩ u3).setCell ⟨B, 4, none⟩ u4) s k lo hi := SpAt.put5 h hB.c0 hB.c1 hB.c2 hB.c3 hB.c4 _ _ _ _ _

theorem SpAt.mono {w : World} {s : Sp} {k k' : Nat} {lo hi : Int} (h : SpAt w s k lo hi) (hk : k ≤ k') : SpAt w s k' lo hi := ⟨h.lo.mono hk, h.hi.mono hk⟩
theorem PairAns.mono {w : World} {b : Int} {k k' : Nat} {lo hi er : Int} {r : Ending} {w' : World} (h : PairAns w b k lo hi er r w') (hk : k ≤ k') : PairAns w b k' lo hi er r w' := by
  obtain ⟨s, h1, h2, h3, h4⟩ := h
  exact ⟨s, h1, h2, h3.mono hk, h4⟩

theorem flt_pr {s t : Sp} {d e d' e' : Nat → Int} {z : Int} (hz : Flt (fun j => chkE (pr s t j) (pr d d' j) (pr e e' j)) (fun j => (pr s t j).bits) 2 z) : z = fltE2 (chkE s d e) (chkE t d' e') s.bits t.bits := by
  have e1 : (fun j => chkE (pr s t j) (pr d d' j) (pr e e' j)) = (fun j => pr (chkE s d e) (chkE t d' e') j) := by
    funext j; unfold pr; split <;> rfl
  have e2 : (fun j => (pr s t j).bits) = (fun j => pr s.bits t.bits j) := by
    funext j; unfold pr; split <;> rfl
  rw [e1, e2] at hz
  exact flt2 hz

set_option maxRecDepth 100000 in
set_option maxHeartbeats 2000000 in
theorem made_bad_Add (p1 p2 : Value) (B : Nat) (W : World) (f : Nat → Sp) (d e : Nat → Nat → Int) (n cap : Nat) (hn : n ≤ 1000) (hS : Spans W B n f d e) (E : Int) (h0 : ∀ z, Flt (fun j => chkE (f j) (d j) (e j)) (fun j => (f j).bits) n z → z = E) (hE : E ≠ 0) (k : Nat) :
    Calls Try.prog 72 #[.func (.func 81) #[] #[p1, p2], .slice (some ⟨B, 0, none⟩) n cap] W (PairAns W 0 k 0 0 E) := by
  have HZ := hide h0
  have HS := hide hS
  have hE' : (E != 0) = true := by simpa using hE
  clear h0 hS hE
  go_enter Try.func72, Try.ntmps72
  go_wp2_with fail
  refine (fault_any _ _ _ f d e _ ((unhide HS).below (bl1 _ _)) hn).mono ?_
  rintro r w1 ⟨z, rfl, hz, hb1'⟩
  have hz0 := unhide HZ z hz
  subst hz0
  obtain ⟨q0, q1, q2, q3, q4, q5⟩ := (noc_new W 26).below hb1'
  have hB1 : Below W.heap.size W w1 := bthen (bl1 _ _) hb1'
  clear hz
  go_wp2_with fail
  refine bodyPost_ret (v := .tuple #[.agg #[.bool false, .slice none 0 0, .bool false, .slice none 0 0, .int .i64 0], .int .i64 z]) (by simp [results, Try.results72, go_sem, q0, q1, q2, q3, q4]) rfl ⟨⟨false, none, 0, 0, false, none, 0, 0, 0⟩, rfl, rfl, zeroSp _ _, ?_⟩
  exact set5 hB1 (Nat.le_refl _) _ _ _ _ _

set_option maxRecDepth 100000 in
set_option maxHeartbeats 2000000 in
theorem made_fit_Add (p1 p2 : Value) (B : Nat) (W : World) (f : Nat → Sp) (d e : Nat → Nat → Int) (n cap : Nat) (hn : n ≤ 1000) (hS : Spans W B n f d e) (h0 : ∀ z, Flt (fun j => chkE (f j) (d j) (e j)) (fun j => (f j).bits) n z → z = 0) (b : Int) (k : Nat) (lo hi : Int)
    (hF : ∀ w', Below W.heap.size W w' → Calls Try.prog 81 #[p1, p2] w' (PairAns w' b k lo hi 0)) (hle : lo ≤ hi) (hb1 : 1 ≤ b) (hb2 : b ≤ 120) :
    Calls Try.prog 72 #[.func (.func 81) #[] #[p1, p2], .slice (some ⟨B, 0, none⟩) n cap] W (PairAns W (fitZ lo hi b) k (fitZ lo hi lo) (fitZ lo hi hi) (fitE lo hi)) := by
  have HF := hide hF
  have HZ := hide h0
  have HS := hide hS
  clear hF h0 hS
  go_enter Try.func72, Try.ntmps72
  go_wp2_with fail
  refine (fault_any _ _ _ f d e _ ((unhide HS).below (bl1 _ _)) hn).mono ?_
  rintro r w1 ⟨z, rfl, hz, hb1'⟩
  have hz0 := unhide HZ z hz
  subst hz0
  have hN1 := (noc_new W 26).below hb1'
  have hB1 : Below W.heap.size W w1 := bthen (bl1 _ _) hb1'
  clear hz
  go_wp2_with fail
  refine (unhide HF _ hB1).mono ?_
  rintro r w2 ⟨s, rfl, hsb, hsp, hb3⟩
  have hB2 := bthen hB1 hb3
  have hN2 := hN1.below hb3
  have hlt := hN2.lt
  obtain ⟨dd, ee, hdig, hchk⟩ := chk_fit hsp hle (by omega) (by omega)
  obtain ⟨q0, q1, q2, q3, q4, q5⟩ := hN2
  have HB := hide hsb
  have HC := hide hchk
  clear hsb hb1' hchk
  go_wp2_with fail
  refine (fit_any _ s dd ee (hdig.below (bl1 _ _))).mono ?_
  rintro r w3 ⟨hr, hb4⟩
  have hB3 : Below w2.heap.size w2 w3 := bthen (bl1 _ _) hb4
  have hN3 := (NoC.mk q0 q1 q2 q3 q4 q5).below hB3
  obtain ⟨t0, t1, t2, t3, t4, t5⟩ := hN3
  have hr' : ∃ u : Sp, r = .returned (.tuple #[.agg #[.bool u.ln, .slice u.la u.lN u.lc, .bool u.hn, .slice u.ha u.hN u.hc, .int .i64 u.bits], .int .i64 (fitE lo hi)]) ∧ u.bits = fitZ lo hi b ∧ SpAt w3 u k (fitZ lo hi lo) (fitZ lo hi hi) := by
    have hc := unhide HC
    rcases fit_cases lo hi with ⟨_, f2, f3⟩ | ⟨_, f2, f3⟩
    · rcases hr with ⟨h1, h⟩ | ⟨h1, h⟩
      · omega
      · refine ⟨⟨false, none, 0, 0, false, none, 0, 0, 0⟩, by rw [h, hc], by rw [f3], ?_⟩
        rw [f3, f3]; exact zeroSp _ _
    · rcases hr with ⟨h1, h⟩ | ⟨h1, h⟩
      · refine ⟨s, by rw [h, f2], by rw [f3]; exact unhide HB, ?_⟩
        rw [f3, f3]; exact hsp.below hB3
      · omega
  obtain ⟨u, hru, hub, hup⟩ := hr'
  clear hr
  rw [hru]
  clear hru
  have HU := hide hub
  clear hub
  have hB9 := bthen hB2 hB3
  generalize fitE lo hi = er at *
  go_wp2_with fail
  refine bodyPost_ret (v := .tuple #[.agg #[.bool u.ln, .slice u.la u.lN u.lc, .bool u.hn, .slice u.ha u.hN u.hc, .int .i64 u.bits], .int .i64 er]) (by simp [results, Try.results72, go_sem, t0, t1, t2, t3, t4]) rfl ⟨u, rfl, unhide HU, ?_, ?_⟩
  · exact SpAt.putN hup ⟨t0, t1, t2, t3, t4, t5⟩ _ _ _ _ _
  · exact set5 hB9 (Nat.le_refl _) _ _ _ _ _

set_option maxRecDepth 100000 in
set_option maxHeartbeats 2000000 in
theorem span2_Add (w : World) (s t : Sp) (d e d' e' : Nat → Int) (hs : SpDig w s d e) (ht : SpDig w t d' e') (b' : Int) (k : Nat) (lo hi er : Int)
    (hM : ∀ (W : World) (B0 B1 B cap : Nat), Below w.heap.size w W → SpC W B0 s → SpC W B1 t → Spans W B 2 (pr s t) (pr d d') (pr e e') → Calls Try.prog 72 #[.func (.func 81) #[] #[.pointer (some ⟨B0, 0, none⟩), .pointer (some ⟨B1, 0, none⟩)], .slice (some ⟨B, 0, none⟩) 2 cap] W (PairAns W b' k lo hi er)) :
    Calls Try.prog 27 #[.agg #[.bool s.ln, .slice s.la s.lN s.lc, .bool s.hn, .slice s.ha s.hN s.hc, .int .i64 s.bits], .agg #[.bool t.ln, .slice t.la t.lN t.lc, .bool t.hn, .slice t.ha t.hN t.hc, .int .i64 t.bits]] w (PairAns w b' k lo hi er) := by
  have HM := hide hM
  have HS := hide (fun W hS hT => spans2 W s t d e d' e' 26 hS hT)
  clear hM
  go_enter Try.func27, Try.ntmps27
  go_wp2_with fail
  obtain ⟨W, hW⟩ : ∃ W, W = ((w.alloc (.cells #[.bool s.ln, .slice s.la s.lN s.lc, .bool s.hn, .slice s.ha s.hN s.hc, .int .i64 s.bits] 26)).alloc (.cells #[.bool t.ln, .slice t.la t.lN t.lc, .bool t.hn, .slice t.ha t.hN t.hc, .int .i64 t.bits] 26)).alloc (.cells #[.bool false, .slice none 0 0, .bool false, .slice none 0 0, .int .i64 0] 26) := ⟨_, rfl⟩
  have s3 : W.heap.size = w.heap.size + 1 + 1 + 1 := by rw [hW]; simp
  have hBW : Below w.heap.size w W := by rw [hW]; exact bl3 _ _ _ _
  have a0 : SpC W w.heap.size s := by rw [hW]; exact ⟨by simp [go_sem], by simp [go_sem], by simp [go_sem], by simp [go_sem], by simp [go_sem]⟩
  have g0 : SpC W (w.heap.size + 1) t := by rw [hW]; exact ⟨by simp [go_sem], by simp [go_sem], by simp [go_sem], by simp [go_sem], by simp [go_sem]⟩
  have r0 : NoC W (w.heap.size + 1 + 1) := by rw [hW]; exact ⟨by simp [go_sem], by simp [go_sem], by simp [go_sem], by simp [go_sem], by simp [go_sem], fun o => by simp [go_sem]⟩
  rw [← hW, ← s3]
  clear hW
  refine (unhide HM _ _ _ _ _ (bthen hBW (bl1 _ _)) (a0.below (bl1 _ _)) (g0.below (bl1 _ _)) (unhide HS W (hs.below hBW) (ht.below hBW))).mono ?_
  rintro r w1 ⟨u, rfl, hub, hup, hb1⟩
  have hB1 : Below W.heap.size W w1 := bthen (bl1 _ _) hb1
  obtain ⟨q0, q1, q2, q3, q4, q5⟩ := r0.below hB1
  have HB := hide hub
  clear hub
  go_wp2_with fail
  refine bodyPost_ret (v := .tuple #[.agg #[.bool u.ln, .slice u.la u.lN u.lc, .bool u.hn, .slice u.ha u.hN u.hc, .int .i64 u.bits], .int .i64 er]) (by simp [results, Try.results27, go_sem, q0, q1, q2, q3, q4]) rfl ⟨u, rfl, unhide HB, ?_, ?_⟩
  · exact SpAt.put5 hup q0 q1 q2 q3 q4 _ _ _ _ _
  · exact set5 (bthen hBW hB1) (by omega) _ _ _ _ _

/-- What span.Add answers of whatever spans that something is wrong with. -/
theorem spanAdd_bad (w : World) (s t : Sp) (d e d' e' : Nat → Int) (hs : SpDig w s d e) (ht : SpDig w t d' e') (hE : fltE2 (chkE s d e) (chkE t d' e') s.bits t.bits ≠ 0) (k : Nat) :
    Calls Try.prog 27 #[.agg #[.bool s.ln, .slice s.la s.lN s.lc, .bool s.hn, .slice s.ha s.hN s.hc, .int .i64 s.bits], .agg #[.bool t.ln, .slice t.la t.lN t.lc, .bool t.hn, .slice t.ha t.hN t.hc, .int .i64 t.bits]] w (PairAns w 0 k 0 0 (fltE2 (chkE s d e) (chkE t d' e') s.bits t.bits)) :=
  span2_Add w s t d e d' e' hs ht _ _ _ _ _ fun W B0 B1 B cap _ _ _ hS => made_bad_Add _ _ B W _ _ _ 2 cap (by omega) hS _ (fun z hz => flt_pr hz) hE k

set_option maxRecDepth 100000 in
set_option maxHeartbeats 2000000 in
theorem made_bad_Sub (p1 p2 : Value) (B : Nat) (W : World) (f : Nat → Sp) (d e : Nat → Nat → Int) (n cap : Nat) (hn : n ≤ 1000) (hS : Spans W B n f d e) (E : Int) (h0 : ∀ z, Flt (fun j => chkE (f j) (d j) (e j)) (fun j => (f j).bits) n z → z = E) (hE : E ≠ 0) (k : Nat) :
    Calls Try.prog 72 #[.func (.func 83) #[] #[p1, p2], .slice (some ⟨B, 0, none⟩) n cap] W (PairAns W 0 k 0 0 E) := by
  have HZ := hide h0
  have HS := hide hS
  have hE' : (E != 0) = true := by simpa using hE
  clear h0 hS hE
  go_enter Try.func72, Try.ntmps72
  go_wp2_with fail
  refine (fault_any _ _ _ f d e _ ((unhide HS).below (bl1 _ _)) hn).mono ?_
  rintro r w1 ⟨z, rfl, hz, hb1'⟩
  have hz0 := unhide HZ z hz
  subst hz0
  obtain ⟨q0, q1, q2, q3, q4, q5⟩ := (noc_new W 26).below hb1'
  have hB1 : Below W.heap.size W w1 := bthen (bl1 _ _) hb1'
  clear hz
  go_wp2_with fail
  refine bodyPost_ret (v := .tuple #[.agg #[.bool false, .slice none 0 0, .bool false, .slice none 0 0, .int .i64 0], .int .i64 z]) (by simp [results, Try.results72, go_sem, q0, q1, q2, q3, q4]) rfl ⟨⟨false, none, 0, 0, false, none, 0, 0, 0⟩, rfl, rfl, zeroSp _ _, ?_⟩
  exact set5 hB1 (Nat.le_refl _) _ _ _ _ _

set_option maxRecDepth 100000 in
set_option maxHeartbeats 2000000 in
theorem made_fit_Sub (p1 p2 : Value) (B : Nat) (W : World) (f : Nat → Sp) (d e : Nat → Nat → Int) (n cap : Nat) (hn : n ≤ 1000) (hS : Spans W B n f d e) (h0 : ∀ z, Flt (fun j => chkE (f j) (d j) (e j)) (fun j => (f j).bits) n z → z = 0) (b : Int) (k : Nat) (lo hi : Int)
    (hF : ∀ w', Below W.heap.size W w' → Calls Try.prog 83 #[p1, p2] w' (PairAns w' b k lo hi 0)) (hle : lo ≤ hi) (hb1 : 1 ≤ b) (hb2 : b ≤ 120) :
    Calls Try.prog 72 #[.func (.func 83) #[] #[p1, p2], .slice (some ⟨B, 0, none⟩) n cap] W (PairAns W (fitZ lo hi b) k (fitZ lo hi lo) (fitZ lo hi hi) (fitE lo hi)) := by
  have HF := hide hF
  have HZ := hide h0
  have HS := hide hS
  clear hF h0 hS
  go_enter Try.func72, Try.ntmps72
  go_wp2_with fail
  refine (fault_any _ _ _ f d e _ ((unhide HS).below (bl1 _ _)) hn).mono ?_
  rintro r w1 ⟨z, rfl, hz, hb1'⟩
  have hz0 := unhide HZ z hz
  subst hz0
  have hN1 := (noc_new W 26).below hb1'
  have hB1 : Below W.heap.size W w1 := bthen (bl1 _ _) hb1'
  clear hz
  go_wp2_with fail
  refine (unhide HF _ hB1).mono ?_
  rintro r w2 ⟨s, rfl, hsb, hsp, hb3⟩
  have hB2 := bthen hB1 hb3
  have hN2 := hN1.below hb3
  have hlt := hN2.lt
  obtain ⟨dd, ee, hdig, hchk⟩ := chk_fit hsp hle (by omega) (by omega)
  obtain ⟨q0, q1, q2, q3, q4, q5⟩ := hN2
  have HB := hide hsb
  have HC := hide hchk
  clear hsb hb1' hchk
  go_wp2_with fail
  refine (fit_any _ s dd ee (hdig.below (bl1 _ _))).mono ?_
  rintro r w3 ⟨hr, hb4⟩
  have hB3 : Below w2.heap.size w2 w3 := bthen (bl1 _ _) hb4
  have hN3 := (NoC.mk q0 q1 q2 q3 q4 q5).below hB3
  obtain ⟨t0, t1, t2, t3, t4, t5⟩ := hN3
  have hr' : ∃ u : Sp, r = .returned (.tuple #[.agg #[.bool u.ln, .slice u.la u.lN u.lc, .bool u.hn, .slice u.ha u.hN u.hc, .int .i64 u.bits], .int .i64 (fitE lo hi)]) ∧ u.bits = fitZ lo hi b ∧ SpAt w3 u k (fitZ lo hi lo) (fitZ lo hi hi) := by
    have hc := unhide HC
    rcases fit_cases lo hi with ⟨_, f2, f3⟩ | ⟨_, f2, f3⟩
    · rcases hr with ⟨h1, h⟩ | ⟨h1, h⟩
      · omega
      · refine ⟨⟨false, none, 0, 0, false, none, 0, 0, 0⟩, by rw [h, hc], by rw [f3], ?_⟩
        rw [f3, f3]; exact zeroSp _ _
    · rcases hr with ⟨h1, h⟩ | ⟨h1, h⟩
      · refine ⟨s, by rw [h, f2], by rw [f3]; exact unhide HB, ?_⟩
        rw [f3, f3]; exact hsp.below hB3
      · omega
  obtain ⟨u, hru, hub, hup⟩ := hr'
  clear hr
  rw [hru]
  clear hru
  have HU := hide hub
  clear hub
  have hB9 := bthen hB2 hB3
  generalize fitE lo hi = er at *
  go_wp2_with fail
  refine bodyPost_ret (v := .tuple #[.agg #[.bool u.ln, .slice u.la u.lN u.lc, .bool u.hn, .slice u.ha u.hN u.hc, .int .i64 u.bits], .int .i64 er]) (by simp [results, Try.results72, go_sem, t0, t1, t2, t3, t4]) rfl ⟨u, rfl, unhide HU, ?_, ?_⟩
  · exact SpAt.putN hup ⟨t0, t1, t2, t3, t4, t5⟩ _ _ _ _ _
  · exact set5 hB9 (Nat.le_refl _) _ _ _ _ _

set_option maxRecDepth 100000 in
set_option maxHeartbeats 2000000 in
theorem span2_Sub (w : World) (s t : Sp) (d e d' e' : Nat → Int) (hs : SpDig w s d e) (ht : SpDig w t d' e') (b' : Int) (k : Nat) (lo hi er : Int)
    (hM : ∀ (W : World) (B0 B1 B cap : Nat), Below w.heap.size w W → SpC W B0 s → SpC W B1 t → Spans W B 2 (pr s t) (pr d d') (pr e e') → Calls Try.prog 72 #[.func (.func 83) #[] #[.pointer (some ⟨B0, 0, none⟩), .pointer (some ⟨B1, 0, none⟩)], .slice (some ⟨B, 0, none⟩) 2 cap] W (PairAns W b' k lo hi er)) :
    Calls Try.prog 28 #[.agg #[.bool s.ln, .slice s.la s.lN s.lc, .bool s.hn, .slice s.ha s.hN s.hc, .int .i64 s.bits], .agg #[.bool t.ln, .slice t.la t.lN t.lc, .bool t.hn, .slice t.ha t.hN t.hc, .int .i64 t.bits]] w (PairAns w b' k lo hi er) := by
  have HM := hide hM
  have HS := hide (fun W hS hT => spans2 W s t d e d' e' 26 hS hT)
  clear hM
  go_enter Try.func28, Try.ntmps28
  go_wp2_with fail
  obtain ⟨W, hW⟩ : ∃ W, W = ((w.alloc (.cells #[.bool s.ln, .slice s.la s.lN s.lc, .bool s.hn, .slice s.ha s.hN s.hc, .int .i64 s.bits] 26)).alloc (.cells #[.bool t.ln, .slice t.la t.lN t.lc, .bool t.hn, .slice t.ha t.hN t.hc, .int .i64 t.bits] 26)).alloc (.cells #[.bool false, .slice none 0 0, .bool false, .slice none 0 0, .int .i64 0] 26) := ⟨_, rfl⟩
  have s3 : W.heap.size = w.heap.size + 1 + 1 + 1 := by rw [hW]; simp
  have hBW : Below w.heap.size w W := by rw [hW]; exact bl3 _ _ _ _
  have a0 : SpC W w.heap.size s := by rw [hW]; exact ⟨by simp [go_sem], by simp [go_sem], by simp [go_sem], by simp [go_sem], by simp [go_sem]⟩
  have g0 : SpC W (w.heap.size + 1) t := by rw [hW]; exact ⟨by simp [go_sem], by simp [go_sem], by simp [go_sem], by simp [go_sem], by simp [go_sem]⟩
  have r0 : NoC W (w.heap.size + 1 + 1) := by rw [hW]; exact ⟨by simp [go_sem], by simp [go_sem], by simp [go_sem], by simp [go_sem], by simp [go_sem], fun o => by simp [go_sem]⟩
  rw [← hW, ← s3]
  clear hW
  refine (unhide HM _ _ _ _ _ (bthen hBW (bl1 _ _)) (a0.below (bl1 _ _)) (g0.below (bl1 _ _)) (unhide HS W (hs.below hBW) (ht.below hBW))).mono ?_
  rintro r w1 ⟨u, rfl, hub, hup, hb1⟩
  have hB1 : Below W.heap.size W w1 := bthen (bl1 _ _) hb1
  obtain ⟨q0, q1, q2, q3, q4, q5⟩ := r0.below hB1
  have HB := hide hub
  clear hub
  go_wp2_with fail
  refine bodyPost_ret (v := .tuple #[.agg #[.bool u.ln, .slice u.la u.lN u.lc, .bool u.hn, .slice u.ha u.hN u.hc, .int .i64 u.bits], .int .i64 er]) (by simp [results, Try.results28, go_sem, q0, q1, q2, q3, q4]) rfl ⟨u, rfl, unhide HB, ?_, ?_⟩
  · exact SpAt.put5 hup q0 q1 q2 q3 q4 _ _ _ _ _
  · exact set5 (bthen hBW hB1) (by omega) _ _ _ _ _

/-- What span.Sub answers of whatever spans that something is wrong with. -/
theorem spanSub_bad (w : World) (s t : Sp) (d e d' e' : Nat → Int) (hs : SpDig w s d e) (ht : SpDig w t d' e') (hE : fltE2 (chkE s d e) (chkE t d' e') s.bits t.bits ≠ 0) (k : Nat) :
    Calls Try.prog 28 #[.agg #[.bool s.ln, .slice s.la s.lN s.lc, .bool s.hn, .slice s.ha s.hN s.hc, .int .i64 s.bits], .agg #[.bool t.ln, .slice t.la t.lN t.lc, .bool t.hn, .slice t.ha t.hN t.hc, .int .i64 t.bits]] w (PairAns w 0 k 0 0 (fltE2 (chkE s d e) (chkE t d' e') s.bits t.bits)) :=
  span2_Sub w s t d e d' e' hs ht _ _ _ _ _ fun W B0 B1 B cap _ _ _ hS => made_bad_Sub _ _ B W _ _ _ 2 cap (by omega) hS _ (fun z hz => flt_pr hz) hE k

set_option maxRecDepth 100000 in
set_option maxHeartbeats 2000000 in
theorem made_bad_Mul (p1 p2 : Value) (B : Nat) (W : World) (f : Nat → Sp) (d e : Nat → Nat → Int) (n cap : Nat) (hn : n ≤ 1000) (hS : Spans W B n f d e) (E : Int) (h0 : ∀ z, Flt (fun j => chkE (f j) (d j) (e j)) (fun j => (f j).bits) n z → z = E) (hE : E ≠ 0) (k : Nat) :
    Calls Try.prog 72 #[.func (.func 85) #[] #[p1, p2], .slice (some ⟨B, 0, none⟩) n cap] W (PairAns W 0 k 0 0 E) := by
  have HZ := hide h0
  have HS := hide hS
  have hE' : (E != 0) = true := by simpa using hE
  clear h0 hS hE
  go_enter Try.func72, Try.ntmps72
  go_wp2_with fail
  refine (fault_any _ _ _ f d e _ ((unhide HS).below (bl1 _ _)) hn).mono ?_
  rintro r w1 ⟨z, rfl, hz, hb1'⟩
  have hz0 := unhide HZ z hz
  subst hz0
  obtain ⟨q0, q1, q2, q3, q4, q5⟩ := (noc_new W 26).below hb1'
  have hB1 : Below W.heap.size W w1 := bthen (bl1 _ _) hb1'
  clear hz
  go_wp2_with fail
  refine bodyPost_ret (v := .tuple #[.agg #[.bool false, .slice none 0 0, .bool false, .slice none 0 0, .int .i64 0], .int .i64 z]) (by simp [results, Try.results72, go_sem, q0, q1, q2, q3, q4]) rfl ⟨⟨false, none, 0, 0, false, none, 0, 0, 0⟩, rfl, rfl, zeroSp _ _, ?_⟩
  exact set5 hB1 (Nat.le_refl _) _ _ _ _ _

set_option maxRecDepth 100000 in
set_option maxHeartbeats 2000000 in
theorem made_fit_Mul (p1 p2 : Value) (B : Nat) (W : World) (f : Nat → Sp) (d e : Nat → Nat → Int) (n cap : Nat) (hn : n ≤ 1000) (hS : Spans W B n f d e) (h0 : ∀ z, Flt (fun j => chkE (f j) (d j) (e j)) (fun j => (f j).bits) n z → z = 0) (b : Int) (k : Nat) (lo hi : Int)
    (hF : ∀ w', Below W.heap.size W w' → Calls Try.prog 85 #[p1, p2] w' (PairAns w' b k lo hi 0)) (hle : lo ≤ hi) (hb1 : 1 ≤ b) (hb2 : b ≤ 120) :
    Calls Try.prog 72 #[.func (.func 85) #[] #[p1, p2], .slice (some ⟨B, 0, none⟩) n cap] W (PairAns W (fitZ lo hi b) k (fitZ lo hi lo) (fitZ lo hi hi) (fitE lo hi)) := by
  have HF := hide hF
  have HZ := hide h0
  have HS := hide hS
  clear hF h0 hS
  go_enter Try.func72, Try.ntmps72
  go_wp2_with fail
  refine (fault_any _ _ _ f d e _ ((unhide HS).below (bl1 _ _)) hn).mono ?_
  rintro r w1 ⟨z, rfl, hz, hb1'⟩
  have hz0 := unhide HZ z hz
  subst hz0
  have hN1 := (noc_new W 26).below hb1'
  have hB1 : Below W.heap.size W w1 := bthen (bl1 _ _) hb1'
  clear hz
  go_wp2_with fail
  refine (unhide HF _ hB1).mono ?_
  rintro r w2 ⟨s, rfl, hsb, hsp, hb3⟩
  have hB2 := bthen hB1 hb3
  have hN2 := hN1.below hb3
  have hlt := hN2.lt
  obtain ⟨dd, ee, hdig, hchk⟩ := chk_fit hsp hle (by omega) (by omega)
  obtain ⟨q0, q1, q2, q3, q4, q5⟩ := hN2
  have HB := hide hsb
  have HC := hide hchk
  clear hsb hb1' hchk
  go_wp2_with fail
  refine (fit_any _ s dd ee (hdig.below (bl1 _ _))).mono ?_
  rintro r w3 ⟨hr, hb4⟩
  have hB3 : Below w2.heap.size w2 w3 := bthen (bl1 _ _) hb4
  have hN3 := (NoC.mk q0 q1 q2 q3 q4 q5).below hB3
  obtain ⟨t0, t1, t2, t3, t4, t5⟩ := hN3
  have hr' : ∃ u : Sp, r = .returned (.tuple #[.agg #[.bool u.ln, .slice u.la u.lN u.lc, .bool u.hn, .slice u.ha u.hN u.hc, .int .i64 u.bits], .int .i64 (fitE lo hi)]) ∧ u.bits = fitZ lo hi b ∧ SpAt w3 u k (fitZ lo hi lo) (fitZ lo hi hi) := by
    have hc := unhide HC
    rcases fit_cases lo hi with ⟨_, f2, f3⟩ | ⟨_, f2, f3⟩
    · rcases hr with ⟨h1, h⟩ | ⟨h1, h⟩
      · omega
      · refine ⟨⟨false, none, 0, 0, false, none, 0, 0, 0⟩, by rw [h, hc], by rw [f3], ?_⟩
        rw [f3, f3]; exact zeroSp _ _
    · rcases hr with ⟨h1, h⟩ | ⟨h1, h⟩
      · refine ⟨s, by rw [h, f2], by rw [f3]; exact unhide HB, ?_⟩
        rw [f3, f3]; exact hsp.below hB3
      · omega
  obtain ⟨u, hru, hub, hup⟩ := hr'
  clear hr
  rw [hru]
  clear hru
  have HU := hide hub
  clear hub
  have hB9 := bthen hB2 hB3
  generalize fitE lo hi = er at *
  go_wp2_with fail
  refine bodyPost_ret (v := .tuple #[.agg #[.bool u.ln, .slice u.la u.lN u.lc, .bool u.hn, .slice u.ha u.hN u.hc, .int .i64 u.bits], .int .i64 er]) (by simp [results, Try.results72, go_sem, t0, t1, t2, t3, t4]) rfl ⟨u, rfl, unhide HU, ?_, ?_⟩
  · exact SpAt.putN hup ⟨t0, t1, t2, t3, t4, t5⟩ _ _ _ _ _
  · exact set5 hB9 (Nat.le_refl _) _ _ _ _ _

set_option maxRecDepth 100000 in
set_option maxHeartbeats 2000000 in
theorem span2_Mul (w : World) (s t : Sp) (d e d' e' : Nat → Int) (hs : SpDig w s d e) (ht : SpDig w t d' e') (b' : Int) (k : Nat) (lo hi er : Int)
    (hM : ∀ (W : World) (B0 B1 B cap : Nat), Below w.heap.size w W → SpC W B0 s → SpC W B1 t → Spans W B 2 (pr s t) (pr d d') (pr e e') → Calls Try.prog 72 #[.func (.func 85) #[] #[.pointer (some ⟨B0, 0, none⟩), .pointer (some ⟨B1, 0, none⟩)], .slice (some ⟨B, 0, none⟩) 2 cap] W (PairAns W b' k lo hi er)) :
    Calls Try.prog 29 #[.agg #[.bool s.ln, .slice s.la s.lN s.lc, .bool s.hn, .slice s.ha s.hN s.hc, .int .i64 s.bits], .agg #[.bool t.ln, .slice t.la t.lN t.lc, .bool t.hn, .slice t.ha t.hN t.hc, .int .i64 t.bits]] w (PairAns w b' k lo hi er) := by
  have HM := hide hM
  have HS := hide (fun W hS hT => spans2 W s t d e d' e' 26 hS hT)
  clear hM
  go_enter Try.func29, Try.ntmps29
  go_wp2_with fail
  obtain ⟨W, hW⟩ : ∃ W, W = ((w.alloc (.cells #[.bool s.ln, .slice s.la s.lN s.lc, .bool s.hn, .slice s.ha s.hN s.hc, .int .i64 s.bits] 26)).alloc (.cells #[.bool t.ln, .slice t.la t.lN t.lc, .bool t.hn, .slice t.ha t.hN t.hc, .int .i64 t.bits] 26)).alloc (.cells #[.bool false, .slice none 0 0, .bool false, .slice none 0 0, .int .i64 0] 26) := ⟨_, rfl⟩
  have s3 : W.heap.size = w.heap.size + 1 + 1 + 1 := by rw [hW]; simp
  have hBW : Below w.heap.size w W := by rw [hW]; exact bl3 _ _ _ _
  have a0 : SpC W w.heap.size s := by rw [hW]; exact ⟨by simp [go_sem], by simp [go_sem], by simp [go_sem], by simp [go_sem], by simp [go_sem]⟩
  have g0 : SpC W (w.heap.size + 1) t := by rw [hW]; exact ⟨by simp [go_sem], by simp [go_sem], by simp [go_sem], by simp [go_sem], by simp [go_sem]⟩
  have r0 : NoC W (w.heap.size + 1 + 1) := by rw [hW]; exact ⟨by simp [go_sem], by simp [go_sem], by simp [go_sem], by simp [go_sem], by simp [go_sem], fun o => by simp [go_sem]⟩
  rw [← hW, ← s3]
  clear hW
  refine (unhide HM _ _ _ _ _ (bthen hBW (bl1 _ _)) (a0.below (bl1 _ _)) (g0.below (bl1 _ _)) (unhide HS W (hs.below hBW) (ht.below hBW))).mono ?_
  rintro r w1 ⟨u, rfl, hub, hup, hb1⟩
  have hB1 : Below W.heap.size W w1 := bthen (bl1 _ _) hb1
  obtain ⟨q0, q1, q2, q3, q4, q5⟩ := r0.below hB1
  have HB := hide hub
  clear hub
  go_wp2_with fail
  refine bodyPost_ret (v := .tuple #[.agg #[.bool u.ln, .slice u.la u.lN u.lc, .bool u.hn, .slice u.ha u.hN u.hc, .int .i64 u.bits], .int .i64 er]) (by simp [results, Try.results29, go_sem, q0, q1, q2, q3, q4]) rfl ⟨u, rfl, unhide HB, ?_, ?_⟩
  · exact SpAt.put5 hup q0 q1 q2 q3 q4 _ _ _ _ _
  · exact set5 (bthen hBW hB1) (by omega) _ _ _ _ _

/-- What span.Mul answers of whatever spans that something is wrong with. -/
theorem spanMul_bad (w : World) (s t : Sp) (d e d' e' : Nat → Int) (hs : SpDig w s d e) (ht : SpDig w t d' e') (hE : fltE2 (chkE s d e) (chkE t d' e') s.bits t.bits ≠ 0) (k : Nat) :
    Calls Try.prog 29 #[.agg #[.bool s.ln, .slice s.la s.lN s.lc, .bool s.hn, .slice s.ha s.hN s.hc, .int .i64 s.bits], .agg #[.bool t.ln, .slice t.la t.lN t.lc, .bool t.hn, .slice t.ha t.hN t.hc, .int .i64 t.bits]] w (PairAns w 0 k 0 0 (fltE2 (chkE s d e) (chkE t d' e') s.bits t.bits)) :=
  span2_Mul w s t d e d' e' hs ht _ _ _ _ _ fun W B0 B1 B cap _ _ _ hS => made_bad_Mul _ _ B W _ _ _ 2 cap (by omega) hS _ (fun z hz => flt_pr hz) hE k

set_option maxRecDepth 100000 in
set_option maxHeartbeats 2000000 in
theorem made_bad_Hull (p1 p2 : Value) (B : Nat) (W : World) (f : Nat → Sp) (d e : Nat → Nat → Int) (n cap : Nat) (hn : n ≤ 1000) (hS : Spans W B n f d e) (E : Int) (h0 : ∀ z, Flt (fun j => chkE (f j) (d j) (e j)) (fun j => (f j).bits) n z → z = E) (hE : E ≠ 0) (k : Nat) :
    Calls Try.prog 72 #[.func (.func 87) #[] #[p1, p2], .slice (some ⟨B, 0, none⟩) n cap] W (PairAns W 0 k 0 0 E) := by
  have HZ := hide h0
  have HS := hide hS
  have hE' : (E != 0) = true := by simpa using hE
  clear h0 hS hE
  go_enter Try.func72, Try.ntmps72
  go_wp2_with fail
  refine (fault_any _ _ _ f d e _ ((unhide HS).below (bl1 _ _)) hn).mono ?_
  rintro r w1 ⟨z, rfl, hz, hb1'⟩
  have hz0 := unhide HZ z hz
  subst hz0
  obtain ⟨q0, q1, q2, q3, q4, q5⟩ := (noc_new W 26).below hb1'
  have hB1 : Below W.heap.size W w1 := bthen (bl1 _ _) hb1'
  clear hz
  go_wp2_with fail
  refine bodyPost_ret (v := .tuple #[.agg #[.bool false, .slice none 0 0, .bool false, .slice none 0 0, .int .i64 0], .int .i64 z]) (by simp [results, Try.results72, go_sem, q0, q1, q2, q3, q4]) rfl ⟨⟨false, none, 0, 0, false, none, 0, 0, 0⟩, rfl, rfl, zeroSp _ _, ?_⟩
  exact set5 hB1 (Nat.le_refl _) _ _ _ _ _

set_option maxRecDepth 100000 in
set_option maxHeartbeats 2000000 in
theorem made_fit_Hull (p1 p2 : Value) (B : Nat) (W : World) (f : Nat → Sp) (d e : Nat → Nat → Int) (n cap : Nat) (hn : n ≤ 1000) (hS : Spans W B n f d e) (h0 : ∀ z, Flt (fun j => chkE (f j) (d j) (e j)) (fun j => (f j).bits) n z → z = 0) (b : Int) (k : Nat) (lo hi : Int)
    (hF : ∀ w', Below W.heap.size W w' → Calls Try.prog 87 #[p1, p2] w' (PairAns w' b k lo hi 0)) (hle : lo ≤ hi) (hb1 : 1 ≤ b) (hb2 : b ≤ 120) :
    Calls Try.prog 72 #[.func (.func 87) #[] #[p1, p2], .slice (some ⟨B, 0, none⟩) n cap] W (PairAns W (fitZ lo hi b) k (fitZ lo hi lo) (fitZ lo hi hi) (fitE lo hi)) := by
  have HF := hide hF
  have HZ := hide h0
  have HS := hide hS
  clear hF h0 hS
  go_enter Try.func72, Try.ntmps72
  go_wp2_with fail
  refine (fault_any _ _ _ f d e _ ((unhide HS).below (bl1 _ _)) hn).mono ?_
  rintro r w1 ⟨z, rfl, hz, hb1'⟩
  have hz0 := unhide HZ z hz
  subst hz0
  have hN1 := (noc_new W 26).below hb1'
  have hB1 : Below W.heap.size W w1 := bthen (bl1 _ _) hb1'
  clear hz
  go_wp2_with fail
  refine (unhide HF _ hB1).mono ?_
  rintro r w2 ⟨s, rfl, hsb, hsp, hb3⟩
  have hB2 := bthen hB1 hb3
  have hN2 := hN1.below hb3
  have hlt := hN2.lt
  obtain ⟨dd, ee, hdig, hchk⟩ := chk_fit hsp hle (by omega) (by omega)
  obtain ⟨q0, q1, q2, q3, q4, q5⟩ := hN2
  have HB := hide hsb
  have HC := hide hchk
  clear hsb hb1' hchk
  go_wp2_with fail
  refine (fit_any _ s dd ee (hdig.below (bl1 _ _))).mono ?_
  rintro r w3 ⟨hr, hb4⟩
  have hB3 : Below w2.heap.size w2 w3 := bthen (bl1 _ _) hb4
  have hN3 := (NoC.mk q0 q1 q2 q3 q4 q5).below hB3
  obtain ⟨t0, t1, t2, t3, t4, t5⟩ := hN3
  have hr' : ∃ u : Sp, r = .returned (.tuple #[.agg #[.bool u.ln, .slice u.la u.lN u.lc, .bool u.hn, .slice u.ha u.hN u.hc, .int .i64 u.bits], .int .i64 (fitE lo hi)]) ∧ u.bits = fitZ lo hi b ∧ SpAt w3 u k (fitZ lo hi lo) (fitZ lo hi hi) := by
    have hc := unhide HC
    rcases fit_cases lo hi with ⟨_, f2, f3⟩ | ⟨_, f2, f3⟩
    · rcases hr with ⟨h1, h⟩ | ⟨h1, h⟩
      · omega
      · refine ⟨⟨false, none, 0, 0, false, none, 0, 0, 0⟩, by rw [h, hc], by rw [f3], ?_⟩
        rw [f3, f3]; exact zeroSp _ _
    · rcases hr with ⟨h1, h⟩ | ⟨h1, h⟩
      · refine ⟨s, by rw [h, f2], by rw [f3]; exact unhide HB, ?_⟩
        rw [f3, f3]; exact hsp.below hB3
      · omega
  obtain ⟨u, hru, hub, hup⟩ := hr'
  clear hr
  rw [hru]
  clear hru
  have HU := hide hub
  clear hub
  have hB9 := bthen hB2 hB3
  generalize fitE lo hi = er at *
  go_wp2_with fail
  refine bodyPost_ret (v := .tuple #[.agg #[.bool u.ln, .slice u.la u.lN u.lc, .bool u.hn, .slice u.ha u.hN u.hc, .int .i64 u.bits], .int .i64 er]) (by simp [results, Try.results72, go_sem, t0, t1, t2, t3, t4]) rfl ⟨u, rfl, unhide HU, ?_, ?_⟩
  · exact SpAt.putN hup ⟨t0, t1, t2, t3, t4, t5⟩ _ _ _ _ _
  · exact set5 hB9 (Nat.le_refl _) _ _ _ _ _

set_option maxRecDepth 100000 in
set_option maxHeartbeats 2000000 in
theorem span2_Hull (w : World) (s t : Sp) (d e d' e' : Nat → Int) (hs : SpDig w s d e) (ht : SpDig w t d' e') (b' : Int) (k : Nat) (lo hi er : Int)
    (hM : ∀ (W : World) (B0 B1 B cap : Nat), Below w.heap.size w W → SpC W B0 s → SpC W B1 t → Spans W B 2 (pr s t) (pr d d') (pr e e') → Calls Try.prog 72 #[.func (.func 87) #[] #[.pointer (some ⟨B0, 0, none⟩), .pointer (some ⟨B1, 0, none⟩)], .slice (some ⟨B, 0, none⟩) 2 cap] W (PairAns W b' k lo hi er)) :
    Calls Try.prog 30 #[.agg #[.bool s.ln, .slice s.la s.lN s.lc, .bool s.hn, .slice s.ha s.hN s.hc, .int .i64 s.bits], .agg #[.bool t.ln, .slice t.la t.lN t.lc, .bool t.hn, .slice t.ha t.hN t.hc, .int .i64 t.bits]] w (PairAns w b' k lo hi er) := by
  have HM := hide hM
  have HS := hide (fun W hS hT => spans2 W s t d e d' e' 26 hS hT)
  clear hM
  go_enter Try.func30, Try.ntmps30
  go_wp2_with fail
  obtain ⟨W, hW⟩ : ∃ W, W = ((w.alloc (.cells #[.bool s.ln, .slice s.la s.lN s.lc, .bool s.hn, .slice s.ha s.hN s.hc, .int .i64 s.bits] 26)).alloc (.cells #[.bool t.ln, .slice t.la t.lN t.lc, .bool t.hn, .slice t.ha t.hN t.hc, .int .i64 t.bits] 26)).alloc (.cells #[.bool false, .slice none 0 0, .bool false, .slice none 0 0, .int .i64 0] 26) := ⟨_, rfl⟩
  have s3 : W.heap.size = w.heap.size + 1 + 1 + 1 := by rw [hW]; simp
  have hBW : Below w.heap.size w W := by rw [hW]; exact bl3 _ _ _ _
  have a0 : SpC W w.heap.size s := by rw [hW]; exact ⟨by simp [go_sem], by simp [go_sem], by simp [go_sem], by simp [go_sem], by simp [go_sem]⟩
  have g0 : SpC W (w.heap.size + 1) t := by rw [hW]; exact ⟨by simp [go_sem], by simp [go_sem], by simp [go_sem], by simp [go_sem], by simp [go_sem]⟩
  have r0 : NoC W (w.heap.size + 1 + 1) := by rw [hW]; exact ⟨by simp [go_sem], by simp [go_sem], by simp [go_sem], by simp [go_sem], by simp [go_sem], fun o => by simp [go_sem]⟩
  rw [← hW, ← s3]
  clear hW
  refine (unhide HM _ _ _ _ _ (bthen hBW (bl1 _ _)) (a0.below (bl1 _ _)) (g0.below (bl1 _ _)) (unhide HS W (hs.below hBW) (ht.below hBW))).mono ?_
  rintro r w1 ⟨u, rfl, hub, hup, hb1⟩
  have hB1 : Below W.heap.size W w1 := bthen (bl1 _ _) hb1
  obtain ⟨q0, q1, q2, q3, q4, q5⟩ := r0.below hB1
  have HB := hide hub
  clear hub
  go_wp2_with fail
  refine bodyPost_ret (v := .tuple #[.agg #[.bool u.ln, .slice u.la u.lN u.lc, .bool u.hn, .slice u.ha u.hN u.hc, .int .i64 u.bits], .int .i64 er]) (by simp [results, Try.results30, go_sem, q0, q1, q2, q3, q4]) rfl ⟨u, rfl, unhide HB, ?_, ?_⟩
  · exact SpAt.put5 hup q0 q1 q2 q3 q4 _ _ _ _ _
  · exact set5 (bthen hBW hB1) (by omega) _ _ _ _ _

/-- What span.Hull answers of whatever spans that something is wrong with. -/
theorem spanHull_bad (w : World) (s t : Sp) (d e d' e' : Nat → Int) (hs : SpDig w s d e) (ht : SpDig w t d' e') (hE : fltE2 (chkE s d e) (chkE t d' e') s.bits t.bits ≠ 0) (k : Nat) :
    Calls Try.prog 30 #[.agg #[.bool s.ln, .slice s.la s.lN s.lc, .bool s.hn, .slice s.ha s.hN s.hc, .int .i64 s.bits], .agg #[.bool t.ln, .slice t.la t.lN t.lc, .bool t.hn, .slice t.ha t.hN t.hc, .int .i64 t.bits]] w (PairAns w 0 k 0 0 (fltE2 (chkE s d e) (chkE t d' e') s.bits t.bits)) :=
  span2_Hull w s t d e d' e' hs ht _ _ _ _ _ fun W B0 B1 B cap _ _ _ hS => made_bad_Hull _ _ B W _ _ _ 2 cap (by omega) hS _ (fun z hz => flt_pr hz) hE k
end Go.Proofs.Ytgmnknmjainabaa

namespace Go.Proofs.Ytgmnknmjainabaa
set_option linter.unusedVariables false
set_option linter.unusedSimpArgs false
set_option linter.unnecessarySimpa false
open Go.RowKit
attribute [local go_sem ↓] Go.wp_at_zero Go.wp_at_succ

set_option maxRecDepth 100000 in
set_option maxHeartbeats 2000000 in
theorem opposite_int (w : World) (s : Sp) (k : Nat) (lo hi : Int) (hs : SpAt w s k lo hi) (hk : k ≤ 700000000) :
    Calls Try.prog 126 #[.agg #[.bool s.ln, .slice s.la s.lN s.lc, .bool s.hn, .slice s.ha s.hN s.hc, .int .i64 s.bits]] w (SpanAns w s.bits k (-hi) (-lo)) := by
  go_enter Try.func126, Try.ntmps126
  go_wp2
  go_region_held3 (fun w' => w'.cell? ⟨w.heap.size, 0, none⟩ = some (.bool s.ln) ∧ w'.cell? ⟨w.heap.size, 1, none⟩ = some (.slice s.la s.lN s.lc) ∧ w'.cell? ⟨w.heap.size, 2, none⟩ = some (.bool s.hn) ∧ w'.cell? ⟨w.heap.size, 3, none⟩ = some (.slice s.ha s.hN s.hc) ∧ w'.cell? ⟨w.heap.size, 4, none⟩ = some (.int .i64 s.bits)) (go_keep)
    (first
      | (go_at_call 80; have hq := hb1; refine (neg_int _ _ _ _ k lo _ (hs.lo.below (bthen (bl2 _ _ _).drew hb1)) (by omega)).mono ?_; rintro r w2 ⟨neg2, a2, n2, c2, rfl, hint2, hb2⟩; obtain ⟨hsz2, hcell2, hfz2⟩ := near (w.heap.size + 1 + 1) hsz1 hb2)
      | (go_at_call 80; refine (neg_int _ _ _ _ k hi _ (hs.hi.below (bl2 _ _ _).drew) (by omega)).mono ?_; rintro r w1 ⟨neg1, a1, n1, c1, rfl, hint1, hb1⟩; obtain ⟨hsz1, hcell1, hfz1⟩ := near (w.heap.size + 1 + 1) (by simp) hb1))
  go_wp2
  have q0 : w2.cell? ⟨w.heap.size + 1, 0, none⟩ = some (.bool false) := by simp [hcell2, hcell1, go_sem]
  have q1 : w2.cell? ⟨w.heap.size + 1, 1, none⟩ = some (.slice none 0 0) := by simp [hcell2, hcell1, go_sem]
  have q2 : w2.cell? ⟨w.heap.size + 1, 2, none⟩ = some (.bool false) := by simp [hcell2, hcell1, go_sem]
  have q3 : w2.cell? ⟨w.heap.size + 1, 3, none⟩ = some (.slice none 0 0) := by simp [hcell2, hcell1, go_sem]
  have q4 : w2.cell? ⟨w.heap.size + 1, 4, none⟩ = some (.int .i64 0) := by simp [hcell2, hcell1, go_sem]
  refine bodyPost_ret (v := .agg #[.bool neg1, .slice a1 n1 c1, .bool neg2, .slice a2 n2 c2, .int .i64 s.bits]) (by simp [results, Try.results126, go_sem, q0, q1, q2, q3, q4]) rfl ⟨⟨neg1, a1, n1, c1, neg2, a2, n2, c2, s.bits⟩, rfl, rfl, ?_, ?_⟩
  · exact SpAt.put5 ⟨hint1.below hb2, hint2⟩ q0 q1 q2 q3 q4 _ _ _ _ _
  · exact set5 (bthen (bthen (bl2 _ _ _).drew hb1) hb2) (Nat.le_succ _) _ _ _ _ _
end Go.Proofs.Ytgmnknmjainabaa

namespace Go.Proofs.Ytgmnknmjainabaa
set_option linter.unusedVariables false
set_option linter.unusedSimpArgs false
set_option linter.unnecessarySimpa false
open Go.RowKit
attribute [local go_sem ↓] Go.wp_at_zero Go.wp_at_succ

theorem cmpInt_self (x : Int) : cmpInt x x = 0 := by simp [cmpInt]

theorem isRight_int (neg : Bool) (a : Option Addr) (n cap k : Nat) (x : Int) (w : World) (h : IntAt w neg a n cap k x) :
    Calls Try.prog 76 #[.agg #[.bool neg, .slice a n cap]] w fun r w' => r = .returned (.bool true) ∧ Below w.heap.size w w' := by
  obtain ⟨d, h1, h2, h3, h4, h5⟩ := h
  have h6 : rightB neg n d = true := by
    have := rightB_of (neg := neg) h2 h3
    simpa using this
  exact (isRight_any neg a n cap d w h1).mono fun r w' ⟨p1, p2⟩ => ⟨by rw [p1, h6], p2⟩

set_option maxRecDepth 100000 in
set_option maxHeartbeats 2000000 in
theorem refOf_any (w : World) (s : Sp) : Calls Try.prog 23 #[.agg #[.bool s.ln, .slice s.la s.lN s.lc, .bool s.hn, .slice s.ha s.hN s.hc, .int .i64 s.bits]] w fun r w' => r = .returned (.agg #[.bool s.ln, .slice s.la s.lN s.lc, .bool s.hn, .slice s.ha s.hN s.hc, .int .i64 s.bits]) ∧ Below w.heap.size w w' := by
  go_enter Try.func23, Try.ntmps23
  go_wp2_with fail
  refine bodyPost_ret (v := .agg #[.bool s.ln, .slice s.la s.lN s.lc, .bool s.hn, .slice s.ha s.hN s.hc, .int .i64 s.bits]) (by simp [results, Try.results23, go_sem]) rfl ⟨rfl, ?_⟩
  first | exact bl2 _ _ _ | exact set5 (bl2 _ _ _) (Nat.le_succ _) _ _ _ _ _

set_option maxRecDepth 100000 in
set_option maxHeartbeats 2000000 in
theorem refPlus_int (w : World) (s t : Sp) (k : Nat) (lo hi lo' hi' : Int) (hs : SpAt w s k lo hi) (ht : SpAt w t k lo' hi') (hk : k ≤ 700000000) :
    Calls Try.prog 34 #[.agg #[.bool s.ln, .slice s.la s.lN s.lc, .bool s.hn, .slice s.ha s.hN s.hc, .int .i64 s.bits], .agg #[.bool t.ln, .slice t.la t.lN t.lc, .bool t.hn, .slice t.ha t.hN t.hc, .int .i64 t.bits]] w (SpanAns w s.bits (k + 1) (lo + lo') (hi + hi')) := by
  have ne1 : w.heap.size ≠ w.heap.size + 1 + 1 := by omega
  have ne2 : w.heap.size + 1 + 1 ≠ w.heap.size := by omega
  have le2 : w.heap.size ≤ w.heap.size + 1 + 1 := by omega
  go_enter Try.func34, Try.ntmps34
  go_wp2
  go_region_held3 (fun w' => w'.cell? ⟨w.heap.size, 0, none⟩ = some (.bool s.ln) ∧ w'.cell? ⟨w.heap.size, 1, none⟩ = some (.slice s.la s.lN s.lc) ∧ w'.cell? ⟨w.heap.size, 2, none⟩ = some (.bool s.hn) ∧ w'.cell? ⟨w.heap.size, 3, none⟩ = some (.slice s.ha s.hN s.hc) ∧ w'.cell? ⟨w.heap.size, 4, none⟩ = some (.int .i64 s.bits) ∧ w'.cell? ⟨w.heap.size + 1, 0, none⟩ = some (.bool t.ln) ∧ w'.cell? ⟨w.heap.size + 1, 1, none⟩ = some (.slice t.la t.lN t.lc) ∧ w'.cell? ⟨w.heap.size + 1, 2, none⟩ = some (.bool t.hn) ∧ w'.cell? ⟨w.heap.size + 1, 3, none⟩ = some (.slice t.ha t.hN t.hc)) (go_keep)
    (first
      | (go_at_call 49; have hq := hb1; refine (add_int _ _ _ _ _ _ _ _ k k hi hi' _ (hs.hi.below (bthen (bl3 _ _ _ _).drew hb1)) (ht.hi.below (bthen (bl3 _ _ _ _).drew hb1)) (by omega) (by omega)).mono ?_; rintro r w2 ⟨neg2, a2, n2, c2, rfl, hint2, hb2⟩; obtain ⟨hsz2, hcell2, hfz2⟩ := near (w.heap.size + 1 + 1 + 1) hsz1 hb2)
      | (go_at_call 49; refine (add_int _ _ _ _ _ _ _ _ k k lo lo' _ (hs.lo.below (bl3 _ _ _ _).drew) (ht.lo.below (bl3 _ _ _ _).drew) (by omega) (by omega)).mono ?_; rintro r w1 ⟨neg1, a1, n1, c1, rfl, hint1, hb1⟩; obtain ⟨hsz1, hcell1, hfz1⟩ := near (w.heap.size + 1 + 1 + 1) (by simp) hb1))
  go_wp2
  have q0 : w2.cell? ⟨w.heap.size + 1 + 1, 0, none⟩ = some (.bool false) := by simp [hcell2, hcell1, go_sem]
  have q1 : w2.cell? ⟨w.heap.size + 1 + 1, 1, none⟩ = some (.slice none 0 0) := by simp [hcell2, hcell1, go_sem]
  have q2 : w2.cell? ⟨w.heap.size + 1 + 1, 2, none⟩ = some (.bool false) := by simp [hcell2, hcell1, go_sem]
  have q3 : w2.cell? ⟨w.heap.size + 1 + 1, 3, none⟩ = some (.slice none 0 0) := by simp [hcell2, hcell1, go_sem]
  have q4 : w2.cell? ⟨w.heap.size + 1 + 1, 4, none⟩ = some (.int .i64 0) := by simp [hcell2, hcell1, go_sem]
  refine bodyPost_ret (v := .agg #[.bool neg1, .slice a1 n1 c1, .bool neg2, .slice a2 n2 c2, .int .i64 s.bits]) (by simp [results, Try.results34, go_sem, q0, q1, q2, q3, q4]) rfl ⟨⟨neg1, a1, n1, c1, neg2, a2, n2, c2, s.bits⟩, rfl, rfl, ?_, ?_⟩
  · exact SpAt.put5 ⟨(hint1.below hb2).mono (by omega), hint2.mono (by omega)⟩ q0 q1 q2 q3 q4 _ _ _ _ _
  · exact set5 (bthen (bthen (bl3 _ _ _ _).drew hb1) hb2) le2 _ _ _ _ _


set_option maxRecDepth 100000 in
set_option maxHeartbeats 2000000 in
theorem refLess_int (w : World) (s t : Sp) (k : Nat) (lo hi lo' hi' : Int) (hs : SpAt w s k lo hi) (ht : SpAt w t k lo' hi') (hk : k ≤ 700000000) :
    Calls Try.prog 35 #[.agg #[.bool s.ln, .slice s.la s.lN s.lc, .bool s.hn, .slice s.ha s.hN s.hc, .int .i64 s.bits], .agg #[.bool t.ln, .slice t.la t.lN t.lc, .bool t.hn, .slice t.ha t.hN t.hc, .int .i64 t.bits]] w (SpanAns w s.bits (k + 1) (lo - hi') (hi - lo')) := by
  have ne1 : w.heap.size ≠ w.heap.size + 1 + 1 := by omega
  have ne2 : w.heap.size + 1 + 1 ≠ w.heap.size := by omega
  have le2 : w.heap.size ≤ w.heap.size + 1 + 1 := by omega
  go_enter Try.func35, Try.ntmps35
  go_wp2
  go_region_held3 (fun w' => w'.cell? ⟨w.heap.size, 0, none⟩ = some (.bool s.ln) ∧ w'.cell? ⟨w.heap.size, 1, none⟩ = some (.slice s.la s.lN s.lc) ∧ w'.cell? ⟨w.heap.size, 2, none⟩ = some (.bool s.hn) ∧ w'.cell? ⟨w.heap.size, 3, none⟩ = some (.slice s.ha s.hN s.hc) ∧ w'.cell? ⟨w.heap.size, 4, none⟩ = some (.int .i64 s.bits) ∧ w'.cell? ⟨w.heap.size + 1, 0, none⟩ = some (.bool t.ln) ∧ w'.cell? ⟨w.heap.size + 1, 1, none⟩ = some (.slice t.la t.lN t.lc) ∧ w'.cell? ⟨w.heap.size + 1, 2, none⟩ = some (.bool t.hn) ∧ w'.cell? ⟨w.heap.size + 1, 3, none⟩ = some (.slice t.ha t.hN t.hc)) (go_keep)
    (first
      | (go_at_call 50; have hq := hb1; refine (sub_int _ _ _ _ _ _ _ _ k k hi lo' _ (hs.hi.below (bthen (bl3 _ _ _ _).drew hb1)) (ht.lo.below (bthen (bl3 _ _ _ _).drew hb1)) (by omega) (by omega)).mono ?_; rintro r w2 ⟨neg2, a2, n2, c2, rfl, hint2, hb2⟩; obtain ⟨hsz2, hcell2, hfz2⟩ := near (w.heap.size + 1 + 1 + 1) hsz1 hb2)
      | (go_at_call 50; refine (sub_int _ _ _ _ _ _ _ _ k k lo hi' _ (hs.lo.below (bl3 _ _ _ _).drew) (ht.hi.below (bl3 _ _ _ _).drew) (by omega) (by omega)).mono ?_; rintro r w1 ⟨neg1, a1, n1, c1, rfl, hint1, hb1⟩; obtain ⟨hsz1, hcell1, hfz1⟩ := near (w.heap.size + 1 + 1 + 1) (by simp) hb1))
  go_wp2
  have q0 : w2.cell? ⟨w.heap.size + 1 + 1, 0, none⟩ = some (.bool false) := by simp [hcell2, hcell1, go_sem]
  have q1 : w2.cell? ⟨w.heap.size + 1 + 1, 1, none⟩ = some (.slice none 0 0) := by simp [hcell2, hcell1, go_sem]
  have q2 : w2.cell? ⟨w.heap.size + 1 + 1, 2, none⟩ = some (.bool false) := by simp [hcell2, hcell1, go_sem]
  have q3 : w2.cell? ⟨w.heap.size + 1 + 1, 3, none⟩ = some (.slice none 0 0) := by simp [hcell2, hcell1, go_sem]
  have q4 : w2.cell? ⟨w.heap.size + 1 + 1, 4, none⟩ = some (.int .i64 0) := by simp [hcell2, hcell1, go_sem]
  refine bodyPost_ret (v := .agg #[.bool neg1, .slice a1 n1 c1, .bool neg2, .slice a2 n2 c2, .int .i64 s.bits]) (by simp [results, Try.results35, go_sem, q0, q1, q2, q3, q4]) rfl ⟨⟨neg1, a1, n1, c1, neg2, a2, n2, c2, s.bits⟩, rfl, rfl, ?_, ?_⟩
  · exact SpAt.put5 ⟨(hint1.below hb2).mono (by omega), hint2.mono (by omega)⟩ q0 q1 q2 q3 q4 _ _ _ _ _
  · exact set5 (bthen (bthen (bl3 _ _ _ _).drew hb1) hb2) le2 _ _ _ _ _


set_option maxRecDepth 100000 in
set_option maxHeartbeats 2000000 in
theorem wideSub_int (w : World) (s t : Sp) (k : Nat) (lo hi lo' hi' : Int) (hs : SpAt w s k lo hi) (ht : SpAt w t k lo' hi') (hk : k ≤ 600000000) :
    Calls Try.prog 84 #[.agg #[.bool s.ln, .slice s.la s.lN s.lc, .bool s.hn, .slice s.ha s.hN s.hc, .int .i64 s.bits], .agg #[.bool t.ln, .slice t.la t.lN t.lc, .bool t.hn, .slice t.ha t.hN t.hc, .int .i64 t.bits]] w (SpanAns w s.bits (k + 1) (lo - hi') (hi - lo')) := by
  have ne1 : w.heap.size ≠ w.heap.size + 1 + 1 := by omega
  have ne2 : w.heap.size + 1 + 1 ≠ w.heap.size := by omega
  have le2 : w.heap.size ≤ w.heap.size + 1 + 1 := by omega
  go_enter Try.func84, Try.ntmps84
  go_wp2
  go_region_held3 (fun w' => w'.cell? ⟨w.heap.size, 0, none⟩ = some (.bool s.ln) ∧ w'.cell? ⟨w.heap.size, 1, none⟩ = some (.slice s.la s.lN s.lc) ∧ w'.cell? ⟨w.heap.size, 2, none⟩ = some (.bool s.hn) ∧ w'.cell? ⟨w.heap.size, 3, none⟩ = some (.slice s.ha s.hN s.hc) ∧ w'.cell? ⟨w.heap.size, 4, none⟩ = some (.int .i64 s.bits) ∧ w'.cell? ⟨w.heap.size + 1, 0, none⟩ = some (.bool t.ln) ∧ w'.cell? ⟨w.heap.size + 1, 1, none⟩ = some (.slice t.la t.lN t.lc) ∧ w'.cell? ⟨w.heap.size + 1, 2, none⟩ = some (.bool t.hn) ∧ w'.cell? ⟨w.heap.size + 1, 3, none⟩ = some (.slice t.ha t.hN t.hc) ∧ w'.cell? ⟨w.heap.size + 1, 4, none⟩ = some (.int .i64 t.bits)) (go_keep)
    (first
      | (go_at_call 126; refine (opposite_int _ t k lo' hi' (ht.below (bl3 _ _ _ _).drew) (by omega)).mono ?_; rintro r w1 ⟨u, rfl, hub, hup, hb1⟩; have HUB := hide hub; clear hub; obtain ⟨hsz1, hcell1, hfz1⟩ := near (w.heap.size + 1 + 1 + 1) (by simp) hb1)
      | (go_at_call 82; refine (wideAdd_int _ s u k lo hi (-hi') (-lo') (hs.below (bthen (bl3 _ _ _ _).drew hb1)) hup (by omega)).mono ?_; rintro r w2 ⟨v, rfl, hvb, hvp, hb2⟩; have HVB := hide hvb; clear hvb; obtain ⟨hsz2, hcell2, hfz2⟩ := near (w.heap.size + 1 + 1 + 1) hsz1 hb2))
  go_wp2
  have q0 : w2.cell? ⟨w.heap.size + 1 + 1, 0, none⟩ = some (.bool false) := by simp [hcell2, hcell1, go_sem]
  have q1 : w2.cell? ⟨w.heap.size + 1 + 1, 1, none⟩ = some (.slice none 0 0) := by simp [hcell2, hcell1, go_sem]
  have q2 : w2.cell? ⟨w.heap.size + 1 + 1, 2, none⟩ = some (.bool false) := by simp [hcell2, hcell1, go_sem]
  have q3 : w2.cell? ⟨w.heap.size + 1 + 1, 3, none⟩ = some (.slice none 0 0) := by simp [hcell2, hcell1, go_sem]
  have q4 : w2.cell? ⟨w.heap.size + 1 + 1, 4, none⟩ = some (.int .i64 0) := by simp [hcell2, hcell1, go_sem]
  refine bodyPost_ret (v := .agg #[.bool v.ln, .slice v.la v.lN v.lc, .bool v.hn, .slice v.ha v.hN v.hc, .int .i64 v.bits]) (by simp [results, Try.results84, go_sem, q0, q1, q2, q3, q4]) rfl ⟨v, rfl, unhide HVB, ?_, ?_⟩
  · rw [Int.sub_eq_add_neg, Int.sub_eq_add_neg]
    exact SpAt.put5 hvp q0 q1 q2 q3 q4 _ _ _ _ _
  · exact set5 (bthen (bthen (bl3 _ _ _ _).drew hb1) hb2) le2 _ _ _ _ _

set_option maxRecDepth 100000 in
set_option maxHeartbeats 2000000 in
theorem same_true (w : World) (s t : Sp) (k : Nat) (lo hi : Int) (hs : SpAt w s k lo hi) (ht : SpAt w t k lo hi) (hb : s.bits = t.bits) :
    Calls Try.prog 32 #[.agg #[.bool s.ln, .slice s.la s.lN s.lc, .bool s.hn, .slice s.ha s.hN s.hc, .int .i64 s.bits], .agg #[.bool t.ln, .slice t.la t.lN t.lc, .bool t.hn, .slice t.ha t.hN t.hc, .int .i64 t.bits]] w fun r w' => r = .returned (.bool true) ∧ Below w.heap.size w w' := by
  have hb1 : (s.bits == t.bits) = true := by simp [hb]
  clear hb
  go_enter Try.func32, Try.ntmps32
  go_wp2_with fail
  refine (cmp_int _ _ _ _ _ _ _ _ k k lo lo _ (hs.lo.below (bl2 _ _ _)) (ht.lo.below (bl2 _ _ _))).mono ?_
  rintro r w1 ⟨rfl, hb1'⟩
  obtain ⟨hsz1, hcell1, hfz1⟩ := near (w.heap.size + 1 + 1) (by simp) hb1'
  have hB1 : Below w.heap.size w w1 := bthen (bl2 _ _ _) hb1'
  rw [cmpInt_self]
  go_wp2_with fail
  refine (cmp_int _ _ _ _ _ _ _ _ k k hi hi _ (hs.hi.below hB1) (ht.hi.below hB1)).mono ?_
  rintro r w2 ⟨rfl, hb2⟩
  obtain ⟨hsz2, hcell2, hfz2⟩ := near (w.heap.size + 1 + 1) hsz1 hb2
  have hB2 : Below w.heap.size w w2 := bthen hB1 hb2
  rw [cmpInt_self]
  go_wp2_with fail
  refine (isRight_int _ _ _ _ k lo _ (hs.lo.below hB2)).mono ?_
  rintro r w3 ⟨rfl, hb3⟩
  obtain ⟨hsz3, hcell3, hfz3⟩ := near (w.heap.size + 1 + 1) hsz2 hb3
  have hB3 : Below w.heap.size w w3 := bthen hB2 hb3
  go_wp2_with fail
  refine (isRight_int _ _ _ _ k hi _ (hs.hi.below hB3)).mono ?_
  rintro r w4 ⟨rfl, hb4⟩
  go_wp2_with fail
  go_ret
  exact ⟨rfl, bthen hB3 hb4⟩

set_option maxRecDepth 100000 in
set_option maxHeartbeats 2000000 in
theorem spanIs_true (w : World) (s t : Sp) (k : Nat) (lo hi er : Int) (hs : SpAt w s k lo hi) (ht : SpAt w t k lo hi) (hb : s.bits = t.bits) (hz : er ≠ 0 → lo = 0 ∧ hi = 0 ∧ s.bits = 0) :
    Calls Try.prog 26 #[.agg #[.bool s.ln, .slice s.la s.lN s.lc, .bool s.hn, .slice s.ha s.hN s.hc, .int .i64 s.bits], .int .i64 er, .int .i64 er, .agg #[.bool t.ln, .slice t.la t.lN t.lc, .bool t.hn, .slice t.ha t.hN t.hc, .int .i64 t.bits]] w fun r w' => r = .returned (.bool true) ∧ Below w.heap.size w w' := by
  have HB := hide hb
  have HZ := hide hz
  clear hb hz
  by_cases he : er = 0
  · subst he
    go_enter Try.func26, Try.ntmps26
    go_wp2_with fail
    refine (same_true _ s t k lo hi (hs.below (bl2 _ _ _)) (ht.below (bl2 _ _ _)) (unhide HB)).mono ?_
    rintro r w1 ⟨rfl, hb1⟩
    go_wp2_with fail
    go_ret
    exact ⟨rfl, bthen (bl2 _ _ _) hb1⟩
  · have he' : (er != 0) = true := by simpa using he
    obtain ⟨z1, z2, z3⟩ := unhide HZ he
    subst z1 z2
    have HZ3 := hide z3
    clear z3
    go_enter Try.func26, Try.ntmps26
    go_wp2_with fail
    refine (same_true _ s ⟨false, none, 0, 0, false, none, 0, 0, 0⟩ k 0 0 (hs.below (bl2 _ _ _)) (zeroSp _ _) (unhide HZ3)).mono ?_
    rintro r w1 ⟨rfl, hb1⟩
    go_wp2_with fail
    go_ret
    exact ⟨rfl, bthen (bl2 _ _ _) hb1⟩

set_option maxRecDepth 100000 in
set_option maxHeartbeats 2000000 in
theorem done_fit (w : World) (s : Sp) (k : Nat) (lo hi : Int) (hs : SpAt w s k lo hi) (hle : lo ≤ hi) (h1 : 1 ≤ s.bits) (h2 : s.bits ≤ 120) :
    Calls Try.prog 20 #[.agg #[.bool s.ln, .slice s.la s.lN s.lc, .bool s.hn, .slice s.ha s.hN s.hc, .int .i64 s.bits]] w (PairAns w (fitZ lo hi s.bits) k (fitZ lo hi lo) (fitZ lo hi hi) (fitE lo hi)) := by
  obtain ⟨d, e, hdig, hchk⟩ := chk_fit hs hle h1 h2
  have HC := hide hchk
  clear hchk h1 h2 hle
  rcases fit_cases lo hi with ⟨_, f2, f3⟩ | ⟨_, f2, f3⟩
  · have HF2 := hide f2
    have hc' : (chkE s d e != 0) = true := by rw [unhide HC, f2]; rfl
    rw [f2, f3, f3, f3]
    clear f2 f3
    go_enter Try.func20, Try.ntmps20
    go_wp2_with fail
    refine (checkSpan_any s d e _ (hdig.below (bl3 _ _ _ _))).mono ?_
    rintro r w1 ⟨rfl, hb1⟩
    obtain ⟨hsz1, hcell1, hfz1⟩ := near (w.heap.size + 1 + 1 + 1) (by simp) hb1
    go_wp2_with fail
    have q0 : w1.cell? ⟨w.heap.size + 1, 0, none⟩ = some (.bool false) := by simp [hcell1, go_sem]
    have q1 : w1.cell? ⟨w.heap.size + 1, 1, none⟩ = some (.slice none 0 0) := by simp [hcell1, go_sem]
    have q2 : w1.cell? ⟨w.heap.size + 1, 2, none⟩ = some (.bool false) := by simp [hcell1, go_sem]
    have q3 : w1.cell? ⟨w.heap.size + 1, 3, none⟩ = some (.slice none 0 0) := by simp [hcell1, go_sem]
    have q4 : w1.cell? ⟨w.heap.size + 1, 4, none⟩ = some (.int .i64 0) := by simp [hcell1, go_sem]
    refine bodyPost_ret (v := .tuple #[.agg #[.bool false, .slice none 0 0, .bool false, .slice none 0 0, .int .i64 0], .int .i64 2]) (by simp [results, Try.results20, go_sem, q0, q1, q2, q3, q4]) rfl ⟨⟨false, none, 0, 0, false, none, 0, 0, 0⟩, rfl, rfl, zeroSp _ _, ?_⟩
    exact set5 (bthen (bl3 _ _ _ _) hb1) (Nat.le_succ _) _ _ _ _ _
  · have HF2 := hide f2
    have hc' : (chkE s d e != 0) = false := by rw [unhide HC, f2]; rfl
    rw [f2, f3, f3, f3]
    clear f2 f3
    go_enter Try.func20, Try.ntmps20
    go_wp2_with fail
    refine (checkSpan_any s d e _ (hdig.below (bl3 _ _ _ _))).mono ?_
    rintro r w1 ⟨rfl, hb1⟩
    obtain ⟨hsz1, hcell1, hfz1⟩ := near (w.heap.size + 1 + 1 + 1) (by simp) hb1
    go_wp2_with fail
    have q0 : w1.cell? ⟨w.heap.size + 1, 0, none⟩ = some (.bool false) := by simp [hcell1, go_sem]
    have q1 : w1.cell? ⟨w.heap.size + 1, 1, none⟩ = some (.slice none 0 0) := by simp [hcell1, go_sem]
    have q2 : w1.cell? ⟨w.heap.size + 1, 2, none⟩ = some (.bool false) := by simp [hcell1, go_sem]
    have q3 : w1.cell? ⟨w.heap.size + 1, 3, none⟩ = some (.slice none 0 0) := by simp [hcell1, go_sem]
    have q4 : w1.cell? ⟨w.heap.size + 1, 4, none⟩ = some (.int .i64 0) := by simp [hcell1, go_sem]
    refine bodyPost_ret (v := .tuple #[.agg #[.bool s.ln, .slice s.la s.lN s.lc, .bool s.hn, .slice s.ha s.hN s.hc, .int .i64 s.bits], .int .i64 0]) (by simp [results, Try.results20, go_sem, q0, q1, q2, q3, q4]) rfl ⟨s, rfl, rfl, ?_, ?_⟩
    · exact SpAt.put5 (hs.below (bthen (bl3 _ _ _ _) hb1)) q0 q1 q2 q3 q4 _ _ _ _ _
    · exact set5 (bthen (bl3 _ _ _ _) hb1) (Nat.le_succ _) _ _ _ _ _
end Go.Proofs.Ytgmnknmjainabaa

namespace Go.Proofs.Ytgmnknmjainabaa
set_option linter.unusedVariables false
set_option linter.unusedSimpArgs false
set_option linter.unnecessarySimpa false
open Go.RowKit
attribute [local go_sem ↓] Go.wp_at_zero Go.wp_at_succ

set_option maxRecDepth 100000 in
set_option maxHeartbeats 2000000 in
theorem ceilDown_z (neg : Bool) (a : Option Addr) (n cap k1 : Nat) (k x : Int) (w : World) (h1 : IntAt w neg a n cap k1 x) (hk1 : k1 ≤ 900000000) (hk0 : -1000000000 ≤ k) (hk : k ≤ 1000000000) :
    Calls Try.prog 125 #[.agg #[.bool neg, .slice a n cap], .int .i64 k] w fun r w' =>
      ∃ neg' a' n' cap', r = .returned (.agg #[.bool neg', .slice a' n' cap']) ∧ IntAt w' neg' a' n' cap' ((-k).toNat / 16 + k1 + 5) (-(downZ (-x) k)) ∧ Below w.heap.size w w' := by
  go_enter Try.func125, Try.ntmps125
  go_wp2_with (first
    | (go_at_call 80; have hq := hb2; refine (neg_int _ _ _ _ ((-k).toNat / 16 + k1 + 5) _ _ hint2 (by omega)).mono ?_; rintro r w3 ⟨neg3, a3, n3, c3, rfl, hint3, hb3⟩; obtain ⟨hsz3, hcell3, hfz3⟩ := near (w.heap.size + 1 + 1) hsz2 hb3)
    | (go_at_call 80; refine (neg_int _ _ _ _ k1 x _ (h1.below (bl2 _ _ _)) (by omega)).mono ?_; rintro r w1 ⟨neg1, a1, n1, c1, rfl, hint1, hb1⟩; obtain ⟨hsz1, hcell1, hfz1⟩ := near (w.heap.size + 1 + 1) (by simp) hb1)
    | (go_at_call 79; refine (down_z _ _ _ _ k1 k (-x) _ hint1 (by omega) hk0 hk).mono ?_; rintro r w2 ⟨neg2, a2, n2, c2, rfl, hint2, hb2⟩; obtain ⟨hsz2, hcell2, hfz2⟩ := near (w.heap.size + 1 + 1) hsz1 hb2))
  have h0 : w3.cell? ⟨w.heap.size + 1, 0, none⟩ = some (.bool false) := by simp [hcell3, hcell2, hcell1, go_sem]
  have h1' : w3.cell? ⟨w.heap.size + 1, 1, none⟩ = some (.slice none 0 0) := by simp [hcell3, hcell2, hcell1, go_sem]
  refine bodyPost_ret (v := .agg #[.bool neg3, .slice a3 n3 c3]) (by simp [results, Try.results125, go_sem, h0, h1']) rfl ⟨neg3, a3, n3, c3, rfl, hint3.put2 h0 h1' _ _, ?_⟩
  exact ((bthen (bthen (bthen (bl2 _ _ _) hb1) hb2) hb3).setCell (p := ⟨w.heap.size + 1, 0, none⟩) (Nat.le_succ _) _).setCell (p := ⟨w.heap.size + 1, 1, none⟩) (Nat.le_succ _) _

set_option maxRecDepth 100000 in
set_option maxHeartbeats 2000000 in
theorem corners_mul (w : World) (s t : Sp) (k : Nat) (lo hi lo' hi' : Int) (hs : SpAt w s k lo hi) (ht : SpAt w t k lo' hi') (hk : k ≤ 300000000) :
    Calls Try.prog 127 #[.agg #[.bool s.ln, .slice s.la s.lN s.lc, .bool s.hn, .slice s.ha s.hN s.hc, .int .i64 s.bits], .agg #[.bool t.ln, .slice t.la t.lN t.lc, .bool t.hn, .slice t.ha t.hN t.hc, .int .i64 t.bits], .func (.func 52) #[] #[]] w fun r w' =>
      ∃ B f, r = .returned (.slice (some ⟨B, 0, none⟩) 4 4) ∧ Nums w' B 4 (k + k) f (pr4 (lo * lo') (lo * hi') (hi * lo') (hi * hi')) ∧ Below w.heap.size w w' := by
  obtain ⟨W, hW⟩ : ∃ W, W = (w.alloc (.cells #[.bool s.ln, .slice s.la s.lN s.lc, .bool s.hn, .slice s.ha s.hN s.hc, .int .i64 s.bits] 26)).alloc (.cells #[.bool t.ln, .slice t.la t.lN t.lc, .bool t.hn, .slice t.ha t.hN t.hc, .int .i64 t.bits] 26) := ⟨_, rfl⟩
  have hBW : Below w.heap.size w W := by rw [hW]; exact bl2 _ _ _
  have a0 : SpC W w.heap.size s := by rw [hW]; exact ⟨by simp [go_sem], by simp [go_sem], by simp [go_sem], by simp [go_sem], by simp [go_sem]⟩
  have g0 : SpC W (w.heap.size + 1) t := by rw [hW]; exact ⟨by simp [go_sem], by simp [go_sem], by simp [go_sem], by simp [go_sem], by simp [go_sem]⟩
  have HS := hide (hs.below hBW)
  have HT := hide (ht.below hBW)
  have hB0 : Below W.heap.size W W.drew := (Below.refl _ _).drew
  have HK := hide (show ∀ w', Below W.heap.size W w' → (w'.cell? ⟨w.heap.size, 0, none⟩ = some (.bool s.ln) ∧ w'.cell? ⟨w.heap.size, 1, none⟩ = some (.slice s.la s.lN s.lc) ∧ w'.cell? ⟨w.heap.size, 2, none⟩ = some (.bool s.hn) ∧ w'.cell? ⟨w.heap.size, 3, none⟩ = some (.slice s.ha s.hN s.hc) ∧ w'.cell? ⟨w.heap.size + 1, 0, none⟩ = some (.bool t.ln) ∧ w'.cell? ⟨w.heap.size + 1, 1, none⟩ = some (.slice t.la t.lN t.lc) ∧ w'.cell? ⟨w.heap.size + 1, 2, none⟩ = some (.bool t.hn) ∧ w'.cell? ⟨w.heap.size + 1, 3, none⟩ = some (.slice t.ha t.hN t.hc)) from fun w' hB => by
    obtain ⟨x0, x1, x2, x3, x4⟩ := a0.below hB
    obtain ⟨y0, y1, y2, y3, y4⟩ := g0.below hB
    exact ⟨x0, x1, x2, x3, y0, y1, y2, y3⟩)
  go_enter Try.func127, Try.ntmps127
  go_wp2
  obtain ⟨x0, x1, x2, x3, x4⟩ := a0
  obtain ⟨y0, y1, y2, y3, y4⟩ := g0
  rw [← hW]
  clear hW
  go_region_held3 (fun w' => w'.cell? ⟨w.heap.size, 0, none⟩ = some (.bool s.ln) ∧ w'.cell? ⟨w.heap.size, 1, none⟩ = some (.slice s.la s.lN s.lc) ∧ w'.cell? ⟨w.heap.size, 2, none⟩ = some (.bool s.hn) ∧ w'.cell? ⟨w.heap.size, 3, none⟩ = some (.slice s.ha s.hN s.hc) ∧ w'.cell? ⟨w.heap.size + 1, 0, none⟩ = some (.bool t.ln) ∧ w'.cell? ⟨w.heap.size + 1, 1, none⟩ = some (.slice t.la t.lN t.lc) ∧ w'.cell? ⟨w.heap.size + 1, 2, none⟩ = some (.bool t.hn) ∧ w'.cell? ⟨w.heap.size + 1, 3, none⟩ = some (.slice t.ha t.hN t.hc)) (exact unhide HK _ (by first | exact hB0 | exact balloc hB4 _ | exact hB4 | exact hB3 | exact hB2 | exact hB1))
    (first
      | (go_at_call 52; have hq := hB3; refine (mul_int _ _ _ _ _ _ _ _ k k hi hi' _ ((unhide HS).hi.below hB3) ((unhide HT).hi.below hB3) (by omega) (by omega)).mono ?_; rintro r w4 ⟨neg4, a4, n4, c4, rfl, hint4, hb4⟩; have hint1 := hint1.below hb4; have hint2 := hint2.below hb4; have hint3 := hint3.below hb4; have hB4 := bthen hB3 hb4)
      | (go_at_call 52; have hq := hB2; refine (mul_int _ _ _ _ _ _ _ _ k k hi lo' _ ((unhide HS).hi.below hB2) ((unhide HT).lo.below hB2) (by omega) (by omega)).mono ?_; rintro r w3 ⟨neg3, a3, n3, c3, rfl, hint3, hb3⟩; have hint1 := hint1.below hb3; have hint2 := hint2.below hb3; have hB3 := bthen hB2 hb3)
      | (go_at_call 52; have hq := hB1; refine (mul_int _ _ _ _ _ _ _ _ k k lo hi' _ ((unhide HS).lo.below hB1) ((unhide HT).hi.below hB1) (by omega) (by omega)).mono ?_; rintro r w2 ⟨neg2, a2, n2, c2, rfl, hint2, hb2⟩; have hint1 := hint1.below hb2; have hB2 := bthen hB1 hb2)
      | (go_at_call 52; have hq := hB0; refine (mul_int _ _ _ _ _ _ _ _ k k lo lo' _ ((unhide HS).lo.below hB0) ((unhide HT).lo.below hB0) (by omega) (by omega)).mono ?_; rintro r w1 ⟨neg1, a1, n1, c1, rfl, hint1, hb1⟩; have hB1 := bthen hB0 hb1))
  go_wp2
  go_ret
  exact ⟨w4.heap.size, pr4 ⟨neg1, a1, n1, c1⟩ ⟨neg2, a2, n2, c2⟩ ⟨neg3, a3, n3, c3⟩ ⟨neg4, a4, n4, c4⟩, rfl, nums4 w4 _ rfl ⟨neg1, a1, n1, c1⟩ ⟨neg2, a2, n2, c2⟩ ⟨neg3, a3, n3, c3⟩ ⟨neg4, a4, n4, c4⟩ _ _ _ _ _ _ hint1 hint2 hint3 hint4, bthen hBW (balloc hB4 _)⟩

set_option maxRecDepth 100000 in
set_option maxHeartbeats 2000000 in
theorem wideMul_int (w : World) (s t : Sp) (k : Nat) (lo hi lo' hi' : Int) (hs : SpAt w s k lo hi) (ht : SpAt w t k lo' hi') (hk : k ≤ 300000000) (hb0 : 0 ≤ s.bits) (hbm : s.bits ≤ 1000000) :
    Calls Try.prog 86 #[.agg #[.bool s.ln, .slice s.la s.lN s.lc, .bool s.hn, .slice s.ha s.hN s.hc, .int .i64 s.bits], .agg #[.bool t.ln, .slice t.la t.lN t.lc, .bool t.hn, .slice t.ha t.hN t.hc, .int .i64 t.bits]] w (SpanAns w s.bits (k + k + 8) (downZ (leastZ (pr4 (lo * lo') (lo * hi') (hi * lo') (hi * hi')) 3) s.bits) (-(downZ (-(mostZ (pr4 (lo * lo') (lo * hi') (hi * lo') (hi * hi')) 3)) s.bits))) := by
  have hbz : (-s.bits).toNat = 0 := by omega
  have ne1 : w.heap.size ≠ w.heap.size + 1 + 1 := by omega
  have ne2 : w.heap.size + 1 + 1 ≠ w.heap.size := by omega
  obtain ⟨W, hW⟩ : ∃ W, W = ((w.alloc (.cells #[.bool s.ln, .slice s.la s.lN s.lc, .bool s.hn, .slice s.ha s.hN s.hc, .int .i64 s.bits] 26)).alloc (.cells #[.bool t.ln, .slice t.la t.lN t.lc, .bool t.hn, .slice t.ha t.hN t.hc, .int .i64 t.bits] 26)).alloc (.cells #[.bool false, .slice none 0 0, .bool false, .slice none 0 0, .int .i64 0] 26) := ⟨_, rfl⟩
  have hBW : Below w.heap.size w W := by rw [hW]; exact bl3 _ _ _ _
  have a0 : SpC W w.heap.size s := by rw [hW]; exact ⟨by simp [go_sem], by simp [go_sem], by simp [go_sem], by simp [go_sem], by simp [go_sem]⟩
  have g0 : SpC W (w.heap.size + 1) t := by rw [hW]; exact ⟨by simp [go_sem], by simp [go_sem], by simp [go_sem], by simp [go_sem], by simp [go_sem]⟩
  have r0 : NoC W (w.heap.size + 1 + 1) := by rw [hW]; exact ⟨by simp [go_sem], by simp [go_sem], by simp [go_sem], by simp [go_sem], by simp [go_sem], fun o => by simp [go_sem]⟩
  have HS := hide (hs.below hBW)
  have HT := hide (ht.below hBW)
  have hB0 : Below W.heap.size W W.drew := (Below.refl _ _).drew
  have HK := hide (show ∀ w', Below W.heap.size W w' → (w'.cell? ⟨w.heap.size, 0, none⟩ = some (.bool s.ln) ∧ w'.cell? ⟨w.heap.size, 1, none⟩ = some (.slice s.la s.lN s.lc) ∧ w'.cell? ⟨w.heap.size, 2, none⟩ = some (.bool s.hn) ∧ w'.cell? ⟨w.heap.size, 3, none⟩ = some (.slice s.ha s.hN s.hc) ∧ w'.cell? ⟨w.heap.size + 1, 0, none⟩ = some (.bool t.ln) ∧ w'.cell? ⟨w.heap.size + 1, 1, none⟩ = some (.slice t.la t.lN t.lc) ∧ w'.cell? ⟨w.heap.size + 1, 2, none⟩ = some (.bool t.hn) ∧ w'.cell? ⟨w.heap.size + 1, 3, none⟩ = some (.slice t.ha t.hN t.hc)) from fun w' hB => by
    obtain ⟨x0, x1, x2, x3, x4⟩ := a0.below hB
    obtain ⟨y0, y1, y2, y3, y4⟩ := g0.below hB
    exact ⟨x0, x1, x2, x3, y0, y1, y2, y3⟩)
  go_enter Try.func86, Try.ntmps86
  go_wp2_with fail
  rw [← hW]
  clear hW
  refine (corners_mul _ s t k lo hi lo' hi' (unhide HS) (unhide HT) hk).mono ?_
  rintro r w1 ⟨B, f, rfl, hN, hb1⟩
  have hN1 := r0.below hb1
  have hl1 := hN1.lt
  obtain ⟨x0, x1, x2, x3, x4⟩ := a0.below hb1
  have a1 : SpC w1 w.heap.size s := ⟨x0, x1, x2, x3, x4⟩
  have HK1 := hide (show ∀ w', Below w1.heap.size w1 w' → w'.cell? ⟨w.heap.size, 4, none⟩ = some (.int .i64 s.bits) from fun w' hB => (a1.below hB).c4)
  have hD0 : Below w1.heap.size w1 w1.drew := (Below.refl _ _).drew
  clear x0 x1 x2 x3
  go_wp2_with fail
  go_region_held3 (fun w' => w'.cell? ⟨w.heap.size, 4, none⟩ = some (.int .i64 s.bits)) (first | exact unhide HK1 _ (by first | exact hD0 | exact hD5 | exact hD4 | exact hD3 | exact hD2) | go_keep)
    (first
      | (go_at_call 88; refine (leastw_int _ 3 _ (k + k) f _ _ (hN.below hD0) (by omega) (by omega)).mono ?_; rintro r w2 ⟨neg2, a2, n2, c2, rfl, hint2, hb2⟩; have hD2 := bthen hD0 hb2)
      | (go_at_call 79; refine (down_z _ _ _ _ (k + k + 1) s.bits _ _ hint2 (by omega) (by omega) (by omega)).mono ?_; rintro r w3 ⟨neg3, a3, n3, c3, rfl, hint3, hb3⟩; have hD3 := bthen hD2 hb3)
      | (go_at_call 89; refine (most_int _ 3 _ (k + k) f _ _ (hN.below hD3) (by omega) (by omega)).mono ?_; rintro r w4 ⟨neg4, a4, n4, c4, rfl, hint4, hb4⟩; have hint3 := hint3.below hb4; have hD4 := bthen hD3 hb4)
      | (go_at_call 125; refine (ceilDown_z _ _ _ _ (k + k + 1) s.bits _ _ hint4 (by omega) (by omega) (by omega)).mono ?_; rintro r w5 ⟨neg5, a5, n5, c5, rfl, hint5, hb5⟩; have hint3 := hint3.below hb5; have hD5 := bthen hD4 hb5; obtain ⟨q0, q1, q2, q3, q4, q5⟩ := hN1.below hD5; have x5 := unhide HK1 _ hD5))
  go_wp2
  refine bodyPost_ret (v := .agg #[.bool neg3, .slice a3 n3 c3, .bool neg5, .slice a5 n5 c5, .int .i64 s.bits]) (by simp [results, Try.results86, go_sem, q0, q1, q2, q3, q4]) rfl ⟨⟨neg3, a3, n3, c3, neg5, a5, n5, c5, s.bits⟩, rfl, rfl, ?_, ?_⟩
  · exact SpAt.put5 ⟨hint3.mono (by omega), hint5.mono (by omega)⟩ q0 q1 q2 q3 q4 _ _ _ _ _
  · exact set5 (bthen (bthen hBW hb1) hD5) (by omega) _ _ _ _ _
end Go.Proofs.Ytgmnknmjainabaa

namespace Go.Proofs.Ytgmnknmjainabaa
set_option linter.unusedVariables false
set_option linter.unusedSimpArgs false
set_option linter.unnecessarySimpa false
open Go.RowKit
attribute [local go_sem ↓] Go.wp_at_zero Go.wp_at_succ

set_option maxRecDepth 100000 in
set_option maxHeartbeats 2000000 in
theorem sub1_int (w : World) (B0 B1 : Nat) (s t : Sp) (k : Nat) (lo hi lo' hi' : Int) (hs : SpAt w s k lo hi) (ht : SpAt w t k lo' hi') (hk : k ≤ 300000000) (a : SpC w B0 s) (g : SpC w B1 t) :
    Calls Try.prog 83 #[.pointer (some ⟨B0, 0, none⟩), .pointer (some ⟨B1, 0, none⟩)] w (PairAns w s.bits (k + 1) (lo - hi') (hi - lo') 0) := by
  have l0 := a.lt
  have l1 := g.lt
  obtain ⟨a0, a1, a2, a3, a4⟩ := a
  obtain ⟨b0, b1, b2, b3, b4⟩ := g
  go_enter Try.func83, Try.ntmps83
  go_wp2_with fail
  refine (wideSub_int _ s t k lo hi lo' hi' (hs.below (bl1 _ _)) (ht.below (bl1 _ _)) (by omega)).mono ?_
  rintro r w1 ⟨u, rfl, hub, hup, hb1⟩
  obtain ⟨q0, q1, q2, q3, q4, q5⟩ := (noc_new w 26).below hb1
  have HB := hide hub
  clear hub
  go_wp2_with fail
  refine bodyPost_ret (v := .tuple #[.agg #[.bool u.ln, .slice u.la u.lN u.lc, .bool u.hn, .slice u.ha u.hN u.hc, .int .i64 u.bits], .int .i64 0]) (by simp [results, Try.results83, go_sem, q0, q1, q2, q3, q4]) rfl ⟨u, rfl, unhide HB, ?_, ?_⟩
  · exact SpAt.put5 hup q0 q1 q2 q3 q4 _ _ _ _ _
  · exact set5 (bthen (bl1 _ _) hb1) (Nat.le_refl _) _ _ _ _ _

set_option maxRecDepth 100000 in
set_option maxHeartbeats 2000000 in
theorem mul1_int (w : World) (B0 B1 : Nat) (s t : Sp) (k : Nat) (lo hi lo' hi' : Int) (hs : SpAt w s k lo hi) (ht : SpAt w t k lo' hi') (hk : k ≤ 300000000) (hb0 : 0 ≤ s.bits) (hbm : s.bits ≤ 1000000) (a : SpC w B0 s) (g : SpC w B1 t) :
    Calls Try.prog 85 #[.pointer (some ⟨B0, 0, none⟩), .pointer (some ⟨B1, 0, none⟩)] w (PairAns w s.bits (k + k + 8) (downZ (leastZ (pr4 (lo * lo') (lo * hi') (hi * lo') (hi * hi')) 3) s.bits) (-(downZ (-(mostZ (pr4 (lo * lo') (lo * hi') (hi * lo') (hi * hi')) 3)) s.bits)) 0) := by
  have l0 := a.lt
  have l1 := g.lt
  obtain ⟨a0, a1, a2, a3, a4⟩ := a
  obtain ⟨b0, b1, b2, b3, b4⟩ := g
  go_enter Try.func85, Try.ntmps85
  go_wp2_with fail
  refine (wideMul_int _ s t k lo hi lo' hi' (hs.below (bl1 _ _)) (ht.below (bl1 _ _)) hk hb0 hbm).mono ?_
  rintro r w1 ⟨u, rfl, hub, hup, hb1⟩
  obtain ⟨q0, q1, q2, q3, q4, q5⟩ := (noc_new w 26).below hb1
  have HB := hide hub
  clear hub
  go_wp2_with fail
  refine bodyPost_ret (v := .tuple #[.agg #[.bool u.ln, .slice u.la u.lN u.lc, .bool u.hn, .slice u.ha u.hN u.hc, .int .i64 u.bits], .int .i64 0]) (by simp [results, Try.results85, go_sem, q0, q1, q2, q3, q4]) rfl ⟨u, rfl, unhide HB, ?_, ?_⟩
  · exact SpAt.put5 hup q0 q1 q2 q3 q4 _ _ _ _ _
  · exact set5 (bthen (bl1 _ _) hb1) (Nat.le_refl _) _ _ _ _ _
end Go.Proofs.Ytgmnknmjainabaa
