/-
  What span.made answers, for each way that is handed to it, and what span.Add and its like answer of whatever spans; they leave old memory alone.
-/
import Derived.Test.YtibbhnmbmgllcaaMade
namespace Go.Proofs.Ytibbhnmbmgllcaa
set_option linter.unusedVariables false
set_option linter.unusedSimpArgs false
set_option linter.unnecessarySimpa false
open Go.RowKit
attribute [local go_sem ↓] Go.wp_at_zero Go.wp_at_succ


set_option maxRecDepth 100000 in
set_option maxHeartbeats 2000000 in
theorem made_bad_Root (p1 : Value) (B : Nat) (W : World) (f : Nat → Sp) (d e : Nat → Nat → Int) (n cap : Nat) (hn : n ≤ 1000) (hS : Spans W B n f d e) (E : Int) (h0 : ∀ z, Flt (fun j => chkE (f j) (d j) (e j)) (fun j => (f j).bits) n z → z = E) (hE : E ≠ 0) (k : Nat) :
    Calls Try.prog 72 #[.func (.func 95) #[] #[p1], .slice (some ⟨B, 0, none⟩) n cap] W (PairAns W 0 k 0 0 E) := by
  have HZ := hide h0
  have HS := hide hS
  have hE' : (E != 0) = true := by simpa using hE
  clear h0 hS hE
  go_enter Try.func72, Try.ntmps72
  go_wp2_with fail
  refine (fault_any _ _ _ f d e _ ((unhide HS).below (bl1 _ _)) hn).mono ?_
  rintro r w1 ⟨z, rfl, hz, hb1'⟩
  have hz0 := unhide HZ z hz
  subst hz0
  obtain ⟨q0, q1, q2, q3, q4, q5⟩ := (noc_new W 26).below hb1'
  have hB1 : Below W.heap.size W w1 := bthen (bl1 _ _) hb1'
  clear hz
  go_wp2_with fail
  refine bodyPost_ret (v := .tuple #[.agg #[.bool false, .slice none 0 0, .bool false, .slice none 0 0, .int .i64 0], .int .i64 z]) (by simp [results, Try.results72, go_sem, q0, q1, q2, q3, q4]) rfl ⟨⟨false, none, 0, 0, false, none, 0, 0, 0⟩, rfl, rfl, zeroSp _ _, ?_⟩
  exact set5 hB1 (Nat.le_refl _) _ _ _ _ _

set_option maxRecDepth 100000 in
set_option maxHeartbeats 2000000 in
theorem made_err_Root (p1 : Value) (B : Nat) (W : World) (f : Nat → Sp) (d e : Nat → Nat → Int) (n cap : Nat) (hn : n ≤ 1000) (hS : Spans W B n f d e) (h0 : ∀ z, Flt (fun j => chkE (f j) (d j) (e j)) (fun j => (f j).bits) n z → z = 0) (b : Int) (k : Nat) (lo hi er : Int) (her : er ≠ 0)
    (hF : ∀ w', Below W.heap.size W w' → Calls Try.prog 95 #[p1] w' (PairAns w' b k lo hi er)) :
    Calls Try.prog 72 #[.func (.func 95) #[] #[p1], .slice (some ⟨B, 0, none⟩) n cap] W (PairAns W 0 k 0 0 er) := by
  have HF := hide hF
  have HZ := hide h0
  have HS := hide hS
  have hE' : (er != 0) = true := by simpa using her
  clear hF h0 hS her
  go_enter Try.func72, Try.ntmps72
  go_wp2_with fail
  refine (fault_any _ _ _ f d e _ ((unhide HS).below (bl1 _ _)) hn).mono ?_
  rintro r w1 ⟨z, rfl, hz, hb1'⟩
  have hz0 := unhide HZ z hz
  subst hz0
  have hN1 := (noc_new W 26).below hb1'
  have hB1 : Below W.heap.size W w1 := bthen (bl1 _ _) hb1'
  clear hz
  go_wp2_with fail
  refine (unhide HF _ hB1).mono ?_
  rintro r w2 ⟨s, rfl, hsb, hsp, hb3⟩
  have hB2 := bthen hB1 hb3
  have hN2 := hN1.below hb3
  have hlt := hN2.lt
  obtain ⟨q0, q1, q2, q3, q4, q5⟩ := hN2
  have HB := hide hsb
  clear hsb hb1'
  go_wp2_with fail
  refine bodyPost_ret (v := .tuple #[.agg #[.bool false, .slice none 0 0, .bool false, .slice none 0 0, .int .i64 0], .int .i64 er]) (by simp [results, Try.results72, go_sem, hlt, q0, q1, q2, q3, q4]) rfl ⟨⟨false, none, 0, 0, false, none, 0, 0, 0⟩, rfl, rfl, zeroSp _ _, ?_⟩
  first | with_reducible exact set5 (balloc hB2 _) (Nat.le_refl _) _ _ _ _ _ | with_reducible exact balloc (set5 hB2 (Nat.le_refl _) _ _ _ _ _) _

set_option maxRecDepth 100000 in
set_option maxHeartbeats 2000000 in
theorem made_fit_Root (p1 : Value) (B : Nat) (W : World) (f : Nat → Sp) (d e : Nat → Nat → Int) (n cap : Nat) (hn : n ≤ 1000) (hS : Spans W B n f d e) (h0 : ∀ z, Flt (fun j => chkE (f j) (d j) (e j)) (fun j => (f j).bits) n z → z = 0) (b : Int) (k : Nat) (lo hi : Int)
    (hF : ∀ w', Below W.heap.size W w' → Calls Try.prog 95 #[p1] w' (PairAns w' b k lo hi 0)) (hle : lo ≤ hi) (hb1 : 1 ≤ b) (hb2 : b ≤ 120) :
    Calls Try.prog 72 #[.func (.func 95) #[] #[p1], .slice (some ⟨B, 0, none⟩) n cap] W (PairAns W (fitZ lo hi b) k (fitZ lo hi lo) (fitZ lo hi hi) (fitE lo hi)) := by
  have HF := hide hF
  have HZ := hide h0
  have HS := hide hS
  clear hF h0 hS
  go_enter Try.func72, Try.ntmps72
  go_wp2_with fail
  refine (fault_any _ _ _ f d e _ ((unhide HS).below (bl1 _ _)) hn).mono ?_
  rintro r w1 ⟨z, rfl, hz, hb1'⟩
  have hz0 := unhide HZ z hz
  subst hz0
  have hN1 := (noc_new W 26).below hb1'
  have hB1 : Below W.heap.size W w1 := bthen (bl1 _ _) hb1'
  clear hz
  go_wp2_with fail
  refine (unhide HF _ hB1).mono ?_
  rintro r w2 ⟨s, rfl, hsb, hsp, hb3⟩
  have hB2 := bthen hB1 hb3
  have hN2 := hN1.below hb3
  have hlt := hN2.lt
  obtain ⟨dd, ee, hdig, hchk⟩ := chk_fit hsp hle (by omega) (by omega)
  obtain ⟨q0, q1, q2, q3, q4, q5⟩ := hN2
  have HB := hide hsb
  have HC := hide hchk
  clear hsb hb1' hchk
  go_wp2_with fail
  refine (fit_any _ s dd ee (hdig.below (bl1 _ _))).mono ?_
  rintro r w3 ⟨hr, hb4⟩
  have hB3 : Below w2.heap.size w2 w3 := bthen (bl1 _ _) hb4
  have hN3 := (NoC.mk q0 q1 q2 q3 q4 q5).below hB3
  obtain ⟨t0, t1, t2, t3, t4, t5⟩ := hN3
  have hr' : ∃ u : Sp, r = .returned (.tuple #[.agg #[.bool u.ln, .slice u.la u.lN u.lc, .bool u.hn, .slice u.ha u.hN u.hc, .int .i64 u.bits], .int .i64 (fitE lo hi)]) ∧ u.bits = fitZ lo hi b ∧ SpAt w3 u k (fitZ lo hi lo) (fitZ lo hi hi) := by
    have hc := unhide HC
    rcases fit_cases lo hi with ⟨_, f2, f3⟩ | ⟨_, f2, f3⟩
    · rcases hr with ⟨h1, h⟩ | ⟨h1, h⟩
      · omega
      · refine ⟨⟨false, none, 0, 0, false, none, 0, 0, 0⟩, by rw [h, hc], by rw [f3], ?_⟩
        rw [f3, f3]; exact zeroSp _ _
    · rcases hr with ⟨h1, h⟩ | ⟨h1, h⟩
      · refine ⟨s, by rw [h, f2], by rw [f3]; exact unhide HB, ?_⟩
        rw [f3, f3]; exact hsp.below hB3
      · omega
  obtain ⟨u, hru, hub, hup⟩ := hr'
  clear hr
  rw [hru]
  clear hru
  have HU := hide hub
  clear hub
  have hB9 := bthen hB2 hB3
  generalize fitE lo hi = er at *
  go_wp2_with fail
  refine bodyPost_ret (v := .tuple #[.agg #[.bool u.ln, .slice u.la u.lN u.lc, .bool u.hn, .slice u.ha u.hN u.hc, .int .i64 u.bits], .int .i64 er]) (by simp [results, Try.results72, go_sem, t0, t1, t2, t3, t4]) rfl ⟨u, rfl, unhide HU, ?_, ?_⟩
  · exact SpAt.putN hup ⟨t0, t1, t2, t3, t4, t5⟩ _ _ _ _ _
  · exact set5 hB9 (Nat.le_refl _) _ _ _ _ _

set_option maxRecDepth 100000 in
set_option maxHeartbeats 2000000 in
theorem made_bad_To (p1 p2 : Value) (B : Nat) (W : World) (f : Nat → Sp) (d e : Nat → Nat → Int) (n cap : Nat) (hn : n ≤ 1000) (hS : Spans W B n f d e) (E : Int) (h0 : ∀ z, Flt (fun j => chkE (f j) (d j) (e j)) (fun j => (f j).bits) n z → z = E) (hE : E ≠ 0) (k : Nat) :
    Calls Try.prog 72 #[.func (.func 73) #[] #[p1, p2], .slice (some ⟨B, 0, none⟩) n cap] W (PairAns W 0 k 0 0 E) := by
  have HZ := hide h0
  have HS := hide hS
  have hE' : (E != 0) = true := by simpa using hE
  clear h0 hS hE
  go_enter Try.func72, Try.ntmps72
  go_wp2_with fail
  refine (fault_any _ _ _ f d e _ ((unhide HS).below (bl1 _ _)) hn).mono ?_
  rintro r w1 ⟨z, rfl, hz, hb1'⟩
  have hz0 := unhide HZ z hz
  subst hz0
  obtain ⟨q0, q1, q2, q3, q4, q5⟩ := (noc_new W 26).below hb1'
  have hB1 : Below W.heap.size W w1 := bthen (bl1 _ _) hb1'
  clear hz
  go_wp2_with fail
  refine bodyPost_ret (v := .tuple #[.agg #[.bool false, .slice none 0 0, .bool false, .slice none 0 0, .int .i64 0], .int .i64 z]) (by simp [results, Try.results72, go_sem, q0, q1, q2, q3, q4]) rfl ⟨⟨false, none, 0, 0, false, none, 0, 0, 0⟩, rfl, rfl, zeroSp _ _, ?_⟩
  exact set5 hB1 (Nat.le_refl _) _ _ _ _ _

set_option maxRecDepth 100000 in
set_option maxHeartbeats 2000000 in
theorem made_err_To (p1 p2 : Value) (B : Nat) (W : World) (f : Nat → Sp) (d e : Nat → Nat → Int) (n cap : Nat) (hn : n ≤ 1000) (hS : Spans W B n f d e) (h0 : ∀ z, Flt (fun j => chkE (f j) (d j) (e j)) (fun j => (f j).bits) n z → z = 0) (b : Int) (k : Nat) (lo hi er : Int) (her : er ≠ 0)
    (hF : ∀ w', Below W.heap.size W w' → Calls Try.prog 73 #[p1, p2] w' (PairAns w' b k lo hi er)) :
    Calls Try.prog 72 #[.func (.func 73) #[] #[p1, p2], .slice (some ⟨B, 0, none⟩) n cap] W (PairAns W 0 k 0 0 er) := by
  have HF := hide hF
  have HZ := hide h0
  have HS := hide hS
  have hE' : (er != 0) = true := by simpa using her
  clear hF h0 hS her
  go_enter Try.func72, Try.ntmps72
  go_wp2_with fail
  refine (fault_any _ _ _ f d e _ ((unhide HS).below (bl1 _ _)) hn).mono ?_
  rintro r w1 ⟨z, rfl, hz, hb1'⟩
  have hz0 := unhide HZ z hz
  subst hz0
  have hN1 := (noc_new W 26).below hb1'
  have hB1 : Below W.heap.size W w1 := bthen (bl1 _ _) hb1'
  clear hz
  go_wp2_with fail
  refine (unhide HF _ hB1).mono ?_
  rintro r w2 ⟨s, rfl, hsb, hsp, hb3⟩
  have hB2 := bthen hB1 hb3
  have hN2 := hN1.below hb3
  have hlt := hN2.lt
  obtain ⟨q0, q1, q2, q3, q4, q5⟩ := hN2
  have HB := hide hsb
  clear hsb hb1'
  go_wp2_with fail
  refine bodyPost_ret (v := .tuple #[.agg #[.bool false, .slice none 0 0, .bool false, .slice none 0 0, .int .i64 0], .int .i64 er]) (by simp [results, Try.results72, go_sem, hlt, q0, q1, q2, q3, q4]) rfl ⟨⟨false, none, 0, 0, false, none, 0, 0, 0⟩, rfl, rfl, zeroSp _ _, ?_⟩
  first | with_reducible exact set5 (balloc hB2 _) (Nat.le_refl _) _ _ _ _ _ | with_reducible exact balloc (set5 hB2 (Nat.le_refl _) _ _ _ _ _) _

set_option maxRecDepth 100000 in
set_option maxHeartbeats 2000000 in
theorem made_fit_To (p1 p2 : Value) (B : Nat) (W : World) (f : Nat → Sp) (d e : Nat → Nat → Int) (n cap : Nat) (hn : n ≤ 1000) (hS : Spans W B n f d e) (h0 : ∀ z, Flt (fun j => chkE (f j) (d j) (e j)) (fun j => (f j).bits) n z → z = 0) (b : Int) (k : Nat) (lo hi : Int)
    (hF : ∀ w', Below W.heap.size W w' → Calls Try.prog 73 #[p1, p2] w' (PairAns w' b k lo hi 0)) (hle : lo ≤ hi) (hb1 : 1 ≤ b) (hb2 : b ≤ 120) :
    Calls Try.prog 72 #[.func (.func 73) #[] #[p1, p2], .slice (some ⟨B, 0, none⟩) n cap] W (PairAns W (fitZ lo hi b) k (fitZ lo hi lo) (fitZ lo hi hi) (fitE lo hi)) := by
  have HF := hide hF
  have HZ := hide h0
  have HS := hide hS
  clear hF h0 hS
  go_enter Try.func72, Try.ntmps72
  go_wp2_with fail
  refine (fault_any _ _ _ f d e _ ((unhide HS).below (bl1 _ _)) hn).mono ?_
  rintro r w1 ⟨z, rfl, hz, hb1'⟩
  have hz0 := unhide HZ z hz
  subst hz0
  have hN1 := (noc_new W 26).below hb1'
  have hB1 : Below W.heap.size W w1 := bthen (bl1 _ _) hb1'
  clear hz
  go_wp2_with fail
  refine (unhide HF _ hB1).mono ?_
  rintro r w2 ⟨s, rfl, hsb, hsp, hb3⟩
  have hB2 := bthen hB1 hb3
  have hN2 := hN1.below hb3
  have hlt := hN2.lt
  obtain ⟨dd, ee, hdig, hchk⟩ := chk_fit hsp hle (by omega) (by omega)
  obtain ⟨q0, q1, q2, q3, q4, q5⟩ := hN2
  have HB := hide hsb
  have HC := hide hchk
  clear hsb hb1' hchk
  go_wp2_with fail
  refine (fit_any _ s dd ee (hdig.below (bl1 _ _))).mono ?_
  rintro r w3 ⟨hr, hb4⟩
  have hB3 : Below w2.heap.size w2 w3 := bthen (bl1 _ _) hb4
  have hN3 := (NoC.mk q0 q1 q2 q3 q4 q5).below hB3
  obtain ⟨t0, t1, t2, t3, t4, t5⟩ := hN3
  have hr' : ∃ u : Sp, r = .returned (.tuple #[.agg #[.bool u.ln, .slice u.la u.lN u.lc, .bool u.hn, .slice u.ha u.hN u.hc, .int .i64 u.bits], .int .i64 (fitE lo hi)]) ∧ u.bits = fitZ lo hi b ∧ SpAt w3 u k (fitZ lo hi lo) (fitZ lo hi hi) := by
    have hc := unhide HC
    rcases fit_cases lo hi with ⟨_, f2, f3⟩ | ⟨_, f2, f3⟩
    · rcases hr with ⟨h1, h⟩ | ⟨h1, h⟩
      · omega
      · refine ⟨⟨false, none, 0, 0, false, none, 0, 0, 0⟩, by rw [h, hc], by rw [f3], ?_⟩
        rw [f3, f3]; exact zeroSp _ _
    · rcases hr with ⟨h1, h⟩ | ⟨h1, h⟩
      · refine ⟨s, by rw [h, f2], by rw [f3]; exact unhide HB, ?_⟩
        rw [f3, f3]; exact hsp.below hB3
      · omega
  obtain ⟨u, hru, hub, hup⟩ := hr'
  clear hr
  rw [hru]
  clear hru
  have HU := hide hub
  clear hub
  have hB9 := bthen hB2 hB3
  generalize fitE lo hi = er at *
  go_wp2_with fail
  refine bodyPost_ret (v := .tuple #[.agg #[.bool u.ln, .slice u.la u.lN u.lc, .bool u.hn, .slice u.ha u.hN u.hc, .int .i64 u.bits], .int .i64 er]) (by simp [results, Try.results72, go_sem, t0, t1, t2, t3, t4]) rfl ⟨u, rfl, unhide HU, ?_, ?_⟩
  · exact SpAt.putN hup ⟨t0, t1, t2, t3, t4, t5⟩ _ _ _ _ _
  · exact set5 hB9 (Nat.le_refl _) _ _ _ _ _

theorem flt_one {s : Sp} {d e : Nat → Int} {z : Int} (hz : Flt (fun _ => chkE s d e) (fun _ => s.bits) 1 z) : z = chkE s d e := flt1 hz

set_option maxRecDepth 100000 in
set_option maxHeartbeats 2000000 in
theorem span1_Root (w : World) (s : Sp) (d e : Nat → Int) (hs : SpDig w s d e) (b' : Int) (k : Nat) (lo hi er : Int)
    (hM : ∀ (W : World) (B0 B cap : Nat), Below w.heap.size w W → SpC W B0 s → Spans W B 1 (fun _ => s) (fun _ => d) (fun _ => e) → Calls Try.prog 72 #[.func (.func 95) #[] #[.pointer (some ⟨B0, 0, none⟩)], .slice (some ⟨B, 0, none⟩) 1 cap] W (PairAns W b' k lo hi er)) :
    Calls Try.prog 38 #[.agg #[.bool s.ln, .slice s.la s.lN s.lc, .bool s.hn, .slice s.ha s.hN s.hc, .int .i64 s.bits]] w (PairAns w b' k lo hi er) := by
  have HM := hide hM
  have HS := hide (fun W hS => spans1 W s d e 26 hS)
  clear hM
  go_enter Try.func38, Try.ntmps38
  go_wp2_with fail
  obtain ⟨W, hW⟩ : ∃ W, W = (w.alloc (.cells #[.bool s.ln, .slice s.la s.lN s.lc, .bool s.hn, .slice s.ha s.hN s.hc, .int .i64 s.bits] 26)).alloc (.cells #[.bool false, .slice none 0 0, .bool false, .slice none 0 0, .int .i64 0] 26) := ⟨_, rfl⟩
  have s3 : W.heap.size = w.heap.size + 1 + 1 := by rw [hW]; simp
  have hBW : Below w.heap.size w W := by rw [hW]; exact bl2 _ _ _
  have a0 : SpC W w.heap.size s := by rw [hW]; exact ⟨by simp [go_sem], by simp [go_sem], by simp [go_sem], by simp [go_sem], by simp [go_sem]⟩
  have r0 : NoC W (w.heap.size + 1) := by rw [hW]; exact ⟨by simp [go_sem], by simp [go_sem], by simp [go_sem], by simp [go_sem], by simp [go_sem], fun o => by simp [go_sem]⟩
  rw [← hW, ← s3]
  clear hW
  refine (unhide HM _ _ _ _ (bthen hBW (bl1 _ _)) (a0.below (bl1 _ _)) (unhide HS W (hs.below hBW))).mono ?_
  rintro r w1 ⟨u, rfl, hub, hup, hb1⟩
  have hB1 : Below W.heap.size W w1 := bthen (bl1 _ _) hb1
  obtain ⟨q0, q1, q2, q3, q4, q5⟩ := r0.below hB1
  have HB := hide hub
  clear hub
  go_wp2_with fail
  refine bodyPost_ret (v := .tuple #[.agg #[.bool u.ln, .slice u.la u.lN u.lc, .bool u.hn, .slice u.ha u.hN u.hc, .int .i64 u.bits], .int .i64 er]) (by simp [results, Try.results38, go_sem, q0, q1, q2, q3, q4]) rfl ⟨u, rfl, unhide HB, ?_, ?_⟩
  · exact SpAt.put5 hup q0 q1 q2 q3 q4 _ _ _ _ _
  · exact set5 (bthen hBW hB1) (by omega) _ _ _ _ _

set_option maxRecDepth 100000 in
set_option maxHeartbeats 2000000 in
theorem span1_To (w : World) (s : Sp) (bt : Int) (d e : Nat → Int) (hs : SpDig w s d e) (b' : Int) (k : Nat) (lo hi er : Int)
    (hM : ∀ (W : World) (B0 B1 B cap : Nat), Below w.heap.size w W → SpC W B0 s → W.cell? ⟨B1, 0, none⟩ = some (.int .i64 bt) → B1 < W.heap.size → Spans W B 1 (fun _ => s) (fun _ => d) (fun _ => e) → Calls Try.prog 72 #[.func (.func 73) #[] #[.pointer (some ⟨B1, 0, none⟩), .pointer (some ⟨B0, 0, none⟩)], .slice (some ⟨B, 0, none⟩) 1 cap] W (PairAns W b' k lo hi er)) :
    Calls Try.prog 16 #[.agg #[.bool s.ln, .slice s.la s.lN s.lc, .bool s.hn, .slice s.ha s.hN s.hc, .int .i64 s.bits], .int .i64 bt] w (PairAns w b' k lo hi er) := by
  have HM := hide hM
  have HS := hide (fun W hS => spans1 W s d e 26 hS)
  clear hM
  go_enter Try.func16, Try.ntmps16
  go_wp2_with fail
  obtain ⟨W, hW⟩ : ∃ W, W = ((w.alloc (.cells #[.bool s.ln, .slice s.la s.lN s.lc, .bool s.hn, .slice s.ha s.hN s.hc, .int .i64 s.bits] 26)).alloc (.cells #[.int .i64 bt] 3)).alloc (.cells #[.bool false, .slice none 0 0, .bool false, .slice none 0 0, .int .i64 0] 26) := ⟨_, rfl⟩
  have s3 : W.heap.size = w.heap.size + 1 + 1 + 1 := by rw [hW]; simp
  have hBW : Below w.heap.size w W := by rw [hW]; exact bl3 _ _ _ _
  have a0 : SpC W w.heap.size s := by rw [hW]; exact ⟨by simp [go_sem], by simp [go_sem], by simp [go_sem], by simp [go_sem], by simp [go_sem]⟩
  have g0 : W.cell? ⟨w.heap.size + 1, 0, none⟩ = some (.int .i64 bt) := by rw [hW]; simp [go_sem]
  have g1 : w.heap.size + 1 < W.heap.size := by omega
  have r0 : NoC W (w.heap.size + 1 + 1) := by rw [hW]; exact ⟨by simp [go_sem], by simp [go_sem], by simp [go_sem], by simp [go_sem], by simp [go_sem], fun o => by simp [go_sem]⟩
  rw [← hW, ← s3]
  clear hW
  refine (unhide HM _ _ _ _ _ (bthen hBW (bl1 _ _)) (a0.below (bl1 _ _)) (((bl1 _ _).cell (p := ⟨w.heap.size + 1, 0, none⟩) g1).trans g0) (Nat.lt_of_lt_of_le g1 (bl1 _ _).size) (unhide HS W (hs.below hBW))).mono ?_
  rintro r w1 ⟨u, rfl, hub, hup, hb1⟩
  have hB1 : Below W.heap.size W w1 := bthen (bl1 _ _) hb1
  obtain ⟨q0, q1, q2, q3, q4, q5⟩ := r0.below hB1
  have HB := hide hub
  clear hub
  go_wp2_with fail
  refine bodyPost_ret (v := .tuple #[.agg #[.bool u.ln, .slice u.la u.lN u.lc, .bool u.hn, .slice u.ha u.hN u.hc, .int .i64 u.bits], .int .i64 er]) (by simp [results, Try.results16, go_sem, q0, q1, q2, q3, q4]) rfl ⟨u, rfl, unhide HB, ?_, ?_⟩
  · exact SpAt.put5 hup q0 q1 q2 q3 q4 _ _ _ _ _
  · exact set5 (bthen hBW hB1) (by omega) _ _ _ _ _
end Go.Proofs.Ytibbhnmbmgllcaa
