/-
  What span.made answers, for each way that is handed to it, and what span.Add and its like answer of whatever spans; they leave old memory alone.
  What span.made answers, for each way that is handed to it, and what span.Add and its like answer of whatever spans; they leave old memory alone.
  What span.Div, span.Root and span.Meet answer of whatever spans, and that they leave old memory alone.
-/
import Derived.Test.YtgmnknmjainabaaK15
namespace Go.Proofs.Ytgmnknmjainabaa
set_option linter.unusedVariables false
set_option linter.unusedSimpArgs false
set_option linter.unnecessarySimpa false
open Go.RowKit
attribute [local go_sem ↓] Go.wp_at_zero Go.wp_at_succ


set_option maxRecDepth 100000 in
set_option maxHeartbeats 2000000 in
theorem made_bad_Meet (p1 p2 : Value) (B : Nat) (W : World) (f : Nat → Sp) (d e : Nat → Nat → Int) (n cap : Nat) (hn : n ≤ 1000) (hS : Spans W B n f d e) (E : Int) (h0 : ∀ z, Flt (fun j => chkE (f j) (d j) (e j)) (fun j => (f j).bits) n z → z = E) (hE : E ≠ 0) (k : Nat) :
    Calls Try.prog 72 #[.func (.func 97) #[] #[p1, p2], .slice (some ⟨B, 0, none⟩) n cap] W (PairAns W 0 k 0 0 E) := by
  have HZ := hide h0
  have HS := hide hS
  have hE' : (E != 0) = true := by simpa using hE
  clear h0 hS hE
  go_enter Try.func72, Try.ntmps72
  go_wp2_with fail
  refine (fault_any _ _ _ f d e _ ((unhide HS).below (bl1 _ _)) hn).mono ?_
  rintro r w1 ⟨z, rfl, hz, hb1'⟩
  have hz0 := unhide HZ z hz
  subst hz0
  obtain ⟨q0, q1, q2, q3, q4, q5⟩ := (noc_new W 26).below hb1'
  have hB1 : Below W.heap.size W w1 := bthen (bl1 _ _) hb1'
  clear hz
  go_wp2_with fail
  refine bodyPost_ret (v := .tuple #[.agg #[.bool false, .slice none 0 0, .bool false, .slice none 0 0, .int .i64 0], .int .i64 z]) (by simp [results, Try.results72, go_sem, q0, q1, q2, q3, q4]) rfl ⟨⟨false, none, 0, 0, false, none, 0, 0, 0⟩, rfl, rfl, zeroSp _ _, ?_⟩
  exact set5 hB1 (Nat.le_refl _) _ _ _ _ _

set_option maxRecDepth 100000 in
set_option maxHeartbeats 2000000 in
theorem made_err_Meet (p1 p2 : Value) (B : Nat) (W : World) (f : Nat → Sp) (d e : Nat → Nat → Int) (n cap : Nat) (hn : n ≤ 1000) (hS : Spans W B n f d e) (h0 : ∀ z, Flt (fun j => chkE (f j) (d j) (e j)) (fun j => (f j).bits) n z → z = 0) (b : Int) (k : Nat) (lo hi er : Int) (her : er ≠ 0)
    (hF : ∀ w', Below W.heap.size W w' → Calls Try.prog 97 #[p1, p2] w' (PairAns w' b k lo hi er)) :
    Calls Try.prog 72 #[.func (.func 97) #[] #[p1, p2], .slice (some ⟨B, 0, none⟩) n cap] W (PairAns W 0 k 0 0 er) := by
  have HF := hide hF
  have HZ := hide h0
  have HS := hide hS
  have hE' : (er != 0) = true := by simpa using her
  clear hF h0 hS her
  go_enter Try.func72, Try.ntmps72
  go_wp2_with fail
  refine (fault_any _ _ _ f d e _ ((unhide HS).below (bl1 _ _)) hn).mono ?_
  rintro r w1 ⟨z, rfl, hz, hb1'⟩
  have hz0 := unhide HZ z hz
  subst hz0
  have hN1 := (noc_new W 26).below hb1'
  have hB1 : Below W.heap.size W w1 := bthen (bl1 _ _) hb1'
  clear hz
  go_wp2_with fail
  refine (unhide HF _ hB1).mono ?_
  rintro r w2 ⟨s, rfl, hsb, hsp, hb3⟩
  have hB2 := bthen hB1 hb3
  have hN2 := hN1.below hb3
  have hlt := hN2.lt
  obtain ⟨q0, q1, q2, q3, q4, q5⟩ := hN2
  have HB := hide hsb
  clear hsb hb1'
  go_wp2_with fail
  refine bodyPost_ret (v := .tuple #[.agg #[.bool false, .slice none 0 0, .bool false, .slice none 0 0, .int .i64 0], .int .i64 er]) (by simp [results, Try.results72, go_sem, hlt, q0, q1, q2, q3, q4]) rfl ⟨⟨false, none, 0, 0, false, none, 0, 0, 0⟩, rfl, rfl, zeroSp _ _, ?_⟩
  first | with_reducible exact set5 (balloc hB2 _) (Nat.le_refl _) _ _ _ _ _ | with_reducible exact balloc (set5 hB2 (Nat.le_refl _) _ _ _ _ _) _

set_option maxRecDepth 100000 in
set_option maxHeartbeats 2000000 in
theorem made_fit_Meet (p1 p2 : Value) (B : Nat) (W : World) (f : Nat → Sp) (d e : Nat → Nat → Int) (n cap : Nat) (hn : n ≤ 1000) (hS : Spans W B n f d e) (h0 : ∀ z, Flt (fun j => chkE (f j) (d j) (e j)) (fun j => (f j).bits) n z → z = 0) (b : Int) (k : Nat) (lo hi : Int)
    (hF : ∀ w', Below W.heap.size W w' → Calls Try.prog 97 #[p1, p2] w' (PairAns w' b k lo hi 0)) (hle : lo ≤ hi) (hb1 : 1 ≤ b) (hb2 : b ≤ 120) :
    Calls Try.prog 72 #[.func (.func 97) #[] #[p1, p2], .slice (some ⟨B, 0, none⟩) n cap] W (PairAns W (fitZ lo hi b) k (fitZ lo hi lo) (fitZ lo hi hi) (fitE lo hi)) := by
  have HF := hide hF
  have HZ := hide h0
  have HS := hide hS
  clear hF h0 hS
  go_enter Try.func72, Try.ntmps72
  go_wp2_with fail
  refine (fault_any _ _ _ f d e _ ((unhide HS).below (bl1 _ _)) hn).mono ?_
  rintro r w1 ⟨z, rfl, hz, hb1'⟩
  have hz0 := unhide HZ z hz
  subst hz0
  have hN1 := (noc_new W 26).below hb1'
  have hB1 : Below W.heap.size W w1 := bthen (bl1 _ _) hb1'
  clear hz
  go_wp2_with fail
  refine (unhide HF _ hB1).mono ?_
  rintro r w2 ⟨s, rfl, hsb, hsp, hb3⟩
  have hB2 := bthen hB1 hb3
  have hN2 := hN1.below hb3
  have hlt := hN2.lt
  obtain ⟨dd, ee, hdig, hchk⟩ := chk_fit hsp hle (by omega) (by omega)
  obtain ⟨q0, q1, q2, q3, q4, q5⟩ := hN2
  have HB := hide hsb
  have HC := hide hchk
  clear hsb hb1' hchk
  go_wp2_with fail
  refine (fit_any _ s dd ee (hdig.below (bl1 _ _))).mono ?_
  rintro r w3 ⟨hr, hb4⟩
  have hB3 : Below w2.heap.size w2 w3 := bthen (bl1 _ _) hb4
  have hN3 := (NoC.mk q0 q1 q2 q3 q4 q5).below hB3
  obtain ⟨t0, t1, t2, t3, t4, t5⟩ := hN3
  have hr' : ∃ u : Sp, r = .returned (.tuple #[.agg #[.bool u.ln, .slice u.la u.lN u.lc, .bool u.hn, .slice u.ha u.hN u.hc, .int .i64 u.bits], .int .i64 (fitE lo hi)]) ∧ u.bits = fitZ lo hi b ∧ SpAt w3 u k (fitZ lo hi lo) (fitZ lo hi hi) := by
    have hc := unhide HC
    rcases fit_cases lo hi with ⟨_, f2, f3⟩ | ⟨_, f2, f3⟩
    · rcases hr with ⟨h1, h⟩ | ⟨h1, h⟩
      · omega
      · refine ⟨⟨false, none, 0, 0, false, none, 0, 0, 0⟩, by rw [h, hc], by rw [f3], ?_⟩
        rw [f3, f3]; exact zeroSp _ _
    · rcases hr with ⟨h1, h⟩ | ⟨h1, h⟩
      · refine ⟨s, by rw [h, f2], by rw [f3]; exact unhide HB, ?_⟩
        rw [f3, f3]; exact hsp.below hB3
      · omega
  obtain ⟨u, hru, hub, hup⟩ := hr'
  clear hr
  rw [hru]
  clear hru
  have HU := hide hub
  clear hub
  have hB9 := bthen hB2 hB3
  generalize fitE lo hi = er at *
  go_wp2_with fail
  refine bodyPost_ret (v := .tuple #[.agg #[.bool u.ln, .slice u.la u.lN u.lc, .bool u.hn, .slice u.ha u.hN u.hc, .int .i64 u.bits], .int .i64 er]) (by simp [results, Try.results72, go_sem, t0, t1, t2, t3, t4]) rfl ⟨u, rfl, unhide HU, ?_, ?_⟩
  · exact SpAt.putN hup ⟨t0, t1, t2, t3, t4, t5⟩ _ _ _ _ _
  · exact set5 hB9 (Nat.le_refl _) _ _ _ _ _

set_option maxRecDepth 100000 in
set_option maxHeartbeats 2000000 in
theorem span2_Meet (w : World) (s t : Sp) (d e d' e' : Nat → Int) (hs : SpDig w s d e) (ht : SpDig w t d' e') (b' : Int) (k : Nat) (lo hi er : Int)
    (hM : ∀ (W : World) (B0 B1 B cap : Nat), Below w.heap.size w W → SpC W B0 s → SpC W B1 t → Spans W B 2 (pr s t) (pr d d') (pr e e') → Calls Try.prog 72 #[.func (.func 97) #[] #[.pointer (some ⟨B0, 0, none⟩), .pointer (some ⟨B1, 0, none⟩)], .slice (some ⟨B, 0, none⟩) 2 cap] W (PairAns W b' k lo hi er)) :
    Calls Try.prog 39 #[.agg #[.bool s.ln, .slice s.la s.lN s.lc, .bool s.hn, .slice s.ha s.hN s.hc, .int .i64 s.bits], .agg #[.bool t.ln, .slice t.la t.lN t.lc, .bool t.hn, .slice t.ha t.hN t.hc, .int .i64 t.bits]] w (PairAns w b' k lo hi er) := by
  have HM := hide hM
  have HS := hide (fun W hS hT => spans2 W s t d e d' e' 26 hS hT)
  clear hM
  go_enter Try.func39, Try.ntmps39
  go_wp2_with fail
  obtain ⟨W, hW⟩ : ∃ W, W = ((w.alloc (.cells #[.bool s.ln, .slice s.la s.lN s.lc, .bool s.hn, .slice s.ha s.hN s.hc, .int .i64 s.bits] 26)).alloc (.cells #[.bool t.ln, .slice t.la t.lN t.lc, .bool t.hn, .slice t.ha t.hN t.hc, .int .i64 t.bits] 26)).alloc (.cells #[.bool false, .slice none 0 0, .bool false, .slice none 0 0, .int .i64 0] 26) := ⟨_, rfl⟩
  have s3 : W.heap.size = w.heap.size + 1 + 1 + 1 := by rw [hW]; simp
  have hBW : Below w.heap.size w W := by rw [hW]; exact bl3 _ _ _ _
  have a0 : SpC W w.heap.size s := by rw [hW]; exact ⟨by simp [go_sem], by simp [go_sem], by simp [go_sem], by simp [go_sem], by simp [go_sem]⟩
  have g0 : SpC W (w.heap.size + 1) t := by rw [hW]; exact ⟨by simp [go_sem], by simp [go_sem], by simp [go_sem], by simp [go_sem], by simp [go_sem]⟩
  have r0 : NoC W (w.heap.size + 1 + 1) := by rw [hW]; exact ⟨by simp [go_sem], by simp [go_sem], by simp [go_sem], by simp [go_sem], by simp [go_sem], fun o => by simp [go_sem]⟩
  rw [← hW, ← s3]
  clear hW
  refine (unhide HM _ _ _ _ _ (bthen hBW (bl1 _ _)) (a0.below (bl1 _ _)) (g0.below (bl1 _ _)) (unhide HS W (hs.below hBW) (ht.below hBW))).mono ?_
  rintro r w1 ⟨u, rfl, hub, hup, hb1⟩
  have hB1 : Below W.heap.size W w1 := bthen (bl1 _ _) hb1
  obtain ⟨q0, q1, q2, q3, q4, q5⟩ := r0.below hB1
  have HB := hide hub
  clear hub
  go_wp2_with fail
  refine bodyPost_ret (v := .tuple #[.agg #[.bool u.ln, .slice u.la u.lN u.lc, .bool u.hn, .slice u.ha u.hN u.hc, .int .i64 u.bits], .int .i64 er]) (by simp [results, Try.results39, go_sem, q0, q1, q2, q3, q4]) rfl ⟨u, rfl, unhide HB, ?_, ?_⟩
  · exact SpAt.put5 hup q0 q1 q2 q3 q4 _ _ _ _ _
  · exact set5 (bthen hBW hB1) (by omega) _ _ _ _ _

/-- What span.Meet answers of whatever spans that something is wrong with. -/
theorem spanMeet_bad (w : World) (s t : Sp) (d e d' e' : Nat → Int) (hs : SpDig w s d e) (ht : SpDig w t d' e') (hE : fltE2 (chkE s d e) (chkE t d' e') s.bits t.bits ≠ 0) (k : Nat) :
    Calls Try.prog 39 #[.agg #[.bool s.ln, .slice s.la s.lN s.lc, .bool s.hn, .slice s.ha s.hN s.hc, .int .i64 s.bits], .agg #[.bool t.ln, .slice t.la t.lN t.lc, .bool t.hn, .slice t.ha t.hN t.hc, .int .i64 t.bits]] w (PairAns w 0 k 0 0 (fltE2 (chkE s d e) (chkE t d' e') s.bits t.bits)) :=
  span2_Meet w s t d e d' e' hs ht _ _ _ _ _ fun W B0 B1 B cap _ _ _ hS => made_bad_Meet _ _ B W _ _ _ 2 cap (by omega) hS _ (fun z hz => flt_pr hz) hE k

set_option maxRecDepth 100000 in
set_option maxHeartbeats 2000000 in
theorem made_bad_Div (p1 p2 : Value) (B : Nat) (W : World) (f : Nat → Sp) (d e : Nat → Nat → Int) (n cap : Nat) (hn : n ≤ 1000) (hS : Spans W B n f d e) (E : Int) (h0 : ∀ z, Flt (fun j => chkE (f j) (d j) (e j)) (fun j => (f j).bits) n z → z = E) (hE : E ≠ 0) (k : Nat) :
    Calls Try.prog 72 #[.func (.func 93) #[] #[p1, p2], .slice (some ⟨B, 0, none⟩) n cap] W (PairAns W 0 k 0 0 E) := by
  have HZ := hide h0
  have HS := hide hS
  have hE' : (E != 0) = true := by simpa using hE
  clear h0 hS hE
  go_enter Try.func72, Try.ntmps72
  go_wp2_with fail
  refine (fault_any _ _ _ f d e _ ((unhide HS).below (bl1 _ _)) hn).mono ?_
  rintro r w1 ⟨z, rfl, hz, hb1'⟩
  have hz0 := unhide HZ z hz
  subst hz0
  obtain ⟨q0, q1, q2, q3, q4, q5⟩ := (noc_new W 26).below hb1'
  have hB1 : Below W.heap.size W w1 := bthen (bl1 _ _) hb1'
  clear hz
  go_wp2_with fail
  refine bodyPost_ret (v := .tuple #[.agg #[.bool false, .slice none 0 0, .bool false, .slice none 0 0, .int .i64 0], .int .i64 z]) (by simp [results, Try.results72, go_sem, q0, q1, q2, q3, q4]) rfl ⟨⟨false, none, 0, 0, false, none, 0, 0, 0⟩, rfl, rfl, zeroSp _ _, ?_⟩
  exact set5 hB1 (Nat.le_refl _) _ _ _ _ _

set_option maxRecDepth 100000 in
set_option maxHeartbeats 2000000 in
theorem made_err_Div (p1 p2 : Value) (B : Nat) (W : World) (f : Nat → Sp) (d e : Nat → Nat → Int) (n cap : Nat) (hn : n ≤ 1000) (hS : Spans W B n f d e) (h0 : ∀ z, Flt (fun j => chkE (f j) (d j) (e j)) (fun j => (f j).bits) n z → z = 0) (b : Int) (k : Nat) (lo hi er : Int) (her : er ≠ 0)
    (hF : ∀ w', Below W.heap.size W w' → Calls Try.prog 93 #[p1, p2] w' (PairAns w' b k lo hi er)) :
    Calls Try.prog 72 #[.func (.func 93) #[] #[p1, p2], .slice (some ⟨B, 0, none⟩) n cap] W (PairAns W 0 k 0 0 er) := by
  have HF := hide hF
  have HZ := hide h0
  have HS := hide hS
  have hE' : (er != 0) = true := by simpa using her
  clear hF h0 hS her
  go_enter Try.func72, Try.ntmps72
  go_wp2_with fail
  refine (fault_any _ _ _ f d e _ ((unhide HS).below (bl1 _ _)) hn).mono ?_
  rintro r w1 ⟨z, rfl, hz, hb1'⟩
  have hz0 := unhide HZ z hz
  subst hz0
  have hN1 := (noc_new W 26).below hb1'
  have hB1 : Below W.heap.size W w1 := bthen (bl1 _ _) hb1'
  clear hz
  go_wp2_with fail
  refine (unhide HF _ hB1).mono ?_
  rintro r w2 ⟨s, rfl, hsb, hsp, hb3⟩
  have hB2 := bthen hB1 hb3
  have hN2 := hN1.below hb3
  have hlt := hN2.lt
  obtain ⟨q0, q1, q2, q3, q4, q5⟩ := hN2
  have HB := hide hsb
  clear hsb hb1'
  go_wp2_with fail
  refine bodyPost_ret (v := .tuple #[.agg #[.bool false, .slice none 0 0, .bool false, .slice none 0 0, .int .i64 0], .int .i64 er]) (by simp [results, Try.results72, go_sem, hlt, q0, q1, q2, q3, q4]) rfl ⟨⟨false, none, 0, 0, false, none, 0, 0, 0⟩, rfl, rfl, zeroSp _ _, ?_⟩
  first | with_reducible exact set5 (balloc hB2 _) (Nat.le_refl _) _ _ _ _ _ | with_reducible exact balloc (set5 hB2 (Nat.le_refl _) _ _ _ _ _) _

set_option maxRecDepth 100000 in
set_option maxHeartbeats 2000000 in
theorem made_fit_Div (p1 p2 : Value) (B : Nat) (W : World) (f : Nat → Sp) (d e : Nat → Nat → Int) (n cap : Nat) (hn : n ≤ 1000) (hS : Spans W B n f d e) (h0 : ∀ z, Flt (fun j => chkE (f j) (d j) (e j)) (fun j => (f j).bits) n z → z = 0) (b : Int) (k : Nat) (lo hi : Int)
    (hF : ∀ w', Below W.heap.size W w' → Calls Try.prog 93 #[p1, p2] w' (PairAns w' b k lo hi 0)) (hle : lo ≤ hi) (hb1 : 1 ≤ b) (hb2 : b ≤ 120) :
    Calls Try.prog 72 #[.func (.func 93) #[] #[p1, p2], .slice (some ⟨B, 0, none⟩) n cap] W (PairAns W (fitZ lo hi b) k (fitZ lo hi lo) (fitZ lo hi hi) (fitE lo hi)) := by
  have HF := hide hF
  have HZ := hide h0
  have HS := hide hS
  clear hF h0 hS
  go_enter Try.func72, Try.ntmps72
  go_wp2_with fail
  refine (fault_any _ _ _ f d e _ ((unhide HS).below (bl1 _ _)) hn).mono ?_
  rintro r w1 ⟨z, rfl, hz, hb1'⟩
  have hz0 := unhide HZ z hz
  subst hz0
  have hN1 := (noc_new W 26).below hb1'
  have hB1 : Below W.heap.size W w1 := bthen (bl1 _ _) hb1'
  clear hz
  go_wp2_with fail
  refine (unhide HF _ hB1).mono ?_
  rintro r w2 ⟨s, rfl, hsb, hsp, hb3⟩
  have hB2 := bthen hB1 hb3
  have hN2 := hN1.below hb3
  have hlt := hN2.lt
  obtain ⟨dd, ee, hdig, hchk⟩ := chk_fit hsp hle (by omega) (by omega)
  obtain ⟨q0, q1, q2, q3, q4, q5⟩ := hN2
  have HB := hide hsb
  have HC := hide hchk
  clear hsb hb1' hchk
  go_wp2_with fail
  refine (fit_any _ s dd ee (hdig.below (bl1 _ _))).mono ?_
  rintro r w3 ⟨hr, hb4⟩
  have hB3 : Below w2.heap.size w2 w3 := bthen (bl1 _ _) hb4
  have hN3 := (NoC.mk q0 q1 q2 q3 q4 q5).below hB3
  obtain ⟨t0, t1, t2, t3, t4, t5⟩ := hN3
  have hr' : ∃ u : Sp, r = .returned (.tuple #[.agg #[.bool u.ln, .slice u.la u.lN u.lc, .bool u.hn, .slice u.ha u.hN u.hc, .int .i64 u.bits], .int .i64 (fitE lo hi)]) ∧ u.bits = fitZ lo hi b ∧ SpAt w3 u k (fitZ lo hi lo) (fitZ lo hi hi) := by
    have hc := unhide HC
    rcases fit_cases lo hi with ⟨_, f2, f3⟩ | ⟨_, f2, f3⟩
    · rcases hr with ⟨h1, h⟩ | ⟨h1, h⟩
      · omega
      · refine ⟨⟨false, none, 0, 0, false, none, 0, 0, 0⟩, by rw [h, hc], by rw [f3], ?_⟩
        rw [f3, f3]; exact zeroSp _ _
    · rcases hr with ⟨h1, h⟩ | ⟨h1, h⟩
      · refine ⟨s, by rw [h, f2], by rw [f3]; exact unhide HB, ?_⟩
        rw [f3, f3]; exact hsp.below hB3
      · omega
  obtain ⟨u, hru, hub, hup⟩ := hr'
  clear hr
  rw [hru]
  clear hru
  have HU := hide hub
  clear hub
  have hB9 := bthen hB2 hB3
  generalize fitE lo hi = er at *
  go_wp2_with fail
  refine bodyPost_ret (v := .tuple #[.agg #[.bool u.ln, .slice u.la u.lN u.lc, .bool u.hn, .slice u.ha u.hN u.hc, .int .i64 u.bits], .int .i64 er]) (by simp [results, Try.results72, go_sem, t0, t1, t2, t3, t4]) rfl ⟨u, rfl, unhide HU, ?_, ?_⟩
  · exact SpAt.putN hup ⟨t0, t1, t2, t3, t4, t5⟩ _ _ _ _ _
  · exact set5 hB9 (Nat.le_refl _) _ _ _ _ _

set_option maxRecDepth 100000 in
set_option maxHeartbeats 2000000 in
theorem span2_Div (w : World) (s t : Sp) (d e d' e' : Nat → Int) (hs : SpDig w s d e) (ht : SpDig w t d' e') (b' : Int) (k : Nat) (lo hi er : Int)
    (hM : ∀ (W : World) (B0 B1 B cap : Nat), Below w.heap.size w W → SpC W B0 s → SpC W B1 t → Spans W B 2 (pr s t) (pr d d') (pr e e') → Calls Try.prog 72 #[.func (.func 93) #[] #[.pointer (some ⟨B1, 0, none⟩), .pointer (some ⟨B0, 0, none⟩)], .slice (some ⟨B, 0, none⟩) 2 cap] W (PairAns W b' k lo hi er)) :
    Calls Try.prog 37 #[.agg #[.bool s.ln, .slice s.la s.lN s.lc, .bool s.hn, .slice s.ha s.hN s.hc, .int .i64 s.bits], .agg #[.bool t.ln, .slice t.la t.lN t.lc, .bool t.hn, .slice t.ha t.hN t.hc, .int .i64 t.bits]] w (PairAns w b' k lo hi er) := by
  have HM := hide hM
  have HS := hide (fun W hS hT => spans2 W s t d e d' e' 26 hS hT)
  clear hM
  go_enter Try.func37, Try.ntmps37
  go_wp2_with fail
  obtain ⟨W, hW⟩ : ∃ W, W = ((w.alloc (.cells #[.bool s.ln, .slice s.la s.lN s.lc, .bool s.hn, .slice s.ha s.hN s.hc, .int .i64 s.bits] 26)).alloc (.cells #[.bool t.ln, .slice t.la t.lN t.lc, .bool t.hn, .slice t.ha t.hN t.hc, .int .i64 t.bits] 26)).alloc (.cells #[.bool false, .slice none 0 0, .bool false, .slice none 0 0, .int .i64 0] 26) := ⟨_, rfl⟩
  have s3 : W.heap.size = w.heap.size + 1 + 1 + 1 := by rw [hW]; simp
  have hBW : Below w.heap.size w W := by rw [hW]; exact bl3 _ _ _ _
  have a0 : SpC W w.heap.size s := by rw [hW]; exact ⟨by simp [go_sem], by simp [go_sem], by simp [go_sem], by simp [go_sem], by simp [go_sem]⟩
  have g0 : SpC W (w.heap.size + 1) t := by rw [hW]; exact ⟨by simp [go_sem], by simp [go_sem], by simp [go_sem], by simp [go_sem], by simp [go_sem]⟩
  have r0 : NoC W (w.heap.size + 1 + 1) := by rw [hW]; exact ⟨by simp [go_sem], by simp [go_sem], by simp [go_sem], by simp [go_sem], by simp [go_sem], fun o => by simp [go_sem]⟩
  rw [← hW, ← s3]
  clear hW
  refine (unhide HM _ _ _ _ _ (bthen hBW (bl1 _ _)) (a0.below (bl1 _ _)) (g0.below (bl1 _ _)) (unhide HS W (hs.below hBW) (ht.below hBW))).mono ?_
  rintro r w1 ⟨u, rfl, hub, hup, hb1⟩
  have hB1 : Below W.heap.size W w1 := bthen (bl1 _ _) hb1
  obtain ⟨q0, q1, q2, q3, q4, q5⟩ := r0.below hB1
  have HB := hide hub
  clear hub
  go_wp2_with fail
  refine bodyPost_ret (v := .tuple #[.agg #[.bool u.ln, .slice u.la u.lN u.lc, .bool u.hn, .slice u.ha u.hN u.hc, .int .i64 u.bits], .int .i64 er]) (by simp [results, Try.results37, go_sem, q0, q1, q2, q3, q4]) rfl ⟨u, rfl, unhide HB, ?_, ?_⟩
  · exact SpAt.put5 hup q0 q1 q2 q3 q4 _ _ _ _ _
  · exact set5 (bthen hBW hB1) (by omega) _ _ _ _ _

/-- What span.Div answers of whatever spans that something is wrong with. -/
theorem spanDiv_bad (w : World) (s t : Sp) (d e d' e' : Nat → Int) (hs : SpDig w s d e) (ht : SpDig w t d' e') (hE : fltE2 (chkE s d e) (chkE t d' e') s.bits t.bits ≠ 0) (k : Nat) :
    Calls Try.prog 37 #[.agg #[.bool s.ln, .slice s.la s.lN s.lc, .bool s.hn, .slice s.ha s.hN s.hc, .int .i64 s.bits], .agg #[.bool t.ln, .slice t.la t.lN t.lc, .bool t.hn, .slice t.ha t.hN t.hc, .int .i64 t.bits]] w (PairAns w 0 k 0 0 (fltE2 (chkE s d e) (chkE t d' e') s.bits t.bits)) :=
  span2_Div w s t d e d' e' hs ht _ _ _ _ _ fun W B0 B1 B cap _ _ _ hS => made_bad_Div _ _ B W _ _ _ 2 cap (by omega) hS _ (fun z hz => flt_pr hz) hE k
end Go.Proofs.Ytgmnknmjainabaa

namespace Go.Proofs.Ytgmnknmjainabaa
set_option linter.unusedVariables false
set_option linter.unusedSimpArgs false
set_option linter.unnecessarySimpa false
open Go.RowKit
attribute [local go_sem ↓] Go.wp_at_zero Go.wp_at_succ


set_option maxRecDepth 100000 in
set_option maxHeartbeats 2000000 in
theorem made_bad_Root (p1 : Value) (B : Nat) (W : World) (f : Nat → Sp) (d e : Nat → Nat → Int) (n cap : Nat) (hn : n ≤ 1000) (hS : Spans W B n f d e) (E : Int) (h0 : ∀ z, Flt (fun j => chkE (f j) (d j) (e j)) (fun j => (f j).bits) n z → z = E) (hE : E ≠ 0) (k : Nat) :
    Calls Try.prog 72 #[.func (.func 95) #[] #[p1], .slice (some ⟨B, 0, none⟩) n cap] W (PairAns W 0 k 0 0 E) := by
  have HZ := hide h0
  have HS := hide hS
  have hE' : (E != 0) = true := by simpa using hE
  clear h0 hS hE
  go_enter Try.func72, Try.ntmps72
  go_wp2_with fail
  refine (fault_any _ _ _ f d e _ ((unhide HS).below (bl1 _ _)) hn).mono ?_
  rintro r w1 ⟨z, rfl, hz, hb1'⟩
  have hz0 := unhide HZ z hz
  subst hz0
  obtain ⟨q0, q1, q2, q3, q4, q5⟩ := (noc_new W 26).below hb1'
  have hB1 : Below W.heap.size W w1 := bthen (bl1 _ _) hb1'
  clear hz
  go_wp2_with fail
  refine bodyPost_ret (v := .tuple #[.agg #[.bool false, .slice none 0 0, .bool false, .slice none 0 0, .int .i64 0], .int .i64 z]) (by simp [results, Try.results72, go_sem, q0, q1, q2, q3, q4]) rfl ⟨⟨false, none, 0, 0, false, none, 0, 0, 0⟩, rfl, rfl, zeroSp _ _, ?_⟩
  exact set5 hB1 (Nat.le_refl _) _ _ _ _ _

set_option maxRecDepth 100000 in
set_option maxHeartbeats 2000000 in
theorem made_err_Root (p1 : Value) (B : Nat) (W : World) (f : Nat → Sp) (d e : Nat → Nat → Int) (n cap : Nat) (hn : n ≤ 1000) (hS : Spans W B n f d e) (h0 : ∀ z, Flt (fun j => chkE (f j) (d j) (e j)) (fun j => (f j).bits) n z → z = 0) (b : Int) (k : Nat) (lo hi er : Int) (her : er ≠ 0)
    (hF : ∀ w', Below W.heap.size W w' → Calls Try.prog 95 #[p1] w' (PairAns w' b k lo hi er)) :
    Calls Try.prog 72 #[.func (.func 95) #[] #[p1], .slice (some ⟨B, 0, none⟩) n cap] W (PairAns W 0 k 0 0 er) := by
  have HF := hide hF
  have HZ := hide h0
  have HS := hide hS
  have hE' : (er != 0) = true := by simpa using her
  clear hF h0 hS her
  go_enter Try.func72, Try.ntmps72
  go_wp2_with fail
  refine (fault_any _ _ _ f d e _ ((unhide HS).below (bl1 _ _)) hn).mono ?_
  rintro r w1 ⟨z, rfl, hz, hb1'⟩
  have hz0 := unhide HZ z hz
  subst hz0
  have hN1 := (noc_new W 26).below hb1'
  have hB1 : Below W.heap.size W w1 := bthen (bl1 _ _) hb1'
  clear hz
  go_wp2_with fail
  refine (unhide HF _ hB1).mono ?_
  rintro r w2 ⟨s, rfl, hsb, hsp, hb3⟩
  have hB2 := bthen hB1 hb3
  have hN2 := hN1.below hb3
  have hlt := hN2.lt
  obtain ⟨q0, q1, q2, q3, q4, q5⟩ := hN2
  have HB := hide hsb
  clear hsb hb1'
  go_wp2_with fail
  refine bodyPost_ret (v := .tuple #[.agg #[.bool false, .slice none 0 0, .bool false, .slice none 0 0, .int .i64 0], .int .i64 er]) (by simp [results, Try.results72, go_sem, hlt, q0, q1, q2, q3, q4]) rfl ⟨⟨false, none, 0, 0, false, none, 0, 0, 0⟩, rfl, rfl, zeroSp _ _, ?_⟩
  first | with_reducible exact set5 (balloc hB2 _) (Nat.le_refl _) _ _ _ _ _ | with_reducible exact balloc (set5 hB2 (Nat.le_refl _) _ _ _ _ _) _

set_option maxRecDepth 100000 in
set_option maxHeartbeats 2000000 in
theorem made_fit_Root (p1 : Value) (B : Nat) (W : World) (f : Nat → Sp) (d e : Nat → Nat → Int) (n cap : Nat) (hn : n ≤ 1000) (hS : Spans W B n f d e) (h0 : ∀ z, Flt (fun j => chkE (f j) (d j) (e j)) (fun j => (f j).bits) n z → z = 0) (b : Int) (k : Nat) (lo hi : Int)
    (hF : ∀ w', Below W.heap.size W w' → Calls Try.prog 95 #[p1] w' (PairAns w' b k lo hi 0)) (hle : lo ≤ hi) (hb1 : 1 ≤ b) (hb2 : b ≤ 120) :
    Calls Try.prog 72 #[.func (.func 95) #[] #[p1], .slice (some ⟨B, 0, none⟩) n cap] W (PairAns W (fitZ lo hi b) k (fitZ lo hi lo) (fitZ lo hi hi) (fitE lo hi)) := by
  have HF := hide hF
  have HZ := hide h0
  have HS := hide hS
  clear hF h0 hS
  go_enter Try.func72, Try.ntmps72
  go_wp2_with fail
  refine (fault_any _ _ _ f d e _ ((unhide HS).below (bl1 _ _)) hn).mono ?_
  rintro r w1 ⟨z, rfl, hz, hb1'⟩
  have hz0 := unhide HZ z hz
  subst hz0
  have hN1 := (noc_new W 26).below hb1'
  have hB1 : Below W.heap.size W w1 := bthen (bl1 _ _) hb1'
  clear hz
  go_wp2_with fail
  refine (unhide HF _ hB1).mono ?_
  rintro r w2 ⟨s, rfl, hsb, hsp, hb3⟩
  have hB2 := bthen hB1 hb3
  have hN2 := hN1.below hb3
  have hlt := hN2.lt
  obtain ⟨dd, ee, hdig, hchk⟩ := chk_fit hsp hle (by omega) (by omega)
  obtain ⟨q0, q1, q2, q3, q4, q5⟩ := hN2
  have HB := hide hsb
  have HC := hide hchk
  clear hsb hb1' hchk
  go_wp2_with fail
  refine (fit_any _ s dd ee (hdig.below (bl1 _ _))).mono ?_
  rintro r w3 ⟨hr, hb4⟩
  have hB3 : Below w2.heap.size w2 w3 := bthen (bl1 _ _) hb4
  have hN3 := (NoC.mk q0 q1 q2 q3 q4 q5).below hB3
  obtain ⟨t0, t1, t2, t3, t4, t5⟩ := hN3
  have hr' : ∃ u : Sp, r = .returned (.tuple #[.agg #[.bool u.ln, .slice u.la u.lN u.lc, .bool u.hn, .slice u.ha u.hN u.hc, .int .i64 u.bits], .int .i64 (fitE lo hi)]) ∧ u.bits = fitZ lo hi b ∧ SpAt w3 u k (fitZ lo hi lo) (fitZ lo hi hi) := by
    have hc := unhide HC
    rcases fit_cases lo hi with ⟨_, f2, f3⟩ | ⟨_, f2, f3⟩
    · rcases hr with ⟨h1, h⟩ | ⟨h1, h⟩
      · omega
      · refine ⟨⟨false, none, 0, 0, false, none, 0, 0, 0⟩, by rw [h, hc], by rw [f3], ?_⟩
        rw [f3, f3]; exact zeroSp _ _
    · rcases hr with ⟨h1, h⟩ | ⟨h1, h⟩
      · refine ⟨s, by rw [h, f2], by rw [f3]; exact unhide HB, ?_⟩
        rw [f3, f3]; exact hsp.below hB3
      · omega
  obtain ⟨u, hru, hub, hup⟩ := hr'
  clear hr
  rw [hru]
  clear hru
  have HU := hide hub
  clear hub
  have hB9 := bthen hB2 hB3
  generalize fitE lo hi = er at *
  go_wp2_with fail
  refine bodyPost_ret (v := .tuple #[.agg #[.bool u.ln, .slice u.la u.lN u.lc, .bool u.hn, .slice u.ha u.hN u.hc, .int .i64 u.bits], .int .i64 er]) (by simp [results, Try.results72, go_sem, t0, t1, t2, t3, t4]) rfl ⟨u, rfl, unhide HU, ?_, ?_⟩
  · exact SpAt.putN hup ⟨t0, t1, t2, t3, t4, t5⟩ _ _ _ _ _
  · exact set5 hB9 (Nat.le_refl _) _ _ _ _ _

set_option maxRecDepth 100000 in
set_option maxHeartbeats 2000000 in
theorem made_bad_To (p1 p2 : Value) (B : Nat) (W : World) (f : Nat → Sp) (d e : Nat → Nat → Int) (n cap : Nat) (hn : n ≤ 1000) (hS : Spans W B n f d e) (E : Int) (h0 : ∀ z, Flt (fun j => chkE (f j) (d j) (e j)) (fun j => (f j).bits) n z → z = E) (hE : E ≠ 0) (k : Nat) :
    Calls Try.prog 72 #[.func (.func 73) #[] #[p1, p2], .slice (some ⟨B, 0, none⟩) n cap] W (PairAns W 0 k 0 0 E) := by
  have HZ := hide h0
  have HS := hide hS
  have hE' : (E != 0) = true := by simpa using hE
  clear h0 hS hE
  go_enter Try.func72, Try.ntmps72
  go_wp2_with fail
  refine (fault_any _ _ _ f d e _ ((unhide HS).below (bl1 _ _)) hn).mono ?_
  rintro r w1 ⟨z, rfl, hz, hb1'⟩
  have hz0 := unhide HZ z hz
  subst hz0
  obtain ⟨q0, q1, q2, q3, q4, q5⟩ := (noc_new W 26).below hb1'
  have hB1 : Below W.heap.size W w1 := bthen (bl1 _ _) hb1'
  clear hz
  go_wp2_with fail
  refine bodyPost_ret (v := .tuple #[.agg #[.bool false, .slice none 0 0, .bool false, .slice none 0 0, .int .i64 0], .int .i64 z]) (by simp [results, Try.results72, go_sem, q0, q1, q2, q3, q4]) rfl ⟨⟨false, none, 0, 0, false, none, 0, 0, 0⟩, rfl, rfl, zeroSp _ _, ?_⟩
  exact set5 hB1 (Nat.le_refl _) _ _ _ _ _

set_option maxRecDepth 100000 in
set_option maxHeartbeats 2000000 in
theorem made_err_To (p1 p2 : Value) (B : Nat) (W : World) (f : Nat → Sp) (d e : Nat → Nat → Int) (n cap : Nat) (hn : n ≤ 1000) (hS : Spans W B n f d e) (h0 : ∀ z, Flt (fun j => chkE (f j) (d j) (e j)) (fun j => (f j).bits) n z → z = 0) (b : Int) (k : Nat) (lo hi er : Int) (her : er ≠ 0)
    (hF : ∀ w', Below W.heap.size W w' → Calls Try.prog 73 #[p1, p2] w' (PairAns w' b k lo hi er)) :
    Calls Try.prog 72 #[.func (.func 73) #[] #[p1, p2], .slice (some ⟨B, 0, none⟩) n cap] W (PairAns W 0 k 0 0 er) := by
  have HF := hide hF
  have HZ := hide h0
  have HS := hide hS
  have hE' : (er != 0) = true := by simpa using her
  clear hF h0 hS her
  go_enter Try.func72, Try.ntmps72
  go_wp2_with fail
  refine (fault_any _ _ _ f d e _ ((unhide HS).below (bl1 _ _)) hn).mono ?_
  rintro r w1 ⟨z, rfl, hz, hb1'⟩
  have hz0 := unhide HZ z hz
  subst hz0
  have hN1 := (noc_new W 26).below hb1'
  have hB1 : Below W.heap.size W w1 := bthen (bl1 _ _) hb1'
  clear hz
  go_wp2_with fail
  refine (unhide HF _ hB1).mono ?_
  rintro r w2 ⟨s, rfl, hsb, hsp, hb3⟩
  have hB2 := bthen hB1 hb3
  have hN2 := hN1.below hb3
  have hlt := hN2.lt
  obtain ⟨q0, q1, q2, q3, q4, q5⟩ := hN2
  have HB := hide hsb
  clear hsb hb1'
  go_wp2_with fail
  refine bodyPost_ret (v := .tuple #[.agg #[.bool false, .slice none 0 0, .bool false, .slice none 0 0, .int .i64 0], .int .i64 er]) (by simp [results, Try.results72, go_sem, hlt, q0, q1, q2, q3, q4]) rfl ⟨⟨false, none, 0, 0, false, none, 0, 0, 0⟩, rfl, rfl, zeroSp _ _, ?_⟩
  first | with_reducible exact set5 (balloc hB2 _) (Nat.le_refl _) _ _ _ _ _ | with_reducible exact balloc (set5 hB2 (Nat.le_refl _) _ _ _ _ _) _

set_option maxRecDepth 100000 in
set_option maxHeartbeats 2000000 in
theorem made_fit_To (p1 p2 : Value) (B : Nat) (W : World) (f : Nat → Sp) (d e : Nat → Nat → Int) (n cap : Nat) (hn : n ≤ 1000) (hS : Spans W B n f d e) (h0 : ∀ z, Flt (fun j => chkE (f j) (d j) (e j)) (fun j => (f j).bits) n z → z = 0) (b : Int) (k : Nat) (lo hi : Int)
    (hF : ∀ w', Below W.heap.size W w' → Calls Try.prog 73 #[p1, p2] w' (PairAns w' b k lo hi 0)) (hle : lo ≤ hi) (hb1 : 1 ≤ b) (hb2 : b ≤ 120) :
    Calls Try.prog 72 #[.func (.func 73) #[] #[p1, p2], .slice (some ⟨B, 0, none⟩) n cap] W (PairAns W (fitZ lo hi b) k (fitZ lo hi lo) (fitZ lo hi hi) (fitE lo hi)) := by
  have HF := hide hF
  have HZ := hide h0
  have HS := hide hS
  clear hF h0 hS
  go_enter Try.func72, Try.ntmps72
  go_wp2_with fail
  refine (fault_any _ _ _ f d e _ ((unhide HS).below (bl1 _ _)) hn).mono ?_
  rintro r w1 ⟨z, rfl, hz, hb1'⟩
  have hz0 := unhide HZ z hz
  subst hz0
  have hN1 := (noc_new W 26).below hb1'
  have hB1 : Below W.heap.size W w1 := bthen (bl1 _ _) hb1'
  clear hz
  go_wp2_with fail
  refine (unhide HF _ hB1).mono ?_
  rintro r w2 ⟨s, rfl, hsb, hsp, hb3⟩
  have hB2 := bthen hB1 hb3
  have hN2 := hN1.below hb3
  have hlt := hN2.lt
  obtain ⟨dd, ee, hdig, hchk⟩ := chk_fit hsp hle (by omega) (by omega)
  obtain ⟨q0, q1, q2, q3, q4, q5⟩ := hN2
  have HB := hide hsb
  have HC := hide hchk
  clear hsb hb1' hchk
  go_wp2_with fail
  refine (fit_any _ s dd ee (hdig.below (bl1 _ _))).mono ?_
  rintro r w3 ⟨hr, hb4⟩
  have hB3 : Below w2.heap.size w2 w3 := bthen (bl1 _ _) hb4
  have hN3 := (NoC.mk q0 q1 q2 q3 q4 q5).below hB3
  obtain ⟨t0, t1, t2, t3, t4, t5⟩ := hN3
  have hr' : ∃ u : Sp, r = .returned (.tuple #[.agg #[.bool u.ln, .slice u.la u.lN u.lc, .bool u.hn, .slice u.ha u.hN u.hc, .int .i64 u.bits], .int .i64 (fitE lo hi)]) ∧ u.bits = fitZ lo hi b ∧ SpAt w3 u k (fitZ lo hi lo) (fitZ lo hi hi) := by
    have hc := unhide HC
    rcases fit_cases lo hi with ⟨_, f2, f3⟩ | ⟨_, f2, f3⟩
    · rcases hr with ⟨h1, h⟩ | ⟨h1, h⟩
      · omega
      · refine ⟨⟨false, none, 0, 0, false, none, 0, 0, 0⟩, by rw [h, hc], by rw [f3], ?_⟩
        rw [f3, f3]; exact zeroSp _ _
    · rcases hr with ⟨h1, h⟩ | ⟨h1, h⟩
      · refine ⟨s, by rw [h, f2], by rw [f3]; exact unhide HB, ?_⟩
        rw [f3, f3]; exact hsp.below hB3
      · omega
  obtain ⟨u, hru, hub, hup⟩ := hr'
  clear hr
  rw [hru]
  clear hru
  have HU := hide hub
  clear hub
  have hB9 := bthen hB2 hB3
  generalize fitE lo hi = er at *
  go_wp2_with fail
  refine bodyPost_ret (v := .tuple #[.agg #[.bool u.ln, .slice u.la u.lN u.lc, .bool u.hn, .slice u.ha u.hN u.hc, .int .i64 u.bits], .int .i64 er]) (by simp [results, Try.results72, go_sem, t0, t1, t2, t3, t4]) rfl ⟨u, rfl, unhide HU, ?_, ?_⟩
  · exact SpAt.putN hup ⟨t0, t1, t2, t3, t4, t5⟩ _ _ _ _ _
  · exact set5 hB9 (Nat.le_refl _) _ _ _ _ _

theorem flt_one {s : Sp} {d e : Nat → Int} {z : Int} (hz : Flt (fun _ => chkE s d e) (fun _ => s.bits) 1 z) : z = chkE s d e := flt1 hz

set_option maxRecDepth 100000 in
set_option maxHeartbeats 2000000 in
theorem span1_Root (w : World) (s : Sp) (d e : Nat → Int) (hs : SpDig w s d e) (b' : Int) (k : Nat) (lo hi er : Int)
    (hM : ∀ (W : World) (B0 B cap : Nat), Below w.heap.size w W → SpC W B0 s → Spans W B 1 (fun _ => s) (fun _ => d) (fun _ => e) → Calls Try.prog 72 #[.func (.func 95) #[] #[.pointer (some ⟨B0, 0, none⟩)], .slice (some ⟨B, 0, none⟩) 1 cap] W (PairAns W b' k lo hi er)) :
    Calls Try.prog 38 #[.agg #[.bool s.ln, .slice s.la s.lN s.lc, .bool s.hn, .slice s.ha s.hN s.hc, .int .i64 s.bits]] w (PairAns w b' k lo hi er) := by
  have HM := hide hM
  have HS := hide (fun W hS => spans1 W s d e 26 hS)
  clear hM
  go_enter Try.func38, Try.ntmps38
  go_wp2_with fail
  obtain ⟨W, hW⟩ : ∃ W, W = (w.alloc (.cells #[.bool s.ln, .slice s.la s.lN s.lc, .bool s.hn, .slice s.ha s.hN s.hc, .int .i64 s.bits] 26)).alloc (.cells #[.bool false, .slice none 0 0, .bool false, .slice none 0 0, .int .i64 0] 26) := ⟨_, rfl⟩
  have s3 : W.heap.size = w.heap.size + 1 + 1 := by rw [hW]; simp
  have hBW : Below w.heap.size w W := by rw [hW]; exact bl2 _ _ _
  have a0 : SpC W w.heap.size s := by rw [hW]; exact ⟨by simp [go_sem], by simp [go_sem], by simp [go_sem], by simp [go_sem], by simp [go_sem]⟩
  have r0 : NoC W (w.heap.size + 1) := by rw [hW]; exact ⟨by simp [go_sem], by simp [go_sem], by simp [go_sem], by simp [go_sem], by simp [go_sem], fun o => by simp [go_sem]⟩
  rw [← hW, ← s3]
  clear hW
  refine (unhide HM _ _ _ _ (bthen hBW (bl1 _ _)) (a0.below (bl1 _ _)) (unhide HS W (hs.below hBW))).mono ?_
  rintro r w1 ⟨u, rfl, hub, hup, hb1⟩
  have hB1 : Below W.heap.size W w1 := bthen (bl1 _ _) hb1
  obtain ⟨q0, q1, q2, q3, q4, q5⟩ := r0.below hB1
  have HB := hide hub
  clear hub
  go_wp2_with fail
  refine bodyPost_ret (v := .tuple #[.agg #[.bool u.ln, .slice u.la u.lN u.lc, .bool u.hn, .slice u.ha u.hN u.hc, .int .i64 u.bits], .int .i64 er]) (by simp [results, Try.results38, go_sem, q0, q1, q2, q3, q4]) rfl ⟨u, rfl, unhide HB, ?_, ?_⟩
  · exact SpAt.put5 hup q0 q1 q2 q3 q4 _ _ _ _ _
  · exact set5 (bthen hBW hB1) (by omega) _ _ _ _ _

set_option maxRecDepth 100000 in
set_option maxHeartbeats 2000000 in
theorem span1_To (w : World) (s : Sp) (bt : Int) (d e : Nat → Int) (hs : SpDig w s d e) (b' : Int) (k : Nat) (lo hi er : Int)
    (hM : ∀ (W : World) (B0 B1 B cap : Nat), Below w.heap.size w W → SpC W B0 s → W.cell? ⟨B1, 0, none⟩ = some (.int .i64 bt) → B1 < W.heap.size → Spans W B 1 (fun _ => s) (fun _ => d) (fun _ => e) → Calls Try.prog 72 #[.func (.func 73) #[] #[.pointer (some ⟨B1, 0, none⟩), .pointer (some ⟨B0, 0, none⟩)], .slice (some ⟨B, 0, none⟩) 1 cap] W (PairAns W b' k lo hi er)) :
    Calls Try.prog 16 #[.agg #[.bool s.ln, .slice s.la s.lN s.lc, .bool s.hn, .slice s.ha s.hN s.hc, .int .i64 s.bits], .int .i64 bt] w (PairAns w b' k lo hi er) := by
  have HM := hide hM
  have HS := hide (fun W hS => spans1 W s d e 26 hS)
  clear hM
  go_enter Try.func16, Try.ntmps16
  go_wp2_with fail
  obtain ⟨W, hW⟩ : ∃ W, W = ((w.alloc (.cells #[.bool s.ln, .slice s.la s.lN s.lc, .bool s.hn, .slice s.ha s.hN s.hc, .int .i64 s.bits] 26)).alloc (.cells #[.int .i64 bt] 3)).alloc (.cells #[.bool false, .slice none 0 0, .bool false, .slice none 0 0, .int .i64 0] 26) := ⟨_, rfl⟩
  have s3 : W.heap.size = w.heap.size + 1 + 1 + 1 := by rw [hW]; simp
  have hBW : Below w.heap.size w W := by rw [hW]; exact bl3 _ _ _ _
  have a0 : SpC W w.heap.size s := by rw [hW]; exact ⟨by simp [go_sem], by simp [go_sem], by simp [go_sem], by simp [go_sem], by simp [go_sem]⟩
  have g0 : W.cell? ⟨w.heap.size + 1, 0, none⟩ = some (.int .i64 bt) := by rw [hW]; simp [go_sem]
  have g1 : w.heap.size + 1 < W.heap.size := by omega
  have r0 : NoC W (w.heap.size + 1 + 1) := by rw [hW]; exact ⟨by simp [go_sem], by simp [go_sem], by simp [go_sem], by simp [go_sem], by simp [go_sem], fun o => by simp [go_sem]⟩
  rw [← hW, ← s3]
  clear hW
  refine (unhide HM _ _ _ _ _ (bthen hBW (bl1 _ _)) (a0.below (bl1 _ _)) (((bl1 _ _).cell (p := ⟨w.heap.size + 1, 0, none⟩) g1).trans g0) (Nat.lt_of_lt_of_le g1 (bl1 _ _).size) (unhide HS W (hs.below hBW))).mono ?_
  rintro r w1 ⟨u, rfl, hub, hup, hb1⟩
  have hB1 : Below W.heap.size W w1 := bthen (bl1 _ _) hb1
  obtain ⟨q0, q1, q2, q3, q4, q5⟩ := r0.below hB1
  have HB := hide hub
  clear hub
  go_wp2_with fail
  refine bodyPost_ret (v := .tuple #[.agg #[.bool u.ln, .slice u.la u.lN u.lc, .bool u.hn, .slice u.ha u.hN u.hc, .int .i64 u.bits], .int .i64 er]) (by simp [results, Try.results16, go_sem, q0, q1, q2, q3, q4]) rfl ⟨u, rfl, unhide HB, ?_, ?_⟩
  · exact SpAt.put5 hup q0 q1 q2 q3 q4 _ _ _ _ _
  · exact set5 (bthen hBW hB1) (by omega) _ _ _ _ _
end Go.Proofs.Ytgmnknmjainabaa

namespace Go.Proofs.Ytgmnknmjainabaa
set_option linter.unusedVariables false
set_option linter.unusedSimpArgs false
set_option linter.unnecessarySimpa false
open Go.RowKit
attribute [local go_sem ↓] Go.wp_at_zero Go.wp_at_succ

/-- An errno ahead of an answer, one of its own, and what comes of a span that may be too wide. -/
def anE (E g L H : Int) : Int := if E ≠ 0 then E else if g ≠ 0 then g else fitE L H
def anV (E g L H x : Int) : Int := if E ≠ 0 then 0 else if g ≠ 0 then 0 else fitZ L H x
theorem an_bad {E g L H : Int} (h : E ≠ 0) : anE E g L H = E ∧ ∀ x, anV E g L H x = 0 := ⟨if_pos h, fun x => if_pos h⟩
theorem an_own {g L H : Int} (h : g ≠ 0) : anE 0 g L H = g ∧ ∀ x, anV 0 g L H x = 0 := ⟨by simp [anE, h], fun x => by simp [anV, h]⟩
theorem an_fit {L H : Int} : anE 0 0 L H = fitE L H ∧ ∀ x, anV 0 0 L H x = fitZ L H x := ⟨by simp [anE], fun x => by simp [anV]⟩
theorem an_zero {E g L H x : Int} (h : anE E g L H ≠ 0) : anV E g L H x = 0 := by
  unfold anE at h; unfold anV
  split
  · rfl
  · split
    · rfl
    · rename_i h1 h2
      rw [if_neg h1, if_neg h2] at h
      rcases fit_cases L H with ⟨_, f2, f3⟩ | ⟨_, f2, f3⟩
      · exact f3 x
      · exact absurd f2 h
def dvG (lo' hi' : Int) : Int := if lo' ≤ 0 ∧ 0 ≤ hi' then 5 else 0
def rtG (lo : Int) : Int := if lo < 0 then 5 else 0
def meG (lo hi lo' hi' : Int) : Int := if minZ hi hi' < maxZ lo lo' then 5 else 0

set_option maxRecDepth 100000 in
set_option maxHeartbeats 2000000 in
theorem sdiv1_bad (w : World) (B0 B1 : Nat) (s t : Sp) (k : Nat) (lo' hi' : Int) (ht : SpAt w t k lo' hi') (hp : lo' ≤ 0 ∧ 0 ≤ hi') (g : SpC w B1 t) :
    Calls Try.prog 93 #[.pointer (some ⟨B1, 0, none⟩), .pointer (some ⟨B0, 0, none⟩)] w (PairAns w 0 k 0 0 5) := by
  have t1 : cmpInt lo' 0 ≤ 0 := by unfold cmpInt; split <;> (try split) <;> omega
  have t2 : 0 ≤ cmpInt hi' 0 := by unfold cmpInt; rw [if_neg (by omega)]; split <;> omega
  have t2' : cmpInt hi' 0 ≥ 0 := t2
  obtain ⟨W, hW⟩ : ∃ W, W = w.alloc (.cells #[.bool false, .slice none 0 0, .bool false, .slice none 0 0, .int .i64 0] 26) := ⟨_, rfl⟩
  have hBW : Below w.heap.size w W := by rw [hW]; exact bl1 _ _
  have R : NoC W w.heap.size := by rw [hW]; exact noc_new _ _
  have G := g.below hBW
  replace ht := ht.below hBW
  have lG := G.lt
  obtain ⟨y0, y1, y2, y3, y4⟩ := G
  clear g hp
  go_enter Try.func93, Try.ntmps93
  go_upto_region 1 with fail
  rw [← hW]
  clear hW
  go_wp2_with fail
  refine (sign_int _ _ _ _ k lo' _ ht.lo).mono ?_
  rintro r w1 ⟨rfl, hb1⟩
  have G := (SpC.mk y0 y1 y2 y3 y4).below hb1
  replace R := R.below hb1
  replace ht := ht.below hb1
  replace hBW := bthen hBW hb1
  clear y0 y1 y2 y3 y4 lG hb1
  have lG := G.lt
  obtain ⟨y0, y1, y2, y3, y4⟩ := G
  go_wp2_with fail
  refine (sign_int _ _ _ _ k hi' _ ht.hi).mono ?_
  rintro r w2 ⟨rfl, hb2⟩
  replace R := R.below hb2
  replace hBW := bthen hBW hb2
  have lR := R.lt
  obtain ⟨q0, q1, q2, q3, q4, q5⟩ := R
  go_wp2_with fail
  refine bodyPost_ret (v := .tuple #[.agg #[.bool false, .slice none 0 0, .bool false, .slice none 0 0, .int .i64 0], .int .i64 5]) (by simp [results, Try.results93, go_sem, lR, q0, q1, q2, q3, q4]) rfl ⟨⟨false, none, 0, 0, false, none, 0, 0, 0⟩, rfl, rfl, zeroSp _ _, ?_⟩
  exact set5 hBW (Nat.le_refl _) _ _ _ _ _

set_option maxRecDepth 100000 in
set_option maxHeartbeats 2000000 in
theorem sdiv1_int (w : World) (B0 B1 : Nat) (s t : Sp) (k b : Nat) (lo hi lo' hi' : Int) (hs : SpAt w s k lo hi) (ht : SpAt w t k lo' hi') (hk : k ≤ 300000000) (hb : b ≤ 1000000) (hbits : s.bits = b) (hl : lo ≤ hi) (hp : ¬ (lo' ≤ 0 ∧ 0 ≤ hi')) (hp2 : lo' ≤ hi') (a : SpC w B0 s) (g : SpC w B1 t) :
    Calls Try.prog 93 #[.pointer (some ⟨B1, 0, none⟩), .pointer (some ⟨B0, 0, none⟩)] w (PairAns w s.bits (b / 16 + k + 10) (dvLo lo hi lo' hi' b) (dvHi lo hi lo' hi' b) 0) := by
  have HBT := hide hbits
  have HP := hide (show lo ≤ hi ∧ ¬ (lo' ≤ 0 ∧ 0 ≤ hi') ∧ lo' ≤ hi' from ⟨hl, hp, hp2⟩)
  have t1 : 0 < lo' → ¬ cmpInt lo' 0 ≤ 0 := by intro h; unfold cmpInt; rw [if_neg (by omega), if_pos h]; omega
  have t2 : ¬ 0 < lo' → cmpInt lo' 0 ≤ 0 := by intro h; unfold cmpInt; split <;> (try split) <;> omega
  have t3 : ¬ 0 < lo' → ¬ 0 ≤ cmpInt hi' 0 := by intro h; unfold cmpInt; rw [if_pos (by omega)]; omega
  obtain ⟨W, hW⟩ : ∃ W, W = w.alloc (.cells #[.bool false, .slice none 0 0, .bool false, .slice none 0 0, .int .i64 0] 26) := ⟨_, rfl⟩
  have hBW : Below w.heap.size w W := by rw [hW]; exact bl1 _ _
  have R : NoC W w.heap.size := by rw [hW]; exact noc_new _ _
  have A := a.below hBW
  have G := g.below hBW
  replace ht := ht.below hBW
  replace hs := hs.below hBW
  have lG := G.lt
  obtain ⟨y0, y1, y2, y3, y4⟩ := G
  clear g a hp hl hp2 hbits
  go_enter Try.func93, Try.ntmps93
  go_upto_region 1 with fail
  rw [← hW]
  clear hW
  go_wp2_with fail
  refine (sign_int _ _ _ _ k lo' _ ht.lo).mono ?_
  rintro r w1 ⟨rfl, hb1⟩
  have G := (SpC.mk y0 y1 y2 y3 y4).below hb1
  replace R := R.below hb1
  replace A := A.below hb1
  replace ht := ht.below hb1
  replace hs := hs.below hb1
  replace hBW := bthen hBW hb1
  clear y0 y1 y2 y3 y4 lG hb1
  have lG := G.lt
  have lA := A.lt
  by_cases hpos : 0 < lo'
  · have t4 : ¬ cmpInt lo' 0 ≤ 0 := by have := t1 (by omega); omega
    clear t1 t2 t3 hpos
    obtain ⟨y0, y1, y2, y3, y4⟩ := G
    obtain ⟨x0, x1, x2, x3, x4⟩ := A
    go_wp2_with fail
    refine (wideDiv_any _ s t k b lo hi lo' hi' hs ht hk hb (unhide HBT) (unhide HP).1 (unhide HP).2.1 (unhide HP).2.2).mono ?_
    rintro r w3 ⟨u, rfl, hub, hup, hb3⟩
    have HU := hide hub
    clear hub
    replace R := R.below hb3
    replace hBW := bthen hBW hb3
    have lR := R.lt
    obtain ⟨q0, q1, q2, q3, q4, q5⟩ := R
    go_wp2_with fail
    refine bodyPost_ret (v := .tuple #[.agg #[.bool u.ln, .slice u.la u.lN u.lc, .bool u.hn, .slice u.ha u.hN u.hc, .int .i64 u.bits], .int .i64 0]) (by simp [results, Try.results93, go_sem, lR, q0, q1, q2, q3, q4]) rfl ⟨u, rfl, (unhide HU).trans (unhide HBT).symm, ?_, ?_⟩
    · exact SpAt.put5 hup q0 q1 q2 q3 q4 _ _ _ _ _
    · exact set5 hBW (Nat.le_refl _) _ _ _ _ _
  · have t4 : cmpInt lo' 0 ≤ 0 := t2 (by omega)
    have t5 : ¬ 0 ≤ cmpInt hi' 0 := by have := t3 (by omega); omega
    have t5' : ¬ cmpInt hi' 0 ≥ 0 := by omega
    clear t1 t2 t3 hpos
    obtain ⟨y0, y1, y2, y3, y4⟩ := G
    go_wp2_with fail
    refine (sign_int _ _ _ _ k hi' _ ht.hi).mono ?_
    rintro r w2 ⟨rfl, hb2⟩
    have G := (SpC.mk y0 y1 y2 y3 y4).below hb2
    replace R := R.below hb2
    replace A := A.below hb2
    replace ht := ht.below hb2
    replace hs := hs.below hb2
    replace hBW := bthen hBW hb2
    clear y0 y1 y2 y3 y4 lG lA hb2
    have lG := G.lt
    have lA := A.lt
    obtain ⟨y0, y1, y2, y3, y4⟩ := G
    obtain ⟨x0, x1, x2, x3, x4⟩ := A
    go_wp2_with fail
    refine (wideDiv_any _ s t k b lo hi lo' hi' hs ht hk hb (unhide HBT) (unhide HP).1 (unhide HP).2.1 (unhide HP).2.2).mono ?_
    rintro r w3 ⟨u, rfl, hub, hup, hb3⟩
    have HU := hide hub
    clear hub
    replace R := R.below hb3
    replace hBW := bthen hBW hb3
    have lR := R.lt
    obtain ⟨q0, q1, q2, q3, q4, q5⟩ := R
    go_wp2_with fail
    refine bodyPost_ret (v := .tuple #[.agg #[.bool u.ln, .slice u.la u.lN u.lc, .bool u.hn, .slice u.ha u.hN u.hc, .int .i64 u.bits], .int .i64 0]) (by simp [results, Try.results93, go_sem, lR, q0, q1, q2, q3, q4]) rfl ⟨u, rfl, (unhide HU).trans (unhide HBT).symm, ?_, ?_⟩
    · exact SpAt.put5 hup q0 q1 q2 q3 q4 _ _ _ _ _
    · exact set5 hBW (Nat.le_refl _) _ _ _ _ _

set_option maxRecDepth 100000 in
set_option maxHeartbeats 2000000 in
theorem sroot1_bad (w : World) (B0 : Nat) (s : Sp) (k : Nat) (lo hi : Int) (hs : SpAt w s k lo hi) (hp : lo < 0) (a : SpC w B0 s) :
    Calls Try.prog 95 #[.pointer (some ⟨B0, 0, none⟩)] w (PairAns w 0 k 0 0 5) := by
  have t1 : cmpInt lo 0 < 0 := by unfold cmpInt; rw [if_pos hp]; omega
  obtain ⟨W, hW⟩ : ∃ W, W = w.alloc (.cells #[.bool false, .slice none 0 0, .bool false, .slice none 0 0, .int .i64 0] 26) := ⟨_, rfl⟩
  have hBW : Below w.heap.size w W := by rw [hW]; exact bl1 _ _
  have R : NoC W w.heap.size := by rw [hW]; exact noc_new _ _
  have A := a.below hBW
  replace hs := hs.below hBW
  have lA := A.lt
  obtain ⟨y0, y1, y2, y3, y4⟩ := A
  clear a hp
  go_enter Try.func95, Try.ntmps95
  go_upto_region 1 with fail
  rw [← hW]
  clear hW
  go_wp2_with fail
  refine (sign_int _ _ _ _ k lo _ hs.lo).mono ?_
  rintro r w1 ⟨rfl, hb1⟩
  replace R := R.below hb1
  replace hBW := bthen hBW hb1
  have lR := R.lt
  obtain ⟨q0, q1, q2, q3, q4, q5⟩ := R
  go_wp2_with fail
  refine bodyPost_ret (v := .tuple #[.agg #[.bool false, .slice none 0 0, .bool false, .slice none 0 0, .int .i64 0], .int .i64 5]) (by simp [results, Try.results95, go_sem, lR, q0, q1, q2, q3, q4]) rfl ⟨⟨false, none, 0, 0, false, none, 0, 0, 0⟩, rfl, rfl, zeroSp _ _, ?_⟩
  exact set5 hBW (Nat.le_refl _) _ _ _ _ _

set_option maxRecDepth 100000 in
set_option maxHeartbeats 2000000 in
theorem sroot1_int (w : World) (B0 : Nat) (s : Sp) (k b : Nat) (lo hi : Int) (hs : SpAt w s k lo hi) (hk : k ≤ 30000000) (hb : b ≤ 1000000) (hbits : s.bits = b) (hp : 0 ≤ lo) (a : SpC w B0 s) :
    Calls Try.prog 95 #[.pointer (some ⟨B0, 0, none⟩)] w (PairAns w s.bits (b / 16 + k + 20) (rtZ (lo * Q b)) (rtU (hi * Q b)) 0) := by
  have HBT := hide hbits
  have t1 : ¬ cmpInt lo 0 < 0 := by unfold cmpInt; rw [if_neg (by omega)]; split <;> omega
  obtain ⟨W, hW⟩ : ∃ W, W = w.alloc (.cells #[.bool false, .slice none 0 0, .bool false, .slice none 0 0, .int .i64 0] 26) := ⟨_, rfl⟩
  have hBW : Below w.heap.size w W := by rw [hW]; exact bl1 _ _
  have R : NoC W w.heap.size := by rw [hW]; exact noc_new _ _
  have A := a.below hBW
  replace hs := hs.below hBW
  have lA := A.lt
  obtain ⟨y0, y1, y2, y3, y4⟩ := A
  clear a hp hbits
  go_enter Try.func95, Try.ntmps95
  go_upto_region 1 with fail
  rw [← hW]
  clear hW
  go_wp2_with fail
  refine (sign_int _ _ _ _ k lo _ hs.lo).mono ?_
  rintro r w1 ⟨rfl, hb1⟩
  have A := (SpC.mk y0 y1 y2 y3 y4).below hb1
  replace R := R.below hb1
  replace hs := hs.below hb1
  replace hBW := bthen hBW hb1
  clear y0 y1 y2 y3 y4 lA hb1
  have lA := A.lt
  obtain ⟨y0, y1, y2, y3, y4⟩ := A
  go_wp2_with fail
  refine (wideRoot_int _ s k b lo hi hs hk hb (unhide HBT)).mono ?_
  rintro r w3 ⟨u, rfl, hub, hup, hb3⟩
  have HU := hide hub
  clear hub
  replace R := R.below hb3
  replace hBW := bthen hBW hb3
  have lR := R.lt
  obtain ⟨q0, q1, q2, q3, q4, q5⟩ := R
  go_wp2_with fail
  refine bodyPost_ret (v := .tuple #[.agg #[.bool u.ln, .slice u.la u.lN u.lc, .bool u.hn, .slice u.ha u.hN u.hc, .int .i64 u.bits], .int .i64 0]) (by simp [results, Try.results95, go_sem, lR, q0, q1, q2, q3, q4]) rfl ⟨u, rfl, (unhide HU).trans (unhide HBT).symm, ?_, ?_⟩
  · exact SpAt.put5 hup q0 q1 q2 q3 q4 _ _ _ _ _
  · exact set5 hBW (Nat.le_refl _) _ _ _ _ _

theorem saidDivA (s t : Sp) (d e d' e' : Nat → Int) :
    SaidP 37 s t d e d' e' (anV (fltE2 (chkE s d e) (chkE t d' e') s.bits t.bits) (dvG (loZ t d') (hiZ t e')) (dvLo (loZ s d) (hiZ s e) (loZ t d') (hiZ t e') s.bits.toNat) (dvHi (loZ s d) (hiZ s e) (loZ t d') (hiZ t e') s.bits.toNat) s.bits) 600 (anV (fltE2 (chkE s d e) (chkE t d' e') s.bits t.bits) (dvG (loZ t d') (hiZ t e')) (dvLo (loZ s d) (hiZ s e) (loZ t d') (hiZ t e') s.bits.toNat) (dvHi (loZ s d) (hiZ s e) (loZ t d') (hiZ t e') s.bits.toNat) (dvLo (loZ s d) (hiZ s e) (loZ t d') (hiZ t e') s.bits.toNat)) (anV (fltE2 (chkE s d e) (chkE t d' e') s.bits t.bits) (dvG (loZ t d') (hiZ t e')) (dvLo (loZ s d) (hiZ s e) (loZ t d') (hiZ t e') s.bits.toNat) (dvHi (loZ s d) (hiZ s e) (loZ t d') (hiZ t e') s.bits.toNat) (dvHi (loZ s d) (hiZ s e) (loZ t d') (hiZ t e') s.bits.toNat)) (anE (fltE2 (chkE s d e) (chkE t d' e') s.bits t.bits) (dvG (loZ t d') (hiZ t e')) (dvLo (loZ s d) (hiZ s e) (loZ t d') (hiZ t e') s.bits.toNat) (dvHi (loZ s d) (hiZ s e) (loZ t d') (hiZ t e') s.bits.toNat)) := by
  intro W hs ht
  by_cases hE : (fltE2 (chkE s d e) (chkE t d' e') s.bits t.bits) = 0
  · obtain ⟨c1, c2, hbt⟩ := flt0 hE
    obtain ⟨p1, p2, p3, p4⟩ := chk_ok hs c1
    obtain ⟨r1, r2, r3, r4⟩ := chk_ok ht c2
    replace p1 : SpAt W s 250 (loZ s d) (hiZ s e) := p1
    replace r1 : SpAt W t 250 (loZ t d') (hiZ t e') := r1
    have hl : loZ s d ≤ hiZ s e := p4
    have hl' : loZ t d' ≤ hiZ t e' := r4
    obtain ⟨b, hb⟩ : ∃ b : Nat, s.bits = (b : Int) := ⟨s.bits.toNat, by omega⟩
    have hbn : s.bits.toNat = b := by omega
    refine span2_Div W s t d e d' e' hs ht _ _ _ _ _ fun W1 B0 B1 B cap hB hA hG hS => ?_
    by_cases hn : (loZ t d') ≤ 0 ∧ 0 ≤ (hiZ t e')
    · have hg : dvG (loZ t d') (hiZ t e') = 5 := if_pos hn
      rw [hE, hg]
      obtain ⟨a1, a2⟩ := an_own (g := 5) (L := dvLo (loZ s d) (hiZ s e) (loZ t d') (hiZ t e') s.bits.toNat) (H := dvHi (loZ s d) (hiZ s e) (loZ t d') (hiZ t e') s.bits.toNat) (by decide)
      rw [a1, a2, a2, a2]
      exact made_err_Div _ _ B W1 _ _ _ 2 cap (by omega) hS (fun z hz => by rw [flt_pr hz, hE]) 0 600 0 0 5 (by decide)
        (fun w' hb => (sdiv1_bad w' B0 B1 s t 250 _ _ ((r1.below hB).below hb) hn (hG.below hb)).mono fun r w2 h => h.mono (by omega))
    · have hg : dvG (loZ t d') (hiZ t e') = 0 := if_neg hn
      rw [hE, hg]
      obtain ⟨a1, a2⟩ := an_fit (L := dvLo (loZ s d) (hiZ s e) (loZ t d') (hiZ t e') s.bits.toNat) (H := dvHi (loZ s d) (hiZ s e) (loZ t d') (hiZ t e') s.bits.toNat)
      rw [a1, a2, a2, a2]
      exact made_fit_Div _ _ B W1 _ _ _ 2 cap (by omega) hS (fun z hz => by rw [flt_pr hz, hE]) s.bits 600 _ _
        (fun w' hb9 => by
          rw [hbn]
          exact (sdiv1_int w' B0 B1 s t 250 b _ _ _ _ ((p1.below hB).below hb9) ((r1.below hB).below hb9) (by omega) (by omega) hb hl hn hl' (hA.below hb9) (hG.below hb9)).mono fun r w2 h => h.mono (by omega)) (dv_le _ _ _ _ _ hl hn hl') p2 p3
  · obtain ⟨a1, a2⟩ := an_bad (g := (dvG (loZ t d') (hiZ t e'))) (L := dvLo (loZ s d) (hiZ s e) (loZ t d') (hiZ t e') s.bits.toNat) (H := dvHi (loZ s d) (hiZ s e) (loZ t d') (hiZ t e') s.bits.toNat) hE
    rw [a1, a2, a2, a2]
    exact spanDiv_bad W s t d e d' e' hs ht hE 600

theorem saidMeetA (s t : Sp) (d e d' e' : Nat → Int) :
    SaidP 39 s t d e d' e' (anV (fltE2 (chkE s d e) (chkE t d' e') s.bits t.bits) (meG (loZ s d) (hiZ s e) (loZ t d') (hiZ t e')) (maxZ (loZ s d) (loZ t d')) (minZ (hiZ s e) (hiZ t e')) s.bits) 600 (anV (fltE2 (chkE s d e) (chkE t d' e') s.bits t.bits) (meG (loZ s d) (hiZ s e) (loZ t d') (hiZ t e')) (maxZ (loZ s d) (loZ t d')) (minZ (hiZ s e) (hiZ t e')) (maxZ (loZ s d) (loZ t d'))) (anV (fltE2 (chkE s d e) (chkE t d' e') s.bits t.bits) (meG (loZ s d) (hiZ s e) (loZ t d') (hiZ t e')) (maxZ (loZ s d) (loZ t d')) (minZ (hiZ s e) (hiZ t e')) (minZ (hiZ s e) (hiZ t e'))) (anE (fltE2 (chkE s d e) (chkE t d' e') s.bits t.bits) (meG (loZ s d) (hiZ s e) (loZ t d') (hiZ t e')) (maxZ (loZ s d) (loZ t d')) (minZ (hiZ s e) (hiZ t e'))) := by
  intro W hs ht
  by_cases hE : (fltE2 (chkE s d e) (chkE t d' e') s.bits t.bits) = 0
  · obtain ⟨c1, c2, hbt⟩ := flt0 hE
    obtain ⟨p1, p2, p3, p4⟩ := chk_ok hs c1
    obtain ⟨r1, r2, r3, r4⟩ := chk_ok ht c2
    replace p1 : SpAt W s 250 (loZ s d) (hiZ s e) := p1
    replace r1 : SpAt W t 250 (loZ t d') (hiZ t e') := r1
    have hl : loZ s d ≤ hiZ s e := p4
    have hl' : loZ t d' ≤ hiZ t e' := r4
    obtain ⟨b, hb⟩ : ∃ b : Nat, s.bits = (b : Int) := ⟨s.bits.toNat, by omega⟩
    have hbn : s.bits.toNat = b := by omega
    refine span2_Meet W s t d e d' e' hs ht _ _ _ _ _ fun W1 B0 B1 B cap hB hA hG hS => ?_
    by_cases hn : minZ (hiZ s e) (hiZ t e') < maxZ (loZ s d) (loZ t d')
    · have hg : meG (loZ s d) (hiZ s e) (loZ t d') (hiZ t e') = 5 := if_pos hn
      rw [hE, hg]
      obtain ⟨a1, a2⟩ := an_own (g := 5) (L := maxZ (loZ s d) (loZ t d')) (H := minZ (hiZ s e) (hiZ t e')) (by decide)
      rw [a1, a2, a2, a2]
      exact made_err_Meet _ _ B W1 _ _ _ 2 cap (by omega) hS (fun z hz => by rw [flt_pr hz, hE]) 0 600 0 0 5 (by decide)
        (fun w' hb => (meet1_int w' B0 B1 s t 250 _ _ _ _ ((p1.below hB).below hb) ((r1.below hB).below hb) (by omega) (hA.below hb) (hG.below hb)).mono fun r w2 h => (h.1 hn).mono (by omega))
    · have hg : meG (loZ s d) (hiZ s e) (loZ t d') (hiZ t e') = 0 := if_neg hn
      rw [hE, hg]
      obtain ⟨a1, a2⟩ := an_fit (L := maxZ (loZ s d) (loZ t d')) (H := minZ (hiZ s e) (hiZ t e'))
      rw [a1, a2, a2, a2]
      exact made_fit_Meet _ _ B W1 _ _ _ 2 cap (by omega) hS (fun z hz => by rw [flt_pr hz, hE]) s.bits 600 _ _
        (fun w' hb9 => (meet1_int w' B0 B1 s t 250 _ _ _ _ ((p1.below hB).below hb9) ((r1.below hB).below hb9) (by omega) (hA.below hb9) (hG.below hb9)).mono fun r w2 h => (h.2 (by omega)).mono (by omega)) (by omega) p2 p3
  · obtain ⟨a1, a2⟩ := an_bad (g := (meG (loZ s d) (hiZ s e) (loZ t d') (hiZ t e'))) (L := maxZ (loZ s d) (loZ t d')) (H := minZ (hiZ s e) (hiZ t e')) hE
    rw [a1, a2, a2, a2]
    exact spanMeet_bad W s t d e d' e' hs ht hE 600

/-- What span.Root answers of whatever span. -/
theorem saidRootA (s : Sp) (d e : Nat → Int) (W : World) (hs : SpDig W s d e) :
    Calls Try.prog 38 #[.agg #[.bool s.ln, .slice s.la s.lN s.lc, .bool s.hn, .slice s.ha s.hN s.hc, .int .i64 s.bits]] W (PairAns W (anV (chkE s d e) (rtG (loZ s d)) (rtZ ((loZ s d) * Q s.bits.toNat)) (rtU ((hiZ s e) * Q s.bits.toNat)) s.bits) 600 (anV (chkE s d e) (rtG (loZ s d)) (rtZ ((loZ s d) * Q s.bits.toNat)) (rtU ((hiZ s e) * Q s.bits.toNat)) (rtZ ((loZ s d) * Q s.bits.toNat))) (anV (chkE s d e) (rtG (loZ s d)) (rtZ ((loZ s d) * Q s.bits.toNat)) (rtU ((hiZ s e) * Q s.bits.toNat)) (rtU ((hiZ s e) * Q s.bits.toNat))) (anE (chkE s d e) (rtG (loZ s d)) (rtZ ((loZ s d) * Q s.bits.toNat)) (rtU ((hiZ s e) * Q s.bits.toNat)))) := by
  by_cases hE : chkE s d e = 0
  · obtain ⟨p1, p2, p3, p4⟩ := chk_ok hs hE
    replace p1 : SpAt W s 250 (loZ s d) (hiZ s e) := p1
    have hl : loZ s d ≤ hiZ s e := p4
    obtain ⟨b, hb⟩ : ∃ b : Nat, s.bits = (b : Int) := ⟨s.bits.toNat, by omega⟩
    have hbn : s.bits.toNat = b := by omega
    refine span1_Root W s d e hs _ _ _ _ _ fun W1 B0 B cap hB hA hS => ?_
    by_cases hn : (loZ s d) < 0
    · have hg : rtG (loZ s d) = 5 := if_pos hn
      rw [hE, hg]
      obtain ⟨a1, a2⟩ := an_own (g := 5) (L := rtZ ((loZ s d) * Q s.bits.toNat)) (H := rtU ((hiZ s e) * Q s.bits.toNat)) (by decide)
      rw [a1, a2, a2, a2]
      exact made_err_Root _ B W1 _ _ _ 1 cap (by omega) hS (fun z hz => by rw [flt_one hz, hE]) 0 600 0 0 5 (by decide)
        (fun w' hb => (sroot1_bad w' B0 s 250 _ _ ((p1.below hB).below hb) hn (hA.below hb)).mono fun r w2 h => h.mono (by omega))
    · have hg : rtG (loZ s d) = 0 := if_neg hn
      rw [hE, hg]
      obtain ⟨a1, a2⟩ := an_fit (L := rtZ ((loZ s d) * Q s.bits.toNat)) (H := rtU ((hiZ s e) * Q s.bits.toNat))
      rw [a1, a2, a2, a2]
      have hq := Q_pos s.bits.toNat
      exact made_fit_Root _ B W1 _ _ _ 1 cap (by omega) hS (fun z hz => by rw [flt_one hz, hE]) s.bits 600 _ _
        (fun w' hb9 => by
          rw [hbn]
          exact (sroot1_int w' B0 s 250 b _ _ ((p1.below hB).below hb9) (by omega) (by omega) hb (by omega) (hA.below hb9)).mono fun r w2 h => h.mono (by omega)) (rtZ_le_rtU (Int.mul_le_mul_of_nonneg_right hl (by omega)) (Int.mul_nonneg (by omega) (by omega))) p2 p3
  · obtain ⟨a1, a2⟩ := an_bad (g := rtG (loZ s d)) (L := rtZ ((loZ s d) * Q s.bits.toNat)) (H := rtU ((hiZ s e) * Q s.bits.toNat)) hE
    rw [a1, a2, a2, a2]
    exact span1_Root W s d e hs _ _ _ _ _ fun W1 B0 B cap hB hA hS => made_bad_Root _ B W1 _ _ _ 1 cap (by omega) hS _ (fun z hz => flt_one hz) hE 600
end Go.Proofs.Ytgmnknmjainabaa
