/-
  What errorf.Erf and errorf.Erfc answer, errors too, and that they leave old memory alone.
  The error function of the opposite, of what is more; and what Erf and Erfc are together: told of their numbers. Plain arithmetic: no statement of the seat is proved here.
  Whether two spans touch (tailsureref.Touch), and that it leaves old memory alone.
  What comes of being sure of a power or of a logarithm; tailsurelaw.powerBegun is true; tailsurelaw.touch.
  Two variables of spans in memory that are made in one statement, wherever they came to lie.
  What tailsureref.lowExp answers, and that it leaves old memory alone.
  What tailsureref.Raised answers, and that it leaves old memory alone.
  What tailsureref.Exp answers of whatever number, and tailsureref.ExpOf of a span; that they leave old memory alone.
  tailsureref.Ready of a row of ratios; tailsurelaw.far; tailsurelaw.sure.
  tailsurelaw.errorBegun is true.
  tailsurelaw.PowerExps returns true of whatever ratio and bits.
-/
import Derived.Test.YtgmnknmjainababK16
namespace Go.Proofs.Ytgmnknmjainabab
set_option linter.unusedVariables false
set_option linter.unusedSimpArgs false
set_option linter.unnecessarySimpa false
open Go.RowKit
attribute [local go_sem ↓] Go.wp_at_zero Go.wp_at_succ

theorem fl_one {c m : Int} (hm : 1 ≤ m) : (c * m - 1) / m = c - 1 := by
  have e1 : (c - 1) * m = c * m - m := by grind
  have e2 : (c - 1 + 1) * m = c * m := by grind
  have h1 : (c - 1) * m ≤ c * m - 1 := by omega
  have h2 : c * m - 1 < (c - 1 + 1) * m := by omega
  have a := Int.le_ediv_of_mul_le (show 0 < m by omega) h1
  have b := Int.ediv_lt_of_lt_mul (show 0 < m by omega) h2
  omega
theorem fl_all {c m : Int} (hm : 1 ≤ m) : (c * m) / m = c := Int.mul_ediv_cancel c (by omega)
/-- Far away, as it comes at the first try. -/
theorem far_er (p : Int) (b : Nat) : (sgn2 p (Q b - 1, Q b)).1 = (sgn2 p (Q (b + 32) - 1, Q (b + 32))).1 / Q 32 ∧ (sgn2 p (Q b - 1, Q b)).2 = -(-(sgn2 p (Q (b + 32) - 1, Q (b + 32))).2 / Q 32) := by
  have q := Q_pos 32
  have e : Q (b + 32) = Q b * Q 32 := Q_add b 32
  unfold sgn2
  by_cases hp : p < 0
  · rw [if_pos hp, if_pos hp]
    simp only []
    rw [e, Int.neg_neg]
    refine ⟨?_, ?_⟩
    · rw [← Int.neg_mul, fl_all q]
    · rw [fl_one q]
  · rw [if_neg hp, if_neg hp]
    simp only []
    rw [e]
    refine ⟨(fl_one q).symm, ?_⟩
    rw [← Int.neg_mul, fl_all q]; omega
theorem far_ec (p : Int) (b : Nat) : (restI b (sgn2 p (Q b - 1, Q b))).1 = (restI (b + 32) (sgn2 p (Q (b + 32) - 1, Q (b + 32)))).1 / Q 32 ∧ (restI b (sgn2 p (Q b - 1, Q b))).2 = -(-(restI (b + 32) (sgn2 p (Q (b + 32) - 1, Q (b + 32)))).2 / Q 32) := by
  have q := Q_pos 32
  have e : Q (b + 32) = Q b * Q 32 := Q_add b 32
  unfold restI sgn2
  by_cases hp : p < 0
  · rw [if_pos hp, if_pos hp]
    simp only []
    rw [e]
    refine ⟨?_, ?_⟩
    · rw [show Q b * Q 32 - -(Q b * Q 32 - 1) = (2 * Q b) * Q 32 - 1 by grind, fl_one q]; omega
    · rw [show -(Q b * Q 32 - -(Q b * Q 32)) = (-(2 * Q b)) * Q 32 by grind, fl_all q]; omega
  · rw [if_neg hp, if_neg hp]
    simp only []
    rw [e]
    refine ⟨?_, ?_⟩
    · rw [show Q b * Q 32 - Q b * Q 32 = 0 * Q 32 by grind, fl_all q]; omega
    · rw [show -(Q b * Q 32 - (Q b * Q 32 - 1)) = 0 * Q 32 - 1 by grind, fl_one q]; omega
theorem P250_big {b : Nat} (hb : b ≤ 120) : 2 * Q b < P 250 := by
  rw [← Q_P]
  have h2 : Q (b + 1) = 2 * Q b := rfl
  have h3 : Q (b + 2) = 2 * Q (b + 1) := rfl
  have := Q_mono (show b + 2 ≤ 16 * 250 by omega)
  have := Q_pos b
  omega

set_option maxRecDepth 100000 in
set_option maxHeartbeats 2000000 in
theorem sured_erf (R : Nat → Rat) (hR : RootS piS R) (p q : Int) (b : Nat) (B0 : Nat) (w : World) (hr : rok p q) (h5 : 8 ≤ b) (h6 : b ≤ 120) (A : RaC w B0 p q) :
    Calls Try.prog 74 #[.int .i64 b, .func (.func 42) #[] #[.pointer (some ⟨B0, 0, none⟩)]] w (fun r w' => ∃ L H, ErV R p q b L H ∧ SpanAns w b 250 L H r w') := by
  have q1 := hr.2.2.1
  have qq : 0 < q * q := Int.mul_pos (by omega) (by omega)
  by_cases hn : p * p < q * q * ((b : Int) + 32)
  · have h152 : p * p < 152 * (q * q) := by
      have := Int.mul_le_mul_of_nonneg_left (show (b : Int) + 32 ≤ 152 by omega) (show 0 ≤ q * q by omega)
      have e : q * q * 152 = 152 * (q * q) := by grind
      omega
    refine (sure_erf _ b 4500 3002 (ErPr R p q) w h6 (by omega) (by omega) (er_ends R p q h6) (fun m w' hm hm2 hbw => ?_)).mono fun r w' ⟨L, H, h1, h2⟩ => ⟨L, H, sure_er hn h1, h2⟩
    have hlt : p * p < q * q * ((b + m : Nat) : Int) := by
      have := Int.mul_le_mul_of_nonneg_left (show (b : Int) + 32 ≤ ((b + m : Nat) : Int) by omega) (show 0 ≤ q * q by omega)
      omega
    obtain ⟨s, e, c1, c2⟩ := er_near hR hr h152 (show 40 ≤ b + m by omega) (show b + m ≤ 10000 by omega) hlt
    have eB : ((b : Int) + (m : Int)) = ((b + m : Nat) : Int) := by omega
    rw [eB]
    exact (erf1_iv w' B0 p q (b + m) s e hr (A.below hbw) (by omega) c1).mono fun r w'' h => ⟨_, _, ⟨s, e, c2, rfl, rfl⟩, h⟩
  · have hf : q * q * ((b + 32 : Nat) : Int) ≤ p * p := by
      have e : ((b + 32 : Nat) : Int) = (b : Int) + 32 := by omega
      rw [e]; omega
    have c1 := er_far (show 40 ≤ b + 32 by omega) (show b + 32 ≤ 10000 by omega) hf
    obtain ⟨e1, e2⟩ := far_er p b
    have pb := P250_big h6
    have qb := Q_pos b
    have g : -P 250 < (sgn2 p (Q b - 1, Q b)).1 ∧ (sgn2 p (Q b - 1, Q b)).2 < P 250 ∧ (sgn2 p (Q b - 1, Q b)).2 - (sgn2 p (Q b - 1, Q b)).1 = 1 ∧ -Q b ≤ (sgn2 p (Q b - 1, Q b)).1 ∧ (sgn2 p (Q b - 1, Q b)).2 ≤ Q b := by
      unfold sgn2
      by_cases hp : p < 0
      · rw [if_pos hp]; refine ⟨?_, ?_, ?_, ?_, ?_⟩ <;> (simp only []; omega)
      · rw [if_neg hp]; refine ⟨?_, ?_, ?_, ?_, ?_⟩ <;> (simp only []; omega)
    refine (sure1_erf _ b 3002 _ _ _ _ w h6 (by omega) e1 e2 (by omega) (by omega) g.1 g.2.1 (fun w' hbw => ?_)).mono fun r w' h => ⟨_, _, ⟨by omega, g.2.2.2.1, g.2.2.2.2, narB_small (by omega) (by omega), Or.inl ⟨by omega, rfl⟩⟩, h⟩
    have eB : ((b : Int) + 32) = ((b + 32 : Nat) : Int) := by omega
    rw [eB]
    exact erf1_iv w' B0 p q (b + 32) _ _ hr (A.below hbw) (by omega) c1

set_option maxRecDepth 100000 in
set_option maxHeartbeats 2000000 in
theorem made_erf_ok (R : Nat → Rat) (hR : RootS piS R) (p q : Int) (b : Nat) (B0 : Nat) (w : World) (hr : rok p q) (h5 : 8 ≤ b) (h6 : b ≤ 120) (A0 : RaC w B0 p q) :
    Calls Try.prog 41 #[.agg #[.int .i64 p, .int .i64 q], .int .i64 b, .func (.func 42) #[] #[.pointer (some ⟨B0, 0, none⟩)]] w (fun r w' => ∃ L H, ErV R p q b L H ∧ PairAns w b 250 L H 0 r w') := by
  have d1 : ratE p q b = 0 := by unfold ratE; rw [if_pos]; exact ⟨hr, by omega, by omega⟩
  have HR := hide hr
  have HA := hide A0
  clear hr A0
  go_enter Try.func41, Try.ntmps41
  go_wp2_with (go_at_call 65; refine (ratioFault1 _ _ _ (by simp) _ _ _ _).mono ?_; rintro r w1 ⟨rfl, hb1⟩; rw [d1]; obtain ⟨hsz1, hcell1, hfz1⟩ := near (w.heap.size + 1 + 1) (by simp) hb1)
  have R' : NoC w1 (w.heap.size + 1) := ⟨by simp [hcell1, go_sem], by simp [hcell1, go_sem], by simp [hcell1, go_sem], by simp [hcell1, go_sem], by simp [hcell1, go_sem], fun o => by simp [hfz1, go_sem]⟩
  have hBw : Below w.heap.size w w1 := bthen (bl2 _ _ _) hb1
  clear hcell1 hfz1 hb1
  have lR := R'.lt
  refine (sured_erf R hR p q b B0 _ (unhide HR) h5 h6 ((unhide HA).below hBw)).mono ?_
  rintro r' w3 ⟨L, H, hLH, u, rfl, hub, hup, hb3⟩
  obtain ⟨q0, q1, q2, q3, q4, q5⟩ := R'.below hb3
  replace hBw := bthen hBw hb3
  have HU := hide hub
  have HLH := hide hLH
  clear hub hLH
  go_wp2_with fail
  refine bodyPost_ret (v := .tuple #[.agg #[.bool u.ln, .slice u.la u.lN u.lc, .bool u.hn, .slice u.ha u.hN u.hc, .int .i64 u.bits], .int .i64 0]) (by simp [results, Try.results41, go_sem, q0, q1, q2, q3, q4]) rfl ⟨L, H, unhide HLH, u, rfl, unhide HU, ?_, ?_⟩
  · exact SpAt.put5 hup q0 q1 q2 q3 q4 _ _ _ _ _
  · exact set5 hBw (Nat.le_succ _) _ _ _ _ _

set_option maxRecDepth 100000 in
set_option maxHeartbeats 2000000 in
theorem made_erf_bad (p q b : Int) (B0 : Nat) (w : World) (h : ¬ (rok p q ∧ 8 ≤ b ∧ b ≤ 120)) :
    Calls Try.prog 41 #[.agg #[.int .i64 p, .int .i64 q], .int .i64 b, .func (.func 42) #[] #[.pointer (some ⟨B0, 0, none⟩)]] w (PairAns w 0 250 0 0 3) := by
  have d1 : ratE p q b = 3 := by unfold ratE; rw [if_neg h]
  clear h
  go_enter Try.func41, Try.ntmps41
  go_wp2_with (go_at_call 65; refine (ratioFault1 _ _ _ (by simp) _ _ _ _).mono ?_; rintro r w1 ⟨rfl, hb1⟩; rw [d1]; obtain ⟨hsz1, hcell1, hfz1⟩ := near (w.heap.size + 1 + 1) (by simp) hb1)
  refine bodyPost_ret (v := .tuple #[.agg #[.bool false, .slice none 0 0, .bool false, .slice none 0 0, .int .i64 0], .int .i64 3]) (by simp [results, Try.results41, go_sem, hcell1]) rfl ⟨⟨false, none, 0, 0, false, none, 0, 0, 0⟩, rfl, rfl, zeroSp _ _, ?_⟩
  exact set5 (bthen (bl2 _ _ _) hb1) (Nat.le_succ _) _ _ _ _ _

set_option maxRecDepth 100000 in
set_option maxHeartbeats 2000000 in
theorem cerf_ok (R : Nat → Rat) (hR : RootS piS R) (p q : Int) (b : Nat) (w : World) (hr : rok p q) (h5 : 8 ≤ b) (h6 : b ≤ 120) :
    Calls Try.prog 9 #[.agg #[.int .i64 p, .int .i64 q], .int .i64 b] w (fun r w' => ∃ L H, ErV R p q b L H ∧ PairAns w b 250 L H 0 r w') := by
  obtain ⟨W, hW⟩ : ∃ W, W = (w.alloc (.cells #[.int .i64 p, .int .i64 q] 23)).alloc (.cells #[.bool false, .slice none 0 0, .bool false, .slice none 0 0, .int .i64 0] 28) := ⟨_, rfl⟩
  have hBW : Below w.heap.size w W := by rw [hW]; exact bl2 _ _ _
  have A : RaC W w.heap.size p q := by rw [hW]; exact ⟨by simp [go_sem], by simp [go_sem]⟩
  have R' : NoC W (w.heap.size + 1) := by rw [hW]; exact ⟨by simp [go_sem], by simp [go_sem], by simp [go_sem], by simp [go_sem], by simp [go_sem], fun o => by simp [go_sem]⟩
  have HR := hide hr
  clear hr
  go_enter Try.func9, Try.ntmps9
  go_wp2_with fail
  rw [← hW]
  clear hW
  refine (made_erf_ok R hR p q b w.heap.size _ (unhide HR) h5 h6 A).mono ?_
  rintro r' w3 ⟨L, H, hLH, u, rfl, hub, hup, hb3⟩
  obtain ⟨q0, q1, q2, q3, q4, q5⟩ := R'.below hb3
  have lR := (R'.below hb3).lt
  replace hBW := bthen hBW hb3
  have HU := hide hub
  have HLH := hide hLH
  clear hub hLH
  go_wp2_with fail
  refine bodyPost_ret (v := .tuple #[.agg #[.bool u.ln, .slice u.la u.lN u.lc, .bool u.hn, .slice u.ha u.hN u.hc, .int .i64 u.bits], .int .i64 0]) (by simp [results, Try.results9, go_sem, q0, q1, q2, q3, q4]) rfl ⟨L, H, unhide HLH, u, rfl, unhide HU, ?_, ?_⟩
  · exact SpAt.put5 hup q0 q1 q2 q3 q4 _ _ _ _ _
  · exact set5 hBW (Nat.le_succ _) _ _ _ _ _

set_option maxRecDepth 100000 in
set_option maxHeartbeats 2000000 in
theorem cerf_bad (p q b : Int) (w : World) (h : ¬ (rok p q ∧ 8 ≤ b ∧ b ≤ 120)) :
    Calls Try.prog 9 #[.agg #[.int .i64 p, .int .i64 q], .int .i64 b] w (PairAns w 0 250 0 0 3) := by
  obtain ⟨W, hW⟩ : ∃ W, W = (w.alloc (.cells #[.int .i64 p, .int .i64 q] 23)).alloc (.cells #[.bool false, .slice none 0 0, .bool false, .slice none 0 0, .int .i64 0] 28) := ⟨_, rfl⟩
  have hBW : Below w.heap.size w W := by rw [hW]; exact bl2 _ _ _
  have A : RaC W w.heap.size p q := by rw [hW]; exact ⟨by simp [go_sem], by simp [go_sem]⟩
  have R' : NoC W (w.heap.size + 1) := by rw [hW]; exact ⟨by simp [go_sem], by simp [go_sem], by simp [go_sem], by simp [go_sem], by simp [go_sem], fun o => by simp [go_sem]⟩
  have HR := hide h
  clear h
  go_enter Try.func9, Try.ntmps9
  go_wp2_with fail
  rw [← hW]
  clear hW
  refine (made_erf_bad p q b w.heap.size _ (unhide HR)).mono ?_
  rintro r' w3 ⟨u, rfl, hub, hup, hb3⟩
  obtain ⟨q0, q1, q2, q3, q4, q5⟩ := R'.below hb3
  have lR := (R'.below hb3).lt
  replace hBW := bthen hBW hb3
  have HU := hide hub
  clear hub
  go_wp2_with fail
  refine bodyPost_ret (v := .tuple #[.agg #[.bool u.ln, .slice u.la u.lN u.lc, .bool u.hn, .slice u.ha u.hN u.hc, .int .i64 u.bits], .int .i64 3]) (by simp [results, Try.results9, go_sem, q0, q1, q2, q3, q4]) rfl ⟨u, rfl, unhide HU, ?_, ?_⟩
  · exact SpAt.put5 hup q0 q1 q2 q3 q4 _ _ _ _ _
  · exact set5 hBW (Nat.le_succ _) _ _ _ _ _

set_option maxRecDepth 100000 in
set_option maxHeartbeats 2000000 in
theorem sured_erfc (R : Nat → Rat) (hR : RootS piS R) (p q : Int) (b : Nat) (B0 : Nat) (w : World) (hr : rok p q) (h5 : 8 ≤ b) (h6 : b ≤ 120) (A : RaC w B0 p q) :
    Calls Try.prog 74 #[.int .i64 b, .func (.func 44) #[] #[.pointer (some ⟨B0, 0, none⟩)]] w (fun r w' => ∃ L H, EcV R p q b L H ∧ SpanAns w b 250 L H r w') := by
  have q1 := hr.2.2.1
  have qq : 0 < q * q := Int.mul_pos (by omega) (by omega)
  by_cases hn : p * p < q * q * ((b : Int) + 32)
  · have h152 : p * p < 152 * (q * q) := by
      have := Int.mul_le_mul_of_nonneg_left (show (b : Int) + 32 ≤ 152 by omega) (show 0 ≤ q * q by omega)
      have e : q * q * 152 = 152 * (q * q) := by grind
      omega
    refine (sure_erfc _ b 4500 3002 (EcPr R p q) w h6 (by omega) (by omega) (ec_ends R p q h6) (fun m w' hm hm2 hbw => ?_)).mono fun r w' ⟨L, H, h1, h2⟩ => ⟨L, H, sure_ec hn h1, h2⟩
    have hlt : p * p < q * q * ((b + m : Nat) : Int) := by
      have := Int.mul_le_mul_of_nonneg_left (show (b : Int) + 32 ≤ ((b + m : Nat) : Int) by omega) (show 0 ≤ q * q by omega)
      omega
    obtain ⟨s, e, c1, c2⟩ := er_near hR hr h152 (show 40 ≤ b + m by omega) (show b + m ≤ 10000 by omega) hlt
    have eB : ((b : Int) + (m : Int)) = ((b + m : Nat) : Int) := by omega
    rw [eB]
    exact (erfc1_iv w' B0 p q (b + m) s e hr (A.below hbw) (by omega) c1).mono fun r w'' h => ⟨_, _, ⟨s, e, c2, rfl, rfl⟩, h⟩
  · have hf : q * q * ((b + 32 : Nat) : Int) ≤ p * p := by
      have e : ((b + 32 : Nat) : Int) = (b : Int) + 32 := by omega
      rw [e]; omega
    have c1 := er_far (show 40 ≤ b + 32 by omega) (show b + 32 ≤ 10000 by omega) hf
    obtain ⟨e1, e2⟩ := far_ec p b
    have pb := P250_big h6
    have qb := Q_pos b
    have g : -P 250 < (restI b (sgn2 p (Q b - 1, Q b))).1 ∧ (restI b (sgn2 p (Q b - 1, Q b))).2 < P 250 ∧ (restI b (sgn2 p (Q b - 1, Q b))).2 - (restI b (sgn2 p (Q b - 1, Q b))).1 = 1 ∧ 0 ≤ (restI b (sgn2 p (Q b - 1, Q b))).1 ∧ (restI b (sgn2 p (Q b - 1, Q b))).2 ≤ 2 * Q b := by
      unfold restI sgn2
      by_cases hp : p < 0
      · rw [if_pos hp]; refine ⟨?_, ?_, ?_, ?_, ?_⟩ <;> (simp only []; omega)
      · rw [if_neg hp]; refine ⟨?_, ?_, ?_, ?_, ?_⟩ <;> (simp only []; omega)
    refine (sure1_erfc _ b 3002 _ _ _ _ w h6 (by omega) e1 e2 (by omega) (by omega) g.1 g.2.1 (fun w' hbw => ?_)).mono fun r w' h => ⟨_, _, ⟨by omega, g.2.2.2.1, g.2.2.2.2, narB_small (by omega) (by omega), Or.inl ⟨by omega, rfl⟩⟩, h⟩
    have eB : ((b : Int) + 32) = ((b + 32 : Nat) : Int) := by omega
    rw [eB]
    exact erfc1_iv w' B0 p q (b + 32) _ _ hr (A.below hbw) (by omega) c1

set_option maxRecDepth 100000 in
set_option maxHeartbeats 2000000 in
theorem made_erfc_ok (R : Nat → Rat) (hR : RootS piS R) (p q : Int) (b : Nat) (B0 : Nat) (w : World) (hr : rok p q) (h5 : 8 ≤ b) (h6 : b ≤ 120) (A0 : RaC w B0 p q) :
    Calls Try.prog 41 #[.agg #[.int .i64 p, .int .i64 q], .int .i64 b, .func (.func 44) #[] #[.pointer (some ⟨B0, 0, none⟩)]] w (fun r w' => ∃ L H, EcV R p q b L H ∧ PairAns w b 250 L H 0 r w') := by
  have d1 : ratE p q b = 0 := by unfold ratE; rw [if_pos]; exact ⟨hr, by omega, by omega⟩
  have HR := hide hr
  have HA := hide A0
  clear hr A0
  go_enter Try.func41, Try.ntmps41
  go_wp2_with (go_at_call 65; refine (ratioFault1 _ _ _ (by simp) _ _ _ _).mono ?_; rintro r w1 ⟨rfl, hb1⟩; rw [d1]; obtain ⟨hsz1, hcell1, hfz1⟩ := near (w.heap.size + 1 + 1) (by simp) hb1)
  have R' : NoC w1 (w.heap.size + 1) := ⟨by simp [hcell1, go_sem], by simp [hcell1, go_sem], by simp [hcell1, go_sem], by simp [hcell1, go_sem], by simp [hcell1, go_sem], fun o => by simp [hfz1, go_sem]⟩
  have hBw : Below w.heap.size w w1 := bthen (bl2 _ _ _) hb1
  clear hcell1 hfz1 hb1
  have lR := R'.lt
  refine (sured_erfc R hR p q b B0 _ (unhide HR) h5 h6 ((unhide HA).below hBw)).mono ?_
  rintro r' w3 ⟨L, H, hLH, u, rfl, hub, hup, hb3⟩
  obtain ⟨q0, q1, q2, q3, q4, q5⟩ := R'.below hb3
  replace hBw := bthen hBw hb3
  have HU := hide hub
  have HLH := hide hLH
  clear hub hLH
  go_wp2_with fail
  refine bodyPost_ret (v := .tuple #[.agg #[.bool u.ln, .slice u.la u.lN u.lc, .bool u.hn, .slice u.ha u.hN u.hc, .int .i64 u.bits], .int .i64 0]) (by simp [results, Try.results41, go_sem, q0, q1, q2, q3, q4]) rfl ⟨L, H, unhide HLH, u, rfl, unhide HU, ?_, ?_⟩
  · exact SpAt.put5 hup q0 q1 q2 q3 q4 _ _ _ _ _
  · exact set5 hBw (Nat.le_succ _) _ _ _ _ _

set_option maxRecDepth 100000 in
set_option maxHeartbeats 2000000 in
theorem made_erfc_bad (p q b : Int) (B0 : Nat) (w : World) (h : ¬ (rok p q ∧ 8 ≤ b ∧ b ≤ 120)) :
    Calls Try.prog 41 #[.agg #[.int .i64 p, .int .i64 q], .int .i64 b, .func (.func 44) #[] #[.pointer (some ⟨B0, 0, none⟩)]] w (PairAns w 0 250 0 0 3) := by
  have d1 : ratE p q b = 3 := by unfold ratE; rw [if_neg h]
  clear h
  go_enter Try.func41, Try.ntmps41
  go_wp2_with (go_at_call 65; refine (ratioFault1 _ _ _ (by simp) _ _ _ _).mono ?_; rintro r w1 ⟨rfl, hb1⟩; rw [d1]; obtain ⟨hsz1, hcell1, hfz1⟩ := near (w.heap.size + 1 + 1) (by simp) hb1)
  refine bodyPost_ret (v := .tuple #[.agg #[.bool false, .slice none 0 0, .bool false, .slice none 0 0, .int .i64 0], .int .i64 3]) (by simp [results, Try.results41, go_sem, hcell1]) rfl ⟨⟨false, none, 0, 0, false, none, 0, 0, 0⟩, rfl, rfl, zeroSp _ _, ?_⟩
  exact set5 (bthen (bl2 _ _ _) hb1) (Nat.le_succ _) _ _ _ _ _

set_option maxRecDepth 100000 in
set_option maxHeartbeats 2000000 in
theorem cerfc_ok (R : Nat → Rat) (hR : RootS piS R) (p q : Int) (b : Nat) (w : World) (hr : rok p q) (h5 : 8 ≤ b) (h6 : b ≤ 120) :
    Calls Try.prog 10 #[.agg #[.int .i64 p, .int .i64 q], .int .i64 b] w (fun r w' => ∃ L H, EcV R p q b L H ∧ PairAns w b 250 L H 0 r w') := by
  obtain ⟨W, hW⟩ : ∃ W, W = (w.alloc (.cells #[.int .i64 p, .int .i64 q] 23)).alloc (.cells #[.bool false, .slice none 0 0, .bool false, .slice none 0 0, .int .i64 0] 28) := ⟨_, rfl⟩
  have hBW : Below w.heap.size w W := by rw [hW]; exact bl2 _ _ _
  have A : RaC W w.heap.size p q := by rw [hW]; exact ⟨by simp [go_sem], by simp [go_sem]⟩
  have R' : NoC W (w.heap.size + 1) := by rw [hW]; exact ⟨by simp [go_sem], by simp [go_sem], by simp [go_sem], by simp [go_sem], by simp [go_sem], fun o => by simp [go_sem]⟩
  have HR := hide hr
  clear hr
  go_enter Try.func10, Try.ntmps10
  go_wp2_with fail
  rw [← hW]
  clear hW
  refine (made_erfc_ok R hR p q b w.heap.size _ (unhide HR) h5 h6 A).mono ?_
  rintro r' w3 ⟨L, H, hLH, u, rfl, hub, hup, hb3⟩
  obtain ⟨q0, q1, q2, q3, q4, q5⟩ := R'.below hb3
  have lR := (R'.below hb3).lt
  replace hBW := bthen hBW hb3
  have HU := hide hub
  have HLH := hide hLH
  clear hub hLH
  go_wp2_with fail
  refine bodyPost_ret (v := .tuple #[.agg #[.bool u.ln, .slice u.la u.lN u.lc, .bool u.hn, .slice u.ha u.hN u.hc, .int .i64 u.bits], .int .i64 0]) (by simp [results, Try.results10, go_sem, q0, q1, q2, q3, q4]) rfl ⟨L, H, unhide HLH, u, rfl, unhide HU, ?_, ?_⟩
  · exact SpAt.put5 hup q0 q1 q2 q3 q4 _ _ _ _ _
  · exact set5 hBW (Nat.le_succ _) _ _ _ _ _

set_option maxRecDepth 100000 in
set_option maxHeartbeats 2000000 in
theorem cerfc_bad (p q b : Int) (w : World) (h : ¬ (rok p q ∧ 8 ≤ b ∧ b ≤ 120)) :
    Calls Try.prog 10 #[.agg #[.int .i64 p, .int .i64 q], .int .i64 b] w (PairAns w 0 250 0 0 3) := by
  obtain ⟨W, hW⟩ : ∃ W, W = (w.alloc (.cells #[.int .i64 p, .int .i64 q] 23)).alloc (.cells #[.bool false, .slice none 0 0, .bool false, .slice none 0 0, .int .i64 0] 28) := ⟨_, rfl⟩
  have hBW : Below w.heap.size w W := by rw [hW]; exact bl2 _ _ _
  have A : RaC W w.heap.size p q := by rw [hW]; exact ⟨by simp [go_sem], by simp [go_sem]⟩
  have R' : NoC W (w.heap.size + 1) := by rw [hW]; exact ⟨by simp [go_sem], by simp [go_sem], by simp [go_sem], by simp [go_sem], by simp [go_sem], fun o => by simp [go_sem]⟩
  have HR := hide h
  clear h
  go_enter Try.func10, Try.ntmps10
  go_wp2_with fail
  rw [← hW]
  clear hW
  refine (made_erfc_bad p q b w.heap.size _ (unhide HR)).mono ?_
  rintro r' w3 ⟨u, rfl, hub, hup, hb3⟩
  obtain ⟨q0, q1, q2, q3, q4, q5⟩ := R'.below hb3
  have lR := (R'.below hb3).lt
  replace hBW := bthen hBW hb3
  have HU := hide hub
  clear hub
  go_wp2_with fail
  refine bodyPost_ret (v := .tuple #[.agg #[.bool u.ln, .slice u.la u.lN u.lc, .bool u.hn, .slice u.ha u.hN u.hc, .int .i64 u.bits], .int .i64 3]) (by simp [results, Try.results10, go_sem, q0, q1, q2, q3, q4]) rfl ⟨u, rfl, unhide HU, ?_, ?_⟩
  · exact SpAt.put5 hup q0 q1 q2 q3 q4 _ _ _ _ _
  · exact set5 hBW (Nat.le_succ _) _ _ _ _ _
end Go.Proofs.Ytgmnknmjainabab

namespace Go.Proofs.Ytgmnknmjainabab
set_option linter.unusedVariables false
open Ex

theorem Iv.nought {b : Nat} {a : Int × Int} (h : Iv b a (fun _ => 0)) : a.1 ≤ 0 ∧ 0 ≤ a.2 := by
  have q := Qr_pos b
  obtain ⟨h1, h2⟩ := Has.of_const h
  constructor
  · refine Int.not_lt.1 fun hlt => ?_
    have : (0 : Rat) < (a.1 : Rat) := by exact_mod_cast hlt
    have := rdiv_pos this q
    grind
  · refine Int.not_lt.1 fun hlt => ?_
    have h3 : (a.2 : Rat) < 0 := by exact_mod_cast hlt
    have h4 := rdiv_pos (show 0 < -(a.2 : Rat) by grind) q
    have e : -(a.2 : Rat) / (Q b : Rat) = -((a.2 : Rat) / (Q b : Rat)) := by rw [Rat.div_def, Rat.div_def, Rat.neg_mul]
    grind
theorem rat_le {p q p' q' : Int} (hq : 0 < q) (hq' : 0 < q') (h : p * q' ≤ p' * q) : (p : Rat) / (q : Rat) ≤ (p' : Rat) / (q' : Rat) := by
  have a : (0 : Rat) < (q : Rat) := by exact_mod_cast hq
  have b : (0 : Rat) < (q' : Rat) := by exact_mod_cast hq'
  refine rle_div b ?_
  refine Rat.le_of_mul_le_mul_right (c := (q : Rat)) ?_ a
  have e : (p : Rat) / (q : Rat) * (q' : Rat) * (q : Rat) = (p : Rat) / (q : Rat) * (q : Rat) * (q' : Rat) := by grind
  rw [e, rdm a]
  have := cast_le h
  rw [Rat.intCast_mul, Rat.intCast_mul] at this
  exact this
theorem erR_mono {R : Nat → Rat} (hR : RootS piS R) {p q p' q' : Int} (hq : 0 < q) (hq' : 0 < q') (h : p * q' ≤ p' * q) : LeN (erR R p q) (erR R p' q') := by
  have a0 := (absR_ok (p := p) hq).1
  have a0' := (absR_ok (p := p') hq').1
  by_cases hp : p < 0
  · by_cases hp' : p' < 0
    · have hle : absR p' q' ≤ absR p q := by
        unfold absR
        rw [if_pos hp, if_pos hp', ← Rat.intCast_neg, ← Rat.intCast_neg]
        refine rat_le hq' hq ?_
        have e1 : -p' * q = -(p' * q) := by grind
        have e2 : -p * q' = -(p * q') := by grind
        omega
      obtain ⟨z, hz, k⟩ := (erf_mono hR a0' hle).null
      refine LeN.of_null hz 0 fun M _ => ?_
      unfold erR
      rw [if_pos hp, if_pos hp']
      have := k M
      grind
    · refine LeN.of_le 1 fun M hM => ?_
      unfold erR
      rw [if_pos hp, if_neg hp']
      have := erf_nonneg hR a0 hM
      have := erf_nonneg hR a0' hM
      grind
  · have hp' : ¬ p' < 0 := fun hh => by
      have m1 := Int.mul_nonneg (show 0 ≤ p by omega) (show 0 ≤ q' by omega)
      have m2 := Int.mul_pos (show 0 < -p' by omega) hq
      have e : -p' * q = -(p' * q) := by grind
      omega
    have hle : absR p q ≤ absR p' q' := by
      unfold absR
      rw [if_neg hp, if_neg hp']
      exact rat_le hq hq' h
    refine (LeN.of_le 0 fun M _ => ?_).trans ((erf_mono hR a0 hle).trans (LeN.of_le 0 fun M _ => ?_))
    · unfold erR; rw [if_neg hp]; grind
    · unfold erR; rw [if_neg hp']; grind
theorem one_ser : riseI (riT (Q 40, Q 40) (erU 1) (erD 1)) 14 = (2232094882262, 2232094882285) := by decide +kernel
theorem one_rise : IsRise (riT (Q 40, Q 40) (erU 1) (erD 1)) (erTurn 1 1) 14 := ⟨by decide +kernel, by decide +kernel, by decide +kernel⟩
theorem one_exp : sqI 40 (doneI (expT 40 (downI (Q 40, Q 40) 8)) 8) 8 = (2988782476012, 2988782482163) := by decide +kernel
theorem one_pi : piI 40 9 3 = (3454217652248, 3454217652480) := by decide +kernel
theorem one_den : mulI 40 (1948833618736, 1948833618802) (2988782476012, 2988782482163) = (5297479009042, 5297479020124) := by decide +kernel
/-- The error function of 1. -/
theorem erf_of_one {R : Nat → Rat} (hR : RootS piS R) {L H : Int} (v : ErV R 1 1 20 L H) : L ≤ 883636 ∧ 883635 ≤ H := by
  have q40 : Q 40 = 1099511627776 := rfl
  have q20 : Q 20 = 1048576 := rfl
  have a1 : absR 1 1 = 1 := by decide +kernel
  have i1 : Iv 40 (2232094882262, 2232094882285) (eS 1) := by
    have := er_has (B := 40) (N := 14) (a := (Q 40, Q 40)) (n := 1) (d := 1) (x := 1) (by grind) (by omega) (by omega) (by decide +kernel) (one_iv 40) one_rise
    rw [one_ser] at this
    exact this
  have i2 : Iv 40 (2988782476012, 2988782482163) (ex (1 * 1)) := by
    have := exp_has (B := 40) (N := 8) (t := 8) (a := (Q 40, Q 40)) (by omega) (one_iv 40) (by
      have e : downI (Q 40, Q 40) 8 = (Q 32, Q 32) := by decide +kernel
      rw [e]
      have := Q_pos 32
      exact ⟨by show -Q 32 ≤ Q 32; omega, Int.le_refl _, by show -Q 32 ≤ Q 32; omega, Int.le_refl _⟩)
    rw [one_exp] at this
    rw [show (1 : Rat) * 1 = 1 by decide +kernel]
    exact this
  have i3 : Iv 40 (1948833618736, 1948833618802) R := by
    have h := pi_has 40 9 3
    rw [one_pi] at h
    exact root_iv h hR (by rw [q40]; decide +kernel) (by omega) (by rw [q40]; decide +kernel)
  have i4 := Iv.mul i3 i2
  rw [one_den] at i4
  have i5 : Iv 40 (926559319262, 926559321211) (erfS R 1) := by
    have := Iv.div (s := timesI (2232094882262, 2232094882285) 2) (i1.times 2) i4 (by decide) (lo := 926559319262) (hi := 926559321211) (by rw [q40]; decide +kernel) (by rw [q40]; decide +kernel) (by rw [q40]; decide +kernel) (by rw [q40]; decide +kernel)
    exact this
  rcases v.val with ⟨h1, _⟩ | ⟨_, h2⟩
  · exact absurd h1 (by decide)
  · have e : erR R 1 1 = erfS R 1 := by funext M; unfold erR; rw [if_neg (by decide), a1]
    rw [e] at h2
    have t1 := Iv.touch h2 i5
    have t2 := Iv.touch i5 h2
    rw [q40, q20] at t1 t2
    simp only [] at t1 t2
    omega
end Go.Proofs.Ytgmnknmjainabab

namespace Go.Proofs.Ytgmnknmjainabab
set_option linter.unusedVariables false
set_option linter.unusedSimpArgs false
set_option linter.unnecessarySimpa false
open Go.RowKit
attribute [local go_sem ↓] Go.wp_at_zero Go.wp_at_succ

/-- Do two spans touch? Of each the ends, and how many bits more it is told by. -/
def touB (lo hi : Int) (i : Nat) (lo' hi' : Int) (j : Nat) : Bool := decide (lo * Q i ≤ hi' * Q j) && decide (lo' * Q j ≤ hi * Q i)

theorem downZ_up (x : Int) (a b : Int) (i : Nat) (h : b - a = (i : Int)) : downZ x (a - b) = x * Q i := by
  unfold downZ
  by_cases h0 : i = 0
  · subst h0
    have e : a - b = 0 := by omega
    rw [e]; simp [Q]
  · rw [if_neg (by omega)]; congr 2; omega
theorem downZ_upn (x : Int) (a b : Int) (i : Nat) (h : b - a = (i : Int)) : -(downZ (-x) (a - b)) = x * Q i := by
  rw [downZ_up _ a b i h, Int.neg_mul, Int.neg_neg]

set_option maxRecDepth 100000 in
set_option maxHeartbeats 4000000 in
theorem touch_gt (w : World) (s t : Sp) (k i j : Nat) (lo hi lo' hi' : Int) (hs : SpAt w s k lo hi) (ht : SpAt w t k lo' hi') (hk : k ≤ 300000000) (s0 : 0 ≤ s.bits) (s1 : s.bits ≤ 1000000) (t0 : 0 ≤ t.bits) (t1 : t.bits ≤ 1000000) (hc : s.bits < t.bits) (hi1 : t.bits - s.bits = (i : Int)) (hj1 : t.bits - t.bits = (j : Int)) :
    Calls Try.prog 23 #[.agg #[.bool s.ln, .slice s.la s.lN s.lc, .bool s.hn, .slice s.ha s.hN s.hc, .int .i64 s.bits], .agg #[.bool t.ln, .slice t.la t.lN t.lc, .bool t.hn, .slice t.ha t.hN t.hc, .int .i64 t.bits]] w fun r w' => r = .returned (.bool (touB lo hi i lo' hi' j)) ∧ Below w.heap.size w w' := by
  obtain ⟨W, hW⟩ : ∃ W, W = (w.alloc (.cells #[.bool s.ln, .slice s.la s.lN s.lc, .bool s.hn, .slice s.ha s.hN s.hc, .int .i64 s.bits] 36)).alloc (.cells #[.bool t.ln, .slice t.la t.lN t.lc, .bool t.hn, .slice t.ha t.hN t.hc, .int .i64 t.bits] 36) := ⟨_, rfl⟩
  have hBW : Below w.heap.size w W := by rw [hW]; exact bl2 _ _ _
  have A : SpC W w.heap.size s := by rw [hW]; exact ⟨by simp [go_sem], by simp [go_sem], by simp [go_sem], by simp [go_sem], by simp [go_sem]⟩
  have G : SpC W (w.heap.size + 1) t := by rw [hW]; exact ⟨by simp [go_sem], by simp [go_sem], by simp [go_sem], by simp [go_sem], by simp [go_sem]⟩
  have FA : ∀ o, W.frozen? ⟨w.heap.size, o, none⟩ = false := by intro o; rw [hW]; simp [go_sem]
  have FG : ∀ o, W.frozen? ⟨w.heap.size + 1, o, none⟩ = false := by intro o; rw [hW]; simp [go_sem]
  have a1 := hide (downZ_up lo s.bits (t.bits) i hi1)
  have a2 := hide (downZ_upn hi s.bits (t.bits) i hi1)
  have a3 := hide (downZ_up lo' t.bits (t.bits) j hj1)
  have a4 := hide (downZ_upn hi' t.bits (t.bits) j hj1)
  have HS := hide (hs.below hBW)
  have HT := hide (ht.below hBW)
  have HA := hide A
  have HG := hide G
  have lA := A.lt
  have lG := G.lt
  have nAG : w.heap.size ≠ w.heap.size + 1 := by omega
  clear hi1 hj1 hs ht
  go_enter Try.func23, Try.ntmps23
  go_wp2_with fail
  rw [← hW]
  clear hW
  obtain ⟨x0, x1, x2, x3, x4⟩ := A
  obtain ⟨y0, y1, y2, y3, y4⟩ := G
  try go_wp2_with fail
  go_cut [] (fun wx => ∃ s2 t2 : Sp, SpC wx w.heap.size s2 ∧ SpC wx (w.heap.size + 1) t2 ∧ SpAt wx s2 (k + 62505) (lo * Q i) (hi * Q i) ∧ SpAt wx t2 (k + 62505) (lo' * Q j) (hi' * Q j) ∧ Below w.heap.size w wx)
  case first =>
    go_region_with
      (first
        | (go_at_call 58; have hq := hB1; refine (refTurn_int _ t k (t.bits) lo' hi' ((unhide HT).below hB1) hk t0 t1 (by omega) (by omega)).mono ?_; rintro r w2 ⟨u2, rfl, hub2, hup2, hb2⟩; rw [unhide a3, unhide a4] at hup2; clear hub2; have hB2 := bthen hB1 hb2; replace hup1 := hup1.below hb2; have l2A := Nat.lt_of_lt_of_le lA hB2.size; have l2G := Nat.lt_of_lt_of_le lG hB2.size; obtain ⟨a0, a1, a2, a3, a4⟩ := (unhide HA).below hB2; obtain ⟨g0, g1, g2, g3, g4⟩ := (unhide HG).below hB2; have fA2 : ∀ o, w2.frozen? ⟨w.heap.size, o, none⟩ = false := (fun o => (hB2.frozen (p := ⟨w.heap.size, o, none⟩) lA).trans (FA o)); have fG2 : ∀ o, w2.frozen? ⟨w.heap.size + 1, o, none⟩ = false := (fun o => (hB2.frozen (p := ⟨w.heap.size + 1, o, none⟩) lG).trans (FG o)))
        | (go_at_call 58; refine (refTurn_int _ s k (t.bits) lo hi ((unhide HS).below (by repeat' (first | with_reducible exact Below.refl _ _ | with_reducible refine Below.drew ?_))) hk s0 s1 (by omega) (by omega)).mono ?_; rintro r w1 ⟨u1, rfl, hub1, hup1, hb1⟩; rw [unhide a1, unhide a2] at hup1; clear hub1; have hB1 : Below W.heap.size W w1 := bthen (by repeat' (first | with_reducible exact Below.refl _ _ | with_reducible refine Below.drew ?_)) hb1; obtain ⟨b0, b1, b2, b3, b4⟩ := (unhide HA).below hB1; obtain ⟨d0, d1, d2, d3, d4⟩ := (unhide HG).below hB1; have l1A := Nat.lt_of_lt_of_le lA hB1.size; have l1G := Nat.lt_of_lt_of_le lG hB1.size))
    all_goals
      go_wp2_with fail
      go_meet
      have A2 : SpC w2 w.heap.size s := ⟨a0, a1, a2, a3, a4⟩
      have G2 : SpC w2 (w.heap.size + 1) t := ⟨g0, g1, g2, g3, g4⟩
      obtain ⟨p1, p2, p3, p4⟩ := two_sp A2 G2 nAG u1 u2
      exact ⟨u1, u2, p1, p2, p3 hup1, p3 hup2, set5 (set5 (bthen hBW hB2) (Nat.le_refl _) _ _ _ _ _) (Nat.le_succ _) _ _ _ _ _⟩
  case rest =>
  obtain ⟨s2, t2, A, G, hs, ht, hBW⟩ := hcut
  clear HA HG HS HT lA lG x0 x1 x2 x3 x4 y0 y1 y2 y3 y4 FA FG
  have lA := A.lt
  have lG := G.lt
  by_cases hq : lo * Q i ≤ hi' * Q j
  · have c1 : cmpInt (lo * Q i) (hi' * Q j) ≤ 0 := by unfold cmpInt; split; omega; rw [if_neg (by omega)]; omega
    have HE := hide (show decide (cmpInt (lo' * Q j) (hi * Q i) ≤ 0) = touB lo hi i lo' hi' j by rw [cmp_le0]; unfold touB; rw [decide_eq_true hq, Bool.true_and])
    obtain ⟨x0, x1, x2, x3, x4⟩ := A
    obtain ⟨y0, y1, y2, y3, y4⟩ := G
    clear hq
    go_wp2_with fail
    refine (cmp_int _ _ _ _ _ _ _ _ (k + 62505) (k + 62505) (lo * Q i) (hi' * Q j) _ hs.lo ht.hi).mono ?_
    rintro r w1 ⟨rfl, hb1⟩
    have A := (SpC.mk x0 x1 x2 x3 x4).below hb1
    have G := (SpC.mk y0 y1 y2 y3 y4).below hb1
    replace hs := hs.below hb1
    replace ht := ht.below hb1
    replace hBW := bthen hBW hb1
    clear x0 x1 x2 x3 x4 y0 y1 y2 y3 y4 hb1
    obtain ⟨x0, x1, x2, x3, x4⟩ := A
    obtain ⟨y0, y1, y2, y3, y4⟩ := G
    go_wp2_with fail
    refine (cmp_int _ _ _ _ _ _ _ _ (k + 62505) (k + 62505) (lo' * Q j) (hi * Q i) _ ht.lo hs.hi).mono ?_
    rintro r w2 ⟨rfl, hb2⟩
    replace hBW := bthen hBW hb2
    go_wp2_with fail
    go_ret
    exact ⟨by rw [← unhide HE]; rfl, hBW⟩
  · have c1 : ¬ cmpInt (lo * Q i) (hi' * Q j) ≤ 0 := by unfold cmpInt; rw [if_neg (by omega), if_pos (by omega)]; omega
    have HE := hide (show touB lo hi i lo' hi' j = false by unfold touB; rw [decide_eq_false hq, Bool.false_and])
    obtain ⟨x0, x1, x2, x3, x4⟩ := A
    obtain ⟨y0, y1, y2, y3, y4⟩ := G
    clear hq
    go_wp2_with fail
    refine (cmp_int _ _ _ _ _ _ _ _ (k + 62505) (k + 62505) (lo * Q i) (hi' * Q j) _ hs.lo ht.hi).mono ?_
    rintro r w1 ⟨rfl, hb1⟩
    replace hBW := bthen hBW hb1
    go_wp2_with fail
    go_ret
    exact ⟨by rw [unhide HE]; rfl, hBW⟩

end Go.Proofs.Ytgmnknmjainabab

namespace Go.Proofs.Ytgmnknmjainabab
set_option linter.unusedVariables false
set_option linter.unusedSimpArgs false
set_option linter.unnecessarySimpa false
open Go.RowKit
attribute [local go_sem ↓] Go.wp_at_zero Go.wp_at_succ

theorem cmp_nneg {x : Int} (h : 0 ≤ x) : 0 ≤ cmpInt x 0 := by unfold cmpInt; rw [if_neg (by omega)]; split <;> omega

end Go.Proofs.Ytgmnknmjainabab

namespace Go.Proofs.Ytgmnknmjainabab
set_option linter.unusedVariables false
set_option linter.unusedSimpArgs false
set_option linter.unnecessarySimpa false
open Go.RowKit
attribute [local go_sem ↓] Go.wp_at_zero Go.wp_at_succ

theorem NoC.vr {w : World} {B : Nat} (h : NoC w B) (u : Sp) : VrC (put5w w B u) B u := by
  refine ⟨?_, fz_put5 h.fz u⟩
  obtain ⟨q0, q1, q2, q3, q4, q5⟩ := h
  constructor <;> simp [go_sem, q0, q1, q2, q3, q4]
theorem NoC.spat {w : World} {B : Nat} (h : NoC w B) {s : Sp} {k : Nat} {lo hi : Int} (hs : SpAt w s k lo hi) (u : Sp) : SpAt (put5w w B u) s k lo hi := SpAt.put5 hs h.c0 h.c1 h.c2 h.c3 h.c4 _ _ _ _ _
/-- Two variables that were made behind world W. -/
def TwoP (W wx : World) (b k1 k2 : Nat) (a c : Int × Int) (p q : Value) : Prop :=
  ∃ (B B' : Nat) (x y : Sp), p = .pointer (some ⟨B, 0, none⟩) ∧ q = .pointer (some ⟨B', 0, none⟩) ∧ W.heap.size ≤ B ∧ W.heap.size ≤ B' ∧ B ≠ B' ∧ VrC wx B x ∧ VrC wx B' y ∧ SpAt wx x k1 a.1 a.2 ∧ SpAt wx y k2 c.1 c.2 ∧ x.bits = (b : Int) ∧ y.bits = (b : Int) ∧ Below W.heap.size W wx
theorem vr_new (w : World) (x : Sp) (T : TypeId) : VrC (w.alloc (.cells #[.bool x.ln, .slice x.la x.lN x.lc, .bool x.hn, .slice x.ha x.hN x.hc, .int .i64 x.bits] T)) w.heap.size x := ⟨spc_new w x T, fun o => by simp [go_sem]⟩
theorem vr_new' (w : World) (B : Nat) (hB : w.heap.size = B) (x : Sp) (T : TypeId) : VrC (w.alloc (.cells #[.bool x.ln, .slice x.la x.lN x.lc, .bool x.hn, .slice x.ha x.hN x.hc, .int .i64 x.bits] T)) B x := by subst hB; exact vr_new w x T
variable {W w2 : World} {b k1 k2 : Nat} {a c : Int × Int} {x y : Sp} {T : TypeId}
theorem twoP_aa (hb : Below W.heap.size W w2) (ix : SpAt w2 x k1 a.1 a.2) (iy : SpAt w2 y k2 c.1 c.2) (bx : x.bits = (b : Int)) (by_ : y.bits = (b : Int)) :
    TwoP W ((w2.alloc (.cells #[.bool x.ln, .slice x.la x.lN x.lc, .bool x.hn, .slice x.ha x.hN x.hc, .int .i64 x.bits] T)).alloc (.cells #[.bool y.ln, .slice y.la y.lN y.lc, .bool y.hn, .slice y.ha y.hN y.hc, .int .i64 y.bits] T)) b k1 k2 a c (.pointer (some ⟨w2.heap.size, 0, none⟩)) (.pointer (some ⟨w2.heap.size + 1, 0, none⟩)) :=
  ⟨_, _, x, y, rfl, rfl, hb.size, Nat.le_succ_of_le hb.size, Nat.ne_of_lt (Nat.lt_succ_self _), (vr_new w2 x T).below (bl1 _ _), vr_new' _ _ (by simp) y T, ix.below (bl2 _ _ _), iy.below (bl2 _ _ _), bx, by_, bthen hb (bl2 _ _ _)⟩
theorem TwoP.swap {wx : World} {p q : Value} (h : TwoP W wx b k1 k2 a c p q) : TwoP W wx b k2 k1 c a q p := by
  obtain ⟨B, B', x, y, h1, h2, h3, h4, h5, h6, h7, h8, h9, h10, h11, h12⟩ := h
  exact ⟨B', B, y, x, h2, h1, h4, h3, fun e => h5 e.symm, h7, h6, h9, h8, h11, h10, h12⟩
theorem twoP_aa' (hb : Below W.heap.size W w2) (ix : SpAt w2 x k1 a.1 a.2) (iy : SpAt w2 y k2 c.1 c.2) (bx : x.bits = (b : Int)) (by_ : y.bits = (b : Int)) :
    TwoP W ((w2.alloc (.cells #[.bool y.ln, .slice y.la y.lN y.lc, .bool y.hn, .slice y.ha y.hN y.hc, .int .i64 y.bits] T)).alloc (.cells #[.bool x.ln, .slice x.la x.lN x.lc, .bool x.hn, .slice x.ha x.hN x.hc, .int .i64 x.bits] T)) b k1 k2 a c (.pointer (some ⟨w2.heap.size + 1, 0, none⟩)) (.pointer (some ⟨w2.heap.size, 0, none⟩)) := (twoP_aa hb iy ix by_ bx).swap
theorem twoP_sa {B : Nat} (hb : Below W.heap.size W w2) (ix : SpAt w2 x k1 a.1 a.2) (iy : SpAt w2 y k2 c.1 c.2) (bx : x.bits = (b : Int)) (by_ : y.bits = (b : Int)) (g : NoC w2 B) (h1 : W.heap.size ≤ B) :
    TwoP W ((put5w w2 B x).alloc (.cells #[.bool y.ln, .slice y.la y.lN y.lc, .bool y.hn, .slice y.ha y.hN y.hc, .int .i64 y.bits] T)) b k1 k2 a c (.pointer (some ⟨B, 0, none⟩)) (.pointer (some ⟨w2.heap.size, 0, none⟩)) := by
  have hx := g.vr x
  have ix' := g.spat ix x
  have iy' := g.spat iy x
  have hl := g.lt
  have hs := size_put w2 B x
  have hb' := below_put hb h1 x
  generalize put5w w2 B x = V at *
  rw [← hs]
  exact ⟨_, _, x, y, rfl, rfl, h1, hb'.size, by omega, hx.below (bl1 _ _), vr_new V y T, ix'.below (bl1 _ _), iy'.below (bl1 _ _), bx, by_, bthen hb' (bl1 _ _)⟩
theorem twoP_as {B : Nat} (hb : Below W.heap.size W w2) (ix : SpAt w2 x k1 a.1 a.2) (iy : SpAt w2 y k2 c.1 c.2) (bx : x.bits = (b : Int)) (by_ : y.bits = (b : Int)) (g : NoC w2 B) (h1 : W.heap.size ≤ B) :
    TwoP W ((put5w w2 B y).alloc (.cells #[.bool x.ln, .slice x.la x.lN x.lc, .bool x.hn, .slice x.ha x.hN x.hc, .int .i64 x.bits] T)) b k1 k2 a c (.pointer (some ⟨w2.heap.size, 0, none⟩)) (.pointer (some ⟨B, 0, none⟩)) := (twoP_sa hb iy ix by_ bx g h1).swap
theorem twoP_ss {B B' : Nat} (hb : Below W.heap.size W w2) (ix : SpAt w2 x k1 a.1 a.2) (iy : SpAt w2 y k2 c.1 c.2) (bx : x.bits = (b : Int)) (by_ : y.bits = (b : Int)) (g : NoC w2 B) (g' : NoC w2 B') (h1 : W.heap.size ≤ B) (h2 : W.heap.size ≤ B') (hne : B ≠ B') :
    TwoP W (put5w (put5w w2 B x) B' y) b k1 k2 a c (.pointer (some ⟨B, 0, none⟩)) (.pointer (some ⟨B', 0, none⟩)) := by
  have hx := g.vr x
  have ix' := g.spat ix x
  have iy' := g.spat iy x
  have g2 := g'.off (Ne.symm hne) x
  have hb' := below_put hb h1 x
  generalize put5w w2 B x = V at *
  exact ⟨_, _, x, y, rfl, rfl, h1, h2, hne, hx.off hne y, g2.vr y, g2.spat ix' y, g2.spat iy' y, bx, by_, below_put hb' h2 y⟩
end Go.Proofs.Ytgmnknmjainabab

namespace Go.Proofs.Ytgmnknmjainabab
set_option linter.unusedVariables false
set_option linter.unusedSimpArgs false
set_option linter.unnecessarySimpa false
open Go.RowKit
attribute [local go_sem ↓] Go.wp_at_zero Go.wp_at_succ

theorem refPlus_iv (w : World) (s t : Sp) (k b : Nat) (a c : Int × Int) (hs : SpAt w s k a.1 a.2) (ht : SpAt w t k c.1 c.2) (hk : k ≤ 700000000) (hb : s.bits = (b : Int)) :
    Calls Try.prog 107 #[.agg #[.bool s.ln, .slice s.la s.lN s.lc, .bool s.hn, .slice s.ha s.hN s.hc, .int .i64 s.bits], .agg #[.bool t.ln, .slice t.la t.lN t.lc, .bool t.hn, .slice t.ha t.hN t.hc, .int .i64 t.bits]] w (SpanAns w b (k + 1) (addI a c).1 (addI a c).2) :=
  (refPlus_int w s t k a.1 a.2 c.1 c.2 hs ht hk).mono fun r w' h => by rw [hb] at h; exact h
theorem small_reach {lo hi : Int} : smallB lo hi 1 = decide (reachI (lo, hi) ≤ 1) := by
  unfold smallB reachI maxZ
  rw [Bool.eq_iff_iff, Bool.and_eq_true, decide_eq_true_iff, decide_eq_true_iff, decide_eq_true_iff]
  simp only []
  split <;> omega
/-- Where tailsureref.lowExp is behind some rounds. -/
structure LowSt (w wr : World) (B5 B6 B7 b K : Nat) (U Pp Sm : Sp) (f : Nat → Int × Int) (X : Int) (i : Nat) : Prop where
  u : VrC wr B5 U
  p : VrC wr B6 Pp
  s : VrC wr B7 Sm
  up : SpAt wr U K (f i).1 (f i).2
  pp : SpAt wr Pp K X X
  sp : SpAt wr Sm K (sumI f i).1 (sumI f i).2
  ub : U.bits = (b : Int)
  pb : Pp.bits = (b : Int)
  sb : Sm.bits = (b : Int)
  no : NoC wr (w.heap.size + 1)
  be : Below w.heap.size w wr
  l5 : w.heap.size + 1 < B5
  l6 : w.heap.size + 1 < B6
  l7 : w.heap.size + 1 < B7
  n56 : B5 ≠ B6
  n57 : B5 ≠ B7
  n67 : B6 ≠ B7
theorem LowSt.below {w wr wr' : World} {B5 B6 B7 b K : Nat} {U Pp Sm : Sp} {f : Nat → Int × Int} {X : Int} {i : Nat} (h : LowSt w wr B5 B6 B7 b K U Pp Sm f X i) (hb : Below wr.heap.size wr wr') : LowSt w wr' B5 B6 B7 b K U Pp Sm f X i :=
  ⟨h.u.below hb, h.p.below hb, h.s.below hb, h.up.below hb, h.pp.below hb, h.sp.below hb, h.ub, h.pb, h.sb, h.no.below hb, bthen h.be hb, h.l5, h.l6, h.l7, h.n56, h.n57, h.n67⟩

end Go.Proofs.Ytgmnknmjainabab

namespace Go.Proofs.Ytgmnknmjainabab
set_option linter.unusedVariables false
set_option linter.unusedSimpArgs false
set_option linter.unnecessarySimpa false
open Go.RowKit
attribute [local go_sem ↓] Go.wp_at_zero Go.wp_at_succ

structure RaiSt2 (w wr : World) (B5 b K : Nat) (O S : Sp) (o s : Int × Int) : Prop where
  u : VrC wr B5 O
  v : VrC wr w.heap.size S
  up : SpAt wr O K o.1 o.2
  vp : SpAt wr S K s.1 s.2
  ub : O.bits = (b : Int)
  vb : S.bits = (b : Int)
  no : NoC wr (w.heap.size + 1)
  be : Below w.heap.size w wr
  l5 : w.heap.size + 1 < B5
theorem RaiSt2.below {w wr wr' : World} {B5 b K : Nat} {O S : Sp} {o s : Int × Int} (h : RaiSt2 w wr B5 b K O S o s) (hb : Below wr.heap.size wr wr') : RaiSt2 w wr' B5 b K O S o s :=
  ⟨h.u.below hb, h.v.below hb, h.up.below hb, h.vp.below hb, h.ub, h.vb, h.no.below hb, bthen h.be hb, h.l5⟩

end Go.Proofs.Ytgmnknmjainabab

namespace Go.Proofs.Ytgmnknmjainabab
set_option linter.unusedVariables false
set_option linter.unusedSimpArgs false
set_option linter.unnecessarySimpa false
open Go.RowKit
attribute [local go_sem ↓] Go.wp_at_zero Go.wp_at_succ

theorem fieldS0 (x y : Bool) (a a' : Option Addr) (n c n' c' : Nat) (b : Int) (w : World) : (Instr.field 36 (.agg #[.bool x, .slice a n c, .bool y, .slice a' n' c', .int .i64 b]) 0).run Try.prog w = .ok (.agg #[.bool x, .slice a n c]) w := by kernel_rfl
theorem fieldS1 (x y : Bool) (a a' : Option Addr) (n c n' c' : Nat) (b : Int) (w : World) : (Instr.field 36 (.agg #[.bool x, .slice a n c, .bool y, .slice a' n' c', .int .i64 b]) 1).run Try.prog w = .ok (.agg #[.bool y, .slice a' n' c']) w := by kernel_rfl

end Go.Proofs.Ytgmnknmjainabab

namespace Go.Proofs.Ytgmnknmjainabab
set_option linter.unusedVariables false
set_option linter.unusedSimpArgs false
set_option linter.unnecessarySimpa false
open Go.RowKit
attribute [local go_sem ↓] Go.wp_at_zero Go.wp_at_succ

set_option maxRecDepth 100000 in
set_option maxHeartbeats 2000000 in
theorem refReady_any (bt : Int) (b n cap : Nat) (p q : Nat → Int) (w : World) (h : Rats w b n p q) (hn : n ≤ 1000) :
    Calls Try.prog 11 #[.int .i64 bt, .slice (some ⟨b, 0, none⟩) n cap] w fun r w' => ∃ z, r = .returned (.int .i64 z) ∧ RFlt bt p q n z ∧ Below w.heap.size w w' := by
  have hblt := h.lt
  have HH := hide h
  clear h
  go_enter Try.func11, Try.ntmps11
  go_wp2
  go_loopw [5] (fun ii wr => ∃ i : Nat, i ≤ n ∧ ii = .int .i64 i ∧ (∀ j, j < i → rok (p j) (q j)) ∧ Below w.heap.size w wr) (fun ii _ => n - (intOf ii).toNat)
  case atStart => exact ⟨0, by omega, rfl, fun j hj => by omega, Below.refl _ _⟩
  case round =>
    obtain ⟨i, hi, rfl, hz, hB⟩ := hrel
    by_cases hin : i < n
    · have H2 := (unhide HH).below hB
      have g0 := H2.c0 i hin
      have g1 := H2.c1 i hin
      have hi1 : (i : Int) < (n : Int) := by omega
      have HZ := hide hz
      clear hz H2
      by_cases hc : rok (p i) (q i)
      · have hc' : decide (rok (p i) (q i)) = true := by simpa using hc
        have HC := hide hc
        clear hc
        go_wp2_with (go_at_call 46; refine (refRightRatio _ _ _).mono ?_; rintro r w1 ⟨rfl, hb1⟩; rw [hc'])
        go_roundw
        case rel => exact ⟨i + 1, by omega, by go_num, fun j hj => by
                            by_cases hji : j = i
                            · subst hji; exact unhide HC
                            · exact unhide HZ j (by omega), bthen hB hb1⟩
        case measure => simp [intOf]; omega
      · have hc' : decide (rok (p i) (q i)) = false := by simpa using hc
        have HC := hide hc
        clear hc
        go_wp2_with (go_at_call 46; refine (refRightRatio _ _ _).mono ?_; rintro r w1 ⟨rfl, hb1⟩; rw [hc'])
        go_ret
        exact ⟨3, rfl, Or.inr ⟨rfl, fun ⟨_, h2⟩ => unhide HC (h2 i hin)⟩, bthen hB hb1⟩
    · have hiE : i = n := by omega
      subst hiE
      have HZ := hide hz
      clear hz hin hi
      by_cases hc : 8 ≤ bt ∧ bt ≤ 120
      · have hc' : bitOk bt = true := by unfold bitOk; simpa using hc
        go_wp2_with (go_at_call 47; refine (refRightBits _ _).mono ?_; rintro r w1 ⟨rfl, rfl⟩; rw [hc'])
        go_ret
        exact ⟨0, rfl, Or.inl ⟨rfl, hc, unhide HZ⟩, hB⟩
      · have hc' : bitOk bt = false := by unfold bitOk; simpa using hc
        have HC := hide hc
        clear hc
        go_wp2_with (go_at_call 47; refine (refRightBits _ _).mono ?_; rintro r w1 ⟨rfl, rfl⟩; rw [hc'])
        go_ret
        exact ⟨3, rfl, Or.inr ⟨rfl, fun ⟨h1, _⟩ => unhide HC h1⟩, hB⟩

set_option maxRecDepth 100000 in
set_option maxHeartbeats 2000000 in
theorem lawSure_bad (w : World) (s t : Sp) (k : Nat) (er bt : Int) (hs : SpAt w s k 0 0) (hb : s.bits = 0) (her : er ≠ 0) :
    Calls Try.prog 13 #[.agg #[.bool s.ln, .slice s.la s.lN s.lc, .bool s.hn, .slice s.ha s.hN s.hc, .int .i64 s.bits], .int .i64 er, .int .i64 er, .int .i64 bt, .agg #[.bool t.ln, .slice t.la t.lN t.lc, .bool t.hn, .slice t.ha t.hN t.hc, .int .i64 t.bits]] w fun r w' => r = .returned (.bool true) ∧ Below w.heap.size w w' := by
  have he' : (er != 0) = true := by simpa using her
  have HZ3 := hide hb
  clear hb
  go_enter Try.func13, Try.ntmps13
  go_wp2_with fail
  refine (same_true _ s ⟨false, none, 0, 0, false, none, 0, 0, 0⟩ k 0 0 (hs.below (bl2 _ _ _)) (zeroSp _ _) (unhide HZ3)).mono ?_
  rintro r w1 ⟨rfl, hb1⟩
  go_wp2_with fail
  go_ret
  exact ⟨rfl, bthen (bl2 _ _ _) hb1⟩

theorem narrowBy_four (w : World) (s : Sp) (b : Nat) (lo hi : Int) (h : SpAt w s 250 lo hi) (hb : s.bits = b) (hb1 : b ≤ 120) (hle : lo ≤ hi) (hN : narB lo hi (Q b) 4 = true) :
    Calls Try.prog 49 #[.agg #[.bool s.ln, .slice s.la s.lN s.lc, .bool s.hn, .slice s.ha s.hN s.hc, .int .i64 s.bits], .int .i64 4] w fun r w' => r = .returned (.bool true) ∧ Below w.heap.size w w' :=
  (narrowBy_int w s b 4 lo hi h hb hb1 (by omega) hle).mono fun r w' ⟨h1, h2⟩ => ⟨by rw [h1]; congr 2, h2⟩

set_option maxRecDepth 100000 in
set_option maxHeartbeats 4000000 in
theorem lawSure_a (w : World) (s t : Sp) (b i k : Nat) (lo hi lo' hi' : Int) (hs : SpAt w s 250 lo hi) (ht : SpAt w t k lo' hi') (hk0 : 250 ≤ k) (hk : k ≤ 300000000) (hb : s.bits = b) (hbm : b ≤ 120) (hle : lo ≤ hi) (hi0 : 1 ≤ i) (hi1 : i ≤ 1000) (htb : t.bits = ((b + i : Nat) : Int)) (hN : narB lo hi (Q b) 4 = true) (hT : touB lo hi i lo' hi' 0 = true) (hc : cmpInt lo hi = -1) :
    Calls Try.prog 13 #[.agg #[.bool s.ln, .slice s.la s.lN s.lc, .bool s.hn, .slice s.ha s.hN s.hc, .int .i64 s.bits], .int .i64 0, .int .i64 0, .int .i64 s.bits, .agg #[.bool t.ln, .slice t.la t.lN t.lc, .bool t.hn, .slice t.ha t.hN t.hc, .int .i64 t.bits]] w fun r w' => r = .returned (.bool true) ∧ Below w.heap.size w w' := by
  obtain ⟨W, hW⟩ : ∃ W, W = (w.alloc (.cells #[.bool s.ln, .slice s.la s.lN s.lc, .bool s.hn, .slice s.ha s.hN s.hc, .int .i64 s.bits] 28)).alloc (.cells #[.bool t.ln, .slice t.la t.lN t.lc, .bool t.hn, .slice t.ha t.hN t.hc, .int .i64 t.bits] 36) := ⟨_, rfl⟩
  have hBW : Below w.heap.size w W := by rw [hW]; exact bl2 _ _ _
  have A : SpC W w.heap.size s := by rw [hW]; exact ⟨by simp [go_sem], by simp [go_sem], by simp [go_sem], by simp [go_sem], by simp [go_sem]⟩
  have C : SpC W (w.heap.size + 1) t := by rw [hW]; exact ⟨by simp [go_sem], by simp [go_sem], by simp [go_sem], by simp [go_sem], by simp [go_sem]⟩
  have HS := hide (hs.below hBW)
  have HT := hide (ht.below hBW)
  have HSB := hide hb
  have HTB := hide htb
  have HN := hide hN
  have HTO := hide hT
  have HC := hide hc
  have HLE := hide hle
  have HK := hide (show ∀ w', Below W.heap.size W w' → (w'.cell? ⟨w.heap.size, 0, none⟩ = some (.bool s.ln) ∧ w'.cell? ⟨w.heap.size, 1, none⟩ = some (.slice s.la s.lN s.lc) ∧ w'.cell? ⟨w.heap.size, 2, none⟩ = some (.bool s.hn) ∧ w'.cell? ⟨w.heap.size, 3, none⟩ = some (.slice s.ha s.hN s.hc) ∧ w'.cell? ⟨w.heap.size, 4, none⟩ = some (.int .i64 s.bits) ∧ w'.cell? ⟨w.heap.size + 1, 0, none⟩ = some (.bool t.ln) ∧ w'.cell? ⟨w.heap.size + 1, 1, none⟩ = some (.slice t.la t.lN t.lc) ∧ w'.cell? ⟨w.heap.size + 1, 2, none⟩ = some (.bool t.hn) ∧ w'.cell? ⟨w.heap.size + 1, 3, none⟩ = some (.slice t.ha t.hN t.hc) ∧ w'.cell? ⟨w.heap.size + 1, 4, none⟩ = some (.int .i64 t.bits)) from fun w' hB => ⟨(A.below hB).c0, (A.below hB).c1, (A.below hB).c2, (A.below hB).c3, (A.below hB).c4, (C.below hB).c0, (C.below hB).c1, (C.below hB).c2, (C.below hB).c3, (C.below hB).c4⟩)
  clear A C hs ht hb htb hN hT hc hle
  go_enter Try.func13, Try.ntmps13
  go_wp2
  rw [← hW]
  clear hW
  obtain ⟨x0, x1, x2, x3, x4, y0, y1, y2, y3, y4⟩ := unhide HK _ (Below.refl _ _)
  have hD0 : Below W.heap.size W W.drew := (Below.refl _ _).drew
  go_region_held3 (fun w' => w'.cell? ⟨w.heap.size, 0, none⟩ = some (.bool s.ln) ∧ w'.cell? ⟨w.heap.size, 1, none⟩ = some (.slice s.la s.lN s.lc) ∧ w'.cell? ⟨w.heap.size, 2, none⟩ = some (.bool s.hn) ∧ w'.cell? ⟨w.heap.size, 3, none⟩ = some (.slice s.ha s.hN s.hc) ∧ w'.cell? ⟨w.heap.size, 4, none⟩ = some (.int .i64 s.bits) ∧ w'.cell? ⟨w.heap.size + 1, 0, none⟩ = some (.bool t.ln) ∧ w'.cell? ⟨w.heap.size + 1, 1, none⟩ = some (.slice t.la t.lN t.lc) ∧ w'.cell? ⟨w.heap.size + 1, 2, none⟩ = some (.bool t.hn) ∧ w'.cell? ⟨w.heap.size + 1, 3, none⟩ = some (.slice t.ha t.hN t.hc) ∧ w'.cell? ⟨w.heap.size + 1, 4, none⟩ = some (.int .i64 t.bits)) (first | exact unhide HK _ (by first | with_reducible exact hD0 | with_reducible exact hD6 | with_reducible exact hD5 | with_reducible exact hD4 | with_reducible exact hD3 | with_reducible exact hD2 | with_reducible exact hD1) | go_keep)
    (first
      | (go_at_call 23; have hq := hD5; refine (touch_gt _ s t k i 0 lo hi lo' hi' (((unhide HS).below hD5).mono hk0) ((unhide HT).below hD5) hk (by have := unhide HSB; omega) (by have := unhide HSB; omega) (by have := unhide HTB; omega) (by have := unhide HTB; omega) (by have := unhide HSB; have := unhide HTB; omega) (by have := unhide HSB; have := unhide HTB; omega) (by have := unhide HTB; omega)).mono ?_; rintro r' w6 ⟨rfl, hb6⟩; rw [unhide HTO]; have hD6 := bthen hD5 hb6)
      | (go_at_call 22; have hq := hD4; refine (refOf_any _ s).mono ?_; rintro r' w5 ⟨rfl, hb5⟩; have hD5 := bthen hD4 hb5)
      | (go_at_call 49; have hq := hD3; refine (narrowBy_four _ s b lo hi ((unhide HS).below hD3) (unhide HSB) hbm (unhide HLE) (unhide HN)).mono ?_; rintro r' w4 ⟨rfl, hb4⟩; have hD4 := bthen hD3 hb4)
      | (go_at_call 24; have hq := hD2; refine (cmp_int _ _ _ _ _ _ _ _ _ _ lo hi _ ((unhide HS).lo.below hD2) ((unhide HS).hi.below hD2)).mono ?_; rintro r' w3 ⟨rfl, hb3⟩; rw [unhide HC]; have hD3 := bthen hD2 hb3)
      | (go_at_call 50; have hq := hD1; refine (isRight_int _ _ _ _ 250 hi _ ((unhide HS).hi.below hD1)).mono ?_; rintro r' w2 ⟨rfl, hb2⟩; have hD2 := bthen hD1 hb2)
      | (go_at_call 50; refine (isRight_int _ _ _ _ 250 lo _ ((unhide HS).lo.below hD0)).mono ?_; rintro r' w1 ⟨rfl, hb1⟩; have hD1 := bthen hD0 hb1))
  all_goals
    go_wp2_with fail
    go_ret
    exact ⟨rfl, bthen hBW hD6⟩

set_option maxRecDepth 100000 in
set_option maxHeartbeats 4000000 in
theorem lawSure_b (w : World) (s t : Sp) (b i k : Nat) (lo hi lo' hi' : Int) (hs : SpAt w s 250 lo hi) (ht : SpAt w t k lo' hi') (hk0 : 250 ≤ k) (hk : k ≤ 300000000) (hb : s.bits = b) (hbm : b ≤ 120) (hle : lo ≤ hi) (hi0 : 1 ≤ i) (hi1 : i ≤ 1000) (htb : t.bits = ((b + i : Nat) : Int)) (hN : narB lo hi (Q b) 4 = true) (hT : touB lo hi i lo' hi' 0 = true) (hc : cmpInt lo hi = 0) :
    Calls Try.prog 13 #[.agg #[.bool s.ln, .slice s.la s.lN s.lc, .bool s.hn, .slice s.ha s.hN s.hc, .int .i64 s.bits], .int .i64 0, .int .i64 0, .int .i64 s.bits, .agg #[.bool t.ln, .slice t.la t.lN t.lc, .bool t.hn, .slice t.ha t.hN t.hc, .int .i64 t.bits]] w fun r w' => r = .returned (.bool true) ∧ Below w.heap.size w w' := by
  obtain ⟨W, hW⟩ : ∃ W, W = (w.alloc (.cells #[.bool s.ln, .slice s.la s.lN s.lc, .bool s.hn, .slice s.ha s.hN s.hc, .int .i64 s.bits] 28)).alloc (.cells #[.bool t.ln, .slice t.la t.lN t.lc, .bool t.hn, .slice t.ha t.hN t.hc, .int .i64 t.bits] 36) := ⟨_, rfl⟩
  have hBW : Below w.heap.size w W := by rw [hW]; exact bl2 _ _ _
  have A : SpC W w.heap.size s := by rw [hW]; exact ⟨by simp [go_sem], by simp [go_sem], by simp [go_sem], by simp [go_sem], by simp [go_sem]⟩
  have C : SpC W (w.heap.size + 1) t := by rw [hW]; exact ⟨by simp [go_sem], by simp [go_sem], by simp [go_sem], by simp [go_sem], by simp [go_sem]⟩
  have HS := hide (hs.below hBW)
  have HT := hide (ht.below hBW)
  have HSB := hide hb
  have HTB := hide htb
  have HN := hide hN
  have HTO := hide hT
  have HC := hide hc
  have HLE := hide hle
  have HK := hide (show ∀ w', Below W.heap.size W w' → (w'.cell? ⟨w.heap.size, 0, none⟩ = some (.bool s.ln) ∧ w'.cell? ⟨w.heap.size, 1, none⟩ = some (.slice s.la s.lN s.lc) ∧ w'.cell? ⟨w.heap.size, 2, none⟩ = some (.bool s.hn) ∧ w'.cell? ⟨w.heap.size, 3, none⟩ = some (.slice s.ha s.hN s.hc) ∧ w'.cell? ⟨w.heap.size, 4, none⟩ = some (.int .i64 s.bits) ∧ w'.cell? ⟨w.heap.size + 1, 0, none⟩ = some (.bool t.ln) ∧ w'.cell? ⟨w.heap.size + 1, 1, none⟩ = some (.slice t.la t.lN t.lc) ∧ w'.cell? ⟨w.heap.size + 1, 2, none⟩ = some (.bool t.hn) ∧ w'.cell? ⟨w.heap.size + 1, 3, none⟩ = some (.slice t.ha t.hN t.hc) ∧ w'.cell? ⟨w.heap.size + 1, 4, none⟩ = some (.int .i64 t.bits)) from fun w' hB => ⟨(A.below hB).c0, (A.below hB).c1, (A.below hB).c2, (A.below hB).c3, (A.below hB).c4, (C.below hB).c0, (C.below hB).c1, (C.below hB).c2, (C.below hB).c3, (C.below hB).c4⟩)
  clear A C hs ht hb htb hN hT hc hle
  go_enter Try.func13, Try.ntmps13
  go_wp2
  rw [← hW]
  clear hW
  obtain ⟨x0, x1, x2, x3, x4, y0, y1, y2, y3, y4⟩ := unhide HK _ (Below.refl _ _)
  have hD0 : Below W.heap.size W W.drew := (Below.refl _ _).drew
  go_region_held3 (fun w' => w'.cell? ⟨w.heap.size, 0, none⟩ = some (.bool s.ln) ∧ w'.cell? ⟨w.heap.size, 1, none⟩ = some (.slice s.la s.lN s.lc) ∧ w'.cell? ⟨w.heap.size, 2, none⟩ = some (.bool s.hn) ∧ w'.cell? ⟨w.heap.size, 3, none⟩ = some (.slice s.ha s.hN s.hc) ∧ w'.cell? ⟨w.heap.size, 4, none⟩ = some (.int .i64 s.bits) ∧ w'.cell? ⟨w.heap.size + 1, 0, none⟩ = some (.bool t.ln) ∧ w'.cell? ⟨w.heap.size + 1, 1, none⟩ = some (.slice t.la t.lN t.lc) ∧ w'.cell? ⟨w.heap.size + 1, 2, none⟩ = some (.bool t.hn) ∧ w'.cell? ⟨w.heap.size + 1, 3, none⟩ = some (.slice t.ha t.hN t.hc) ∧ w'.cell? ⟨w.heap.size + 1, 4, none⟩ = some (.int .i64 t.bits)) (first | exact unhide HK _ (by first | with_reducible exact hD0 | with_reducible exact hD6 | with_reducible exact hD5 | with_reducible exact hD4 | with_reducible exact hD3 | with_reducible exact hD2 | with_reducible exact hD1) | go_keep)
    (first
      | (go_at_call 23; have hq := hD5; refine (touch_gt _ s t k i 0 lo hi lo' hi' (((unhide HS).below hD5).mono hk0) ((unhide HT).below hD5) hk (by have := unhide HSB; omega) (by have := unhide HSB; omega) (by have := unhide HTB; omega) (by have := unhide HTB; omega) (by have := unhide HSB; have := unhide HTB; omega) (by have := unhide HSB; have := unhide HTB; omega) (by have := unhide HTB; omega)).mono ?_; rintro r' w6 ⟨rfl, hb6⟩; rw [unhide HTO]; have hD6 := bthen hD5 hb6)
      | (go_at_call 22; have hq := hD4; refine (refOf_any _ s).mono ?_; rintro r' w5 ⟨rfl, hb5⟩; have hD5 := bthen hD4 hb5)
      | (go_at_call 49; have hq := hD3; refine (narrowBy_four _ s b lo hi ((unhide HS).below hD3) (unhide HSB) hbm (unhide HLE) (unhide HN)).mono ?_; rintro r' w4 ⟨rfl, hb4⟩; have hD4 := bthen hD3 hb4)
      | (go_at_call 24; have hq := hD2; refine (cmp_int _ _ _ _ _ _ _ _ _ _ lo hi _ ((unhide HS).lo.below hD2) ((unhide HS).hi.below hD2)).mono ?_; rintro r' w3 ⟨rfl, hb3⟩; rw [unhide HC]; have hD3 := bthen hD2 hb3)
      | (go_at_call 50; have hq := hD1; refine (isRight_int _ _ _ _ 250 hi _ ((unhide HS).hi.below hD1)).mono ?_; rintro r' w2 ⟨rfl, hb2⟩; have hD2 := bthen hD1 hb2)
      | (go_at_call 50; refine (isRight_int _ _ _ _ 250 lo _ ((unhide HS).lo.below hD0)).mono ?_; rintro r' w1 ⟨rfl, hb1⟩; have hD1 := bthen hD0 hb1))
  all_goals
    go_wp2_with fail
    go_ret
    exact ⟨rfl, bthen hBW hD6⟩
end Go.Proofs.Ytgmnknmjainabab

namespace Go.Proofs.Ytgmnknmjainabab
set_option linter.unusedVariables false
set_option linter.unusedSimpArgs false
set_option linter.unnecessarySimpa false
open Go.RowKit
attribute [local go_sem ↓] Go.wp_at_zero Go.wp_at_succ

theorem cmp_le3 {x y : Int} (h : x ≤ y) : cmpInt x y = -1 ∨ cmpInt x y = 0 := by
  rcases cmp3 x y with h1 | h1 | h1
  · exact Or.inl h1.1
  · exact Or.inr h1.1
  · omega
theorem cmp_ge3 {x y : Int} (h : y ≤ x) : cmpInt x y = 1 ∨ cmpInt x y = 0 := by
  rcases cmp3 x y with h1 | h1 | h1
  · omega
  · exact Or.inr h1.1
  · exact Or.inl h1.1

set_option maxRecDepth 100000 in
set_option maxHeartbeats 8000000 in
theorem errorBegun_any (w : World) :
    Calls Try.prog 12 #[] w fun r w' => r = .returned (.bool true) ∧ Below w.heap.size w w' := by
  obtain ⟨R, hR⟩ := Ex.piR_ex
  go_enter Try.func12, Try.ntmps12
  go_wp2_with fail
  refine (cerf_ok R hR 1 1 20 _ ⟨by omega, by omega, by omega, by omega⟩ (by omega) (by omega)).mono ?_
  rintro r' w1 ⟨L, H, v, s, rfl, hsb, hs, hb1⟩
  obtain ⟨o1, o2⟩ := erf_of_one hR v
  have hle := v.le
  have HN := hide v.nar
  have hc1 := cmp_le3 o1
  have hc2 := cmp_ge3 o2
  have HSB := hide hsb
  clear hsb o1 o2 v hR
  obtain ⟨V, hV⟩ : ∃ V, V = w1.alloc (.cells #[.bool s.ln, .slice s.la s.lN s.lc, .bool s.hn, .slice s.ha s.hN s.hc, .int .i64 s.bits] 28) := ⟨_, rfl⟩
  have bV : Below w1.heap.size w1 V := by rw [hV]; exact bl1 _ _
  have A : SpC V w1.heap.size s := by rw [hV]; exact spc_new w1 s _
  have HS := hide (hs.below bV)
  have hBW : Below w.heap.size w V := bthen hb1 bV
  have lA := A.lt
  have HK := hide (show ∀ w', Below V.heap.size V w' → (w'.cell? ⟨w1.heap.size, 0, none⟩ = some (.bool s.ln) ∧ w'.cell? ⟨w1.heap.size, 1, none⟩ = some (.slice s.la s.lN s.lc) ∧ w'.cell? ⟨w1.heap.size, 2, none⟩ = some (.bool s.hn) ∧ w'.cell? ⟨w1.heap.size, 3, none⟩ = some (.slice s.ha s.hN s.hc) ∧ w'.cell? ⟨w1.heap.size, 4, none⟩ = some (.int .i64 s.bits)) from fun w' hB => ⟨(A.below hB).c0, (A.below hB).c1, (A.below hB).c2, (A.below hB).c3, (A.below hB).c4⟩)
  have hD0 : Below V.heap.size V V.drew := (Below.refl _ _).drew
  have HC1' := hide hc1
  have HC2' := hide hc2
  clear hs hb1 bV hc1 hc2
  go_wp2_with fail
  rw [← hV]
  clear hV
  obtain ⟨x0, x1, x2, x3, x4⟩ := A
  rcases unhide HC1' with hc1 | hc1 <;> rcases unhide HC2' with hc2 | hc2
  · have HC1 := hide hc1
    have HC2 := hide hc2
    clear hc1 hc2 HC1' HC2'
    go_region_held3 (fun w' => w'.cell? ⟨w1.heap.size, 0, none⟩ = some (.bool s.ln) ∧ w'.cell? ⟨w1.heap.size, 1, none⟩ = some (.slice s.la s.lN s.lc) ∧ w'.cell? ⟨w1.heap.size, 2, none⟩ = some (.bool s.hn) ∧ w'.cell? ⟨w1.heap.size, 3, none⟩ = some (.slice s.ha s.hN s.hc) ∧ w'.cell? ⟨w1.heap.size, 4, none⟩ = some (.int .i64 s.bits)) (first | exact unhide HK _ (by first | with_reducible exact hD0 | with_reducible exact hD5 | with_reducible exact hD4 | with_reducible exact hD3 | with_reducible exact hD2 | with_reducible exact hD1) | go_keep)
      (first
        | (go_at_call 49; have hq := hD4; refine (narrowBy_four _ s 20 L H ((unhide HS).below hD4) (unhide HSB) (by omega) hle (unhide HN)).mono ?_; rintro r g5 ⟨rfl, hg5⟩; have hD5 := bthen hD4 hg5; have i0 := unhide HK _ hD5)
        | (go_at_call 24; have hq := hD3; refine (cmp_int _ _ _ _ _ _ _ _ 250 4 H 883635 _ ((unhide HS).hi.below hD3) hint3).mono ?_; rintro r g4 ⟨rfl, hg4⟩; rw [unhide HC2]; have hD4 := bthen hD3 hg4)
        | (go_at_call 48; have hq := hD2; refine (numOf_int 883635 _ (by omega) (by omega)).mono ?_; rintro r g3 ⟨neg3, a3, n3, c3, rfl, hint3, hg3⟩; have hD3 := bthen hD2 hg3)
        | (go_at_call 24; have hq := hD1; refine (cmp_int _ _ _ _ _ _ _ _ 250 4 L 883636 _ ((unhide HS).lo.below hD1) hint1).mono ?_; rintro r g2 ⟨rfl, hg2⟩; rw [unhide HC1]; have hD2 := bthen hD1 hg2)
        | (go_at_call 48; refine (numOf_int 883636 _ (by omega) (by omega)).mono ?_; rintro r g1 ⟨neg1, a1, n1, c1, rfl, hint1, hg1⟩; have hD1 := bthen hD0 hg1))
    all_goals
      go_wp2_with fail
      exact bodyPost_ret (v := .bool true) (by simp [results, Try.results12]) rfl ⟨rfl, bthen hBW hD5⟩
  · have HC1 := hide hc1
    have HC2 := hide hc2
    clear hc1 hc2 HC1' HC2'
    go_region_held3 (fun w' => w'.cell? ⟨w1.heap.size, 0, none⟩ = some (.bool s.ln) ∧ w'.cell? ⟨w1.heap.size, 1, none⟩ = some (.slice s.la s.lN s.lc) ∧ w'.cell? ⟨w1.heap.size, 2, none⟩ = some (.bool s.hn) ∧ w'.cell? ⟨w1.heap.size, 3, none⟩ = some (.slice s.ha s.hN s.hc) ∧ w'.cell? ⟨w1.heap.size, 4, none⟩ = some (.int .i64 s.bits)) (first | exact unhide HK _ (by first | with_reducible exact hD0 | with_reducible exact hD5 | with_reducible exact hD4 | with_reducible exact hD3 | with_reducible exact hD2 | with_reducible exact hD1) | go_keep)
      (first
        | (go_at_call 49; have hq := hD4; refine (narrowBy_four _ s 20 L H ((unhide HS).below hD4) (unhide HSB) (by omega) hle (unhide HN)).mono ?_; rintro r g5 ⟨rfl, hg5⟩; have hD5 := bthen hD4 hg5; have i0 := unhide HK _ hD5)
        | (go_at_call 24; have hq := hD3; refine (cmp_int _ _ _ _ _ _ _ _ 250 4 H 883635 _ ((unhide HS).hi.below hD3) hint3).mono ?_; rintro r g4 ⟨rfl, hg4⟩; rw [unhide HC2]; have hD4 := bthen hD3 hg4)
        | (go_at_call 48; have hq := hD2; refine (numOf_int 883635 _ (by omega) (by omega)).mono ?_; rintro r g3 ⟨neg3, a3, n3, c3, rfl, hint3, hg3⟩; have hD3 := bthen hD2 hg3)
        | (go_at_call 24; have hq := hD1; refine (cmp_int _ _ _ _ _ _ _ _ 250 4 L 883636 _ ((unhide HS).lo.below hD1) hint1).mono ?_; rintro r g2 ⟨rfl, hg2⟩; rw [unhide HC1]; have hD2 := bthen hD1 hg2)
        | (go_at_call 48; refine (numOf_int 883636 _ (by omega) (by omega)).mono ?_; rintro r g1 ⟨neg1, a1, n1, c1, rfl, hint1, hg1⟩; have hD1 := bthen hD0 hg1))
    all_goals
      go_wp2_with fail
      exact bodyPost_ret (v := .bool true) (by simp [results, Try.results12]) rfl ⟨rfl, bthen hBW hD5⟩
  · have HC1 := hide hc1
    have HC2 := hide hc2
    clear hc1 hc2 HC1' HC2'
    go_region_held3 (fun w' => w'.cell? ⟨w1.heap.size, 0, none⟩ = some (.bool s.ln) ∧ w'.cell? ⟨w1.heap.size, 1, none⟩ = some (.slice s.la s.lN s.lc) ∧ w'.cell? ⟨w1.heap.size, 2, none⟩ = some (.bool s.hn) ∧ w'.cell? ⟨w1.heap.size, 3, none⟩ = some (.slice s.ha s.hN s.hc) ∧ w'.cell? ⟨w1.heap.size, 4, none⟩ = some (.int .i64 s.bits)) (first | exact unhide HK _ (by first | with_reducible exact hD0 | with_reducible exact hD5 | with_reducible exact hD4 | with_reducible exact hD3 | with_reducible exact hD2 | with_reducible exact hD1) | go_keep)
      (first
        | (go_at_call 49; have hq := hD4; refine (narrowBy_four _ s 20 L H ((unhide HS).below hD4) (unhide HSB) (by omega) hle (unhide HN)).mono ?_; rintro r g5 ⟨rfl, hg5⟩; have hD5 := bthen hD4 hg5; have i0 := unhide HK _ hD5)
        | (go_at_call 24; have hq := hD3; refine (cmp_int _ _ _ _ _ _ _ _ 250 4 H 883635 _ ((unhide HS).hi.below hD3) hint3).mono ?_; rintro r g4 ⟨rfl, hg4⟩; rw [unhide HC2]; have hD4 := bthen hD3 hg4)
        | (go_at_call 48; have hq := hD2; refine (numOf_int 883635 _ (by omega) (by omega)).mono ?_; rintro r g3 ⟨neg3, a3, n3, c3, rfl, hint3, hg3⟩; have hD3 := bthen hD2 hg3)
        | (go_at_call 24; have hq := hD1; refine (cmp_int _ _ _ _ _ _ _ _ 250 4 L 883636 _ ((unhide HS).lo.below hD1) hint1).mono ?_; rintro r g2 ⟨rfl, hg2⟩; rw [unhide HC1]; have hD2 := bthen hD1 hg2)
        | (go_at_call 48; refine (numOf_int 883636 _ (by omega) (by omega)).mono ?_; rintro r g1 ⟨neg1, a1, n1, c1, rfl, hint1, hg1⟩; have hD1 := bthen hD0 hg1))
    all_goals
      go_wp2_with fail
      exact bodyPost_ret (v := .bool true) (by simp [results, Try.results12]) rfl ⟨rfl, bthen hBW hD5⟩
  · have HC1 := hide hc1
    have HC2 := hide hc2
    clear hc1 hc2 HC1' HC2'
    go_region_held3 (fun w' => w'.cell? ⟨w1.heap.size, 0, none⟩ = some (.bool s.ln) ∧ w'.cell? ⟨w1.heap.size, 1, none⟩ = some (.slice s.la s.lN s.lc) ∧ w'.cell? ⟨w1.heap.size, 2, none⟩ = some (.bool s.hn) ∧ w'.cell? ⟨w1.heap.size, 3, none⟩ = some (.slice s.ha s.hN s.hc) ∧ w'.cell? ⟨w1.heap.size, 4, none⟩ = some (.int .i64 s.bits)) (first | exact unhide HK _ (by first | with_reducible exact hD0 | with_reducible exact hD5 | with_reducible exact hD4 | with_reducible exact hD3 | with_reducible exact hD2 | with_reducible exact hD1) | go_keep)
      (first
        | (go_at_call 49; have hq := hD4; refine (narrowBy_four _ s 20 L H ((unhide HS).below hD4) (unhide HSB) (by omega) hle (unhide HN)).mono ?_; rintro r g5 ⟨rfl, hg5⟩; have hD5 := bthen hD4 hg5; have i0 := unhide HK _ hD5)
        | (go_at_call 24; have hq := hD3; refine (cmp_int _ _ _ _ _ _ _ _ 250 4 H 883635 _ ((unhide HS).hi.below hD3) hint3).mono ?_; rintro r g4 ⟨rfl, hg4⟩; rw [unhide HC2]; have hD4 := bthen hD3 hg4)
        | (go_at_call 48; have hq := hD2; refine (numOf_int 883635 _ (by omega) (by omega)).mono ?_; rintro r g3 ⟨neg3, a3, n3, c3, rfl, hint3, hg3⟩; have hD3 := bthen hD2 hg3)
        | (go_at_call 24; have hq := hD1; refine (cmp_int _ _ _ _ _ _ _ _ 250 4 L 883636 _ ((unhide HS).lo.below hD1) hint1).mono ?_; rintro r g2 ⟨rfl, hg2⟩; rw [unhide HC1]; have hD2 := bthen hD1 hg2)
        | (go_at_call 48; refine (numOf_int 883636 _ (by omega) (by omega)).mono ?_; rintro r g1 ⟨neg1, a1, n1, c1, rfl, hint1, hg1⟩; have hD1 := bthen hD0 hg1))
    all_goals
      go_wp2_with fail
      exact bodyPost_ret (v := .bool true) (by simp [results, Try.results12]) rfl ⟨rfl, bthen hBW hD5⟩
end Go.Proofs.Ytgmnknmjainabab

namespace Go.Proofs.Ytgmnknmjainabab
set_option linter.unusedVariables false
set_option linter.unusedSimpArgs false
set_option linter.unnecessarySimpa false
open Go.RowKit
attribute [local go_sem ↓] Go.wp_at_zero Go.wp_at_succ

theorem refReady1 (bt : Int) (w : World) (B : Nat) (hB : w.heap.size = B) (p q : Int) (T : TypeId) (cap : Nat) :
    Calls Try.prog 11 #[.int .i64 bt, .slice (some ⟨B, 0, none⟩) 1 cap] (w.alloc (.cells #[.int .i64 p, .int .i64 q] T)) fun r w' =>
      r = .returned (.int .i64 (ratE p q bt)) ∧ Below w.heap.size w w' := by
  subst hB
  exact (refReady_any bt w.heap.size 1 cap (fun _ => p) (fun _ => q) _ (rats1 w p q T) (by omega)).mono fun r w' ⟨z, h1, h2, h3⟩ => by
    refine ⟨?_, (bl1 _ _).trans (h3.mono (by simp))⟩
    rw [h1]; unfold ratE
    rcases h2 with ⟨rfl, h4, h5⟩ | ⟨rfl, h4⟩
    · rw [if_pos ⟨h5 0 (by omega), h4⟩]
    · rw [if_neg (fun ⟨h5, h6⟩ => h4 ⟨h6, fun _ _ => h5⟩)]

theorem lawSure_ok (w : World) (s t : Sp) (b i k : Nat) (lo hi lo' hi' : Int) (hs : SpAt w s 250 lo hi) (ht : SpAt w t k lo' hi') (hk0 : 250 ≤ k) (hk : k ≤ 300000000) (hb : s.bits = b) (hb1 : b ≤ 120) (hle : lo ≤ hi) (hi0 : 1 ≤ i) (hi1 : i ≤ 1000) (htb : t.bits = ((b + i : Nat) : Int)) (hN : narB lo hi (Q b) 4 = true) (hT : touB lo hi i lo' hi' 0 = true) :
    Calls Try.prog 13 #[.agg #[.bool s.ln, .slice s.la s.lN s.lc, .bool s.hn, .slice s.ha s.hN s.hc, .int .i64 s.bits], .int .i64 0, .int .i64 0, .int .i64 b, .agg #[.bool t.ln, .slice t.la t.lN t.lc, .bool t.hn, .slice t.ha t.hN t.hc, .int .i64 t.bits]] w fun r w' => r = .returned (.bool true) ∧ Below w.heap.size w w' := by
  rw [← hb]
  rcases cmp3 lo hi with ⟨h1, h2⟩ | ⟨h1, h2⟩ | ⟨h1, h2⟩
  · exact lawSure_a w s t b i k lo hi lo' hi' hs ht hk0 hk hb hb1 hle hi0 hi1 htb hN hT h1
  · exact lawSure_b w s t b i k lo hi lo' hi' hs ht hk0 hk hb hb1 hle hi0 hi1 htb hN hT h1
  · omega

end Go.Proofs.Ytgmnknmjainabab
