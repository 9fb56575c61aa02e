/-
  That tailsurelaw.SpanChecks answers true of whatever span, ratio and number, and leaves old memory alone: its ways put together.
  How a span that is handed to a statement is opened: its ends' digits, within the form's own reach; no statement of the seat is proved here.
-/
import Derived.Test.YtgmnknmjainabaaRows
import Derived.ProofKit
import Derived.OpenShut
import Derived.SizedLaws
import Derived.ChangeOld
import Derived.Test.YtgmnknmjainabaaK12
namespace Go.Proofs.Ytgmnknmjainabaa
set_option linter.unusedVariables false
set_option linter.unusedSimpArgs false
set_option linter.unnecessarySimpa false
open Go.RowKit
attribute [local go_sem ↓] Go.wp_at_zero Go.wp_at_succ

theorem SpanAns.mono {w : World} {b : Int} {k k' : Nat} {lo hi : Int} {r : Ending} {w' : World} (h : SpanAns w b k lo hi r w') (hk : k ≤ k') : SpanAns w b k' lo hi r w' := by
  obtain ⟨s, h1, h2, h3, h4⟩ := h
  exact ⟨s, h1, h2, h3.mono hk, h4⟩
theorem saidD_fitk (b L H : Int) (k : Nat) (hle : L ≤ H) (h1 : 1 ≤ b) (h2 : b ≤ 120) : SaidD b k L H (fitZ L H b) (fitZ L H L) (fitZ L H H) (fitE L H) := by
  intro W v hv hb
  subst hb
  exact done_fit W v k L H hv hle h1 h2
theorem ediv_bd {x q m : Int} (hq : 1 ≤ q) (h1 : -m ≤ x) (h2 : x ≤ m) (hm : 0 ≤ m) : -m ≤ x / q ∧ x / q ≤ m := by
  constructor
  · refine Int.le_ediv_of_mul_le (by omega) ?_
    have : -m * q ≤ -m * 1 := Int.mul_le_mul_of_nonpos_left (by omega) hq
    omega
  · have h3 : x / q ≤ m / q := Int.ediv_le_ediv (by omega) h2
    have h4 : m / q ≤ m := Int.ediv_le_self _ hm
    omega
theorem ratio_small {p q : Int} {b : Nat} (h : rok p q) (hb : b ≤ 120) : ¬ bigs (p * Q b / q) (-(-(p * Q b) / q)) := by
  obtain ⟨h1, h2, h3, h4⟩ := h
  have q1 := Q_pos b
  have e20 : Q 20 = 1048576 := rfl
  have q2 : Q (20 + b) ≤ Q 3999 := Q_mono (by omega)
  have q3 : Q 4000 = 2 * Q 3999 := rfl
  have q4 := Q_pos 3999
  have q5 : Q (20 + b) = Q 20 * Q b := Q_add 20 b
  have m1 : p * Q b ≤ 1048576 * Q b := Int.mul_le_mul_of_nonneg_right h2 (by omega)
  have m2 : -1048576 * Q b ≤ p * Q b := Int.mul_le_mul_of_nonneg_right h1 (by omega)
  rw [e20] at q5
  have m3 : -1048576 * Q b = -(1048576 * Q b) := Int.neg_mul _ _
  have g0 : 0 ≤ 1048576 * Q b := by omega
  have g1 := ediv_bd h3 (show -(1048576 * Q b) ≤ p * Q b by omega) m1 g0
  have g2 := ediv_bd h3 (show -(1048576 * Q b) ≤ -(p * Q b) by omega) (by omega) g0
  unfold bigs big
  generalize p * Q b / q = u at *
  generalize -(p * Q b) / q = v at *
  generalize Q 4000 = M at *
  generalize Q 3999 = N at *
  omega
theorem ceil_le (x q : Int) (hq : 0 < q) : x / q ≤ -(-x / q) := by
  by_cases h : x / q * q < x
  · rw [← ceil_up hq h]; omega
  · rw [← ceil_same hq h]; exact Int.le_refl _
theorem saidD_ratio {p q : Int} {b : Nat} (h : rok p q) (h8 : 8 ≤ b) (hb : b ≤ 120) : SaidD (b : Int) 70000 (p * Q b / q) (-(-(p * Q b) / q)) b (p * Q b / q) (-(-(p * Q b) / q)) 0 := by
  have hs := ratio_small h hb
  have hd := saidD_fitk (b : Int) (p * Q b / q) (-(-(p * Q b) / q)) 70000 (ceil_le _ _ (by have := h.2.2.1; omega)) (by omega) (by omega)
  rcases fit_cases (p * Q b / q) (-(-(p * Q b) / q)) with ⟨f1, _, _⟩ | ⟨_, f2, f3⟩
  · exact absurd f1 hs
  · rw [f2, f3, f3, f3] at hd; exact hd

theorem law_spanChecks (w : World) (s : Sp) (p q bt : Int) (d e : Nat → Int) (hs : SpDig w s d e) :
    Calls Try.prog 3 #[.agg #[.bool s.ln, .slice s.la s.lN s.lc, .bool s.hn, .slice s.ha s.hN s.hc, .int .i64 s.bits], .agg #[.int .i64 p, .int .i64 q], .int .i64 bt] w fun r w' => r = .returned (.bool true) ∧ Below w.heap.size w w' := by
  have HC : ∀ W, SpDig W s d e → Calls Try.prog 17 #[.agg #[.bool s.ln, .slice s.la s.lN s.lc, .bool s.hn, .slice s.ha s.hN s.hc, .int .i64 s.bits]] W fun r w' => r = .returned (.int .i64 (chkE s d e)) ∧ Below W.heap.size W w' := fun W h => checkSpan_any s d e W h
  have HD : ∀ W, SpDig W s d e → Calls Try.prog 25 #[.agg #[.bool s.ln, .slice s.la s.lN s.lc, .bool s.hn, .slice s.ha s.hN s.hc, .int .i64 s.bits]] W fun r w' => r = .returned (.int .i64 (chkE s d e)) ∧ Below W.heap.size W w' := fun W h => check_any s d e W h
  by_cases hb : 8 ≤ bt ∧ bt ≤ 120
  · have hb' : bitOk bt = true := by unfold bitOk; simp [hb.1, hb.2]
    obtain ⟨b, rfl⟩ := Int.eq_ofNat_of_zero_le (show 0 ≤ bt by omega)
    by_cases hr : rok p q
    · have hr' : decide (rok p q) = true := by simpa using hr
      obtain ⟨r1, r2, r3, r4⟩ := hr
      have H1 : ∀ W, Calls Try.prog 15 #[.agg #[.int .i64 p, .int .i64 q], .int .i64 (b : Int)] W (PairAns W b 70000 (p * Q b / q) (-(-(p * Q b) / q)) 0) := fun W => (spanOf_ok p q b W r1 r2 r3 r4 (by omega) (by omega)).mono fun _ _ h => h.mono (by omega)
      have HR : ∀ W, Calls Try.prog 21 #[.agg #[.int .i64 p, .int .i64 q], .int .i64 (b : Int)] W (SpanAns W b 70000 (p * Q b / q) (-(-(p * Q b) / q))) := fun W => (refRatioOf_any p q b W ⟨r1, r2, r3, r4⟩ (by omega)).mono fun _ _ h => h.mono (by omega)
      have D1 := saidD_ratio (p := p) (q := q) (b := b) ⟨r1, r2, r3, r4⟩ (by omega) (by omega)
      by_cases hE : chkE s d e = 0
      · obtain ⟨p1, p2, p3, p4⟩ := chk_ok hs hE
        rw [hE] at HC HD
        have hl : loZ s d ≤ hiZ s e := p4
        exact chk_rbo w s p q b d e hs _ _ _ _ _ _ _ _ _ _ _ (loZ s d) (hiZ s e) hr' hb' H1 (saidTo_fit s b d e hE (by omega) (by omega) _ _ rfl rfl) HC HD HR D1
          (fun W hp => (refTurn_int W s 250 b _ _ hp (by omega) (by omega) (by omega) (by omega) (by omega)).mono fun _ _ h => h.mono (by omega)) p1
          (saidD_fitk _ _ _ _ (Int.le_trans (downZ_le hl) (downZ_ceil _ _)) (by omega) (by omega)) (fit_zero _ _ _)
      · exact chk_rbe w s p q b d e hs _ _ _ _ _ _ 0 _ _ 0 0 0 0 hr' hb' _ (by simpa using hE) H1 (saidTo_bad s b d e hE) HC HD HR D1 ⟨rfl, rfl, rfl⟩
    · have hr' : decide (rok p q) = false := by simpa using hr
      have H1 : ∀ W, Calls Try.prog 15 #[.agg #[.int .i64 p, .int .i64 q], .int .i64 (b : Int)] W (PairAns W 0 70000 0 0 3) := fun W => (spanOf_bad p q b W (fun h => hr h.1)).mono fun _ _ h => h.mono (by omega)
      by_cases hE : chkE s d e = 0
      · obtain ⟨p1, p2, p3, p4⟩ := chk_ok hs hE
        rw [hE] at HC HD
        have hl : loZ s d ≤ hiZ s e := p4
        exact chk_nbo w s p q b d e hs _ _ _ _ _ _ _ 0 0 _ _ (loZ s d) (hiZ s e) hr' hb' H1 (saidTo_fit s b d e hE (by omega) (by omega) _ _ rfl rfl) HC HD ⟨rfl, rfl, rfl⟩
          (fun W hp => (refTurn_int W s 250 b _ _ hp (by omega) (by omega) (by omega) (by omega) (by omega)).mono fun _ _ h => h.mono (by omega)) p1
          (saidD_fitk _ _ _ _ (Int.le_trans (downZ_le hl) (downZ_ceil _ _)) (by omega) (by omega)) (fit_zero _ _ _)
      · exact chk_nbe w s p q b d e hs _ _ _ _ _ _ 0 0 0 0 0 0 0 hr' hb' _ (by simpa using hE) H1 (saidTo_bad s b d e hE) HC HD ⟨rfl, rfl, rfl⟩ ⟨rfl, rfl, rfl⟩
  · have hb' : bitOk bt = false := by
      unfold bitOk; rw [Bool.and_eq_false_iff]; simp; omega
    have H1 : ∀ W, Calls Try.prog 15 #[.agg #[.int .i64 p, .int .i64 q], .int .i64 bt] W (PairAns W 0 70000 0 0 3) := fun W => (spanOf_bad p q bt W (fun h => hb h.2)).mono fun _ _ h => h.mono (by omega)
    by_cases hr : rok p q
    · have hr' : decide (rok p q) = true := by simpa using hr
      by_cases hE : chkE s d e = 0
      · rw [hE] at HC HD
        exact chk_rno w s p q bt d e hs _ _ _ _ _ _ 0 0 0 0 0 0 0 hr' hb' H1 (saidTo_err s bt d e hE hb) HC HD ⟨rfl, rfl, rfl⟩ ⟨rfl, rfl, rfl⟩
      · exact chk_rne w s p q bt d e hs _ _ _ _ _ _ 0 0 0 0 0 0 0 hr' hb' _ (by simpa using hE) H1 (saidTo_bad s bt d e hE) HC HD ⟨rfl, rfl, rfl⟩ ⟨rfl, rfl, rfl⟩
    · have hr' : decide (rok p q) = false := by simpa using hr
      by_cases hE : chkE s d e = 0
      · rw [hE] at HC HD
        exact chk_nno w s p q bt d e hs _ _ _ _ _ _ 0 0 0 0 0 0 0 hr' hb' H1 (saidTo_err s bt d e hE hb) HC HD ⟨rfl, rfl, rfl⟩ ⟨rfl, rfl, rfl⟩
      · exact chk_nne w s p q bt d e hs _ _ _ _ _ _ 0 0 0 0 0 0 0 hr' hb' _ (by simpa using hE) H1 (saidTo_bad s bt d e hE) HC HD ⟨rfl, rfl, rfl⟩ ⟨rfl, rfl, rfl⟩
end Go.Proofs.Ytgmnknmjainabaa

namespace Go.Proofs.Ytgmnknmjainabaa
set_option linter.unusedVariables false
set_option linter.unusedSimpArgs false
set_option linter.unnecessarySimpa false
open Go.ChangeShapes Go.WideShapes Go.ChangeAt Go.RowKit

theorem Try.own : ownKnob Try.prog.godebug = none := by kernel_rfl
theorem Try.laidOut : laidOutB Try.prog = true := by kernel_rfl
theorem Try.cellsSpan : Try.prog.cellsOf 26 = 5 := by kernel_rfl
theorem Try.cellsInt : Try.prog.cellsOf 24 = 2 := by kernel_rfl
theorem Try.cellsI : Try.prog.cellsOf 3 = 1 := by kernel_rfl
theorem Try.cellsB : Try.prog.cellsOf 4 = 1 := by kernel_rfl
theorem Try.cellsDs : Try.prog.cellsOf 22 = 1 := by kernel_rfl
theorem Try.cellsD : Try.prog.cellsOf 96 = 1 := by kernel_rfl
theorem Try.bytesD : Try.prog.bytesOf 96 = 2 := by kernel_rfl

set_option maxRecDepth 100000 in
theorem open_nm {H : Type} {enc : TypeId × Value → H} {W : World} {fuel : Nat} {c0 c1 : Value} {x : DataW H × List MemPlace}
    (h : DataW.trod enc Try.prog W 0 (fun _ => true) true fuel 24 [c0, c1] = some x) (hw : ∀ m ∈ x.1.weights Try.prog 24, m ≤ reachBytes) :
    ∃ neg a n cap d, c0 = .bool neg ∧ c1 = .slice a n cap ∧ Dig W a n cap d := by
  obtain ⟨y0, y1, m, hx, _, h0, h1⟩ := trod_struct2 Try.underlying24 h
  simp [Try.cellsB] at h0
  simp [Try.cellsDs] at h1
  obtain ⟨neg, e0, _⟩ := DataW.trod_bool Try.underlying4 h0
  simp at e0
  rcases open_ints Try.underlying22 Try.underlying96 Try.cellsD h1 with ⟨hcs, _⟩ | ⟨a, len, cap, zs, hcs, _, hl, hm, hz, hy, hcell, hwz⟩
  · simp at hcs
    exact ⟨neg, none, 0, 0, fun _ => 0, e0, hcs, fun h => by omega, fun _ => ⟨by simp, by simp⟩, Nat.le_refl _, by omega⟩
  · simp at hcs hz
    have hbound : cap ≤ 70368744177664 := by
      have h2 := hw ((zs.take len).length * 2 + (zs.drop len).length * 2) (by
        rw [hx, hy]
        simp [DataW.weights, DataW.weightsEach, Try.underlying24, Try.underlying22, Try.bytesD, lits]
        right; left; omega)
      simp [reachBytes, hz] at h2
      omega
    have hspot : 0 < cap → a.spot = none := fun h0 => by
      have hc := hcell 0 (by omega)
      have := World.cell?_spot hc
      simpa [Addr.add] using this
    obtain ⟨b, off, spot⟩ := a
    refine ⟨neg, some ⟨b, off, spot⟩, len, cap, fun j => zs.getD j 0, e0, hcs, fun h0 => ?_, fun j => ?_, hl, by omega⟩
    · have hs := hspot (by omega)
      simp at hs
      subst hs
      have hc0 := hcell 0 (by omega)
      refine ⟨b, off, rfl, World.block_lt_of_cell? W ⟨b, off, none⟩ (by simpa [Addr.add] using hc0), fun j hj => ?_⟩
      have := hcell j (by omega)
      rw [show (⟨b, off, none⟩ : Addr).add j = ⟨b, off + j, none⟩ by unfold Addr.add; split <;> simp_all] at this
      exact this
    · have := range_u16 hwz j
      simp at this ⊢
      omega

set_option maxRecDepth 100000 in
theorem open_sp {H : Type} {enc : TypeId × Value → H} {W : World} {base : Nat} {r : Reach} {v : Value} {dd : DataW H} {p : List MemPlace} (hv : Value.okWide Try.prog W r base 26 v)
    (h : DataW.Trod enc Try.prog W 0 (fun _ => true) true 26 v dd p) (hw : ∀ m ∈ dd.weights Try.prog 26, m ≤ reachBytes) :
    ∃ (s : Sp) (d e : Nat → Int), v = .agg #[.bool s.ln, .slice s.la s.lN s.lc, .bool s.hn, .slice s.ha s.hN s.hc, .int .i64 s.bits] ∧ SpDig W s d e := by
  obtain ⟨cs, rfl, hsz⟩ := okWide_struct Try.underlying26 hv
  rw [Try.cellsSpan] at hsz
  obtain ⟨l⟩ := cs
  match l, hsz with
  | [c0, c1, c2, c3, c4], _ =>
  obtain ⟨fuel, hf⟩ := h
  obtain ⟨xs, n, _, hx, _, hlen, hfl⟩ := DataW.trod_struct Try.underlying26 hf
  match xs, hlen with
  | [y0, y1, y2], _ =>
  have t0 := hfl 0 _ rfl
  have t1 := hfl 1 _ rfl
  have t2 := hfl 2 _ rfl
  simp [Value.cells, Try.cellsInt] at t0
  simp [Value.cells, Try.cellsInt] at t1
  simp [Value.cells, Try.cellsI] at t2
  simp only [Prod.mk.injEq] at hx
  obtain ⟨hd, _⟩ := hx
  have w0 : ∀ m ∈ y0.1.weights Try.prog 24, m ≤ reachBytes := fun m hm => hw m (by rw [hd]; simp [DataW.weights, DataW.weightsEach, Try.underlying26]; exact Or.inl hm)
  have w1 : ∀ m ∈ y1.1.weights Try.prog 24, m ≤ reachBytes := fun m hm => hw m (by rw [hd]; simp [DataW.weights, DataW.weightsEach, Try.underlying26]; exact Or.inr (Or.inl hm))
  obtain ⟨ln, la, lN, lc, d, rfl, rfl, hl⟩ := open_nm t0 w0
  obtain ⟨hn, ha, hN, hc, e, rfl, rfl, hh⟩ := open_nm t1 w1
  obtain ⟨bits, e2, _, _⟩ := DataW.trod_int Try.underlying3 t2
  simp at e2
  subst e2
  exact ⟨⟨ln, la, lN, lc, hn, ha, hN, hc, bits⟩, d, e, rfl, ⟨hl, hh⟩⟩
end Go.Proofs.Ytgmnknmjainabaa
