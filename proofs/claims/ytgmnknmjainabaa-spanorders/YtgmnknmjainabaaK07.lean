/-
  That tailsurelaw.SpanOrders answers true of whatever spans and number, and leaves old memory alone: its ways put together.
  How a span that is handed to a statement is opened: its ends' digits, within the form's own reach; no statement of the seat is proved here.
-/
import Derived.Test.YtgmnknmjainabaaRows
import Derived.ProofKit
import Derived.OpenShut
import Derived.SizedLaws
import Derived.ChangeOld
import Derived.Test.YtgmnknmjainabaaK06
namespace Go.Proofs.Ytgmnknmjainabaa
set_option linter.unusedVariables false
set_option linter.unusedSimpArgs false
set_option linter.unnecessarySimpa false
open Go.RowKit

/-- Numbers of a span that Check has nothing against, held against another one's. -/
theorem cmp_num {w : World} {s t : Sp} {d e d' e' : Nat → Int} (hs : SpDig w s d e) (ht : SpDig w t d' e') (c1 : chkE s d e = 0) (c2 : chkE t d' e' = 0) (h : cmpI s.hn t.ln e d' s.hN t.lN < 0) : ¬ 0 < cmpI s.ln t.hn d e' s.lN t.hN := by
  obtain ⟨a1, a2, a3, a4⟩ := chk_ok hs c1
  obtain ⟨b1, b2, b3, b4⟩ := chk_ok ht c2
  have right : ∀ {neg : Bool} {n : Nat} {f : Nat → Int}, rightB neg n f ≠ false → (n = 0 ∨ f (n - 1) ≠ 0) ∧ (n = 0 → neg = false) := by
    intro neg n f hr
    unfold rightB at hr
    by_cases h0 : n = 0
    · subst h0; simp at hr; exact ⟨Or.inl rfl, fun _ => hr⟩
    · rw [if_neg h0] at hr; exact ⟨Or.inr (by simpa using hr), fun q => absurd q h0⟩
  have parts : ∀ {u : Sp} {f g : Nat → Int}, chkE u f g = 0 → rightB u.ln u.lN f ≠ false ∧ rightB u.hn u.hN g ≠ false := by
    intro u f g hc
    unfold chkE at hc
    split at hc
    · omega
    · split at hc
      · omega
      · rename_i q1 q2
        exact ⟨fun z => q2 (Or.inl z), fun z => q2 (Or.inr z)⟩
  obtain ⟨s1, s2⟩ := parts c1
  obtain ⟨t1, t2⟩ := parts c2
  obtain ⟨s1a, s1b⟩ := right s1
  obtain ⟨s2a, s2b⟩ := right s2
  obtain ⟨t1a, t1b⟩ := right t1
  obtain ⟨t2a, t2b⟩ := right t2
  rw [sgn_nonneg_lt hs.hi.dgs ht.lo.dgs _ _ _ _ s2a t1a s2b t1b] at h
  rw [sgn_nonneg_lt hs.lo.dgs ht.hi.dgs _ _ _ _ s1a t2a s1b t2b]
  refine cmpInt_le0 (fun q => ?_)
  have h3 : ¬ (¬ sgn s.hn (V e s.hN) < sgn t.ln (V d' t.lN)) := fun q2 => cmpInt_ge0 q2 h
  omega

set_option maxRecDepth 100000 in
set_option maxHeartbeats 1000000 in
theorem law_spanOrders (w : World) (s t : Sp) (d e d' e' : Nat → Int) (n : Int) (hs : SpDig w s d e) (ht : SpDig w t d' e') :
    Calls Try.prog 6 #[.agg #[.bool s.ln, .slice s.la s.lN s.lc, .bool s.hn, .slice s.ha s.hN s.hc, .int .i64 s.bits], .agg #[.bool t.ln, .slice t.la t.lN t.lc, .bool t.hn, .slice t.ha t.hN t.hc, .int .i64 t.bits], .int .i64 n] w fun r w' => r = .returned (.bool true) ∧ Below w.heap.size w w' := by
  have HT : Said2 31 #[.agg #[.bool s.ln, .slice s.la s.lN s.lc, .bool s.hn, .slice s.ha s.hN s.hc, .int .i64 s.bits], .agg #[.bool t.ln, .slice t.la t.lN t.lc, .bool t.hn, .slice t.ha t.hN t.hc, .int .i64 t.bits]] s t d e d' e' (.int .i64 (fltE2 (chkE s d e) (chkE t d' e') s.bits t.bits)) := fun W p q => twoSpans_any W s t d e d' e' p q
  have HC : Said2 17 #[.agg #[.bool s.ln, .slice s.la s.lN s.lc, .bool s.hn, .slice s.ha s.hN s.hc, .int .i64 s.bits]] s t d e d' e' (.int .i64 (chkE s d e)) := fun W p _ => checkSpan_any s d e W p
  have HO : Said2 44 #[.agg #[.bool s.ln, .slice s.la s.lN s.lc, .bool s.hn, .slice s.ha s.hN s.hc, .int .i64 s.bits], .agg #[.bool t.ln, .slice t.la t.lN t.lc, .bool t.hn, .slice t.ha t.hN t.hc, .int .i64 t.bits]] s t d e d' e' (.tuple #[.int .i64 (if fltE2 (chkE s d e) (chkE t d' e') s.bits t.bits = 0 then ordZ s t d e d' e' else 0), .int .i64 (fltE2 (chkE s d e) (chkE t d' e') s.bits t.bits)]) := fun W p q => order_any W s t d e d' e' p q
  have HN : Said2 45 #[.agg #[.bool s.ln, .slice s.la s.lN s.lc, .bool s.hn, .slice s.ha s.hN s.hc, .int .i64 s.bits], .int .i64 n] s t d e d' e' (.tuple #[.bool (narZ s d e n), .int .i64 (narE (chkE s d e) n)]) := fun W p _ => spanNarrow_any W s d e n p
  by_cases hE : fltE2 (chkE s d e) (chkE t d' e') s.bits t.bits = 0
  · have c1 : chkE s d e = 0 := by
      unfold fltE2 at hE; split at hE
      · omega
      · rename_i h; omega
    have c2 : chkE t d' e' = 0 := by
      unfold fltE2 at hE; rw [if_neg (by omega)] at hE; split at hE
      · omega
      · rename_i h; omega
    rw [if_pos hE, hE] at HO
    rw [hE] at HT
    rw [c1] at HC
    obtain ⟨k1, k2, k3, k4⟩ := chk_ok hs c1
    by_cases n1 : n < 0
    · have e1 : narE (chkE s d e) n = 3 := by simp [narE, c1, n1]
      have e2 : narZ s d e n = false := by unfold narZ; rw [e1]; rfl
      rw [e1, e2] at HN
      by_cases h1 : cmpI s.hn t.ln e d' s.hN t.lN < 0
      · rw [show ordZ s t d e d' e' = -1 by simp [ordZ, h1]] at HO
        exact ord_B1_N2 w s t d e d' e' n hs ht n1 h1 (cmp_num hs ht c1 c2 h1) HO HN HT HC
      · by_cases h2 : 0 < cmpI s.ln t.hn d e' s.lN t.hN
        · rw [show ordZ s t d e d' e' = 1 by simp [ordZ, h1, h2]] at HO
          exact ord_B2_N2 w s t d e d' e' n hs ht n1 h1 h2 HO HN HT HC
        · rw [show ordZ s t d e d' e' = 0 by simp [ordZ, h1, h2]] at HO
          exact ord_B3_N2 w s t d e d' e' n hs ht n1 h1 h2 HO HN HT HC
    · by_cases n2 : 1000000 < n
      · have e1 : narE (chkE s d e) n = 3 := by simp [narE, c1, n1, n2]
        have e2 : narZ s d e n = false := by unfold narZ; rw [e1]; rfl
        rw [e1, e2] at HN
        by_cases h1 : cmpI s.hn t.ln e d' s.hN t.lN < 0
        · rw [show ordZ s t d e d' e' = -1 by simp [ordZ, h1]] at HO
          exact ord_B1_N3 w s t d e d' e' n hs ht n1 n2 h1 (cmp_num hs ht c1 c2 h1) HO HN HT HC
        · by_cases h2 : 0 < cmpI s.ln t.hn d e' s.lN t.hN
          · rw [show ordZ s t d e d' e' = 1 by simp [ordZ, h1, h2]] at HO
            exact ord_B2_N3 w s t d e d' e' n hs ht n1 n2 h1 h2 HO HN HT HC
          · rw [show ordZ s t d e d' e' = 0 by simp [ordZ, h1, h2]] at HO
            exact ord_B3_N3 w s t d e d' e' n hs ht n1 n2 h1 h2 HO HN HT HC
      · have e1 : narE (chkE s d e) n = 0 := by simp [narE, c1, n1, n2]
        rw [e1] at HN
        have HB : Said2 46 #[.agg #[.bool s.ln, .slice s.la s.lN s.lc, .bool s.hn, .slice s.ha s.hN s.hc, .int .i64 s.bits], .int .i64 n] s t d e d' e' (.bool (narZ s d e n)) := fun W p _ => by
          have e2 : narZ s d e n = narB (loZ s d) (hiZ s e) (Q s.bits.toNat) n := by unfold narZ; rw [e1]; rfl
          rw [e2]
          obtain ⟨N, rfl⟩ := Int.eq_ofNat_of_zero_le (show 0 ≤ n by omega)
          exact narrowBy_int W s s.bits.toNat N (loZ s d) (hiZ s e) (chk_ok p c1).1 (by omega) (by omega) (by omega) k4
        by_cases h1 : cmpI s.hn t.ln e d' s.hN t.lN < 0
        · rw [show ordZ s t d e d' e' = -1 by simp [ordZ, h1]] at HO
          exact ord_B1_N4 w s t d e d' e' n hs ht n1 n2 _ h1 (cmp_num hs ht c1 c2 h1) HO HN HT HC HB
        · by_cases h2 : 0 < cmpI s.ln t.hn d e' s.lN t.hN
          · rw [show ordZ s t d e d' e' = 1 by simp [ordZ, h1, h2]] at HO
            exact ord_B2_N4 w s t d e d' e' n hs ht n1 n2 _ h1 h2 HO HN HT HC HB
          · rw [show ordZ s t d e d' e' = 0 by simp [ordZ, h1, h2]] at HO
            exact ord_B3_N4 w s t d e d' e' n hs ht n1 n2 _ h1 h2 HO HN HT HC HB
  · rw [if_neg hE] at HO
    have hE' : (fltE2 (chkE s d e) (chkE t d' e') s.bits t.bits == 0) = false := by simp [hE]
    by_cases c1 : chkE s d e = 0
    · rw [c1] at HC
      obtain ⟨k1, k2, k3, k4⟩ := chk_ok hs c1
      by_cases n1 : n < 0
      · have e1 : narE (chkE s d e) n = 3 := by simp [narE, c1, n1]
        have e2 : narZ s d e n = false := by unfold narZ; rw [e1]; rfl
        rw [e1, e2] at HN
        exact ord_A_N2 w s t d e d' e' n hs ht _ hE' n1 HO HN HT HC
      · by_cases n2 : 1000000 < n
        · have e1 : narE (chkE s d e) n = 3 := by simp [narE, c1, n1, n2]
          have e2 : narZ s d e n = false := by unfold narZ; rw [e1]; rfl
          rw [e1, e2] at HN
          exact ord_A_N3 w s t d e d' e' n hs ht _ hE' n1 n2 HO HN HT HC
        · have e1 : narE (chkE s d e) n = 0 := by simp [narE, c1, n1, n2]
          rw [e1] at HN
          have HB : Said2 46 #[.agg #[.bool s.ln, .slice s.la s.lN s.lc, .bool s.hn, .slice s.ha s.hN s.hc, .int .i64 s.bits], .int .i64 n] s t d e d' e' (.bool (narZ s d e n)) := fun W p _ => by
            have e2 : narZ s d e n = narB (loZ s d) (hiZ s e) (Q s.bits.toNat) n := by unfold narZ; rw [e1]; rfl
            rw [e2]
            obtain ⟨N, rfl⟩ := Int.eq_ofNat_of_zero_le (show 0 ≤ n by omega)
            exact narrowBy_int W s s.bits.toNat N (loZ s d) (hiZ s e) (chk_ok p c1).1 (by omega) (by omega) (by omega) k4
          exact ord_A_N4 w s t d e d' e' n hs ht _ hE' n1 n2 _ HO HN HT HC HB
    · have e1 : narE (chkE s d e) n = chkE s d e := by simp [narE, c1]
      have e2 : narZ s d e n = false := by unfold narZ; rw [e1, if_neg c1]
      rw [e1, e2] at HN
      exact ord_A_N1 w s t d e d' e' n hs ht _ hE' _ (by simp [c1]) HO HN HT HC
end Go.Proofs.Ytgmnknmjainabaa

namespace Go.Proofs.Ytgmnknmjainabaa
set_option linter.unusedVariables false
set_option linter.unusedSimpArgs false
set_option linter.unnecessarySimpa false
open Go.ChangeShapes Go.WideShapes Go.ChangeAt Go.RowKit

theorem Try.own : ownKnob Try.prog.godebug = none := by kernel_rfl
theorem Try.laidOut : laidOutB Try.prog = true := by kernel_rfl
theorem Try.cellsSpan : Try.prog.cellsOf 26 = 5 := by kernel_rfl
theorem Try.cellsInt : Try.prog.cellsOf 24 = 2 := by kernel_rfl
theorem Try.cellsI : Try.prog.cellsOf 3 = 1 := by kernel_rfl
theorem Try.cellsB : Try.prog.cellsOf 4 = 1 := by kernel_rfl
theorem Try.cellsDs : Try.prog.cellsOf 22 = 1 := by kernel_rfl
theorem Try.cellsD : Try.prog.cellsOf 96 = 1 := by kernel_rfl
theorem Try.bytesD : Try.prog.bytesOf 96 = 2 := by kernel_rfl

set_option maxRecDepth 100000 in
theorem open_nm {H : Type} {enc : TypeId × Value → H} {W : World} {fuel : Nat} {c0 c1 : Value} {x : DataW H × List MemPlace}
    (h : DataW.trod enc Try.prog W 0 (fun _ => true) true fuel 24 [c0, c1] = some x) (hw : ∀ m ∈ x.1.weights Try.prog 24, m ≤ reachBytes) :
    ∃ neg a n cap d, c0 = .bool neg ∧ c1 = .slice a n cap ∧ Dig W a n cap d := by
  obtain ⟨y0, y1, m, hx, _, h0, h1⟩ := trod_struct2 Try.underlying24 h
  simp [Try.cellsB] at h0
  simp [Try.cellsDs] at h1
  obtain ⟨neg, e0, _⟩ := DataW.trod_bool Try.underlying4 h0
  simp at e0
  rcases open_ints Try.underlying22 Try.underlying96 Try.cellsD h1 with ⟨hcs, _⟩ | ⟨a, len, cap, zs, hcs, _, hl, hm, hz, hy, hcell, hwz⟩
  · simp at hcs
    exact ⟨neg, none, 0, 0, fun _ => 0, e0, hcs, fun h => by omega, fun _ => ⟨by simp, by simp⟩, Nat.le_refl _, by omega⟩
  · simp at hcs hz
    have hbound : cap ≤ 70368744177664 := by
      have h2 := hw ((zs.take len).length * 2 + (zs.drop len).length * 2) (by
        rw [hx, hy]
        simp [DataW.weights, DataW.weightsEach, Try.underlying24, Try.underlying22, Try.bytesD, lits]
        right; left; omega)
      simp [reachBytes, hz] at h2
      omega
    have hspot : 0 < cap → a.spot = none := fun h0 => by
      have hc := hcell 0 (by omega)
      have := World.cell?_spot hc
      simpa [Addr.add] using this
    obtain ⟨b, off, spot⟩ := a
    refine ⟨neg, some ⟨b, off, spot⟩, len, cap, fun j => zs.getD j 0, e0, hcs, fun h0 => ?_, fun j => ?_, hl, by omega⟩
    · have hs := hspot (by omega)
      simp at hs
      subst hs
      have hc0 := hcell 0 (by omega)
      refine ⟨b, off, rfl, World.block_lt_of_cell? W ⟨b, off, none⟩ (by simpa [Addr.add] using hc0), fun j hj => ?_⟩
      have := hcell j (by omega)
      rw [show (⟨b, off, none⟩ : Addr).add j = ⟨b, off + j, none⟩ by unfold Addr.add; split <;> simp_all] at this
      exact this
    · have := range_u16 hwz j
      simp at this ⊢
      omega

set_option maxRecDepth 100000 in
theorem open_sp {H : Type} {enc : TypeId × Value → H} {W : World} {base : Nat} {r : Reach} {v : Value} {dd : DataW H} {p : List MemPlace} (hv : Value.okWide Try.prog W r base 26 v)
    (h : DataW.Trod enc Try.prog W 0 (fun _ => true) true 26 v dd p) (hw : ∀ m ∈ dd.weights Try.prog 26, m ≤ reachBytes) :
    ∃ (s : Sp) (d e : Nat → Int), v = .agg #[.bool s.ln, .slice s.la s.lN s.lc, .bool s.hn, .slice s.ha s.hN s.hc, .int .i64 s.bits] ∧ SpDig W s d e := by
  obtain ⟨cs, rfl, hsz⟩ := okWide_struct Try.underlying26 hv
  rw [Try.cellsSpan] at hsz
  obtain ⟨l⟩ := cs
  match l, hsz with
  | [c0, c1, c2, c3, c4], _ =>
  obtain ⟨fuel, hf⟩ := h
  obtain ⟨xs, n, _, hx, _, hlen, hfl⟩ := DataW.trod_struct Try.underlying26 hf
  match xs, hlen with
  | [y0, y1, y2], _ =>
  have t0 := hfl 0 _ rfl
  have t1 := hfl 1 _ rfl
  have t2 := hfl 2 _ rfl
  simp [Value.cells, Try.cellsInt] at t0
  simp [Value.cells, Try.cellsInt] at t1
  simp [Value.cells, Try.cellsI] at t2
  simp only [Prod.mk.injEq] at hx
  obtain ⟨hd, _⟩ := hx
  have w0 : ∀ m ∈ y0.1.weights Try.prog 24, m ≤ reachBytes := fun m hm => hw m (by rw [hd]; simp [DataW.weights, DataW.weightsEach, Try.underlying26]; exact Or.inl hm)
  have w1 : ∀ m ∈ y1.1.weights Try.prog 24, m ≤ reachBytes := fun m hm => hw m (by rw [hd]; simp [DataW.weights, DataW.weightsEach, Try.underlying26]; exact Or.inr (Or.inl hm))
  obtain ⟨ln, la, lN, lc, d, rfl, rfl, hl⟩ := open_nm t0 w0
  obtain ⟨hn, ha, hN, hc, e, rfl, rfl, hh⟩ := open_nm t1 w1
  obtain ⟨bits, e2, _, _⟩ := DataW.trod_int Try.underlying3 t2
  simp at e2
  subst e2
  exact ⟨⟨ln, la, lN, lc, hn, ha, hN, hc, bits⟩, d, e, rfl, ⟨hl, hh⟩⟩
end Go.Proofs.Ytgmnknmjainabaa
