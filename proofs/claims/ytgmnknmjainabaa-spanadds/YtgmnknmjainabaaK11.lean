/-
  That tailsurelaw.SpanAdds answers true of whatever spans, and leaves old memory alone: its ways put together.
  How a span that is handed to a statement is opened: its ends' digits, within the form's own reach; no statement of the seat is proved here.
-/
import Derived.Test.YtgmnknmjainabaaRows
import Derived.ProofKit
import Derived.OpenShut
import Derived.SizedLaws
import Derived.ChangeOld
import Derived.Test.YtgmnknmjainabaaK10
namespace Go.Proofs.Ytgmnknmjainabaa
set_option linter.unusedVariables false
set_option linter.unusedSimpArgs false
set_option linter.unnecessarySimpa false
open Go.RowKit
attribute [local go_sem ↓] Go.wp_at_zero Go.wp_at_succ

theorem downZ_le {x y k : Int} (h : x ≤ y) : downZ x k ≤ downZ y k := by
  unfold downZ
  split
  · exact Int.ediv_le_ediv (by have := Q_pos k.toNat; omega) h
  · exact Int.mul_le_mul_of_nonneg_right h (by have := Q_pos (-k).toNat; omega)
theorem downZ_ceil (x k : Int) : downZ x k ≤ -(downZ (-x) k) := by
  unfold downZ
  split
  · have hq := Q_pos k.toNat
    have h1 := Int.mul_ediv_add_emod x (Q k.toNat)
    have h2 := Int.mul_ediv_add_emod (-x) (Q k.toNat)
    have h3 := Int.emod_nonneg x (show Q k.toNat ≠ 0 by omega)
    have h4 := Int.emod_nonneg (-x) (show Q k.toNat ≠ 0 by omega)
    generalize x / Q k.toNat = a at *
    generalize -x / Q k.toNat = b at *
    generalize x % Q k.toNat = c at *
    generalize -x % Q k.toNat = e at *
    rcases Int.lt_or_le (-b) a with h | h
    · exfalso
      have h5 : Q k.toNat * (a + b) = Q k.toNat * a + Q k.toNat * b := Int.mul_add _ _ _
      have h6 : Q k.toNat * 1 ≤ Q k.toNat * (a + b) := Int.mul_le_mul_of_nonneg_left (by omega) (by omega)
      omega
    · exact h
  · rw [Int.neg_mul, Int.neg_neg]; exact Int.le_refl _
theorem least_le_most (z : Nat → Int) (n : Nat) : leastZ z n ≤ mostZ z n := by
  have h : ∀ n, leastZ z n ≤ z 0 ∧ z 0 ≤ mostZ z n := by
    intro n
    induction n with
    | zero => exact ⟨Int.le_refl _, Int.le_refl _⟩
    | succ n ih =>
      refine ⟨?_, ?_⟩
      · simp only [leastZ]; split <;> omega
      · simp only [mostZ]; split <;> omega
  have := h n
  omega
theorem minZ_le (a b c e : Int) (h : a ≤ c) : minZ a b ≤ maxZ c e := by
  unfold minZ maxZ; split <;> split <;> omega

theorem fit_zero (lo hi : Int) (b : Int) : fitE lo hi ≠ 0 → fitZ lo hi lo = 0 ∧ fitZ lo hi hi = 0 ∧ fitZ lo hi b = 0 := fun h => ⟨fitZ_zero h _, fitZ_zero h _, fitZ_zero h _⟩
theorem saidD_fit (b L H : Int) (hle : L ≤ H) (h1 : 1 ≤ b) (h2 : b ≤ 120) : SaidD b 600 L H (fitZ L H b) (fitZ L H L) (fitZ L H H) (fitE L H) := by
  intro W v hv hb
  subst hb
  exact done_fit W v 600 L H hv hle h1 h2

theorem flt0 {x y b1 b2 : Int} (h : fltE2 x y b1 b2 = 0) : x = 0 ∧ y = 0 ∧ b1 = b2 := by
  unfold fltE2 at h
  by_cases hx : x = 0
  · by_cases hy : y = 0
    · by_cases hb : b1 = b2
      · exact ⟨hx, hy, hb⟩
      · simp [hx, hy, hb] at h
    · simp [hx, hy] at h
  · simp [hx] at h

theorem add1_int2 (w : World) (B0 B1 : Nat) (s t : Sp) (k : Nat) (lo hi lo' hi' : Int) (hs : SpAt w s k lo hi) (ht : SpAt w t k lo' hi') (hk : k ≤ 300000000) (a : SpC w B0 s) (g : SpC w B1 t) :
    Calls Try.prog 81 #[.pointer (some ⟨B0, 0, none⟩), .pointer (some ⟨B1, 0, none⟩)] w (PairAns w s.bits (k + 1) (lo + lo') (hi + hi') 0) :=
  add1_int w B0 B1 s t k lo hi lo' hi' hs ht (by omega) a.c0 a.c1 a.c2 a.c3 a.c4 g.c0 g.c1 g.c2 g.c3 g.c4

theorem saidAdd (s t : Sp) (d e d' e' : Nat → Int) (hE : fltE2 (chkE s d e) (chkE t d' e') s.bits t.bits = 0) (lo hi lo' hi' : Int) (hlo : lo = loZ s d) (hhi : hi = hiZ s e) (hlo' : lo' = loZ t d') (hhi' : hi' = hiZ t e') :
    SaidP 27 s t d e d' e' (fitZ (lo + lo') (hi + hi') s.bits) 600 (fitZ (lo + lo') (hi + hi') (lo + lo')) (fitZ (lo + lo') (hi + hi') (hi + hi')) (fitE (lo + lo') (hi + hi')) := by
  intro W hs ht
  obtain ⟨c1, c2, hbt⟩ := flt0 hE
  obtain ⟨p1, p2, p3, p4⟩ := chk_ok hs c1
  obtain ⟨r1, r2, r3, r4⟩ := chk_ok ht c2
  subst hlo hhi hlo' hhi'
  replace p1 : SpAt W s 250 (loZ s d) (hiZ s e) := p1
  replace r1 : SpAt W t 250 (loZ t d') (hiZ t e') := r1
  have hl : loZ s d ≤ hiZ s e := p4
  have hl' : loZ t d' ≤ hiZ t e' := r4
  refine span2_Add W s t d e d' e' hs ht _ _ _ _ _ fun W1 B0 B1 B cap hB hA hG hS => ?_
  exact made_fit_Add _ _ B W1 _ _ _ 2 cap (by omega) hS (fun z hz => by rw [flt_pr hz, hE]) s.bits 600 _ _
    (fun w' hb => (add1_int2 w' B0 B1 s t 250 _ _ _ _ ((p1.below hB).below hb) ((r1.below hB).below hb) (by omega) (hA.below hb) (hG.below hb)).mono fun r w2 h => h.mono (by omega)) (by omega) p2 p3

theorem saidSub (s t : Sp) (d e d' e' : Nat → Int) (hE : fltE2 (chkE s d e) (chkE t d' e') s.bits t.bits = 0) (lo hi lo' hi' : Int) (hlo : lo = loZ s d) (hhi : hi = hiZ s e) (hlo' : lo' = loZ t d') (hhi' : hi' = hiZ t e') :
    SaidP 28 s t d e d' e' (fitZ (lo - hi') (hi - lo') s.bits) 600 (fitZ (lo - hi') (hi - lo') (lo - hi')) (fitZ (lo - hi') (hi - lo') (hi - lo')) (fitE (lo - hi') (hi - lo')) := by
  intro W hs ht
  obtain ⟨c1, c2, hbt⟩ := flt0 hE
  obtain ⟨p1, p2, p3, p4⟩ := chk_ok hs c1
  obtain ⟨r1, r2, r3, r4⟩ := chk_ok ht c2
  subst hlo hhi hlo' hhi'
  replace p1 : SpAt W s 250 (loZ s d) (hiZ s e) := p1
  replace r1 : SpAt W t 250 (loZ t d') (hiZ t e') := r1
  have hl : loZ s d ≤ hiZ s e := p4
  have hl' : loZ t d' ≤ hiZ t e' := r4
  refine span2_Sub W s t d e d' e' hs ht _ _ _ _ _ fun W1 B0 B1 B cap hB hA hG hS => ?_
  exact made_fit_Sub _ _ B W1 _ _ _ 2 cap (by omega) hS (fun z hz => by rw [flt_pr hz, hE]) s.bits 600 _ _
    (fun w' hb => (sub1_int w' B0 B1 s t 250 _ _ _ _ ((p1.below hB).below hb) ((r1.below hB).below hb) (by omega) (hA.below hb) (hG.below hb)).mono fun r w2 h => h.mono (by omega)) (by omega) p2 p3

theorem saidMul (s t : Sp) (d e d' e' : Nat → Int) (hE : fltE2 (chkE s d e) (chkE t d' e') s.bits t.bits = 0) (lo hi lo' hi' : Int) (hlo : lo = loZ s d) (hhi : hi = hiZ s e) (hlo' : lo' = loZ t d') (hhi' : hi' = hiZ t e') :
    SaidP 29 s t d e d' e' (fitZ (downZ (leastZ (pr4 (lo * lo') (lo * hi') (hi * lo') (hi * hi')) 3) s.bits) (-(downZ (-(mostZ (pr4 (lo * lo') (lo * hi') (hi * lo') (hi * hi')) 3)) s.bits)) s.bits) 600 (fitZ (downZ (leastZ (pr4 (lo * lo') (lo * hi') (hi * lo') (hi * hi')) 3) s.bits) (-(downZ (-(mostZ (pr4 (lo * lo') (lo * hi') (hi * lo') (hi * hi')) 3)) s.bits)) (downZ (leastZ (pr4 (lo * lo') (lo * hi') (hi * lo') (hi * hi')) 3) s.bits)) (fitZ (downZ (leastZ (pr4 (lo * lo') (lo * hi') (hi * lo') (hi * hi')) 3) s.bits) (-(downZ (-(mostZ (pr4 (lo * lo') (lo * hi') (hi * lo') (hi * hi')) 3)) s.bits)) (-(downZ (-(mostZ (pr4 (lo * lo') (lo * hi') (hi * lo') (hi * hi')) 3)) s.bits))) (fitE (downZ (leastZ (pr4 (lo * lo') (lo * hi') (hi * lo') (hi * hi')) 3) s.bits) (-(downZ (-(mostZ (pr4 (lo * lo') (lo * hi') (hi * lo') (hi * hi')) 3)) s.bits))) := by
  intro W hs ht
  obtain ⟨c1, c2, hbt⟩ := flt0 hE
  obtain ⟨p1, p2, p3, p4⟩ := chk_ok hs c1
  obtain ⟨r1, r2, r3, r4⟩ := chk_ok ht c2
  subst hlo hhi hlo' hhi'
  replace p1 : SpAt W s 250 (loZ s d) (hiZ s e) := p1
  replace r1 : SpAt W t 250 (loZ t d') (hiZ t e') := r1
  have hl : loZ s d ≤ hiZ s e := p4
  have hl' : loZ t d' ≤ hiZ t e' := r4
  refine span2_Mul W s t d e d' e' hs ht _ _ _ _ _ fun W1 B0 B1 B cap hB hA hG hS => ?_
  exact made_fit_Mul _ _ B W1 _ _ _ 2 cap (by omega) hS (fun z hz => by rw [flt_pr hz, hE]) s.bits 600 _ _
    (fun w' hb => (mul1_int w' B0 B1 s t 250 _ _ _ _ ((p1.below hB).below hb) ((r1.below hB).below hb) (by omega) (by omega) (by omega) (hA.below hb) (hG.below hb)).mono fun r w2 h => h.mono (by omega)) (Int.le_trans (downZ_le (least_le_most _ _)) (downZ_ceil _ _)) p2 p3

theorem saidHull (s t : Sp) (d e d' e' : Nat → Int) (hE : fltE2 (chkE s d e) (chkE t d' e') s.bits t.bits = 0) (lo hi lo' hi' : Int) (hlo : lo = loZ s d) (hhi : hi = hiZ s e) (hlo' : lo' = loZ t d') (hhi' : hi' = hiZ t e') :
    SaidP 30 s t d e d' e' (fitZ (minZ lo lo') (maxZ hi hi') s.bits) 600 (fitZ (minZ lo lo') (maxZ hi hi') (minZ lo lo')) (fitZ (minZ lo lo') (maxZ hi hi') (maxZ hi hi')) (fitE (minZ lo lo') (maxZ hi hi')) := by
  intro W hs ht
  obtain ⟨c1, c2, hbt⟩ := flt0 hE
  obtain ⟨p1, p2, p3, p4⟩ := chk_ok hs c1
  obtain ⟨r1, r2, r3, r4⟩ := chk_ok ht c2
  subst hlo hhi hlo' hhi'
  replace p1 : SpAt W s 250 (loZ s d) (hiZ s e) := p1
  replace r1 : SpAt W t 250 (loZ t d') (hiZ t e') := r1
  have hl : loZ s d ≤ hiZ s e := p4
  have hl' : loZ t d' ≤ hiZ t e' := r4
  refine span2_Hull W s t d e d' e' hs ht _ _ _ _ _ fun W1 B0 B1 B cap hB hA hG hS => ?_
  exact made_fit_Hull _ _ B W1 _ _ _ 2 cap (by omega) hS (fun z hz => by rw [flt_pr hz, hE]) s.bits 600 _ _
    (fun w' hb => (hull1_int w' B0 B1 s t 250 _ _ _ _ ((p1.below hB).below hb) ((r1.below hB).below hb) (by omega) (hA.below hb) (hG.below hb)).mono fun r w2 h => h.mono (by omega)) (minZ_le _ _ _ _ hl) p2 p3

theorem law_spanAdds (w : World) (s t : Sp) (d e d' e' : Nat → Int) (hs : SpDig w s d e) (ht : SpDig w t d' e') :
    Calls Try.prog 4 #[.agg #[.bool s.ln, .slice s.la s.lN s.lc, .bool s.hn, .slice s.ha s.hN s.hc, .int .i64 s.bits], .agg #[.bool t.ln, .slice t.la t.lN t.lc, .bool t.hn, .slice t.ha t.hN t.hc, .int .i64 t.bits]] w fun r w' => r = .returned (.bool true) ∧ Below w.heap.size w w' := by
  have HT : Said2 31 #[.agg #[.bool s.ln, .slice s.la s.lN s.lc, .bool s.hn, .slice s.ha s.hN s.hc, .int .i64 s.bits], .agg #[.bool t.ln, .slice t.la t.lN t.lc, .bool t.hn, .slice t.ha t.hN t.hc, .int .i64 t.bits]] s t d e d' e' (.int .i64 (fltE2 (chkE s d e) (chkE t d' e') s.bits t.bits)) := fun W p q => twoSpans_any W s t d e d' e' p q
  by_cases hE : fltE2 (chkE s d e) (chkE t d' e') s.bits t.bits = 0
  · obtain ⟨c1, c2, hbt⟩ := flt0 hE
    obtain ⟨p1, p2, p3, p4⟩ := chk_ok hs c1
    obtain ⟨r1, r2, r3, r4⟩ := chk_ok ht c2
    rw [hE] at HT
    have hl : loZ s d ≤ hiZ s e := p4
    have hl' : loZ t d' ≤ hiZ t e' := r4
    exact adds_ok w s t d e d' e' hs ht (loZ s d) (hiZ s e) (loZ t d') (hiZ t e') p1 r1 p2 p3 p4 r4 _ _ _ _ _ _ _ _ _ _ _ _ _ _ _ _
      (saidAdd s t d e d' e' hE _ _ _ _ rfl rfl rfl rfl) (saidSub s t d e d' e' hE _ _ _ _ rfl rfl rfl rfl) (saidMul s t d e d' e' hE _ _ _ _ rfl rfl rfl rfl) (saidHull s t d e d' e' hE _ _ _ _ rfl rfl rfl rfl)
      (saidD_fit _ _ _ (by omega) p2 p3) (saidD_fit _ _ _ (by omega) p2 p3) (saidD_fit _ _ _ (Int.le_trans (downZ_le (least_le_most _ _)) (downZ_ceil _ _)) p2 p3) (saidD_fit _ _ _ (minZ_le _ _ _ _ p4) p2 p3)
      (fit_zero _ _ _) (fit_zero _ _ _) (fit_zero _ _ _) (fit_zero _ _ _) HT
  · exact adds_bad w s t d e d' e' hs ht _ (by simpa using hE) (fun W p q => spanAdd_bad W s t d e d' e' p q hE 1) (fun W p q => spanSub_bad W s t d e d' e' p q hE 1) (fun W p q => spanMul_bad W s t d e d' e' p q hE 1) (fun W p q => spanHull_bad W s t d e d' e' p q hE 1) HT
end Go.Proofs.Ytgmnknmjainabaa

namespace Go.Proofs.Ytgmnknmjainabaa
set_option linter.unusedVariables false
set_option linter.unusedSimpArgs false
set_option linter.unnecessarySimpa false
open Go.ChangeShapes Go.WideShapes Go.ChangeAt Go.RowKit

theorem Try.own : ownKnob Try.prog.godebug = none := by kernel_rfl
theorem Try.laidOut : laidOutB Try.prog = true := by kernel_rfl
theorem Try.cellsSpan : Try.prog.cellsOf 26 = 5 := by kernel_rfl
theorem Try.cellsInt : Try.prog.cellsOf 24 = 2 := by kernel_rfl
theorem Try.cellsI : Try.prog.cellsOf 3 = 1 := by kernel_rfl
theorem Try.cellsB : Try.prog.cellsOf 4 = 1 := by kernel_rfl
theorem Try.cellsDs : Try.prog.cellsOf 22 = 1 := by kernel_rfl
theorem Try.cellsD : Try.prog.cellsOf 96 = 1 := by kernel_rfl
theorem Try.bytesD : Try.prog.bytesOf 96 = 2 := by kernel_rfl

set_option maxRecDepth 100000 in
theorem open_nm {H : Type} {enc : TypeId × Value → H} {W : World} {fuel : Nat} {c0 c1 : Value} {x : DataW H × List MemPlace}
    (h : DataW.trod enc Try.prog W 0 (fun _ => true) true fuel 24 [c0, c1] = some x) (hw : ∀ m ∈ x.1.weights Try.prog 24, m ≤ reachBytes) :
    ∃ neg a n cap d, c0 = .bool neg ∧ c1 = .slice a n cap ∧ Dig W a n cap d := by
  obtain ⟨y0, y1, m, hx, _, h0, h1⟩ := trod_struct2 Try.underlying24 h
  simp [Try.cellsB] at h0
  simp [Try.cellsDs] at h1
  obtain ⟨neg, e0, _⟩ := DataW.trod_bool Try.underlying4 h0
  simp at e0
  rcases open_ints Try.underlying22 Try.underlying96 Try.cellsD h1 with ⟨hcs, _⟩ | ⟨a, len, cap, zs, hcs, _, hl, hm, hz, hy, hcell, hwz⟩
  · simp at hcs
    exact ⟨neg, none, 0, 0, fun _ => 0, e0, hcs, fun h => by omega, fun _ => ⟨by simp, by simp⟩, Nat.le_refl _, by omega⟩
  · simp at hcs hz
    have hbound : cap ≤ 70368744177664 := by
      have h2 := hw ((zs.take len).length * 2 + (zs.drop len).length * 2) (by
        rw [hx, hy]
        simp [DataW.weights, DataW.weightsEach, Try.underlying24, Try.underlying22, Try.bytesD, lits]
        right; left; omega)
      simp [reachBytes, hz] at h2
      omega
    have hspot : 0 < cap → a.spot = none := fun h0 => by
      have hc := hcell 0 (by omega)
      have := World.cell?_spot hc
      simpa [Addr.add] using this
    obtain ⟨b, off, spot⟩ := a
    refine ⟨neg, some ⟨b, off, spot⟩, len, cap, fun j => zs.getD j 0, e0, hcs, fun h0 => ?_, fun j => ?_, hl, by omega⟩
    · have hs := hspot (by omega)
      simp at hs
      subst hs
      have hc0 := hcell 0 (by omega)
      refine ⟨b, off, rfl, World.block_lt_of_cell? W ⟨b, off, none⟩ (by simpa [Addr.add] using hc0), fun j hj => ?_⟩
      have := hcell j (by omega)
      rw [show (⟨b, off, none⟩ : Addr).add j = ⟨b, off + j, none⟩ by unfold Addr.add; split <;> simp_all] at this
      exact this
    · have := range_u16 hwz j
      simp at this ⊢
      omega

set_option maxRecDepth 100000 in
theorem open_sp {H : Type} {enc : TypeId × Value → H} {W : World} {base : Nat} {r : Reach} {v : Value} {dd : DataW H} {p : List MemPlace} (hv : Value.okWide Try.prog W r base 26 v)
    (h : DataW.Trod enc Try.prog W 0 (fun _ => true) true 26 v dd p) (hw : ∀ m ∈ dd.weights Try.prog 26, m ≤ reachBytes) :
    ∃ (s : Sp) (d e : Nat → Int), v = .agg #[.bool s.ln, .slice s.la s.lN s.lc, .bool s.hn, .slice s.ha s.hN s.hc, .int .i64 s.bits] ∧ SpDig W s d e := by
  obtain ⟨cs, rfl, hsz⟩ := okWide_struct Try.underlying26 hv
  rw [Try.cellsSpan] at hsz
  obtain ⟨l⟩ := cs
  match l, hsz with
  | [c0, c1, c2, c3, c4], _ =>
  obtain ⟨fuel, hf⟩ := h
  obtain ⟨xs, n, _, hx, _, hlen, hfl⟩ := DataW.trod_struct Try.underlying26 hf
  match xs, hlen with
  | [y0, y1, y2], _ =>
  have t0 := hfl 0 _ rfl
  have t1 := hfl 1 _ rfl
  have t2 := hfl 2 _ rfl
  simp [Value.cells, Try.cellsInt] at t0
  simp [Value.cells, Try.cellsInt] at t1
  simp [Value.cells, Try.cellsI] at t2
  simp only [Prod.mk.injEq] at hx
  obtain ⟨hd, _⟩ := hx
  have w0 : ∀ m ∈ y0.1.weights Try.prog 24, m ≤ reachBytes := fun m hm => hw m (by rw [hd]; simp [DataW.weights, DataW.weightsEach, Try.underlying26]; exact Or.inl hm)
  have w1 : ∀ m ∈ y1.1.weights Try.prog 24, m ≤ reachBytes := fun m hm => hw m (by rw [hd]; simp [DataW.weights, DataW.weightsEach, Try.underlying26]; exact Or.inr (Or.inl hm))
  obtain ⟨ln, la, lN, lc, d, rfl, rfl, hl⟩ := open_nm t0 w0
  obtain ⟨hn, ha, hN, hc, e, rfl, rfl, hh⟩ := open_nm t1 w1
  obtain ⟨bits, e2, _, _⟩ := DataW.trod_int Try.underlying3 t2
  simp at e2
  subst e2
  exact ⟨⟨ln, la, lN, lc, hn, ha, hN, hc, bits⟩, d, e, rfl, ⟨hl, hh⟩⟩
end Go.Proofs.Ytgmnknmjainabaa
