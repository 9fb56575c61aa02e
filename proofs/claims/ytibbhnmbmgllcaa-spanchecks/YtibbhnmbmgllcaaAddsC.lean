/-
  That tailsurelaw.SpanAdds answers true of whatever spans, and leaves old memory alone: its ways put together.
-/
import Derived.Test.YtibbhnmbmgllcaaAddsB
namespace Go.Proofs.Ytibbhnmbmgllcaa
set_option linter.unusedVariables false
set_option linter.unusedSimpArgs false
set_option linter.unnecessarySimpa false
open Go.RowKit
attribute [local go_sem ↓] Go.wp_at_zero Go.wp_at_succ

theorem downZ_le {x y k : Int} (h : x ≤ y) : downZ x k ≤ downZ y k := by
  unfold downZ
  split
  · exact Int.ediv_le_ediv (by have := Q_pos k.toNat; omega) h
  · exact Int.mul_le_mul_of_nonneg_right h (by have := Q_pos (-k).toNat; omega)
theorem downZ_ceil (x k : Int) : downZ x k ≤ -(downZ (-x) k) := by
  unfold downZ
  split
  · have hq := Q_pos k.toNat
    have h1 := Int.mul_ediv_add_emod x (Q k.toNat)
    have h2 := Int.mul_ediv_add_emod (-x) (Q k.toNat)
    have h3 := Int.emod_nonneg x (show Q k.toNat ≠ 0 by omega)
    have h4 := Int.emod_nonneg (-x) (show Q k.toNat ≠ 0 by omega)
    generalize x / Q k.toNat = a at *
    generalize -x / Q k.toNat = b at *
    generalize x % Q k.toNat = c at *
    generalize -x % Q k.toNat = e at *
    rcases Int.lt_or_le (-b) a with h | h
    · exfalso
      have h5 : Q k.toNat * (a + b) = Q k.toNat * a + Q k.toNat * b := Int.mul_add _ _ _
      have h6 : Q k.toNat * 1 ≤ Q k.toNat * (a + b) := Int.mul_le_mul_of_nonneg_left (by omega) (by omega)
      omega
    · exact h
  · rw [Int.neg_mul, Int.neg_neg]; exact Int.le_refl _
theorem least_le_most (z : Nat → Int) (n : Nat) : leastZ z n ≤ mostZ z n := by
  have h : ∀ n, leastZ z n ≤ z 0 ∧ z 0 ≤ mostZ z n := by
    intro n
    induction n with
    | zero => exact ⟨Int.le_refl _, Int.le_refl _⟩
    | succ n ih =>
      refine ⟨?_, ?_⟩
      · simp only [leastZ]; split <;> omega
      · simp only [mostZ]; split <;> omega
  have := h n
  omega
theorem minZ_le (a b c e : Int) (h : a ≤ c) : minZ a b ≤ maxZ c e := by
  unfold minZ maxZ; split <;> split <;> omega

theorem fit_zero (lo hi : Int) (b : Int) : fitE lo hi ≠ 0 → fitZ lo hi lo = 0 ∧ fitZ lo hi hi = 0 ∧ fitZ lo hi b = 0 := fun h => ⟨fitZ_zero h _, fitZ_zero h _, fitZ_zero h _⟩
theorem saidD_fit (b L H : Int) (hle : L ≤ H) (h1 : 1 ≤ b) (h2 : b ≤ 120) : SaidD b 600 L H (fitZ L H b) (fitZ L H L) (fitZ L H H) (fitE L H) := by
  intro W v hv hb
  subst hb
  exact done_fit W v 600 L H hv hle h1 h2

theorem flt0 {x y b1 b2 : Int} (h : fltE2 x y b1 b2 = 0) : x = 0 ∧ y = 0 ∧ b1 = b2 := by
  unfold fltE2 at h
  by_cases hx : x = 0
  · by_cases hy : y = 0
    · by_cases hb : b1 = b2
      · exact ⟨hx, hy, hb⟩
      · simp [hx, hy, hb] at h
    · simp [hx, hy] at h
  · simp [hx] at h

theorem add1_int2 (w : World) (B0 B1 : Nat) (s t : Sp) (k : Nat) (lo hi lo' hi' : Int) (hs : SpAt w s k lo hi) (ht : SpAt w t k lo' hi') (hk : k ≤ 300000000) (a : SpC w B0 s) (g : SpC w B1 t) :
    Calls Try.prog 81 #[.pointer (some ⟨B0, 0, none⟩), .pointer (some ⟨B1, 0, none⟩)] w (PairAns w s.bits (k + 1) (lo + lo') (hi + hi') 0) :=
  add1_int w B0 B1 s t k lo hi lo' hi' hs ht (by omega) a.c0 a.c1 a.c2 a.c3 a.c4 g.c0 g.c1 g.c2 g.c3 g.c4

theorem saidAdd (s t : Sp) (d e d' e' : Nat → Int) (hE : fltE2 (chkE s d e) (chkE t d' e') s.bits t.bits = 0) (lo hi lo' hi' : Int) (hlo : lo = loZ s d) (hhi : hi = hiZ s e) (hlo' : lo' = loZ t d') (hhi' : hi' = hiZ t e') :
    SaidP 27 s t d e d' e' (fitZ (lo + lo') (hi + hi') s.bits) 600 (fitZ (lo + lo') (hi + hi') (lo + lo')) (fitZ (lo + lo') (hi + hi') (hi + hi')) (fitE (lo + lo') (hi + hi')) := by
  intro W hs ht
  obtain ⟨c1, c2, hbt⟩ := flt0 hE
  obtain ⟨p1, p2, p3, p4⟩ := chk_ok hs c1
  obtain ⟨r1, r2, r3, r4⟩ := chk_ok ht c2
  subst hlo hhi hlo' hhi'
  replace p1 : SpAt W s 250 (loZ s d) (hiZ s e) := p1
  replace r1 : SpAt W t 250 (loZ t d') (hiZ t e') := r1
  have hl : loZ s d ≤ hiZ s e := p4
  have hl' : loZ t d' ≤ hiZ t e' := r4
  refine span2_Add W s t d e d' e' hs ht _ _ _ _ _ fun W1 B0 B1 B cap hB hA hG hS => ?_
  exact made_fit_Add _ _ B W1 _ _ _ 2 cap (by omega) hS (fun z hz => by rw [flt_pr hz, hE]) s.bits 600 _ _
    (fun w' hb => (add1_int2 w' B0 B1 s t 250 _ _ _ _ ((p1.below hB).below hb) ((r1.below hB).below hb) (by omega) (hA.below hb) (hG.below hb)).mono fun r w2 h => h.mono (by omega)) (by omega) p2 p3

theorem saidSub (s t : Sp) (d e d' e' : Nat → Int) (hE : fltE2 (chkE s d e) (chkE t d' e') s.bits t.bits = 0) (lo hi lo' hi' : Int) (hlo : lo = loZ s d) (hhi : hi = hiZ s e) (hlo' : lo' = loZ t d') (hhi' : hi' = hiZ t e') :
    SaidP 28 s t d e d' e' (fitZ (lo - hi') (hi - lo') s.bits) 600 (fitZ (lo - hi') (hi - lo') (lo - hi')) (fitZ (lo - hi') (hi - lo') (hi - lo')) (fitE (lo - hi') (hi - lo')) := by
  intro W hs ht
  obtain ⟨c1, c2, hbt⟩ := flt0 hE
  obtain ⟨p1, p2, p3, p4⟩ := chk_ok hs c1
  obtain ⟨r1, r2, r3, r4⟩ := chk_ok ht c2
  subst hlo hhi hlo' hhi'
  replace p1 : SpAt W s 250 (loZ s d) (hiZ s e) := p1
  replace r1 : SpAt W t 250 (loZ t d') (hiZ t e') := r1
  have hl : loZ s d ≤ hiZ s e := p4
  have hl' : loZ t d' ≤ hiZ t e' := r4
  refine span2_Sub W s t d e d' e' hs ht _ _ _ _ _ fun W1 B0 B1 B cap hB hA hG hS => ?_
  exact made_fit_Sub _ _ B W1 _ _ _ 2 cap (by omega) hS (fun z hz => by rw [flt_pr hz, hE]) s.bits 600 _ _
    (fun w' hb => (sub1_int w' B0 B1 s t 250 _ _ _ _ ((p1.below hB).below hb) ((r1.below hB).below hb) (by omega) (hA.below hb) (hG.below hb)).mono fun r w2 h => h.mono (by omega)) (by omega) p2 p3

theorem saidMul (s t : Sp) (d e d' e' : Nat → Int) (hE : fltE2 (chkE s d e) (chkE t d' e') s.bits t.bits = 0) (lo hi lo' hi' : Int) (hlo : lo = loZ s d) (hhi : hi = hiZ s e) (hlo' : lo' = loZ t d') (hhi' : hi' = hiZ t e') :
    SaidP 29 s t d e d' e' (fitZ (downZ (leastZ (pr4 (lo * lo') (lo * hi') (hi * lo') (hi * hi')) 3) s.bits) (-(downZ (-(mostZ (pr4 (lo * lo') (lo * hi') (hi * lo') (hi * hi')) 3)) s.bits)) s.bits) 600 (fitZ (downZ (leastZ (pr4 (lo * lo') (lo * hi') (hi * lo') (hi * hi')) 3) s.bits) (-(downZ (-(mostZ (pr4 (lo * lo') (lo * hi') (hi * lo') (hi * hi')) 3)) s.bits)) (downZ (leastZ (pr4 (lo * lo') (lo * hi') (hi * lo') (hi * hi')) 3) s.bits)) (fitZ (downZ (leastZ (pr4 (lo * lo') (lo * hi') (hi * lo') (hi * hi')) 3) s.bits) (-(downZ (-(mostZ (pr4 (lo * lo') (lo * hi') (hi * lo') (hi * hi')) 3)) s.bits)) (-(downZ (-(mostZ (pr4 (lo * lo') (lo * hi') (hi * lo') (hi * hi')) 3)) s.bits))) (fitE (downZ (leastZ (pr4 (lo * lo') (lo * hi') (hi * lo') (hi * hi')) 3) s.bits) (-(downZ (-(mostZ (pr4 (lo * lo') (lo * hi') (hi * lo') (hi * hi')) 3)) s.bits))) := by
  intro W hs ht
  obtain ⟨c1, c2, hbt⟩ := flt0 hE
  obtain ⟨p1, p2, p3, p4⟩ := chk_ok hs c1
  obtain ⟨r1, r2, r3, r4⟩ := chk_ok ht c2
  subst hlo hhi hlo' hhi'
  replace p1 : SpAt W s 250 (loZ s d) (hiZ s e) := p1
  replace r1 : SpAt W t 250 (loZ t d') (hiZ t e') := r1
  have hl : loZ s d ≤ hiZ s e := p4
  have hl' : loZ t d' ≤ hiZ t e' := r4
  refine span2_Mul W s t d e d' e' hs ht _ _ _ _ _ fun W1 B0 B1 B cap hB hA hG hS => ?_
  exact made_fit_Mul _ _ B W1 _ _ _ 2 cap (by omega) hS (fun z hz => by rw [flt_pr hz, hE]) s.bits 600 _ _
    (fun w' hb => (mul1_int w' B0 B1 s t 250 _ _ _ _ ((p1.below hB).below hb) ((r1.below hB).below hb) (by omega) (by omega) (by omega) (hA.below hb) (hG.below hb)).mono fun r w2 h => h.mono (by omega)) (Int.le_trans (downZ_le (least_le_most _ _)) (downZ_ceil _ _)) p2 p3

theorem saidHull (s t : Sp) (d e d' e' : Nat → Int) (hE : fltE2 (chkE s d e) (chkE t d' e') s.bits t.bits = 0) (lo hi lo' hi' : Int) (hlo : lo = loZ s d) (hhi : hi = hiZ s e) (hlo' : lo' = loZ t d') (hhi' : hi' = hiZ t e') :
    SaidP 30 s t d e d' e' (fitZ (minZ lo lo') (maxZ hi hi') s.bits) 600 (fitZ (minZ lo lo') (maxZ hi hi') (minZ lo lo')) (fitZ (minZ lo lo') (maxZ hi hi') (maxZ hi hi')) (fitE (minZ lo lo') (maxZ hi hi')) := by
  intro W hs ht
  obtain ⟨c1, c2, hbt⟩ := flt0 hE
  obtain ⟨p1, p2, p3, p4⟩ := chk_ok hs c1
  obtain ⟨r1, r2, r3, r4⟩ := chk_ok ht c2
  subst hlo hhi hlo' hhi'
  replace p1 : SpAt W s 250 (loZ s d) (hiZ s e) := p1
  replace r1 : SpAt W t 250 (loZ t d') (hiZ t e') := r1
  have hl : loZ s d ≤ hiZ s e := p4
  have hl' : loZ t d' ≤ hiZ t e' := r4
  refine span2_Hull W s t d e d' e' hs ht _ _ _ _ _ fun W1 B0 B1 B cap hB hA hG hS => ?_
  exact made_fit_Hull _ _ B W1 _ _ _ 2 cap (by omega) hS (fun z hz => by rw [flt_pr hz, hE]) s.bits 600 _ _
    (fun w' hb => (hull1_int w' B0 B1 s t 250 _ _ _ _ ((p1.below hB).below hb) ((r1.below hB).below hb) (by omega) (hA.below hb) (hG.below hb)).mono fun r w2 h => h.mono (by omega)) (minZ_le _ _ _ _ hl) p2 p3

theorem law_spanAdds (w : World) (s t : Sp) (d e d' e' : Nat → Int) (hs : SpDig w s d e) (ht : SpDig w t d' e') :
    Calls Try.prog 4 #[.agg #[.bool s.ln, .slice s.la s.lN s.lc, .bool s.hn, .slice s.ha s.hN s.hc, .int .i64 s.bits], .agg #[.bool t.ln, .slice t.la t.lN t.lc, .bool t.hn, .slice t.ha t.hN t.hc, .int .i64 t.bits]] w fun r w' => r = .returned (.bool true) ∧ Below w.heap.size w w' := by
  have HT : Said2 31 #[.agg #[.bool s.ln, .slice s.la s.lN s.lc, .bool s.hn, .slice s.ha s.hN s.hc, .int .i64 s.bits], .agg #[.bool t.ln, .slice t.la t.lN t.lc, .bool t.hn, .slice t.ha t.hN t.hc, .int .i64 t.bits]] s t d e d' e' (.int .i64 (fltE2 (chkE s d e) (chkE t d' e') s.bits t.bits)) := fun W p q => twoSpans_any W s t d e d' e' p q
  by_cases hE : fltE2 (chkE s d e) (chkE t d' e') s.bits t.bits = 0
  · obtain ⟨c1, c2, hbt⟩ := flt0 hE
    obtain ⟨p1, p2, p3, p4⟩ := chk_ok hs c1
    obtain ⟨r1, r2, r3, r4⟩ := chk_ok ht c2
    rw [hE] at HT
    have hl : loZ s d ≤ hiZ s e := p4
    have hl' : loZ t d' ≤ hiZ t e' := r4
    exact adds_ok w s t d e d' e' hs ht (loZ s d) (hiZ s e) (loZ t d') (hiZ t e') p1 r1 p2 p3 p4 r4 _ _ _ _ _ _ _ _ _ _ _ _ _ _ _ _
      (saidAdd s t d e d' e' hE _ _ _ _ rfl rfl rfl rfl) (saidSub s t d e d' e' hE _ _ _ _ rfl rfl rfl rfl) (saidMul s t d e d' e' hE _ _ _ _ rfl rfl rfl rfl) (saidHull s t d e d' e' hE _ _ _ _ rfl rfl rfl rfl)
      (saidD_fit _ _ _ (by omega) p2 p3) (saidD_fit _ _ _ (by omega) p2 p3) (saidD_fit _ _ _ (Int.le_trans (downZ_le (least_le_most _ _)) (downZ_ceil _ _)) p2 p3) (saidD_fit _ _ _ (minZ_le _ _ _ _ p4) p2 p3)
      (fit_zero _ _ _) (fit_zero _ _ _) (fit_zero _ _ _) (fit_zero _ _ _) HT
  · exact adds_bad w s t d e d' e' hs ht _ (by simpa using hE) (fun W p q => spanAdd_bad W s t d e d' e' p q hE 1) (fun W p q => spanSub_bad W s t d e d' e' p q hE 1) (fun W p q => spanMul_bad W s t d e d' e' p q hE 1) (fun W p q => spanHull_bad W s t d e d' e' p q hE 1) HT
end Go.Proofs.Ytibbhnmbmgllcaa
