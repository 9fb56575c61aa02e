/-
  That tailsurelaw.SpanAdds answers true of whatever spans, and leaves old memory alone: its ways put together.
  What tailsureref.Down, Up, Ratio, RatioOf, RightRatio, RightBits and Turn answer, where the lower number is less than 2 to the power of 48, and that they leave old memory alone.
  What tailsureref.Ratio answers, and that it leaves old memory alone.
  What tailsureref.RatioOf, RightRatio, RightBits, Turn and wide.To answer, and that they leave old memory alone.
  What tailsureref.Turn answers, and that it leaves old memory alone.
  What the way that span.To hands to span.made answers, and what span.To answers of whatever span; they leave old memory alone.
-/
import Derived.Test.YtgmnknmjainabaaK10
namespace Go.Proofs.Ytgmnknmjainabaa
set_option linter.unusedVariables false
set_option linter.unusedSimpArgs false
set_option linter.unnecessarySimpa false
open Go.RowKit
attribute [local go_sem ↓] Go.wp_at_zero Go.wp_at_succ

theorem downZ_le {x y k : Int} (h : x ≤ y) : downZ x k ≤ downZ y k := by
  unfold downZ
  split
  · exact Int.ediv_le_ediv (by have := Q_pos k.toNat; omega) h
  · exact Int.mul_le_mul_of_nonneg_right h (by have := Q_pos (-k).toNat; omega)
theorem downZ_ceil (x k : Int) : downZ x k ≤ -(downZ (-x) k) := by
  unfold downZ
  split
  · have hq := Q_pos k.toNat
    have h1 := Int.mul_ediv_add_emod x (Q k.toNat)
    have h2 := Int.mul_ediv_add_emod (-x) (Q k.toNat)
    have h3 := Int.emod_nonneg x (show Q k.toNat ≠ 0 by omega)
    have h4 := Int.emod_nonneg (-x) (show Q k.toNat ≠ 0 by omega)
    generalize x / Q k.toNat = a at *
    generalize -x / Q k.toNat = b at *
    generalize x % Q k.toNat = c at *
    generalize -x % Q k.toNat = e at *
    rcases Int.lt_or_le (-b) a with h | h
    · exfalso
      have h5 : Q k.toNat * (a + b) = Q k.toNat * a + Q k.toNat * b := Int.mul_add _ _ _
      have h6 : Q k.toNat * 1 ≤ Q k.toNat * (a + b) := Int.mul_le_mul_of_nonneg_left (by omega) (by omega)
      omega
    · exact h
  · rw [Int.neg_mul, Int.neg_neg]; exact Int.le_refl _
theorem least_le_most (z : Nat → Int) (n : Nat) : leastZ z n ≤ mostZ z n := by
  have h : ∀ n, leastZ z n ≤ z 0 ∧ z 0 ≤ mostZ z n := by
    intro n
    induction n with
    | zero => exact ⟨Int.le_refl _, Int.le_refl _⟩
    | succ n ih =>
      refine ⟨?_, ?_⟩
      · simp only [leastZ]; split <;> omega
      · simp only [mostZ]; split <;> omega
  have := h n
  omega
theorem minZ_le (a b c e : Int) (h : a ≤ c) : minZ a b ≤ maxZ c e := by
  unfold minZ maxZ; split <;> split <;> omega

theorem fit_zero (lo hi : Int) (b : Int) : fitE lo hi ≠ 0 → fitZ lo hi lo = 0 ∧ fitZ lo hi hi = 0 ∧ fitZ lo hi b = 0 := fun h => ⟨fitZ_zero h _, fitZ_zero h _, fitZ_zero h _⟩
theorem saidD_fit (b L H : Int) (hle : L ≤ H) (h1 : 1 ≤ b) (h2 : b ≤ 120) : SaidD b 600 L H (fitZ L H b) (fitZ L H L) (fitZ L H H) (fitE L H) := by
  intro W v hv hb
  subst hb
  exact done_fit W v 600 L H hv hle h1 h2

theorem flt0 {x y b1 b2 : Int} (h : fltE2 x y b1 b2 = 0) : x = 0 ∧ y = 0 ∧ b1 = b2 := by
  unfold fltE2 at h
  by_cases hx : x = 0
  · by_cases hy : y = 0
    · by_cases hb : b1 = b2
      · exact ⟨hx, hy, hb⟩
      · simp [hx, hy, hb] at h
    · simp [hx, hy] at h
  · simp [hx] at h

theorem add1_int2 (w : World) (B0 B1 : Nat) (s t : Sp) (k : Nat) (lo hi lo' hi' : Int) (hs : SpAt w s k lo hi) (ht : SpAt w t k lo' hi') (hk : k ≤ 300000000) (a : SpC w B0 s) (g : SpC w B1 t) :
    Calls Try.prog 81 #[.pointer (some ⟨B0, 0, none⟩), .pointer (some ⟨B1, 0, none⟩)] w (PairAns w s.bits (k + 1) (lo + lo') (hi + hi') 0) :=
  add1_int w B0 B1 s t k lo hi lo' hi' hs ht (by omega) a.c0 a.c1 a.c2 a.c3 a.c4 g.c0 g.c1 g.c2 g.c3 g.c4

theorem saidAdd (s t : Sp) (d e d' e' : Nat → Int) (hE : fltE2 (chkE s d e) (chkE t d' e') s.bits t.bits = 0) (lo hi lo' hi' : Int) (hlo : lo = loZ s d) (hhi : hi = hiZ s e) (hlo' : lo' = loZ t d') (hhi' : hi' = hiZ t e') :
    SaidP 27 s t d e d' e' (fitZ (lo + lo') (hi + hi') s.bits) 600 (fitZ (lo + lo') (hi + hi') (lo + lo')) (fitZ (lo + lo') (hi + hi') (hi + hi')) (fitE (lo + lo') (hi + hi')) := by
  intro W hs ht
  obtain ⟨c1, c2, hbt⟩ := flt0 hE
  obtain ⟨p1, p2, p3, p4⟩ := chk_ok hs c1
  obtain ⟨r1, r2, r3, r4⟩ := chk_ok ht c2
  subst hlo hhi hlo' hhi'
  replace p1 : SpAt W s 250 (loZ s d) (hiZ s e) := p1
  replace r1 : SpAt W t 250 (loZ t d') (hiZ t e') := r1
  have hl : loZ s d ≤ hiZ s e := p4
  have hl' : loZ t d' ≤ hiZ t e' := r4
  refine span2_Add W s t d e d' e' hs ht _ _ _ _ _ fun W1 B0 B1 B cap hB hA hG hS => ?_
  exact made_fit_Add _ _ B W1 _ _ _ 2 cap (by omega) hS (fun z hz => by rw [flt_pr hz, hE]) s.bits 600 _ _
    (fun w' hb => (add1_int2 w' B0 B1 s t 250 _ _ _ _ ((p1.below hB).below hb) ((r1.below hB).below hb) (by omega) (hA.below hb) (hG.below hb)).mono fun r w2 h => h.mono (by omega)) (by omega) p2 p3

theorem saidSub (s t : Sp) (d e d' e' : Nat → Int) (hE : fltE2 (chkE s d e) (chkE t d' e') s.bits t.bits = 0) (lo hi lo' hi' : Int) (hlo : lo = loZ s d) (hhi : hi = hiZ s e) (hlo' : lo' = loZ t d') (hhi' : hi' = hiZ t e') :
    SaidP 28 s t d e d' e' (fitZ (lo - hi') (hi - lo') s.bits) 600 (fitZ (lo - hi') (hi - lo') (lo - hi')) (fitZ (lo - hi') (hi - lo') (hi - lo')) (fitE (lo - hi') (hi - lo')) := by
  intro W hs ht
  obtain ⟨c1, c2, hbt⟩ := flt0 hE
  obtain ⟨p1, p2, p3, p4⟩ := chk_ok hs c1
  obtain ⟨r1, r2, r3, r4⟩ := chk_ok ht c2
  subst hlo hhi hlo' hhi'
  replace p1 : SpAt W s 250 (loZ s d) (hiZ s e) := p1
  replace r1 : SpAt W t 250 (loZ t d') (hiZ t e') := r1
  have hl : loZ s d ≤ hiZ s e := p4
  have hl' : loZ t d' ≤ hiZ t e' := r4
  refine span2_Sub W s t d e d' e' hs ht _ _ _ _ _ fun W1 B0 B1 B cap hB hA hG hS => ?_
  exact made_fit_Sub _ _ B W1 _ _ _ 2 cap (by omega) hS (fun z hz => by rw [flt_pr hz, hE]) s.bits 600 _ _
    (fun w' hb => (sub1_int w' B0 B1 s t 250 _ _ _ _ ((p1.below hB).below hb) ((r1.below hB).below hb) (by omega) (hA.below hb) (hG.below hb)).mono fun r w2 h => h.mono (by omega)) (by omega) p2 p3

theorem saidMul (s t : Sp) (d e d' e' : Nat → Int) (hE : fltE2 (chkE s d e) (chkE t d' e') s.bits t.bits = 0) (lo hi lo' hi' : Int) (hlo : lo = loZ s d) (hhi : hi = hiZ s e) (hlo' : lo' = loZ t d') (hhi' : hi' = hiZ t e') :
    SaidP 29 s t d e d' e' (fitZ (downZ (leastZ (pr4 (lo * lo') (lo * hi') (hi * lo') (hi * hi')) 3) s.bits) (-(downZ (-(mostZ (pr4 (lo * lo') (lo * hi') (hi * lo') (hi * hi')) 3)) s.bits)) s.bits) 600 (fitZ (downZ (leastZ (pr4 (lo * lo') (lo * hi') (hi * lo') (hi * hi')) 3) s.bits) (-(downZ (-(mostZ (pr4 (lo * lo') (lo * hi') (hi * lo') (hi * hi')) 3)) s.bits)) (downZ (leastZ (pr4 (lo * lo') (lo * hi') (hi * lo') (hi * hi')) 3) s.bits)) (fitZ (downZ (leastZ (pr4 (lo * lo') (lo * hi') (hi * lo') (hi * hi')) 3) s.bits) (-(downZ (-(mostZ (pr4 (lo * lo') (lo * hi') (hi * lo') (hi * hi')) 3)) s.bits)) (-(downZ (-(mostZ (pr4 (lo * lo') (lo * hi') (hi * lo') (hi * hi')) 3)) s.bits))) (fitE (downZ (leastZ (pr4 (lo * lo') (lo * hi') (hi * lo') (hi * hi')) 3) s.bits) (-(downZ (-(mostZ (pr4 (lo * lo') (lo * hi') (hi * lo') (hi * hi')) 3)) s.bits))) := by
  intro W hs ht
  obtain ⟨c1, c2, hbt⟩ := flt0 hE
  obtain ⟨p1, p2, p3, p4⟩ := chk_ok hs c1
  obtain ⟨r1, r2, r3, r4⟩ := chk_ok ht c2
  subst hlo hhi hlo' hhi'
  replace p1 : SpAt W s 250 (loZ s d) (hiZ s e) := p1
  replace r1 : SpAt W t 250 (loZ t d') (hiZ t e') := r1
  have hl : loZ s d ≤ hiZ s e := p4
  have hl' : loZ t d' ≤ hiZ t e' := r4
  refine span2_Mul W s t d e d' e' hs ht _ _ _ _ _ fun W1 B0 B1 B cap hB hA hG hS => ?_
  exact made_fit_Mul _ _ B W1 _ _ _ 2 cap (by omega) hS (fun z hz => by rw [flt_pr hz, hE]) s.bits 600 _ _
    (fun w' hb => (mul1_int w' B0 B1 s t 250 _ _ _ _ ((p1.below hB).below hb) ((r1.below hB).below hb) (by omega) (by omega) (by omega) (hA.below hb) (hG.below hb)).mono fun r w2 h => h.mono (by omega)) (Int.le_trans (downZ_le (least_le_most _ _)) (downZ_ceil _ _)) p2 p3

theorem saidHull (s t : Sp) (d e d' e' : Nat → Int) (hE : fltE2 (chkE s d e) (chkE t d' e') s.bits t.bits = 0) (lo hi lo' hi' : Int) (hlo : lo = loZ s d) (hhi : hi = hiZ s e) (hlo' : lo' = loZ t d') (hhi' : hi' = hiZ t e') :
    SaidP 30 s t d e d' e' (fitZ (minZ lo lo') (maxZ hi hi') s.bits) 600 (fitZ (minZ lo lo') (maxZ hi hi') (minZ lo lo')) (fitZ (minZ lo lo') (maxZ hi hi') (maxZ hi hi')) (fitE (minZ lo lo') (maxZ hi hi')) := by
  intro W hs ht
  obtain ⟨c1, c2, hbt⟩ := flt0 hE
  obtain ⟨p1, p2, p3, p4⟩ := chk_ok hs c1
  obtain ⟨r1, r2, r3, r4⟩ := chk_ok ht c2
  subst hlo hhi hlo' hhi'
  replace p1 : SpAt W s 250 (loZ s d) (hiZ s e) := p1
  replace r1 : SpAt W t 250 (loZ t d') (hiZ t e') := r1
  have hl : loZ s d ≤ hiZ s e := p4
  have hl' : loZ t d' ≤ hiZ t e' := r4
  refine span2_Hull W s t d e d' e' hs ht _ _ _ _ _ fun W1 B0 B1 B cap hB hA hG hS => ?_
  exact made_fit_Hull _ _ B W1 _ _ _ 2 cap (by omega) hS (fun z hz => by rw [flt_pr hz, hE]) s.bits 600 _ _
    (fun w' hb => (hull1_int w' B0 B1 s t 250 _ _ _ _ ((p1.below hB).below hb) ((r1.below hB).below hb) (by omega) (hA.below hb) (hG.below hb)).mono fun r w2 h => h.mono (by omega)) (minZ_le _ _ _ _ hl) p2 p3

theorem law_spanAdds (w : World) (s t : Sp) (d e d' e' : Nat → Int) (hs : SpDig w s d e) (ht : SpDig w t d' e') :
    Calls Try.prog 4 #[.agg #[.bool s.ln, .slice s.la s.lN s.lc, .bool s.hn, .slice s.ha s.hN s.hc, .int .i64 s.bits], .agg #[.bool t.ln, .slice t.la t.lN t.lc, .bool t.hn, .slice t.ha t.hN t.hc, .int .i64 t.bits]] w fun r w' => r = .returned (.bool true) ∧ Below w.heap.size w w' := by
  have HT : Said2 31 #[.agg #[.bool s.ln, .slice s.la s.lN s.lc, .bool s.hn, .slice s.ha s.hN s.hc, .int .i64 s.bits], .agg #[.bool t.ln, .slice t.la t.lN t.lc, .bool t.hn, .slice t.ha t.hN t.hc, .int .i64 t.bits]] s t d e d' e' (.int .i64 (fltE2 (chkE s d e) (chkE t d' e') s.bits t.bits)) := fun W p q => twoSpans_any W s t d e d' e' p q
  by_cases hE : fltE2 (chkE s d e) (chkE t d' e') s.bits t.bits = 0
  · obtain ⟨c1, c2, hbt⟩ := flt0 hE
    obtain ⟨p1, p2, p3, p4⟩ := chk_ok hs c1
    obtain ⟨r1, r2, r3, r4⟩ := chk_ok ht c2
    rw [hE] at HT
    have hl : loZ s d ≤ hiZ s e := p4
    have hl' : loZ t d' ≤ hiZ t e' := r4
    exact adds_ok w s t d e d' e' hs ht (loZ s d) (hiZ s e) (loZ t d') (hiZ t e') p1 r1 p2 p3 p4 r4 _ _ _ _ _ _ _ _ _ _ _ _ _ _ _ _
      (saidAdd s t d e d' e' hE _ _ _ _ rfl rfl rfl rfl) (saidSub s t d e d' e' hE _ _ _ _ rfl rfl rfl rfl) (saidMul s t d e d' e' hE _ _ _ _ rfl rfl rfl rfl) (saidHull s t d e d' e' hE _ _ _ _ rfl rfl rfl rfl)
      (saidD_fit _ _ _ (by omega) p2 p3) (saidD_fit _ _ _ (by omega) p2 p3) (saidD_fit _ _ _ (Int.le_trans (downZ_le (least_le_most _ _)) (downZ_ceil _ _)) p2 p3) (saidD_fit _ _ _ (minZ_le _ _ _ _ p4) p2 p3)
      (fit_zero _ _ _) (fit_zero _ _ _) (fit_zero _ _ _) (fit_zero _ _ _) HT
  · exact adds_bad w s t d e d' e' hs ht _ (by simpa using hE) (fun W p q => spanAdd_bad W s t d e d' e' p q hE 1) (fun W p q => spanSub_bad W s t d e d' e' p q hE 1) (fun W p q => spanMul_bad W s t d e d' e' p q hE 1) (fun W p q => spanHull_bad W s t d e d' e' p q hE 1) HT
end Go.Proofs.Ytgmnknmjainabaa

namespace Go.Proofs.Ytgmnknmjainabaa
set_option linter.unusedVariables false
set_option linter.unusedSimpArgs false
set_option linter.unnecessarySimpa false
open Go.RowKit
attribute [local go_sem ↓] Go.wp_at_zero Go.wp_at_succ

/-- A number lies in a block. -/
structure NmC (w : World) (B : Nat) (x : Nm) : Prop where
  c0 : w.cell? ⟨B, 0, none⟩ = some (.bool x.neg)
  c1 : w.cell? ⟨B, 1, none⟩ = some (.slice x.a x.n x.cap)
theorem NmC.lt {w : World} {B : Nat} {x : Nm} (h : NmC w B x) : B < w.heap.size := World.block_lt_of_cell? w ⟨B, 0, none⟩ h.c0
theorem NmC.below {w w' : World} {B : Nat} {x : Nm} (h : NmC w B x) (hb : Below w.heap.size w w') : NmC w' B x :=
  ⟨(hb.cell (p := ⟨B, 0, none⟩) h.lt).trans h.c0, (hb.cell (p := ⟨B, 1, none⟩) h.lt).trans h.c1⟩
theorem nmc_new (w : World) (x : Nm) (T : TypeId) : NmC (w.alloc (.cells #[.bool x.neg, .slice x.a x.n x.cap] T)) w.heap.size x := ⟨by simp, by simp⟩
/-- The number 0 in a block that may be written. -/
structure NoI (w : World) (B : Nat) : Prop where
  c0 : w.cell? ⟨B, 0, none⟩ = some (.bool false)
  c1 : w.cell? ⟨B, 1, none⟩ = some (.slice none 0 0)
  fz : ∀ o, w.frozen? ⟨B, o, none⟩ = false
theorem NoI.lt {w : World} {B : Nat} (h : NoI w B) : B < w.heap.size := World.block_lt_of_cell? w ⟨B, 0, none⟩ h.c0
theorem NoI.below {w w' : World} {B : Nat} (h : NoI w B) (hb : Below w.heap.size w w') : NoI w' B :=
  ⟨(hb.cell (p := ⟨B, 0, none⟩) h.lt).trans h.c0, (hb.cell (p := ⟨B, 1, none⟩) h.lt).trans h.c1, fun o => (hb.frozen (p := ⟨B, o, none⟩) h.lt).trans (h.fz o)⟩
theorem set2 {B B' : Nat} {a w : World} (h : Below B a w) (hB : B ≤ B') (u0 u1 : Value) : Below B a ((w.setCell ⟨B', 0, none⟩ u0).setCell ⟨B', 1, none⟩ u1) :=
  (h.setCell (p := ⟨B', 0, none⟩) hB u0).setCell (p := ⟨B', 1, none⟩) hB u1

/-- A number, as a call answers it. -/
def IntAns (w : World) (k : Nat) (z : Int) (r : Ending) (w' : World) : Prop :=
  ∃ neg' a' n' cap', r = .returned (.agg #[.bool neg', .slice a' n' cap']) ∧ IntAt w' neg' a' n' cap' k z ∧ Below w.heap.size w w'
theorem IntAns.mono {w : World} {k k' : Nat} {z : Int} {r : Ending} {w' : World} (h : IntAns w k z r w') (hk : k ≤ k') : IntAns w k' z r w' := by
  obtain ⟨n1, n2, n3, n4, h1, h2, h3⟩ := h
  exact ⟨n1, n2, n3, n4, h1, h2.mono hk, h3⟩

set_option maxRecDepth 100000 in
set_option maxHeartbeats 2000000 in
theorem refDown_core (neg neg2 : Bool) (a c : Option Addr) (n m cap cap2 k k2 : Nat) (x y : Int) (w : World) (h1 : IntAt w neg a n cap k x) (h2 : IntAt w neg2 c m cap2 k2 y) (hk : k ≤ 700000000) (hk2 : k2 ≤ 100000000) (hfl : ∀ w', IntAt w' neg a n cap k x → IntAt w' neg2 c m cap2 k2 y → Calls Try.prog 103 #[.agg #[.bool neg, .slice a n cap], .agg #[.bool neg2, .slice c m cap2]] w' (FloorAns w' k (x / y))) :
    Calls Try.prog 99 #[.agg #[.bool neg, .slice a n cap], .agg #[.bool neg2, .slice c m cap2]] w (IntAns w (k + 8) (x / y)) := by
  have HF := hide hfl
  clear hfl
  have le2 : w.heap.size ≤ w.heap.size + 1 + 1 := by omega
  go_enter Try.func99, Try.ntmps99
  go_wp2_with fail
  refine (unhide HF _ (h1.below (bl3 _ _ _ _)) (h2.below (bl3 _ _ _ _))).mono ?_
  rintro r w1 ⟨neg1, a1, n1, c1, rfl, hint1, hb1⟩
  obtain ⟨hsz1, hcell1, hfz1⟩ := near (w.heap.size + 1 + 1 + 1) (by simp) hb1
  go_wp2_with fail
  have q0 : w1.cell? ⟨w.heap.size + 1 + 1, 0, none⟩ = some (.bool false) := by simp [hcell1, go_sem]
  have q1 : w1.cell? ⟨w.heap.size + 1 + 1, 1, none⟩ = some (.slice none 0 0) := by simp [hcell1, go_sem]
  refine bodyPost_ret (v := .agg #[.bool neg1, .slice a1 n1 c1]) (by simp [results, Try.results99, go_sem, q0, q1]) rfl ⟨neg1, a1, n1, c1, rfl, hint1.put2 q0 q1 _ _, ?_⟩
  exact set2 (bthen (bl3 _ _ _ _) hb1) le2 _ _

theorem ceil_up {x y : Int} (hy : 0 < y) (h : x / y * y < x) : x / y + 1 = -(-x / y) := by
  have h1 := Int.mul_ediv_add_emod x y
  have h2 := Int.mul_ediv_add_emod (-x) y
  have h3 := Int.emod_lt_of_pos x hy
  have h4 := Int.emod_nonneg (-x) (show y ≠ 0 by omega)
  have h5 := Int.emod_lt_of_pos (-x) hy
  rw [Int.mul_comm y] at h1 h2
  generalize x / y = p at *
  generalize -x / y = q at *
  generalize x % y = r at *
  generalize -x % y = t at *
  -- (p + q) * y = -(r + t), and r + t is from 1 to 2y - 1
  have h6 : (p + q) * y = p * y + q * y := Int.add_mul _ _ _
  have h7 : p + q < 0 := by
    rcases Int.lt_or_le (p + q) 0 with h | h
    · exact h
    · have := Int.mul_nonneg h (show 0 ≤ y by omega); omega
  have h8 : -2 < p + q := by
    rcases Int.lt_or_le (-2) (p + q) with h | h
    · exact h
    · have := Int.mul_le_mul_of_nonneg_right h (show 0 ≤ y by omega); omega
  omega
theorem ceil_same {x y : Int} (hy : 0 < y) (h : ¬ x / y * y < x) : x / y = -(-x / y) := by
  have h1 := Int.mul_ediv_add_emod x y
  have h3 := Int.emod_nonneg x (show y ≠ 0 by omega)
  rw [Int.mul_comm y] at h1
  have h4 : x = x / y * y := by omega
  have h5 : -x = -(x / y) * y := by rw [Int.neg_mul]; omega
  rw [h5, Int.mul_ediv_cancel _ (show y ≠ 0 by omega)]; omega

set_option maxRecDepth 100000 in
set_option maxHeartbeats 4000000 in
theorem refUp_core (neg neg2 : Bool) (a c : Option Addr) (n m cap cap2 k k2 : Nat) (x y : Int) (w : World) (h1 : IntAt w neg a n cap k x) (h2 : IntAt w neg2 c m cap2 k2 y) (hk : k ≤ 700000000) (hk2 : k2 ≤ 100000000) (hy : 0 < y) (hfl : ∀ w', IntAt w' neg a n cap k x → IntAt w' neg2 c m cap2 k2 y → Calls Try.prog 103 #[.agg #[.bool neg, .slice a n cap], .agg #[.bool neg2, .slice c m cap2]] w' (FloorAns w' k (x / y))) :
    Calls Try.prog 100 #[.agg #[.bool neg, .slice a n cap], .agg #[.bool neg2, .slice c m cap2]] w (IntAns w (k + 9) (-(-x / y))) := by
  have HF := hide hfl
  clear hfl
  by_cases hlt : x / y * y < x
  · have t1 : cmpInt (x / y * y) x < 0 := by simp [cmpInt, hlt]
    have HE := hide (ceil_up hy hlt)
    clear hlt
    go_enter Try.func100, Try.ntmps100
    go_wp2_with fail
    refine (unhide HF _ (h1.below (bl3 _ _ _ _)) (h2.below (bl3 _ _ _ _))).mono ?_
    rintro r w1 ⟨neg1, a1, n1, c1, rfl, hint1, hb1⟩
    have hBw : Below w.heap.size w w1 := bthen (bl3 _ _ _ _) hb1
    obtain ⟨hsz1, hcell1, hfz1⟩ := near (w.heap.size + 1 + 1 + 1) (by simp) hb1
    have A : NmC w1 w.heap.size ⟨neg, a, n, cap⟩ := ⟨by simp [hcell1, go_sem], by simp [hcell1, go_sem]⟩
    have G : NmC w1 (w.heap.size + 1) ⟨neg2, c, m, cap2⟩ := ⟨by simp [hcell1, go_sem], by simp [hcell1, go_sem]⟩
    have R : NoI w1 (w.heap.size + 1 + 1) := ⟨by simp [hcell1, go_sem], by simp [hcell1, go_sem], fun o => by simp [hfz1, go_sem]⟩
    have hnr := R.lt
    clear hcell1 hfz1 hb1 hsz1
    obtain ⟨W1, hW1⟩ : ∃ W', W' = w1.alloc (.cells #[.bool neg1, .slice a1 n1 c1] 24) := ⟨_, rfl⟩
    have hc1 : Below w1.heap.size w1 W1 := by rw [hW1]; exact bl1 _ _
    have X : NmC W1 w1.heap.size ⟨neg1, a1, n1, c1⟩ := by rw [hW1]; exact nmc_new w1 ⟨neg1, a1, n1, c1⟩ _
    replace A := A.below hc1
    replace G := G.below hc1
    replace R := R.below hc1
    have hB2 := bthen hBw hc1
    have HX := hide (h1.below hB2)
    have HY := hide (h2.below hB2)
    replace hint1 := hide (hint1.below hc1)
    have lR := R.lt
    have lX := X.lt
    have nR : w1.heap.size ≠ w.heap.size + 1 + 1 := Nat.ne_of_gt hnr
    have nR' : w.heap.size + 1 + 1 ≠ w1.heap.size := fun e => nR e.symm
    have hB0 : Below W1.heap.size W1 W1.drew := (Below.refl _ _).drew
    have HK := hide (show ∀ w', Below W1.heap.size W1 w' → (w'.cell? ⟨w.heap.size, 0, none⟩ = some (.bool neg) ∧ w'.cell? ⟨w.heap.size, 1, none⟩ = some (.slice a n cap) ∧ w'.cell? ⟨w.heap.size + 1, 0, none⟩ = some (.bool neg2) ∧ w'.cell? ⟨w.heap.size + 1, 1, none⟩ = some (.slice c m cap2) ∧ w'.cell? ⟨w1.heap.size, 0, none⟩ = some (.bool neg1) ∧ w'.cell? ⟨w1.heap.size, 1, none⟩ = some (.slice a1 n1 c1)) from fun w' hB =>
      ⟨(A.below hB).c0, (A.below hB).c1, (G.below hB).c0, (G.below hB).c1, (X.below hB).c0, (X.below hB).c1⟩)
    go_wp2
    rw [← hW1]
    clear hW1
    obtain ⟨j0, j1, j2, j3, j4, j5⟩ := unhide HK _ (Below.refl _ _)
    go_region_held3 (fun w' => w'.cell? ⟨w.heap.size, 0, none⟩ = some (.bool neg) ∧ w'.cell? ⟨w.heap.size, 1, none⟩ = some (.slice a n cap) ∧ w'.cell? ⟨w.heap.size + 1, 0, none⟩ = some (.bool neg2) ∧ w'.cell? ⟨w.heap.size + 1, 1, none⟩ = some (.slice c m cap2) ∧ w'.cell? ⟨w1.heap.size, 0, none⟩ = some (.bool neg1) ∧ w'.cell? ⟨w1.heap.size, 1, none⟩ = some (.slice a1 n1 c1)) (exact unhide HK _ (by first | with_reducible exact hB0 | with_reducible exact hB5 | with_reducible exact hB4))
      (first
        | (go_at_call 52; refine (mul_int _ _ _ _ _ _ _ _ (k + 8) k2 (x / y) y _ ((unhide hint1).below hB0) ((unhide HY).below hB0) (by omega) (by omega)).mono ?_; rintro r w4 ⟨neg4, a4, n4, c4, rfl, hint4, hb4⟩; have hB4 := bthen hB0 hb4)
        | (go_at_call 33; refine (cmp_int _ _ _ _ _ _ _ _ (k + 8 + k2) k (x / y * y) x _ hint4 ((unhide HX).below hB4)).mono ?_; rintro r w5 ⟨rfl, hb5⟩; have hB5 := bthen hB4 hb5))
    clear j0 j1 j2 j3 j4 j5
    have X5 := X.below hB5
    have R5 := R.below hB5
    have lR5 := R5.lt
    have lX5 := X5.lt
    obtain ⟨j4, j5⟩ := X5
    obtain ⟨q0, q1, q2⟩ := R5
    have hD0 : Below w5.heap.size w5 w5.drew := (Below.refl _ _).drew
    have X5 : NmC w5 w1.heap.size ⟨neg1, a1, n1, c1⟩ := ⟨j4, j5⟩
    have R5 : NoI w5 (w.heap.size + 1 + 1) := ⟨q0, q1, q2⟩
    have HK5 := hide (show ∀ w', Below w5.heap.size w5 w' → (w'.cell? ⟨w1.heap.size, 0, none⟩ = some (.bool neg1) ∧ w'.cell? ⟨w1.heap.size, 1, none⟩ = some (.slice a1 n1 c1)) from fun w' hB => ⟨(X5.below hB).c0, (X5.below hB).c1⟩)
    go_wp2
    go_region_held3 (fun w' => w'.cell? ⟨w1.heap.size, 0, none⟩ = some (.bool neg1) ∧ w'.cell? ⟨w1.heap.size, 1, none⟩ = some (.slice a1 n1 c1)) (first | exact unhide HK5 _ (by first | with_reducible exact hD0 | with_reducible exact hD7 | with_reducible exact hD6) | go_keep)
      (first
        | (go_at_call 62; refine (numOf_int 1 _ (by decide) (by decide)).mono ?_; rintro r w6 ⟨neg6, a6, n6, c6, rfl, hint6, hb6⟩; have hD6 := bthen hD0 hb6)
        | (go_at_call 49; refine (add_int _ _ _ _ _ _ _ _ (k + 8) 4 (x / y) 1 _ (((unhide hint1).below hB5).below hD6) hint6 (by omega) (by omega)).mono ?_; rintro r w7 ⟨neg7, a7, n7, c7, rfl, hint7, hb7⟩; have hD7 := bthen hD6 hb7; obtain ⟨p0, p1, p2⟩ := R5.below hD7; obtain ⟨i0, i1⟩ := unhide HK5 _ hD7))
    go_wp2
    refine bodyPost_ret (v := .agg #[.bool neg7, .slice a7 n7 c7]) (by simp [results, Try.results100, go_sem, p0, p1]) rfl ⟨neg7, a7, n7, c7, rfl, ?_, ?_⟩
    · rw [unhide HE] at hint7
      exact (hint7.put2 p0 p1 _ _).mono (by omega)
    · exact set2 (bthen (bthen hB2 hB5) hD7) (by omega) _ _
  · have t1 : ¬ cmpInt (x / y * y) x < 0 := cmpInt_ge0 hlt
    have HE := hide (ceil_same hy hlt)
    clear hlt
    go_enter Try.func100, Try.ntmps100
    go_wp2_with fail
    refine (unhide HF _ (h1.below (bl3 _ _ _ _)) (h2.below (bl3 _ _ _ _))).mono ?_
    rintro r w1 ⟨neg1, a1, n1, c1, rfl, hint1, hb1⟩
    have hBw : Below w.heap.size w w1 := bthen (bl3 _ _ _ _) hb1
    obtain ⟨hsz1, hcell1, hfz1⟩ := near (w.heap.size + 1 + 1 + 1) (by simp) hb1
    have A : NmC w1 w.heap.size ⟨neg, a, n, cap⟩ := ⟨by simp [hcell1, go_sem], by simp [hcell1, go_sem]⟩
    have G : NmC w1 (w.heap.size + 1) ⟨neg2, c, m, cap2⟩ := ⟨by simp [hcell1, go_sem], by simp [hcell1, go_sem]⟩
    have R : NoI w1 (w.heap.size + 1 + 1) := ⟨by simp [hcell1, go_sem], by simp [hcell1, go_sem], fun o => by simp [hfz1, go_sem]⟩
    have hnr := R.lt
    clear hcell1 hfz1 hb1 hsz1
    obtain ⟨W1, hW1⟩ : ∃ W', W' = w1.alloc (.cells #[.bool neg1, .slice a1 n1 c1] 24) := ⟨_, rfl⟩
    have hc1 : Below w1.heap.size w1 W1 := by rw [hW1]; exact bl1 _ _
    have X : NmC W1 w1.heap.size ⟨neg1, a1, n1, c1⟩ := by rw [hW1]; exact nmc_new w1 ⟨neg1, a1, n1, c1⟩ _
    replace A := A.below hc1
    replace G := G.below hc1
    replace R := R.below hc1
    have hB2 := bthen hBw hc1
    have HX := hide (h1.below hB2)
    have HY := hide (h2.below hB2)
    replace hint1 := hide (hint1.below hc1)
    have lR := R.lt
    have lX := X.lt
    have nR : w1.heap.size ≠ w.heap.size + 1 + 1 := Nat.ne_of_gt hnr
    have nR' : w.heap.size + 1 + 1 ≠ w1.heap.size := fun e => nR e.symm
    have hB0 : Below W1.heap.size W1 W1.drew := (Below.refl _ _).drew
    have HK := hide (show ∀ w', Below W1.heap.size W1 w' → (w'.cell? ⟨w.heap.size, 0, none⟩ = some (.bool neg) ∧ w'.cell? ⟨w.heap.size, 1, none⟩ = some (.slice a n cap) ∧ w'.cell? ⟨w.heap.size + 1, 0, none⟩ = some (.bool neg2) ∧ w'.cell? ⟨w.heap.size + 1, 1, none⟩ = some (.slice c m cap2) ∧ w'.cell? ⟨w1.heap.size, 0, none⟩ = some (.bool neg1) ∧ w'.cell? ⟨w1.heap.size, 1, none⟩ = some (.slice a1 n1 c1)) from fun w' hB =>
      ⟨(A.below hB).c0, (A.below hB).c1, (G.below hB).c0, (G.below hB).c1, (X.below hB).c0, (X.below hB).c1⟩)
    go_wp2
    rw [← hW1]
    clear hW1
    obtain ⟨j0, j1, j2, j3, j4, j5⟩ := unhide HK _ (Below.refl _ _)
    go_region_held3 (fun w' => w'.cell? ⟨w.heap.size, 0, none⟩ = some (.bool neg) ∧ w'.cell? ⟨w.heap.size, 1, none⟩ = some (.slice a n cap) ∧ w'.cell? ⟨w.heap.size + 1, 0, none⟩ = some (.bool neg2) ∧ w'.cell? ⟨w.heap.size + 1, 1, none⟩ = some (.slice c m cap2) ∧ w'.cell? ⟨w1.heap.size, 0, none⟩ = some (.bool neg1) ∧ w'.cell? ⟨w1.heap.size, 1, none⟩ = some (.slice a1 n1 c1)) (exact unhide HK _ (by first | with_reducible exact hB0 | with_reducible exact hB5 | with_reducible exact hB4))
      (first
        | (go_at_call 52; refine (mul_int _ _ _ _ _ _ _ _ (k + 8) k2 (x / y) y _ ((unhide hint1).below hB0) ((unhide HY).below hB0) (by omega) (by omega)).mono ?_; rintro r w4 ⟨neg4, a4, n4, c4, rfl, hint4, hb4⟩; have hB4 := bthen hB0 hb4)
        | (go_at_call 33; refine (cmp_int _ _ _ _ _ _ _ _ (k + 8 + k2) k (x / y * y) x _ hint4 ((unhide HX).below hB4)).mono ?_; rintro r w5 ⟨rfl, hb5⟩; have hB5 := bthen hB4 hb5))
    clear j0 j1 j2 j3 j4 j5
    have X5 := X.below hB5
    have R5 := R.below hB5
    have lR5 := R5.lt
    have lX5 := X5.lt
    obtain ⟨j4, j5⟩ := X5
    obtain ⟨q0, q1, q2⟩ := R5
    go_wp2
    refine bodyPost_ret (v := .agg #[.bool neg1, .slice a1 n1 c1]) (by simp [results, Try.results100, go_sem, q0, q1]) rfl ⟨neg1, a1, n1, c1, rfl, ?_, ?_⟩
    · replace hint1 := (unhide hint1).below hB5
      rw [unhide HE] at hint1
      exact (hint1.put2 q0 q1 _ _).mono (by omega)
    · exact set2 (bthen hB2 hB5) (by omega) _ _
end Go.Proofs.Ytgmnknmjainabaa

namespace Go.Proofs.Ytgmnknmjainabaa
set_option linter.unusedVariables false
set_option linter.unusedSimpArgs false
set_option linter.unnecessarySimpa false
open Go.RowKit
attribute [local go_sem ↓] Go.wp_at_zero Go.wp_at_succ

theorem noi_new (w : World) (T : TypeId) : NoI (w.alloc (.cells #[.bool false, .slice none 0 0] T)) w.heap.size := ⟨by simp, by simp, fun o => by simp [go_sem]⟩

set_option maxRecDepth 100000 in
set_option maxHeartbeats 4000000 in
theorem refRatio_core (neg neg2 : Bool) (a c : Option Addr) (n m cap cap2 k k2 b : Nat) (x y : Int) (w : World) (h1 : IntAt w neg a n cap k x) (h2 : IntAt w neg2 c m cap2 k2 y) (hk : k ≤ 600000000) (hk2 : k2 ≤ 100000000) (hb : b ≤ 100000) (hy : 0 < y)
    (hfl : ∀ neg' a' n' cap' w', IntAt w' neg' a' n' cap' (k + b / 16 + 5) (x * Q b) → IntAt w' neg2 c m cap2 k2 y → Calls Try.prog 103 #[.agg #[.bool neg', .slice a' n' cap'], .agg #[.bool neg2, .slice c m cap2]] w' (FloorAns w' (k + b / 16 + 5) (x * Q b / y))) :
    Calls Try.prog 78 #[.agg #[.bool neg, .slice a n cap], .agg #[.bool neg2, .slice c m cap2], .int .i64 b] w (SpanAns w b (k + b / 16 + 14) (x * Q b / y) (-(-(x * Q b) / y))) := by
  have HF := hide hfl
  clear hfl
  obtain ⟨W, hW⟩ : ∃ W, W = ((w.alloc (.cells #[.bool neg, .slice a n cap] 24)).alloc (.cells #[.bool neg2, .slice c m cap2] 24)).alloc (.cells #[.bool false, .slice none 0 0, .bool false, .slice none 0 0, .int .i64 0] 38) := ⟨_, rfl⟩
  have hBW : Below w.heap.size w W := by rw [hW]; exact bl3 _ _ _ _
  have A : NmC W w.heap.size ⟨neg, a, n, cap⟩ := by rw [hW]; exact ⟨by simp [go_sem], by simp [go_sem]⟩
  have G : NmC W (w.heap.size + 1) ⟨neg2, c, m, cap2⟩ := by rw [hW]; exact ⟨by simp [go_sem], by simp [go_sem]⟩
  have R : NoC W (w.heap.size + 1 + 1) := by rw [hW]; exact ⟨by simp [go_sem], by simp [go_sem], by simp [go_sem], by simp [go_sem], by simp [go_sem], fun o => by simp [go_sem]⟩
  have HX := hide (h1.below hBW)
  have HY := hide (h2.below hBW)
  have HK := hide (show ∀ w', Below W.heap.size W w' → (w'.cell? ⟨w.heap.size, 0, none⟩ = some (.bool neg) ∧ w'.cell? ⟨w.heap.size, 1, none⟩ = some (.slice a n cap)) from fun w' hB => ⟨(A.below hB).c0, (A.below hB).c1⟩)
  go_enter Try.func78, Try.ntmps78
  go_wp2
  rw [← hW]
  clear hW
  obtain ⟨i0, i1⟩ := A
  have lW := G.lt
  have lR := R.lt
  go_cut [7] (fun p wx => VarAt wx p W.heap.size (k + b / 16 + 5) (x * Q b) ∧ Below W.heap.size W wx)
  case first =>
    go_region_held3 (fun w' => w'.cell? ⟨w.heap.size, 0, none⟩ = some (.bool neg) ∧ w'.cell? ⟨w.heap.size, 1, none⟩ = some (.slice a n cap)) (exact unhide HK _ (by repeat' (first | with_reducible exact hBX2 | with_reducible exact hBX1 | with_reducible exact Below.refl _ _ | with_reducible refine Below.drew ?_ | with_reducible refine balloc ?_ _ | with_reducible refine Below.setCell ?_ (by first | exact Nat.le_refl _ | exact hlX1 | exact hlX2) _)))
      (first
        | (go_at_call 52; have hq := hBX1; refine (mul_int _ _ _ _ _ _ _ _ k (b / 16 + 5) x (Q b) _ ((unhide HX).below (by first | with_reducible exact hBX1 | with_reducible exact balloc hBX1 _)) (hintX1.below (by first | with_reducible exact Below.refl _ _ | with_reducible exact bl1 _ _)) (by omega) (by omega)).mono ?_; rintro r wX2 ⟨negX2, aX2, nX2, cX2, rfl, hintX2, hbX2⟩; have hCX2 : Below wX1.heap.size wX1 wX2 := (by first | with_reducible exact hbX2 | with_reducible exact bthen (bl1 _ _) hbX2); have hBX2 := bthen hBX1 hCX2; (try with_reducible have gX2 := (noi_new wX1 24).below hbX2); replace hintX1 := hintX1.below hCX2; (try replace gX1 := gX1.below hCX2); have hlX2 := hBX2.size; (try have mX1 := gX1.lt); (try have eX1 := Nat.ne_of_lt mX1); (try have eX1' := Nat.ne_of_gt mX1); (try obtain ⟨zX10, zX11, zX12⟩ := gX1); (try have mX2 := gX2.lt); (try have eX2 := Nat.ne_of_lt mX2); (try have eX2' := Nat.ne_of_gt mX2); (try obtain ⟨zX20, zX21, zX22⟩ := gX2))
        | (go_at_call 51; refine (power2_int b _ (by omega)).mono ?_; rintro r wX1 ⟨negX1, aX1, nX1, cX1, rfl, hintX1, hbX1⟩; have hBX1 : Below W.heap.size W wX1 := (by first | with_reducible exact bthen (Below.refl _ _).drew hbX1 | with_reducible exact bthen (bl1 _ _).drew hbX1); (try with_reducible have gX1 := ((noi_new W 24).below (Below.refl _ _).drew).below hbX1); have hlX1 := hBX1.size))
    all_goals
      go_wp2_with fail
      go_meet
      refine ⟨⟨_, ⟨negX2, aX2, nX2, cX2⟩, rfl, ?_, ?_, ?_, ?_, ?_⟩, ?_⟩
      · simp [go_sem, *]
      · simp [go_sem, *]
      · first | with_reducible exact IntAt.mono (hintX2.below (bl1 _ _)) (by omega) | with_reducible exact IntAt.mono (hintX2.put2 (by assumption) (by assumption) _ _) (by omega)
      · first | exact Nat.le_refl _ | exact hlX1 | exact hlX2
      · simp [World.setCell]; try omega
      · repeat' (first | with_reducible exact hBX2 | with_reducible exact hBX1 | with_reducible exact Below.refl _ _ | with_reducible refine Below.drew ?_ | with_reducible refine balloc ?_ _ | with_reducible refine Below.setCell ?_ (by first | exact Nat.le_refl _ | exact hlX1 | exact hlX2) _)
  case rest =>
  obtain ⟨⟨BX, xX, rfl, jX0, jX1, hintX, hHX, hltX⟩, hblX⟩ := hcut
  have XX : NmC wc BX xX := ⟨jX0, jX1⟩
  clear i0 i1 HK
  replace G := G.below hblX
  replace R := R.below hblX
  replace HY := hide ((unhide HY).below hblX)
  replace hintX := hide hintX
  have lR2 := R.lt
  have lX2 := XX.lt
  have nR : BX ≠ w.heap.size + 1 + 1 := Nat.ne_of_gt (Nat.lt_of_lt_of_le lR hHX)
  have nR' : w.heap.size + 1 + 1 ≠ BX := fun e => nR e.symm
  have hBW2 := bthen hBW hblX
  have hD0 : Below wc.heap.size wc wc.drew := (Below.refl _ _).drew
  have HK := hide (show ∀ w', Below wc.heap.size wc w' → (w'.cell? ⟨BX, 0, none⟩ = some (.bool xX.neg) ∧ w'.cell? ⟨BX, 1, none⟩ = some (.slice xX.a xX.n xX.cap) ∧ w'.cell? ⟨w.heap.size + 1, 0, none⟩ = some (.bool neg2) ∧ w'.cell? ⟨w.heap.size + 1, 1, none⟩ = some (.slice c m cap2)) from fun w' hB => ⟨(XX.below hB).c0, (XX.below hB).c1, (G.below hB).c0, (G.below hB).c1⟩)
  obtain ⟨i2, i3⟩ := G
  go_wp2
  go_region_held3 (fun w' => w'.cell? ⟨BX, 0, none⟩ = some (.bool xX.neg) ∧ w'.cell? ⟨BX, 1, none⟩ = some (.slice xX.a xX.n xX.cap) ∧ w'.cell? ⟨w.heap.size + 1, 0, none⟩ = some (.bool neg2) ∧ w'.cell? ⟨w.heap.size + 1, 1, none⟩ = some (.slice c m cap2)) (first | exact unhide HK _ (by first | with_reducible exact hD0 | with_reducible exact hD2 | with_reducible exact hD1) | go_keep)
    (first
      | (go_at_call 99; refine (refDown_core _ _ _ _ _ _ _ _ (k + b / 16 + 5) k2 (x * Q b) y _ ((unhide hintX).below hD0) ((unhide HY).below hD0) (by omega) (by omega) (fun w' p q => unhide HF _ _ _ _ w' p q)).mono ?_; rintro r w1 ⟨neg1, a1, n1, c1, rfl, hint1, hb1⟩; have hD1 := bthen hD0 hb1)
      | (go_at_call 100; refine (refUp_core _ _ _ _ _ _ _ _ (k + b / 16 + 5) k2 (x * Q b) y _ ((unhide hintX).below hD1) ((unhide HY).below hD1) (by omega) (by omega) hy (fun w' p q => unhide HF _ _ _ _ w' p q)).mono ?_; rintro r w2 ⟨neg3, a3, n3, c3, rfl, hint3, hb2⟩; replace hint1 := hint1.below hb2; have hD2 := bthen hD1 hb2; obtain ⟨q0, q1, q2, q3, q4, q5⟩ := R.below hD2; obtain ⟨d0, d1, d2, d3⟩ := unhide HK _ hD2))
  go_wp2
  refine bodyPost_ret (v := .agg #[.bool neg1, .slice a1 n1 c1, .bool neg3, .slice a3 n3 c3, .int .i64 b]) (by simp [results, Try.results78, go_sem, q0, q1, q2, q3, q4]) rfl ⟨⟨neg1, a1, n1, c1, neg3, a3, n3, c3, b⟩, rfl, rfl, ?_, ?_⟩
  · exact SpAt.put5 ⟨hint1.mono (by omega), hint3.mono (by omega)⟩ q0 q1 q2 q3 q4 _ _ _ _ _
  · exact set5 (bthen hBW2 hD2) (by omega) _ _ _ _ _
end Go.Proofs.Ytgmnknmjainabaa

namespace Go.Proofs.Ytgmnknmjainabaa
set_option linter.unusedVariables false
set_option linter.unusedSimpArgs false
set_option linter.unnecessarySimpa false
open Go.RowKit
attribute [local go_sem ↓] Go.wp_at_zero Go.wp_at_succ

/-- Bits that one may ask for. -/
def bitOk (b : Int) : Bool := decide (8 ≤ b) && decide (b ≤ 120)

set_option maxRecDepth 100000 in
set_option maxHeartbeats 2000000 in
theorem refRightBits (b : Int) (w : World) :
    Calls Try.prog 19 #[.int .i64 b] w fun r w' => r = .returned (.bool (bitOk b)) ∧ w' = w := by
  go_enter Try.func19, Try.ntmps19
  go_wp2_with fail
  refine (between_any _ _ _ _).mono ?_
  rintro r w1 ⟨rfl, hw⟩
  subst hw
  go_wp2_with fail
  go_ret
  exact ⟨rfl, rfl⟩

set_option maxRecDepth 100000 in
set_option maxHeartbeats 2000000 in
theorem refRightRatio (p q : Int) (w : World) :
    Calls Try.prog 18 #[.agg #[.int .i64 p, .int .i64 q]] w fun r w' => r = .returned (.bool (decide (rok p q))) ∧ Below w.heap.size w w' := by
  by_cases h : -1048576 ≤ p ∧ p ≤ 1048576
  · have h1 : (decide (-1048576 ≤ p) && decide (p ≤ 1048576)) = true := by simp; omega
    have h2 : (decide (1 ≤ q) && decide (q ≤ 1024)) = decide (rok p q) := by
      rw [Bool.eq_iff_iff, Bool.and_eq_true, decide_eq_true_iff, decide_eq_true_iff, decide_eq_true_iff]
      exact ⟨fun ⟨a, b⟩ => ⟨h.1, h.2, a, b⟩, fun ⟨_, _, a, b⟩ => ⟨a, b⟩⟩
    have HE := hide h2
    clear h2
    go_enter Try.func18, Try.ntmps18
    go_wp2_with fail
    refine (between_any _ _ _ _).mono ?_
    rintro r w1 ⟨rfl, hw⟩
    subst hw
    rw [h1]
    go_wp2_with fail
    refine (between_any _ _ _ _).mono ?_
    rintro r w2 ⟨rfl, hw⟩
    subst hw
    rw [unhide HE]
    go_wp2_with fail
    go_ret
    exact ⟨rfl, bl1 _ _⟩
  · have h1 : (decide (-1048576 ≤ p) && decide (p ≤ 1048576)) = false := by
      rw [Bool.and_eq_false_iff]; simp; omega
    have h2 : decide (rok p q) = false := rok_no (by omega)
    have HE := hide h2
    clear h2 h
    go_enter Try.func18, Try.ntmps18
    go_wp2_with fail
    refine (between_any _ _ _ _).mono ?_
    rintro r w1 ⟨rfl, hw⟩
    subst hw
    rw [h1]
    go_wp2_with fail
    go_ret
    exact ⟨by rw [unhide HE]; rfl, bl1 _ _⟩

set_option maxRecDepth 100000 in
set_option maxHeartbeats 2000000 in
theorem refRatioOf_any (p q : Int) (b : Nat) (w : World) (h : rok p q) (hb : b ≤ 100000) :
    Calls Try.prog 21 #[.agg #[.int .i64 p, .int .i64 q], .int .i64 b] w (SpanAns w b (b / 16 + 18) (p * Q b / q) (-(-(p * Q b) / q))) := by
  obtain ⟨r1, r2, r3, r4⟩ := h
  obtain ⟨W, hW⟩ : ∃ W, W = (w.alloc (.cells #[.int .i64 p, .int .i64 q] 28)).alloc (.cells #[.bool false, .slice none 0 0, .bool false, .slice none 0 0, .int .i64 0] 38) := ⟨_, rfl⟩
  have hBW : Below w.heap.size w W := by rw [hW]; exact bl2 _ _ _
  have k0 : W.cell? ⟨w.heap.size, 0, none⟩ = some (.int .i64 p) := by rw [hW]; simp [go_sem]
  have k1 : W.cell? ⟨w.heap.size, 1, none⟩ = some (.int .i64 q) := by rw [hW]; simp [go_sem]
  have lw : w.heap.size < W.heap.size := by rw [hW]; simp; omega
  have R : NoC W (w.heap.size + 1) := by rw [hW]; exact ⟨by simp [go_sem], by simp [go_sem], by simp [go_sem], by simp [go_sem], by simp [go_sem], fun o => by simp [go_sem]⟩
  have lR := R.lt
  have hB0 : Below W.heap.size W W.drew := (Below.refl _ _).drew
  have HK := hide (show ∀ w', Below W.heap.size W w' → (w'.cell? ⟨w.heap.size, 0, none⟩ = some (.int .i64 p) ∧ w'.cell? ⟨w.heap.size, 1, none⟩ = some (.int .i64 q)) from fun w' hB => ⟨(hB.cell (p := ⟨w.heap.size, 0, none⟩) lw).trans k0, (hB.cell (p := ⟨w.heap.size, 1, none⟩) lw).trans k1⟩)
  go_enter Try.func21, Try.ntmps21
  go_wp2
  rw [← hW]
  clear hW
  go_region_held3 (fun w' => w'.cell? ⟨w.heap.size, 0, none⟩ = some (.int .i64 p) ∧ w'.cell? ⟨w.heap.size, 1, none⟩ = some (.int .i64 q)) (first | exact unhide HK _ (by first | with_reducible exact hB0 | with_reducible exact hB3 | with_reducible exact hB2 | with_reducible exact hB1) | go_keep)
    (first
      | (go_at_call 62; have hq := hB1; refine (numOf_int q _ (by omega) (by omega)).mono ?_; rintro r w2 ⟨neg2, a2, n2, c2, rfl, hint2, hb2⟩; replace hint1 := hint1.below hb2; have hB2 := bthen hB1 hb2)
      | (go_at_call 62; refine (numOf_int p _ (by omega) (by omega)).mono ?_; rintro r w1 ⟨neg1, a1, n1, c1, rfl, hint1, hb1⟩; have hB1 := bthen hB0 hb1)
      | (go_at_call 78; refine (refRatio_core _ _ _ _ _ _ _ _ 4 4 b p q _ hint1 hint2 (by omega) (by omega) hb (by omega) (fun neg' a' n' cap' w' p1 p2 => floor_small neg' _ a' _ n' _ cap' _ _ 4 (p * Q b) q w' p1 p2 (by omega) (by omega) (by omega))).mono ?_; rintro r w3 ⟨s, rfl, hsb, hsp, hb3⟩; have HSB := hide hsb; clear hsb; have hB3 := bthen hB2 hb3; obtain ⟨q0, q1, q2, q3, q4, q5⟩ := R.below hB3; obtain ⟨i0, i1⟩ := unhide HK _ hB3))
  go_wp2
  refine bodyPost_ret (v := .agg #[.bool s.ln, .slice s.la s.lN s.lc, .bool s.hn, .slice s.ha s.hN s.hc, .int .i64 s.bits]) (by simp [results, Try.results21, go_sem, q0, q1, q2, q3, q4]) rfl ⟨s, rfl, unhide HSB, ?_, ?_⟩
  · exact SpAt.put5 (hsp.mono (by omega)) q0 q1 q2 q3 q4 _ _ _ _ _
  · exact set5 (bthen hBW hB3) (Nat.le_succ _) _ _ _ _ _

set_option maxRecDepth 100000 in
set_option maxHeartbeats 2000000 in
theorem wideTo_int (w : World) (s : Sp) (k : Nat) (bt lo hi : Int) (hs : SpAt w s k lo hi) (hk : k ≤ 300000000) (hb0 : 0 ≤ s.bits) (hbm : s.bits ≤ 1000000) (hc0 : 0 ≤ bt) (hcm : bt ≤ 1000000) :
    Calls Try.prog 74 #[.agg #[.bool s.ln, .slice s.la s.lN s.lc, .bool s.hn, .slice s.ha s.hN s.hc, .int .i64 s.bits], .int .i64 bt] w (SpanAns w bt (k + 62505) (downZ lo (s.bits - bt)) (-(downZ (-hi) (s.bits - bt)))) := by
  obtain ⟨W, hW⟩ : ∃ W, W = (w.alloc (.cells #[.bool s.ln, .slice s.la s.lN s.lc, .bool s.hn, .slice s.ha s.hN s.hc, .int .i64 s.bits] 26)).alloc (.cells #[.bool false, .slice none 0 0, .bool false, .slice none 0 0, .int .i64 0] 26) := ⟨_, rfl⟩
  have hBW : Below w.heap.size w W := by rw [hW]; exact bl2 _ _ _
  have A : SpC W w.heap.size s := by rw [hW]; exact ⟨by simp [go_sem], by simp [go_sem], by simp [go_sem], by simp [go_sem], by simp [go_sem]⟩
  have R : NoC W (w.heap.size + 1) := by rw [hW]; exact ⟨by simp [go_sem], by simp [go_sem], by simp [go_sem], by simp [go_sem], by simp [go_sem], fun o => by simp [go_sem]⟩
  have HS := hide (hs.below hBW)
  have lA := A.lt
  have lR := R.lt
  have hB0 : Below W.heap.size W W.drew := (Below.refl _ _).drew
  have HK := hide (show ∀ w', Below W.heap.size W w' → (w'.cell? ⟨w.heap.size, 0, none⟩ = some (.bool s.ln) ∧ w'.cell? ⟨w.heap.size, 1, none⟩ = some (.slice s.la s.lN s.lc) ∧ w'.cell? ⟨w.heap.size, 2, none⟩ = some (.bool s.hn) ∧ w'.cell? ⟨w.heap.size, 3, none⟩ = some (.slice s.ha s.hN s.hc)) from fun w' hB => by
    obtain ⟨x0, x1, x2, x3, x4⟩ := A.below hB
    exact ⟨x0, x1, x2, x3⟩)
  go_enter Try.func74, Try.ntmps74
  go_wp2
  obtain ⟨x0, x1, x2, x3, x4⟩ := A
  rw [← hW]
  clear hW
  go_region_held3 (fun w' => w'.cell? ⟨w.heap.size, 0, none⟩ = some (.bool s.ln) ∧ w'.cell? ⟨w.heap.size, 1, none⟩ = some (.slice s.la s.lN s.lc) ∧ w'.cell? ⟨w.heap.size, 2, none⟩ = some (.bool s.hn) ∧ w'.cell? ⟨w.heap.size, 3, none⟩ = some (.slice s.ha s.hN s.hc)) (first | exact unhide HK _ (by first | with_reducible exact hB0 | with_reducible exact hB2 | with_reducible exact hB1) | go_keep)
    (first
      | (go_at_call 79; refine (down_z _ _ _ _ k (s.bits - bt) lo _ ((unhide HS).lo.below hB0) (by omega) (by omega) (by omega)).mono ?_; rintro r w1 ⟨neg1, a1, n1, c1, rfl, hint1, hb1⟩; have hB1 := bthen hB0 hb1)
      | (go_at_call 125; refine (ceilDown_z _ _ _ _ k (s.bits - bt) hi _ ((unhide HS).hi.below hB1) (by omega) (by omega) (by omega)).mono ?_; rintro r w2 ⟨neg2, a2, n2, c2, rfl, hint2, hb2⟩; replace hint1 := hint1.below hb2; have hB2 := bthen hB1 hb2; obtain ⟨q0, q1, q2, q3, q4, q5⟩ := R.below hB2; obtain ⟨i0, i1, i2, i3⟩ := unhide HK _ hB2))
  go_wp2
  refine bodyPost_ret (v := .agg #[.bool neg1, .slice a1 n1 c1, .bool neg2, .slice a2 n2 c2, .int .i64 bt]) (by simp [results, Try.results74, go_sem, q0, q1, q2, q3, q4]) rfl ⟨⟨neg1, a1, n1, c1, neg2, a2, n2, c2, bt⟩, rfl, rfl, ?_, ?_⟩
  · exact SpAt.put5 ⟨hint1.mono (by omega), hint2.mono (by omega)⟩ q0 q1 q2 q3 q4 _ _ _ _ _
  · exact set5 (bthen hBW hB2) (Nat.le_succ _) _ _ _ _ _
end Go.Proofs.Ytgmnknmjainabaa

namespace Go.Proofs.Ytgmnknmjainabaa
set_option linter.unusedVariables false
set_option linter.unusedSimpArgs false
set_option linter.unnecessarySimpa false
open Go.RowKit
attribute [local go_sem ↓] Go.wp_at_zero Go.wp_at_succ

set_option maxRecDepth 100000 in
set_option maxHeartbeats 2000000 in
theorem refTurn_int (w : World) (s : Sp) (k : Nat) (bt lo hi : Int) (hs : SpAt w s k lo hi) (hk : k ≤ 300000000) (hb0 : 0 ≤ s.bits) (hbm : s.bits ≤ 1000000) (hc0 : 0 ≤ bt) (hcm : bt ≤ 1000000) :
    Calls Try.prog 22 #[.agg #[.bool s.ln, .slice s.la s.lN s.lc, .bool s.hn, .slice s.ha s.hN s.hc, .int .i64 s.bits], .int .i64 bt] w (SpanAns w bt (k + 62505) (downZ lo (s.bits - bt)) (-(downZ (-hi) (s.bits - bt)))) := by
  by_cases hge : s.bits ≤ bt
  · obtain ⟨K, hK⟩ : ∃ K : Nat, bt - s.bits = K := ⟨(bt - s.bits).toNat, by omega⟩
    have e1 : ∀ x, downZ x (s.bits - bt) = x * Q K := by
      intro x; unfold downZ
      by_cases h0 : 0 ≤ s.bits - bt
      · have hz : s.bits - bt = 0 := by omega
        have hz2 : K = 0 := by omega
        rw [if_pos h0, hz, hz2]; simp [Q]
      · rw [if_neg h0, show (-(s.bits - bt)).toNat = K by omega]
    have HL := hide (e1 lo)
    have HH := hide (show -(downZ (-hi) (s.bits - bt)) = hi * Q K by rw [e1, Int.neg_mul, Int.neg_neg])
    clear e1
    have hK1 : K ≤ 1000000 := by omega
    rw [unhide HL, unhide HH]
    obtain ⟨W, hW⟩ : ∃ W, W = (w.alloc (.cells #[.bool s.ln, .slice s.la s.lN s.lc, .bool s.hn, .slice s.ha s.hN s.hc, .int .i64 s.bits] 38)).alloc (.cells #[.bool false, .slice none 0 0, .bool false, .slice none 0 0, .int .i64 0] 38) := ⟨_, rfl⟩
    have hBW : Below w.heap.size w W := by rw [hW]; exact bl2 _ _ _
    have A : SpC W w.heap.size s := by rw [hW]; exact ⟨by simp [go_sem], by simp [go_sem], by simp [go_sem], by simp [go_sem], by simp [go_sem]⟩
    have R : NoC W (w.heap.size + 1) := by rw [hW]; exact ⟨by simp [go_sem], by simp [go_sem], by simp [go_sem], by simp [go_sem], by simp [go_sem], fun o => by simp [go_sem]⟩
    have HS := hide (hs.below hBW)
    have lA := A.lt
    have lR := R.lt
    have hB0 : Below W.heap.size W W.drew := (Below.refl _ _).drew
    have HK := hide (show ∀ w', Below W.heap.size W w' → (w'.cell? ⟨w.heap.size, 0, none⟩ = some (.bool s.ln) ∧ w'.cell? ⟨w.heap.size, 1, none⟩ = some (.slice s.la s.lN s.lc) ∧ w'.cell? ⟨w.heap.size, 2, none⟩ = some (.bool s.hn) ∧ w'.cell? ⟨w.heap.size, 3, none⟩ = some (.slice s.ha s.hN s.hc)) from fun w' hB => by
      obtain ⟨x0, x1, x2, x3, x4⟩ := A.below hB
      exact ⟨x0, x1, x2, x3⟩)
    go_enter Try.func22, Try.ntmps22
    go_wp2_with fail
    rw [← hW]
    clear hW
    refine (power2_int K _ (by omega)).mono ?_
    rintro r w1 ⟨neg1, a1, n1, c1, rfl, hint1, hb1⟩
    obtain ⟨W1, hW1⟩ : ∃ W', W' = w1.alloc (.cells #[.bool neg1, .slice a1 n1 c1] 24) := ⟨_, rfl⟩
    have hc1 : Below w1.heap.size w1 W1 := by rw [hW1]; exact bl1 _ _
    have X : NmC W1 w1.heap.size ⟨neg1, a1, n1, c1⟩ := by rw [hW1]; exact nmc_new w1 ⟨neg1, a1, n1, c1⟩ _
    have nR : w1.heap.size ≠ w.heap.size + 1 := Nat.ne_of_gt (R.below hb1).lt
    have nR' : w.heap.size + 1 ≠ w1.heap.size := fun e => nR e.symm
    have hB1 := bthen hb1 hc1
    have R1 := R.below hB1
    have A1 := A.below hB1
    have lA1 := A1.lt
    have lR1 := R1.lt
    have lX := X.lt
    replace hint1 := hide (hint1.below hc1)
    replace HS := hide ((unhide HS).below hB1)
    have hD0 : Below W1.heap.size W1 W1.drew := (Below.refl _ _).drew
    have HK1 := hide (show ∀ w', Below W1.heap.size W1 w' → (w'.cell? ⟨w.heap.size, 0, none⟩ = some (.bool s.ln) ∧ w'.cell? ⟨w.heap.size, 1, none⟩ = some (.slice s.la s.lN s.lc) ∧ w'.cell? ⟨w.heap.size, 2, none⟩ = some (.bool s.hn) ∧ w'.cell? ⟨w.heap.size, 3, none⟩ = some (.slice s.ha s.hN s.hc) ∧ w'.cell? ⟨w1.heap.size, 0, none⟩ = some (.bool neg1) ∧ w'.cell? ⟨w1.heap.size, 1, none⟩ = some (.slice a1 n1 c1)) from fun w' hB => by
      obtain ⟨x0, x1, x2, x3, x4⟩ := A1.below hB
      exact ⟨x0, x1, x2, x3, (X.below hB).c0, (X.below hB).c1⟩)
    clear HK hB0
    go_wp2
    rw [← hW1]
    clear hW1
    obtain ⟨i0, i1, i2, i3, i4, i5⟩ := unhide HK1 _ (Below.refl _ _)
    go_region_held3 (fun w' => w'.cell? ⟨w.heap.size, 0, none⟩ = some (.bool s.ln) ∧ w'.cell? ⟨w.heap.size, 1, none⟩ = some (.slice s.la s.lN s.lc) ∧ w'.cell? ⟨w.heap.size, 2, none⟩ = some (.bool s.hn) ∧ w'.cell? ⟨w.heap.size, 3, none⟩ = some (.slice s.ha s.hN s.hc) ∧ w'.cell? ⟨w1.heap.size, 0, none⟩ = some (.bool neg1) ∧ w'.cell? ⟨w1.heap.size, 1, none⟩ = some (.slice a1 n1 c1)) (first | exact unhide HK1 _ (by first | with_reducible exact hD0 | with_reducible exact hD3 | with_reducible exact hD2) | go_keep)
      (first
        | (go_at_call 52; have hq := hD2; refine (mul_int _ _ _ _ _ _ _ _ k (K / 16 + 5) hi (Q K) _ ((unhide HS).hi.below hD2) ((unhide hint1).below hD2) (by omega) (by omega)).mono ?_; rintro r w3 ⟨neg3, a3, n3, c3, rfl, hint3, hb3⟩; replace hint2 := hint2.below hb3; have hD3 := bthen hD2 hb3; obtain ⟨q0, q1, q2, q3, q4, q5⟩ := R1.below hD3; obtain ⟨d0, d1, d2, d3, d4, d5⟩ := unhide HK1 _ hD3)
        | (go_at_call 52; refine (mul_int _ _ _ _ _ _ _ _ k (K / 16 + 5) lo (Q K) _ ((unhide HS).lo.below hD0) ((unhide hint1).below hD0) (by omega) (by omega)).mono ?_; rintro r w2 ⟨neg2, a2, n2, c2, rfl, hint2, hb2⟩; have hD2 := bthen hD0 hb2))
    clear i0 i1 i2 i3 i4 i5
    go_wp2
    refine bodyPost_ret (v := .agg #[.bool neg2, .slice a2 n2 c2, .bool neg3, .slice a3 n3 c3, .int .i64 bt]) (by simp [results, Try.results22, go_sem, q0, q1, q2, q3, q4]) rfl ⟨⟨neg2, a2, n2, c2, neg3, a3, n3, c3, bt⟩, rfl, rfl, ?_, ?_⟩
    · exact SpAt.put5 ⟨hint2.mono (by omega), hint3.mono (by omega)⟩ q0 q1 q2 q3 q4 _ _ _ _ _
    · exact set5 (bthen (bthen hBW hB1) hD3) (Nat.le_succ _) _ _ _ _ _
  · have e0 : ¬ bt ≥ s.bits := hge
    obtain ⟨W, hW⟩ : ∃ W, W = (w.alloc (.cells #[.bool s.ln, .slice s.la s.lN s.lc, .bool s.hn, .slice s.ha s.hN s.hc, .int .i64 s.bits] 38)).alloc (.cells #[.bool false, .slice none 0 0, .bool false, .slice none 0 0, .int .i64 0] 38) := ⟨_, rfl⟩
    have hBW : Below w.heap.size w W := by rw [hW]; exact bl2 _ _ _
    have A : SpC W w.heap.size s := by rw [hW]; exact ⟨by simp [go_sem], by simp [go_sem], by simp [go_sem], by simp [go_sem], by simp [go_sem]⟩
    have R : NoC W (w.heap.size + 1) := by rw [hW]; exact ⟨by simp [go_sem], by simp [go_sem], by simp [go_sem], by simp [go_sem], by simp [go_sem], fun o => by simp [go_sem]⟩
    have HS := hide (hs.below hBW)
    have lA := A.lt
    have lR := R.lt
    have hB0 : Below W.heap.size W W.drew := (Below.refl _ _).drew
    have HK := hide (show ∀ w', Below W.heap.size W w' → (w'.cell? ⟨w.heap.size, 0, none⟩ = some (.bool s.ln) ∧ w'.cell? ⟨w.heap.size, 1, none⟩ = some (.slice s.la s.lN s.lc) ∧ w'.cell? ⟨w.heap.size, 2, none⟩ = some (.bool s.hn) ∧ w'.cell? ⟨w.heap.size, 3, none⟩ = some (.slice s.ha s.hN s.hc)) from fun w' hB => by
      obtain ⟨x0, x1, x2, x3, x4⟩ := A.below hB
      exact ⟨x0, x1, x2, x3⟩)
    go_enter Try.func22, Try.ntmps22
    go_wp2
    obtain ⟨x0, x1, x2, x3, x4⟩ := A
    rw [← hW]
    clear hW
    go_region_held3 (fun w' => w'.cell? ⟨w.heap.size, 0, none⟩ = some (.bool s.ln) ∧ w'.cell? ⟨w.heap.size, 1, none⟩ = some (.slice s.la s.lN s.lc) ∧ w'.cell? ⟨w.heap.size, 2, none⟩ = some (.bool s.hn) ∧ w'.cell? ⟨w.heap.size, 3, none⟩ = some (.slice s.ha s.hN s.hc)) (first | exact unhide HK _ (by first | with_reducible exact hB0 | with_reducible exact hB4 | with_reducible exact hB3 | with_reducible exact hB2 | with_reducible exact hB1) | go_keep)
      (first
        | (go_at_call 80; have hq := hB3; refine (neg_int _ _ _ _ (k + 62505) _ _ (hint3.mono (by omega)) (by omega)).mono ?_; rintro r w4 ⟨neg4, a4, n4, c4, rfl, hint4, hb4⟩; replace hint1 := hint1.below hb4; have hB4 := bthen hB3 hb4; obtain ⟨q0, q1, q2, q3, q4, q5⟩ := R.below hB4; obtain ⟨i0, i1, i2, i3⟩ := unhide HK _ hB4)
        | (go_at_call 79; have hq := hB2; refine (down_z _ _ _ _ k (s.bits - bt) (-hi) _ hint2 (by omega) (by omega) (by omega)).mono ?_; rintro r w3 ⟨neg3, a3, n3, c3, rfl, hint3, hb3⟩; replace hint1 := hint1.below hb3; have hB3 := bthen hB2 hb3)
        | (go_at_call 80; have hq := hB1; refine (neg_int _ _ _ _ k hi _ ((unhide HS).hi.below hB1) (by omega)).mono ?_; rintro r w2 ⟨neg2, a2, n2, c2, rfl, hint2, hb2⟩; replace hint1 := hint1.below hb2; have hB2 := bthen hB1 hb2)
        | (go_at_call 79; refine (down_z _ _ _ _ k (s.bits - bt) lo _ ((unhide HS).lo.below hB0) (by omega) (by omega) (by omega)).mono ?_; rintro r w1 ⟨neg1, a1, n1, c1, rfl, hint1, hb1⟩; have hB1 := bthen hB0 hb1))
    go_wp2
    refine bodyPost_ret (v := .agg #[.bool neg1, .slice a1 n1 c1, .bool neg4, .slice a4 n4 c4, .int .i64 bt]) (by simp [results, Try.results22, go_sem, q0, q1, q2, q3, q4]) rfl ⟨⟨neg1, a1, n1, c1, neg4, a4, n4, c4, bt⟩, rfl, rfl, ?_, ?_⟩
    · exact SpAt.put5 ⟨hint1.mono (by omega), hint4.mono (by omega)⟩ q0 q1 q2 q3 q4 _ _ _ _ _
    · exact set5 (bthen hBW hB4) (Nat.le_succ _) _ _ _ _ _
end Go.Proofs.Ytgmnknmjainabaa

namespace Go.Proofs.Ytgmnknmjainabaa
set_option linter.unusedVariables false
set_option linter.unusedSimpArgs false
set_option linter.unnecessarySimpa false
open Go.RowKit
attribute [local go_sem ↓] Go.wp_at_zero Go.wp_at_succ

set_option maxRecDepth 100000 in
set_option maxHeartbeats 2000000 in
theorem to1_bad (w : World) (B0 B1 : Nat) (bt : Int) (k : Nat) (h : ¬ (8 ≤ bt ∧ bt ≤ 120)) (g : w.cell? ⟨B1, 0, none⟩ = some (.int .i64 bt)) (l : B1 < w.heap.size) :
    Calls Try.prog 73 #[.pointer (some ⟨B1, 0, none⟩), .pointer (some ⟨B0, 0, none⟩)] w (PairAns w 0 k 0 0 3) := by
  have hE : bitE bt = 3 := by unfold bitE; rw [if_neg h]
  go_enter Try.func73, Try.ntmps73
  go_wp2_with fail
  refine (ratioFault_none _ _).mono ?_
  rintro r w1 ⟨rfl, hb1⟩
  rw [hE]
  obtain ⟨q0, q1, q2, q3, q4, q5⟩ := (noc_new w 26).below hb1
  go_wp2_with fail
  refine bodyPost_ret (v := .tuple #[.agg #[.bool false, .slice none 0 0, .bool false, .slice none 0 0, .int .i64 0], .int .i64 3]) (by simp [results, Try.results73, go_sem, q0, q1, q2, q3, q4]) rfl ⟨⟨false, none, 0, 0, false, none, 0, 0, 0⟩, rfl, rfl, zeroSp _ _, ?_⟩
  exact set5 (bthen (bl1 _ _) hb1) (Nat.le_refl _) _ _ _ _ _

set_option maxRecDepth 100000 in
set_option maxHeartbeats 2000000 in
theorem to1_int (w : World) (B0 B1 : Nat) (s : Sp) (bt : Int) (k : Nat) (lo hi : Int) (hs : SpAt w s k lo hi) (hk : k ≤ 300000000) (hb0 : 0 ≤ s.bits) (hbm : s.bits ≤ 1000000) (h1 : 8 ≤ bt) (h2 : bt ≤ 120) (a : SpC w B0 s) (g : w.cell? ⟨B1, 0, none⟩ = some (.int .i64 bt)) (l : B1 < w.heap.size) :
    Calls Try.prog 73 #[.pointer (some ⟨B1, 0, none⟩), .pointer (some ⟨B0, 0, none⟩)] w (PairAns w bt (k + 62505) (downZ lo (s.bits - bt)) (-(downZ (-hi) (s.bits - bt))) 0) := by
  have hE : bitE bt = 0 := by unfold bitE; rw [if_pos ⟨h1, h2⟩]
  have l0 := a.lt
  go_enter Try.func73, Try.ntmps73
  go_wp2_with fail
  refine (ratioFault_none _ _).mono ?_
  rintro r w1 ⟨rfl, hb1⟩
  rw [hE]
  have hB1 : Below w.heap.size w w1 := bthen (bl1 _ _) hb1
  have hN1 := (noc_new w 26).below hb1
  obtain ⟨a0, a1, a2, a3, a4⟩ := a.below hB1
  have g1 := (hB1.cell (p := ⟨B1, 0, none⟩) l).trans g
  have l1 := Nat.lt_of_lt_of_le l hB1.size
  have l01 := Nat.lt_of_lt_of_le l0 hB1.size
  go_wp2_with fail
  refine (wideTo_int _ s k bt lo hi (hs.below hB1) hk hb0 hbm (by omega) (by omega)).mono ?_
  rintro r w2 ⟨u, rfl, hub, hup, hb2⟩
  obtain ⟨q0, q1, q2, q3, q4, q5⟩ := hN1.below hb2
  have HB := hide hub
  clear hub
  go_wp2_with fail
  refine bodyPost_ret (v := .tuple #[.agg #[.bool u.ln, .slice u.la u.lN u.lc, .bool u.hn, .slice u.ha u.hN u.hc, .int .i64 u.bits], .int .i64 0]) (by simp [results, Try.results73, go_sem, q0, q1, q2, q3, q4]) rfl ⟨u, rfl, unhide HB, ?_, ?_⟩
  · exact SpAt.put5 hup q0 q1 q2 q3 q4 _ _ _ _ _
  · exact set5 (bthen hB1 hb2) (Nat.le_refl _) _ _ _ _ _

/-- A contract of a callee that answers a span and an errno, of one span and a number. -/
def SaidT (s : Sp) (bt : Int) (d e : Nat → Int) (b : Int) (k : Nat) (lo hi er : Int) : Prop :=
  ∀ W, SpDig W s d e → Calls Try.prog 16 #[.agg #[.bool s.ln, .slice s.la s.lN s.lc, .bool s.hn, .slice s.ha s.hN s.hc, .int .i64 s.bits], .int .i64 bt] W (PairAns W b k lo hi er)
theorem saidTo_bad (s : Sp) (bt : Int) (d e : Nat → Int) (hE : chkE s d e ≠ 0) : SaidT s bt d e 0 70000 0 0 (chkE s d e) := fun W hs =>
  span1_To W s bt d e hs _ _ _ _ _ fun W1 B0 B1 B cap _ _ _ _ hS => made_bad_To _ _ B W1 _ _ _ 1 cap (by omega) hS _ (fun z hz => flt_one hz) hE 70000
theorem saidTo_err (s : Sp) (bt : Int) (d e : Nat → Int) (hE : chkE s d e = 0) (h : ¬ (8 ≤ bt ∧ bt ≤ 120)) : SaidT s bt d e 0 70000 0 0 3 := fun W hs =>
  span1_To W s bt d e hs _ _ _ _ _ fun W1 B0 B1 B cap _ _ g l hS => made_err_To _ _ B W1 _ _ _ 1 cap (by omega) hS (fun z hz => by rw [flt_one hz, hE]) 0 70000 0 0 3 (by omega)
    (fun w' hb => to1_bad w' B0 B1 bt 70000 h ((hb.cell (p := ⟨B1, 0, none⟩) l).trans g) (Nat.lt_of_lt_of_le l hb.size))
theorem saidTo_fit (s : Sp) (bt : Int) (d e : Nat → Int) (hE : chkE s d e = 0) (h1 : 8 ≤ bt) (h2 : bt ≤ 120) (lo hi : Int) (hlo : lo = loZ s d) (hhi : hi = hiZ s e) :
    SaidT s bt d e (fitZ (downZ lo (s.bits - bt)) (-(downZ (-hi) (s.bits - bt))) bt) 70000 (fitZ (downZ lo (s.bits - bt)) (-(downZ (-hi) (s.bits - bt))) (downZ lo (s.bits - bt))) (fitZ (downZ lo (s.bits - bt)) (-(downZ (-hi) (s.bits - bt))) (-(downZ (-hi) (s.bits - bt)))) (fitE (downZ lo (s.bits - bt)) (-(downZ (-hi) (s.bits - bt)))) := fun W hs => by
  obtain ⟨p1, p2, p3, p4⟩ := chk_ok hs hE
  subst hlo hhi
  replace p1 : SpAt W s 250 (loZ s d) (hiZ s e) := p1
  have hl : loZ s d ≤ hiZ s e := p4
  refine span1_To W s bt d e hs _ _ _ _ _ fun W1 B0 B1 B cap hB hA g l hS => ?_
  exact made_fit_To _ _ B W1 _ _ _ 1 cap (by omega) hS (fun z hz => by rw [flt_one hz, hE]) bt 70000 _ _
    (fun w' hb => (to1_int w' B0 B1 s bt 250 _ _ ((p1.below hB).below hb) (by omega) (by omega) (by omega) h1 h2 (hA.below hb) ((hb.cell (p := ⟨B1, 0, none⟩) l).trans g) (Nat.lt_of_lt_of_le l hb.size)).mono fun r w2 h => h.mono (by omega))
    (Int.le_trans (downZ_le hl) (downZ_ceil _ _)) (by omega) h2
end Go.Proofs.Ytgmnknmjainabaa
