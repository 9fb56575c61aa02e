/-
  What span.Mul, span.Sub and span.Add answer of whatever spans; less is made of less: plain arithmetic; and the way in which tailsurelaw.SpanGrows looks at two answers.
  That tailsurelaw.SpanGrows answers true of whatever spans, and leaves old memory alone.
  How a span that is handed to a statement is opened: its ends' digits, within the form's own reach; no statement of the seat is proved here.
-/
import Derived.Test.YtgmnknmjainabaaRows
import Derived.ProofKit
import Derived.OpenShut
import Derived.SizedLaws
import Derived.ChangeOld
import Derived.Test.YtgmnknmjainabaaK17
namespace Go.Proofs.Ytgmnknmjainabaa
set_option linter.unusedVariables false
set_option linter.unusedSimpArgs false
set_option linter.unnecessarySimpa false
open Go.RowKit
attribute [local go_sem ↓] Go.wp_at_zero Go.wp_at_succ

theorem saidAddA (s t : Sp) (d e d' e' : Nat → Int) :
    SaidP 27 s t d e d' e' (anV (fltE2 (chkE s d e) (chkE t d' e') s.bits t.bits) 0 ((loZ s d) + (loZ t d')) ((hiZ s e) + (hiZ t e')) s.bits) 600 (anV (fltE2 (chkE s d e) (chkE t d' e') s.bits t.bits) 0 ((loZ s d) + (loZ t d')) ((hiZ s e) + (hiZ t e')) ((loZ s d) + (loZ t d'))) (anV (fltE2 (chkE s d e) (chkE t d' e') s.bits t.bits) 0 ((loZ s d) + (loZ t d')) ((hiZ s e) + (hiZ t e')) ((hiZ s e) + (hiZ t e'))) (anE (fltE2 (chkE s d e) (chkE t d' e') s.bits t.bits) 0 ((loZ s d) + (loZ t d')) ((hiZ s e) + (hiZ t e'))) := by
  by_cases hE : (fltE2 (chkE s d e) (chkE t d' e') s.bits t.bits) = 0
  · obtain ⟨a1, a2⟩ := an_fit (L := (loZ s d) + (loZ t d')) (H := (hiZ s e) + (hiZ t e'))
    rw [hE, a1, a2, a2, a2]
    exact saidAdd s t d e d' e' hE _ _ _ _ rfl rfl rfl rfl
  · obtain ⟨a1, a2⟩ := an_bad (g := 0) (L := (loZ s d) + (loZ t d')) (H := (hiZ s e) + (hiZ t e')) hE
    rw [a1, a2, a2, a2]
    exact fun W hs ht => spanAdd_bad W s t d e d' e' hs ht hE 600

theorem saidSubA (s t : Sp) (d e d' e' : Nat → Int) :
    SaidP 28 s t d e d' e' (anV (fltE2 (chkE s d e) (chkE t d' e') s.bits t.bits) 0 ((loZ s d) - (hiZ t e')) ((hiZ s e) - (loZ t d')) s.bits) 600 (anV (fltE2 (chkE s d e) (chkE t d' e') s.bits t.bits) 0 ((loZ s d) - (hiZ t e')) ((hiZ s e) - (loZ t d')) ((loZ s d) - (hiZ t e'))) (anV (fltE2 (chkE s d e) (chkE t d' e') s.bits t.bits) 0 ((loZ s d) - (hiZ t e')) ((hiZ s e) - (loZ t d')) ((hiZ s e) - (loZ t d'))) (anE (fltE2 (chkE s d e) (chkE t d' e') s.bits t.bits) 0 ((loZ s d) - (hiZ t e')) ((hiZ s e) - (loZ t d'))) := by
  by_cases hE : (fltE2 (chkE s d e) (chkE t d' e') s.bits t.bits) = 0
  · obtain ⟨a1, a2⟩ := an_fit (L := (loZ s d) - (hiZ t e')) (H := (hiZ s e) - (loZ t d'))
    rw [hE, a1, a2, a2, a2]
    exact saidSub s t d e d' e' hE _ _ _ _ rfl rfl rfl rfl
  · obtain ⟨a1, a2⟩ := an_bad (g := 0) (L := (loZ s d) - (hiZ t e')) (H := (hiZ s e) - (loZ t d')) hE
    rw [a1, a2, a2, a2]
    exact fun W hs ht => spanSub_bad W s t d e d' e' hs ht hE 600

theorem saidMulA (s t : Sp) (d e d' e' : Nat → Int) :
    SaidP 29 s t d e d' e' (anV (fltE2 (chkE s d e) (chkE t d' e') s.bits t.bits) 0 (downZ (leastZ (pr4 ((loZ s d) * (loZ t d')) ((loZ s d) * (hiZ t e')) ((hiZ s e) * (loZ t d')) ((hiZ s e) * (hiZ t e'))) 3) s.bits) (-(downZ (-(mostZ (pr4 ((loZ s d) * (loZ t d')) ((loZ s d) * (hiZ t e')) ((hiZ s e) * (loZ t d')) ((hiZ s e) * (hiZ t e'))) 3)) s.bits)) s.bits) 600 (anV (fltE2 (chkE s d e) (chkE t d' e') s.bits t.bits) 0 (downZ (leastZ (pr4 ((loZ s d) * (loZ t d')) ((loZ s d) * (hiZ t e')) ((hiZ s e) * (loZ t d')) ((hiZ s e) * (hiZ t e'))) 3) s.bits) (-(downZ (-(mostZ (pr4 ((loZ s d) * (loZ t d')) ((loZ s d) * (hiZ t e')) ((hiZ s e) * (loZ t d')) ((hiZ s e) * (hiZ t e'))) 3)) s.bits)) (downZ (leastZ (pr4 ((loZ s d) * (loZ t d')) ((loZ s d) * (hiZ t e')) ((hiZ s e) * (loZ t d')) ((hiZ s e) * (hiZ t e'))) 3) s.bits)) (anV (fltE2 (chkE s d e) (chkE t d' e') s.bits t.bits) 0 (downZ (leastZ (pr4 ((loZ s d) * (loZ t d')) ((loZ s d) * (hiZ t e')) ((hiZ s e) * (loZ t d')) ((hiZ s e) * (hiZ t e'))) 3) s.bits) (-(downZ (-(mostZ (pr4 ((loZ s d) * (loZ t d')) ((loZ s d) * (hiZ t e')) ((hiZ s e) * (loZ t d')) ((hiZ s e) * (hiZ t e'))) 3)) s.bits)) (-(downZ (-(mostZ (pr4 ((loZ s d) * (loZ t d')) ((loZ s d) * (hiZ t e')) ((hiZ s e) * (loZ t d')) ((hiZ s e) * (hiZ t e'))) 3)) s.bits))) (anE (fltE2 (chkE s d e) (chkE t d' e') s.bits t.bits) 0 (downZ (leastZ (pr4 ((loZ s d) * (loZ t d')) ((loZ s d) * (hiZ t e')) ((hiZ s e) * (loZ t d')) ((hiZ s e) * (hiZ t e'))) 3) s.bits) (-(downZ (-(mostZ (pr4 ((loZ s d) * (loZ t d')) ((loZ s d) * (hiZ t e')) ((hiZ s e) * (loZ t d')) ((hiZ s e) * (hiZ t e'))) 3)) s.bits))) := by
  by_cases hE : (fltE2 (chkE s d e) (chkE t d' e') s.bits t.bits) = 0
  · obtain ⟨a1, a2⟩ := an_fit (L := downZ (leastZ (pr4 ((loZ s d) * (loZ t d')) ((loZ s d) * (hiZ t e')) ((hiZ s e) * (loZ t d')) ((hiZ s e) * (hiZ t e'))) 3) s.bits) (H := -(downZ (-(mostZ (pr4 ((loZ s d) * (loZ t d')) ((loZ s d) * (hiZ t e')) ((hiZ s e) * (loZ t d')) ((hiZ s e) * (hiZ t e'))) 3)) s.bits))
    rw [hE, a1, a2, a2, a2]
    exact saidMul s t d e d' e' hE _ _ _ _ rfl rfl rfl rfl
  · obtain ⟨a1, a2⟩ := an_bad (g := 0) (L := downZ (leastZ (pr4 ((loZ s d) * (loZ t d')) ((loZ s d) * (hiZ t e')) ((hiZ s e) * (loZ t d')) ((hiZ s e) * (hiZ t e'))) 3) s.bits) (H := -(downZ (-(mostZ (pr4 ((loZ s d) * (loZ t d')) ((loZ s d) * (hiZ t e')) ((hiZ s e) * (loZ t d')) ((hiZ s e) * (hiZ t e'))) 3)) s.bits)) hE
    rw [a1, a2, a2, a2]
    exact fun W hs ht => spanMul_bad W s t d e d' e' hs ht hE 600

theorem an_ok {E g L H : Int} (h : anE E g L H = 0) : E = 0 ∧ g = 0 ∧ ¬ bigs L H ∧ ∀ x, anV E g L H x = x := by
  by_cases h1 : E = 0
  · subst h1
    by_cases h2 : g = 0
    · subst h2
      obtain ⟨a1, a2⟩ := an_fit (L := L) (H := H)
      rw [a1] at h
      rcases fit_cases L H with ⟨_, f2, _⟩ | ⟨f1, _, f3⟩
      · omega
      · exact ⟨rfl, rfl, f1, fun x => by rw [a2, f3]⟩
    · rw [(an_own h2).1] at h; exact absurd h h2
  · rw [(an_bad h1).1] at h; exact absurd h h1

theorem mul_between {x p q y : Int} (h1 : p ≤ x) (h2 : x ≤ q) : (p * y ≤ x * y ∧ x * y ≤ q * y) ∨ (q * y ≤ x * y ∧ x * y ≤ p * y) := by
  rcases Int.le_total 0 y with hy | hy
  · exact Or.inl ⟨Int.mul_le_mul_of_nonneg_right h1 hy, Int.mul_le_mul_of_nonneg_right h2 hy⟩
  · exact Or.inr ⟨Int.mul_le_mul_of_nonpos_right h2 hy, Int.mul_le_mul_of_nonpos_right h1 hy⟩
theorem leastq (a b c d : Int) : leastZ (pr4 a b c d) 3 ≤ a ∧ leastZ (pr4 a b c d) 3 ≤ b ∧ leastZ (pr4 a b c d) 3 ≤ c ∧ leastZ (pr4 a b c d) 3 ≤ d := by
  simp only [leastZ, pr4]; simp
  refine ⟨?_, ?_, ?_, ?_⟩ <;> (split <;> split <;> split <;> omega)
theorem mostq (a b c d : Int) : a ≤ mostZ (pr4 a b c d) 3 ∧ b ≤ mostZ (pr4 a b c d) 3 ∧ c ≤ mostZ (pr4 a b c d) 3 ∧ d ≤ mostZ (pr4 a b c d) 3 := by
  simp only [mostZ, pr4]; simp
  refine ⟨?_, ?_, ?_, ?_⟩ <;> (split <;> split <;> split <;> omega)
theorem le_least4 {a b c d x : Int} (h1 : x ≤ a) (h2 : x ≤ b) (h3 : x ≤ c) (h4 : x ≤ d) : x ≤ leastZ (pr4 a b c d) 3 := by
  simp only [leastZ, pr4]; simp
  split <;> split <;> split <;> omega
theorem most4_le {a b c d x : Int} (h1 : a ≤ x) (h2 : b ≤ x) (h3 : c ≤ x) (h4 : d ≤ x) : mostZ (pr4 a b c d) 3 ≤ x := by
  simp only [mostZ, pr4]; simp
  split <;> split <;> split <;> omega
/-- What is between the ends of two, times each other, is between the least and the most of the four. -/
theorem mul_in {p q r u x y : Int} (h1 : p ≤ x) (h2 : x ≤ q) (h3 : r ≤ y) (h4 : y ≤ u) : leastZ (pr4 (p * r) (p * u) (q * r) (q * u)) 3 ≤ x * y ∧ x * y ≤ mostZ (pr4 (p * r) (p * u) (q * r) (q * u)) 3 := by
  obtain ⟨l1, l2, l3, l4⟩ := leastq (p * r) (p * u) (q * r) (q * u)
  obtain ⟨m1, m2, m3, m4⟩ := mostq (p * r) (p * u) (q * r) (q * u)
  have a := mul_between (y := y) h1 h2
  have b := mul_between (y := p) h3 h4
  have c := mul_between (y := q) h3 h4
  rw [Int.mul_comm r p, Int.mul_comm y p, Int.mul_comm u p] at b
  rw [Int.mul_comm r q, Int.mul_comm y q, Int.mul_comm u q] at c
  omega
theorem mul_grows {p q p' q' r u : Int} (h1 : p ≤ p') (h2 : p' ≤ q') (h3 : q' ≤ q) (h4 : r ≤ u) :
    leastZ (pr4 (p * r) (p * u) (q * r) (q * u)) 3 ≤ leastZ (pr4 (p' * r) (p' * u) (q' * r) (q' * u)) 3 ∧ mostZ (pr4 (p' * r) (p' * u) (q' * r) (q' * u)) 3 ≤ mostZ (pr4 (p * r) (p * u) (q * r) (q * u)) 3 := by
  obtain ⟨a1, a2⟩ := mul_in (p := p) (q := q) (r := r) (u := u) (x := p') (y := r) h1 (by omega) (by omega) h4
  obtain ⟨b1, b2⟩ := mul_in (p := p) (q := q) (r := r) (u := u) (x := p') (y := u) h1 (by omega) h4 (by omega)
  obtain ⟨c1, c2⟩ := mul_in (p := p) (q := q) (r := r) (u := u) (x := q') (y := r) (by omega) h3 (by omega) h4
  obtain ⟨d1, d2⟩ := mul_in (p := p) (q := q) (r := r) (u := u) (x := q') (y := u) (by omega) h3 h4 (by omega)
  exact ⟨le_least4 a1 b1 c1 d1, most4_le a2 b2 c2 d2⟩
theorem ovLo_grows {l l' h h' p q : Int} (hl : l ≤ l') (hp : 0 < p) (hpq : p ≤ q) : ovLo l h p q ≤ ovLo l' h' p q := by
  unfold ovLo
  have m1 : l / p ≤ l' / p := Int.ediv_le_ediv hp hl
  have m2 : l / q ≤ l' / q := Int.ediv_le_ediv (by omega) hl
  have d2 : l ≤ 0 → l / p ≤ l / q := div_le_div_neg hp hpq
  split <;> split <;> omega
theorem ovHi_grows {l l' h h' p q : Int} (hl : h ≤ h') (hp : 0 < p) (hpq : p ≤ q) : ovHi l h p q ≤ ovHi l' h' p q := by
  unfold ovHi
  have m1 : -h' / p ≤ -h / p := Int.ediv_le_ediv hp (by omega)
  have m2 : -h' / q ≤ -h / q := Int.ediv_le_ediv (by omega) (by omega)
  have d2 : 0 ≤ -h → -h / q ≤ -h / p := div_le_div_pos hp hpq
  have d3 : -h' ≤ 0 → -h' / p ≤ -h' / q := div_le_div_neg hp hpq
  split <;> split <;> omega
theorem dv_grows {lo hi lo2 hi2 lo' hi' : Int} {b : Nat} (h1 : lo ≤ lo2) (h2 : hi2 ≤ hi) (hp : ¬ (lo' ≤ 0 ∧ 0 ≤ hi')) (hp2 : lo' ≤ hi') :
    dvLo lo hi lo' hi' b ≤ dvLo lo2 hi2 lo' hi' b ∧ dvHi lo2 hi2 lo' hi' b ≤ dvHi lo hi lo' hi' b := by
  have hq := Q_pos b
  unfold dvLo dvHi
  by_cases h : hi' < 0
  · rw [if_pos h, if_pos h, if_pos h, if_pos h]
    exact ⟨ovLo_grows (Int.mul_le_mul_of_nonneg_right (by omega) (by omega)) (by omega) (by omega), ovHi_grows (Int.mul_le_mul_of_nonneg_right (by omega) (by omega)) (by omega) (by omega)⟩
  · rw [if_neg h, if_neg h, if_neg h, if_neg h]
    exact ⟨ovLo_grows (Int.mul_le_mul_of_nonneg_right h1 (by omega)) (by omega) (by omega), ovHi_grows (Int.mul_le_mul_of_nonneg_right h2 (by omega)) (by omega) (by omega)⟩

set_option maxRecDepth 100000 in
set_option maxHeartbeats 2000000 in
theorem grows1 (w : World) (u v : Sp) (e f lo hi lo2 hi2 : Int) (hu : SpAt w u 600 lo hi) (hv : SpAt w v 600 lo2 hi2) (h : e = 0 → f = 0 → lo2 ≤ lo ∧ hi ≤ hi2) :
    Calls Try.prog 53 #[.agg #[.bool u.ln, .slice u.la u.lN u.lc, .bool u.hn, .slice u.ha u.hN u.hc, .int .i64 u.bits], .agg #[.bool v.ln, .slice v.la v.lN v.lc, .bool v.hn, .slice v.ha v.hN v.hc, .int .i64 v.bits], .int .i64 e, .int .i64 f] w fun r w' => r = .returned (.bool true) ∧ Below w.heap.size w w' := by
  by_cases he : e = 0
  · by_cases hf : f = 0
    · obtain ⟨h1, h2⟩ := h he hf
      subst he hf
      have t1 : cmpInt lo2 lo ≤ 0 := by unfold cmpInt; split <;> (try split) <;> omega
      have t2 : cmpInt hi hi2 ≤ 0 := by unfold cmpInt; split <;> (try split) <;> omega
      clear h h1 h2
      obtain ⟨W, hW⟩ : ∃ W, W = (w.alloc (.cells #[.bool u.ln, .slice u.la u.lN u.lc, .bool u.hn, .slice u.ha u.hN u.hc, .int .i64 u.bits] 26)).alloc (.cells #[.bool v.ln, .slice v.la v.lN v.lc, .bool v.hn, .slice v.ha v.hN v.hc, .int .i64 v.bits] 26) := ⟨_, rfl⟩
      have hBW : Below w.heap.size w W := by rw [hW]; exact bl2 _ _ _
      have A : SpC W w.heap.size u := by rw [hW]; exact ⟨by simp [go_sem], by simp [go_sem], by simp [go_sem], by simp [go_sem], by simp [go_sem]⟩
      have G : SpC W (w.heap.size + 1) v := by rw [hW]; exact ⟨by simp [go_sem], by simp [go_sem], by simp [go_sem], by simp [go_sem], by simp [go_sem]⟩
      replace hu := hu.below hBW
      replace hv := hv.below hBW
      go_enter Try.func53, Try.ntmps53
      go_upto_region 1 with fail
      rw [← hW]
      clear hW
      have la := A.lt
      have lg := G.lt
      obtain ⟨x0, x1, x2, x3, x4⟩ := A
      obtain ⟨y0, y1, y2, y3, y4⟩ := G
      go_wp2_with fail
      refine (cmp_int _ _ _ _ _ _ _ _ 600 600 lo2 lo _ hv.lo hu.lo).mono ?_
      rintro r w1 ⟨rfl, hb1⟩
      have A := (SpC.mk x0 x1 x2 x3 x4).below hb1
      have G := (SpC.mk y0 y1 y2 y3 y4).below hb1
      replace hu := hu.below hb1
      replace hv := hv.below hb1
      replace hBW := bthen hBW hb1
      clear x0 x1 x2 x3 x4 y0 y1 y2 y3 y4 la lg hb1
      have la := A.lt
      have lg := G.lt
      obtain ⟨x0, x1, x2, x3, x4⟩ := A
      obtain ⟨y0, y1, y2, y3, y4⟩ := G
      go_wp2_with fail
      refine (cmp_int _ _ _ _ _ _ _ _ 600 600 hi hi2 _ hu.hi hv.hi).mono ?_
      rintro r w2 ⟨rfl, hb2⟩
      replace hBW := bthen hBW hb2
      go_wp2_with fail
      go_ret
      exact ⟨rfl, hBW⟩
    · have hf' : (f != 0) = true := by simpa using hf
      subst he
      clear h hf
      go_enter Try.func53, Try.ntmps53
      go_wp2_with fail
      go_ret
      exact ⟨rfl, bl2 _ _ _⟩
  · have he' : (e != 0) = true := by simpa using he
    clear h he
    go_enter Try.func53, Try.ntmps53
    go_wp2_with fail
    go_ret
    exact ⟨rfl, bl2 _ _ _⟩
end Go.Proofs.Ytgmnknmjainabaa

namespace Go.Proofs.Ytgmnknmjainabaa
set_option linter.unusedVariables false
set_option linter.unusedSimpArgs false
set_option linter.unnecessarySimpa false
open Go.RowKit
attribute [local go_sem ↓] Go.wp_at_zero Go.wp_at_succ

theorem Dig.put5 {w : World} {a : Option Addr} {n cap : Nat} {d : Nat → Int} (h : Dig w a n cap d) {B : Nat} {y : Sp} (c : SpC w B y) (u0 u1 u2 u3 u4 : Value) :
    Dig (((((w.setCell ⟨B, 0, none⟩ u0).setCell ⟨B, 1, none⟩ u1).setCell ⟨B, 2, none⟩ u2).setCell ⟨B, 3, none⟩ u3).setCell ⟨B, 4, none⟩ u4) a n cap d := by
  obtain ⟨h0, h1, h2, h3, h4⟩ := c
  have ne : ∀ i j : Nat, i ≠ j → (⟨B, i, none⟩ : Addr) ≠ ⟨B, j, none⟩ := fun i j hij e => hij (by injection e)
  have g1 := (World.cell?_setCell_other w _ _ u0 (ne 0 1 (by omega))).trans h1
  have g2 := (World.cell?_setCell_other (w.setCell ⟨B, 0, none⟩ u0) _ _ u1 (ne 1 2 (by omega))).trans ((World.cell?_setCell_other _ _ _ _ (ne 0 2 (by omega))).trans h2)
  have g3 := (World.cell?_setCell_other ((w.setCell ⟨B, 0, none⟩ u0).setCell ⟨B, 1, none⟩ u1) _ _ u2 (ne 2 3 (by omega))).trans ((World.cell?_setCell_other _ _ _ _ (ne 1 3 (by omega))).trans ((World.cell?_setCell_other _ _ _ _ (ne 0 3 (by omega))).trans h3))
  have g4 := (World.cell?_setCell_other (((w.setCell ⟨B, 0, none⟩ u0).setCell ⟨B, 1, none⟩ u1).setCell ⟨B, 2, none⟩ u2) _ _ u3 (ne 3 4 (by omega))).trans ((World.cell?_setCell_other _ _ _ _ (ne 2 4 (by omega))).trans ((World.cell?_setCell_other _ _ _ _ (ne 1 4 (by omega))).trans ((World.cell?_setCell_other _ _ _ _ (ne 0 4 (by omega))).trans h4)))
  exact ((((h.store h0 (fun _ e => by cases e) u0).store g1 (fun _ e => by cases e) u1).store g2 (fun _ e => by cases e) u2).store g3 (fun _ e => by cases e) u3).store g4 (fun _ e => by cases e) u4
/-- What stands of tailsurelaw.SpanGrows behind what both have: a, b, that, and the two answers. -/
structure GRs (w wr : World) (s t m : Sp) (d e d' e' dm em : Nat → Int) (B7 B10 B11 : Nat) (y z : Sp) : Prop where
  A : SpC wr w.heap.size s
  G : SpC wr (w.heap.size + 1) t
  M : SpC wr B7 m
  ds : SpDig wr s d e
  dt : SpDig wr t d' e'
  dg : SpDig wr m dm em
  Y : SpC wr B10 y
  Z : SpC wr B11 z
  f1 : ∀ o, wr.frozen? ⟨B10, o, none⟩ = false
  f2 : ∀ o, wr.frozen? ⟨B11, o, none⟩ = false
  hB : Below w.heap.size w wr
variable {w wr w' : World} {s t m : Sp} {d e d' e' dm em : Nat → Int} {B7 B10 B11 : Nat} {y z : Sp}
theorem GRs.below (D : GRs w wr s t m d e d' e' dm em B7 B10 B11 y z) (hb : Below wr.heap.size wr w') : GRs w w' s t m d e d' e' dm em B7 B10 B11 y z :=
  ⟨D.A.below hb, D.G.below hb, D.M.below hb, D.ds.below hb, D.dt.below hb, D.dg.below hb, D.Y.below hb, D.Z.below hb, fun o => (hb.frozen (p := ⟨B10, o, none⟩) D.Y.lt).trans (D.f1 o), fun o => (hb.frozen (p := ⟨B11, o, none⟩) D.Z.lt).trans (D.f2 o), bthen D.hB hb⟩
def GRd (w : World) (B7 B10 B11 : Nat) : Prop := w.heap.size + 1 < B7 ∧ B7 < B10 ∧ B10 < B11
theorem GRs.set10 (D : GRs w wr s t m d e d' e' dm em B7 B10 B11 y z) (hd : GRd w B7 B10 B11) (u : Sp) : GRs w (((((wr.setCell ⟨B10, 0, none⟩ (.bool u.ln)).setCell ⟨B10, 1, none⟩ (.slice u.la u.lN u.lc)).setCell ⟨B10, 2, none⟩ (.bool u.hn)).setCell ⟨B10, 3, none⟩ (.slice u.ha u.hN u.hc)).setCell ⟨B10, 4, none⟩ (.int .i64 u.bits)) s t m d e d' e' dm em B7 B10 B11 u z :=
  ⟨D.A.put5n (by unfold GRd at hd; omega) _ _ _ _ _, D.G.put5n (by unfold GRd at hd; omega) _ _ _ _ _, D.M.put5n (by unfold GRd at hd; omega) _ _ _ _ _, ⟨D.ds.lo.put5 D.Y _ _ _ _ _, D.ds.hi.put5 D.Y _ _ _ _ _⟩, ⟨D.dt.lo.put5 D.Y _ _ _ _ _, D.dt.hi.put5 D.Y _ _ _ _ _⟩, ⟨D.dg.lo.put5 D.Y _ _ _ _ _, D.dg.hi.put5 D.Y _ _ _ _ _⟩, sp_put D.Y u, D.Z.put5n (by unfold GRd at hd; omega) _ _ _ _ _, put_fz5 D.f1 _ _ _ _ _, put_fz5 D.f2 _ _ _ _ _, set5 D.hB (by unfold GRd at hd; omega) _ _ _ _ _⟩
theorem GRs.set11 (D : GRs w wr s t m d e d' e' dm em B7 B10 B11 y z) (hd : GRd w B7 B10 B11) (u : Sp) : GRs w (((((wr.setCell ⟨B11, 0, none⟩ (.bool u.ln)).setCell ⟨B11, 1, none⟩ (.slice u.la u.lN u.lc)).setCell ⟨B11, 2, none⟩ (.bool u.hn)).setCell ⟨B11, 3, none⟩ (.slice u.ha u.hN u.hc)).setCell ⟨B11, 4, none⟩ (.int .i64 u.bits)) s t m d e d' e' dm em B7 B10 B11 y u :=
  ⟨D.A.put5n (by unfold GRd at hd; omega) _ _ _ _ _, D.G.put5n (by unfold GRd at hd; omega) _ _ _ _ _, D.M.put5n (by unfold GRd at hd; omega) _ _ _ _ _, ⟨D.ds.lo.put5 D.Z _ _ _ _ _, D.ds.hi.put5 D.Z _ _ _ _ _⟩, ⟨D.dt.lo.put5 D.Z _ _ _ _ _, D.dt.hi.put5 D.Z _ _ _ _ _⟩, ⟨D.dg.lo.put5 D.Z _ _ _ _ _, D.dg.hi.put5 D.Z _ _ _ _ _⟩, D.Y.put5n (by unfold GRd at hd; omega) _ _ _ _ _, sp_put D.Z u, put_fz5 D.f1 _ _ _ _ _, put_fz5 D.f2 _ _ _ _ _, set5 D.hB (by unfold GRd at hd; omega) _ _ _ _ _⟩

theorem withinMul {s t m : Sp} {d e d' e' dm em : Nat → Int} (k1 : loZ s d ≤ loZ m dm) (k2 : loZ m dm ≤ hiZ m em) (k3 : hiZ m em ≤ hiZ s e) (kb : m.bits = s.bits) {W : World} (dt : SpDig W t d' e') : (anE (fltE2 (chkE m dm em) (chkE t d' e') m.bits t.bits) 0 (downZ (leastZ (pr4 ((loZ m dm) * (loZ t d')) ((loZ m dm) * (hiZ t e')) ((hiZ m em) * (loZ t d')) ((hiZ m em) * (hiZ t e'))) 3) m.bits) (-(downZ (-(mostZ (pr4 ((loZ m dm) * (loZ t d')) ((loZ m dm) * (hiZ t e')) ((hiZ m em) * (loZ t d')) ((hiZ m em) * (hiZ t e'))) 3)) m.bits))) = 0 → (anE (fltE2 (chkE s d e) (chkE t d' e') s.bits t.bits) 0 (downZ (leastZ (pr4 ((loZ s d) * (loZ t d')) ((loZ s d) * (hiZ t e')) ((hiZ s e) * (loZ t d')) ((hiZ s e) * (hiZ t e'))) 3) s.bits) (-(downZ (-(mostZ (pr4 ((loZ s d) * (loZ t d')) ((loZ s d) * (hiZ t e')) ((hiZ s e) * (loZ t d')) ((hiZ s e) * (hiZ t e'))) 3)) s.bits))) = 0 → (anV (fltE2 (chkE s d e) (chkE t d' e') s.bits t.bits) 0 (downZ (leastZ (pr4 ((loZ s d) * (loZ t d')) ((loZ s d) * (hiZ t e')) ((hiZ s e) * (loZ t d')) ((hiZ s e) * (hiZ t e'))) 3) s.bits) (-(downZ (-(mostZ (pr4 ((loZ s d) * (loZ t d')) ((loZ s d) * (hiZ t e')) ((hiZ s e) * (loZ t d')) ((hiZ s e) * (hiZ t e'))) 3)) s.bits)) (downZ (leastZ (pr4 ((loZ s d) * (loZ t d')) ((loZ s d) * (hiZ t e')) ((hiZ s e) * (loZ t d')) ((hiZ s e) * (hiZ t e'))) 3) s.bits)) ≤ (anV (fltE2 (chkE m dm em) (chkE t d' e') m.bits t.bits) 0 (downZ (leastZ (pr4 ((loZ m dm) * (loZ t d')) ((loZ m dm) * (hiZ t e')) ((hiZ m em) * (loZ t d')) ((hiZ m em) * (hiZ t e'))) 3) m.bits) (-(downZ (-(mostZ (pr4 ((loZ m dm) * (loZ t d')) ((loZ m dm) * (hiZ t e')) ((hiZ m em) * (loZ t d')) ((hiZ m em) * (hiZ t e'))) 3)) m.bits)) (downZ (leastZ (pr4 ((loZ m dm) * (loZ t d')) ((loZ m dm) * (hiZ t e')) ((hiZ m em) * (loZ t d')) ((hiZ m em) * (hiZ t e'))) 3) m.bits)) ∧ (anV (fltE2 (chkE m dm em) (chkE t d' e') m.bits t.bits) 0 (downZ (leastZ (pr4 ((loZ m dm) * (loZ t d')) ((loZ m dm) * (hiZ t e')) ((hiZ m em) * (loZ t d')) ((hiZ m em) * (hiZ t e'))) 3) m.bits) (-(downZ (-(mostZ (pr4 ((loZ m dm) * (loZ t d')) ((loZ m dm) * (hiZ t e')) ((hiZ m em) * (loZ t d')) ((hiZ m em) * (hiZ t e'))) 3)) m.bits)) (-(downZ (-(mostZ (pr4 ((loZ m dm) * (loZ t d')) ((loZ m dm) * (hiZ t e')) ((hiZ m em) * (loZ t d')) ((hiZ m em) * (hiZ t e'))) 3)) m.bits))) ≤ (anV (fltE2 (chkE s d e) (chkE t d' e') s.bits t.bits) 0 (downZ (leastZ (pr4 ((loZ s d) * (loZ t d')) ((loZ s d) * (hiZ t e')) ((hiZ s e) * (loZ t d')) ((hiZ s e) * (hiZ t e'))) 3) s.bits) (-(downZ (-(mostZ (pr4 ((loZ s d) * (loZ t d')) ((loZ s d) * (hiZ t e')) ((hiZ s e) * (loZ t d')) ((hiZ s e) * (hiZ t e'))) 3)) s.bits)) (-(downZ (-(mostZ (pr4 ((loZ s d) * (loZ t d')) ((loZ s d) * (hiZ t e')) ((hiZ s e) * (loZ t d')) ((hiZ s e) * (hiZ t e'))) 3)) s.bits))) := by
  intro h1 h2
  obtain ⟨a1, a2, a3, a4⟩ := an_ok h1
  obtain ⟨b1, b2, b3, b4⟩ := an_ok h2
  obtain ⟨c1, c2, hbt⟩ := flt0 b1
  have hl' : loZ t d' ≤ hiZ t e' := (chk_ok dt c2).2.2.2
  rw [a4, a4, b4, b4]
  obtain ⟨g1, g2⟩ := mul_grows (p := loZ s d) (q := hiZ s e) (p' := loZ m dm) (q' := hiZ m em) (r := loZ t d') (u := hiZ t e') k1 k2 k3 hl'
  rw [kb]
  exact ⟨downZ_le g1, Int.neg_le_neg (downZ_le (Int.neg_le_neg g2))⟩

theorem withinDiv {s t m : Sp} {d e d' e' dm em : Nat → Int} (k1 : loZ s d ≤ loZ m dm) (k2 : loZ m dm ≤ hiZ m em) (k3 : hiZ m em ≤ hiZ s e) (kb : m.bits = s.bits) {W : World} (dt : SpDig W t d' e') : (anE (fltE2 (chkE m dm em) (chkE t d' e') m.bits t.bits) (dvG (loZ t d') (hiZ t e')) (dvLo (loZ m dm) (hiZ m em) (loZ t d') (hiZ t e') m.bits.toNat) (dvHi (loZ m dm) (hiZ m em) (loZ t d') (hiZ t e') m.bits.toNat)) = 0 → (anE (fltE2 (chkE s d e) (chkE t d' e') s.bits t.bits) (dvG (loZ t d') (hiZ t e')) (dvLo (loZ s d) (hiZ s e) (loZ t d') (hiZ t e') s.bits.toNat) (dvHi (loZ s d) (hiZ s e) (loZ t d') (hiZ t e') s.bits.toNat)) = 0 → (anV (fltE2 (chkE s d e) (chkE t d' e') s.bits t.bits) (dvG (loZ t d') (hiZ t e')) (dvLo (loZ s d) (hiZ s e) (loZ t d') (hiZ t e') s.bits.toNat) (dvHi (loZ s d) (hiZ s e) (loZ t d') (hiZ t e') s.bits.toNat) (dvLo (loZ s d) (hiZ s e) (loZ t d') (hiZ t e') s.bits.toNat)) ≤ (anV (fltE2 (chkE m dm em) (chkE t d' e') m.bits t.bits) (dvG (loZ t d') (hiZ t e')) (dvLo (loZ m dm) (hiZ m em) (loZ t d') (hiZ t e') m.bits.toNat) (dvHi (loZ m dm) (hiZ m em) (loZ t d') (hiZ t e') m.bits.toNat) (dvLo (loZ m dm) (hiZ m em) (loZ t d') (hiZ t e') m.bits.toNat)) ∧ (anV (fltE2 (chkE m dm em) (chkE t d' e') m.bits t.bits) (dvG (loZ t d') (hiZ t e')) (dvLo (loZ m dm) (hiZ m em) (loZ t d') (hiZ t e') m.bits.toNat) (dvHi (loZ m dm) (hiZ m em) (loZ t d') (hiZ t e') m.bits.toNat) (dvHi (loZ m dm) (hiZ m em) (loZ t d') (hiZ t e') m.bits.toNat)) ≤ (anV (fltE2 (chkE s d e) (chkE t d' e') s.bits t.bits) (dvG (loZ t d') (hiZ t e')) (dvLo (loZ s d) (hiZ s e) (loZ t d') (hiZ t e') s.bits.toNat) (dvHi (loZ s d) (hiZ s e) (loZ t d') (hiZ t e') s.bits.toNat) (dvHi (loZ s d) (hiZ s e) (loZ t d') (hiZ t e') s.bits.toNat)) := by
  intro h1 h2
  obtain ⟨a1, a2, a3, a4⟩ := an_ok h1
  obtain ⟨b1, b2, b3, b4⟩ := an_ok h2
  obtain ⟨c1, c2, hbt⟩ := flt0 b1
  have hl' : loZ t d' ≤ hiZ t e' := (chk_ok dt c2).2.2.2
  rw [a4, a4, b4, b4]
  have hn : ¬ (loZ t d' ≤ 0 ∧ 0 ≤ hiZ t e') := by
    intro h9
    have : dvG (loZ t d') (hiZ t e') = 5 := if_pos h9
    omega
  rw [kb]
  exact dv_grows k1 k3 hn hl'

theorem withinSub {s t m : Sp} {d e d' e' dm em : Nat → Int} (k1 : loZ s d ≤ loZ m dm) (k2 : loZ m dm ≤ hiZ m em) (k3 : hiZ m em ≤ hiZ s e) (kb : m.bits = s.bits) {W : World} (dt : SpDig W t d' e') : (anE (fltE2 (chkE m dm em) (chkE t d' e') m.bits t.bits) 0 ((loZ m dm) - (hiZ t e')) ((hiZ m em) - (loZ t d'))) = 0 → (anE (fltE2 (chkE s d e) (chkE t d' e') s.bits t.bits) 0 ((loZ s d) - (hiZ t e')) ((hiZ s e) - (loZ t d'))) = 0 → (anV (fltE2 (chkE s d e) (chkE t d' e') s.bits t.bits) 0 ((loZ s d) - (hiZ t e')) ((hiZ s e) - (loZ t d')) ((loZ s d) - (hiZ t e'))) ≤ (anV (fltE2 (chkE m dm em) (chkE t d' e') m.bits t.bits) 0 ((loZ m dm) - (hiZ t e')) ((hiZ m em) - (loZ t d')) ((loZ m dm) - (hiZ t e'))) ∧ (anV (fltE2 (chkE m dm em) (chkE t d' e') m.bits t.bits) 0 ((loZ m dm) - (hiZ t e')) ((hiZ m em) - (loZ t d')) ((hiZ m em) - (loZ t d'))) ≤ (anV (fltE2 (chkE s d e) (chkE t d' e') s.bits t.bits) 0 ((loZ s d) - (hiZ t e')) ((hiZ s e) - (loZ t d')) ((hiZ s e) - (loZ t d'))) := by
  intro h1 h2
  obtain ⟨a1, a2, a3, a4⟩ := an_ok h1
  obtain ⟨b1, b2, b3, b4⟩ := an_ok h2
  obtain ⟨c1, c2, hbt⟩ := flt0 b1
  have hl' : loZ t d' ≤ hiZ t e' := (chk_ok dt c2).2.2.2
  rw [a4, a4, b4, b4]
  exact ⟨by omega, by omega⟩

set_option maxRecDepth 100000 in
set_option maxHeartbeats 8000000 in
theorem law_spanGrows (w : World) (s t x : Sp) (d e d' e' dx ex : Nat → Int) (hs : SpDig w s d e) (ht : SpDig w t d' e') (hx : SpDig w x dx ex) :
    Calls Try.prog 8 #[.agg #[.bool s.ln, .slice s.la s.lN s.lc, .bool s.hn, .slice s.ha s.hN s.hc, .int .i64 s.bits], .agg #[.bool t.ln, .slice t.la t.lN t.lc, .bool t.hn, .slice t.ha t.hN t.hc, .int .i64 t.bits], .agg #[.bool x.ln, .slice x.la x.lN x.lc, .bool x.hn, .slice x.ha x.hN x.hc, .int .i64 x.bits]] w fun r w' => r = .returned (.bool true) ∧ Below w.heap.size w w' := by
  obtain ⟨W, hW⟩ : ∃ W, W = ((w.alloc (.cells #[.bool s.ln, .slice s.la s.lN s.lc, .bool s.hn, .slice s.ha s.hN s.hc, .int .i64 s.bits] 26)).alloc (.cells #[.bool t.ln, .slice t.la t.lN t.lc, .bool t.hn, .slice t.ha t.hN t.hc, .int .i64 t.bits] 26)).alloc (.cells #[.bool x.ln, .slice x.la x.lN x.lc, .bool x.hn, .slice x.ha x.hN x.hc, .int .i64 x.bits] 26) := ⟨_, rfl⟩
  have hBW : Below w.heap.size w W := by rw [hW]; exact bl3 _ _ _ _
  have hz0 : W.heap.size = w.heap.size + 1 + 1 + 1 := by rw [hW]; simp
  have A : SpC W w.heap.size s := by rw [hW]; exact ⟨by simp [go_sem], by simp [go_sem], by simp [go_sem], by simp [go_sem], by simp [go_sem]⟩
  have G : SpC W (w.heap.size + 1) t := by rw [hW]; exact ⟨by simp [go_sem], by simp [go_sem], by simp [go_sem], by simp [go_sem], by simp [go_sem]⟩
  have XX : SpC W (w.heap.size + 1 + 1) x := by rw [hW]; exact ⟨by simp [go_sem], by simp [go_sem], by simp [go_sem], by simp [go_sem], by simp [go_sem]⟩
  replace hs := hs.below hBW
  replace ht := ht.below hBW
  replace hx := hx.below hBW
  go_enter Try.func8, Try.ntmps8
  go_upto_region 1 with fail
  rw [← hW]
  clear hW
  go_wp2_with fail
  refine (spanBegun_any _).mono ?_
  rintro r w0 ⟨rfl, hb0⟩
  replace hBW := bthen hBW hb0
  replace A := A.below hb0
  replace G := G.below hb0
  replace XX := XX.below hb0
  replace hs := hs.below hb0
  replace ht := ht.below hb0
  replace hx := hx.below hb0
  have hz0' := hb0.size
  clear hb0
  have lp := A.lt
  obtain ⟨p0, p1, p2, p3, p4⟩ := A
  have lq := XX.lt
  obtain ⟨q0, q1, q2, q3, q4⟩ := XX
  go_wp2_with fail
  refine (saidMeetA s x d e dx ex _ hs hx).mono ?_
  rintro r w1 ⟨m, rfl, hmb, hmp, hb1⟩
  have A := (SpC.mk p0 p1 p2 p3 p4).below hb1
  replace hBW := bthen hBW hb1
  replace G := G.below hb1
  replace hs := hs.below hb1
  replace ht := ht.below hb1
  have hz1 := hb1.size
  clear hb1 hx lp p0 p1 p2 p3 p4 lq q0 q1 q2 q3 q4
  have HL := hide (show chkE s d e = 0 → loZ s d ≤ hiZ s e from fun h => (chk_ok hs h).2.2.2)
  obtain ⟨em1, hem⟩ : ∃ y, y = anE (fltE2 (chkE s d e) (chkE x dx ex) s.bits x.bits) (meG (loZ s d) (hiZ s e) (loZ x dx) (hiZ x ex)) (maxZ (loZ s d) (loZ x dx)) (minZ (hiZ s e) (hiZ x ex)) := ⟨_, rfl⟩
  rw [← hem]
  obtain ⟨W1, hW1⟩ : ∃ W', W' = w1.alloc (.cells #[.bool m.ln, .slice m.la m.lN m.lc, .bool m.hn, .slice m.ha m.hN m.hc, .int .i64 m.bits] 26) := ⟨_, rfl⟩
  have hc1 : Below w1.heap.size w1 W1 := by rw [hW1]; exact bl1 _ _
  have M : SpC W1 w1.heap.size m := by rw [hW1]; exact spc_new _ _ _
  have hw1 : W1.heap.size = w1.heap.size + 1 := by rw [hW1]; simp
  by_cases he : em1 = 0
  · have he' : (em1 != 0) = false := by simp [he]
    rw [he] at hem
    obtain ⟨a1, a2, a3, a4⟩ := an_ok hem.symm
    obtain ⟨c1, c2, hbt⟩ := flt0 a1
    rw [a4] at hmb
    rw [a4, a4] at hmp
    have hle : maxZ (loZ s d) (loZ x dx) ≤ minZ (hiZ s e) (hiZ x ex) := by
      unfold meG at a2
      split at a2
      · omega
      · omega
    obtain ⟨⟨dm, p1, p2, p3, p4, p5⟩, ⟨em, r1, r2, r3, r4, r5⟩⟩ := hmp
    have dg : SpDig w1 m dm em := ⟨p1, r1⟩
    have k1 : loZ s d ≤ loZ m dm := by
      have h9 : loZ m dm = maxZ (loZ s d) (loZ x dx) := p5.symm
      rw [h9]; unfold maxZ; split <;> omega
    have k3 : hiZ m em ≤ hiZ s e := by
      have h9 : hiZ m em = minZ (hiZ s e) (hiZ x ex) := r5.symm
      rw [h9]; unfold minZ; split <;> omega
    have k2 : loZ m dm ≤ hiZ m em := by
      have h8 : loZ m dm = maxZ (loZ s d) (loZ x dx) := p5.symm
      have h9 : hiZ m em = minZ (hiZ s e) (hiZ x ex) := r5.symm
      rw [h8, h9]; exact hle
    have kb : m.bits = s.bits := hmb
    replace k1 := hide k1
    replace k2 := hide k2
    replace k3 := hide k3
    replace kb := hide kb
    clear p1 p2 p3 p4 p5 r1 r2 r3 r4 r5 a1 a2 a3 a4 c1 c2 hbt hle hmb hem he HL
    go_upto_region 7 with fail
    rw [← hW1]
    clear hW1
    replace hBW := bthen hBW hc1
    replace A := A.below hc1
    replace G := G.below hc1
    replace hs := hs.below hc1
    replace ht := ht.below hc1
    replace dg := dg.below hc1
    clear hc1
    have lp := M.lt
    obtain ⟨p0, p1, p2, p3, p4⟩ := M
    have lq := G.lt
    obtain ⟨q0, q1, q2, q3, q4⟩ := G
    go_wp2_with fail
    refine (saidMulA m t dm em d' e' _ dg ht).mono ?_
    rintro r w2 ⟨u, rfl, hub, hup, hb2⟩
    have M := (SpC.mk p0 p1 p2 p3 p4).below hb2
    have G := (SpC.mk q0 q1 q2 q3 q4).below hb2
    replace hBW := bthen hBW hb2
    replace A := A.below hb2
    replace hs := hs.below hb2
    replace ht := ht.below hb2
    replace dg := dg.below hb2
    have hz2 := hb2.size
    clear hub hb2 lp p0 p1 p2 p3 p4 lq q0 q1 q2 q3 q4
    obtain ⟨W2, hW2⟩ : ∃ W', W' = w2.alloc (.cells #[.bool u.ln, .slice u.la u.lN u.lc, .bool u.hn, .slice u.ha u.hN u.hc, .int .i64 u.bits] 26) := ⟨_, rfl⟩
    have hc2 : Below w2.heap.size w2 W2 := by rw [hW2]; exact bl1 _ _
    have Y : SpC W2 w2.heap.size u := by rw [hW2]; exact spc_new _ _ _
    have fY : ∀ o, W2.frozen? ⟨w2.heap.size, o, none⟩ = false := by intro o; rw [hW2]; simp [go_sem]
    have hw2 : W2.heap.size = w2.heap.size + 1 := by rw [hW2]; simp
    go_upto_region 8 with fail
    rw [← hW2]
    clear hW2
    replace hBW := bthen hBW hc2
    replace A := A.below hc2
    replace G := G.below hc2
    replace M := M.below hc2
    replace hs := hs.below hc2
    replace ht := ht.below hc2
    replace dg := dg.below hc2
    replace hup := hup.below hc2
    clear hc2
    have lp := A.lt
    obtain ⟨p0, p1, p2, p3, p4⟩ := A
    have lq := G.lt
    obtain ⟨q0, q1, q2, q3, q4⟩ := G
    go_wp2_with fail
    refine (saidMulA s t d e d' e' _ hs ht).mono ?_
    rintro r w3 ⟨v, rfl, hvb, hvp, hb3⟩
    have A := (SpC.mk p0 p1 p2 p3 p4).below hb3
    have G := (SpC.mk q0 q1 q2 q3 q4).below hb3
    replace hBW := bthen hBW hb3
    replace M := M.below hb3
    replace fY : ∀ o, w3.frozen? ⟨w2.heap.size, o, none⟩ = false := fun o => (hb3.frozen (p := ⟨w2.heap.size, o, none⟩) Y.lt).trans (fY o)
    replace Y := Y.below hb3
    replace hs := hs.below hb3
    replace ht := ht.below hb3
    replace dg := dg.below hb3
    replace hup := hup.below hb3
    have hz3 := hb3.size
    clear hvb hb3 lp p0 p1 p2 p3 p4 lq q0 q1 q2 q3 q4
    obtain ⟨W3, hW3⟩ : ∃ W', W' = w3.alloc (.cells #[.bool v.ln, .slice v.la v.lN v.lc, .bool v.hn, .slice v.ha v.hN v.hc, .int .i64 v.bits] 26) := ⟨_, rfl⟩
    have hc3 : Below w3.heap.size w3 W3 := by rw [hW3]; exact bl1 _ _
    have Z : SpC W3 w3.heap.size v := by rw [hW3]; exact spc_new _ _ _
    have fZ : ∀ o, W3.frozen? ⟨w3.heap.size, o, none⟩ = false := by intro o; rw [hW3]; simp [go_sem]
    go_upto_region 9 with fail
    rw [← hW3]
    clear hW3
    have D : GRs w W3 s t m d e d' e' dm em w1.heap.size w2.heap.size w3.heap.size u v := ⟨A.below hc3, G.below hc3, M.below hc3, hs.below hc3, ht.below hc3, dg.below hc3, Y.below hc3, Z, fun o => (hc3.frozen (p := ⟨w2.heap.size, o, none⟩) Y.lt).trans (fY o), fZ, bthen hBW hc3⟩
    have X : GRd w w1.heap.size w2.heap.size w3.heap.size := by unfold GRd; omega
    replace hup := hup.below hc3
    replace hvp := hvp.below hc3
    clear A G M hs ht dg Y Z fY fZ hBW hc3 hz0 hz0' hz1 hz2 hz3 hw1 hw2
    obtain ⟨B7, hB7⟩ : ∃ B, B = w1.heap.size := ⟨_, rfl⟩
    obtain ⟨B10, hB10⟩ : ∃ B, B = w2.heap.size := ⟨_, rfl⟩
    obtain ⟨B11, hB11⟩ : ∃ B, B = w3.heap.size := ⟨_, rfl⟩
    rw [← hB7, ← hB10, ← hB11] at D X
    rw [← hB7, ← hB10, ← hB11]
    clear hB7 hB10 hB11
    replace k1 := unhide k1
    replace k2 := unhide k2
    replace k3 := unhide k3
    replace kb := unhide kb
    have HKK := hide (And.intro k1 (And.intro k2 (And.intro k3 kb)))
    have HIMul := hide (withinMul k1 k2 k3 kb D.dt)
    generalize (anE (fltE2 (chkE m dm em) (chkE t d' e') m.bits t.bits) 0 (downZ (leastZ (pr4 ((loZ m dm) * (loZ t d')) ((loZ m dm) * (hiZ t e')) ((hiZ m em) * (loZ t d')) ((hiZ m em) * (hiZ t e'))) 3) m.bits) (-(downZ (-(mostZ (pr4 ((loZ m dm) * (loZ t d')) ((loZ m dm) * (hiZ t e')) ((hiZ m em) * (loZ t d')) ((hiZ m em) * (hiZ t e'))) 3)) m.bits))) = eu at *
    generalize (anE (fltE2 (chkE s d e) (chkE t d' e') s.bits t.bits) 0 (downZ (leastZ (pr4 ((loZ s d) * (loZ t d')) ((loZ s d) * (hiZ t e')) ((hiZ s e) * (loZ t d')) ((hiZ s e) * (hiZ t e'))) 3) s.bits) (-(downZ (-(mostZ (pr4 ((loZ s d) * (loZ t d')) ((loZ s d) * (hiZ t e')) ((hiZ s e) * (loZ t d')) ((hiZ s e) * (hiZ t e'))) 3)) s.bits))) = ev at *
    clear k1 k2 k3 kb
    have lp := D.Y.lt
    obtain ⟨p0, p1, p2, p3, p4⟩ := D.Y
    have lq := D.Z.lt
    obtain ⟨q0, q1, q2, q3, q4⟩ := D.Z
    go_wp2_with fail
    refine (grows1 _ u v eu ev _ _ _ _ hup hvp (unhide HIMul)).mono ?_
    rintro r w4 ⟨rfl, hb4⟩
    replace D := D.below hb4
    clear hb4 hup hvp HIMul lp p0 p1 p2 p3 p4 lq q0 q1 q2 q3 q4
    have lp := D.M.lt
    obtain ⟨p0, p1, p2, p3, p4⟩ := D.M
    have lq := D.G.lt
    obtain ⟨q0, q1, q2, q3, q4⟩ := D.G
    go_wp2_with fail
    refine (saidDivA m t dm em d' e' _ D.dg D.dt).mono ?_
    rintro r wa ⟨u, rfl, hub, hup, hba⟩
    replace D := D.below hba
    clear hub hba lp p0 p1 p2 p3 p4 lq q0 q1 q2 q3 q4
    have fz1 := D.f1
    have lp := D.Y.lt
    obtain ⟨p0, p1, p2, p3, p4⟩ := D.Y
    have D2 := D.set10 X u
    replace hup := SpAt.put5 hup p0 p1 p2 p3 p4 (.bool u.ln) (.slice u.la u.lN u.lc) (.bool u.hn) (.slice u.ha u.hN u.hc) (.int .i64 u.bits)
    obtain ⟨Va, hVa⟩ : ∃ V', V' = (((((wa.setCell ⟨B10, 0, none⟩ (.bool u.ln)).setCell ⟨B10, 1, none⟩ (.slice u.la u.lN u.lc)).setCell ⟨B10, 2, none⟩ (.bool u.hn)).setCell ⟨B10, 3, none⟩ (.slice u.ha u.hN u.hc)).setCell ⟨B10, 4, none⟩ (.int .i64 u.bits)) := ⟨_, rfl⟩
    rw [← hVa] at D2 hup
    go_upto_region 12 with fail
    rw [← hVa]
    clear hVa D fz1 lp p0 p1 p2 p3 p4
    have D := D2
    clear D2
    have lp := D.A.lt
    obtain ⟨p0, p1, p2, p3, p4⟩ := D.A
    have lq := D.G.lt
    obtain ⟨q0, q1, q2, q3, q4⟩ := D.G
    go_wp2_with fail
    refine (saidDivA s t d e d' e' _ D.ds D.dt).mono ?_
    rintro r wb ⟨v, rfl, hvb, hvp, hbb⟩
    replace D := D.below hbb
    replace hup := hup.below hbb
    clear hvb hbb lp p0 p1 p2 p3 p4 lq q0 q1 q2 q3 q4
    have fz2 := D.f2
    have lp := D.Z.lt
    obtain ⟨p0, p1, p2, p3, p4⟩ := D.Z
    have D2 := D.set11 X v
    replace hup := SpAt.put5 hup p0 p1 p2 p3 p4 (.bool v.ln) (.slice v.la v.lN v.lc) (.bool v.hn) (.slice v.ha v.hN v.hc) (.int .i64 v.bits)
    replace hvp := SpAt.put5 hvp p0 p1 p2 p3 p4 (.bool v.ln) (.slice v.la v.lN v.lc) (.bool v.hn) (.slice v.ha v.hN v.hc) (.int .i64 v.bits)
    obtain ⟨Vb, hVb⟩ : ∃ V', V' = (((((wb.setCell ⟨B11, 0, none⟩ (.bool v.ln)).setCell ⟨B11, 1, none⟩ (.slice v.la v.lN v.lc)).setCell ⟨B11, 2, none⟩ (.bool v.hn)).setCell ⟨B11, 3, none⟩ (.slice v.ha v.hN v.hc)).setCell ⟨B11, 4, none⟩ (.int .i64 v.bits)) := ⟨_, rfl⟩
    rw [← hVb] at D2 hup hvp
    go_upto_region 13 with fail
    rw [← hVb]
    clear hVb D fz2 lp p0 p1 p2 p3 p4
    have D := D2
    clear D2
    obtain ⟨k1, k2, k3, kb⟩ := unhide HKK
    have HIDiv := hide (withinDiv k1 k2 k3 kb D.dt)
    generalize (anE (fltE2 (chkE m dm em) (chkE t d' e') m.bits t.bits) (dvG (loZ t d') (hiZ t e')) (dvLo (loZ m dm) (hiZ m em) (loZ t d') (hiZ t e') m.bits.toNat) (dvHi (loZ m dm) (hiZ m em) (loZ t d') (hiZ t e') m.bits.toNat)) = eu at *
    clear k1 k2 k3 kb
    generalize (anE (fltE2 (chkE s d e) (chkE t d' e') s.bits t.bits) (dvG (loZ t d') (hiZ t e')) (dvLo (loZ s d) (hiZ s e) (loZ t d') (hiZ t e') s.bits.toNat) (dvHi (loZ s d) (hiZ s e) (loZ t d') (hiZ t e') s.bits.toNat)) = ev at *
    have lp := D.Y.lt
    obtain ⟨p0, p1, p2, p3, p4⟩ := D.Y
    have lq := D.Z.lt
    obtain ⟨q0, q1, q2, q3, q4⟩ := D.Z
    go_wp2_with fail
    refine (grows1 _ u v eu ev _ _ _ _ hup hvp (unhide HIDiv)).mono ?_
    rintro r wd ⟨rfl, hbd⟩
    replace D := D.below hbd
    clear hbd hup hvp HIDiv lp p0 p1 p2 p3 p4 lq q0 q1 q2 q3 q4
    have lp := D.M.lt
    obtain ⟨p0, p1, p2, p3, p4⟩ := D.M
    have lq := D.G.lt
    obtain ⟨q0, q1, q2, q3, q4⟩ := D.G
    go_wp2_with fail
    refine (saidSubA m t dm em d' e' _ D.dg D.dt).mono ?_
    rintro r wa ⟨u, rfl, hub, hup, hba⟩
    replace D := D.below hba
    clear hub hba lp p0 p1 p2 p3 p4 lq q0 q1 q2 q3 q4
    have fz1 := D.f1
    have lp := D.Y.lt
    obtain ⟨p0, p1, p2, p3, p4⟩ := D.Y
    have D2 := D.set10 X u
    replace hup := SpAt.put5 hup p0 p1 p2 p3 p4 (.bool u.ln) (.slice u.la u.lN u.lc) (.bool u.hn) (.slice u.ha u.hN u.hc) (.int .i64 u.bits)
    obtain ⟨Va, hVa⟩ : ∃ V', V' = (((((wa.setCell ⟨B10, 0, none⟩ (.bool u.ln)).setCell ⟨B10, 1, none⟩ (.slice u.la u.lN u.lc)).setCell ⟨B10, 2, none⟩ (.bool u.hn)).setCell ⟨B10, 3, none⟩ (.slice u.ha u.hN u.hc)).setCell ⟨B10, 4, none⟩ (.int .i64 u.bits)) := ⟨_, rfl⟩
    rw [← hVa] at D2 hup
    go_upto_region 16 with fail
    rw [← hVa]
    clear hVa D fz1 lp p0 p1 p2 p3 p4
    have D := D2
    clear D2
    have lp := D.A.lt
    obtain ⟨p0, p1, p2, p3, p4⟩ := D.A
    have lq := D.G.lt
    obtain ⟨q0, q1, q2, q3, q4⟩ := D.G
    go_wp2_with fail
    refine (saidSubA s t d e d' e' _ D.ds D.dt).mono ?_
    rintro r wb ⟨v, rfl, hvb, hvp, hbb⟩
    replace D := D.below hbb
    replace hup := hup.below hbb
    clear hvb hbb lp p0 p1 p2 p3 p4 lq q0 q1 q2 q3 q4
    have fz2 := D.f2
    have lp := D.Z.lt
    obtain ⟨p0, p1, p2, p3, p4⟩ := D.Z
    have D2 := D.set11 X v
    replace hup := SpAt.put5 hup p0 p1 p2 p3 p4 (.bool v.ln) (.slice v.la v.lN v.lc) (.bool v.hn) (.slice v.ha v.hN v.hc) (.int .i64 v.bits)
    replace hvp := SpAt.put5 hvp p0 p1 p2 p3 p4 (.bool v.ln) (.slice v.la v.lN v.lc) (.bool v.hn) (.slice v.ha v.hN v.hc) (.int .i64 v.bits)
    obtain ⟨Vb, hVb⟩ : ∃ V', V' = (((((wb.setCell ⟨B11, 0, none⟩ (.bool v.ln)).setCell ⟨B11, 1, none⟩ (.slice v.la v.lN v.lc)).setCell ⟨B11, 2, none⟩ (.bool v.hn)).setCell ⟨B11, 3, none⟩ (.slice v.ha v.hN v.hc)).setCell ⟨B11, 4, none⟩ (.int .i64 v.bits)) := ⟨_, rfl⟩
    rw [← hVb] at D2 hup hvp
    go_upto_region 17 with fail
    rw [← hVb]
    clear hVb D fz2 lp p0 p1 p2 p3 p4
    have D := D2
    clear D2
    obtain ⟨k1, k2, k3, kb⟩ := unhide HKK
    have HISub := hide (withinSub k1 k2 k3 kb D.dt)
    generalize (anE (fltE2 (chkE m dm em) (chkE t d' e') m.bits t.bits) 0 ((loZ m dm) - (hiZ t e')) ((hiZ m em) - (loZ t d'))) = eu at *
    clear k1 k2 k3 kb
    generalize (anE (fltE2 (chkE s d e) (chkE t d' e') s.bits t.bits) 0 ((loZ s d) - (hiZ t e')) ((hiZ s e) - (loZ t d'))) = ev at *
    have lp := D.Y.lt
    obtain ⟨p0, p1, p2, p3, p4⟩ := D.Y
    have lq := D.Z.lt
    obtain ⟨q0, q1, q2, q3, q4⟩ := D.Z
    go_wp2_with fail
    refine (grows1 _ u v eu ev _ _ _ _ hup hvp (unhide HISub)).mono ?_
    rintro r wd ⟨rfl, hbd⟩
    replace D := D.below hbd
    clear hbd hup hvp HISub lp p0 p1 p2 p3 p4 lq q0 q1 q2 q3 q4
    go_wp2_with fail
    go_ret
    exact ⟨rfl, D.hB⟩
  · have he' : (em1 != 0) = true := by simpa using he
    clear he
    go_wp2_with fail
    go_ret
    exact ⟨rfl, by first | with_reducible exact bthen hBW hc1 | with_reducible exact bthen hBW (bl1 _ _)⟩
end Go.Proofs.Ytgmnknmjainabaa

namespace Go.Proofs.Ytgmnknmjainabaa
set_option linter.unusedVariables false
set_option linter.unusedSimpArgs false
set_option linter.unnecessarySimpa false
open Go.ChangeShapes Go.WideShapes Go.ChangeAt Go.RowKit

theorem Try.own : ownKnob Try.prog.godebug = none := by kernel_rfl
theorem Try.laidOut : laidOutB Try.prog = true := by kernel_rfl
theorem Try.cellsSpan : Try.prog.cellsOf 26 = 5 := by kernel_rfl
theorem Try.cellsInt : Try.prog.cellsOf 24 = 2 := by kernel_rfl
theorem Try.cellsI : Try.prog.cellsOf 3 = 1 := by kernel_rfl
theorem Try.cellsB : Try.prog.cellsOf 4 = 1 := by kernel_rfl
theorem Try.cellsDs : Try.prog.cellsOf 22 = 1 := by kernel_rfl
theorem Try.cellsD : Try.prog.cellsOf 96 = 1 := by kernel_rfl
theorem Try.bytesD : Try.prog.bytesOf 96 = 2 := by kernel_rfl

set_option maxRecDepth 100000 in
theorem open_nm {H : Type} {enc : TypeId × Value → H} {W : World} {fuel : Nat} {c0 c1 : Value} {x : DataW H × List MemPlace}
    (h : DataW.trod enc Try.prog W 0 (fun _ => true) true fuel 24 [c0, c1] = some x) (hw : ∀ m ∈ x.1.weights Try.prog 24, m ≤ reachBytes) :
    ∃ neg a n cap d, c0 = .bool neg ∧ c1 = .slice a n cap ∧ Dig W a n cap d := by
  obtain ⟨y0, y1, m, hx, _, h0, h1⟩ := trod_struct2 Try.underlying24 h
  simp [Try.cellsB] at h0
  simp [Try.cellsDs] at h1
  obtain ⟨neg, e0, _⟩ := DataW.trod_bool Try.underlying4 h0
  simp at e0
  rcases open_ints Try.underlying22 Try.underlying96 Try.cellsD h1 with ⟨hcs, _⟩ | ⟨a, len, cap, zs, hcs, _, hl, hm, hz, hy, hcell, hwz⟩
  · simp at hcs
    exact ⟨neg, none, 0, 0, fun _ => 0, e0, hcs, fun h => by omega, fun _ => ⟨by simp, by simp⟩, Nat.le_refl _, by omega⟩
  · simp at hcs hz
    have hbound : cap ≤ 70368744177664 := by
      have h2 := hw ((zs.take len).length * 2 + (zs.drop len).length * 2) (by
        rw [hx, hy]
        simp [DataW.weights, DataW.weightsEach, Try.underlying24, Try.underlying22, Try.bytesD, lits]
        right; left; omega)
      simp [reachBytes, hz] at h2
      omega
    have hspot : 0 < cap → a.spot = none := fun h0 => by
      have hc := hcell 0 (by omega)
      have := World.cell?_spot hc
      simpa [Addr.add] using this
    obtain ⟨b, off, spot⟩ := a
    refine ⟨neg, some ⟨b, off, spot⟩, len, cap, fun j => zs.getD j 0, e0, hcs, fun h0 => ?_, fun j => ?_, hl, by omega⟩
    · have hs := hspot (by omega)
      simp at hs
      subst hs
      have hc0 := hcell 0 (by omega)
      refine ⟨b, off, rfl, World.block_lt_of_cell? W ⟨b, off, none⟩ (by simpa [Addr.add] using hc0), fun j hj => ?_⟩
      have := hcell j (by omega)
      rw [show (⟨b, off, none⟩ : Addr).add j = ⟨b, off + j, none⟩ by unfold Addr.add; split <;> simp_all] at this
      exact this
    · have := range_u16 hwz j
      simp at this ⊢
      omega

set_option maxRecDepth 100000 in
theorem open_sp {H : Type} {enc : TypeId × Value → H} {W : World} {base : Nat} {r : Reach} {v : Value} {dd : DataW H} {p : List MemPlace} (hv : Value.okWide Try.prog W r base 26 v)
    (h : DataW.Trod enc Try.prog W 0 (fun _ => true) true 26 v dd p) (hw : ∀ m ∈ dd.weights Try.prog 26, m ≤ reachBytes) :
    ∃ (s : Sp) (d e : Nat → Int), v = .agg #[.bool s.ln, .slice s.la s.lN s.lc, .bool s.hn, .slice s.ha s.hN s.hc, .int .i64 s.bits] ∧ SpDig W s d e := by
  obtain ⟨cs, rfl, hsz⟩ := okWide_struct Try.underlying26 hv
  rw [Try.cellsSpan] at hsz
  obtain ⟨l⟩ := cs
  match l, hsz with
  | [c0, c1, c2, c3, c4], _ =>
  obtain ⟨fuel, hf⟩ := h
  obtain ⟨xs, n, _, hx, _, hlen, hfl⟩ := DataW.trod_struct Try.underlying26 hf
  match xs, hlen with
  | [y0, y1, y2], _ =>
  have t0 := hfl 0 _ rfl
  have t1 := hfl 1 _ rfl
  have t2 := hfl 2 _ rfl
  simp [Value.cells, Try.cellsInt] at t0
  simp [Value.cells, Try.cellsInt] at t1
  simp [Value.cells, Try.cellsI] at t2
  simp only [Prod.mk.injEq] at hx
  obtain ⟨hd, _⟩ := hx
  have w0 : ∀ m ∈ y0.1.weights Try.prog 24, m ≤ reachBytes := fun m hm => hw m (by rw [hd]; simp [DataW.weights, DataW.weightsEach, Try.underlying26]; exact Or.inl hm)
  have w1 : ∀ m ∈ y1.1.weights Try.prog 24, m ≤ reachBytes := fun m hm => hw m (by rw [hd]; simp [DataW.weights, DataW.weightsEach, Try.underlying26]; exact Or.inr (Or.inl hm))
  obtain ⟨ln, la, lN, lc, d, rfl, rfl, hl⟩ := open_nm t0 w0
  obtain ⟨hn, ha, hN, hc, e, rfl, rfl, hh⟩ := open_nm t1 w1
  obtain ⟨bits, e2, _, _⟩ := DataW.trod_int Try.underlying3 t2
  simp at e2
  subst e2
  exact ⟨⟨ln, la, lN, lc, hn, ha, hN, hc, bits⟩, d, e, rfl, ⟨hl, hh⟩⟩
end Go.Proofs.Ytgmnknmjainabaa
