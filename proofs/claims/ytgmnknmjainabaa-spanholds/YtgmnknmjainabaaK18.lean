/-
  What span.Mul, span.Sub and span.Add answer of whatever spans; less is made of less: plain arithmetic; and the way in which tailsurelaw.SpanGrows looks at two answers.
  What tailsurelaw.choose and tailsurelaw.point answer, the way in which tailsurelaw.SpanHolds looks whether a number is within; what two numbers make is in what two spans make that have them: plain arithmetic.
-/
import Derived.Test.YtgmnknmjainabaaK17
namespace Go.Proofs.Ytgmnknmjainabaa
set_option linter.unusedVariables false
set_option linter.unusedSimpArgs false
set_option linter.unnecessarySimpa false
open Go.RowKit
attribute [local go_sem ↓] Go.wp_at_zero Go.wp_at_succ

theorem saidAddA (s t : Sp) (d e d' e' : Nat → Int) :
    SaidP 27 s t d e d' e' (anV (fltE2 (chkE s d e) (chkE t d' e') s.bits t.bits) 0 ((loZ s d) + (loZ t d')) ((hiZ s e) + (hiZ t e')) s.bits) 600 (anV (fltE2 (chkE s d e) (chkE t d' e') s.bits t.bits) 0 ((loZ s d) + (loZ t d')) ((hiZ s e) + (hiZ t e')) ((loZ s d) + (loZ t d'))) (anV (fltE2 (chkE s d e) (chkE t d' e') s.bits t.bits) 0 ((loZ s d) + (loZ t d')) ((hiZ s e) + (hiZ t e')) ((hiZ s e) + (hiZ t e'))) (anE (fltE2 (chkE s d e) (chkE t d' e') s.bits t.bits) 0 ((loZ s d) + (loZ t d')) ((hiZ s e) + (hiZ t e'))) := by
  by_cases hE : (fltE2 (chkE s d e) (chkE t d' e') s.bits t.bits) = 0
  · obtain ⟨a1, a2⟩ := an_fit (L := (loZ s d) + (loZ t d')) (H := (hiZ s e) + (hiZ t e'))
    rw [hE, a1, a2, a2, a2]
    exact saidAdd s t d e d' e' hE _ _ _ _ rfl rfl rfl rfl
  · obtain ⟨a1, a2⟩ := an_bad (g := 0) (L := (loZ s d) + (loZ t d')) (H := (hiZ s e) + (hiZ t e')) hE
    rw [a1, a2, a2, a2]
    exact fun W hs ht => spanAdd_bad W s t d e d' e' hs ht hE 600

theorem saidSubA (s t : Sp) (d e d' e' : Nat → Int) :
    SaidP 28 s t d e d' e' (anV (fltE2 (chkE s d e) (chkE t d' e') s.bits t.bits) 0 ((loZ s d) - (hiZ t e')) ((hiZ s e) - (loZ t d')) s.bits) 600 (anV (fltE2 (chkE s d e) (chkE t d' e') s.bits t.bits) 0 ((loZ s d) - (hiZ t e')) ((hiZ s e) - (loZ t d')) ((loZ s d) - (hiZ t e'))) (anV (fltE2 (chkE s d e) (chkE t d' e') s.bits t.bits) 0 ((loZ s d) - (hiZ t e')) ((hiZ s e) - (loZ t d')) ((hiZ s e) - (loZ t d'))) (anE (fltE2 (chkE s d e) (chkE t d' e') s.bits t.bits) 0 ((loZ s d) - (hiZ t e')) ((hiZ s e) - (loZ t d'))) := by
  by_cases hE : (fltE2 (chkE s d e) (chkE t d' e') s.bits t.bits) = 0
  · obtain ⟨a1, a2⟩ := an_fit (L := (loZ s d) - (hiZ t e')) (H := (hiZ s e) - (loZ t d'))
    rw [hE, a1, a2, a2, a2]
    exact saidSub s t d e d' e' hE _ _ _ _ rfl rfl rfl rfl
  · obtain ⟨a1, a2⟩ := an_bad (g := 0) (L := (loZ s d) - (hiZ t e')) (H := (hiZ s e) - (loZ t d')) hE
    rw [a1, a2, a2, a2]
    exact fun W hs ht => spanSub_bad W s t d e d' e' hs ht hE 600

theorem saidMulA (s t : Sp) (d e d' e' : Nat → Int) :
    SaidP 29 s t d e d' e' (anV (fltE2 (chkE s d e) (chkE t d' e') s.bits t.bits) 0 (downZ (leastZ (pr4 ((loZ s d) * (loZ t d')) ((loZ s d) * (hiZ t e')) ((hiZ s e) * (loZ t d')) ((hiZ s e) * (hiZ t e'))) 3) s.bits) (-(downZ (-(mostZ (pr4 ((loZ s d) * (loZ t d')) ((loZ s d) * (hiZ t e')) ((hiZ s e) * (loZ t d')) ((hiZ s e) * (hiZ t e'))) 3)) s.bits)) s.bits) 600 (anV (fltE2 (chkE s d e) (chkE t d' e') s.bits t.bits) 0 (downZ (leastZ (pr4 ((loZ s d) * (loZ t d')) ((loZ s d) * (hiZ t e')) ((hiZ s e) * (loZ t d')) ((hiZ s e) * (hiZ t e'))) 3) s.bits) (-(downZ (-(mostZ (pr4 ((loZ s d) * (loZ t d')) ((loZ s d) * (hiZ t e')) ((hiZ s e) * (loZ t d')) ((hiZ s e) * (hiZ t e'))) 3)) s.bits)) (downZ (leastZ (pr4 ((loZ s d) * (loZ t d')) ((loZ s d) * (hiZ t e')) ((hiZ s e) * (loZ t d')) ((hiZ s e) * (hiZ t e'))) 3) s.bits)) (anV (fltE2 (chkE s d e) (chkE t d' e') s.bits t.bits) 0 (downZ (leastZ (pr4 ((loZ s d) * (loZ t d')) ((loZ s d) * (hiZ t e')) ((hiZ s e) * (loZ t d')) ((hiZ s e) * (hiZ t e'))) 3) s.bits) (-(downZ (-(mostZ (pr4 ((loZ s d) * (loZ t d')) ((loZ s d) * (hiZ t e')) ((hiZ s e) * (loZ t d')) ((hiZ s e) * (hiZ t e'))) 3)) s.bits)) (-(downZ (-(mostZ (pr4 ((loZ s d) * (loZ t d')) ((loZ s d) * (hiZ t e')) ((hiZ s e) * (loZ t d')) ((hiZ s e) * (hiZ t e'))) 3)) s.bits))) (anE (fltE2 (chkE s d e) (chkE t d' e') s.bits t.bits) 0 (downZ (leastZ (pr4 ((loZ s d) * (loZ t d')) ((loZ s d) * (hiZ t e')) ((hiZ s e) * (loZ t d')) ((hiZ s e) * (hiZ t e'))) 3) s.bits) (-(downZ (-(mostZ (pr4 ((loZ s d) * (loZ t d')) ((loZ s d) * (hiZ t e')) ((hiZ s e) * (loZ t d')) ((hiZ s e) * (hiZ t e'))) 3)) s.bits))) := by
  by_cases hE : (fltE2 (chkE s d e) (chkE t d' e') s.bits t.bits) = 0
  · obtain ⟨a1, a2⟩ := an_fit (L := downZ (leastZ (pr4 ((loZ s d) * (loZ t d')) ((loZ s d) * (hiZ t e')) ((hiZ s e) * (loZ t d')) ((hiZ s e) * (hiZ t e'))) 3) s.bits) (H := -(downZ (-(mostZ (pr4 ((loZ s d) * (loZ t d')) ((loZ s d) * (hiZ t e')) ((hiZ s e) * (loZ t d')) ((hiZ s e) * (hiZ t e'))) 3)) s.bits))
    rw [hE, a1, a2, a2, a2]
    exact saidMul s t d e d' e' hE _ _ _ _ rfl rfl rfl rfl
  · obtain ⟨a1, a2⟩ := an_bad (g := 0) (L := downZ (leastZ (pr4 ((loZ s d) * (loZ t d')) ((loZ s d) * (hiZ t e')) ((hiZ s e) * (loZ t d')) ((hiZ s e) * (hiZ t e'))) 3) s.bits) (H := -(downZ (-(mostZ (pr4 ((loZ s d) * (loZ t d')) ((loZ s d) * (hiZ t e')) ((hiZ s e) * (loZ t d')) ((hiZ s e) * (hiZ t e'))) 3)) s.bits)) hE
    rw [a1, a2, a2, a2]
    exact fun W hs ht => spanMul_bad W s t d e d' e' hs ht hE 600

theorem an_ok {E g L H : Int} (h : anE E g L H = 0) : E = 0 ∧ g = 0 ∧ ¬ bigs L H ∧ ∀ x, anV E g L H x = x := by
  by_cases h1 : E = 0
  · subst h1
    by_cases h2 : g = 0
    · subst h2
      obtain ⟨a1, a2⟩ := an_fit (L := L) (H := H)
      rw [a1] at h
      rcases fit_cases L H with ⟨_, f2, _⟩ | ⟨f1, _, f3⟩
      · omega
      · exact ⟨rfl, rfl, f1, fun x => by rw [a2, f3]⟩
    · rw [(an_own h2).1] at h; exact absurd h h2
  · rw [(an_bad h1).1] at h; exact absurd h h1

theorem mul_between {x p q y : Int} (h1 : p ≤ x) (h2 : x ≤ q) : (p * y ≤ x * y ∧ x * y ≤ q * y) ∨ (q * y ≤ x * y ∧ x * y ≤ p * y) := by
  rcases Int.le_total 0 y with hy | hy
  · exact Or.inl ⟨Int.mul_le_mul_of_nonneg_right h1 hy, Int.mul_le_mul_of_nonneg_right h2 hy⟩
  · exact Or.inr ⟨Int.mul_le_mul_of_nonpos_right h2 hy, Int.mul_le_mul_of_nonpos_right h1 hy⟩
theorem leastq (a b c d : Int) : leastZ (pr4 a b c d) 3 ≤ a ∧ leastZ (pr4 a b c d) 3 ≤ b ∧ leastZ (pr4 a b c d) 3 ≤ c ∧ leastZ (pr4 a b c d) 3 ≤ d := by
  simp only [leastZ, pr4]; simp
  refine ⟨?_, ?_, ?_, ?_⟩ <;> (split <;> split <;> split <;> omega)
theorem mostq (a b c d : Int) : a ≤ mostZ (pr4 a b c d) 3 ∧ b ≤ mostZ (pr4 a b c d) 3 ∧ c ≤ mostZ (pr4 a b c d) 3 ∧ d ≤ mostZ (pr4 a b c d) 3 := by
  simp only [mostZ, pr4]; simp
  refine ⟨?_, ?_, ?_, ?_⟩ <;> (split <;> split <;> split <;> omega)
theorem le_least4 {a b c d x : Int} (h1 : x ≤ a) (h2 : x ≤ b) (h3 : x ≤ c) (h4 : x ≤ d) : x ≤ leastZ (pr4 a b c d) 3 := by
  simp only [leastZ, pr4]; simp
  split <;> split <;> split <;> omega
theorem most4_le {a b c d x : Int} (h1 : a ≤ x) (h2 : b ≤ x) (h3 : c ≤ x) (h4 : d ≤ x) : mostZ (pr4 a b c d) 3 ≤ x := by
  simp only [mostZ, pr4]; simp
  split <;> split <;> split <;> omega
/-- What is between the ends of two, times each other, is between the least and the most of the four. -/
theorem mul_in {p q r u x y : Int} (h1 : p ≤ x) (h2 : x ≤ q) (h3 : r ≤ y) (h4 : y ≤ u) : leastZ (pr4 (p * r) (p * u) (q * r) (q * u)) 3 ≤ x * y ∧ x * y ≤ mostZ (pr4 (p * r) (p * u) (q * r) (q * u)) 3 := by
  obtain ⟨l1, l2, l3, l4⟩ := leastq (p * r) (p * u) (q * r) (q * u)
  obtain ⟨m1, m2, m3, m4⟩ := mostq (p * r) (p * u) (q * r) (q * u)
  have a := mul_between (y := y) h1 h2
  have b := mul_between (y := p) h3 h4
  have c := mul_between (y := q) h3 h4
  rw [Int.mul_comm r p, Int.mul_comm y p, Int.mul_comm u p] at b
  rw [Int.mul_comm r q, Int.mul_comm y q, Int.mul_comm u q] at c
  omega
theorem mul_grows {p q p' q' r u : Int} (h1 : p ≤ p') (h2 : p' ≤ q') (h3 : q' ≤ q) (h4 : r ≤ u) :
    leastZ (pr4 (p * r) (p * u) (q * r) (q * u)) 3 ≤ leastZ (pr4 (p' * r) (p' * u) (q' * r) (q' * u)) 3 ∧ mostZ (pr4 (p' * r) (p' * u) (q' * r) (q' * u)) 3 ≤ mostZ (pr4 (p * r) (p * u) (q * r) (q * u)) 3 := by
  obtain ⟨a1, a2⟩ := mul_in (p := p) (q := q) (r := r) (u := u) (x := p') (y := r) h1 (by omega) (by omega) h4
  obtain ⟨b1, b2⟩ := mul_in (p := p) (q := q) (r := r) (u := u) (x := p') (y := u) h1 (by omega) h4 (by omega)
  obtain ⟨c1, c2⟩ := mul_in (p := p) (q := q) (r := r) (u := u) (x := q') (y := r) (by omega) h3 (by omega) h4
  obtain ⟨d1, d2⟩ := mul_in (p := p) (q := q) (r := r) (u := u) (x := q') (y := u) (by omega) h3 h4 (by omega)
  exact ⟨le_least4 a1 b1 c1 d1, most4_le a2 b2 c2 d2⟩
theorem ovLo_grows {l l' h h' p q : Int} (hl : l ≤ l') (hp : 0 < p) (hpq : p ≤ q) : ovLo l h p q ≤ ovLo l' h' p q := by
  unfold ovLo
  have m1 : l / p ≤ l' / p := Int.ediv_le_ediv hp hl
  have m2 : l / q ≤ l' / q := Int.ediv_le_ediv (by omega) hl
  have d2 : l ≤ 0 → l / p ≤ l / q := div_le_div_neg hp hpq
  split <;> split <;> omega
theorem ovHi_grows {l l' h h' p q : Int} (hl : h ≤ h') (hp : 0 < p) (hpq : p ≤ q) : ovHi l h p q ≤ ovHi l' h' p q := by
  unfold ovHi
  have m1 : -h' / p ≤ -h / p := Int.ediv_le_ediv hp (by omega)
  have m2 : -h' / q ≤ -h / q := Int.ediv_le_ediv (by omega) (by omega)
  have d2 : 0 ≤ -h → -h / q ≤ -h / p := div_le_div_pos hp hpq
  have d3 : -h' ≤ 0 → -h' / p ≤ -h' / q := div_le_div_neg hp hpq
  split <;> split <;> omega
theorem dv_grows {lo hi lo2 hi2 lo' hi' : Int} {b : Nat} (h1 : lo ≤ lo2) (h2 : hi2 ≤ hi) (hp : ¬ (lo' ≤ 0 ∧ 0 ≤ hi')) (hp2 : lo' ≤ hi') :
    dvLo lo hi lo' hi' b ≤ dvLo lo2 hi2 lo' hi' b ∧ dvHi lo2 hi2 lo' hi' b ≤ dvHi lo hi lo' hi' b := by
  have hq := Q_pos b
  unfold dvLo dvHi
  by_cases h : hi' < 0
  · rw [if_pos h, if_pos h, if_pos h, if_pos h]
    exact ⟨ovLo_grows (Int.mul_le_mul_of_nonneg_right (by omega) (by omega)) (by omega) (by omega), ovHi_grows (Int.mul_le_mul_of_nonneg_right (by omega) (by omega)) (by omega) (by omega)⟩
  · rw [if_neg h, if_neg h, if_neg h, if_neg h]
    exact ⟨ovLo_grows (Int.mul_le_mul_of_nonneg_right h1 (by omega)) (by omega) (by omega), ovHi_grows (Int.mul_le_mul_of_nonneg_right h2 (by omega)) (by omega) (by omega)⟩

set_option maxRecDepth 100000 in
set_option maxHeartbeats 2000000 in
theorem grows1 (w : World) (u v : Sp) (e f lo hi lo2 hi2 : Int) (hu : SpAt w u 600 lo hi) (hv : SpAt w v 600 lo2 hi2) (h : e = 0 → f = 0 → lo2 ≤ lo ∧ hi ≤ hi2) :
    Calls Try.prog 53 #[.agg #[.bool u.ln, .slice u.la u.lN u.lc, .bool u.hn, .slice u.ha u.hN u.hc, .int .i64 u.bits], .agg #[.bool v.ln, .slice v.la v.lN v.lc, .bool v.hn, .slice v.ha v.hN v.hc, .int .i64 v.bits], .int .i64 e, .int .i64 f] w fun r w' => r = .returned (.bool true) ∧ Below w.heap.size w w' := by
  by_cases he : e = 0
  · by_cases hf : f = 0
    · obtain ⟨h1, h2⟩ := h he hf
      subst he hf
      have t1 : cmpInt lo2 lo ≤ 0 := by unfold cmpInt; split <;> (try split) <;> omega
      have t2 : cmpInt hi hi2 ≤ 0 := by unfold cmpInt; split <;> (try split) <;> omega
      clear h h1 h2
      obtain ⟨W, hW⟩ : ∃ W, W = (w.alloc (.cells #[.bool u.ln, .slice u.la u.lN u.lc, .bool u.hn, .slice u.ha u.hN u.hc, .int .i64 u.bits] 26)).alloc (.cells #[.bool v.ln, .slice v.la v.lN v.lc, .bool v.hn, .slice v.ha v.hN v.hc, .int .i64 v.bits] 26) := ⟨_, rfl⟩
      have hBW : Below w.heap.size w W := by rw [hW]; exact bl2 _ _ _
      have A : SpC W w.heap.size u := by rw [hW]; exact ⟨by simp [go_sem], by simp [go_sem], by simp [go_sem], by simp [go_sem], by simp [go_sem]⟩
      have G : SpC W (w.heap.size + 1) v := by rw [hW]; exact ⟨by simp [go_sem], by simp [go_sem], by simp [go_sem], by simp [go_sem], by simp [go_sem]⟩
      replace hu := hu.below hBW
      replace hv := hv.below hBW
      go_enter Try.func53, Try.ntmps53
      go_upto_region 1 with fail
      rw [← hW]
      clear hW
      have la := A.lt
      have lg := G.lt
      obtain ⟨x0, x1, x2, x3, x4⟩ := A
      obtain ⟨y0, y1, y2, y3, y4⟩ := G
      go_wp2_with fail
      refine (cmp_int _ _ _ _ _ _ _ _ 600 600 lo2 lo _ hv.lo hu.lo).mono ?_
      rintro r w1 ⟨rfl, hb1⟩
      have A := (SpC.mk x0 x1 x2 x3 x4).below hb1
      have G := (SpC.mk y0 y1 y2 y3 y4).below hb1
      replace hu := hu.below hb1
      replace hv := hv.below hb1
      replace hBW := bthen hBW hb1
      clear x0 x1 x2 x3 x4 y0 y1 y2 y3 y4 la lg hb1
      have la := A.lt
      have lg := G.lt
      obtain ⟨x0, x1, x2, x3, x4⟩ := A
      obtain ⟨y0, y1, y2, y3, y4⟩ := G
      go_wp2_with fail
      refine (cmp_int _ _ _ _ _ _ _ _ 600 600 hi hi2 _ hu.hi hv.hi).mono ?_
      rintro r w2 ⟨rfl, hb2⟩
      replace hBW := bthen hBW hb2
      go_wp2_with fail
      go_ret
      exact ⟨rfl, hBW⟩
    · have hf' : (f != 0) = true := by simpa using hf
      subst he
      clear h hf
      go_enter Try.func53, Try.ntmps53
      go_wp2_with fail
      go_ret
      exact ⟨rfl, bl2 _ _ _⟩
  · have he' : (e != 0) = true := by simpa using he
    clear h he
    go_enter Try.func53, Try.ntmps53
    go_wp2_with fail
    go_ret
    exact ⟨rfl, bl2 _ _ _⟩
end Go.Proofs.Ytgmnknmjainabaa

namespace Go.Proofs.Ytgmnknmjainabaa
set_option linter.unusedVariables false
set_option linter.unusedSimpArgs false
set_option linter.unnecessarySimpa false
open Go.RowKit
attribute [local go_sem ↓] Go.wp_at_zero Go.wp_at_succ

set_option maxRecDepth 100000 in
set_option maxHeartbeats 2000000 in
theorem choose_any (c : Int) (w : World) (h1 : -9223372036854775808 ≤ c) (h2 : c ≤ 9223372036854775807) :
    Calls Try.prog 65 #[.int .i64 c, .int .i64 1099511627776] w fun r w' => ∃ z : Int, r = .returned (.int .i64 z) ∧ 0 ≤ z ∧ z < 1099511627776 ∧ Below w.heap.size w w' := by
  by_cases hc : c < 0
  · have hv : -((c + 1).tmod 1099511627776) = (-(c + 1)) % 1099511627776 := by rw [← Int.neg_tmod, Int.tmod_eq_emod_of_nonneg (by omega)]
    have HV := hide (show 0 ≤ -((c + 1).tmod 1099511627776) ∧ -((c + 1).tmod 1099511627776) < 1099511627776 by rw [hv]; omega)
    clear hv
    go_enter Try.func65, Try.ntmps65
    go_wp2_with fail
    go_ret
    exact ⟨_, rfl, (unhide HV).1, (unhide HV).2, Below.refl _ _⟩
  · go_enter Try.func65, Try.ntmps65
    go_wp2_with fail
    go_ret
    exact ⟨_, rfl, by omega, by omega, Below.refl _ _⟩

set_option maxRecDepth 100000 in
set_option maxHeartbeats 2000000 in
theorem holds1 (w : World) (x y z : Nm) (k1 k2 k3 : Nat) (lo hi at' : Int) (hx : IntAt w x.neg x.a x.n x.cap k1 lo) (hy : IntAt w y.neg y.a y.n y.cap k2 hi) (hz : IntAt w z.neg z.a z.n z.cap k3 at') (h1 : lo ≤ at') (h2 : at' ≤ hi) :
    Calls Try.prog 48 #[.agg #[.bool x.neg, .slice x.a x.n x.cap], .agg #[.bool y.neg, .slice y.a y.n y.cap], .agg #[.bool z.neg, .slice z.a z.n z.cap]] w fun r w' => r = .returned (.bool true) ∧ Below w.heap.size w w' := by
  have t1 : cmpInt lo at' ≤ 0 := by unfold cmpInt; split <;> (try split) <;> omega
  have t2 : cmpInt at' hi ≤ 0 := by unfold cmpInt; split <;> (try split) <;> omega
  obtain ⟨W, hW⟩ : ∃ W, W = ((w.alloc (.cells #[.bool x.neg, .slice x.a x.n x.cap] 24)).alloc (.cells #[.bool y.neg, .slice y.a y.n y.cap] 24)).alloc (.cells #[.bool z.neg, .slice z.a z.n z.cap] 24) := ⟨_, rfl⟩
  have hBW : Below w.heap.size w W := by rw [hW]; exact bl3 _ _ _ _
  have X : NmC W w.heap.size x := by rw [hW]; exact ⟨by simp [go_sem], by simp [go_sem]⟩
  have Y : NmC W (w.heap.size + 1) y := by rw [hW]; exact ⟨by simp [go_sem], by simp [go_sem]⟩
  have Z : NmC W (w.heap.size + 1 + 1) z := by rw [hW]; exact ⟨by simp [go_sem], by simp [go_sem]⟩
  replace hx := hx.below hBW
  replace hy := hy.below hBW
  replace hz := hz.below hBW
  clear h1 h2
  go_enter Try.func48, Try.ntmps48
  go_upto_region 1 with fail
  rw [← hW]
  clear hW
  have lx := X.lt
  have lz := Z.lt
  obtain ⟨x0, x1⟩ := X
  obtain ⟨z0, z1⟩ := Z
  go_wp2_with fail
  refine (cmp_int _ _ _ _ _ _ _ _ k1 k3 lo at' _ hx hz).mono ?_
  rintro r w1 ⟨rfl, hb1⟩
  have Z := (NmC.mk z0 z1).below hb1
  replace Y := Y.below hb1
  replace hy := hy.below hb1
  replace hz := hz.below hb1
  replace hBW := bthen hBW hb1
  clear hb1 x0 x1 z0 z1 lx lz
  have ly := Y.lt
  have lz := Z.lt
  obtain ⟨y0, y1⟩ := Y
  obtain ⟨z0, z1⟩ := Z
  go_wp2_with fail
  refine (cmp_int _ _ _ _ _ _ _ _ k3 k2 at' hi _ hz hy).mono ?_
  rintro r w2 ⟨rfl, hb2⟩
  replace hBW := bthen hBW hb2
  go_wp2_with fail
  go_ret
  exact ⟨rfl, hBW⟩

theorem at_in {a wd : Int} (h0 : 0 ≤ a) (hw : 0 < wd) : 0 ≤ a - a / wd * wd ∧ a - a / wd * wd < wd := by
  have h1 := Int.emod_nonneg a (show wd ≠ 0 by omega)
  have h2 := Int.emod_lt_of_pos a hw
  have h3 := Int.mul_ediv_add_emod a wd
  rw [Int.mul_comm] at h3
  omega
/-- What stands of tailsurelaw.point behind its two variables. -/
structure PTs (w wr : World) (s : Sp) (k kY B5 B6 : Nat) (x y : Nm) (lo hi wd a : Int) : Prop where
  A : SpC wr w.heap.size s
  R : NoI wr (w.heap.size + 1)
  X : NmC wr B5 x
  Y : NmC wr B6 y
  hs : SpAt wr s k lo hi
  ix : IntAt wr x.neg x.a x.n x.cap (k + 6) wd
  iy : IntAt wr y.neg y.a y.n y.cap kY a
  fY : ∀ o, wr.frozen? ⟨B6, o, none⟩ = false
  hB : Below w.heap.size w wr
theorem PTs.below {w wr w' : World} {s : Sp} {k kY B5 B6 : Nat} {x y : Nm} {lo hi wd a : Int} (D : PTs w wr s k kY B5 B6 x y lo hi wd a) (hb : Below wr.heap.size wr w') : PTs w w' s k kY B5 B6 x y lo hi wd a :=
  ⟨D.A.below hb, D.R.below hb, D.X.below hb, D.Y.below hb, D.hs.below hb, D.ix.below hb, D.iy.below hb, fun o => (hb.frozen (p := ⟨B6, o, none⟩) D.Y.lt).trans (D.fY o), bthen D.hB hb⟩
theorem PTs.set {w wr : World} {s : Sp} {k kY B5 B6 : Nat} {x y : Nm} {lo hi wd a : Int} (D : PTs w wr s k kY B5 B6 x y lo hi wd a) (hd : w.heap.size + 1 < B5 ∧ B5 < B6) (z : Nm) {b : Int} {kZ : Nat} (hz : IntAt wr z.neg z.a z.n z.cap kZ b) :
    PTs w ((wr.setCell ⟨B6, 0, none⟩ (.bool z.neg)).setCell ⟨B6, 1, none⟩ (.slice z.a z.n z.cap)) s k kZ B5 B6 x z lo hi wd b := by
  have c0 := D.Y.c0
  have c1 := D.Y.c1
  exact ⟨D.A.put2 (by omega) _ _, D.R.put2 (by omega) _ _, D.X.put2 (by omega) _ _, nm_put D.Y z, D.hs.put2 c0 c1 _ _, D.ix.put2 c0 c1 _ _, hz.put2 c0 c1 _ _, put_fz D.fY _ _, set2 D.hB (by omega) _ _⟩

set_option maxRecDepth 100000 in
set_option maxHeartbeats 16000000 in
theorem point_any (w : World) (s : Sp) (n : Int) (k : Nat) (lo hi : Int) (hs : SpAt w s k lo hi) (hk : k ≤ 1000) (hl : lo ≤ hi) (h1 : -9223372036854775808 ≤ n) (h2 : n ≤ 9223372036854775807) :
    Calls Try.prog 47 #[.agg #[.bool s.ln, .slice s.la s.lN s.lc, .bool s.hn, .slice s.ha s.hN s.hc, .int .i64 s.bits], .int .i64 n] w fun r w' => ∃ z, lo ≤ z ∧ z ≤ hi ∧ IntAns w (2 * k + 60) z r w' := by
  obtain ⟨W, hW⟩ : ∃ W, W = (w.alloc (.cells #[.bool s.ln, .slice s.la s.lN s.lc, .bool s.hn, .slice s.ha s.hN s.hc, .int .i64 s.bits] 26)).alloc (.cells #[.bool false, .slice none 0 0] 24) := ⟨_, rfl⟩
  have hBW : Below w.heap.size w W := by rw [hW]; exact bl2 _ _ _
  have hz0 : W.heap.size = w.heap.size + 1 + 1 := by rw [hW]; simp
  have A : SpC W w.heap.size s := by rw [hW]; exact ⟨by simp [go_sem], by simp [go_sem], by simp [go_sem], by simp [go_sem], by simp [go_sem]⟩
  have R : NoI W (w.heap.size + 1) := by rw [hW]; exact ⟨by simp [go_sem], by simp [go_sem], fun o => by simp [go_sem]⟩
  replace hs := hs.below hBW
  go_enter Try.func47, Try.ntmps47
  go_upto_region 1 with fail
  rw [← hW]
  clear hW
  have lA := A.lt
  obtain ⟨x0, x1, x2, x3, x4⟩ := A
  go_wp2_with fail
  refine (sub_int _ _ _ _ _ _ _ _ k k hi lo _ hs.hi hs.lo (by omega) (by omega)).mono ?_
  rintro r w1 ⟨neg1, a1, n1, c1, rfl, hint1, hb1⟩
  have A := (SpC.mk x0 x1 x2 x3 x4).below hb1
  replace R := R.below hb1
  replace hs := hs.below hb1
  replace hBW := bthen hBW hb1
  have hz1 := hb1.size
  clear hb1 x0 x1 x2 x3 x4 lA
  go_wp2_with fail
  refine (numOf_int 1 _ (by decide) (by decide)).mono ?_
  rintro r w2 ⟨neg2, a2, n2, c2, rfl, hint2, hb2⟩
  replace A := A.below hb2
  replace R := R.below hb2
  replace hs := hs.below hb2
  replace hint1 := hint1.below hb2
  replace hBW := bthen hBW hb2
  have hz2 := hb2.size
  clear hb2
  go_wp2_with fail
  refine (add_int _ _ _ _ _ _ _ _ _ 4 (hi - lo) 1 _ hint1 hint2 (by omega) (by omega)).mono ?_
  rintro r w3 ⟨neg3, a3, n3, c3, rfl, hint3, hb3⟩
  replace A := A.below hb3
  replace R := R.below hb3
  replace hs := hs.below hb3
  replace hBW := bthen hBW hb3
  have hz3 := hb3.size
  clear hb3 hint1 hint2
  obtain ⟨W3, hW3⟩ : ∃ W', W' = w3.alloc (.cells #[.bool neg3, .slice a3 n3 c3] 24) := ⟨_, rfl⟩
  have hc3 : Below w3.heap.size w3 W3 := by rw [hW3]; exact bl1 _ _
  have X : NmC W3 w3.heap.size ⟨neg3, a3, n3, c3⟩ := by rw [hW3]; exact nmc_new w3 ⟨neg3, a3, n3, c3⟩ _
  have hw3 : W3.heap.size = w3.heap.size + 1 := by rw [hW3]; simp
  go_upto_region 2 with fail
  rw [← hW3]
  clear hW3
  replace A := A.below hc3
  replace R := R.below hc3
  replace hs := hs.below hc3
  replace hint3 := hint3.below hc3
  replace hBW := bthen hBW hc3
  clear hc3
  go_wp2_with fail
  refine (choose_any n _ h1 h2).mono ?_
  rintro r w4 ⟨ch, rfl, hch0, hch1, hb4⟩
  replace A := A.below hb4
  replace R := R.below hb4
  replace X := X.below hb4
  replace hs := hs.below hb4
  replace hint3 := hint3.below hb4
  replace hBW := bthen hBW hb4
  have hz4 := hb4.size
  clear hb4
  go_wp2_with fail
  refine (numOf_int ch _ (by omega) (by omega)).mono ?_
  rintro r w5 ⟨neg5, a5, n5, c5, rfl, hint5, hb5⟩
  replace A := A.below hb5
  replace R := R.below hb5
  replace X := X.below hb5
  replace hs := hs.below hb5
  replace hint3 := hint3.below hb5
  replace hBW := bthen hBW hb5
  have hz5 := hb5.size
  clear hb5
  obtain ⟨W5, hW5⟩ : ∃ W', W' = w5.alloc (.cells #[.bool neg5, .slice a5 n5 c5] 24) := ⟨_, rfl⟩
  have hc5 : Below w5.heap.size w5 W5 := by rw [hW5]; exact bl1 _ _
  have Y : NmC W5 w5.heap.size ⟨neg5, a5, n5, c5⟩ := by rw [hW5]; exact nmc_new w5 ⟨neg5, a5, n5, c5⟩ _
  have fY : ∀ o, W5.frozen? ⟨w5.heap.size, o, none⟩ = false := by intro o; rw [hW5]; simp [go_sem]
  go_upto_region 3 with fail
  rw [← hW5]
  clear hW5
  have D : PTs w W5 s k 4 w3.heap.size w5.heap.size ⟨neg3, a3, n3, c3⟩ ⟨neg5, a5, n5, c5⟩ lo hi (hi - lo + 1) ch := ⟨A.below hc5, R.below hc5, X.below hc5, Y, hs.below hc5, (hint3.below hc5).mono (by omega), hint5.below hc5, fY, bthen hBW hc5⟩
  have XD : w.heap.size + 1 < w3.heap.size ∧ w3.heap.size < w5.heap.size := by omega
  clear A R X Y hs hint3 hint5 fY hBW hc5 hz0 hz1 hz2 hz3 hz4 hz5 hw3 h1 h2
  obtain ⟨B5, hB5⟩ : ∃ B, B = w3.heap.size := ⟨_, rfl⟩
  obtain ⟨B6, hB6⟩ : ∃ B, B = w5.heap.size := ⟨_, rfl⟩
  rw [← hB5, ← hB6] at D XD
  rw [← hB5, ← hB6]
  clear hB5 hB6
  have HD := hide D
  have HAT := hide (at_in hch0 (show 0 < hi - lo + 1 by omega))
  have hwp := hide (show 0 < hi - lo + 1 by omega)
  have lX := D.X.lt
  have lY := D.Y.lt
  have lA := D.A.lt
  have fY := D.fY
  obtain ⟨i0, i1⟩ := D.X
  obtain ⟨i2, i3⟩ := D.Y
  obtain ⟨x0, x1, x2, x3, x4⟩ := D.A
  go_cut [23] (fun _ wx => ∃ z : Nm, PTs w wx s k (2 * k + 40) B5 B6 ⟨neg3, a3, n3, c3⟩ z lo hi (hi - lo + 1) (ch - ch / (hi - lo + 1) * (hi - lo + 1)))
  case first =>
    go_region_with
      (first
        | (go_at_call 50; refine (sub_int _ _ _ _ _ _ _ _ 4 _ ch (ch / (hi - lo + 1) * (hi - lo + 1)) _ ((unhide HD).iy.below hE2) hintB (by omega) (by omega)).mono ?_; rintro r wC ⟨negC, aC, nC, cC, rfl, hintC, hbC⟩; have hE3 := bthen hE2 hbC; have D9 := (unhide HD).below hE3; have lXc := D9.X.lt; have lYc := D9.Y.lt; have fYc := D9.fY; obtain ⟨i0c, i1c⟩ := D9.X; obtain ⟨i2c, i3c⟩ := D9.Y)
        | (go_at_call 52; refine (mul_int _ _ _ _ _ _ _ _ _ (k + 6) (ch / (hi - lo + 1)) (hi - lo + 1) _ hintA ((unhide HD).ix.below hE1) (by omega) (by omega)).mono ?_; rintro r wB ⟨negB, aB, nB, cB, rfl, hintB, hbB⟩; have hE2 := bthen hE1 hbB; have D9 := (unhide HD).below hE2; have lXb := D9.X.lt; have lYb := D9.Y.lt; have fYb := D9.fY; obtain ⟨i0b, i1b⟩ := D9.X; obtain ⟨i2b, i3b⟩ := D9.Y)
        | (go_at_call 103; refine (floor_any _ _ _ _ _ _ _ _ 4 (k + 6) ch (hi - lo + 1) _ ((unhide HD).iy.below (by first | with_reducible exact (Below.refl _ _).drew | with_reducible exact Below.refl _ _)) ((unhide HD).ix.below (by first | with_reducible exact (Below.refl _ _).drew | with_reducible exact Below.refl _ _)) (by omega) (unhide hwp)).mono ?_; rintro r wA ⟨negA, aA, nA, cA, rfl, hintA, hbA⟩; have hE1 : Below W5.heap.size W5 wA := (by first | with_reducible exact bthen (Below.refl _ _).drew hbA | with_reducible exact hbA); have D9 := (unhide HD).below hE1; have lXa := D9.X.lt; have lYa := D9.Y.lt; have fYa := D9.fY; obtain ⟨i0a, i1a⟩ := D9.X; obtain ⟨i2a, i3a⟩ := D9.Y))
    all_goals
      go_wp2_with fail
      go_meet
      exact ⟨⟨negC, aC, nC, cC⟩, D9.set XD ⟨negC, aC, nC, cC⟩ (hintC.mono (by omega))⟩
  case rest =>
  obtain ⟨z, D⟩ := hcut
  clear HD i0 i1 i2 i3 x0 x1 x2 x3 x4 lX lY lA fY
  have lX := D.X.lt
  have lY := D.Y.lt
  have lA := D.A.lt
  have fY := D.fY
  obtain ⟨i0, i1⟩ := D.X
  obtain ⟨i2, i3⟩ := D.Y
  obtain ⟨x0, x1, x2, x3, x4⟩ := D.A
  go_wp2_with fail
  refine (add_int _ _ _ _ _ _ _ _ k (2 * k + 40) lo (ch - ch / (hi - lo + 1) * (hi - lo + 1)) _ D.hs.lo D.iy (by omega) (by omega)).mono ?_
  rintro r wE ⟨negE, aE, nE, cE, rfl, hintE, hbE⟩
  have R := D.R.below hbE
  have hB := bthen D.hB hbE
  have lR := R.lt
  obtain ⟨q0, q1, q2⟩ := R
  go_wp2_with fail
  obtain ⟨b1, b2⟩ := unhide HAT
  refine bodyPost_ret (v := .agg #[.bool negE, .slice aE nE cE]) (by simp [results, Try.results47, go_sem, lR, q0, q1]) rfl ⟨lo + (ch - ch / (hi - lo + 1) * (hi - lo + 1)), by omega, by omega, negE, aE, nE, cE, rfl, ?_, ?_⟩
  · exact (hintE.put2 q0 q1 _ _).mono (by omega)
  · exact set2 hB (Nat.le_succ _) _ _
end Go.Proofs.Ytgmnknmjainabaa
