/-
  What tailsureref.Turn answers, and that it leaves old memory alone.
  What law.Check and tailsureref.CheckLaw answer of whatever law, and that they leave old memory alone.
  What law.Check answers of whatever law, and that it leaves old memory alone.
  In how many ways a number comes (law.ways), and that it leaves old memory alone.
  What tailsureref.HasNought answers of right spans, and that it leaves old memory alone; ceil and wide.ceil of whatever numbers.
  What wide.Of answers of whatever numbers.
  How likely numbers up to a last one are, by law.count, and that it leaves old memory alone.
-/
import Derived.Test.YtgmnknmjainababGreatK07
namespace Go.Proofs.YtgmnknmjainababGreat
set_option linter.unusedVariables false
set_option linter.unusedSimpArgs false
set_option linter.unnecessarySimpa false
open Go.RowKit
attribute [local go_sem ↓] Go.wp_at_zero Go.wp_at_succ

set_option maxRecDepth 100000 in
set_option maxHeartbeats 2000000 in
theorem refTurn_int (w : World) (s : Sp) (k : Nat) (bt lo hi : Int) (hs : SpAt w s k lo hi) (hk : k ≤ 300000000) (hb0 : 0 ≤ s.bits) (hbm : s.bits ≤ 1000000) (hc0 : 0 ≤ bt) (hcm : bt ≤ 1000000) :
    Calls Tryz.prog 90 #[.agg #[.bool s.ln, .slice s.la s.lN s.lc, .bool s.hn, .slice s.ha s.hN s.hc, .int .i64 s.bits], .int .i64 bt] w (SpanAns w bt (k + 62505) (downZ lo (s.bits - bt)) (-(downZ (-hi) (s.bits - bt)))) := by
  by_cases hge : s.bits ≤ bt
  · obtain ⟨K, hK⟩ : ∃ K : Nat, bt - s.bits = K := ⟨(bt - s.bits).toNat, by omega⟩
    have e1 : ∀ x, downZ x (s.bits - bt) = x * Q K := by
      intro x; unfold downZ
      by_cases h0 : 0 ≤ s.bits - bt
      · have hz : s.bits - bt = 0 := by omega
        have hz2 : K = 0 := by omega
        rw [if_pos h0, hz, hz2]; simp [Q]
      · rw [if_neg h0, show (-(s.bits - bt)).toNat = K by omega]
    have HL := hide (e1 lo)
    have HH := hide (show -(downZ (-hi) (s.bits - bt)) = hi * Q K by rw [e1, Int.neg_mul, Int.neg_neg])
    clear e1
    have hK1 : K ≤ 1000000 := by omega
    rw [unhide HL, unhide HH]
    obtain ⟨W, hW⟩ : ∃ W, W = (w.alloc (.cells #[.bool s.ln, .slice s.la s.lN s.lc, .bool s.hn, .slice s.ha s.hN s.hc, .int .i64 s.bits] 36)).alloc (.cells #[.bool false, .slice none 0 0, .bool false, .slice none 0 0, .int .i64 0] 36) := ⟨_, rfl⟩
    have hBW : Below w.heap.size w W := by rw [hW]; exact bl2 _ _ _
    have A : SpC W w.heap.size s := by rw [hW]; exact ⟨by simp [go_sem], by simp [go_sem], by simp [go_sem], by simp [go_sem], by simp [go_sem]⟩
    have R : NoC W (w.heap.size + 1) := by rw [hW]; exact ⟨by simp [go_sem], by simp [go_sem], by simp [go_sem], by simp [go_sem], by simp [go_sem], fun o => by simp [go_sem]⟩
    have HS := hide (hs.below hBW)
    have lA := A.lt
    have lR := R.lt
    have hB0 : Below W.heap.size W W.drew := (Below.refl _ _).drew
    have HK := hide (show ∀ w', Below W.heap.size W w' → (w'.cell? ⟨w.heap.size, 0, none⟩ = some (.bool s.ln) ∧ w'.cell? ⟨w.heap.size, 1, none⟩ = some (.slice s.la s.lN s.lc) ∧ w'.cell? ⟨w.heap.size, 2, none⟩ = some (.bool s.hn) ∧ w'.cell? ⟨w.heap.size, 3, none⟩ = some (.slice s.ha s.hN s.hc)) from fun w' hB => by
      obtain ⟨x0, x1, x2, x3, x4⟩ := A.below hB
      exact ⟨x0, x1, x2, x3⟩)
    go_enter Tryz.func90, Tryz.ntmps90
    go_wp2_with fail
    rw [← hW]
    clear hW
    refine (power2_int K _ (by omega)).mono ?_
    rintro r w1 ⟨neg1, a1, n1, c1, rfl, hint1, hb1⟩
    obtain ⟨W1, hW1⟩ : ∃ W', W' = w1.alloc (.cells #[.bool neg1, .slice a1 n1 c1] 26) := ⟨_, rfl⟩
    have hc1 : Below w1.heap.size w1 W1 := by rw [hW1]; exact bl1 _ _
    have X : NmC W1 w1.heap.size ⟨neg1, a1, n1, c1⟩ := by rw [hW1]; exact nmc_new w1 ⟨neg1, a1, n1, c1⟩ _
    have nR : w1.heap.size ≠ w.heap.size + 1 := Nat.ne_of_gt (R.below hb1).lt
    have nR' : w.heap.size + 1 ≠ w1.heap.size := fun e => nR e.symm
    have hB1 := bthen hb1 hc1
    have R1 := R.below hB1
    have A1 := A.below hB1
    have lA1 := A1.lt
    have lR1 := R1.lt
    have lX := X.lt
    replace hint1 := hide (hint1.below hc1)
    replace HS := hide ((unhide HS).below hB1)
    have hD0 : Below W1.heap.size W1 W1.drew := (Below.refl _ _).drew
    have HK1 := hide (show ∀ w', Below W1.heap.size W1 w' → (w'.cell? ⟨w.heap.size, 0, none⟩ = some (.bool s.ln) ∧ w'.cell? ⟨w.heap.size, 1, none⟩ = some (.slice s.la s.lN s.lc) ∧ w'.cell? ⟨w.heap.size, 2, none⟩ = some (.bool s.hn) ∧ w'.cell? ⟨w.heap.size, 3, none⟩ = some (.slice s.ha s.hN s.hc) ∧ w'.cell? ⟨w1.heap.size, 0, none⟩ = some (.bool neg1) ∧ w'.cell? ⟨w1.heap.size, 1, none⟩ = some (.slice a1 n1 c1)) from fun w' hB => by
      obtain ⟨x0, x1, x2, x3, x4⟩ := A1.below hB
      exact ⟨x0, x1, x2, x3, (X.below hB).c0, (X.below hB).c1⟩)
    clear HK hB0
    go_wp2
    rw [← hW1]
    clear hW1
    obtain ⟨i0, i1, i2, i3, i4, i5⟩ := unhide HK1 _ (Below.refl _ _)
    go_region_held3 (fun w' => w'.cell? ⟨w.heap.size, 0, none⟩ = some (.bool s.ln) ∧ w'.cell? ⟨w.heap.size, 1, none⟩ = some (.slice s.la s.lN s.lc) ∧ w'.cell? ⟨w.heap.size, 2, none⟩ = some (.bool s.hn) ∧ w'.cell? ⟨w.heap.size, 3, none⟩ = some (.slice s.ha s.hN s.hc) ∧ w'.cell? ⟨w1.heap.size, 0, none⟩ = some (.bool neg1) ∧ w'.cell? ⟨w1.heap.size, 1, none⟩ = some (.slice a1 n1 c1)) (first | exact unhide HK1 _ (by first | with_reducible exact hD0 | with_reducible exact hD3 | with_reducible exact hD2) | go_keep)
      (first
        | (go_at_call 66; have hq := hD2; refine (mul_int _ _ _ _ _ _ _ _ k (K / 16 + 5) hi (Q K) _ ((unhide HS).hi.below hD2) ((unhide hint1).below hD2) (by omega) (by omega)).mono ?_; rintro r w3 ⟨neg3, a3, n3, c3, rfl, hint3, hb3⟩; replace hint2 := hint2.below hb3; have hD3 := bthen hD2 hb3; obtain ⟨q0, q1, q2, q3, q4, q5⟩ := R1.below hD3; obtain ⟨d0, d1, d2, d3, d4, d5⟩ := unhide HK1 _ hD3)
        | (go_at_call 66; refine (mul_int _ _ _ _ _ _ _ _ k (K / 16 + 5) lo (Q K) _ ((unhide HS).lo.below hD0) ((unhide hint1).below hD0) (by omega) (by omega)).mono ?_; rintro r w2 ⟨neg2, a2, n2, c2, rfl, hint2, hb2⟩; have hD2 := bthen hD0 hb2))
    clear i0 i1 i2 i3 i4 i5
    go_wp2
    refine bodyPost_ret (v := .agg #[.bool neg2, .slice a2 n2 c2, .bool neg3, .slice a3 n3 c3, .int .i64 bt]) (by simp [results, Tryz.results90, go_sem, q0, q1, q2, q3, q4]) rfl ⟨⟨neg2, a2, n2, c2, neg3, a3, n3, c3, bt⟩, rfl, rfl, ?_, ?_⟩
    · exact SpAt.put5 ⟨hint2.mono (by omega), hint3.mono (by omega)⟩ q0 q1 q2 q3 q4 _ _ _ _ _
    · exact set5 (bthen (bthen hBW hB1) hD3) (Nat.le_succ _) _ _ _ _ _
  · have e0 : ¬ bt ≥ s.bits := hge
    obtain ⟨W, hW⟩ : ∃ W, W = (w.alloc (.cells #[.bool s.ln, .slice s.la s.lN s.lc, .bool s.hn, .slice s.ha s.hN s.hc, .int .i64 s.bits] 36)).alloc (.cells #[.bool false, .slice none 0 0, .bool false, .slice none 0 0, .int .i64 0] 36) := ⟨_, rfl⟩
    have hBW : Below w.heap.size w W := by rw [hW]; exact bl2 _ _ _
    have A : SpC W w.heap.size s := by rw [hW]; exact ⟨by simp [go_sem], by simp [go_sem], by simp [go_sem], by simp [go_sem], by simp [go_sem]⟩
    have R : NoC W (w.heap.size + 1) := by rw [hW]; exact ⟨by simp [go_sem], by simp [go_sem], by simp [go_sem], by simp [go_sem], by simp [go_sem], fun o => by simp [go_sem]⟩
    have HS := hide (hs.below hBW)
    have lA := A.lt
    have lR := R.lt
    have hB0 : Below W.heap.size W W.drew := (Below.refl _ _).drew
    have HK := hide (show ∀ w', Below W.heap.size W w' → (w'.cell? ⟨w.heap.size, 0, none⟩ = some (.bool s.ln) ∧ w'.cell? ⟨w.heap.size, 1, none⟩ = some (.slice s.la s.lN s.lc) ∧ w'.cell? ⟨w.heap.size, 2, none⟩ = some (.bool s.hn) ∧ w'.cell? ⟨w.heap.size, 3, none⟩ = some (.slice s.ha s.hN s.hc)) from fun w' hB => by
      obtain ⟨x0, x1, x2, x3, x4⟩ := A.below hB
      exact ⟨x0, x1, x2, x3⟩)
    go_enter Tryz.func90, Tryz.ntmps90
    go_wp2
    obtain ⟨x0, x1, x2, x3, x4⟩ := A
    rw [← hW]
    clear hW
    go_region_held3 (fun w' => w'.cell? ⟨w.heap.size, 0, none⟩ = some (.bool s.ln) ∧ w'.cell? ⟨w.heap.size, 1, none⟩ = some (.slice s.la s.lN s.lc) ∧ w'.cell? ⟨w.heap.size, 2, none⟩ = some (.bool s.hn) ∧ w'.cell? ⟨w.heap.size, 3, none⟩ = some (.slice s.ha s.hN s.hc)) (first | exact unhide HK _ (by first | with_reducible exact hB0 | with_reducible exact hB4 | with_reducible exact hB3 | with_reducible exact hB2 | with_reducible exact hB1) | go_keep)
      (first
        | (go_at_call 103; have hq := hB3; refine (neg_int _ _ _ _ (k + 62505) _ _ (hint3.mono (by omega)) (by omega)).mono ?_; rintro r w4 ⟨neg4, a4, n4, c4, rfl, hint4, hb4⟩; replace hint1 := hint1.below hb4; have hB4 := bthen hB3 hb4; obtain ⟨q0, q1, q2, q3, q4, q5⟩ := R.below hB4; obtain ⟨i0, i1, i2, i3⟩ := unhide HK _ hB4)
        | (go_at_call 105; have hq := hB2; refine (down_z _ _ _ _ k (s.bits - bt) (-hi) _ hint2 (by omega) (by omega) (by omega)).mono ?_; rintro r w3 ⟨neg3, a3, n3, c3, rfl, hint3, hb3⟩; replace hint1 := hint1.below hb3; have hB3 := bthen hB2 hb3)
        | (go_at_call 103; have hq := hB1; refine (neg_int _ _ _ _ k hi _ ((unhide HS).hi.below hB1) (by omega)).mono ?_; rintro r w2 ⟨neg2, a2, n2, c2, rfl, hint2, hb2⟩; replace hint1 := hint1.below hb2; have hB2 := bthen hB1 hb2)
        | (go_at_call 105; refine (down_z _ _ _ _ k (s.bits - bt) lo _ ((unhide HS).lo.below hB0) (by omega) (by omega) (by omega)).mono ?_; rintro r w1 ⟨neg1, a1, n1, c1, rfl, hint1, hb1⟩; have hB1 := bthen hB0 hb1))
    go_wp2
    refine bodyPost_ret (v := .agg #[.bool neg1, .slice a1 n1 c1, .bool neg4, .slice a4 n4 c4, .int .i64 bt]) (by simp [results, Tryz.results90, go_sem, q0, q1, q2, q3, q4]) rfl ⟨⟨neg1, a1, n1, c1, neg4, a4, n4, c4, bt⟩, rfl, rfl, ?_, ?_⟩
    · exact SpAt.put5 ⟨hint1.mono (by omega), hint4.mono (by omega)⟩ q0 q1 q2 q3 q4 _ _ _ _ _
    · exact set5 (bthen hBW hB4) (Nat.le_succ _) _ _ _ _ _
end Go.Proofs.YtgmnknmjainababGreat

namespace Go.Proofs.YtgmnknmjainababGreat
set_option linter.unusedVariables false
set_option linter.unusedSimpArgs false
set_option linter.unnecessarySimpa false
open Go.RowKit
attribute [local go_sem ↓] Go.wp_at_zero Go.wp_at_succ

/-- Is a law of this kind made of its first ratio alone? -/
def oneB (k : Int) : Bool := k == 2 || k == 5 || k == 7

set_option maxHeartbeats 400000 in
theorem madeOfOne_any (k : Int) (w : World) :
    Calls Tryz.prog 81 #[.int .i64 k] w fun r w' => r = .returned (.bool (oneB k)) ∧ Below w.heap.size w w' := by
  by_cases h2 : k = 2
  · subst h2
    go_enter Tryz.func81, Tryz.ntmps81
    go_wp2
    go_ret
    exact ⟨rfl, Below.refl _ _⟩
  by_cases h5 : k = 5
  · subst h5
    go_enter Tryz.func81, Tryz.ntmps81
    go_wp2
    go_ret
    exact ⟨rfl, Below.refl _ _⟩
  · go_enter Tryz.func81, Tryz.ntmps81
    go_wp2
    go_ret
    exact ⟨by simp [oneB, h2, h5], Below.refl _ _⟩

/-- Is a ratio from -n to n? -/
def withinB (p q n : Int) : Bool := decide (-(n * q) ≤ p) && decide (p ≤ n * q)

set_option maxHeartbeats 400000 in
theorem within_any (p q n : Int) (w : World) (hn0 : 0 ≤ n) (hn : n ≤ 100000) (hq0 : 1 ≤ q) (hq : q ≤ 1024) :
    Calls Tryz.prog 151 #[.agg #[.int .i64 p, .int .i64 q], .int .i64 n] w fun r w' => r = .returned (.bool (withinB p q n)) ∧ Below w.heap.size w w' := by
  have e : -n * q = -(n * q) := Int.neg_mul _ _
  have b1 : 0 ≤ n * q := Int.mul_nonneg hn0 (by omega)
  have b2 : n * q ≤ 102400000 := Int.le_trans (Int.mul_le_mul hn hq (by omega) (by omega)) (by decide)
  by_cases h1 : -(n * q) ≤ p
  · go_enter Tryz.func151, Tryz.ntmps151
    go_wp2
    go_ret
    exact ⟨by simp [withinB, h1]; try omega, bl1 _ _⟩
  · go_enter Tryz.func151, Tryz.ntmps151
    go_wp2
    go_ret
    exact ⟨by simp [withinB, h1]; try omega, bl1 _ _⟩

/-- Are the ratios of a law as package api says? -/
def saidB (k p q r s : Int) : Bool :=
  if k = 1 then decide (0 < r) else if k = 3 ∨ k = 4 then decide (0 < p) && decide (0 < r)
  else if k = 6 then decide (q = 1) && (decide (0 ≤ p) && (decide (p ≤ 100) && (decide (0 ≤ r) && decide (r ≤ s)))) else decide (0 < p)

set_option maxHeartbeats 2000000 in
theorem asSaid_any (k p q r s : Int) (w : World) (h1 : 1 ≤ k) (h7 : k ≤ 7) :
    Calls Tryz.prog 82 #[.agg #[.int .i64 k, .int .i64 p, .int .i64 q, .int .i64 r, .int .i64 s]] w fun z w' => z = .returned (.bool (saidB k p q r s)) ∧ Below w.heap.size w w' := by
  obtain rfl | rfl | rfl | rfl | rfl | rfl | rfl : k = 1 ∨ k = 2 ∨ k = 3 ∨ k = 4 ∨ k = 5 ∨ k = 6 ∨ k = 7 := by omega
  · go_enter Tryz.func82, Tryz.ntmps82
    go_wp2
    go_ret
    exact ⟨by simp [saidB]; try omega, bl1 _ _⟩
  · go_enter Tryz.func82, Tryz.ntmps82
    go_wp2
    go_ret
    exact ⟨by simp [saidB]; try omega, bl1 _ _⟩
  · by_cases c : 0 < p
    all_goals
      go_enter Tryz.func82, Tryz.ntmps82
      go_wp2
      go_ret
      exact ⟨by simp [saidB, c]; try omega, bl1 _ _⟩
  · by_cases c : 0 < p
    all_goals
      go_enter Tryz.func82, Tryz.ntmps82
      go_wp2
      go_ret
      exact ⟨by simp [saidB, c]; try omega, bl1 _ _⟩
  · go_enter Tryz.func82, Tryz.ntmps82
    go_wp2
    go_ret
    exact ⟨by simp [saidB]; try omega, bl1 _ _⟩
  · by_cases c1 : q = 1
    · subst c1
      by_cases c2 : 0 ≤ p
      · by_cases c3 : p ≤ 100
        · by_cases c4 : 0 ≤ r
          · go_enter Tryz.func82, Tryz.ntmps82
            go_wp2
            go_ret
            exact ⟨by simp [saidB, c2, c3, c4]; try omega, bl1 _ _⟩
          · go_enter Tryz.func82, Tryz.ntmps82
            go_wp2
            go_ret
            exact ⟨by simp [saidB, c2, c3, c4]; try omega, bl1 _ _⟩
        · go_enter Tryz.func82, Tryz.ntmps82
          go_wp2
          go_ret
          exact ⟨by simp [saidB, c2, c3]; try omega, bl1 _ _⟩
      · go_enter Tryz.func82, Tryz.ntmps82
        go_wp2
        go_ret
        exact ⟨by simp [saidB, c2]; try omega, bl1 _ _⟩
    · go_enter Tryz.func82, Tryz.ntmps82
      go_wp2
      go_ret
      exact ⟨by simp [saidB, c1]; try omega, bl1 _ _⟩
  · go_enter Tryz.func82, Tryz.ntmps82
    go_wp2
    go_ret
    exact ⟨by simp [saidB]; try omega, bl1 _ _⟩

/-- Is a law beyond what is reckoned with? -/
def farB (k p q r s : Int) : Bool :=
  if k = 6 then false else (!oneB k && decide (r * 100 < s)) || (!withinB p q 100 || !withinB r s 100)

set_option maxRecDepth 100000 in
set_option maxHeartbeats 2000000 in
theorem tooFar_any (k p q r s : Int) (w : World) (h1 : rok p q) (h2 : rok r s) :
    Calls Tryz.prog 83 #[.agg #[.int .i64 k, .int .i64 p, .int .i64 q, .int .i64 r, .int .i64 s]] w fun z w' => z = .returned (.bool (farB k p q r s)) ∧ Below w.heap.size w w' := by
  obtain ⟨a1, a2, a3, a4⟩ := h1
  obtain ⟨b1, b2, b3, b4⟩ := h2
  by_cases c6 : k = 6
  · subst c6
    go_enter Tryz.func83, Tryz.ntmps83
    go_wp2
    go_ret
    exact ⟨by simp [farB], bl1 _ _⟩
  cases ho : oneB k
  · by_cases ht : r * 100 < s
    · have HE := hide (show farB k p q r s = true by simp [farB, c6, ho, ht])
      go_enter Tryz.func83, Tryz.ntmps83
      go_wp2_with (go_at_call 81; refine (madeOfOne_any _ _).mono ?_; rintro r' w1 ⟨rfl, hb1⟩; rw [ho]; obtain ⟨hsz1, hcell1, hfz1⟩ := near (w.heap.size + 1) (by simp) hb1)
      go_ret
      exact ⟨by rw [unhide HE]; first | rfl | simp [show ¬ r * 100 < s by omega], bthen (bl1 _ _) hb1⟩
    · cases hw1 : withinB p q 100
      · have HE := hide (show farB k p q r s = true by simp [farB, c6, ho, ht, hw1])
        go_enter Tryz.func83, Tryz.ntmps83
        go_wp2_with (first
          | (go_at_call 81; refine (madeOfOne_any _ _).mono ?_; rintro r' w1 ⟨rfl, hb1⟩; rw [ho]; obtain ⟨hsz1, hcell1, hfz1⟩ := near (w.heap.size + 1) (by simp) hb1)
          | (go_at_call 151; refine (within_any p q 100 _ (by omega) (by omega) a3 a4).mono ?_; rintro r' w2 ⟨rfl, hb2⟩; rw [hw1]))
        go_ret
        exact ⟨by rw [unhide HE]; first | rfl | simp [show ¬ r * 100 < s by omega], bthen (bthen (bl1 _ _) hb1) hb2⟩
      · have HE := hide (show farB k p q r s = !withinB r s 100 by simp [farB, c6, ho, ht, hw1])
        go_enter Tryz.func83, Tryz.ntmps83
        go_wp2_with (first
          | (go_at_call 81; refine (madeOfOne_any _ _).mono ?_; rintro r' w1 ⟨rfl, hb1⟩; rw [ho]; obtain ⟨hsz1, hcell1, hfz1⟩ := near (w.heap.size + 1) (by simp) hb1)
          | (go_at_call 151; have hq := hb2; refine (within_any r s 100 _ (by omega) (by omega) b3 b4).mono ?_; rintro r' w3 ⟨rfl, hb3⟩)
          | (go_at_call 151; refine (within_any p q 100 _ (by omega) (by omega) a3 a4).mono ?_; rintro r' w2 ⟨rfl, hb2⟩; rw [hw1]; obtain ⟨hsz2, hcell2, hfz2⟩ := near (w.heap.size + 1) hsz1 hb2))
        go_ret
        exact ⟨by rw [unhide HE]; first | rfl | simp [show ¬ r * 100 < s by omega], bthen (bthen (bthen (bl1 _ _) hb1) hb2) hb3⟩
  · cases hw1 : withinB p q 100
    · have HE := hide (show farB k p q r s = true by simp [farB, c6, ho, hw1])
      go_enter Tryz.func83, Tryz.ntmps83
      go_wp2_with (first
        | (go_at_call 81; refine (madeOfOne_any _ _).mono ?_; rintro r' w1 ⟨rfl, hb1⟩; rw [ho]; obtain ⟨hsz1, hcell1, hfz1⟩ := near (w.heap.size + 1) (by simp) hb1)
        | (go_at_call 151; refine (within_any p q 100 _ (by omega) (by omega) a3 a4).mono ?_; rintro r' w2 ⟨rfl, hb2⟩; rw [hw1]))
      go_ret
      exact ⟨by rw [unhide HE]; first | rfl | simp [show ¬ r * 100 < s by omega], bthen (bthen (bl1 _ _) hb1) hb2⟩
    · have HE := hide (show farB k p q r s = !withinB r s 100 by simp [farB, c6, ho, hw1])
      go_enter Tryz.func83, Tryz.ntmps83
      go_wp2_with (first
        | (go_at_call 81; refine (madeOfOne_any _ _).mono ?_; rintro r' w1 ⟨rfl, hb1⟩; rw [ho]; obtain ⟨hsz1, hcell1, hfz1⟩ := near (w.heap.size + 1) (by simp) hb1)
        | (go_at_call 151; have hq := hb2; refine (within_any r s 100 _ (by omega) (by omega) b3 b4).mono ?_; rintro r' w3 ⟨rfl, hb3⟩)
        | (go_at_call 151; refine (within_any p q 100 _ (by omega) (by omega) a3 a4).mono ?_; rintro r' w2 ⟨rfl, hb2⟩; rw [hw1]; obtain ⟨hsz2, hcell2, hfz2⟩ := near (w.heap.size + 1) hsz1 hb2))
      go_ret
      exact ⟨by rw [unhide HE]; first | rfl | simp [show ¬ r * 100 < s by omega], bthen (bthen (bthen (bl1 _ _) hb1) hb2) hb3⟩
end Go.Proofs.YtgmnknmjainababGreat

namespace Go.Proofs.YtgmnknmjainababGreat
set_option linter.unusedVariables false
set_option linter.unusedSimpArgs false
set_option linter.unnecessarySimpa false
open Go.RowKit
attribute [local go_sem ↓] Go.wp_at_zero Go.wp_at_succ

/-- What is said of a law. -/
def lawE (k p q r s : Int) : Int :=
  if k < 1 ∨ 7 < k then 6 else if ¬ rok p q ∨ ¬ rok r s then 3 else if oneB k = true ∧ ¬ (r = 0 ∧ s = 1) then 1
  else if saidB k p q r s = false then 3 else if farB k p q r s = true then 2 else 0

set_option maxRecDepth 100000 in
set_option maxHeartbeats 4000000 in
theorem check_k0 (k p q r s : Int) (w : World) (h1 : k < 1) :
    Calls Tryz.prog 34 #[.agg #[.int .i64 k, .int .i64 p, .int .i64 q, .int .i64 r, .int .i64 s]] w fun z w' => z = .returned (.int .i64 6) ∧ Below w.heap.size w w' := by
  go_enter Tryz.func34, Tryz.ntmps34
  go_wp2
  go_ret
  exact ⟨rfl, bl1 _ _⟩

set_option maxRecDepth 100000 in
set_option maxHeartbeats 4000000 in
theorem check_k8 (k p q r s : Int) (w : World) (h1 : 1 ≤ k) (h7 : 7 < k) :
    Calls Tryz.prog 34 #[.agg #[.int .i64 k, .int .i64 p, .int .i64 q, .int .i64 r, .int .i64 s]] w fun z w' => z = .returned (.int .i64 6) ∧ Below w.heap.size w w' := by
  go_enter Tryz.func34, Tryz.ntmps34
  go_wp2
  go_ret
  exact ⟨rfl, bl1 _ _⟩

set_option maxRecDepth 100000 in
set_option maxHeartbeats 4000000 in
theorem check_r1 (k p q r s : Int) (w : World) (h1 : 1 ≤ k) (h7 : k ≤ 7) (hc1 : decide (rok p q) = false) :
    Calls Tryz.prog 34 #[.agg #[.int .i64 k, .int .i64 p, .int .i64 q, .int .i64 r, .int .i64 s]] w fun z w' => z = .returned (.int .i64 3) ∧ Below w.heap.size w w' := by
  go_enter Tryz.func34, Tryz.ntmps34
  go_wp2_with (first
    | (go_at_call 80; refine (ratioRight_any p q _).mono ?_; rintro r' w1 ⟨rfl, hb1⟩; rw [hc1]; obtain ⟨hsz1, hcell1, hfz1⟩ := near (w.heap.size + 1) (by simp) hb1))
  go_ret
  exact ⟨rfl, bthen (bl1 _ _) hb1⟩

set_option maxRecDepth 100000 in
set_option maxHeartbeats 4000000 in
theorem check_r2 (k p q r s : Int) (w : World) (h1 : 1 ≤ k) (h7 : k ≤ 7) (hc1 : decide (rok p q) = true) (hc2 : decide (rok r s) = false) :
    Calls Tryz.prog 34 #[.agg #[.int .i64 k, .int .i64 p, .int .i64 q, .int .i64 r, .int .i64 s]] w fun z w' => z = .returned (.int .i64 3) ∧ Below w.heap.size w w' := by
  go_enter Tryz.func34, Tryz.ntmps34
  go_wp2_with (first
    | (go_at_call 80; have hq := hb1; refine (ratioRight_any r s _).mono ?_; rintro r' w2 ⟨rfl, hb2⟩; rw [hc2]; obtain ⟨hsz2, hcell2, hfz2⟩ := near (w.heap.size + 1) hsz1 hb2)
    | (go_at_call 80; refine (ratioRight_any p q _).mono ?_; rintro r' w1 ⟨rfl, hb1⟩; rw [hc1]; obtain ⟨hsz1, hcell1, hfz1⟩ := near (w.heap.size + 1) (by simp) hb1))
  go_ret
  exact ⟨rfl, bthen (bthen (bl1 _ _) hb1) hb2⟩

set_option maxRecDepth 100000 in
set_option maxHeartbeats 4000000 in
theorem check_z0 (k p q r s : Int) (w : World) (h1 : 1 ≤ k) (h7 : k ≤ 7) (hc1 : decide (rok p q) = true) (hc2 : decide (rok r s) = true) (ho : oneB k = true) (z0 : r ≠ 0) :
    Calls Tryz.prog 34 #[.agg #[.int .i64 k, .int .i64 p, .int .i64 q, .int .i64 r, .int .i64 s]] w fun z w' => z = .returned (.int .i64 1) ∧ Below w.heap.size w w' := by
  go_enter Tryz.func34, Tryz.ntmps34
  go_wp2_with (first
    | (go_at_call 81; refine (madeOfOne_any k _).mono ?_; rintro r' w3 ⟨rfl, hb3⟩; rw [ho]; obtain ⟨hsz3, hcell3, hfz3⟩ := near (w.heap.size + 1) hsz2 hb3)
    | (go_at_call 80; have hq := hb1; refine (ratioRight_any r s _).mono ?_; rintro r' w2 ⟨rfl, hb2⟩; rw [hc2]; obtain ⟨hsz2, hcell2, hfz2⟩ := near (w.heap.size + 1) hsz1 hb2)
    | (go_at_call 80; refine (ratioRight_any p q _).mono ?_; rintro r' w1 ⟨rfl, hb1⟩; rw [hc1]; obtain ⟨hsz1, hcell1, hfz1⟩ := near (w.heap.size + 1) (by simp) hb1))
  go_ret
  exact ⟨rfl, bthen (bthen (bthen (bl1 _ _) hb1) hb2) hb3⟩

set_option maxRecDepth 100000 in
set_option maxHeartbeats 4000000 in
theorem check_z1 (k p q r s : Int) (w : World) (h1 : 1 ≤ k) (h7 : k ≤ 7) (hc1 : decide (rok p q) = true) (hc2 : decide (rok r s) = true) (ho : oneB k = true) (z1 : s ≠ 1) :
    Calls Tryz.prog 34 #[.agg #[.int .i64 k, .int .i64 p, .int .i64 q, .int .i64 r, .int .i64 s]] w fun z w' => z = .returned (.int .i64 1) ∧ Below w.heap.size w w' := by
  go_enter Tryz.func34, Tryz.ntmps34
  go_wp2_with (first
    | (go_at_call 81; refine (madeOfOne_any k _).mono ?_; rintro r' w3 ⟨rfl, hb3⟩; rw [ho]; obtain ⟨hsz3, hcell3, hfz3⟩ := near (w.heap.size + 1) hsz2 hb3)
    | (go_at_call 80; have hq := hb1; refine (ratioRight_any r s _).mono ?_; rintro r' w2 ⟨rfl, hb2⟩; rw [hc2]; obtain ⟨hsz2, hcell2, hfz2⟩ := near (w.heap.size + 1) hsz1 hb2)
    | (go_at_call 80; refine (ratioRight_any p q _).mono ?_; rintro r' w1 ⟨rfl, hb1⟩; rw [hc1]; obtain ⟨hsz1, hcell1, hfz1⟩ := near (w.heap.size + 1) (by simp) hb1))
  go_ret
  exact ⟨rfl, bthen (bthen (bthen (bl1 _ _) hb1) hb2) hb3⟩

set_option maxRecDepth 100000 in
set_option maxHeartbeats 4000000 in
theorem check_os (k p q : Int) (w : World) (h1 : 1 ≤ k) (h7 : k ≤ 7) (hr1 : rok p q) (hr2 : rok 0 1) (hc1 : decide (rok p q) = true) (hc2 : decide (rok 0 1) = true) (ho : oneB k = true) (hs : saidB k p q 0 1 = false) :
    Calls Tryz.prog 34 #[.agg #[.int .i64 k, .int .i64 p, .int .i64 q, .int .i64 0, .int .i64 1]] w fun z w' => z = .returned (.int .i64 3) ∧ Below w.heap.size w w' := by
  go_enter Tryz.func34, Tryz.ntmps34
  go_wp2_with (first
    | (go_at_call 82; refine (asSaid_any k p q 0 1 _ h1 h7).mono ?_; rintro r' w4 ⟨rfl, hb4⟩; rw [hs]; obtain ⟨hsz4, hcell4, hfz4⟩ := near (w.heap.size + 1) hsz3 hb4)
    | (go_at_call 81; refine (madeOfOne_any k _).mono ?_; rintro r' w3 ⟨rfl, hb3⟩; rw [ho]; obtain ⟨hsz3, hcell3, hfz3⟩ := near (w.heap.size + 1) hsz2 hb3)
    | (go_at_call 80; have hq := hb1; refine (ratioRight_any 0 1 _).mono ?_; rintro r' w2 ⟨rfl, hb2⟩; rw [hc2]; obtain ⟨hsz2, hcell2, hfz2⟩ := near (w.heap.size + 1) hsz1 hb2)
    | (go_at_call 80; refine (ratioRight_any p q _).mono ?_; rintro r' w1 ⟨rfl, hb1⟩; rw [hc1]; obtain ⟨hsz1, hcell1, hfz1⟩ := near (w.heap.size + 1) (by simp) hb1))
  go_ret
  exact ⟨rfl, bthen (bthen (bthen (bthen (bl1 _ _) hb1) hb2) hb3) hb4⟩

set_option maxRecDepth 100000 in
set_option maxHeartbeats 4000000 in
theorem check_of (k p q : Int) (w : World) (h1 : 1 ≤ k) (h7 : k ≤ 7) (hr1 : rok p q) (hr2 : rok 0 1) (hc1 : decide (rok p q) = true) (hc2 : decide (rok 0 1) = true) (ho : oneB k = true) (hs : saidB k p q 0 1 = true) (hf : farB k p q 0 1 = false) :
    Calls Tryz.prog 34 #[.agg #[.int .i64 k, .int .i64 p, .int .i64 q, .int .i64 0, .int .i64 1]] w fun z w' => z = .returned (.int .i64 0) ∧ Below w.heap.size w w' := by
  go_enter Tryz.func34, Tryz.ntmps34
  go_wp2_with (first
    | (go_at_call 83; refine (tooFar_any k p q 0 1 _ hr1 hr2).mono ?_; rintro r' w5 ⟨rfl, hb5⟩; rw [hf])
    | (go_at_call 82; refine (asSaid_any k p q 0 1 _ h1 h7).mono ?_; rintro r' w4 ⟨rfl, hb4⟩; rw [hs]; obtain ⟨hsz4, hcell4, hfz4⟩ := near (w.heap.size + 1) hsz3 hb4)
    | (go_at_call 81; refine (madeOfOne_any k _).mono ?_; rintro r' w3 ⟨rfl, hb3⟩; rw [ho]; obtain ⟨hsz3, hcell3, hfz3⟩ := near (w.heap.size + 1) hsz2 hb3)
    | (go_at_call 80; have hq := hb1; refine (ratioRight_any 0 1 _).mono ?_; rintro r' w2 ⟨rfl, hb2⟩; rw [hc2]; obtain ⟨hsz2, hcell2, hfz2⟩ := near (w.heap.size + 1) hsz1 hb2)
    | (go_at_call 80; refine (ratioRight_any p q _).mono ?_; rintro r' w1 ⟨rfl, hb1⟩; rw [hc1]; obtain ⟨hsz1, hcell1, hfz1⟩ := near (w.heap.size + 1) (by simp) hb1))
  go_ret
  exact ⟨rfl, bthen (bthen (bthen (bthen (bthen (bl1 _ _) hb1) hb2) hb3) hb4) hb5⟩

set_option maxRecDepth 100000 in
set_option maxHeartbeats 4000000 in
theorem check_om (k p q : Int) (w : World) (h1 : 1 ≤ k) (h7 : k ≤ 7) (hr1 : rok p q) (hr2 : rok 0 1) (hc1 : decide (rok p q) = true) (hc2 : decide (rok 0 1) = true) (ho : oneB k = true) (hs : saidB k p q 0 1 = true) (hf : farB k p q 0 1 = true) :
    Calls Tryz.prog 34 #[.agg #[.int .i64 k, .int .i64 p, .int .i64 q, .int .i64 0, .int .i64 1]] w fun z w' => z = .returned (.int .i64 2) ∧ Below w.heap.size w w' := by
  go_enter Tryz.func34, Tryz.ntmps34
  go_wp2_with (first
    | (go_at_call 83; refine (tooFar_any k p q 0 1 _ hr1 hr2).mono ?_; rintro r' w5 ⟨rfl, hb5⟩; rw [hf])
    | (go_at_call 82; refine (asSaid_any k p q 0 1 _ h1 h7).mono ?_; rintro r' w4 ⟨rfl, hb4⟩; rw [hs]; obtain ⟨hsz4, hcell4, hfz4⟩ := near (w.heap.size + 1) hsz3 hb4)
    | (go_at_call 81; refine (madeOfOne_any k _).mono ?_; rintro r' w3 ⟨rfl, hb3⟩; rw [ho]; obtain ⟨hsz3, hcell3, hfz3⟩ := near (w.heap.size + 1) hsz2 hb3)
    | (go_at_call 80; have hq := hb1; refine (ratioRight_any 0 1 _).mono ?_; rintro r' w2 ⟨rfl, hb2⟩; rw [hc2]; obtain ⟨hsz2, hcell2, hfz2⟩ := near (w.heap.size + 1) hsz1 hb2)
    | (go_at_call 80; refine (ratioRight_any p q _).mono ?_; rintro r' w1 ⟨rfl, hb1⟩; rw [hc1]; obtain ⟨hsz1, hcell1, hfz1⟩ := near (w.heap.size + 1) (by simp) hb1))
  go_ret
  exact ⟨rfl, bthen (bthen (bthen (bthen (bthen (bl1 _ _) hb1) hb2) hb3) hb4) hb5⟩

set_option maxRecDepth 100000 in
set_option maxHeartbeats 4000000 in
theorem check_ns (k p q r s : Int) (w : World) (h1 : 1 ≤ k) (h7 : k ≤ 7) (hr1 : rok p q) (hr2 : rok r s) (hc1 : decide (rok p q) = true) (hc2 : decide (rok r s) = true) (ho : oneB k = false) (hs : saidB k p q r s = false) :
    Calls Tryz.prog 34 #[.agg #[.int .i64 k, .int .i64 p, .int .i64 q, .int .i64 r, .int .i64 s]] w fun z w' => z = .returned (.int .i64 3) ∧ Below w.heap.size w w' := by
  go_enter Tryz.func34, Tryz.ntmps34
  go_wp2_with (first
    | (go_at_call 82; refine (asSaid_any k p q r s _ h1 h7).mono ?_; rintro r' w4 ⟨rfl, hb4⟩; rw [hs]; obtain ⟨hsz4, hcell4, hfz4⟩ := near (w.heap.size + 1) hsz3 hb4)
    | (go_at_call 81; refine (madeOfOne_any k _).mono ?_; rintro r' w3 ⟨rfl, hb3⟩; rw [ho]; obtain ⟨hsz3, hcell3, hfz3⟩ := near (w.heap.size + 1) hsz2 hb3)
    | (go_at_call 80; have hq := hb1; refine (ratioRight_any r s _).mono ?_; rintro r' w2 ⟨rfl, hb2⟩; rw [hc2]; obtain ⟨hsz2, hcell2, hfz2⟩ := near (w.heap.size + 1) hsz1 hb2)
    | (go_at_call 80; refine (ratioRight_any p q _).mono ?_; rintro r' w1 ⟨rfl, hb1⟩; rw [hc1]; obtain ⟨hsz1, hcell1, hfz1⟩ := near (w.heap.size + 1) (by simp) hb1))
  go_ret
  exact ⟨rfl, bthen (bthen (bthen (bthen (bl1 _ _) hb1) hb2) hb3) hb4⟩

set_option maxRecDepth 100000 in
set_option maxHeartbeats 4000000 in
theorem check_nf (k p q r s : Int) (w : World) (h1 : 1 ≤ k) (h7 : k ≤ 7) (hr1 : rok p q) (hr2 : rok r s) (hc1 : decide (rok p q) = true) (hc2 : decide (rok r s) = true) (ho : oneB k = false) (hs : saidB k p q r s = true) (hf : farB k p q r s = false) :
    Calls Tryz.prog 34 #[.agg #[.int .i64 k, .int .i64 p, .int .i64 q, .int .i64 r, .int .i64 s]] w fun z w' => z = .returned (.int .i64 0) ∧ Below w.heap.size w w' := by
  go_enter Tryz.func34, Tryz.ntmps34
  go_wp2_with (first
    | (go_at_call 83; refine (tooFar_any k p q r s _ hr1 hr2).mono ?_; rintro r' w5 ⟨rfl, hb5⟩; rw [hf])
    | (go_at_call 82; refine (asSaid_any k p q r s _ h1 h7).mono ?_; rintro r' w4 ⟨rfl, hb4⟩; rw [hs]; obtain ⟨hsz4, hcell4, hfz4⟩ := near (w.heap.size + 1) hsz3 hb4)
    | (go_at_call 81; refine (madeOfOne_any k _).mono ?_; rintro r' w3 ⟨rfl, hb3⟩; rw [ho]; obtain ⟨hsz3, hcell3, hfz3⟩ := near (w.heap.size + 1) hsz2 hb3)
    | (go_at_call 80; have hq := hb1; refine (ratioRight_any r s _).mono ?_; rintro r' w2 ⟨rfl, hb2⟩; rw [hc2]; obtain ⟨hsz2, hcell2, hfz2⟩ := near (w.heap.size + 1) hsz1 hb2)
    | (go_at_call 80; refine (ratioRight_any p q _).mono ?_; rintro r' w1 ⟨rfl, hb1⟩; rw [hc1]; obtain ⟨hsz1, hcell1, hfz1⟩ := near (w.heap.size + 1) (by simp) hb1))
  go_ret
  exact ⟨rfl, bthen (bthen (bthen (bthen (bthen (bl1 _ _) hb1) hb2) hb3) hb4) hb5⟩

set_option maxRecDepth 100000 in
set_option maxHeartbeats 4000000 in
theorem check_nm (k p q r s : Int) (w : World) (h1 : 1 ≤ k) (h7 : k ≤ 7) (hr1 : rok p q) (hr2 : rok r s) (hc1 : decide (rok p q) = true) (hc2 : decide (rok r s) = true) (ho : oneB k = false) (hs : saidB k p q r s = true) (hf : farB k p q r s = true) :
    Calls Tryz.prog 34 #[.agg #[.int .i64 k, .int .i64 p, .int .i64 q, .int .i64 r, .int .i64 s]] w fun z w' => z = .returned (.int .i64 2) ∧ Below w.heap.size w w' := by
  go_enter Tryz.func34, Tryz.ntmps34
  go_wp2_with (first
    | (go_at_call 83; refine (tooFar_any k p q r s _ hr1 hr2).mono ?_; rintro r' w5 ⟨rfl, hb5⟩; rw [hf])
    | (go_at_call 82; refine (asSaid_any k p q r s _ h1 h7).mono ?_; rintro r' w4 ⟨rfl, hb4⟩; rw [hs]; obtain ⟨hsz4, hcell4, hfz4⟩ := near (w.heap.size + 1) hsz3 hb4)
    | (go_at_call 81; refine (madeOfOne_any k _).mono ?_; rintro r' w3 ⟨rfl, hb3⟩; rw [ho]; obtain ⟨hsz3, hcell3, hfz3⟩ := near (w.heap.size + 1) hsz2 hb3)
    | (go_at_call 80; have hq := hb1; refine (ratioRight_any r s _).mono ?_; rintro r' w2 ⟨rfl, hb2⟩; rw [hc2]; obtain ⟨hsz2, hcell2, hfz2⟩ := near (w.heap.size + 1) hsz1 hb2)
    | (go_at_call 80; refine (ratioRight_any p q _).mono ?_; rintro r' w1 ⟨rfl, hb1⟩; rw [hc1]; obtain ⟨hsz1, hcell1, hfz1⟩ := near (w.heap.size + 1) (by simp) hb1))
  go_ret
  exact ⟨rfl, bthen (bthen (bthen (bthen (bthen (bl1 _ _) hb1) hb2) hb3) hb4) hb5⟩

theorem check_law (k p q r s : Int) (w : World) :
    Calls Tryz.prog 34 #[.agg #[.int .i64 k, .int .i64 p, .int .i64 q, .int .i64 r, .int .i64 s]] w fun z w' => z = .returned (.int .i64 (lawE k p q r s)) ∧ Below w.heap.size w w' := by
  by_cases h1 : k < 1
  · rw [show lawE k p q r s = 6 by unfold lawE; rw [if_pos (by omega)]]; exact check_k0 k p q r s w h1
  by_cases h7 : 7 < k
  · rw [show lawE k p q r s = 6 by unfold lawE; rw [if_pos (by omega)]]; exact check_k8 k p q r s w (by omega) h7
  have n1 : ¬ (k < 1 ∨ 7 < k) := by omega
  cases hc1 : decide (rok p q)
  · rw [show lawE k p q r s = 3 by unfold lawE; rw [if_neg n1, if_pos (Or.inl (of_decide_eq_false hc1))]]; exact check_r1 k p q r s w (by omega) (by omega) hc1
  cases hc2 : decide (rok r s)
  · rw [show lawE k p q r s = 3 by unfold lawE; rw [if_neg n1, if_pos (Or.inr (of_decide_eq_false hc2))]]; exact check_r2 k p q r s w (by omega) (by omega) hc1 hc2
  have hr1 := of_decide_eq_true hc1
  have hr2 := of_decide_eq_true hc2
  have n2 : ¬ (¬ rok p q ∨ ¬ rok r s) := by simp [hr1, hr2]
  cases ho : oneB k
  · have n3 : ¬ (oneB k = true ∧ ¬ (r = 0 ∧ s = 1)) := fun ⟨h, _⟩ => by rw [ho] at h; cases h
    cases hs : saidB k p q r s
    · rw [show lawE k p q r s = 3 by unfold lawE; rw [if_neg n1, if_neg n2, if_neg n3, if_pos hs]]; exact check_ns k p q r s w (by omega) (by omega) hr1 hr2 hc1 hc2 ho hs
    have n4 : ¬ saidB k p q r s = false := by simp [hs]
    cases hf : farB k p q r s
    · rw [show lawE k p q r s = 0 by unfold lawE; rw [if_neg n1, if_neg n2, if_neg n3, if_neg n4, if_neg (by simp [hf])]]; exact check_nf k p q r s w (by omega) (by omega) hr1 hr2 hc1 hc2 ho hs hf
    · rw [show lawE k p q r s = 2 by unfold lawE; rw [if_neg n1, if_neg n2, if_neg n3, if_neg n4, if_pos hf]]; exact check_nm k p q r s w (by omega) (by omega) hr1 hr2 hc1 hc2 ho hs hf
  by_cases z0 : r = 0
  case neg => rw [show lawE k p q r s = 1 by unfold lawE; rw [if_neg n1, if_neg n2, if_pos ⟨ho, by omega⟩]]; exact check_z0 k p q r s w (by omega) (by omega) hc1 hc2 ho z0
  by_cases z1 : s = 1
  case neg => rw [show lawE k p q r s = 1 by unfold lawE; rw [if_neg n1, if_neg n2, if_pos ⟨ho, by omega⟩]]; exact check_z1 k p q r s w (by omega) (by omega) hc1 hc2 ho z1
  have n3 : ¬ (oneB k = true ∧ ¬ (r = 0 ∧ s = 1)) := fun ⟨_, h⟩ => h ⟨z0, z1⟩
  subst z0 z1
  cases hs : saidB k p q 0 1
  · rw [show lawE k p q 0 1 = 3 by unfold lawE; rw [if_neg n1, if_neg n2, if_neg n3, if_pos hs]]; exact check_os k p q w (by omega) (by omega) hr1 hr2 hc1 hc2 ho hs
  have n4 : ¬ saidB k p q 0 1 = false := by simp [hs]
  cases hf : farB k p q 0 1
  · rw [show lawE k p q 0 1 = 0 by unfold lawE; rw [if_neg n1, if_neg n2, if_neg n3, if_neg n4, if_neg (by simp [hf])]]; exact check_of k p q w (by omega) (by omega) hr1 hr2 hc1 hc2 ho hs hf
  · rw [show lawE k p q 0 1 = 2 by unfold lawE; rw [if_neg n1, if_neg n2, if_neg n3, if_neg n4, if_pos hf]]; exact check_om k p q w (by omega) (by omega) hr1 hr2 hc1 hc2 ho hs hf
end Go.Proofs.YtgmnknmjainababGreat

namespace Go.Proofs.YtgmnknmjainababGreat
set_option linter.unusedVariables false
set_option linter.unusedSimpArgs false
set_option linter.unnecessarySimpa false
open Go.RowKit
attribute [local go_sem ↓] Go.wp_at_zero Go.wp_at_succ

/-- A law in a block. -/
structure LwC (w : World) (B : Nat) (k p q r s : Int) : Prop where
  c0 : w.cell? ⟨B, 0, none⟩ = some (.int .i64 k)
  c1 : w.cell? ⟨B, 1, none⟩ = some (.int .i64 p)
  c2 : w.cell? ⟨B, 2, none⟩ = some (.int .i64 q)
  c3 : w.cell? ⟨B, 3, none⟩ = some (.int .i64 r)
  c4 : w.cell? ⟨B, 4, none⟩ = some (.int .i64 s)
theorem LwC.lt {w : World} {B : Nat} {k p q r s : Int} (h : LwC w B k p q r s) : B < w.heap.size := World.block_lt_of_cell? w ⟨B, 0, none⟩ h.c0
theorem LwC.below {w w' : World} {B : Nat} {k p q r s : Int} (h : LwC w B k p q r s) (hb : Below w.heap.size w w') : LwC w' B k p q r s :=
  ⟨(hb.cell (p := ⟨B, 0, none⟩) h.lt).trans h.c0, (hb.cell (p := ⟨B, 1, none⟩) h.lt).trans h.c1, (hb.cell (p := ⟨B, 2, none⟩) h.lt).trans h.c2, (hb.cell (p := ⟨B, 3, none⟩) h.lt).trans h.c3, (hb.cell (p := ⟨B, 4, none⟩) h.lt).trans h.c4⟩
theorem LwC.off {w : World} {B B' : Nat} {k p q r s : Int} (h : LwC w B k p q r s) (hne : B ≠ B') (u0 u1 : Value) : LwC ((w.setCell ⟨B', 0, none⟩ u0).setCell ⟨B', 1, none⟩ u1) B k p q r s := by
  obtain ⟨q0, q1, q2, q3, q4⟩ := h
  constructor <;> simp [go_sem, q0, q1, q2, q3, q4, hne, Ne.symm hne]
theorem lwc_new (w : World) (k p q r s : Int) (T : TypeId) : LwC (w.alloc (.cells #[.int .i64 k, .int .i64 p, .int .i64 q, .int .i64 r, .int .i64 s] T)) w.heap.size k p q r s := ⟨by simp, by simp, by simp, by simp, by simp⟩

/-- In how many ways, behind some rounds. -/
def wayF (b o : Int) : Nat → Int
  | 0 => b
  | i + 1 => wayF b o i * (o + ((i : Int) + 1)) / ((i : Int) + 1)

set_option maxRecDepth 100000 in
set_option maxHeartbeats 4000000 in
theorem ways_int (k p q r s : Int) (n : Nat) (w : World) (hn : (n : Int) ≤ p) (hp : p ≤ 100) (hr : 0 ≤ r) (hs : r ≤ s) (hs2 : s ≤ 1024) :
    Calls Tryz.prog 153 #[.agg #[.int .i64 k, .int .i64 p, .int .i64 q, .int .i64 r, .int .i64 s], .int .i64 n] w (IntAns w (408 + 20 * n) (wayF (r ^ n * (s - r) ^ (p.toNat - n)) (p - n) n)) := by
  obtain ⟨W, hW⟩ : ∃ W, W = (w.alloc (.cells #[.int .i64 k, .int .i64 p, .int .i64 q, .int .i64 r, .int .i64 s] 53)).alloc (.cells #[.bool false, .slice none 0 0] 26) := ⟨_, rfl⟩
  have hBW : Below w.heap.size w W := by rw [hW]; exact bl2 _ _ _
  have L : LwC W w.heap.size k p q r s := by rw [hW]; exact (lwc_new w k p q r s _).below (bl1 _ _)
  have R : NoI W (w.heap.size + 1) := by rw [hW]; exact ⟨by simp [go_sem], by simp [go_sem], fun o => by simp [go_sem]⟩
  obtain ⟨m, hm⟩ : ∃ m : Nat, p - n = (m : Int) := ⟨(p - n).toNat, by omega⟩
  have hm2 : p.toNat - n = m := by omega
  rw [hm, hm2]
  have HK := hide (show ∀ w', Below W.heap.size W w' → (w'.cell? ⟨w.heap.size, 3, none⟩ = some (.int .i64 r) ∧ w'.cell? ⟨w.heap.size, 4, none⟩ = some (.int .i64 s)) from fun w' hB => ⟨(L.below hB).c3, (L.below hB).c4⟩)
  have lW := L.lt
  have lR := R.lt
  go_enter Tryz.func153, Tryz.ntmps153
  go_wp2
  rw [← hW]
  clear hW
  obtain ⟨i0, i1, i2, i3, i4⟩ := L
  have HSR := hide (show IntKind.i64.wrap (s - r) = s - r from i64_id _ (by omega) (by omega))
  go_cut [6] (fun p wx => VarAt wx p W.heap.size 408 (r ^ n * (s - r) ^ m) ∧ FzP wx p ∧ Below W.heap.size W wx)
  case first =>
    go_region_held3 (fun w' => w'.cell? ⟨w.heap.size, 3, none⟩ = some (.int .i64 r) ∧ w'.cell? ⟨w.heap.size, 4, none⟩ = some (.int .i64 s)) (exact unhide HK _ (by repeat' (first | with_reducible exact hBX3 | with_reducible exact hBX2 | with_reducible exact hBX1 | with_reducible exact Below.refl _ _ | with_reducible refine Below.drew ?_ | with_reducible refine balloc ?_ _ | with_reducible refine Below.setCell ?_ (by first | exact Nat.le_refl _ | exact hlX1 | exact hlX2 | exact hlX3) _)))
      (first
        | (go_at_call 66; have hq := hBX2; refine (mul_int _ _ _ _ _ _ _ _ (4 * n + 4) (4 * m + 4) (r ^ n) ((s - r) ^ m) _ (hintX1.below (by first | with_reducible exact Below.refl _ _ | with_reducible exact bl1 _ _)) (hintX2.below (by first | with_reducible exact Below.refl _ _ | with_reducible exact bl1 _ _)) (by omega) (by omega)).mono ?_; rintro r wX3 ⟨negX3, aX3, nX3, cX3, rfl, hintX3, hbX3⟩; have hCX3 : Below wX2.heap.size wX2 wX3 := (by first | with_reducible exact hbX3 | with_reducible exact bthen (bl1 _ _) hbX3); have hBX3 := bthen hBX2 hCX3; (try with_reducible have gX3 := (noi_new wX2 26).below hbX3); replace hintX1 := hintX1.below hCX3; (try replace gX1 := gX1.below hCX3); replace hintX2 := hintX2.below hCX3; (try replace gX2 := gX2.below hCX3); have hlX3 := hBX3.size; (try have mX1 := gX1.lt); (try have eX1 := Nat.ne_of_lt mX1); (try have eX1' := Nat.ne_of_gt mX1); (try obtain ⟨zX10, zX11, zX12⟩ := gX1); (try have mX2 := gX2.lt); (try have eX2 := Nat.ne_of_lt mX2); (try have eX2' := Nat.ne_of_gt mX2); (try obtain ⟨zX20, zX21, zX22⟩ := gX2); (try have mX3 := gX3.lt); (try have eX3 := Nat.ne_of_lt mX3); (try have eX3' := Nat.ne_of_gt mX3); (try obtain ⟨zX30, zX31, zX32⟩ := gX3))
        | (go_at_call 154; have hq := hBX1; rw [unhide HSR]; refine (raised_int (s - r) m _ (by omega) (by omega) (by omega)).mono ?_; rintro r wX2 ⟨negX2, aX2, nX2, cX2, rfl, hintX2, hbX2⟩; have hCX2 : Below wX1.heap.size wX1 wX2 := (by first | with_reducible exact hbX2 | with_reducible exact bthen (bl1 _ _) hbX2); have hBX2 := bthen hBX1 hCX2; (try with_reducible have gX2 := (noi_new wX1 26).below hbX2); replace hintX1 := hintX1.below hCX2; (try replace gX1 := gX1.below hCX2); have hlX2 := hBX2.size)
        | (go_at_call 154; refine (raised_int r n _ (by omega) (by omega) (by omega)).mono ?_; rintro r wX1 ⟨negX1, aX1, nX1, cX1, rfl, hintX1, hbX1⟩; have hBX1 : Below W.heap.size W wX1 := (by first | with_reducible exact bthen (Below.refl _ _).drew hbX1 | with_reducible exact bthen (bl1 _ _).drew hbX1); (try with_reducible have gX1 := ((noi_new W 26).below (Below.refl _ _).drew).below hbX1); have hlX1 := hBX1.size))
    all_goals
      go_wp2_with fail
      go_meet
      refine ⟨⟨_, ⟨negX3, aX3, nX3, cX3⟩, rfl, ?_, ?_, ?_, ?_, ?_⟩, ?_, ?_⟩
      · simp [go_sem, *]
      · simp [go_sem, *]
      · first | with_reducible exact IntAt.mono (hintX3.below (bl1 _ _)) (by omega) | with_reducible exact IntAt.mono (hintX3.put2 (by assumption) (by assumption) _ _) (by omega)
      · first | exact Nat.le_refl _ | exact hlX1 | exact hlX2 | exact hlX3
      · simp [World.setCell]; try omega
      · intro B hB o; cases hB; simp [go_sem, *]
      · repeat' (first | with_reducible exact hBX3 | with_reducible exact hBX2 | with_reducible exact hBX1 | with_reducible exact Below.refl _ _ | with_reducible refine Below.drew ?_ | with_reducible refine balloc ?_ _ | with_reducible refine Below.setCell ?_ (by first | exact Nat.le_refl _ | exact hlX1 | exact hlX2 | exact hlX3) _)
  case rest =>
  obtain ⟨⟨BX, xX, rfl, jX0, jX1, hintX, hHX, hltX⟩, hfzX, hblX⟩ := hcut
  have XX : NmC wc BX xX := ⟨jX0, jX1⟩
  have F0 : ∀ o, wc.frozen? ⟨BX, o, none⟩ = false := hfzX BX rfl
  have L : LwC W w.heap.size k p q r s := ⟨i0, i1, i2, i3, i4⟩
  replace L := L.below hblX
  replace R := R.below hblX
  replace hBW := bthen hBW hblX
  have hn0 : w.heap.size + 1 < BX := Nat.lt_of_lt_of_le lR hHX
  clear i0 i1 i2 i3 i4 HK hblX hfzX
  go_wp2_with fail
  go_loopw [7] (fun kk wr => ∃ (i : Nat) (X : Nm), kk = .int .i64 ((i : Int) + 1) ∧ i ≤ n ∧ NmC wr BX X ∧ (∀ o, wr.frozen? ⟨BX, o, none⟩ = false) ∧ IntAt wr X.neg X.a X.n X.cap (408 + 20 * i) (wayF (r ^ n * (s - r) ^ m) m i) ∧ NoI wr (w.heap.size + 1) ∧ Below w.heap.size w wr) (fun kk _ => n + 1 - (intOf kk).toNat)
  case atStart => exact ⟨0, xX, rfl, Nat.zero_le _, XX, F0, hintX, R, hBW⟩
  case round =>
    obtain ⟨i, X, rfl, hi, hX, hF, hint, R, hB⟩ := hrel
    by_cases hin : i < n
    · have hin' : (i : Int) + 1 ≤ n := by omega
      have HA := hide (show IntKind.i64.wrap ((m : Int) + ((i : Int) + 1)) = (m : Int) + ((i : Int) + 1) from i64_id _ (by omega) (by omega))
      have HKr := hide (show ∀ w', Below wr.heap.size wr w' → (w'.cell? ⟨BX, 0, none⟩ = some (.bool X.neg) ∧ w'.cell? ⟨BX, 1, none⟩ = some (.slice X.a X.n X.cap)) from fun w' hB => ⟨(hX.below hB).c0, (hX.below hB).c1⟩)
      have lX := hX.lt
      have hint := hide hint
      obtain ⟨x0, x1⟩ := unhide HKr _ (Below.refl _ _)
      go_wp2_with fail
      go_region_with
        (first
          | (go_at_call 119; have hq := hD3; refine (floor_any _ _ _ _ _ _ _ _ (408 + 20 * i + 4) 4 (wayF (r ^ n * (s - r) ^ m) m i * ((m : Int) + ((i : Int) + 1))) ((i : Int) + 1) _ (hint2.below hb3) hint3 (by omega) (by omega)).mono ?_; rintro r' w4 ⟨neg4, a4, n4, c4, rfl, hint4, hb4⟩; have hD4 := bthen hD3 hb4; have lD4 := hD4.size; have X4 := hX.below hD4; obtain ⟨z0, z1⟩ := X4; have F4 : ∀ o, w4.frozen? ⟨BX, o, none⟩ = false := fun o => (hD4.frozen (p := ⟨BX, o, none⟩) lX).trans (hF o))
          | (go_at_call 66; have hq := hD1; refine (mul_int _ _ _ _ _ _ _ _ (408 + 20 * i) 4 (wayF (r ^ n * (s - r) ^ m) m i) ((m : Int) + ((i : Int) + 1)) _ ((unhide hint).below hD1) hint1 (by omega) (by omega)).mono ?_; rintro r' w2 ⟨neg2, a2, n2, c2, rfl, hint2, hb2⟩; have hD2 := bthen hD1 hb2; obtain ⟨b0, b1⟩ := hX.below hD2)
          | (go_at_call 43; have hq := hD2; refine (numOf_int ((i : Int) + 1) _ (by omega) (by omega)).mono ?_; rintro r' w3 ⟨neg3, a3, n3, c3, rfl, hint3, hb3⟩; have hD3 := bthen hD2 hb3; obtain ⟨c0, c1⟩ := hX.below hD3)
          | (go_at_call 43; rw [unhide HA]; refine (numOf_int ((m : Int) + ((i : Int) + 1)) _ (by omega) (by omega)).mono ?_; rintro r' w1 ⟨neg1, a1, n1, c1, rfl, hint1, hb1⟩; have hD1 : Below wr.heap.size wr w1 := bthen (by repeat' (first | with_reducible exact Below.refl _ _ | with_reducible refine Below.drew ?_)) hb1; obtain ⟨d0, d1⟩ := hX.below hD1))
      all_goals
        go_wp2_with fail
        go_roundw
        case rel => exact ⟨i + 1, ⟨neg4, a4, n4, c4⟩, by go_num, by omega, put_nm2 (z := X) ⟨z0, z1⟩ ⟨neg4, a4, n4, c4⟩, put_fz2 F4 _ _, (hint4.put2 z0 z1 _ _).mono (by omega), (R.below hD4).off (by omega) _ _, set2 (bthen hB hD4) (by omega) _ _⟩
        case measure => simp [intOf]; omega
    · have hie : i = n := by omega
      subst hie
      obtain ⟨x0, x1⟩ := hX
      obtain ⟨z0, z1, z2⟩ := R
      have hint := hide hint
      go_wp2_with fail
      refine bodyPost_ret (v := .agg #[.bool X.neg, .slice X.a X.n X.cap]) (by simp [results, Tryz.results153, go_sem, z0, z1]) rfl ⟨X.neg, X.a, X.n, X.cap, rfl, ?_, ?_⟩
      · exact (unhide hint).put2 z0 z1 _ _
      · exact set2 hB (Nat.le_succ _) _ _
end Go.Proofs.YtgmnknmjainababGreat

namespace Go.Proofs.YtgmnknmjainababGreat
set_option linter.unusedVariables false
set_option linter.unusedSimpArgs false
set_option linter.unnecessarySimpa false
open Go.RowKit
attribute [local go_sem ↓] Go.wp_at_zero Go.wp_at_succ

theorem ceil_any (neg neg2 : Bool) (a c : Option Addr) (n m cap cap2 k k2 : Nat) (x y : Int) (w : World) (h1 : IntAt w neg a n cap k x) (h2 : IntAt w neg2 c m cap2 k2 y) (hk : k ≤ 800000000) (hy : 0 < y) :
    Calls Tryz.prog 176 #[.agg #[.bool neg, .slice a n cap], .agg #[.bool neg2, .slice c m cap2]] w (FloorAns w k (-(-x / y))) :=
  ceil_core neg neg2 a c n m cap cap2 k k2 x y w h1 h2 hk (fun w' neg' a' n' cap' g1 g2 => floor_any neg' neg2 a' c n' m cap' cap2 k k2 (-x) y w' g1 g2 (by omega) hy)
theorem refDown_any (neg neg2 : Bool) (a c : Option Addr) (n m cap cap2 k k2 : Nat) (x y : Int) (w : World) (h1 : IntAt w neg a n cap k x) (h2 : IntAt w neg2 c m cap2 k2 y) (hk : k ≤ 700000000) (hk2 : k2 ≤ 100000000) (hy : 0 < y) :
    Calls Tryz.prog 108 #[.agg #[.bool neg, .slice a n cap], .agg #[.bool neg2, .slice c m cap2]] w (IntAns w (k + 8) (x / y)) :=
  refDown_core neg neg2 a c n m cap cap2 k k2 x y w h1 h2 hk hk2 (fun w' p q => floor_any neg neg2 a c n m cap cap2 k k2 x y w' p q (by omega) hy)
theorem refUp_any (neg neg2 : Bool) (a c : Option Addr) (n m cap cap2 k k2 : Nat) (x y : Int) (w : World) (h1 : IntAt w neg a n cap k x) (h2 : IntAt w neg2 c m cap2 k2 y) (hk : k ≤ 700000000) (hk2 : k2 ≤ 100000000) (hy : 0 < y) :
    Calls Tryz.prog 109 #[.agg #[.bool neg, .slice a n cap], .agg #[.bool neg2, .slice c m cap2]] w (IntAns w (k + 9) (-(-x / y))) :=
  refUp_core neg neg2 a c n m cap cap2 k k2 x y w h1 h2 hk hk2 hy (fun w' p q => floor_any neg neg2 a c n m cap cap2 k k2 x y w' p q (by omega) hy)
end Go.Proofs.YtgmnknmjainababGreat

namespace Go.Proofs.YtgmnknmjainababGreat
set_option linter.unusedVariables false
set_option linter.unusedSimpArgs false
set_option linter.unnecessarySimpa false
open Go.RowKit
attribute [local go_sem ↓] Go.wp_at_zero Go.wp_at_succ

set_option maxRecDepth 100000 in
set_option maxHeartbeats 2000000 in
theorem wideOf_any (neg neg2 : Bool) (a c : Option Addr) (n m cap cap2 k k2 b : Nat) (x y : Int) (w : World) (h1 : IntAt w neg a n cap k x) (h2 : IntAt w neg2 c m cap2 k2 y) (hk : k ≤ 700000000) (hb : b ≤ 1000000) (hy : 0 < y) :
    Calls Tryz.prog 140 #[.agg #[.bool neg, .slice a n cap], .agg #[.bool neg2, .slice c m cap2], .int .i64 b] w (SpanAns w b (k + b / 16 + 20) (x * Q b / y) (-(-(x * Q b) / y))) := by
  go_enter Tryz.func140, Tryz.ntmps140
  go_wp2_with (go_at_call 95; refine (up_int _ _ _ _ b k x _ (h1.below (bl3 _ _ _ _)) (by omega) (by omega)).mono ?_; rintro r w1 ⟨neg1, a1, n1, c1, rfl, hint1, hb1⟩; obtain ⟨hsz1, hcell1, hfz1⟩ := near (w.heap.size + 1 + 1 + 1) (by simp) hb1; have hz1 := Nat.lt_of_lt_of_le (Nat.lt_succ_self (w.heap.size + 1 + 1)) hsz1; have hz0 := Nat.lt_of_succ_lt hz1)
  have hint1 := hint1.mono (show b / 16 + k + 1 ≤ k + b / 16 + 10 by omega)
  have hBw : Below w.heap.size w w1 := bthen (bl3 _ _ _ _) hb1
  have k0 : w1.cell? ⟨w.heap.size + 1, 0, none⟩ = some (.bool neg2) := by simp [hcell1, go_sem]
  have k1 : w1.cell? ⟨w.heap.size + 1, 1, none⟩ = some (.slice c m cap2) := by simp [hcell1, go_sem]
  have r0 : w1.cell? ⟨w.heap.size + 1 + 1, 0, none⟩ = some (.bool false) := by simp [hcell1, go_sem]
  have r1 : w1.cell? ⟨w.heap.size + 1 + 1, 1, none⟩ = some (.slice none 0 0) := by simp [hcell1, go_sem]
  have r2 : w1.cell? ⟨w.heap.size + 1 + 1, 2, none⟩ = some (.bool false) := by simp [hcell1, go_sem]
  have r3 : w1.cell? ⟨w.heap.size + 1 + 1, 3, none⟩ = some (.slice none 0 0) := by simp [hcell1, go_sem]
  have r4 : w1.cell? ⟨w.heap.size + 1 + 1, 4, none⟩ = some (.int .i64 0) := by simp [hcell1, go_sem]
  have r5 : ∀ o, w1.frozen? ⟨w.heap.size + 1 + 1, o, none⟩ = false := by intro o; simp [hfz1, go_sem]
  have H2 := hide (h2.below hBw)
  clear hcell1 hfz1
  obtain ⟨W, hW⟩ : ∃ W, W = w1.alloc (.cells #[.bool neg1, .slice a1 n1 c1] 26) := ⟨_, rfl⟩
  have hBW : Below w1.heap.size w1 W := by rw [hW]; exact bl1 _ _
  have u0 : W.cell? ⟨w1.heap.size, 0, none⟩ = some (.bool neg1) := by rw [hW]; simp
  have u1 : W.cell? ⟨w1.heap.size, 1, none⟩ = some (.slice a1 n1 c1) := by rw [hW]; simp
  have hlW : w1.heap.size < W.heap.size := by rw [hW]; simp
  have HI := hide (hint1.below hBW)
  have HI2 := hide ((unhide H2).below hBW)
  have hl1 : w.heap.size + 1 < W.heap.size := Nat.lt_trans hz0 hlW
  have hl2 : w.heap.size + 1 + 1 < W.heap.size := Nat.lt_trans hz1 hlW
  have HK := hide (show ∀ w', Below W.heap.size W w' → (w'.cell? ⟨w1.heap.size, 0, none⟩ = some (.bool neg1) ∧ w'.cell? ⟨w1.heap.size, 1, none⟩ = some (.slice a1 n1 c1) ∧ w'.cell? ⟨w.heap.size + 1, 0, none⟩ = some (.bool neg2) ∧ w'.cell? ⟨w.heap.size + 1, 1, none⟩ = some (.slice c m cap2)) from fun w' hB =>
    ⟨(hB.cell (p := ⟨w1.heap.size, 0, none⟩) hlW).trans u0, (hB.cell (p := ⟨w1.heap.size, 1, none⟩) hlW).trans u1, (hB.cell (p := ⟨w.heap.size + 1, 0, none⟩) hl1).trans ((hBW.cell (p := ⟨w.heap.size + 1, 0, none⟩) hz0).trans k0), (hB.cell (p := ⟨w.heap.size + 1, 1, none⟩) hl1).trans ((hBW.cell (p := ⟨w.heap.size + 1, 1, none⟩) hz0).trans k1)⟩)
  have HR := hide (show ∀ w', Below W.heap.size W w' → (w'.cell? ⟨w.heap.size + 1 + 1, 0, none⟩ = some (.bool false) ∧ w'.cell? ⟨w.heap.size + 1 + 1, 1, none⟩ = some (.slice none 0 0) ∧ w'.cell? ⟨w.heap.size + 1 + 1, 2, none⟩ = some (.bool false) ∧ w'.cell? ⟨w.heap.size + 1 + 1, 3, none⟩ = some (.slice none 0 0) ∧ w'.cell? ⟨w.heap.size + 1 + 1, 4, none⟩ = some (.int .i64 0) ∧ ∀ o, w'.frozen? ⟨w.heap.size + 1 + 1, o, none⟩ = false) from fun w' hB =>
    ⟨(hB.cell (p := ⟨w.heap.size + 1 + 1, 0, none⟩) hl2).trans ((hBW.cell (p := ⟨w.heap.size + 1 + 1, 0, none⟩) hz1).trans r0), (hB.cell (p := ⟨w.heap.size + 1 + 1, 1, none⟩) hl2).trans ((hBW.cell (p := ⟨w.heap.size + 1 + 1, 1, none⟩) hz1).trans r1), (hB.cell (p := ⟨w.heap.size + 1 + 1, 2, none⟩) hl2).trans ((hBW.cell (p := ⟨w.heap.size + 1 + 1, 2, none⟩) hz1).trans r2), (hB.cell (p := ⟨w.heap.size + 1 + 1, 3, none⟩) hl2).trans ((hBW.cell (p := ⟨w.heap.size + 1 + 1, 3, none⟩) hz1).trans r3), (hB.cell (p := ⟨w.heap.size + 1 + 1, 4, none⟩) hl2).trans ((hBW.cell (p := ⟨w.heap.size + 1 + 1, 4, none⟩) hz1).trans r4), fun o => (hB.frozen (p := ⟨w.heap.size + 1 + 1, o, none⟩) hl2).trans ((hBW.frozen (p := ⟨w.heap.size + 1 + 1, o, none⟩) hz1).trans (r5 o))⟩)
  have hBW2 : Below w.heap.size w W := bthen hBw hBW
  have ne1 : w.heap.size + 1 + 1 ≠ w1.heap.size := by omega
  have ne2 : w1.heap.size ≠ w.heap.size + 1 + 1 := by omega
  rw [← hW]
  clear hW k0 k1 r0 r1 r2 r3 r4 r5 u0 u1 H2 hint1 hb1 hBw hBW
  go_region_held3 (fun w' => w'.cell? ⟨w1.heap.size, 0, none⟩ = some (.bool neg1) ∧ w'.cell? ⟨w1.heap.size, 1, none⟩ = some (.slice a1 n1 c1) ∧ w'.cell? ⟨w.heap.size + 1, 0, none⟩ = some (.bool neg2) ∧ w'.cell? ⟨w.heap.size + 1, 1, none⟩ = some (.slice c m cap2)) (first | exact unhide HK _ (by first | exact (Below.refl _ _).drew | exact hB2 | exact hB3) | go_keep)
    (first
      | (go_at_call 119; refine (floor_any _ _ _ _ _ _ _ _ (k + b / 16 + 10) k2 (x * Q b) y _ ((unhide HI).below (Below.refl _ _).drew) ((unhide HI2).below (Below.refl _ _).drew) (by omega) hy).mono ?_; rintro r w2 ⟨neg4, a4, n4, c4, rfl, hint4, hb4⟩; have hB2 : Below W.heap.size W w2 := bthen (Below.refl _ _).drew hb4)
      | (go_at_call 176; refine (ceil_any _ _ _ _ _ _ _ _ (k + b / 16 + 10) k2 (x * Q b) y _ ((unhide HI).below hB2) ((unhide HI2).below hB2) (by omega) hy).mono ?_; rintro r w3 ⟨neg5, a5, n5, c5, rfl, hint5, hb5⟩; have hB3 := bthen hB2 hb5; obtain ⟨q0, q1, q2, q3, q4, q5⟩ := unhide HR w3 hB3; obtain ⟨q6, q7, q8, q9⟩ := unhide HK w3 hB3))
  go_wp2
  refine bodyPost_ret (v := .agg #[.bool neg4, .slice a4 n4 c4, .bool neg5, .slice a5 n5 c5, .int .i64 b]) (by simp [results, Tryz.results140, go_sem, q0, q1, q2, q3, q4]) rfl ⟨⟨neg4, a4, n4, c4, neg5, a5, n5, c5, b⟩, rfl, rfl, ?_, ?_⟩
  · exact SpAt.put5 ⟨(hint4.below hb5).mono (by omega), hint5.mono (by omega)⟩ q0 q1 q2 q3 q4 _ _ _ _ _
  · exact set5 (hBW2.trans (hB3.mono hBW2.size)) (by omega) _ _ _ _ _

end Go.Proofs.YtgmnknmjainababGreat

namespace Go.Proofs.YtgmnknmjainababGreat
set_option linter.unusedVariables false
set_option linter.unusedSimpArgs false
set_option linter.unnecessarySimpa false
open Go.RowKit
attribute [local go_sem ↓] Go.wp_at_zero Go.wp_at_succ

theorem NoC.off2 {w : World} {B B' : Nat} (h : NoC w B) (hne : B ≠ B') (u0 u1 : Value) : NoC ((w.setCell ⟨B', 0, none⟩ u0).setCell ⟨B', 1, none⟩ u1) B := by
  obtain ⟨q0, q1, q2, q3, q4, q5⟩ := h
  exact ⟨by simp [go_sem, q0, hne, Ne.symm hne], by simp [go_sem, q1, hne, Ne.symm hne], by simp [go_sem, q2, hne, Ne.symm hne], by simp [go_sem, q3, hne, Ne.symm hne], by simp [go_sem, q4, hne, Ne.symm hne], put_fz2 q5 _ _⟩

/-- The sum of the first ones. -/
def cntF (f : Nat → Int) : Nat → Int
  | 0 => 0
  | i + 1 => cntF f i + f i
/-- In how many ways n comes. -/
def wayN (p r s : Int) (n : Nat) : Int := wayF (r ^ n * (s - r) ^ (p.toNat - n)) (p - n) n

set_option maxRecDepth 100000 in
set_option maxHeartbeats 4000000 in
theorem count_int (k q r s last : Int) (P M b : Nat) (w : World) (hM : min last (P : Int) + 1 = (M : Int)) (hl0 : -1000000000 ≤ last) (hl : last ≤ 1000000000) (hp : P ≤ 100) (hr : 0 ≤ r) (hs : r ≤ s) (hs1 : 1 ≤ s) (hs2 : s ≤ 1024) (hb : b ≤ 1000000) :
    Calls Tryz.prog 202 #[.agg #[.int .i64 k, .int .i64 (P : Int), .int .i64 q, .int .i64 r, .int .i64 s], .int .i64 last, .int .i64 b] w (SpanAns w b (b / 16 + 5000) (cntF (wayN P r s) M * Q b / s ^ P) (-(-(cntF (wayN P r s) M * Q b) / s ^ P))) := by
  have hMp : M ≤ P + 1 := by omega
  have hpos : 0 < s ^ P := Int.pow_pos (by omega)
  go_enter Tryz.func202, Tryz.ntmps202
  go_wp2_with fail
  refine (numOf_int 0 _ (by decide) (by decide)).mono ?_
  rintro r' w1 ⟨neg1, a1, n1, c1, rfl, hint1, hb1⟩
  have L : LwC w1 w.heap.size k P q r s := ((lwc_new w k P q r s _).below (bl1 _ _)).below hb1
  have hR : NoC w1 (w.heap.size + 1) := NoC.below ⟨by simp [go_sem], by simp [go_sem], by simp [go_sem], by simp [go_sem], by simp [go_sem], fun o => by simp [go_sem]⟩ hb1
  have hB1 : Below w.heap.size w w1 := bthen (bl2 _ _ _) hb1
  clear hb1
  have lL := L.lt
  have lR := hR.lt
  obtain ⟨i0, i1, i2, i3, i4⟩ := L
  have HM := hide hM
  go_wp2_with fail
  all_goals
    have hmin : min last (P : Int) + 1 = (M : Int) := unhide HM
    go_loopw [16, 8] (fun ii nn wr => ∃ (i : Nat) (X : Nm), ii = .int .i64 (i : Int) ∧ i ≤ M ∧ NmC wr w1.heap.size X ∧ (∀ o, wr.frozen? ⟨w1.heap.size, o, none⟩ = false) ∧ IntAt wr X.neg X.a X.n X.cap (4 + 2500 + i) (cntF (wayN P r s) i) ∧ LwC wr w.heap.size k P q r s ∧ NoC wr (w.heap.size + 1) ∧ Below w.heap.size w wr) (fun ii _ _ => M - (intOf ii).toNat)
    case atStart => exact ⟨0, ⟨neg1, a1, n1, c1⟩, rfl, Nat.zero_le _, ⟨by simp [go_sem], by simp [go_sem]⟩, fun o => by simp [go_sem], (hint1.below (bl1 _ _)).mono (by omega), LwC.below ⟨i0, i1, i2, i3, i4⟩ (bl1 _ _), hR.below (bl1 _ _), balloc hB1 _⟩
    case round =>
      obtain ⟨i, X, rfl, hi, hX, hF, hint, L, R, hB⟩ := hrel
      have lX := hX.lt
      by_cases hin : i < M
      · have hin1 : (i : Int) < min last (P : Int) + 1 := by omega
        try have hin2 : (i : Int) < last + 1 := by omega
        try have hin3 : (i : Int) < (P : Int) + 1 := by omega
        have hint := hide hint
        have HL := hide L
        have HX := hide hX
        have lL2 := L.lt
        obtain ⟨l0, l1, l2, l3, l4⟩ := L
        obtain ⟨x0, x1⟩ := hX
        go_wp2_with fail
        go_region_with
          (first
            | (go_at_call 65; have hq := hD1; refine (add_int _ _ _ _ _ _ _ _ (4 + 2500 + i) 2504 (cntF (wayN P r s) i) (wayN P r s i) _ ((unhide hint).below hD1) (hint1'.mono (by omega)) (by omega) (by omega)).mono ?_; rintro r' w3 ⟨neg3, a3, n3, c3, rfl, hint3, hb3⟩; have hD2 := bthen hD1 hb3; have lD2 := hD2.size; obtain ⟨z0, z1⟩ := (unhide HX).below hD2; have F4 : ∀ o, w3.frozen? ⟨w1.heap.size, o, none⟩ = false := fun o => (hD2.frozen (p := ⟨w1.heap.size, o, none⟩) lX).trans (hF o))
            | (go_at_call 153; refine (ways_int k P q r s i _ (by omega) (by omega) hr hs hs2).mono ?_; rintro r' w2 ⟨neg2, a2, n2, c2, rfl, hint1', hb2⟩; have hD1 : Below wr.heap.size wr w2 := bthen (by repeat' (first | with_reducible exact Below.refl _ _ | with_reducible refine Below.drew ?_)) hb2; obtain ⟨d0, d1⟩ := (unhide HX).below hD1))
        all_goals
          go_wp2_with fail
          go_roundw
          case rel =>
            exact ⟨i + 1, ⟨neg3, a3, n3, c3⟩, by go_num, by omega, put_nm2 (z := X) ⟨z0, z1⟩ ⟨neg3, a3, n3, c3⟩, put_fz2 F4 _ _, (hint3.put2 z0 z1 _ _).mono (by omega), ((unhide HL).below hD2).off (by omega) _ _, (R.below hD2).off2 (by omega) _ _, set2 (bthen hB hD2) (by omega) _ _⟩
          case measure => simp [intOf]; omega
      · have hin1 : ¬ (i : Int) < min last (P : Int) + 1 := by omega
        try have hin2 : ¬ (i : Int) < last + 1 := by omega
        try have hin3 : ¬ (i : Int) < (P : Int) + 1 := by omega
        have hie : i = M := by omega
        subst hie
        have hint := hide hint
        have HKr := hide (show ∀ w', Below wr.heap.size wr w' → (w'.cell? ⟨w.heap.size, 1, none⟩ = some (.int .i64 (P : Int)) ∧ w'.cell? ⟨w.heap.size, 4, none⟩ = some (.int .i64 s) ∧ w'.cell? ⟨w1.heap.size, 0, none⟩ = some (.bool X.neg) ∧ w'.cell? ⟨w1.heap.size, 1, none⟩ = some (.slice X.a X.n X.cap)) from fun w' hB => ⟨(L.below hB).c1, (L.below hB).c4, (hX.below hB).c0, (hX.below hB).c1⟩)
        have lL2 := L.lt
        have lR2 := R.lt
        obtain ⟨l1, l4, x0, x1⟩ := unhide HKr _ (Below.refl _ _)
        have hD0 : Below wr.heap.size wr wr.drew := (Below.refl _ _).drew
        have nE : w1.heap.size ≠ w.heap.size + 1 := by omega
        have nE' : w.heap.size + 1 ≠ w1.heap.size := by omega
        go_wp2_with fail
        go_region_held3 (fun w' => w'.cell? ⟨w.heap.size, 1, none⟩ = some (.int .i64 (P : Int)) ∧ w'.cell? ⟨w.heap.size, 4, none⟩ = some (.int .i64 s) ∧ w'.cell? ⟨w1.heap.size, 0, none⟩ = some (.bool X.neg) ∧ w'.cell? ⟨w1.heap.size, 1, none⟩ = some (.slice X.a X.n X.cap)) (first | exact unhide HKr _ (by first | with_reducible exact hD0 | with_reducible exact hD2 | with_reducible exact hD1) | go_keep)
          (first
            | (go_at_call 140; have hq := hD1; refine (wideOf_any _ _ _ _ _ _ _ _ (4 + 2500 + i) (4 * P + 4) b (cntF (wayN P r s) i) (s ^ P) _ ((unhide hint).below hD1) hint2 (by omega) hb hpos).mono ?_; rintro r' w3 ⟨u, rfl, hub, hup, hb3⟩; have hD2 := bthen hD1 hb3; obtain ⟨q0, q1, q2, q3, q4, q5⟩ := R.below hD2; have HUB := hide hub; clear hub; obtain ⟨e0, e1, e2, e3⟩ := unhide HKr _ hD2)
            | (go_at_call 154; refine (raised_int s P _ (by omega) (by omega) (by omega)).mono ?_; rintro r' w2 ⟨neg2, a2, n2, c2, rfl, hint2, hb2⟩; have hD1 := bthen hD0 hb2))
        all_goals
          go_wp2_with fail
          refine bodyPost_ret (v := .agg #[.bool u.ln, .slice u.la u.lN u.lc, .bool u.hn, .slice u.ha u.hN u.hc, .int .i64 u.bits]) (by simp [results, Tryz.results202, go_sem, q0, q1, q2, q3, q4]) rfl ⟨u, rfl, unhide HUB, ?_, ?_⟩
          · exact SpAt.put5 (hup.mono (by omega)) q0 q1 q2 q3 q4 _ _ _ _ _
          · exact set5 (bthen hB hD2) (Nat.le_succ _) _ _ _ _ _
end Go.Proofs.YtgmnknmjainababGreat
