/-
  What tailsureref.Turn answers, and that it leaves old memory alone.
-/
import Derived.Test.YtibbhnmbmgllcaaRefs4
namespace Go.Proofs.Ytibbhnmbmgllcaa
set_option linter.unusedVariables false
set_option linter.unusedSimpArgs false
set_option linter.unnecessarySimpa false
open Go.RowKit
attribute [local go_sem ↓] Go.wp_at_zero Go.wp_at_succ

set_option maxRecDepth 100000 in
set_option maxHeartbeats 2000000 in
theorem refTurn_int (w : World) (s : Sp) (k : Nat) (bt lo hi : Int) (hs : SpAt w s k lo hi) (hk : k ≤ 300000000) (hb0 : 0 ≤ s.bits) (hbm : s.bits ≤ 1000000) (hc0 : 0 ≤ bt) (hcm : bt ≤ 1000000) :
    Calls Try.prog 22 #[.agg #[.bool s.ln, .slice s.la s.lN s.lc, .bool s.hn, .slice s.ha s.hN s.hc, .int .i64 s.bits], .int .i64 bt] w (SpanAns w bt (k + 62505) (downZ lo (s.bits - bt)) (-(downZ (-hi) (s.bits - bt)))) := by
  by_cases hge : s.bits ≤ bt
  · obtain ⟨K, hK⟩ : ∃ K : Nat, bt - s.bits = K := ⟨(bt - s.bits).toNat, by omega⟩
    have e1 : ∀ x, downZ x (s.bits - bt) = x * Q K := by
      intro x; unfold downZ
      by_cases h0 : 0 ≤ s.bits - bt
      · have hz : s.bits - bt = 0 := by omega
        have hz2 : K = 0 := by omega
        rw [if_pos h0, hz, hz2]; simp [Q]
      · rw [if_neg h0, show (-(s.bits - bt)).toNat = K by omega]
    have HL := hide (e1 lo)
    have HH := hide (show -(downZ (-hi) (s.bits - bt)) = hi * Q K by rw [e1, Int.neg_mul, Int.neg_neg])
    clear e1
    have hK1 : K ≤ 1000000 := by omega
    rw [unhide HL, unhide HH]
    obtain ⟨W, hW⟩ : ∃ W, W = (w.alloc (.cells #[.bool s.ln, .slice s.la s.lN s.lc, .bool s.hn, .slice s.ha s.hN s.hc, .int .i64 s.bits] 38)).alloc (.cells #[.bool false, .slice none 0 0, .bool false, .slice none 0 0, .int .i64 0] 38) := ⟨_, rfl⟩
    have hBW : Below w.heap.size w W := by rw [hW]; exact bl2 _ _ _
    have A : SpC W w.heap.size s := by rw [hW]; exact ⟨by simp [go_sem], by simp [go_sem], by simp [go_sem], by simp [go_sem], by simp [go_sem]⟩
    have R : NoC W (w.heap.size + 1) := by rw [hW]; exact ⟨by simp [go_sem], by simp [go_sem], by simp [go_sem], by simp [go_sem], by simp [go_sem], fun o => by simp [go_sem]⟩
    have HS := hide (hs.below hBW)
    have lA := A.lt
    have lR := R.lt
    have hB0 : Below W.heap.size W W.drew := (Below.refl _ _).drew
    have HK := hide (show ∀ w', Below W.heap.size W w' → (w'.cell? ⟨w.heap.size, 0, none⟩ = some (.bool s.ln) ∧ w'.cell? ⟨w.heap.size, 1, none⟩ = some (.slice s.la s.lN s.lc) ∧ w'.cell? ⟨w.heap.size, 2, none⟩ = some (.bool s.hn) ∧ w'.cell? ⟨w.heap.size, 3, none⟩ = some (.slice s.ha s.hN s.hc)) from fun w' hB => by
      obtain ⟨x0, x1, x2, x3, x4⟩ := A.below hB
      exact ⟨x0, x1, x2, x3⟩)
    go_enter Try.func22, Try.ntmps22
    go_wp2_with fail
    rw [← hW]
    clear hW
    refine (power2_int K _ (by omega)).mono ?_
    rintro r w1 ⟨neg1, a1, n1, c1, rfl, hint1, hb1⟩
    obtain ⟨W1, hW1⟩ : ∃ W', W' = w1.alloc (.cells #[.bool neg1, .slice a1 n1 c1] 24) := ⟨_, rfl⟩
    have hc1 : Below w1.heap.size w1 W1 := by rw [hW1]; exact bl1 _ _
    have X : NmC W1 w1.heap.size ⟨neg1, a1, n1, c1⟩ := by rw [hW1]; exact nmc_new w1 ⟨neg1, a1, n1, c1⟩ _
    have nR : w1.heap.size ≠ w.heap.size + 1 := Nat.ne_of_gt (R.below hb1).lt
    have nR' : w.heap.size + 1 ≠ w1.heap.size := fun e => nR e.symm
    have hB1 := bthen hb1 hc1
    have R1 := R.below hB1
    have A1 := A.below hB1
    have lA1 := A1.lt
    have lR1 := R1.lt
    have lX := X.lt
    replace hint1 := hide (hint1.below hc1)
    replace HS := hide ((unhide HS).below hB1)
    have hD0 : Below W1.heap.size W1 W1.drew := (Below.refl _ _).drew
    have HK1 := hide (show ∀ w', Below W1.heap.size W1 w' → (w'.cell? ⟨w.heap.size, 0, none⟩ = some (.bool s.ln) ∧ w'.cell? ⟨w.heap.size, 1, none⟩ = some (.slice s.la s.lN s.lc) ∧ w'.cell? ⟨w.heap.size, 2, none⟩ = some (.bool s.hn) ∧ w'.cell? ⟨w.heap.size, 3, none⟩ = some (.slice s.ha s.hN s.hc) ∧ w'.cell? ⟨w1.heap.size, 0, none⟩ = some (.bool neg1) ∧ w'.cell? ⟨w1.heap.size, 1, none⟩ = some (.slice a1 n1 c1)) from fun w' hB => by
      obtain ⟨x0, x1, x2, x3, x4⟩ := A1.below hB
      exact ⟨x0, x1, x2, x3, (X.below hB).c0, (X.below hB).c1⟩)
    clear HK hB0
    go_wp2
    rw [← hW1]
    clear hW1
    obtain ⟨i0, i1, i2, i3, i4, i5⟩ := unhide HK1 _ (Below.refl _ _)
    go_region_held3 (fun w' => w'.cell? ⟨w.heap.size, 0, none⟩ = some (.bool s.ln) ∧ w'.cell? ⟨w.heap.size, 1, none⟩ = some (.slice s.la s.lN s.lc) ∧ w'.cell? ⟨w.heap.size, 2, none⟩ = some (.bool s.hn) ∧ w'.cell? ⟨w.heap.size, 3, none⟩ = some (.slice s.ha s.hN s.hc) ∧ w'.cell? ⟨w1.heap.size, 0, none⟩ = some (.bool neg1) ∧ w'.cell? ⟨w1.heap.size, 1, none⟩ = some (.slice a1 n1 c1)) (first | exact unhide HK1 _ (by first | with_reducible exact hD0 | with_reducible exact hD3 | with_reducible exact hD2) | go_keep)
      (first
        | (go_at_call 52; have hq := hD2; refine (mul_int _ _ _ _ _ _ _ _ k (K / 16 + 5) hi (Q K) _ ((unhide HS).hi.below hD2) ((unhide hint1).below hD2) (by omega) (by omega)).mono ?_; rintro r w3 ⟨neg3, a3, n3, c3, rfl, hint3, hb3⟩; replace hint2 := hint2.below hb3; have hD3 := bthen hD2 hb3; obtain ⟨q0, q1, q2, q3, q4, q5⟩ := R1.below hD3; obtain ⟨d0, d1, d2, d3, d4, d5⟩ := unhide HK1 _ hD3)
        | (go_at_call 52; refine (mul_int _ _ _ _ _ _ _ _ k (K / 16 + 5) lo (Q K) _ ((unhide HS).lo.below hD0) ((unhide hint1).below hD0) (by omega) (by omega)).mono ?_; rintro r w2 ⟨neg2, a2, n2, c2, rfl, hint2, hb2⟩; have hD2 := bthen hD0 hb2))
    clear i0 i1 i2 i3 i4 i5
    go_wp2
    refine bodyPost_ret (v := .agg #[.bool neg2, .slice a2 n2 c2, .bool neg3, .slice a3 n3 c3, .int .i64 bt]) (by simp [results, Try.results22, go_sem, q0, q1, q2, q3, q4]) rfl ⟨⟨neg2, a2, n2, c2, neg3, a3, n3, c3, bt⟩, rfl, rfl, ?_, ?_⟩
    · exact SpAt.put5 ⟨hint2.mono (by omega), hint3.mono (by omega)⟩ q0 q1 q2 q3 q4 _ _ _ _ _
    · exact set5 (bthen (bthen hBW hB1) hD3) (Nat.le_succ _) _ _ _ _ _
  · have e0 : ¬ bt ≥ s.bits := hge
    obtain ⟨W, hW⟩ : ∃ W, W = (w.alloc (.cells #[.bool s.ln, .slice s.la s.lN s.lc, .bool s.hn, .slice s.ha s.hN s.hc, .int .i64 s.bits] 38)).alloc (.cells #[.bool false, .slice none 0 0, .bool false, .slice none 0 0, .int .i64 0] 38) := ⟨_, rfl⟩
    have hBW : Below w.heap.size w W := by rw [hW]; exact bl2 _ _ _
    have A : SpC W w.heap.size s := by rw [hW]; exact ⟨by simp [go_sem], by simp [go_sem], by simp [go_sem], by simp [go_sem], by simp [go_sem]⟩
    have R : NoC W (w.heap.size + 1) := by rw [hW]; exact ⟨by simp [go_sem], by simp [go_sem], by simp [go_sem], by simp [go_sem], by simp [go_sem], fun o => by simp [go_sem]⟩
    have HS := hide (hs.below hBW)
    have lA := A.lt
    have lR := R.lt
    have hB0 : Below W.heap.size W W.drew := (Below.refl _ _).drew
    have HK := hide (show ∀ w', Below W.heap.size W w' → (w'.cell? ⟨w.heap.size, 0, none⟩ = some (.bool s.ln) ∧ w'.cell? ⟨w.heap.size, 1, none⟩ = some (.slice s.la s.lN s.lc) ∧ w'.cell? ⟨w.heap.size, 2, none⟩ = some (.bool s.hn) ∧ w'.cell? ⟨w.heap.size, 3, none⟩ = some (.slice s.ha s.hN s.hc)) from fun w' hB => by
      obtain ⟨x0, x1, x2, x3, x4⟩ := A.below hB
      exact ⟨x0, x1, x2, x3⟩)
    go_enter Try.func22, Try.ntmps22
    go_wp2
    obtain ⟨x0, x1, x2, x3, x4⟩ := A
    rw [← hW]
    clear hW
    go_region_held3 (fun w' => w'.cell? ⟨w.heap.size, 0, none⟩ = some (.bool s.ln) ∧ w'.cell? ⟨w.heap.size, 1, none⟩ = some (.slice s.la s.lN s.lc) ∧ w'.cell? ⟨w.heap.size, 2, none⟩ = some (.bool s.hn) ∧ w'.cell? ⟨w.heap.size, 3, none⟩ = some (.slice s.ha s.hN s.hc)) (first | exact unhide HK _ (by first | with_reducible exact hB0 | with_reducible exact hB4 | with_reducible exact hB3 | with_reducible exact hB2 | with_reducible exact hB1) | go_keep)
      (first
        | (go_at_call 80; have hq := hB3; refine (neg_int _ _ _ _ (k + 62505) _ _ (hint3.mono (by omega)) (by omega)).mono ?_; rintro r w4 ⟨neg4, a4, n4, c4, rfl, hint4, hb4⟩; replace hint1 := hint1.below hb4; have hB4 := bthen hB3 hb4; obtain ⟨q0, q1, q2, q3, q4, q5⟩ := R.below hB4; obtain ⟨i0, i1, i2, i3⟩ := unhide HK _ hB4)
        | (go_at_call 79; have hq := hB2; refine (down_z _ _ _ _ k (s.bits - bt) (-hi) _ hint2 (by omega) (by omega) (by omega)).mono ?_; rintro r w3 ⟨neg3, a3, n3, c3, rfl, hint3, hb3⟩; replace hint1 := hint1.below hb3; have hB3 := bthen hB2 hb3)
        | (go_at_call 80; have hq := hB1; refine (neg_int _ _ _ _ k hi _ ((unhide HS).hi.below hB1) (by omega)).mono ?_; rintro r w2 ⟨neg2, a2, n2, c2, rfl, hint2, hb2⟩; replace hint1 := hint1.below hb2; have hB2 := bthen hB1 hb2)
        | (go_at_call 79; refine (down_z _ _ _ _ k (s.bits - bt) lo _ ((unhide HS).lo.below hB0) (by omega) (by omega) (by omega)).mono ?_; rintro r w1 ⟨neg1, a1, n1, c1, rfl, hint1, hb1⟩; have hB1 := bthen hB0 hb1))
    go_wp2
    refine bodyPost_ret (v := .agg #[.bool neg1, .slice a1 n1 c1, .bool neg4, .slice a4 n4 c4, .int .i64 bt]) (by simp [results, Try.results22, go_sem, q0, q1, q2, q3, q4]) rfl ⟨⟨neg1, a1, n1, c1, neg4, a4, n4, c4, bt⟩, rfl, rfl, ?_, ?_⟩
    · exact SpAt.put5 ⟨hint1.mono (by omega), hint4.mono (by omega)⟩ q0 q1 q2 q3 q4 _ _ _ _ _
    · exact set5 (bthen hBW hB4) (Nat.le_succ _) _ _ _ _ _
end Go.Proofs.Ytibbhnmbmgllcaa
