/-
  tailsureref.Ready of a row of ratios; tailsurelaw.far; tailsurelaw.sure.
  tailsurelaw.errorBegun is true.
  tailsurelaw.PowerExps returns true of whatever ratio and bits.
  What tailsurelaw.inside answers, whatever its bounds, and that it leaves old memory alone.
  What tailsureref.Scaled answers, and that it leaves old memory alone.
  The reference's way to what the angles make: its numbers, its end, what it has; and that it is very near the other one. Plain arithmetic: no statement of the seat is proved here.
  What wide.RareOne and tailsureref.raisedInt answer, and that they leave old memory alone.
  What tailsureref.raisedInt, countTerm and CountMass answer, and that they leave old memory alone.
-/
import Derived.Test.YtgmnknmjainababGreatK16
namespace Go.Proofs.YtgmnknmjainababGreat
set_option linter.unusedVariables false
set_option linter.unusedSimpArgs false
set_option linter.unnecessarySimpa false
open Go.RowKit
attribute [local go_sem ↓] Go.wp_at_zero Go.wp_at_succ

set_option maxRecDepth 100000 in
set_option maxHeartbeats 2000000 in
theorem refReady_any (bt : Int) (b n cap : Nat) (p q : Nat → Int) (w : World) (h : Rats w b n p q) (hn : n ≤ 1000) :
    Calls Tryz.prog 10 #[.int .i64 bt, .slice (some ⟨b, 0, none⟩) n cap] w fun r w' => ∃ z, r = .returned (.int .i64 z) ∧ RFlt bt p q n z ∧ Below w.heap.size w w' := by
  have hblt := h.lt
  have HH := hide h
  clear h
  go_enter Tryz.func10, Tryz.ntmps10
  go_wp2
  go_loopw [5] (fun ii wr => ∃ i : Nat, i ≤ n ∧ ii = .int .i64 i ∧ (∀ j, j < i → rok (p j) (q j)) ∧ Below w.heap.size w wr) (fun ii _ => n - (intOf ii).toNat)
  case atStart => exact ⟨0, by omega, rfl, fun j hj => by omega, Below.refl _ _⟩
  case round =>
    obtain ⟨i, hi, rfl, hz, hB⟩ := hrel
    by_cases hin : i < n
    · have H2 := (unhide HH).below hB
      have g0 := H2.c0 i hin
      have g1 := H2.c1 i hin
      have hi1 : (i : Int) < (n : Int) := by omega
      have HZ := hide hz
      clear hz H2
      by_cases hc : rok (p i) (q i)
      · have hc' : decide (rok (p i) (q i)) = true := by simpa using hc
        have HC := hide hc
        clear hc
        go_wp2_with (go_at_call 44; refine (refRightRatio _ _ _).mono ?_; rintro r w1 ⟨rfl, hb1⟩; rw [hc'])
        go_roundw
        case rel => exact ⟨i + 1, by omega, by go_num, fun j hj => by
                            by_cases hji : j = i
                            · subst hji; exact unhide HC
                            · exact unhide HZ j (by omega), bthen hB hb1⟩
        case measure => simp [intOf]; omega
      · have hc' : decide (rok (p i) (q i)) = false := by simpa using hc
        have HC := hide hc
        clear hc
        go_wp2_with (go_at_call 44; refine (refRightRatio _ _ _).mono ?_; rintro r w1 ⟨rfl, hb1⟩; rw [hc'])
        go_ret
        exact ⟨3, rfl, Or.inr ⟨rfl, fun ⟨_, h2⟩ => unhide HC (h2 i hin)⟩, bthen hB hb1⟩
    · have hiE : i = n := by omega
      subst hiE
      have HZ := hide hz
      clear hz hin hi
      by_cases hc : 8 ≤ bt ∧ bt ≤ 120
      · have hc' : bitOk bt = true := by unfold bitOk; simpa using hc
        go_wp2_with (go_at_call 37; refine (refRightBits _ _).mono ?_; rintro r w1 ⟨rfl, rfl⟩; rw [hc'])
        go_ret
        exact ⟨0, rfl, Or.inl ⟨rfl, hc, unhide HZ⟩, hB⟩
      · have hc' : bitOk bt = false := by unfold bitOk; simpa using hc
        have HC := hide hc
        clear hc
        go_wp2_with (go_at_call 37; refine (refRightBits _ _).mono ?_; rintro r w1 ⟨rfl, rfl⟩; rw [hc'])
        go_ret
        exact ⟨3, rfl, Or.inr ⟨rfl, fun ⟨h1, _⟩ => unhide HC h1⟩, hB⟩

set_option maxRecDepth 100000 in
set_option maxHeartbeats 2000000 in
theorem lawSure_bad (w : World) (s t : Sp) (k : Nat) (er bt : Int) (hs : SpAt w s k 0 0) (hb : s.bits = 0) (her : er ≠ 0) :
    Calls Tryz.prog 12 #[.agg #[.bool s.ln, .slice s.la s.lN s.lc, .bool s.hn, .slice s.ha s.hN s.hc, .int .i64 s.bits], .int .i64 er, .int .i64 er, .int .i64 bt, .agg #[.bool t.ln, .slice t.la t.lN t.lc, .bool t.hn, .slice t.ha t.hN t.hc, .int .i64 t.bits]] w fun r w' => r = .returned (.bool true) ∧ Below w.heap.size w w' := by
  have he' : (er != 0) = true := by simpa using her
  have HZ3 := hide hb
  clear hb
  go_enter Tryz.func12, Tryz.ntmps12
  go_wp2_with fail
  refine (same_true _ s ⟨false, none, 0, 0, false, none, 0, 0, 0⟩ k 0 0 (hs.below (bl2 _ _ _)) (zeroSp _ _) (unhide HZ3)).mono ?_
  rintro r w1 ⟨rfl, hb1⟩
  go_wp2_with fail
  go_ret
  exact ⟨rfl, bthen (bl2 _ _ _) hb1⟩

theorem narrowBy_four (w : World) (s : Sp) (b : Nat) (lo hi : Int) (h : SpAt w s 250 lo hi) (hb : s.bits = b) (hb1 : b ≤ 120) (hle : lo ≤ hi) (hN : narB lo hi (Q b) 4 = true) :
    Calls Tryz.prog 47 #[.agg #[.bool s.ln, .slice s.la s.lN s.lc, .bool s.hn, .slice s.ha s.hN s.hc, .int .i64 s.bits], .int .i64 4] w fun r w' => r = .returned (.bool true) ∧ Below w.heap.size w w' :=
  (narrowBy_int w s b 4 lo hi h hb hb1 (by omega) hle).mono fun r w' ⟨h1, h2⟩ => ⟨by rw [h1]; congr 2, h2⟩

set_option maxRecDepth 100000 in
set_option maxHeartbeats 4000000 in
theorem lawSure_a (w : World) (s t : Sp) (b i k : Nat) (lo hi lo' hi' : Int) (hs : SpAt w s 250 lo hi) (ht : SpAt w t k lo' hi') (hk0 : 250 ≤ k) (hk : k ≤ 300000000) (hb : s.bits = b) (hbm : b ≤ 120) (hle : lo ≤ hi) (hi0 : 1 ≤ i) (hi1 : i ≤ 1000) (htb : t.bits = ((b + i : Nat) : Int)) (hN : narB lo hi (Q b) 4 = true) (hT : touB lo hi i lo' hi' 0 = true) (hc : cmpInt lo hi = -1) :
    Calls Tryz.prog 12 #[.agg #[.bool s.ln, .slice s.la s.lN s.lc, .bool s.hn, .slice s.ha s.hN s.hc, .int .i64 s.bits], .int .i64 0, .int .i64 0, .int .i64 s.bits, .agg #[.bool t.ln, .slice t.la t.lN t.lc, .bool t.hn, .slice t.ha t.hN t.hc, .int .i64 t.bits]] w fun r w' => r = .returned (.bool true) ∧ Below w.heap.size w w' := by
  obtain ⟨W, hW⟩ : ∃ W, W = (w.alloc (.cells #[.bool s.ln, .slice s.la s.lN s.lc, .bool s.hn, .slice s.ha s.hN s.hc, .int .i64 s.bits] 28)).alloc (.cells #[.bool t.ln, .slice t.la t.lN t.lc, .bool t.hn, .slice t.ha t.hN t.hc, .int .i64 t.bits] 36) := ⟨_, rfl⟩
  have hBW : Below w.heap.size w W := by rw [hW]; exact bl2 _ _ _
  have A : SpC W w.heap.size s := by rw [hW]; exact ⟨by simp [go_sem], by simp [go_sem], by simp [go_sem], by simp [go_sem], by simp [go_sem]⟩
  have C : SpC W (w.heap.size + 1) t := by rw [hW]; exact ⟨by simp [go_sem], by simp [go_sem], by simp [go_sem], by simp [go_sem], by simp [go_sem]⟩
  have HS := hide (hs.below hBW)
  have HT := hide (ht.below hBW)
  have HSB := hide hb
  have HTB := hide htb
  have HN := hide hN
  have HTO := hide hT
  have HC := hide hc
  have HLE := hide hle
  have HK := hide (show ∀ w', Below W.heap.size W w' → (w'.cell? ⟨w.heap.size, 0, none⟩ = some (.bool s.ln) ∧ w'.cell? ⟨w.heap.size, 1, none⟩ = some (.slice s.la s.lN s.lc) ∧ w'.cell? ⟨w.heap.size, 2, none⟩ = some (.bool s.hn) ∧ w'.cell? ⟨w.heap.size, 3, none⟩ = some (.slice s.ha s.hN s.hc) ∧ w'.cell? ⟨w.heap.size, 4, none⟩ = some (.int .i64 s.bits) ∧ w'.cell? ⟨w.heap.size + 1, 0, none⟩ = some (.bool t.ln) ∧ w'.cell? ⟨w.heap.size + 1, 1, none⟩ = some (.slice t.la t.lN t.lc) ∧ w'.cell? ⟨w.heap.size + 1, 2, none⟩ = some (.bool t.hn) ∧ w'.cell? ⟨w.heap.size + 1, 3, none⟩ = some (.slice t.ha t.hN t.hc) ∧ w'.cell? ⟨w.heap.size + 1, 4, none⟩ = some (.int .i64 t.bits)) from fun w' hB => ⟨(A.below hB).c0, (A.below hB).c1, (A.below hB).c2, (A.below hB).c3, (A.below hB).c4, (C.below hB).c0, (C.below hB).c1, (C.below hB).c2, (C.below hB).c3, (C.below hB).c4⟩)
  clear A C hs ht hb htb hN hT hc hle
  go_enter Tryz.func12, Tryz.ntmps12
  go_wp2
  rw [← hW]
  clear hW
  obtain ⟨x0, x1, x2, x3, x4, y0, y1, y2, y3, y4⟩ := unhide HK _ (Below.refl _ _)
  have hD0 : Below W.heap.size W W.drew := (Below.refl _ _).drew
  go_region_held3 (fun w' => w'.cell? ⟨w.heap.size, 0, none⟩ = some (.bool s.ln) ∧ w'.cell? ⟨w.heap.size, 1, none⟩ = some (.slice s.la s.lN s.lc) ∧ w'.cell? ⟨w.heap.size, 2, none⟩ = some (.bool s.hn) ∧ w'.cell? ⟨w.heap.size, 3, none⟩ = some (.slice s.ha s.hN s.hc) ∧ w'.cell? ⟨w.heap.size, 4, none⟩ = some (.int .i64 s.bits) ∧ w'.cell? ⟨w.heap.size + 1, 0, none⟩ = some (.bool t.ln) ∧ w'.cell? ⟨w.heap.size + 1, 1, none⟩ = some (.slice t.la t.lN t.lc) ∧ w'.cell? ⟨w.heap.size + 1, 2, none⟩ = some (.bool t.hn) ∧ w'.cell? ⟨w.heap.size + 1, 3, none⟩ = some (.slice t.ha t.hN t.hc) ∧ w'.cell? ⟨w.heap.size + 1, 4, none⟩ = some (.int .i64 t.bits)) (first | exact unhide HK _ (by first | with_reducible exact hD0 | with_reducible exact hD6 | with_reducible exact hD5 | with_reducible exact hD4 | with_reducible exact hD3 | with_reducible exact hD2 | with_reducible exact hD1) | go_keep)
    (first
      | (go_at_call 50; have hq := hD5; refine (touch_gt _ s t k i 0 lo hi lo' hi' (((unhide HS).below hD5).mono hk0) ((unhide HT).below hD5) hk (by have := unhide HSB; omega) (by have := unhide HSB; omega) (by have := unhide HTB; omega) (by have := unhide HTB; omega) (by have := unhide HSB; have := unhide HTB; omega) (by have := unhide HSB; have := unhide HTB; omega) (by have := unhide HTB; omega)).mono ?_; rintro r' w6 ⟨rfl, hb6⟩; rw [unhide HTO]; have hD6 := bthen hD5 hb6)
      | (go_at_call 51; have hq := hD4; refine (refOf_any _ s).mono ?_; rintro r' w5 ⟨rfl, hb5⟩; have hD5 := bthen hD4 hb5)
      | (go_at_call 47; have hq := hD3; refine (narrowBy_four _ s b lo hi ((unhide HS).below hD3) (unhide HSB) hbm (unhide HLE) (unhide HN)).mono ?_; rintro r' w4 ⟨rfl, hb4⟩; have hD4 := bthen hD3 hb4)
      | (go_at_call 46; have hq := hD2; refine (cmp_int _ _ _ _ _ _ _ _ _ _ lo hi _ ((unhide HS).lo.below hD2) ((unhide HS).hi.below hD2)).mono ?_; rintro r' w3 ⟨rfl, hb3⟩; rw [unhide HC]; have hD3 := bthen hD2 hb3)
      | (go_at_call 49; have hq := hD1; refine (isRight_int _ _ _ _ 250 hi _ ((unhide HS).hi.below hD1)).mono ?_; rintro r' w2 ⟨rfl, hb2⟩; have hD2 := bthen hD1 hb2)
      | (go_at_call 49; refine (isRight_int _ _ _ _ 250 lo _ ((unhide HS).lo.below hD0)).mono ?_; rintro r' w1 ⟨rfl, hb1⟩; have hD1 := bthen hD0 hb1))
  all_goals
    go_wp2_with fail
    go_ret
    exact ⟨rfl, bthen hBW hD6⟩

set_option maxRecDepth 100000 in
set_option maxHeartbeats 4000000 in
theorem lawSure_b (w : World) (s t : Sp) (b i k : Nat) (lo hi lo' hi' : Int) (hs : SpAt w s 250 lo hi) (ht : SpAt w t k lo' hi') (hk0 : 250 ≤ k) (hk : k ≤ 300000000) (hb : s.bits = b) (hbm : b ≤ 120) (hle : lo ≤ hi) (hi0 : 1 ≤ i) (hi1 : i ≤ 1000) (htb : t.bits = ((b + i : Nat) : Int)) (hN : narB lo hi (Q b) 4 = true) (hT : touB lo hi i lo' hi' 0 = true) (hc : cmpInt lo hi = 0) :
    Calls Tryz.prog 12 #[.agg #[.bool s.ln, .slice s.la s.lN s.lc, .bool s.hn, .slice s.ha s.hN s.hc, .int .i64 s.bits], .int .i64 0, .int .i64 0, .int .i64 s.bits, .agg #[.bool t.ln, .slice t.la t.lN t.lc, .bool t.hn, .slice t.ha t.hN t.hc, .int .i64 t.bits]] w fun r w' => r = .returned (.bool true) ∧ Below w.heap.size w w' := by
  obtain ⟨W, hW⟩ : ∃ W, W = (w.alloc (.cells #[.bool s.ln, .slice s.la s.lN s.lc, .bool s.hn, .slice s.ha s.hN s.hc, .int .i64 s.bits] 28)).alloc (.cells #[.bool t.ln, .slice t.la t.lN t.lc, .bool t.hn, .slice t.ha t.hN t.hc, .int .i64 t.bits] 36) := ⟨_, rfl⟩
  have hBW : Below w.heap.size w W := by rw [hW]; exact bl2 _ _ _
  have A : SpC W w.heap.size s := by rw [hW]; exact ⟨by simp [go_sem], by simp [go_sem], by simp [go_sem], by simp [go_sem], by simp [go_sem]⟩
  have C : SpC W (w.heap.size + 1) t := by rw [hW]; exact ⟨by simp [go_sem], by simp [go_sem], by simp [go_sem], by simp [go_sem], by simp [go_sem]⟩
  have HS := hide (hs.below hBW)
  have HT := hide (ht.below hBW)
  have HSB := hide hb
  have HTB := hide htb
  have HN := hide hN
  have HTO := hide hT
  have HC := hide hc
  have HLE := hide hle
  have HK := hide (show ∀ w', Below W.heap.size W w' → (w'.cell? ⟨w.heap.size, 0, none⟩ = some (.bool s.ln) ∧ w'.cell? ⟨w.heap.size, 1, none⟩ = some (.slice s.la s.lN s.lc) ∧ w'.cell? ⟨w.heap.size, 2, none⟩ = some (.bool s.hn) ∧ w'.cell? ⟨w.heap.size, 3, none⟩ = some (.slice s.ha s.hN s.hc) ∧ w'.cell? ⟨w.heap.size, 4, none⟩ = some (.int .i64 s.bits) ∧ w'.cell? ⟨w.heap.size + 1, 0, none⟩ = some (.bool t.ln) ∧ w'.cell? ⟨w.heap.size + 1, 1, none⟩ = some (.slice t.la t.lN t.lc) ∧ w'.cell? ⟨w.heap.size + 1, 2, none⟩ = some (.bool t.hn) ∧ w'.cell? ⟨w.heap.size + 1, 3, none⟩ = some (.slice t.ha t.hN t.hc) ∧ w'.cell? ⟨w.heap.size + 1, 4, none⟩ = some (.int .i64 t.bits)) from fun w' hB => ⟨(A.below hB).c0, (A.below hB).c1, (A.below hB).c2, (A.below hB).c3, (A.below hB).c4, (C.below hB).c0, (C.below hB).c1, (C.below hB).c2, (C.below hB).c3, (C.below hB).c4⟩)
  clear A C hs ht hb htb hN hT hc hle
  go_enter Tryz.func12, Tryz.ntmps12
  go_wp2
  rw [← hW]
  clear hW
  obtain ⟨x0, x1, x2, x3, x4, y0, y1, y2, y3, y4⟩ := unhide HK _ (Below.refl _ _)
  have hD0 : Below W.heap.size W W.drew := (Below.refl _ _).drew
  go_region_held3 (fun w' => w'.cell? ⟨w.heap.size, 0, none⟩ = some (.bool s.ln) ∧ w'.cell? ⟨w.heap.size, 1, none⟩ = some (.slice s.la s.lN s.lc) ∧ w'.cell? ⟨w.heap.size, 2, none⟩ = some (.bool s.hn) ∧ w'.cell? ⟨w.heap.size, 3, none⟩ = some (.slice s.ha s.hN s.hc) ∧ w'.cell? ⟨w.heap.size, 4, none⟩ = some (.int .i64 s.bits) ∧ w'.cell? ⟨w.heap.size + 1, 0, none⟩ = some (.bool t.ln) ∧ w'.cell? ⟨w.heap.size + 1, 1, none⟩ = some (.slice t.la t.lN t.lc) ∧ w'.cell? ⟨w.heap.size + 1, 2, none⟩ = some (.bool t.hn) ∧ w'.cell? ⟨w.heap.size + 1, 3, none⟩ = some (.slice t.ha t.hN t.hc) ∧ w'.cell? ⟨w.heap.size + 1, 4, none⟩ = some (.int .i64 t.bits)) (first | exact unhide HK _ (by first | with_reducible exact hD0 | with_reducible exact hD6 | with_reducible exact hD5 | with_reducible exact hD4 | with_reducible exact hD3 | with_reducible exact hD2 | with_reducible exact hD1) | go_keep)
    (first
      | (go_at_call 50; have hq := hD5; refine (touch_gt _ s t k i 0 lo hi lo' hi' (((unhide HS).below hD5).mono hk0) ((unhide HT).below hD5) hk (by have := unhide HSB; omega) (by have := unhide HSB; omega) (by have := unhide HTB; omega) (by have := unhide HTB; omega) (by have := unhide HSB; have := unhide HTB; omega) (by have := unhide HSB; have := unhide HTB; omega) (by have := unhide HTB; omega)).mono ?_; rintro r' w6 ⟨rfl, hb6⟩; rw [unhide HTO]; have hD6 := bthen hD5 hb6)
      | (go_at_call 51; have hq := hD4; refine (refOf_any _ s).mono ?_; rintro r' w5 ⟨rfl, hb5⟩; have hD5 := bthen hD4 hb5)
      | (go_at_call 47; have hq := hD3; refine (narrowBy_four _ s b lo hi ((unhide HS).below hD3) (unhide HSB) hbm (unhide HLE) (unhide HN)).mono ?_; rintro r' w4 ⟨rfl, hb4⟩; have hD4 := bthen hD3 hb4)
      | (go_at_call 46; have hq := hD2; refine (cmp_int _ _ _ _ _ _ _ _ _ _ lo hi _ ((unhide HS).lo.below hD2) ((unhide HS).hi.below hD2)).mono ?_; rintro r' w3 ⟨rfl, hb3⟩; rw [unhide HC]; have hD3 := bthen hD2 hb3)
      | (go_at_call 49; have hq := hD1; refine (isRight_int _ _ _ _ 250 hi _ ((unhide HS).hi.below hD1)).mono ?_; rintro r' w2 ⟨rfl, hb2⟩; have hD2 := bthen hD1 hb2)
      | (go_at_call 49; refine (isRight_int _ _ _ _ 250 lo _ ((unhide HS).lo.below hD0)).mono ?_; rintro r' w1 ⟨rfl, hb1⟩; have hD1 := bthen hD0 hb1))
  all_goals
    go_wp2_with fail
    go_ret
    exact ⟨rfl, bthen hBW hD6⟩
end Go.Proofs.YtgmnknmjainababGreat

namespace Go.Proofs.YtgmnknmjainababGreat
set_option linter.unusedVariables false
set_option linter.unusedSimpArgs false
set_option linter.unnecessarySimpa false
open Go.RowKit
attribute [local go_sem ↓] Go.wp_at_zero Go.wp_at_succ

theorem cmp_le3 {x y : Int} (h : x ≤ y) : cmpInt x y = -1 ∨ cmpInt x y = 0 := by
  rcases cmp3 x y with h1 | h1 | h1
  · exact Or.inl h1.1
  · exact Or.inr h1.1
  · omega
theorem cmp_ge3 {x y : Int} (h : y ≤ x) : cmpInt x y = 1 ∨ cmpInt x y = 0 := by
  rcases cmp3 x y with h1 | h1 | h1
  · omega
  · exact Or.inr h1.1
  · exact Or.inl h1.1

set_option maxRecDepth 100000 in
set_option maxHeartbeats 8000000 in
theorem errorBegun_any (w : World) :
    Calls Tryz.prog 11 #[] w fun r w' => r = .returned (.bool true) ∧ Below w.heap.size w w' := by
  obtain ⟨R, hR⟩ := Ex.piR_ex
  go_enter Tryz.func11, Tryz.ntmps11
  go_wp2_with fail
  refine (cerf_ok R hR 1 1 20 _ ⟨by omega, by omega, by omega, by omega⟩ (by omega) (by omega)).mono ?_
  rintro r' w1 ⟨L, H, v, s, rfl, hsb, hs, hb1⟩
  obtain ⟨o1, o2⟩ := erf_of_one hR v
  have hle := v.le
  have HN := hide v.nar
  have hc1 := cmp_le3 o1
  have hc2 := cmp_ge3 o2
  have HSB := hide hsb
  clear hsb o1 o2 v hR
  obtain ⟨V, hV⟩ : ∃ V, V = w1.alloc (.cells #[.bool s.ln, .slice s.la s.lN s.lc, .bool s.hn, .slice s.ha s.hN s.hc, .int .i64 s.bits] 28) := ⟨_, rfl⟩
  have bV : Below w1.heap.size w1 V := by rw [hV]; exact bl1 _ _
  have A : SpC V w1.heap.size s := by rw [hV]; exact spc_new w1 s _
  have HS := hide (hs.below bV)
  have hBW : Below w.heap.size w V := bthen hb1 bV
  have lA := A.lt
  have HK := hide (show ∀ w', Below V.heap.size V w' → (w'.cell? ⟨w1.heap.size, 0, none⟩ = some (.bool s.ln) ∧ w'.cell? ⟨w1.heap.size, 1, none⟩ = some (.slice s.la s.lN s.lc) ∧ w'.cell? ⟨w1.heap.size, 2, none⟩ = some (.bool s.hn) ∧ w'.cell? ⟨w1.heap.size, 3, none⟩ = some (.slice s.ha s.hN s.hc) ∧ w'.cell? ⟨w1.heap.size, 4, none⟩ = some (.int .i64 s.bits)) from fun w' hB => ⟨(A.below hB).c0, (A.below hB).c1, (A.below hB).c2, (A.below hB).c3, (A.below hB).c4⟩)
  have hD0 : Below V.heap.size V V.drew := (Below.refl _ _).drew
  have HC1' := hide hc1
  have HC2' := hide hc2
  clear hs hb1 bV hc1 hc2
  go_wp2_with fail
  rw [← hV]
  clear hV
  obtain ⟨x0, x1, x2, x3, x4⟩ := A
  rcases unhide HC1' with hc1 | hc1 <;> rcases unhide HC2' with hc2 | hc2
  · have HC1 := hide hc1
    have HC2 := hide hc2
    clear hc1 hc2 HC1' HC2'
    go_region_held3 (fun w' => w'.cell? ⟨w1.heap.size, 0, none⟩ = some (.bool s.ln) ∧ w'.cell? ⟨w1.heap.size, 1, none⟩ = some (.slice s.la s.lN s.lc) ∧ w'.cell? ⟨w1.heap.size, 2, none⟩ = some (.bool s.hn) ∧ w'.cell? ⟨w1.heap.size, 3, none⟩ = some (.slice s.ha s.hN s.hc) ∧ w'.cell? ⟨w1.heap.size, 4, none⟩ = some (.int .i64 s.bits)) (first | exact unhide HK _ (by first | with_reducible exact hD0 | with_reducible exact hD5 | with_reducible exact hD4 | with_reducible exact hD3 | with_reducible exact hD2 | with_reducible exact hD1) | go_keep)
      (first
        | (go_at_call 47; have hq := hD4; refine (narrowBy_four _ s 20 L H ((unhide HS).below hD4) (unhide HSB) (by omega) hle (unhide HN)).mono ?_; rintro r g5 ⟨rfl, hg5⟩; have hD5 := bthen hD4 hg5; have i0 := unhide HK _ hD5)
        | (go_at_call 46; have hq := hD3; refine (cmp_int _ _ _ _ _ _ _ _ 250 4 H 883635 _ ((unhide HS).hi.below hD3) hint3).mono ?_; rintro r g4 ⟨rfl, hg4⟩; rw [unhide HC2]; have hD4 := bthen hD3 hg4)
        | (go_at_call 43; have hq := hD2; refine (numOf_int 883635 _ (by omega) (by omega)).mono ?_; rintro r g3 ⟨neg3, a3, n3, c3, rfl, hint3, hg3⟩; have hD3 := bthen hD2 hg3)
        | (go_at_call 46; have hq := hD1; refine (cmp_int _ _ _ _ _ _ _ _ 250 4 L 883636 _ ((unhide HS).lo.below hD1) hint1).mono ?_; rintro r g2 ⟨rfl, hg2⟩; rw [unhide HC1]; have hD2 := bthen hD1 hg2)
        | (go_at_call 43; refine (numOf_int 883636 _ (by omega) (by omega)).mono ?_; rintro r g1 ⟨neg1, a1, n1, c1, rfl, hint1, hg1⟩; have hD1 := bthen hD0 hg1))
    all_goals
      go_wp2_with fail
      exact bodyPost_ret (v := .bool true) (by simp [results, Tryz.results11]) rfl ⟨rfl, bthen hBW hD5⟩
  · have HC1 := hide hc1
    have HC2 := hide hc2
    clear hc1 hc2 HC1' HC2'
    go_region_held3 (fun w' => w'.cell? ⟨w1.heap.size, 0, none⟩ = some (.bool s.ln) ∧ w'.cell? ⟨w1.heap.size, 1, none⟩ = some (.slice s.la s.lN s.lc) ∧ w'.cell? ⟨w1.heap.size, 2, none⟩ = some (.bool s.hn) ∧ w'.cell? ⟨w1.heap.size, 3, none⟩ = some (.slice s.ha s.hN s.hc) ∧ w'.cell? ⟨w1.heap.size, 4, none⟩ = some (.int .i64 s.bits)) (first | exact unhide HK _ (by first | with_reducible exact hD0 | with_reducible exact hD5 | with_reducible exact hD4 | with_reducible exact hD3 | with_reducible exact hD2 | with_reducible exact hD1) | go_keep)
      (first
        | (go_at_call 47; have hq := hD4; refine (narrowBy_four _ s 20 L H ((unhide HS).below hD4) (unhide HSB) (by omega) hle (unhide HN)).mono ?_; rintro r g5 ⟨rfl, hg5⟩; have hD5 := bthen hD4 hg5; have i0 := unhide HK _ hD5)
        | (go_at_call 46; have hq := hD3; refine (cmp_int _ _ _ _ _ _ _ _ 250 4 H 883635 _ ((unhide HS).hi.below hD3) hint3).mono ?_; rintro r g4 ⟨rfl, hg4⟩; rw [unhide HC2]; have hD4 := bthen hD3 hg4)
        | (go_at_call 43; have hq := hD2; refine (numOf_int 883635 _ (by omega) (by omega)).mono ?_; rintro r g3 ⟨neg3, a3, n3, c3, rfl, hint3, hg3⟩; have hD3 := bthen hD2 hg3)
        | (go_at_call 46; have hq := hD1; refine (cmp_int _ _ _ _ _ _ _ _ 250 4 L 883636 _ ((unhide HS).lo.below hD1) hint1).mono ?_; rintro r g2 ⟨rfl, hg2⟩; rw [unhide HC1]; have hD2 := bthen hD1 hg2)
        | (go_at_call 43; refine (numOf_int 883636 _ (by omega) (by omega)).mono ?_; rintro r g1 ⟨neg1, a1, n1, c1, rfl, hint1, hg1⟩; have hD1 := bthen hD0 hg1))
    all_goals
      go_wp2_with fail
      exact bodyPost_ret (v := .bool true) (by simp [results, Tryz.results11]) rfl ⟨rfl, bthen hBW hD5⟩
  · have HC1 := hide hc1
    have HC2 := hide hc2
    clear hc1 hc2 HC1' HC2'
    go_region_held3 (fun w' => w'.cell? ⟨w1.heap.size, 0, none⟩ = some (.bool s.ln) ∧ w'.cell? ⟨w1.heap.size, 1, none⟩ = some (.slice s.la s.lN s.lc) ∧ w'.cell? ⟨w1.heap.size, 2, none⟩ = some (.bool s.hn) ∧ w'.cell? ⟨w1.heap.size, 3, none⟩ = some (.slice s.ha s.hN s.hc) ∧ w'.cell? ⟨w1.heap.size, 4, none⟩ = some (.int .i64 s.bits)) (first | exact unhide HK _ (by first | with_reducible exact hD0 | with_reducible exact hD5 | with_reducible exact hD4 | with_reducible exact hD3 | with_reducible exact hD2 | with_reducible exact hD1) | go_keep)
      (first
        | (go_at_call 47; have hq := hD4; refine (narrowBy_four _ s 20 L H ((unhide HS).below hD4) (unhide HSB) (by omega) hle (unhide HN)).mono ?_; rintro r g5 ⟨rfl, hg5⟩; have hD5 := bthen hD4 hg5; have i0 := unhide HK _ hD5)
        | (go_at_call 46; have hq := hD3; refine (cmp_int _ _ _ _ _ _ _ _ 250 4 H 883635 _ ((unhide HS).hi.below hD3) hint3).mono ?_; rintro r g4 ⟨rfl, hg4⟩; rw [unhide HC2]; have hD4 := bthen hD3 hg4)
        | (go_at_call 43; have hq := hD2; refine (numOf_int 883635 _ (by omega) (by omega)).mono ?_; rintro r g3 ⟨neg3, a3, n3, c3, rfl, hint3, hg3⟩; have hD3 := bthen hD2 hg3)
        | (go_at_call 46; have hq := hD1; refine (cmp_int _ _ _ _ _ _ _ _ 250 4 L 883636 _ ((unhide HS).lo.below hD1) hint1).mono ?_; rintro r g2 ⟨rfl, hg2⟩; rw [unhide HC1]; have hD2 := bthen hD1 hg2)
        | (go_at_call 43; refine (numOf_int 883636 _ (by omega) (by omega)).mono ?_; rintro r g1 ⟨neg1, a1, n1, c1, rfl, hint1, hg1⟩; have hD1 := bthen hD0 hg1))
    all_goals
      go_wp2_with fail
      exact bodyPost_ret (v := .bool true) (by simp [results, Tryz.results11]) rfl ⟨rfl, bthen hBW hD5⟩
  · have HC1 := hide hc1
    have HC2 := hide hc2
    clear hc1 hc2 HC1' HC2'
    go_region_held3 (fun w' => w'.cell? ⟨w1.heap.size, 0, none⟩ = some (.bool s.ln) ∧ w'.cell? ⟨w1.heap.size, 1, none⟩ = some (.slice s.la s.lN s.lc) ∧ w'.cell? ⟨w1.heap.size, 2, none⟩ = some (.bool s.hn) ∧ w'.cell? ⟨w1.heap.size, 3, none⟩ = some (.slice s.ha s.hN s.hc) ∧ w'.cell? ⟨w1.heap.size, 4, none⟩ = some (.int .i64 s.bits)) (first | exact unhide HK _ (by first | with_reducible exact hD0 | with_reducible exact hD5 | with_reducible exact hD4 | with_reducible exact hD3 | with_reducible exact hD2 | with_reducible exact hD1) | go_keep)
      (first
        | (go_at_call 47; have hq := hD4; refine (narrowBy_four _ s 20 L H ((unhide HS).below hD4) (unhide HSB) (by omega) hle (unhide HN)).mono ?_; rintro r g5 ⟨rfl, hg5⟩; have hD5 := bthen hD4 hg5; have i0 := unhide HK _ hD5)
        | (go_at_call 46; have hq := hD3; refine (cmp_int _ _ _ _ _ _ _ _ 250 4 H 883635 _ ((unhide HS).hi.below hD3) hint3).mono ?_; rintro r g4 ⟨rfl, hg4⟩; rw [unhide HC2]; have hD4 := bthen hD3 hg4)
        | (go_at_call 43; have hq := hD2; refine (numOf_int 883635 _ (by omega) (by omega)).mono ?_; rintro r g3 ⟨neg3, a3, n3, c3, rfl, hint3, hg3⟩; have hD3 := bthen hD2 hg3)
        | (go_at_call 46; have hq := hD1; refine (cmp_int _ _ _ _ _ _ _ _ 250 4 L 883636 _ ((unhide HS).lo.below hD1) hint1).mono ?_; rintro r g2 ⟨rfl, hg2⟩; rw [unhide HC1]; have hD2 := bthen hD1 hg2)
        | (go_at_call 43; refine (numOf_int 883636 _ (by omega) (by omega)).mono ?_; rintro r g1 ⟨neg1, a1, n1, c1, rfl, hint1, hg1⟩; have hD1 := bthen hD0 hg1))
    all_goals
      go_wp2_with fail
      exact bodyPost_ret (v := .bool true) (by simp [results, Tryz.results11]) rfl ⟨rfl, bthen hBW hD5⟩
end Go.Proofs.YtgmnknmjainababGreat

namespace Go.Proofs.YtgmnknmjainababGreat
set_option linter.unusedVariables false
set_option linter.unusedSimpArgs false
set_option linter.unnecessarySimpa false
open Go.RowKit
attribute [local go_sem ↓] Go.wp_at_zero Go.wp_at_succ

theorem refReady1 (bt : Int) (w : World) (B : Nat) (hB : w.heap.size = B) (p q : Int) (T : TypeId) (cap : Nat) :
    Calls Tryz.prog 10 #[.int .i64 bt, .slice (some ⟨B, 0, none⟩) 1 cap] (w.alloc (.cells #[.int .i64 p, .int .i64 q] T)) fun r w' =>
      r = .returned (.int .i64 (ratE p q bt)) ∧ Below w.heap.size w w' := by
  subst hB
  exact (refReady_any bt w.heap.size 1 cap (fun _ => p) (fun _ => q) _ (rats1 w p q T) (by omega)).mono fun r w' ⟨z, h1, h2, h3⟩ => by
    refine ⟨?_, (bl1 _ _).trans (h3.mono (by simp))⟩
    rw [h1]; unfold ratE
    rcases h2 with ⟨rfl, h4, h5⟩ | ⟨rfl, h4⟩
    · rw [if_pos ⟨h5 0 (by omega), h4⟩]
    · rw [if_neg (fun ⟨h5, h6⟩ => h4 ⟨h6, fun _ _ => h5⟩)]

theorem lawSure_ok (w : World) (s t : Sp) (b i k : Nat) (lo hi lo' hi' : Int) (hs : SpAt w s 250 lo hi) (ht : SpAt w t k lo' hi') (hk0 : 250 ≤ k) (hk : k ≤ 300000000) (hb : s.bits = b) (hb1 : b ≤ 120) (hle : lo ≤ hi) (hi0 : 1 ≤ i) (hi1 : i ≤ 1000) (htb : t.bits = ((b + i : Nat) : Int)) (hN : narB lo hi (Q b) 4 = true) (hT : touB lo hi i lo' hi' 0 = true) :
    Calls Tryz.prog 12 #[.agg #[.bool s.ln, .slice s.la s.lN s.lc, .bool s.hn, .slice s.ha s.hN s.hc, .int .i64 s.bits], .int .i64 0, .int .i64 0, .int .i64 b, .agg #[.bool t.ln, .slice t.la t.lN t.lc, .bool t.hn, .slice t.ha t.hN t.hc, .int .i64 t.bits]] w fun r w' => r = .returned (.bool true) ∧ Below w.heap.size w w' := by
  rw [← hb]
  rcases cmp3 lo hi with ⟨h1, h2⟩ | ⟨h1, h2⟩ | ⟨h1, h2⟩
  · exact lawSure_a w s t b i k lo hi lo' hi' hs ht hk0 hk hb hb1 hle hi0 hi1 htb hN hT h1
  · exact lawSure_b w s t b i k lo hi lo' hi' hs ht hk0 hk hb hb1 hle hi0 hi1 htb hN hT h1
  · omega

end Go.Proofs.YtgmnknmjainababGreat

namespace Go.Proofs.YtgmnknmjainababGreat
set_option linter.unusedVariables false
set_option linter.unusedSimpArgs false
set_option linter.unnecessarySimpa false
open Go.RowKit
attribute [local go_sem ↓] Go.wp_at_zero Go.wp_at_succ

theorem refWholeZ {b : Nat} (z : Int) (hz : z = (b : Int)) (w : World) (n : Int) (hb : b ≤ 100000) (h0 : -9223372036854775808 ≤ n) (h1 : n ≤ 9223372036854775807) :
    Calls Tryz.prog 27 #[.int .i64 n, .int .i64 z] w (SpanAns w b (b / 16 + 18) (n * Q b) (n * Q b)) := by
  subst hz; exact refWhole w n b hb h0 h1

set_option maxRecDepth 100000 in
set_option maxHeartbeats 4000000 in
theorem ins_aa (w : World) (s : Sp) (K b : Nat) (lo hi m1 m2 : Int) (hs : SpAt w s K lo hi) (hbits : s.bits = (b : Int)) (hb : b ≤ 10000) (hm1 : -1000 ≤ m1) (hm2 : m1 ≤ 1000) (hm3 : -1000 ≤ m2) (hm4 : m2 ≤ 1000) (h1 : cmpInt lo (m1 * Q b) = 0) (h2 : cmpInt hi (m2 * Q b) = -1) :
    Calls Tryz.prog 15 #[.agg #[.bool s.ln, .slice s.la s.lN s.lc, .bool s.hn, .slice s.ha s.hN s.hc, .int .i64 s.bits], .int .i64 m1, .int .i64 m2] w fun r w' => r = .returned (.bool true) ∧ Below w.heap.size w w' := by
  obtain ⟨W, hW⟩ : ∃ W, W = w.alloc (.cells #[.bool s.ln, .slice s.la s.lN s.lc, .bool s.hn, .slice s.ha s.hN s.hc, .int .i64 s.bits] 28) := ⟨_, rfl⟩
  have hBW : Below w.heap.size w W := by rw [hW]; exact bl1 _ _
  have A : SpC W w.heap.size s := by rw [hW]; exact ⟨by simp [go_sem], by simp [go_sem], by simp [go_sem], by simp [go_sem], by simp [go_sem]⟩
  have HS := hide (hs.below hBW)
  have HB := hide hbits
  have H1 := hide h1
  have H2 := hide h2
  have HK := hide (show ∀ w', Below W.heap.size W w' → (w'.cell? ⟨w.heap.size, 0, none⟩ = some (.bool s.ln) ∧ w'.cell? ⟨w.heap.size, 1, none⟩ = some (.slice s.la s.lN s.lc) ∧ w'.cell? ⟨w.heap.size, 2, none⟩ = some (.bool s.hn) ∧ w'.cell? ⟨w.heap.size, 3, none⟩ = some (.slice s.ha s.hN s.hc) ∧ w'.cell? ⟨w.heap.size, 4, none⟩ = some (.int .i64 s.bits)) from fun w' hB => ⟨(A.below hB).c0, (A.below hB).c1, (A.below hB).c2, (A.below hB).c3, (A.below hB).c4⟩)
  clear hs hbits h1 h2 A
  have hf0 := fieldS0
  go_enter Tryz.func15, Tryz.ntmps15
  go_wp2
  rw [← hW]
  clear hW
  obtain ⟨x0, x1, x2, x3, x4⟩ := unhide HK _ (Below.refl _ _)
  have hD0 : Below W.heap.size W W.drew := (Below.refl _ _).drew
  go_region_held3 (fun w' => w'.cell? ⟨w.heap.size, 0, none⟩ = some (.bool s.ln) ∧ w'.cell? ⟨w.heap.size, 1, none⟩ = some (.slice s.la s.lN s.lc) ∧ w'.cell? ⟨w.heap.size, 2, none⟩ = some (.bool s.hn) ∧ w'.cell? ⟨w.heap.size, 3, none⟩ = some (.slice s.ha s.hN s.hc) ∧ w'.cell? ⟨w.heap.size, 4, none⟩ = some (.int .i64 s.bits)) (first | exact unhide HK _ (by first | with_reducible exact hD0 | with_reducible exact hD4 | with_reducible exact hD3 | with_reducible exact hD2 | with_reducible exact hD1) | go_keep)
    (first
      | (go_at_call 46; have hqq := hD3; refine (cmp_int _ _ _ _ _ _ _ _ _ _ hi (m2 * Q b) _ ((unhide HS).hi.below hD3) hs3.lo).mono ?_; rintro r' w4 ⟨rfl, hb4⟩; rw [unhide H2]; have hD4 := bthen hD3 hb4)
      | (go_at_call 27; have hqq := hD2; refine (refWholeZ s.bits (unhide HB) _ m2 (by omega) (by omega) (by omega)).mono ?_; rintro r' w3 ⟨v3, rfl, hvb3, hs3, hb3⟩; clear hvb3; have hD3 := bthen hD2 hb3)
      | (go_at_call 46; have hqq := hD1; refine (cmp_int _ _ _ _ _ _ _ _ _ _ lo (m1 * Q b) _ ((unhide HS).lo.below hD1) hs1.lo).mono ?_; rintro r' w2 ⟨rfl, hb2⟩; rw [unhide H1]; have hD2 := bthen hD1 hb2)
      | (go_at_call 27; refine (refWholeZ s.bits (unhide HB) _ m1 (by omega) (by omega) (by omega)).mono ?_; rintro r' w1 ⟨v1, rfl, hvb1, hs1, hb1⟩; clear hvb1; have hD1 := bthen hD0 hb1))
  all_goals
    go_wp2_with fail
    go_ret
    exact ⟨rfl, bthen hBW hD4⟩

set_option maxRecDepth 100000 in
set_option maxHeartbeats 4000000 in
theorem ins_ab (w : World) (s : Sp) (K b : Nat) (lo hi m1 m2 : Int) (hs : SpAt w s K lo hi) (hbits : s.bits = (b : Int)) (hb : b ≤ 10000) (hm1 : -1000 ≤ m1) (hm2 : m1 ≤ 1000) (hm3 : -1000 ≤ m2) (hm4 : m2 ≤ 1000) (h1 : cmpInt lo (m1 * Q b) = 0) (h2 : cmpInt hi (m2 * Q b) = 0) :
    Calls Tryz.prog 15 #[.agg #[.bool s.ln, .slice s.la s.lN s.lc, .bool s.hn, .slice s.ha s.hN s.hc, .int .i64 s.bits], .int .i64 m1, .int .i64 m2] w fun r w' => r = .returned (.bool true) ∧ Below w.heap.size w w' := by
  obtain ⟨W, hW⟩ : ∃ W, W = w.alloc (.cells #[.bool s.ln, .slice s.la s.lN s.lc, .bool s.hn, .slice s.ha s.hN s.hc, .int .i64 s.bits] 28) := ⟨_, rfl⟩
  have hBW : Below w.heap.size w W := by rw [hW]; exact bl1 _ _
  have A : SpC W w.heap.size s := by rw [hW]; exact ⟨by simp [go_sem], by simp [go_sem], by simp [go_sem], by simp [go_sem], by simp [go_sem]⟩
  have HS := hide (hs.below hBW)
  have HB := hide hbits
  have H1 := hide h1
  have H2 := hide h2
  have HK := hide (show ∀ w', Below W.heap.size W w' → (w'.cell? ⟨w.heap.size, 0, none⟩ = some (.bool s.ln) ∧ w'.cell? ⟨w.heap.size, 1, none⟩ = some (.slice s.la s.lN s.lc) ∧ w'.cell? ⟨w.heap.size, 2, none⟩ = some (.bool s.hn) ∧ w'.cell? ⟨w.heap.size, 3, none⟩ = some (.slice s.ha s.hN s.hc) ∧ w'.cell? ⟨w.heap.size, 4, none⟩ = some (.int .i64 s.bits)) from fun w' hB => ⟨(A.below hB).c0, (A.below hB).c1, (A.below hB).c2, (A.below hB).c3, (A.below hB).c4⟩)
  clear hs hbits h1 h2 A
  have hf0 := fieldS0
  go_enter Tryz.func15, Tryz.ntmps15
  go_wp2
  rw [← hW]
  clear hW
  obtain ⟨x0, x1, x2, x3, x4⟩ := unhide HK _ (Below.refl _ _)
  have hD0 : Below W.heap.size W W.drew := (Below.refl _ _).drew
  go_region_held3 (fun w' => w'.cell? ⟨w.heap.size, 0, none⟩ = some (.bool s.ln) ∧ w'.cell? ⟨w.heap.size, 1, none⟩ = some (.slice s.la s.lN s.lc) ∧ w'.cell? ⟨w.heap.size, 2, none⟩ = some (.bool s.hn) ∧ w'.cell? ⟨w.heap.size, 3, none⟩ = some (.slice s.ha s.hN s.hc) ∧ w'.cell? ⟨w.heap.size, 4, none⟩ = some (.int .i64 s.bits)) (first | exact unhide HK _ (by first | with_reducible exact hD0 | with_reducible exact hD4 | with_reducible exact hD3 | with_reducible exact hD2 | with_reducible exact hD1) | go_keep)
    (first
      | (go_at_call 46; have hqq := hD3; refine (cmp_int _ _ _ _ _ _ _ _ _ _ hi (m2 * Q b) _ ((unhide HS).hi.below hD3) hs3.lo).mono ?_; rintro r' w4 ⟨rfl, hb4⟩; rw [unhide H2]; have hD4 := bthen hD3 hb4)
      | (go_at_call 27; have hqq := hD2; refine (refWholeZ s.bits (unhide HB) _ m2 (by omega) (by omega) (by omega)).mono ?_; rintro r' w3 ⟨v3, rfl, hvb3, hs3, hb3⟩; clear hvb3; have hD3 := bthen hD2 hb3)
      | (go_at_call 46; have hqq := hD1; refine (cmp_int _ _ _ _ _ _ _ _ _ _ lo (m1 * Q b) _ ((unhide HS).lo.below hD1) hs1.lo).mono ?_; rintro r' w2 ⟨rfl, hb2⟩; rw [unhide H1]; have hD2 := bthen hD1 hb2)
      | (go_at_call 27; refine (refWholeZ s.bits (unhide HB) _ m1 (by omega) (by omega) (by omega)).mono ?_; rintro r' w1 ⟨v1, rfl, hvb1, hs1, hb1⟩; clear hvb1; have hD1 := bthen hD0 hb1))
  all_goals
    go_wp2_with fail
    go_ret
    exact ⟨rfl, bthen hBW hD4⟩

set_option maxRecDepth 100000 in
set_option maxHeartbeats 4000000 in
theorem ins_ba (w : World) (s : Sp) (K b : Nat) (lo hi m1 m2 : Int) (hs : SpAt w s K lo hi) (hbits : s.bits = (b : Int)) (hb : b ≤ 10000) (hm1 : -1000 ≤ m1) (hm2 : m1 ≤ 1000) (hm3 : -1000 ≤ m2) (hm4 : m2 ≤ 1000) (h1 : cmpInt lo (m1 * Q b) = 1) (h2 : cmpInt hi (m2 * Q b) = -1) :
    Calls Tryz.prog 15 #[.agg #[.bool s.ln, .slice s.la s.lN s.lc, .bool s.hn, .slice s.ha s.hN s.hc, .int .i64 s.bits], .int .i64 m1, .int .i64 m2] w fun r w' => r = .returned (.bool true) ∧ Below w.heap.size w w' := by
  obtain ⟨W, hW⟩ : ∃ W, W = w.alloc (.cells #[.bool s.ln, .slice s.la s.lN s.lc, .bool s.hn, .slice s.ha s.hN s.hc, .int .i64 s.bits] 28) := ⟨_, rfl⟩
  have hBW : Below w.heap.size w W := by rw [hW]; exact bl1 _ _
  have A : SpC W w.heap.size s := by rw [hW]; exact ⟨by simp [go_sem], by simp [go_sem], by simp [go_sem], by simp [go_sem], by simp [go_sem]⟩
  have HS := hide (hs.below hBW)
  have HB := hide hbits
  have H1 := hide h1
  have H2 := hide h2
  have HK := hide (show ∀ w', Below W.heap.size W w' → (w'.cell? ⟨w.heap.size, 0, none⟩ = some (.bool s.ln) ∧ w'.cell? ⟨w.heap.size, 1, none⟩ = some (.slice s.la s.lN s.lc) ∧ w'.cell? ⟨w.heap.size, 2, none⟩ = some (.bool s.hn) ∧ w'.cell? ⟨w.heap.size, 3, none⟩ = some (.slice s.ha s.hN s.hc) ∧ w'.cell? ⟨w.heap.size, 4, none⟩ = some (.int .i64 s.bits)) from fun w' hB => ⟨(A.below hB).c0, (A.below hB).c1, (A.below hB).c2, (A.below hB).c3, (A.below hB).c4⟩)
  clear hs hbits h1 h2 A
  have hf0 := fieldS0
  go_enter Tryz.func15, Tryz.ntmps15
  go_wp2
  rw [← hW]
  clear hW
  obtain ⟨x0, x1, x2, x3, x4⟩ := unhide HK _ (Below.refl _ _)
  have hD0 : Below W.heap.size W W.drew := (Below.refl _ _).drew
  go_region_held3 (fun w' => w'.cell? ⟨w.heap.size, 0, none⟩ = some (.bool s.ln) ∧ w'.cell? ⟨w.heap.size, 1, none⟩ = some (.slice s.la s.lN s.lc) ∧ w'.cell? ⟨w.heap.size, 2, none⟩ = some (.bool s.hn) ∧ w'.cell? ⟨w.heap.size, 3, none⟩ = some (.slice s.ha s.hN s.hc) ∧ w'.cell? ⟨w.heap.size, 4, none⟩ = some (.int .i64 s.bits)) (first | exact unhide HK _ (by first | with_reducible exact hD0 | with_reducible exact hD4 | with_reducible exact hD3 | with_reducible exact hD2 | with_reducible exact hD1) | go_keep)
    (first
      | (go_at_call 46; have hqq := hD3; refine (cmp_int _ _ _ _ _ _ _ _ _ _ hi (m2 * Q b) _ ((unhide HS).hi.below hD3) hs3.lo).mono ?_; rintro r' w4 ⟨rfl, hb4⟩; rw [unhide H2]; have hD4 := bthen hD3 hb4)
      | (go_at_call 27; have hqq := hD2; refine (refWholeZ s.bits (unhide HB) _ m2 (by omega) (by omega) (by omega)).mono ?_; rintro r' w3 ⟨v3, rfl, hvb3, hs3, hb3⟩; clear hvb3; have hD3 := bthen hD2 hb3)
      | (go_at_call 46; have hqq := hD1; refine (cmp_int _ _ _ _ _ _ _ _ _ _ lo (m1 * Q b) _ ((unhide HS).lo.below hD1) hs1.lo).mono ?_; rintro r' w2 ⟨rfl, hb2⟩; rw [unhide H1]; have hD2 := bthen hD1 hb2)
      | (go_at_call 27; refine (refWholeZ s.bits (unhide HB) _ m1 (by omega) (by omega) (by omega)).mono ?_; rintro r' w1 ⟨v1, rfl, hvb1, hs1, hb1⟩; clear hvb1; have hD1 := bthen hD0 hb1))
  all_goals
    go_wp2_with fail
    go_ret
    exact ⟨rfl, bthen hBW hD4⟩

set_option maxRecDepth 100000 in
set_option maxHeartbeats 4000000 in
theorem ins_bb (w : World) (s : Sp) (K b : Nat) (lo hi m1 m2 : Int) (hs : SpAt w s K lo hi) (hbits : s.bits = (b : Int)) (hb : b ≤ 10000) (hm1 : -1000 ≤ m1) (hm2 : m1 ≤ 1000) (hm3 : -1000 ≤ m2) (hm4 : m2 ≤ 1000) (h1 : cmpInt lo (m1 * Q b) = 1) (h2 : cmpInt hi (m2 * Q b) = 0) :
    Calls Tryz.prog 15 #[.agg #[.bool s.ln, .slice s.la s.lN s.lc, .bool s.hn, .slice s.ha s.hN s.hc, .int .i64 s.bits], .int .i64 m1, .int .i64 m2] w fun r w' => r = .returned (.bool true) ∧ Below w.heap.size w w' := by
  obtain ⟨W, hW⟩ : ∃ W, W = w.alloc (.cells #[.bool s.ln, .slice s.la s.lN s.lc, .bool s.hn, .slice s.ha s.hN s.hc, .int .i64 s.bits] 28) := ⟨_, rfl⟩
  have hBW : Below w.heap.size w W := by rw [hW]; exact bl1 _ _
  have A : SpC W w.heap.size s := by rw [hW]; exact ⟨by simp [go_sem], by simp [go_sem], by simp [go_sem], by simp [go_sem], by simp [go_sem]⟩
  have HS := hide (hs.below hBW)
  have HB := hide hbits
  have H1 := hide h1
  have H2 := hide h2
  have HK := hide (show ∀ w', Below W.heap.size W w' → (w'.cell? ⟨w.heap.size, 0, none⟩ = some (.bool s.ln) ∧ w'.cell? ⟨w.heap.size, 1, none⟩ = some (.slice s.la s.lN s.lc) ∧ w'.cell? ⟨w.heap.size, 2, none⟩ = some (.bool s.hn) ∧ w'.cell? ⟨w.heap.size, 3, none⟩ = some (.slice s.ha s.hN s.hc) ∧ w'.cell? ⟨w.heap.size, 4, none⟩ = some (.int .i64 s.bits)) from fun w' hB => ⟨(A.below hB).c0, (A.below hB).c1, (A.below hB).c2, (A.below hB).c3, (A.below hB).c4⟩)
  clear hs hbits h1 h2 A
  have hf0 := fieldS0
  go_enter Tryz.func15, Tryz.ntmps15
  go_wp2
  rw [← hW]
  clear hW
  obtain ⟨x0, x1, x2, x3, x4⟩ := unhide HK _ (Below.refl _ _)
  have hD0 : Below W.heap.size W W.drew := (Below.refl _ _).drew
  go_region_held3 (fun w' => w'.cell? ⟨w.heap.size, 0, none⟩ = some (.bool s.ln) ∧ w'.cell? ⟨w.heap.size, 1, none⟩ = some (.slice s.la s.lN s.lc) ∧ w'.cell? ⟨w.heap.size, 2, none⟩ = some (.bool s.hn) ∧ w'.cell? ⟨w.heap.size, 3, none⟩ = some (.slice s.ha s.hN s.hc) ∧ w'.cell? ⟨w.heap.size, 4, none⟩ = some (.int .i64 s.bits)) (first | exact unhide HK _ (by first | with_reducible exact hD0 | with_reducible exact hD4 | with_reducible exact hD3 | with_reducible exact hD2 | with_reducible exact hD1) | go_keep)
    (first
      | (go_at_call 46; have hqq := hD3; refine (cmp_int _ _ _ _ _ _ _ _ _ _ hi (m2 * Q b) _ ((unhide HS).hi.below hD3) hs3.lo).mono ?_; rintro r' w4 ⟨rfl, hb4⟩; rw [unhide H2]; have hD4 := bthen hD3 hb4)
      | (go_at_call 27; have hqq := hD2; refine (refWholeZ s.bits (unhide HB) _ m2 (by omega) (by omega) (by omega)).mono ?_; rintro r' w3 ⟨v3, rfl, hvb3, hs3, hb3⟩; clear hvb3; have hD3 := bthen hD2 hb3)
      | (go_at_call 46; have hqq := hD1; refine (cmp_int _ _ _ _ _ _ _ _ _ _ lo (m1 * Q b) _ ((unhide HS).lo.below hD1) hs1.lo).mono ?_; rintro r' w2 ⟨rfl, hb2⟩; rw [unhide H1]; have hD2 := bthen hD1 hb2)
      | (go_at_call 27; refine (refWholeZ s.bits (unhide HB) _ m1 (by omega) (by omega) (by omega)).mono ?_; rintro r' w1 ⟨v1, rfl, hvb1, hs1, hb1⟩; clear hvb1; have hD1 := bthen hD0 hb1))
  all_goals
    go_wp2_with fail
    go_ret
    exact ⟨rfl, bthen hBW hD4⟩

theorem ins_ok (w : World) (s : Sp) (K b : Nat) (lo hi m1 m2 : Int) (hs : SpAt w s K lo hi) (hbits : s.bits = (b : Int)) (hb : b ≤ 10000) (hm1 : -1000 ≤ m1) (hm2 : m1 ≤ 1000) (hm3 : -1000 ≤ m2) (hm4 : m2 ≤ 1000) (h1 : m1 * Q b ≤ lo) (h2 : hi ≤ m2 * Q b) :
    Calls Tryz.prog 15 #[.agg #[.bool s.ln, .slice s.la s.lN s.lc, .bool s.hn, .slice s.ha s.hN s.hc, .int .i64 s.bits], .int .i64 m1, .int .i64 m2] w fun r w' => r = .returned (.bool true) ∧ Below w.heap.size w w' := by
  rcases cmp3 lo (m1 * Q b) with ⟨e1, g1⟩ | ⟨e1, g1⟩ | ⟨e1, g1⟩
  · omega
  · rcases cmp3 hi (m2 * Q b) with ⟨e2, g2⟩ | ⟨e2, g2⟩ | ⟨e2, g2⟩
    · exact ins_aa w s K b lo hi m1 m2 hs hbits hb hm1 hm2 hm3 hm4 e1 e2
    · exact ins_ab w s K b lo hi m1 m2 hs hbits hb hm1 hm2 hm3 hm4 e1 e2
    · omega
  · rcases cmp3 hi (m2 * Q b) with ⟨e2, g2⟩ | ⟨e2, g2⟩ | ⟨e2, g2⟩
    · exact ins_ba w s K b lo hi m1 m2 hs hbits hb hm1 hm2 hm3 hm4 e1 e2
    · exact ins_bb w s K b lo hi m1 m2 hs hbits hb hm1 hm2 hm3 hm4 e1 e2
    · omega
end Go.Proofs.YtgmnknmjainababGreat

namespace Go.Proofs.YtgmnknmjainababGreat
set_option linter.unusedVariables false
set_option linter.unusedSimpArgs false
set_option linter.unnecessarySimpa false
open Go.RowKit
attribute [local go_sem ↓] Go.wp_at_zero Go.wp_at_succ

set_option maxRecDepth 100000 in
set_option maxHeartbeats 4000000 in
theorem refScaled (w : World) (s : Sp) (x : Nm) (k k1 e b : Nat) (a : Int × Int) (n : Int) (hs : SpAt w s k a.1 a.2) (hx : IntAt w x.neg x.a x.n x.cap k1 n) (hle : a.1 ≤ a.2) (hn : 0 ≤ n) (hk : k ≤ 100000000) (hk1 : k1 ≤ 100000000) (he : e ≤ 1000000) (hbits : s.bits = (b : Int)) :
    Calls Tryz.prog 135 #[.agg #[.bool s.ln, .slice s.la s.lN s.lc, .bool s.hn, .slice s.ha s.hN s.hc, .int .i64 s.bits], .agg #[.bool x.neg, .slice x.a x.n x.cap], .int .i64 e] w (SpanAns w b (k + k1 + 30) (scaleI a n (Q e)).1 (scaleI a n (Q e)).2) := by
  obtain ⟨W, hW⟩ : ∃ W, W = ((w.alloc (.cells #[.bool s.ln, .slice s.la s.lN s.lc, .bool s.hn, .slice s.ha s.hN s.hc, .int .i64 s.bits] 36)).alloc (.cells #[.bool x.neg, .slice x.a x.n x.cap] 26)).alloc (.cells #[.bool false, .slice none 0 0, .bool false, .slice none 0 0, .int .i64 0] 36) := ⟨_, rfl⟩
  have hBW : Below w.heap.size w W := by rw [hW]; exact bl3 _ _ _ _
  have A : SpC W w.heap.size s := by rw [hW]; exact ⟨by simp [go_sem], by simp [go_sem], by simp [go_sem], by simp [go_sem], by simp [go_sem]⟩
  have X : NmC W (w.heap.size + 1) x := by rw [hW]; exact ⟨by simp [go_sem], by simp [go_sem]⟩
  have R : NoC W (w.heap.size + 1 + 1) := by rw [hW]; exact ⟨by simp [go_sem], by simp [go_sem], by simp [go_sem], by simp [go_sem], by simp [go_sem], fun o => by simp [go_sem]⟩
  have HS := hide (hs.below hBW)
  have HX := hide (hx.below hBW)
  have HB := hide hbits
  have HB2 := hide (byI_nonneg (d := Q e) hle hn)
  have HK := hide (show ∀ w', Below W.heap.size W w' → (w'.cell? ⟨w.heap.size, 0, none⟩ = some (.bool s.ln) ∧ w'.cell? ⟨w.heap.size, 1, none⟩ = some (.slice s.la s.lN s.lc) ∧ w'.cell? ⟨w.heap.size, 2, none⟩ = some (.bool s.hn) ∧ w'.cell? ⟨w.heap.size, 3, none⟩ = some (.slice s.ha s.hN s.hc) ∧ w'.cell? ⟨w.heap.size + 1, 0, none⟩ = some (.bool x.neg) ∧ w'.cell? ⟨w.heap.size + 1, 1, none⟩ = some (.slice x.a x.n x.cap)) from fun w' hB => ⟨(A.below hB).c0, (A.below hB).c1, (A.below hB).c2, (A.below hB).c3, (X.below hB).c0, (X.below hB).c1⟩)
  clear hs hx hbits hle hn
  go_enter Tryz.func135, Tryz.ntmps135
  go_wp2
  rw [← hW]
  clear hW
  obtain ⟨x0, x1, x2, x3, x4, x5⟩ := unhide HK _ (Below.refl _ _)
  have hB0 : Below W.heap.size W W.drew := (Below.refl _ _).drew
  go_region_held3 (fun w' => w'.cell? ⟨w.heap.size, 0, none⟩ = some (.bool s.ln) ∧ w'.cell? ⟨w.heap.size, 1, none⟩ = some (.slice s.la s.lN s.lc) ∧ w'.cell? ⟨w.heap.size, 2, none⟩ = some (.bool s.hn) ∧ w'.cell? ⟨w.heap.size, 3, none⟩ = some (.slice s.ha s.hN s.hc) ∧ w'.cell? ⟨w.heap.size + 1, 0, none⟩ = some (.bool x.neg) ∧ w'.cell? ⟨w.heap.size + 1, 1, none⟩ = some (.slice x.a x.n x.cap)) (exact unhide HK _ (by first | with_reducible exact hB0 | with_reducible exact balloc hB2 _ | with_reducible exact hB2 | with_reducible exact hB1))
    (first
      | (go_at_call 66; have hq := hB1; refine (mul_int _ _ _ _ _ _ _ _ k k1 a.2 n _ ((unhide HS).hi.below hB1) ((unhide HX).below hB1) (by omega) (by omega)).mono ?_; rintro r w2 ⟨neg2, a2, n2, c2, rfl, hint2, hb2⟩; have hint1 := hint1.below hb2; have hB2 := bthen hB1 hb2)
      | (go_at_call 66; refine (mul_int _ _ _ _ _ _ _ _ k k1 a.1 n _ ((unhide HS).lo.below hB0) ((unhide HX).below hB0) (by omega) (by omega)).mono ?_; rintro r w1 ⟨neg1, a1, n1, c1, rfl, hint1, hb1⟩; have hB1 := bthen hB0 hb1))
  obtain ⟨w5, hw5⟩ : ∃ w5, w5 = w2.alloc (.cells #[.bool neg1, .slice a1 n1 c1, .bool neg2, .slice a2 n2 c2] 26) := ⟨_, rfl⟩
  have hB5 : Below W.heap.size W w5 := by rw [hw5]; exact balloc hB2 _
  have hN : Nums w5 w2.heap.size 2 (k + k1) (pr ⟨neg1, a1, n1, c1⟩ ⟨neg2, a2, n2, c2⟩) (pr (a.1 * n) (a.2 * n)) := by rw [hw5]; exact nums2' w2 _ rfl ⟨neg1, a1, n1, c1⟩ ⟨neg2, a2, n2, c2⟩ _ _ _ _ hint1 hint2
  have R5 := R.below hB5
  have hl1 := R5.lt
  have A5 := A.below hB5
  have lA := A5.lt
  have HK1 := hide (show ∀ w', Below w5.heap.size w5 w' → (w'.cell? ⟨w.heap.size, 4, none⟩ = some (.int .i64 s.bits)) from fun w' hB => (A5.below hB).c4)
  have hD0 : Below w5.heap.size w5 w5.drew := (Below.refl _ _).drew
  clear x0 x1 x2 x3 x4 x5 hb1 hb2 hint1 hint2 hB1 hB2 hB0 HK HS HX A X R
  go_wp2
  rw [← hw5]
  clear hw5
  have x0 := unhide HK1 _ (Below.refl _ _)
  have n3 : w.heap.size + 1 + 1 ≠ w.heap.size := by omega
  have n4 : w.heap.size ≠ w.heap.size + 1 + 1 := by omega
  go_region_held3 (fun w' => w'.cell? ⟨w.heap.size, 4, none⟩ = some (.int .i64 s.bits)) (first | exact unhide HK1 _ (by first | with_reducible exact hD0 | with_reducible exact hD6 | with_reducible exact hD5 | with_reducible exact hD4 | with_reducible exact hD3 | with_reducible exact hD2 | with_reducible exact hD1) | go_keep)
    (first
      | (go_at_call 103; have hq := hD5; refine (neg_int _ _ _ _ (k + k1 + 5 + 2) _ _ (hint10.mono (by omega)) (by omega)).mono ?_; rintro r w11 ⟨neg11, a11, n11, c11, rfl, hint11, hb11⟩; have hint7 := ((((hint7.below hb8).below hb9).below hb10).below hb11); have hD6 := bthen hD5 hb11; obtain ⟨q0, q1, q2, q3, q4, q5⟩ := R5.below hD6; have y0 := unhide HK1 _ hD6)
      | (go_at_call 105; have hq := hD4; refine (down_int _ _ _ _ e _ _ _ hint9 (by omega) (by omega)).mono ?_; rintro r w10 ⟨neg10, a10, n10, c10, rfl, hint10, hb10⟩; have hD5 := bthen hD4 hb10)
      | (go_at_call 103; have hq := hD3; refine (neg_int _ _ _ _ (k + k1) _ _ hint8 (by omega)).mono ?_; rintro r w9 ⟨neg9, a9, n9, c9, rfl, hint9, hb9⟩; have hD4 := bthen hD3 hb9)
      | (go_at_call 102; have hq := hD2; refine (greatest_int _ 1 _ (k + k1) _ _ _ (hN.below hD2) (by omega)).mono ?_; rintro r w8 ⟨neg8, a8, n8, c8, rfl, hint8, hb8⟩; have hD3 := bthen hD2 hb8)
      | (go_at_call 105; have hq := hD1; refine (down_int _ _ _ _ e _ _ _ hint6 (by omega) (by omega)).mono ?_; rintro r w7 ⟨neg7, a7, n7, c7, rfl, hint7, hb7⟩; have hD2 := bthen hD1 hb7)
      | (go_at_call 106; refine (least_int _ 1 _ (k + k1) _ _ _ (hN.below hD0) (by omega)).mono ?_; rintro r w6 ⟨neg6, a6, n6, c6, rfl, hint6, hb6⟩; have hD1 := bthen hD0 hb6))
  all_goals
    go_wp2_with fail
    refine bodyPost_ret (v := .agg #[.bool neg7, .slice a7 n7 c7, .bool neg11, .slice a11 n11 c11, .int .i64 s.bits]) (by simp [results, Tryz.results135, go_sem, q0, q1, q2, q3, q4]) rfl ⟨⟨neg7, a7, n7, c7, neg11, a11, n11, c11, s.bits⟩, rfl, unhide HB, ?_, ?_⟩
    · rw [← unhide HB2]
      exact SpAt.put5 ⟨hint7.mono (by omega), hint11.mono (by omega)⟩ q0 q1 q2 q3 q4 _ _ _ _ _
    · exact set5 (bthen (bthen hBW hB5) hD6) (by omega) _ _ _ _ _
end Go.Proofs.YtgmnknmjainababGreat

namespace Go.Proofs.YtgmnknmjainababGreat
set_option linter.unusedVariables false
open Ex

/-- The numbers of tailsureref.Pi's sum. -/
def prT (B : Nat) : Nat → Int × Int
  | 0 => (3 * Q B, 3 * Q B)
  | n + 1 => scaleI (prT B n) ((2 * (n : Int) + 1) * (2 * (n : Int) + 1)) (8 * ((n : Int) + 1) * (2 * ((n : Int) + 1) + 1))
theorem pr_den (n : Nat) : 0 ≤ (2 * (n : Int) + 1) * (2 * (n : Int) + 1) ∧ 0 < 8 * ((n : Int) + 1) * (2 * ((n : Int) + 1) + 1) ∧ 4 * ((2 * (n : Int) + 1) * (2 * (n : Int) + 1)) ≤ 8 * ((n : Int) + 1) * (2 * ((n : Int) + 1) + 1) := by
  have n0 : (0 : Int) ≤ (n : Int) := by omega
  have nn := Int.mul_nonneg n0 n0
  have e1 : (2 * (n : Int) + 1) * (2 * (n : Int) + 1) = 4 * ((n : Int) * (n : Int)) + 4 * (n : Int) + 1 := by grind
  have e2 : 8 * ((n : Int) + 1) * (2 * ((n : Int) + 1) + 1) = 16 * ((n : Int) * (n : Int)) + 40 * (n : Int) + 24 := by grind
  rw [e1, e2]
  omega
theorem prT_le (B n : Nat) : (prT B n).1 ≤ (prT B n).2 := by
  induction n with
  | zero => exact Int.le_refl _
  | succ n ih => exact scaleI_le ih (pr_den n).2.1 (pr_den n).1
theorem prT_nonneg (B n : Nat) : 0 ≤ (prT B n).1 := by
  induction n with
  | zero => have := Q_pos B; show 0 ≤ 3 * Q B; omega
  | succ n ih => exact Int.ediv_nonneg (Int.mul_nonneg ih (pr_den n).1) (by have := (pr_den n).2.1; omega)
theorem prT_abs (B n : Nat) : Abs (prT B n) (Q (B + 2 - 2 * n)) := by
  have hle := prT_le B n
  have h0 := prT_nonneg B n
  have q := Q_pos (B + 2 - 2 * n)
  have up : (prT B n).2 ≤ Q (B + 2 - 2 * n) := by
    clear hle h0 q
    induction n with
    | zero =>
      have e : Q (B + 2) = 2 * (2 * Q B) := rfl
      have := Q_pos B
      show 3 * Q B ≤ Q (B + 2 - 2 * 0)
      rw [show B + 2 - 2 * 0 = B + 2 by omega]
      omega
    | succ n ih =>
      obtain ⟨d1, d2, d3⟩ := pr_den n
      have st := Q_step (B := B + 2) (s := 2) (by omega) n
      have q2 := Q_pos (B + 2 - 2)
      have eB : Q (B + 2) = 4 * Q (B + 2 - 2) := by
        have := Q_add 2 (B + 2 - 2)
        rw [show 2 + (B + 2 - 2) = B + 2 by omega] at this
        rw [this]; rfl
      have hq : Q (B + 2 - 2 * n) ≤ 4 * Q (B + 2 - 2 * (n + 1)) := by
        refine Int.le_of_mul_le_mul_right (a := Q (B + 2 - 2)) ?_ (by omega)
        rw [eB] at st
        have e : 4 * Q (B + 2 - 2 * (n + 1)) * Q (B + 2 - 2) = Q (B + 2 - 2 * (n + 1)) * (4 * Q (B + 2 - 2)) := by grind
        omega
      have q3 := Q_pos (B + 2 - 2 * (n + 1))
      show -(-((prT B n).2 * ((2 * (n : Int) + 1) * (2 * (n : Int) + 1))) / (8 * ((n : Int) + 1) * (2 * ((n : Int) + 1) + 1))) ≤ _
      generalize (2 * (n : Int) + 1) * (2 * (n : Int) + 1) = u at *
      generalize 8 * ((n : Int) + 1) * (2 * ((n : Int) + 1) + 1) = v at *
      have k1 := Int.mul_le_mul_of_nonneg_right (show (prT B n).2 ≤ 4 * Q (B + 2 - 2 * (n + 1)) by omega) d1
      have k2 := Int.mul_le_mul_of_nonneg_left d3 (show 0 ≤ Q (B + 2 - 2 * (n + 1)) by omega)
      have e : 4 * Q (B + 2 - 2 * (n + 1)) * u = Q (B + 2 - 2 * (n + 1)) * (4 * u) := by grind
      have : -Q (B + 2 - 2 * (n + 1)) ≤ -((prT B n).2 * u) / v := Int.le_ediv_of_mul_le d2 (by
        have e2 : -Q (B + 2 - 2 * (n + 1)) * v = -(Q (B + 2 - 2 * (n + 1)) * v) := by grind
        omega)
      omega
  exact ⟨by omega, by omega, by omega, up⟩
theorem pr_stop (B : Nat) : ∃ N, N ≤ B / 2 + 2 ∧ IsStop (prT B) N := by
  obtain ⟨N, h1, h2⟩ := stop_ex (B := B + 2) (s := 2) (by omega) (prT_abs B)
  exact ⟨N, by omega, h2⟩
/-- The numbers themselves. -/
def prV : Nat → Rat
  | 0 => 3
  | n + 1 => (((2 * (n : Int) + 1) * (2 * (n : Int) + 1) : Int) : Rat) / ((8 * ((n : Int) + 1) * (2 * ((n : Int) + 1) + 1) : Int) : Rat) * prV n
def prS (M : Nat) : Rat := S prV M
theorem prT_has (B n : Nat) : Iv B (prT B n) (fun _ => prV n) := by
  induction n with
  | zero =>
    have h := (one_iv B).scale (n := 3) (d := 1) (by omega) (by omega)
    have e : scaleI (Q B, Q B) 3 1 = (3 * Q B, 3 * Q B) := by unfold scaleI; simp only [Int.ediv_one, Int.neg_neg]; rw [Int.mul_comm]
    rw [e] at h
    exact Has.of_eq h fun M => by show (3 : Rat) = ((3 : Int) : Rat) / ((1 : Int) : Rat) * 1; decide +kernel
  | succ n ih => exact ih.scale (pr_den n).1 (pr_den n).2.1
theorem prV_half (n : Nat) {b : Rat} (h : AB (prV n) b) : AB (prV (n + 1)) (b / 2) := by
  obtain ⟨d1, d2, d3⟩ := pr_den n
  obtain ⟨q0, q1⟩ := rat_quarter d1 d2 d3
  have b0 := h.nonneg
  have := AB.mul (s := (((2 * (n : Int) + 1) * (2 * (n : Int) + 1) : Int) : Rat) / ((8 * ((n : Int) + 1) * (2 * ((n : Int) + 1) + 1) : Int) : Rat)) (a := 1 / 4) ⟨by grind, q1⟩ h
  exact this.mono (by grind)
theorem pr_has (B N : Nat) : Iv B (doneI (prT B) N) prS :=
  done_has (g := fun n _ => prV n) (prT_le B) (fun k _ => prT_has B k) 0 (fun M _ n b _ hb => prV_half n hb)
/-- The two ways come within 2 to the power of -200 of each other. -/
theorem pi_close : LeN (fun M => prS M) (fun M => piS M + 1 / ((Q 200 : Int) : Rat)) ∧ LeN (fun M => piS M) (fun M => prS M + 1 / ((Q 200 : Int) : Rat)) := by
  have h1 := pi_has 220 60 20
  have h2 := pr_has 220 115
  have q := Qr_pos 220
  have key : ∀ {a b : Int × Int} {x y : Nat → Rat}, Iv 220 a x → Iv 220 b y → a.2 - b.1 ≤ Q 20 → LeN x (fun M => y M + 1 / ((Q 200 : Int) : Rat)) := fun {a b x y} ha hb hab e he => by
    obtain ⟨N1, k1⟩ := ha (e / 2) (by grind)
    obtain ⟨N2, k2⟩ := hb (e / 2) (by grind)
    refine ⟨N1 + N2, fun M hM => ?_⟩
    have a1 := (k1 M (by omega)).2
    have a2 := (k2 M (by omega)).1
    have a3 : (a.2 : Rat) / (Q 220 : Rat) ≤ (b.1 : Rat) / (Q 220 : Rat) + 1 / ((Q 200 : Int) : Rat) := by
      refine rdiv_le q ?_
      have e1 := rdm (a := (b.1 : Rat)) q
      have e2 : 1 / ((Q 200 : Int) : Rat) * (Q 220 : Rat) = ((Q 20 : Int) : Rat) := by decide +kernel
      have e3 : ((b.1 : Rat) / (Q 220 : Rat) + 1 / ((Q 200 : Int) : Rat)) * (Q 220 : Rat) = (b.1 : Rat) / (Q 220 : Rat) * (Q 220 : Rat) + 1 / ((Q 200 : Int) : Rat) * (Q 220 : Rat) := by grind
      rw [e3, e1, e2]
      have := cast_le (show a.2 ≤ b.1 + Q 20 by omega)
      rw [Rat.intCast_add] at this
      exact this
    grind
  exact ⟨key h2 h1 (by decide +kernel), key h1 h2 (by decide +kernel)⟩
end Go.Proofs.YtgmnknmjainababGreat

namespace Go.Proofs.YtgmnknmjainababGreat
set_option linter.unusedVariables false
set_option linter.unusedSimpArgs false
set_option linter.unnecessarySimpa false
open Go.RowKit
attribute [local go_sem ↓] Go.wp_at_zero Go.wp_at_succ

/-- A number in a block that may be written. -/
structure VnC (w : World) (B : Nat) (x : Nm) : Prop where
  c : NmC w B x
  fz : ∀ o, w.frozen? ⟨B, o, none⟩ = false
theorem VnC.lt {w : World} {B : Nat} {x : Nm} (h : VnC w B x) : B < w.heap.size := h.c.lt
theorem VnC.below {w w' : World} {B : Nat} {x : Nm} (h : VnC w B x) (hb : Below w.heap.size w w') : VnC w' B x :=
  ⟨h.c.below hb, fun o => (hb.frozen (p := ⟨B, o, none⟩) h.lt).trans (h.fz o)⟩
abbrev put2w (w : World) (B : Nat) (x : Nm) : World := (w.setCell ⟨B, 0, none⟩ (.bool x.neg)).setCell ⟨B, 1, none⟩ (.slice x.a x.n x.cap)
theorem VnC.put {w : World} {B : Nat} {x : Nm} (h : VnC w B x) (y : Nm) : VnC (put2w w B y) B y := ⟨put_nm2 h.c y, put_fz2 h.fz _ _⟩
theorem VnC.off {w : World} {B B' : Nat} {x : Nm} (h : VnC w B x) (hne : B ≠ B') (y : Nm) : VnC (put2w w B' y) B x := ⟨h.c.off hne _ _, put_fz2 h.fz _ _⟩
theorem IntAt.putv {w : World} {neg : Bool} {a : Option Addr} {n cap k : Nat} {z : Int} (h : IntAt w neg a n cap k z) {B : Nat} {x : Nm} (hx : VnC w B x) (y : Nm) : IntAt (put2w w B y) neg a n cap k z := h.put2 hx.c.c0 hx.c.c1 _ _
theorem NoC.offv {w : World} {B B' : Nat} (h : NoC w B) (hne : B ≠ B') (y : Nm) : NoC (put2w w B' y) B := by
  obtain ⟨q0, q1, q2, q3, q4, q5⟩ := h
  exact ⟨by simp [go_sem, q0, hne, Ne.symm hne], by simp [go_sem, q1, hne, Ne.symm hne], by simp [go_sem, q2, hne, Ne.symm hne], by simp [go_sem, q3, hne, Ne.symm hne], by simp [go_sem, q4, hne, Ne.symm hne], put_fz2 q5 _ _⟩
/-- Where wide.RareOne is. -/
structure RaSt (w wr : World) (B : Nat) (X : Nm) (p q : Int) (k : Nat) (v : Int) : Prop where
  a : RaC wr w.heap.size p q
  x : VnC wr B X
  i : IntAt wr X.neg X.a X.n X.cap k v
  no : NoC wr (w.heap.size + 1)
  be : Below w.heap.size w wr
  l : w.heap.size + 1 < B
theorem RaSt.below {w wr wr' : World} {B : Nat} {X : Nm} {p q : Int} {k : Nat} {v : Int} (h : RaSt w wr B X p q k v) (hb : Below wr.heap.size wr wr') : RaSt w wr' B X p q k v :=
  ⟨h.a.below hb, h.x.below hb, h.i.below hb, h.no.below hb, bthen h.be hb, h.l⟩
theorem RaC.offv {w : World} {B B' : Nat} {p q : Int} (h : RaC w B p q) (hne : B ≠ B') (y : Nm) : RaC (put2w w B' y) B p q := by
  obtain ⟨q0, q1⟩ := h
  constructor <;> simp [go_sem, q0, q1, hne, Ne.symm hne]
theorem RaSt.put {w wr : World} {B : Nat} {X Y : Nm} {p q : Int} {k k' : Nat} {v v' : Int} (h : RaSt w wr B X p q k v) (hy : IntAt wr Y.neg Y.a Y.n Y.cap k' v') : RaSt w (put2w wr B Y) B Y p q k' v' :=
  ⟨h.a.offv (by have := h.l; omega) Y, h.x.put Y, hy.putv h.x Y, h.no.offv (by have := h.l; omega) Y, set2 h.be (by have := h.l; omega) _ _, h.l⟩

end Go.Proofs.YtgmnknmjainababGreat

namespace Go.Proofs.YtgmnknmjainababGreat
set_option linter.unusedVariables false
set_option linter.unusedSimpArgs false
set_option linter.unnecessarySimpa false
open Go.RowKit
attribute [local go_sem ↓] Go.wp_at_zero Go.wp_at_succ

theorem NoI.offv {w : World} {B B' : Nat} (h : NoI w B) (hne : B ≠ B') (y : Nm) : NoI (put2w w B' y) B := by
  obtain ⟨q0, q1, q2⟩ := h
  exact ⟨by simp [go_sem, q0, hne, Ne.symm hne], by simp [go_sem, q1, hne, Ne.symm hne], put_fz2 q2 _ _⟩
/-- Where tailsureref.raisedInt is. -/
structure RsSt (w wr : World) (B : Nat) (X : Nm) (k : Nat) (v : Int) : Prop where
  x : VnC wr B X
  i : IntAt wr X.neg X.a X.n X.cap k v
  no : NoI wr w.heap.size
  be : Below w.heap.size w wr
  l : w.heap.size < B
theorem RsSt.below {w wr wr' : World} {B : Nat} {X : Nm} {k : Nat} {v : Int} (h : RsSt w wr B X k v) (hb : Below wr.heap.size wr wr') : RsSt w wr' B X k v :=
  ⟨h.x.below hb, h.i.below hb, h.no.below hb, bthen h.be hb, h.l⟩
theorem RsSt.put {w wr : World} {B : Nat} {X Y : Nm} {k k' : Nat} {v v' : Int} (h : RsSt w wr B X k v) (hy : IntAt wr Y.neg Y.a Y.n Y.cap k' v') : RsSt w (put2w wr B Y) B Y k' v' :=
  ⟨h.x.put Y, hy.putv h.x Y, h.no.offv (by have := h.l; omega) Y, set2 h.be (by have := h.l; omega) _ _, h.l⟩

/-- Where tailsureref.countTerm is. -/
structure CtSt (w wr : World) (B B' : Nat) (X Y : Nm) (p q : Int) (k : Nat) (u v : Int) : Prop where
  a : RaC wr w.heap.size p q
  x : VnC wr B X
  y : VnC wr B' Y
  i : IntAt wr X.neg X.a X.n X.cap k u
  j : IntAt wr Y.neg Y.a Y.n Y.cap k v
  no : NoI wr (w.heap.size + 1)
  be : Below w.heap.size w wr
  l : w.heap.size + 1 < B
  l' : w.heap.size + 1 < B'
  n : B ≠ B'
theorem CtSt.below {w wr wr' : World} {B B' : Nat} {X Y : Nm} {p q : Int} {k : Nat} {u v : Int} (h : CtSt w wr B B' X Y p q k u v) (hb : Below wr.heap.size wr wr') : CtSt w wr' B B' X Y p q k u v :=
  ⟨h.a.below hb, h.x.below hb, h.y.below hb, h.i.below hb, h.j.below hb, h.no.below hb, bthen h.be hb, h.l, h.l', h.n⟩
theorem CtSt.mono {w wr : World} {B B' : Nat} {X Y : Nm} {p q : Int} {k k' : Nat} {u v : Int} (h : CtSt w wr B B' X Y p q k u v) (hk : k ≤ k') : CtSt w wr B B' X Y p q k' u v :=
  ⟨h.a, h.x, h.y, h.i.mono hk, h.j.mono hk, h.no, h.be, h.l, h.l', h.n⟩
end Go.Proofs.YtgmnknmjainababGreat
