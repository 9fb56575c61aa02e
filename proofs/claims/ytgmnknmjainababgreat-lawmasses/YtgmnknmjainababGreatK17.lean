/-
  What tailsurelaw.inside and tailsureref.RareMass answer, and that they leave old memory alone.
  What law.floor and law.below answer where the law is LawCount, and that they leave old memory alone.
  How likely it is, by law.Below and law.Mass, that of two coins at most one, or just one, is up.
  How likely it is, by law.Below and law.Mass, that of two coins at most one, or just one, is up: the calls themselves.
  How likely it is, by law.Mass, that of two coins just one is up.
-/
import Derived.Test.YtgmnknmjainababGreatK16
namespace Go.Proofs.YtgmnknmjainababGreat
set_option linter.unusedVariables false
set_option linter.unusedSimpArgs false
set_option linter.unnecessarySimpa false
open Go.RowKit
attribute [local go_sem ↓] Go.wp_at_zero Go.wp_at_succ

set_option maxRecDepth 100000 in
set_option maxHeartbeats 4000000 in
theorem inside_aa (w : World) (s : Sp) (K b : Nat) (lo hi : Int) (hs : SpAt w s K lo hi) (hbits : s.bits = (b : Int)) (hb : b ≤ 10000) (h1 : cmpInt lo 0 = 0) (h2 : cmpInt hi (Q b) = -1) :
    Calls Tryz.prog 15 #[.agg #[.bool s.ln, .slice s.la s.lN s.lc, .bool s.hn, .slice s.ha s.hN s.hc, .int .i64 s.bits], .int .i64 0, .int .i64 1] w fun r w' => r = .returned (.bool true) ∧ Below w.heap.size w w' := by
  obtain ⟨W, hW⟩ : ∃ W, W = w.alloc (.cells #[.bool s.ln, .slice s.la s.lN s.lc, .bool s.hn, .slice s.ha s.hN s.hc, .int .i64 s.bits] 28) := ⟨_, rfl⟩
  have hBW : Below w.heap.size w W := by rw [hW]; exact bl1 _ _
  have A : SpC W w.heap.size s := by rw [hW]; exact ⟨by simp [go_sem], by simp [go_sem], by simp [go_sem], by simp [go_sem], by simp [go_sem]⟩
  have HS := hide (hs.below hBW)
  have HB := hide hbits
  have H1 := hide h1
  have H2 := hide h2
  have HK := hide (show ∀ w', Below W.heap.size W w' → (w'.cell? ⟨w.heap.size, 0, none⟩ = some (.bool s.ln) ∧ w'.cell? ⟨w.heap.size, 1, none⟩ = some (.slice s.la s.lN s.lc) ∧ w'.cell? ⟨w.heap.size, 2, none⟩ = some (.bool s.hn) ∧ w'.cell? ⟨w.heap.size, 3, none⟩ = some (.slice s.ha s.hN s.hc) ∧ w'.cell? ⟨w.heap.size, 4, none⟩ = some (.int .i64 s.bits)) from fun w' hB => ⟨(A.below hB).c0, (A.below hB).c1, (A.below hB).c2, (A.below hB).c3, (A.below hB).c4⟩)
  clear hs hbits h1 h2 A
  have hf0 := fieldS0
  go_enter Tryz.func15, Tryz.ntmps15
  go_wp2
  rw [← hW]
  clear hW
  obtain ⟨x0, x1, x2, x3, x4⟩ := unhide HK _ (Below.refl _ _)
  have hD0 : Below W.heap.size W W.drew := (Below.refl _ _).drew
  go_region_held3 (fun w' => w'.cell? ⟨w.heap.size, 0, none⟩ = some (.bool s.ln) ∧ w'.cell? ⟨w.heap.size, 1, none⟩ = some (.slice s.la s.lN s.lc) ∧ w'.cell? ⟨w.heap.size, 2, none⟩ = some (.bool s.hn) ∧ w'.cell? ⟨w.heap.size, 3, none⟩ = some (.slice s.ha s.hN s.hc) ∧ w'.cell? ⟨w.heap.size, 4, none⟩ = some (.int .i64 s.bits)) (first | exact unhide HK _ (by first | with_reducible exact hD0 | with_reducible exact hD4 | with_reducible exact hD3 | with_reducible exact hD2 | with_reducible exact hD1) | go_keep)
    (first
      | (go_at_call 46; have hqq := hD3; refine (cmp_int _ _ _ _ _ _ _ _ _ _ hi (Q b) _ ((unhide HS).hi.below hD3) hs3.lo).mono ?_; rintro r' w4 ⟨rfl, hb4⟩; rw [unhide H2]; have hD4 := bthen hD3 hb4)
      | (go_at_call 27; have hqq := hD2; refine (refWhole_z s.bits (unhide HB) _ 1 (by omega) (by decide) (by decide)).mono ?_; rintro r' w3 ⟨v3, rfl, hvb3, hs3, hb3⟩; rw [Int.one_mul] at hs3; clear hvb3; have hD3 := bthen hD2 hb3)
      | (go_at_call 46; have hqq := hD1; refine (cmp_int _ _ _ _ _ _ _ _ _ _ lo 0 _ ((unhide HS).lo.below hD1) hs1.lo).mono ?_; rintro r' w2 ⟨rfl, hb2⟩; rw [unhide H1]; have hD2 := bthen hD1 hb2)
      | (go_at_call 27; refine (refWhole_z s.bits (unhide HB) _ 0 (by omega) (by decide) (by decide)).mono ?_; rintro r' w1 ⟨v1, rfl, hvb1, hs1, hb1⟩; rw [Int.zero_mul] at hs1; clear hvb1; have hD1 := bthen hD0 hb1))
  all_goals
    go_wp2_with fail
    go_ret
    exact ⟨rfl, bthen hBW hD4⟩

set_option maxRecDepth 100000 in
set_option maxHeartbeats 4000000 in
theorem inside_ab (w : World) (s : Sp) (K b : Nat) (lo hi : Int) (hs : SpAt w s K lo hi) (hbits : s.bits = (b : Int)) (hb : b ≤ 10000) (h1 : cmpInt lo 0 = 0) (h2 : cmpInt hi (Q b) = 0) :
    Calls Tryz.prog 15 #[.agg #[.bool s.ln, .slice s.la s.lN s.lc, .bool s.hn, .slice s.ha s.hN s.hc, .int .i64 s.bits], .int .i64 0, .int .i64 1] w fun r w' => r = .returned (.bool true) ∧ Below w.heap.size w w' := by
  obtain ⟨W, hW⟩ : ∃ W, W = w.alloc (.cells #[.bool s.ln, .slice s.la s.lN s.lc, .bool s.hn, .slice s.ha s.hN s.hc, .int .i64 s.bits] 28) := ⟨_, rfl⟩
  have hBW : Below w.heap.size w W := by rw [hW]; exact bl1 _ _
  have A : SpC W w.heap.size s := by rw [hW]; exact ⟨by simp [go_sem], by simp [go_sem], by simp [go_sem], by simp [go_sem], by simp [go_sem]⟩
  have HS := hide (hs.below hBW)
  have HB := hide hbits
  have H1 := hide h1
  have H2 := hide h2
  have HK := hide (show ∀ w', Below W.heap.size W w' → (w'.cell? ⟨w.heap.size, 0, none⟩ = some (.bool s.ln) ∧ w'.cell? ⟨w.heap.size, 1, none⟩ = some (.slice s.la s.lN s.lc) ∧ w'.cell? ⟨w.heap.size, 2, none⟩ = some (.bool s.hn) ∧ w'.cell? ⟨w.heap.size, 3, none⟩ = some (.slice s.ha s.hN s.hc) ∧ w'.cell? ⟨w.heap.size, 4, none⟩ = some (.int .i64 s.bits)) from fun w' hB => ⟨(A.below hB).c0, (A.below hB).c1, (A.below hB).c2, (A.below hB).c3, (A.below hB).c4⟩)
  clear hs hbits h1 h2 A
  have hf0 := fieldS0
  go_enter Tryz.func15, Tryz.ntmps15
  go_wp2
  rw [← hW]
  clear hW
  obtain ⟨x0, x1, x2, x3, x4⟩ := unhide HK _ (Below.refl _ _)
  have hD0 : Below W.heap.size W W.drew := (Below.refl _ _).drew
  go_region_held3 (fun w' => w'.cell? ⟨w.heap.size, 0, none⟩ = some (.bool s.ln) ∧ w'.cell? ⟨w.heap.size, 1, none⟩ = some (.slice s.la s.lN s.lc) ∧ w'.cell? ⟨w.heap.size, 2, none⟩ = some (.bool s.hn) ∧ w'.cell? ⟨w.heap.size, 3, none⟩ = some (.slice s.ha s.hN s.hc) ∧ w'.cell? ⟨w.heap.size, 4, none⟩ = some (.int .i64 s.bits)) (first | exact unhide HK _ (by first | with_reducible exact hD0 | with_reducible exact hD4 | with_reducible exact hD3 | with_reducible exact hD2 | with_reducible exact hD1) | go_keep)
    (first
      | (go_at_call 46; have hqq := hD3; refine (cmp_int _ _ _ _ _ _ _ _ _ _ hi (Q b) _ ((unhide HS).hi.below hD3) hs3.lo).mono ?_; rintro r' w4 ⟨rfl, hb4⟩; rw [unhide H2]; have hD4 := bthen hD3 hb4)
      | (go_at_call 27; have hqq := hD2; refine (refWhole_z s.bits (unhide HB) _ 1 (by omega) (by decide) (by decide)).mono ?_; rintro r' w3 ⟨v3, rfl, hvb3, hs3, hb3⟩; rw [Int.one_mul] at hs3; clear hvb3; have hD3 := bthen hD2 hb3)
      | (go_at_call 46; have hqq := hD1; refine (cmp_int _ _ _ _ _ _ _ _ _ _ lo 0 _ ((unhide HS).lo.below hD1) hs1.lo).mono ?_; rintro r' w2 ⟨rfl, hb2⟩; rw [unhide H1]; have hD2 := bthen hD1 hb2)
      | (go_at_call 27; refine (refWhole_z s.bits (unhide HB) _ 0 (by omega) (by decide) (by decide)).mono ?_; rintro r' w1 ⟨v1, rfl, hvb1, hs1, hb1⟩; rw [Int.zero_mul] at hs1; clear hvb1; have hD1 := bthen hD0 hb1))
  all_goals
    go_wp2_with fail
    go_ret
    exact ⟨rfl, bthen hBW hD4⟩

set_option maxRecDepth 100000 in
set_option maxHeartbeats 4000000 in
theorem inside_ba (w : World) (s : Sp) (K b : Nat) (lo hi : Int) (hs : SpAt w s K lo hi) (hbits : s.bits = (b : Int)) (hb : b ≤ 10000) (h1 : cmpInt lo 0 = 1) (h2 : cmpInt hi (Q b) = -1) :
    Calls Tryz.prog 15 #[.agg #[.bool s.ln, .slice s.la s.lN s.lc, .bool s.hn, .slice s.ha s.hN s.hc, .int .i64 s.bits], .int .i64 0, .int .i64 1] w fun r w' => r = .returned (.bool true) ∧ Below w.heap.size w w' := by
  obtain ⟨W, hW⟩ : ∃ W, W = w.alloc (.cells #[.bool s.ln, .slice s.la s.lN s.lc, .bool s.hn, .slice s.ha s.hN s.hc, .int .i64 s.bits] 28) := ⟨_, rfl⟩
  have hBW : Below w.heap.size w W := by rw [hW]; exact bl1 _ _
  have A : SpC W w.heap.size s := by rw [hW]; exact ⟨by simp [go_sem], by simp [go_sem], by simp [go_sem], by simp [go_sem], by simp [go_sem]⟩
  have HS := hide (hs.below hBW)
  have HB := hide hbits
  have H1 := hide h1
  have H2 := hide h2
  have HK := hide (show ∀ w', Below W.heap.size W w' → (w'.cell? ⟨w.heap.size, 0, none⟩ = some (.bool s.ln) ∧ w'.cell? ⟨w.heap.size, 1, none⟩ = some (.slice s.la s.lN s.lc) ∧ w'.cell? ⟨w.heap.size, 2, none⟩ = some (.bool s.hn) ∧ w'.cell? ⟨w.heap.size, 3, none⟩ = some (.slice s.ha s.hN s.hc) ∧ w'.cell? ⟨w.heap.size, 4, none⟩ = some (.int .i64 s.bits)) from fun w' hB => ⟨(A.below hB).c0, (A.below hB).c1, (A.below hB).c2, (A.below hB).c3, (A.below hB).c4⟩)
  clear hs hbits h1 h2 A
  have hf0 := fieldS0
  go_enter Tryz.func15, Tryz.ntmps15
  go_wp2
  rw [← hW]
  clear hW
  obtain ⟨x0, x1, x2, x3, x4⟩ := unhide HK _ (Below.refl _ _)
  have hD0 : Below W.heap.size W W.drew := (Below.refl _ _).drew
  go_region_held3 (fun w' => w'.cell? ⟨w.heap.size, 0, none⟩ = some (.bool s.ln) ∧ w'.cell? ⟨w.heap.size, 1, none⟩ = some (.slice s.la s.lN s.lc) ∧ w'.cell? ⟨w.heap.size, 2, none⟩ = some (.bool s.hn) ∧ w'.cell? ⟨w.heap.size, 3, none⟩ = some (.slice s.ha s.hN s.hc) ∧ w'.cell? ⟨w.heap.size, 4, none⟩ = some (.int .i64 s.bits)) (first | exact unhide HK _ (by first | with_reducible exact hD0 | with_reducible exact hD4 | with_reducible exact hD3 | with_reducible exact hD2 | with_reducible exact hD1) | go_keep)
    (first
      | (go_at_call 46; have hqq := hD3; refine (cmp_int _ _ _ _ _ _ _ _ _ _ hi (Q b) _ ((unhide HS).hi.below hD3) hs3.lo).mono ?_; rintro r' w4 ⟨rfl, hb4⟩; rw [unhide H2]; have hD4 := bthen hD3 hb4)
      | (go_at_call 27; have hqq := hD2; refine (refWhole_z s.bits (unhide HB) _ 1 (by omega) (by decide) (by decide)).mono ?_; rintro r' w3 ⟨v3, rfl, hvb3, hs3, hb3⟩; rw [Int.one_mul] at hs3; clear hvb3; have hD3 := bthen hD2 hb3)
      | (go_at_call 46; have hqq := hD1; refine (cmp_int _ _ _ _ _ _ _ _ _ _ lo 0 _ ((unhide HS).lo.below hD1) hs1.lo).mono ?_; rintro r' w2 ⟨rfl, hb2⟩; rw [unhide H1]; have hD2 := bthen hD1 hb2)
      | (go_at_call 27; refine (refWhole_z s.bits (unhide HB) _ 0 (by omega) (by decide) (by decide)).mono ?_; rintro r' w1 ⟨v1, rfl, hvb1, hs1, hb1⟩; rw [Int.zero_mul] at hs1; clear hvb1; have hD1 := bthen hD0 hb1))
  all_goals
    go_wp2_with fail
    go_ret
    exact ⟨rfl, bthen hBW hD4⟩

set_option maxRecDepth 100000 in
set_option maxHeartbeats 4000000 in
theorem inside_bb (w : World) (s : Sp) (K b : Nat) (lo hi : Int) (hs : SpAt w s K lo hi) (hbits : s.bits = (b : Int)) (hb : b ≤ 10000) (h1 : cmpInt lo 0 = 1) (h2 : cmpInt hi (Q b) = 0) :
    Calls Tryz.prog 15 #[.agg #[.bool s.ln, .slice s.la s.lN s.lc, .bool s.hn, .slice s.ha s.hN s.hc, .int .i64 s.bits], .int .i64 0, .int .i64 1] w fun r w' => r = .returned (.bool true) ∧ Below w.heap.size w w' := by
  obtain ⟨W, hW⟩ : ∃ W, W = w.alloc (.cells #[.bool s.ln, .slice s.la s.lN s.lc, .bool s.hn, .slice s.ha s.hN s.hc, .int .i64 s.bits] 28) := ⟨_, rfl⟩
  have hBW : Below w.heap.size w W := by rw [hW]; exact bl1 _ _
  have A : SpC W w.heap.size s := by rw [hW]; exact ⟨by simp [go_sem], by simp [go_sem], by simp [go_sem], by simp [go_sem], by simp [go_sem]⟩
  have HS := hide (hs.below hBW)
  have HB := hide hbits
  have H1 := hide h1
  have H2 := hide h2
  have HK := hide (show ∀ w', Below W.heap.size W w' → (w'.cell? ⟨w.heap.size, 0, none⟩ = some (.bool s.ln) ∧ w'.cell? ⟨w.heap.size, 1, none⟩ = some (.slice s.la s.lN s.lc) ∧ w'.cell? ⟨w.heap.size, 2, none⟩ = some (.bool s.hn) ∧ w'.cell? ⟨w.heap.size, 3, none⟩ = some (.slice s.ha s.hN s.hc) ∧ w'.cell? ⟨w.heap.size, 4, none⟩ = some (.int .i64 s.bits)) from fun w' hB => ⟨(A.below hB).c0, (A.below hB).c1, (A.below hB).c2, (A.below hB).c3, (A.below hB).c4⟩)
  clear hs hbits h1 h2 A
  have hf0 := fieldS0
  go_enter Tryz.func15, Tryz.ntmps15
  go_wp2
  rw [← hW]
  clear hW
  obtain ⟨x0, x1, x2, x3, x4⟩ := unhide HK _ (Below.refl _ _)
  have hD0 : Below W.heap.size W W.drew := (Below.refl _ _).drew
  go_region_held3 (fun w' => w'.cell? ⟨w.heap.size, 0, none⟩ = some (.bool s.ln) ∧ w'.cell? ⟨w.heap.size, 1, none⟩ = some (.slice s.la s.lN s.lc) ∧ w'.cell? ⟨w.heap.size, 2, none⟩ = some (.bool s.hn) ∧ w'.cell? ⟨w.heap.size, 3, none⟩ = some (.slice s.ha s.hN s.hc) ∧ w'.cell? ⟨w.heap.size, 4, none⟩ = some (.int .i64 s.bits)) (first | exact unhide HK _ (by first | with_reducible exact hD0 | with_reducible exact hD4 | with_reducible exact hD3 | with_reducible exact hD2 | with_reducible exact hD1) | go_keep)
    (first
      | (go_at_call 46; have hqq := hD3; refine (cmp_int _ _ _ _ _ _ _ _ _ _ hi (Q b) _ ((unhide HS).hi.below hD3) hs3.lo).mono ?_; rintro r' w4 ⟨rfl, hb4⟩; rw [unhide H2]; have hD4 := bthen hD3 hb4)
      | (go_at_call 27; have hqq := hD2; refine (refWhole_z s.bits (unhide HB) _ 1 (by omega) (by decide) (by decide)).mono ?_; rintro r' w3 ⟨v3, rfl, hvb3, hs3, hb3⟩; rw [Int.one_mul] at hs3; clear hvb3; have hD3 := bthen hD2 hb3)
      | (go_at_call 46; have hqq := hD1; refine (cmp_int _ _ _ _ _ _ _ _ _ _ lo 0 _ ((unhide HS).lo.below hD1) hs1.lo).mono ?_; rintro r' w2 ⟨rfl, hb2⟩; rw [unhide H1]; have hD2 := bthen hD1 hb2)
      | (go_at_call 27; refine (refWhole_z s.bits (unhide HB) _ 0 (by omega) (by decide) (by decide)).mono ?_; rintro r' w1 ⟨v1, rfl, hvb1, hs1, hb1⟩; rw [Int.zero_mul] at hs1; clear hvb1; have hD1 := bthen hD0 hb1))
  all_goals
    go_wp2_with fail
    go_ret
    exact ⟨rfl, bthen hBW hD4⟩

theorem inside_ok (w : World) (s : Sp) (K b : Nat) (lo hi : Int) (hs : SpAt w s K lo hi) (hbits : s.bits = (b : Int)) (hb : b ≤ 10000) (h1 : 0 ≤ lo) (h2 : hi ≤ Q b) :
    Calls Tryz.prog 15 #[.agg #[.bool s.ln, .slice s.la s.lN s.lc, .bool s.hn, .slice s.ha s.hN s.hc, .int .i64 s.bits], .int .i64 0, .int .i64 1] w fun r w' => r = .returned (.bool true) ∧ Below w.heap.size w w' := by
  rcases cmp3 lo 0 with ⟨e1, g1⟩ | ⟨e1, g1⟩ | ⟨e1, g1⟩
  · omega
  · rcases cmp3 hi (Q b) with ⟨e2, g2⟩ | ⟨e2, g2⟩ | ⟨e2, g2⟩
    · exact inside_aa w s K b lo hi hs hbits hb e1 e2
    · exact inside_ab w s K b lo hi hs hbits hb e1 e2
    · omega
  · rcases cmp3 hi (Q b) with ⟨e2, g2⟩ | ⟨e2, g2⟩ | ⟨e2, g2⟩
    · exact inside_ba w s K b lo hi hs hbits hb e1 e2
    · exact inside_bb w s K b lo hi hs hbits hb e1 e2
    · omega
/-- What tailsureref.RareMass has behind some rounds. -/
def rTm (b : Nat) (p q : Int) : Nat → Int × Int
  | 0 => (Q b, Q b)
  | i + 1 => byI (rTm b p q i) p (((i : Int) + 1) * q)
open Ex in
theorem rTm_has {b : Nat} {p q : Int} (hq : 0 < q) (i : Nat) : Iv b (rTm b p q i) (fun _ => ((p ^ i : Int) : Rat) / ((q ^ i * fact i : Int) : Rat)) := by
  induction i with
  | zero =>
    have e : ((p ^ 0 : Int) : Rat) / ((q ^ 0 * fact 0 : Int) : Rat) = 1 := by
      rw [Int.pow_zero, Int.pow_zero, show fact 0 = 1 from rfl]; decide +kernel
    rw [e]; exact one_iv b
  | succ i ih =>
    have hd : 0 < ((i : Int) + 1) * q := Int.mul_pos (by omega) hq
    refine (ih.by_ p hd).congr (null_zero.of_eq fun M => ?_)
    have e := tm_frac (p := p) hq (i + 1)
    have e2 := tm_frac (p := p) hq i
    have e3 : tm ((p : Rat) / (q : Rat)) (i + 1) = tm ((p : Rat) / (q : Rat)) i * ((p : Rat) / (q : Rat)) / ((i : Rat) + 1) := rfl
    rw [← e, ← e2, e3]
    have q0 : (0 : Rat) < (q : Rat) := by exact_mod_cast hq
    have r3 := pos1 i
    have c : (((((i : Int) + 1) * q : Int)) : Rat) = ((i : Rat) + 1) * (q : Rat) := by rw [Rat.intCast_mul, Rat.intCast_add]; rfl
    rw [c]
    have f1 := rdm (a := (p : Rat)) q0
    have f2 := rdm (a := (p : Rat)) (Rat.mul_pos r3 q0)
    generalize tm ((p : Rat) / (q : Rat)) i = t at *
    generalize (p : Rat) / (q : Rat) = u at *
    generalize (p : Rat) / (((i : Rat) + 1) * (q : Rat)) = v at *
    have f3 := rdm (a := t * u) r3
    generalize t * u / ((i : Rat) + 1) = z at *
    have h1 : (v * ((i : Rat) + 1) - u) * (q : Rat) = 0 := by grind
    have h2 : v * ((i : Rat) + 1) = u := by
      rcases Rat.mul_eq_zero.1 h1 with h | h <;> grind
    have h3 : (z - v * t) * ((i : Rat) + 1) = 0 := by grind
    rcases Rat.mul_eq_zero.1 h3 with h | h <;> grind
theorem rTm_nonneg {b : Nat} {p q : Int} (hp : 0 ≤ p) (hq : 0 < q) (i : Nat) : 0 ≤ (rTm b p q i).1 ∧ (rTm b p q i).1 ≤ (rTm b p q i).2 := by
  induction i with
  | zero => have := Q_pos b; exact ⟨by show 0 ≤ Q b; omega, Int.le_refl _⟩
  | succ i ih =>
    have hd : 0 < ((i : Int) + 1) * q := Int.mul_pos (by omega) hq
    refine ⟨?_, byI_le ih.2 hd⟩
    show 0 ≤ (byI (rTm b p q i) p (((i : Int) + 1) * q)).1
    rw [byI_nonneg ih.2 hp]
    unfold scaleI
    exact Int.ediv_nonneg (Int.mul_nonneg ih.1 hp) (by omega)

/-- Where tailsureref.RareMass is. -/
structure RmSt (w wr : World) (B : Nat) (tt : Sp) (k p q r s : Int) (K b : Nat) (a : Int × Int) : Prop where
  l : LwC wr w.heap.size k p q r s
  t : VrC wr B tt
  pt : SpAt wr tt K a.1 a.2
  tb : tt.bits = (b : Int)
  no : NoC wr (w.heap.size + 1)
  be : Below w.heap.size w wr
  lt : w.heap.size + 1 < B
theorem RmSt.below {w wr wr' : World} {B : Nat} {t : Sp} {k p q r s : Int} {K b : Nat} {a : Int × Int} (h : RmSt w wr B t k p q r s K b a) (hb : Below wr.heap.size wr wr') : RmSt w wr' B t k p q r s K b a :=
  ⟨h.l.below hb, h.t.below hb, h.pt.below hb, h.tb, h.no.below hb, bthen h.be hb, h.lt⟩
theorem LwC.off5 {w : World} {B B' : Nat} {k p q r s : Int} (h : LwC w B k p q r s) (hne : B ≠ B') (u : Sp) : LwC (put5w w B' u) B k p q r s := by
  obtain ⟨q0, q1, q2, q3, q4⟩ := h
  exact ⟨cell_put5 q0 hne _ _ _ _ _, cell_put5 q1 hne _ _ _ _ _, cell_put5 q2 hne _ _ _ _ _, cell_put5 q3 hne _ _ _ _ _, cell_put5 q4 hne _ _ _ _ _⟩
theorem RmSt.put {w wr : World} {B : Nat} {t u : Sp} {k p q r s : Int} {K K' b : Nat} {a a' : Int × Int} (h : RmSt w wr B t k p q r s K b a) (hu : SpAt wr u K' a'.1 a'.2) (hb : u.bits = (b : Int)) : RmSt w (put5w wr B u) B u k p q r s K' b a' :=
  ⟨h.l.off5 (by have := h.lt; omega) u, h.t.put u, hu.put h.t.c u, hb, h.no.off (by have := h.lt; omega) u, below_put h.be (by have := h.lt; omega) u, h.lt⟩

theorem rat_wh100 {p q : Int} {B : Nat} (hq : 0 < q) (h1 : 0 ≤ p) (h2 : p ≤ 100 * q) : wh (ofI p q B).1 B ≤ ((100 : Nat) : Int) ∧ wh (ofI p q B).2 B ≤ ((100 : Nat) : Int) ∧ 0 ≤ (ofI p q B).1 := by
  have qb := Q_pos B
  have g1 := Int.mul_nonneg h1 (show 0 ≤ Q B by omega)
  have g2 := Int.mul_le_mul_of_nonneg_right h2 (show 0 ≤ Q B by omega)
  have e1 : (100 : Int) * q * Q B = 100 * Q B * q := by grind
  have e0 := Int.mul_nonneg (show 0 ≤ 100 * Q B by omega) (show 0 ≤ q by omega)
  obtain ⟨a1, a2, a3, a4⟩ := ofI_abs (n := p) (m := 100 * Q B) hq B (by omega) (by omega)
  have key : ∀ X : Int, -(100 * Q B) ≤ X → X ≤ 100 * Q B → wh X B ≤ ((100 : Nat) : Int) := fun X k1 k2 => by
    unfold wh
    split
    · exact Int.ediv_le_of_le_mul (by omega) (by omega)
    · exact Int.ediv_le_of_le_mul (by omega) (by omega)
  exact ⟨key _ a1 a2, key _ a3 a4, Int.ediv_nonneg g1 (by omega)⟩
open Ex in
/-- What tailsureref.RareMass comes to. -/
theorem rareMass_has {b : Nat} {p q : Int} {n : Nat} {o : Int × Int} (hp : 0 ≤ p) (hq : 0 < q) (ho : Q (b + 400) - 1 ≤ o.1) (hio : Iv (b + 400) o (Ev (fun _ => (p : Rat) / (q : Rat)))) :
    let t := rTm (b + 400) p q n
    let z := downI (dvLo t.1 t.2 o.1 o.2 (b + 400), dvHi t.1 t.2 o.1 o.2 (b + 400)) 400
    Iv b (clipL z.1, clipH b z.2) (rareX p q n) := by
  intro t z
  have h4 := Q_mono (show 400 ≤ b + 400 by omega)
  have h5 : 2 ≤ Q 400 := by have := Q_mono (show 1 ≤ 400 by omega); have e : Q 1 = 2 := rfl; omega
  have h1 := (rTm_has (b := b + 400) (p := p) hq n).dv hio (rTm_nonneg hp hq n).1 (by omega)
  have h2 : Iv b z (rareX p q n) := h1.to
  have h3 := (h2.cap (n + 1) (fun M hM => (rareX_bd hp hq n M (by omega)).2)).bottom (n + 1) (fun M hM => (rareX_bd hp hq n M (by omega)).1)
  have e1 : (if z.2 ≤ Q b then z.2 else Q b) = clipH b z.2 := by unfold clipH; split <;> split <;> omega
  rw [e1] at h3
  exact h3

set_option maxRecDepth 100000 in
set_option maxHeartbeats 6000000 in
theorem refRareMass (w : World) (k p q r s : Int) (n b : Nat) (hr : rok p q) (hp : 0 ≤ p) (hp2 : p ≤ 100 * q) (hn : n ≤ 100) (hb : b ≤ 200) (hb8 : 8 ≤ b) :
    Calls Tryz.prog 39 #[.agg #[.int .i64 k, .int .i64 p, .int .i64 q, .int .i64 r, .int .i64 s], .int .i64 n, .int .i64 b] w (fun zz w' => ∃ o : Int × Int, Iv b o (rareX p q n) ∧ SpanAns w b 70000 o.1 o.2 zz w') := by
  obtain ⟨W, hW⟩ : ∃ W, W = (w.alloc (.cells #[.int .i64 k, .int .i64 p, .int .i64 q, .int .i64 r, .int .i64 s] 53)).alloc (.cells #[.bool false, .slice none 0 0, .bool false, .slice none 0 0, .int .i64 0] 36) := ⟨_, rfl⟩
  have hBW : Below w.heap.size w W := by rw [hW]; exact bl2 _ _ _
  have A : LwC W w.heap.size k p q r s := by rw [hW]; exact (lwc_new w k p q r s _).below (bl1 _ _)
  have R : NoC W (w.heap.size + 1) := by rw [hW]; exact ⟨by simp [go_sem], by simp [go_sem], by simp [go_sem], by simp [go_sem], by simp [go_sem], fun o => by simp [go_sem]⟩
  have hq : 0 < q := by have := hr.2.2.1; omega
  have HR := hide hr
  obtain ⟨r1, r2, r3, r4⟩ := hr
  obtain ⟨m, hm⟩ : ∃ m : Nat, (b : Int) + 400 = (m : Int) := ⟨b + 400, by omega⟩
  have HM := hide (show m = b + 400 by omega)
  have HMM := hide hm
  have hm1 : m ≤ 600 := by omega
  have hm2 : 408 ≤ m := by omega
  clear hm
  obtain ⟨K0, hK0⟩ : ∃ K0 : Nat, K0 = 60 := ⟨_, rfl⟩
  have hK1 : m / 16 + 18 ≤ K0 := by omega
  have hK2 : K0 ≤ 60 := by omega
  clear hK0
  go_enter Tryz.func39, Tryz.ntmps39
  go_wp2_with fail
  rw [← hW, unhide HMM]
  clear hW
  refine (refWhole _ 1 m (by omega) (by decide) (by decide)).mono ?_
  rintro r' w1 ⟨v1, rfl, hvb1, hs1, hb1⟩
  rw [Int.one_mul] at hs1
  replace A := A.below hb1
  replace R := R.below hb1
  replace hBW := bthen hBW hb1
  have lR := R.lt
  clear hb1
  obtain ⟨V1, hV1⟩ : ∃ V1, V1 = w1.alloc (.cells #[.bool v1.ln, .slice v1.la v1.lN v1.lc, .bool v1.hn, .slice v1.ha v1.hN v1.hc, .int .i64 v1.bits] 36) := ⟨_, rfl⟩
  have bV1 : Below w1.heap.size w1 V1 := by rw [hV1]; exact bl1 _ _
  have st0 : RmSt w V1 w1.heap.size v1 k p q r s (K0 + 13 * 0) m (rTm m p q 0) := ⟨A.below bV1, by rw [hV1]; exact ⟨⟨by simp, by simp, by simp, by simp, by simp⟩, fun o => by simp [go_sem]⟩, (hs1.mono (by omega)).below bV1, hvb1, R.below bV1, bthen hBW bV1, lR⟩
  clear hvb1
  go_wp2_with fail
  rw [← hV1]
  clear hV1 bV1 hs1 A R hBW
  obtain ⟨BT, hBT⟩ : ∃ BT, BT = w1.heap.size := ⟨_, rfl⟩
  rw [← hBT] at st0 ⊢
  clear hBT lR
  go_loopw [9] (fun kk wr => ∃ (i : Nat) (tt : Sp), kk = .int .i64 ((i : Int) + 1) ∧ i ≤ n ∧ RmSt w wr BT tt k p q r s (K0 + 13 * i) m (rTm m p q i)) (fun kk _ => n + 1 - (intOf kk).toNat)
  case atStart => exact ⟨0, v1, rfl, Nat.zero_le _, st0⟩
  case round =>
    obtain ⟨i, tt, rfl, hi, st⟩ := hrel
    clear st0
    have HK := hide (show ∀ w', Below wr.heap.size wr w' → (w'.cell? ⟨BT, 0, none⟩ = some (.bool tt.ln) ∧ w'.cell? ⟨BT, 1, none⟩ = some (.slice tt.la tt.lN tt.lc) ∧ w'.cell? ⟨BT, 2, none⟩ = some (.bool tt.hn) ∧ w'.cell? ⟨BT, 3, none⟩ = some (.slice tt.ha tt.hN tt.hc) ∧ w'.cell? ⟨BT, 4, none⟩ = some (.int .i64 tt.bits) ∧ w'.cell? ⟨w.heap.size, 1, none⟩ = some (.int .i64 p) ∧ w'.cell? ⟨w.heap.size, 2, none⟩ = some (.int .i64 q)) from fun w' hB => ⟨(st.t.below hB).c.c0, (st.t.below hB).c.c1, (st.t.below hB).c.c2, (st.t.below hB).c.c3, (st.t.below hB).c.c4, (st.l.below hB).c1, (st.l.below hB).c2⟩)
    have HST := hide st
    by_cases hin : i < n
    · have hin1 : (i : Int) + 1 ≤ (n : Int) := by omega
      have hmp : 0 < ((i : Int) + 1) * q := Int.mul_pos (by omega) hq
      have hmu : ((i : Int) + 1) * q ≤ 100 * 1024 := Int.mul_le_mul (by omega) r4 (by omega) (by omega)
      have HWM := hide (show IntKind.i64.wrap (((i : Int) + 1) * q) = ((i : Int) + 1) * q from i64_id _ (by omega) (by omega))
      have HMB := hide (show -9223372036854775808 ≤ ((i : Int) + 1) * q ∧ ((i : Int) + 1) * q ≤ 9223372036854775807 by omega)
      have HMP := hide hmp
      clear st hmp hmu
      go_wp2_with fail
      have hD0 : Below wr.heap.size wr wr.drew := (Below.refl _ _).drew
      refine AnyL.start (S := fun w' => w'.cell? ⟨BT, 0, none⟩ = some (.bool tt.ln) ∧ w'.cell? ⟨BT, 1, none⟩ = some (.slice tt.la tt.lN tt.lc) ∧ w'.cell? ⟨BT, 2, none⟩ = some (.bool tt.hn) ∧ w'.cell? ⟨BT, 3, none⟩ = some (.slice tt.ha tt.hN tt.hc) ∧ w'.cell? ⟨BT, 4, none⟩ = some (.int .i64 tt.bits) ∧ w'.cell? ⟨w.heap.size, 1, none⟩ = some (.int .i64 p) ∧ w'.cell? ⟨w.heap.size, 2, none⟩ = some (.int .i64 q)) (l := 12) (by kernel_rfl) (unhide HK _ hD0) (fun hHeld => ?_)
      refine AnyL.take (i := 0) (oi := { dst := some 19, op := Go.Op.load 36 (Go.Operand.tmp 8), type := 36, pos := "law.go:165", after := #[], guard := none }) (v := .agg #[.bool tt.ln, .slice tt.la tt.lN tt.lc, .bool tt.hn, .slice tt.ha tt.hN tt.hc, .int .i64 tt.bits]) rfl (by kernel_rfl) (by kernel_rfl) (by kernel_rfl) (by kernel_rfl) (fun _ _ _ h => h) (Or.inl ⟨by rfl, fun w hSw => ?_⟩) hHeld ?_
      · obtain ⟨s0, s1, s2, s3, s4, s5, s6⟩ := hSw; go_simp
      try simp only [Act.put, List.setIfInBounds_toArray, List.set_cons_zero, List.set_cons_succ]
      refine AnyL.take (i := 1) (oi := { dst := some 20, op := Go.Op.fieldAddr 53 (Go.Operand.tmp 3) 1, type := 0, pos := "law.go:165", after := #[], guard := none }) (v := .pointer (some ⟨w.heap.size, 1, none⟩)) rfl (by kernel_rfl) (by kernel_rfl) (by kernel_rfl) (by kernel_rfl) (fun _ _ _ h => h) (Or.inl ⟨by rfl, fun w hSw => ?_⟩) hHeld ?_
      · obtain ⟨s0, s1, s2, s3, s4, s5, s6⟩ := hSw; go_simp
      try simp only [Act.put, List.setIfInBounds_toArray, List.set_cons_zero, List.set_cons_succ]
      refine AnyL.take (i := 2) (oi := { dst := some 21, op := Go.Op.fieldAddr 23 (Go.Operand.tmp 20) 0, type := 0, pos := "law.go:165", after := #[{ on := 1, ground := Go.Ground.data }], guard := none }) (v := .pointer (some ⟨w.heap.size, 1, none⟩)) rfl (by kernel_rfl) (by kernel_rfl) (by kernel_rfl) (by kernel_rfl) (fun _ _ _ h => h) (Or.inl ⟨by rfl, fun w hSw => ?_⟩) hHeld ?_
      · obtain ⟨s0, s1, s2, s3, s4, s5, s6⟩ := hSw; go_simp
      try simp only [Act.put, List.setIfInBounds_toArray, List.set_cons_zero, List.set_cons_succ]
      refine AnyL.take (i := 3) (oi := { dst := some 22, op := Go.Op.load 3 (Go.Operand.tmp 21), type := 3, pos := "law.go:165", after := #[{ on := 2, ground := Go.Ground.data }], guard := none }) (v := .int .i64 p) rfl (by kernel_rfl) (by kernel_rfl) (by kernel_rfl) (by kernel_rfl) (fun _ _ _ h => h) (Or.inl ⟨by rfl, fun w hSw => ?_⟩) hHeld ?_
      · obtain ⟨s0, s1, s2, s3, s4, s5, s6⟩ := hSw; go_simp
      try simp only [Act.put, List.setIfInBounds_toArray, List.set_cons_zero, List.set_cons_succ]
      refine AnyL.take (i := 5) (oi := { dst := some 24, op := Go.Op.move (Go.Operand.tmp 9), type := 3, pos := "law.go:165", after := #[], guard := none }) (v := .int .i64 ((i : Int) + 1)) rfl (by kernel_rfl) (by kernel_rfl) (by kernel_rfl) (by kernel_rfl) (fun _ _ _ h => h) (Or.inl ⟨by rfl, fun w hSw => ?_⟩) hHeld ?_
      · obtain ⟨s0, s1, s2, s3, s4, s5, s6⟩ := hSw; go_simp
      try simp only [Act.put, List.setIfInBounds_toArray, List.set_cons_zero, List.set_cons_succ]
      refine AnyL.take (i := 6) (oi := { dst := some 25, op := Go.Op.fieldAddr 53 (Go.Operand.tmp 3) 1, type := 0, pos := "law.go:165", after := #[], guard := none }) (v := .pointer (some ⟨w.heap.size, 1, none⟩)) rfl (by kernel_rfl) (by kernel_rfl) (by kernel_rfl) (by kernel_rfl) (fun _ _ _ h => h) (Or.inl ⟨by rfl, fun w hSw => ?_⟩) hHeld ?_
      · obtain ⟨s0, s1, s2, s3, s4, s5, s6⟩ := hSw; go_simp
      try simp only [Act.put, List.setIfInBounds_toArray, List.set_cons_zero, List.set_cons_succ]
      refine AnyL.take (i := 7) (oi := { dst := some 26, op := Go.Op.fieldAddr 23 (Go.Operand.tmp 25) 1, type := 0, pos := "law.go:165", after := #[{ on := 6, ground := Go.Ground.data }], guard := none }) (v := .pointer (some ⟨w.heap.size, 2, none⟩)) rfl (by kernel_rfl) (by kernel_rfl) (by kernel_rfl) (by kernel_rfl) (fun _ _ _ h => h) (Or.inl ⟨by rfl, fun w hSw => ?_⟩) hHeld ?_
      · obtain ⟨s0, s1, s2, s3, s4, s5, s6⟩ := hSw; go_simp
      try simp only [Act.put, List.setIfInBounds_toArray, List.set_cons_zero, List.set_cons_succ]
      refine AnyL.take (i := 8) (oi := { dst := some 27, op := Go.Op.load 3 (Go.Operand.tmp 26), type := 3, pos := "law.go:165", after := #[{ on := 7, ground := Go.Ground.data }], guard := none }) (v := .int .i64 q) rfl (by kernel_rfl) (by kernel_rfl) (by kernel_rfl) (by kernel_rfl) (fun _ _ _ h => h) (Or.inl ⟨by rfl, fun w hSw => ?_⟩) hHeld ?_
      · obtain ⟨s0, s1, s2, s3, s4, s5, s6⟩ := hSw; go_simp
      try simp only [Act.put, List.setIfInBounds_toArray, List.set_cons_zero, List.set_cons_succ]
      refine AnyL.take (i := 9) (oi := { dst := some 28, op := Go.Op.binOp Go.BinOp.mul 3 (Go.Operand.tmp 24) (Go.Operand.tmp 27) 3, type := 3, pos := "law.go:165", after := #[{ on := 5, ground := Go.Ground.data }, { on := 8, ground := Go.Ground.data }], guard := none }) (v := .int .i64 (IntKind.i64.wrap (((i : Int) + 1) * q))) rfl (by kernel_rfl) (by kernel_rfl) (by kernel_rfl) (by kernel_rfl) (fun _ _ _ h => h) (Or.inl ⟨by rfl, fun w hSw => ?_⟩) hHeld ?_
      · obtain ⟨s0, s1, s2, s3, s4, s5, s6⟩ := hSw; go_simp
      try simp only [Act.put, List.setIfInBounds_toArray, List.set_cons_zero, List.set_cons_succ]
      refine AnyL.one (i := 4) (o := { dst := some 23, op := Go.Op.call { callee := Go.Callee.value (Go.Operand.func 43), args := #[Go.Operand.tmp 22], argTypes := #[3] }, type := 26, pos := "law.go:165", after := #[{ on := 3, ground := Go.Ground.data }], guard := none }) (by kernel_rfl) rfl (fun Kc hKc => ?_)
      go_simp
      refine (numOf_int p _ (by omega) (by omega)).mono ?_
      rintro r' w1 ⟨neg1, a1, n1, c1, rfl, hint1, hb1⟩
      have hD1 := bthen hD0 hb1
      clear hb1
      go_wp2_with fail
      refine hKc.out _ _ (unhide HK _ hD1) (fun hHeld => ?_)
      clear hKc Kc
      try simp only [Act.put, List.setIfInBounds_toArray, List.set_cons_zero, List.set_cons_succ]
      refine AnyL.one (i := 10) (o := { dst := some 29, op := Go.Op.call { callee := Go.Callee.value (Go.Operand.func 43), args := #[Go.Operand.tmp 28], argTypes := #[3] }, type := 26, pos := "law.go:165", after := #[{ on := 9, ground := Go.Ground.data }, { on := 4, ground := Go.Ground.chain }], guard := none }) (by kernel_rfl) rfl (fun Kc hKc => ?_)
      go_simp
      rw [unhide HWM]
      refine (numOf_int (((i : Int) + 1) * q) _ (unhide HMB).1 (unhide HMB).2).mono ?_
      rintro r' w2 ⟨neg2, a2, n2, c2, rfl, hint2, hb2⟩
      have hD2 := bthen hD1 hb2
      replace hint1 := hint1.below hb2
      clear hb2
      go_wp2_with fail
      refine hKc.out _ _ (unhide HK _ hD2) (fun hHeld => ?_)
      clear hKc Kc
      try simp only [Act.put, List.setIfInBounds_toArray, List.set_cons_zero, List.set_cons_succ]
      refine AnyL.one (i := 11) (o := { dst := some 30, op := Go.Op.call { callee := Go.Callee.value (Go.Operand.func 56), args := #[Go.Operand.tmp 19, Go.Operand.tmp 23, Go.Operand.tmp 29], argTypes := #[36, 26, 26] }, type := 36, pos := "law.go:165", after := #[{ on := 0, ground := Go.Ground.data }, { on := 4, ground := Go.Ground.data }, { on := 10, ground := Go.Ground.data }, { on := 10, ground := Go.Ground.chain }], guard := none }) (by kernel_rfl) rfl (fun Kc hKc => ?_)
      go_simp
      refine (refBy _ tt ⟨neg1, a1, n1, c1⟩ ⟨neg2, a2, n2, c2⟩ (K0 + 13 * i) 4 4 m (rTm m p q i) p (((i : Int) + 1) * q) ((unhide HST).pt.below hD2) hint1 hint2 (by omega) (by omega) (by omega) (unhide HMP) (unhide HST).tb).mono ?_
      rintro r' w3 ⟨v3, rfl, hvb3, hs3, hb3⟩
      have hD3 := bthen hD2 hb3
      have HV3 := hide hvb3
      clear hb3 hvb3 hint1 hint2
      go_wp2_with fail
      refine hKc.out _ _ (unhide HK _ hD3) (fun hHeld => ?_)
      clear hKc Kc
      try simp only [Act.put, List.setIfInBounds_toArray, List.set_cons_zero, List.set_cons_succ]
      have VT := (unhide HST).t.below hD3
      have lT := VT.lt
      obtain ⟨⟨z0, z1, z2, z3, z4⟩, zf⟩ := VT
      refine AnyL.last (o := { dst := none, op := Go.Op.store 36 (Go.Operand.tmp 8) (Go.Operand.tmp 30), type := 0, pos := "law.go:165", after := #[{ on := 11, ground := Go.Ground.data }, { on := 11, ground := Go.Ground.chain }, { on := 0, ground := Go.Ground.phase }, { on := 1, ground := Go.Ground.phase }, { on := 2, ground := Go.Ground.phase }, { on := 3, ground := Go.Ground.phase }, { on := 4, ground := Go.Ground.phase }, { on := 5, ground := Go.Ground.phase }, { on := 6, ground := Go.Ground.phase }, { on := 7, ground := Go.Ground.phase }, { on := 8, ground := Go.Ground.phase }, { on := 9, ground := Go.Ground.phase }, { on := 10, ground := Go.Ground.phase }, { on := 11, ground := Go.Ground.phase }], guard := none }) (by kernel_rfl) rfl (by kernel_rfl) (fun Kc hKc => ?_)
      go_simp
      refine hKc.out _ _ ?_
      clear hKc Kc z0 z1 z2 z3 z4 zf
      have stn := ((unhide HST).below hD3).put (a' := rTm m p q (i + 1)) (show SpAt w3 v3 (K0 + 13 * (i + 1)) (rTm m p q (i + 1)).1 (rTm m p q (i + 1)).2 from SpAt.mono hs3 (by omega)) (unhide HV3)
      unfold put5w at stn
      go_wp2_with fail
      go_roundw
      case rel => exact ⟨i + 1, _, by go_num, by omega, stn⟩
      case measure => simp [intOf]; omega
    · have hin1 : ¬ (i : Int) + 1 ≤ (n : Int) := by omega
      have hie : i = n := by omega
      subst hie
      have ll := st.l.lt
      have lt := st.t.lt
      have lb := st.lt
      have R := st.no
      have lR := R.lt
      have hBr := st.be
      have HPT := hide (st.pt.mono (show K0 + 13 * i ≤ 1500 by omega))
      have HTB := hide st.tb
      have n1 : BT ≠ w.heap.size + 1 := by omega
      have n2 : w.heap.size + 1 ≠ BT := by omega
      have n3 : w.heap.size ≠ w.heap.size + 1 := by omega
      have n4 : w.heap.size + 1 ≠ w.heap.size := by omega
      have HWH := hide (rat_wh100 (B := m) hq hp hp2)
      have HTN := hide (rTm_nonneg (b := m) hp hq i)
      have HQ := hide (show Q (m + 40 + 4 * (2 * 100 + 1) + 20) < P 200 by
        rw [← Q_P]
        have h1 := Q_mono (show m + 40 + 4 * (2 * 100 + 1) + 20 + 1 ≤ 16 * 200 by omega)
        have h2 : Q (m + 40 + 4 * (2 * 100 + 1) + 20 + 1) = 2 * Q (m + 40 + 4 * (2 * 100 + 1) + 20) := rfl
        have := Q_pos (m + 40 + 4 * (2 * 100 + 1) + 20)
        omega)
      have hqm : 4 ≤ Q m := by have := Q_mono (show 2 ≤ m by omega); have e : Q 2 = 4 := rfl; omega
      have hD0 : Below wr.heap.size wr wr.drew := (Below.refl _ _).drew
      clear st
      obtain ⟨x0, x1, x2, x3, x4, x5, x6⟩ := unhide HK _ (Below.refl _ _)
      go_wp2_with fail
      go_region_held3 (fun w' => w'.cell? ⟨BT, 0, none⟩ = some (.bool tt.ln) ∧ w'.cell? ⟨BT, 1, none⟩ = some (.slice tt.la tt.lN tt.lc) ∧ w'.cell? ⟨BT, 2, none⟩ = some (.bool tt.hn) ∧ w'.cell? ⟨BT, 3, none⟩ = some (.slice tt.ha tt.hN tt.hc) ∧ w'.cell? ⟨BT, 4, none⟩ = some (.int .i64 tt.bits) ∧ w'.cell? ⟨w.heap.size, 1, none⟩ = some (.int .i64 p) ∧ w'.cell? ⟨w.heap.size, 2, none⟩ = some (.int .i64 q)) (first | exact unhide HK _ (by first | with_reducible exact hD0 | with_reducible exact hD5 | with_reducible exact hD4 | with_reducible exact hD3 | with_reducible exact hD2 | with_reducible exact hD1) | go_keep)
        (first
          | (go_at_call 55; have hqq := hD4; refine (refClip01 _ v5 70000 b _ _ (hs5.mono (by omega)) (unhide HV5) (by omega) (by omega) (by omega)).mono ?_; rintro r' w6 ⟨v6, rfl, hvb6, hs6, hb6⟩; have HV6 := hide hvb6; clear hvb6; have hD5 := bthen hD4 hb6; obtain ⟨q0, q1, q2, q3, q4, q5⟩ := R.below hD5; obtain ⟨y0, y1, y2, y3, y4, y5, y6⟩ := unhide HK _ hD5)
          | (go_at_call 90; have hqq := hD3; refine (refTurn_int _ v4 (1500 + m / 16 + 20) b _ _ hs4 (by omega) (by have := unhide HV4; omega) (by have := unhide HV4; omega) (by omega) (by omega)).mono ?_; rintro r' w5 ⟨v5, rfl, hvb5, hs5, hb5⟩; rw [unhide HV4, show (m : Int) - (b : Int) = ((400 : Nat) : Int) by have := unhide HM; omega, downZ_nat, downZ_nat] at hs5; have HV5 := hide hvb5; clear hvb5; have hD4 := bthen hD3 hb5)
          | (go_at_call 91; have hqq := hD2; refine (refOver_any _ tt v3 1500 m (rTm m p q i).1 (rTm m p q i).2 o3.1 o3.2 ((unhide HPT).below hD2) (hs3.mono (by omega)) (by omega) (by omega) (unhide HTB) (unhide HO3).1 (unhide HO3).2.1).mono ?_; rintro r' w4 ⟨v4, rfl, hvb4, hs4, hb4⟩; have HV4 := hide hvb4; clear hvb4; have hD3 := bthen hD2 hb4)
          | (go_at_call 92; have hqq := hD1; refine (refExpOf_iv _ v2 (m / 16 + 18) m 200 100 (ofI p q m) (fun _ => (p : Rat) / (q : Rat)) (Ex.Bdd.const _) hs2 (unhide HV2) (Iv.of m hq) (unhide HWH).1 (unhide HWH).2.1 (by omega) (by omega) (by omega) (unhide HQ) (by omega) (by omega) (by omega)).mono ?_; rintro r' w3 ⟨o3, i3, k3, v3, rfl, hvb3, hs3, hb3⟩; have ho3 := k3 (unhide HWH).2.2; have HO3 := hide (And.intro (show ¬ (o3.1 ≤ 0 ∧ 0 ≤ o3.2) from fun hh => absurd hh.1 (Int.not_le.2 (Int.lt_of_lt_of_le (show 0 < Q m - 1 by omega) ho3))) (And.intro i3.le (And.intro ho3 i3))); clear hvb3 i3 k3 ho3; have hD2 := bthen hD1 hb3)
          | (go_at_call 14; refine (refRatioOf_any p q m _ (unhide HR) (by omega)).mono ?_; rintro r' w2 ⟨v2, rfl, hvb2, hs2, hb2⟩; have HV2 := hide hvb2; clear hvb2; have hD1 := bthen hD0 hb2))
      all_goals
        have HFI := hide (show Iv b _ _ by
          have hmm := unhide HM
          subst hmm
          exact rareMass_has (n := i) hp hq (unhide HO3).2.2.1 (unhide HO3).2.2.2)
        go_wp2_with fail
        refine bodyPost_ret (v := .agg #[.bool v6.ln, .slice v6.la v6.lN v6.lc, .bool v6.hn, .slice v6.ha v6.hN v6.hc, .int .i64 v6.bits]) (by simp [results, Tryz.results39, go_sem, q0, q1, q2, q3, q4]) rfl ⟨_, unhide HFI, v6, rfl, unhide HV6, ?_, ?_⟩
        · have hmm := unhide HM
          subst hmm
          exact SpAt.put5 hs6 q0 q1 q2 q3 q4 _ _ _ _ _
        · exact set5 (bthen hBr hD5) (by omega) _ _ _ _ _
end Go.Proofs.YtgmnknmjainababGreat

namespace Go.Proofs.YtgmnknmjainababGreat
set_option linter.unusedVariables false
set_option linter.unusedSimpArgs false
set_option linter.unnecessarySimpa false
open Go.RowKit
attribute [local go_sem ↓] Go.wp_at_zero Go.wp_at_succ

theorem flo_le' (x q : Int) (hq : 0 < q) : x / q * q ≤ x := Int.ediv_mul_le _ (by omega)
theorem flo_gt' (x q : Int) (hq : 0 < q) : x < x / q * q + q := by
  have h := Int.emod_add_mul_ediv x q
  have := Int.emod_lt_of_pos x hq
  rw [Int.mul_comm]; omega
theorem floor_eq {p q z : Int} (hq : 0 < q) (h1 : z * q ≤ p) (h2 : p < z * q + q) : p / q = z := by
  have a := flo_le' p q hq
  have b := flo_gt' p q hq
  have c1 : p / q < z + 1 := by
    refine Int.not_le.1 fun h => ?_
    have h3 := Int.mul_le_mul_of_nonneg_right h (show 0 ≤ q by omega)
    have h4 : (z + 1) * q = z * q + q := by rw [Int.add_mul]; omega
    omega
  have c2 : z < p / q + 1 := by
    refine Int.not_le.1 fun h => ?_
    have h3 := Int.mul_le_mul_of_nonneg_right h (show 0 ≤ q by omega)
    have h4 : (p / q + 1) * q = p / q * q + q := by rw [Int.add_mul]; omega
    omega
  omega

theorem tdiv_bd {p q : Int} (hq : 0 < q) : (p.tdiv q * q ≤ p ∧ p < p.tdiv q * q + q) ∨ (p < p.tdiv q * q ∧ p.tdiv q * q - q < p) := by
  by_cases hp : 0 ≤ p
  · rw [Int.tdiv_eq_ediv_of_nonneg hp]
    exact Or.inl ⟨flo_le' p q hq, flo_gt' p q hq⟩
  · have e : p.tdiv q = -((-p) / q) := by
      have h1 : ((-(-p)).tdiv q) = -((-p).tdiv q) := Int.neg_tdiv _ _
      rw [Int.neg_neg] at h1
      rw [h1, Int.tdiv_eq_ediv_of_nonneg (by omega)]
    have a := flo_le' (-p) q hq
    have b := flo_gt' (-p) q hq
    rw [e, Int.neg_mul]
    by_cases hz : (-p) / q * q = -p
    · exact Or.inl ⟨by omega, by omega⟩
    · exact Or.inr ⟨by omega, by omega⟩

set_option maxRecDepth 100000 in
set_option maxHeartbeats 2000000 in
theorem floorLaw (p q : Int) (w : World) (h : rok p q) :
    Calls Tryz.prog 203 #[.agg #[.int .i64 p, .int .i64 q]] w fun z w' => z = .returned (.int .i64 (p / q)) ∧ Below w.heap.size w w' := by
  obtain ⟨h1, h2, h3, h4⟩ := h
  have hb := tdiv_bd (p := p) (q := q) (by omega)
  obtain ⟨n, hn⟩ : ∃ n, n = p.tdiv q := ⟨_, rfl⟩
  have hn' : p.tdiv q = n := hn.symm
  rw [hn'] at hb
  have hz : (q == 0) = false := by simp; omega
  have hnb : -1048577 ≤ n ∧ n ≤ 1048577 := by
    rcases hb with ⟨b1, b2⟩ | ⟨b1, b2⟩
    · constructor
      · refine Int.not_lt.1 fun h => ?_
        have := Int.mul_le_mul_of_nonneg_right (show n ≤ -1048578 by omega) (show 0 ≤ q by omega)
        omega
      · refine Int.not_lt.1 fun h => ?_
        have := Int.mul_le_mul_of_nonneg_right (show 1048578 ≤ n by omega) (show 0 ≤ q by omega)
        omega
    · constructor
      · refine Int.not_lt.1 fun h => ?_
        have := Int.mul_le_mul_of_nonneg_right (show n ≤ -1048578 by omega) (show 0 ≤ q by omega)
        omega
      · refine Int.not_lt.1 fun h => ?_
        have := Int.mul_le_mul_of_nonneg_right (show 1048578 ≤ n by omega) (show 0 ≤ q by omega)
        omega
  have hnq : -2000000 ≤ n * q ∧ n * q ≤ 2000000 := by omega
  obtain ⟨m1, m2⟩ := hnb
  obtain ⟨m3, m4⟩ := hnq
  rcases hb with ⟨b1, b2⟩ | ⟨b1, b2⟩
  · have HE := hide (floor_eq (by omega) b1 b2)
    have hng : ¬ p < n * q := by omega
    clear hn b1 b2
    go_enter Tryz.func203, Tryz.ntmps203
    go_wp2
    go_ret
    exact ⟨by rw [unhide HE]; rfl, bl1 _ _⟩
  · have HE := hide (show p / q = n - 1 from floor_eq (by omega) (by rw [Int.sub_mul]; omega) (by rw [Int.sub_mul]; omega))
    clear hn b2
    go_enter Tryz.func203, Tryz.ntmps203
    go_wp2
    go_ret
    exact ⟨by rw [unhide HE]; rfl, bl1 _ _⟩

set_option maxRecDepth 100000 in
set_option maxHeartbeats 2000000 in
theorem below_count (q r s x y : Int) (P M b : Nat) (w : World) (hxy : rok x y) (hM : min (x / y) (P : Int) + 1 = (M : Int)) (hp : P ≤ 100) (hr : 0 ≤ r) (hs : r ≤ s) (hs1 : 1 ≤ s) (hs2 : s ≤ 1024) (hb : b ≤ 1000000) :
    Calls Tryz.prog 185 #[.agg #[.int .i64 6, .int .i64 (P : Int), .int .i64 q, .int .i64 r, .int .i64 s], .agg #[.int .i64 x, .int .i64 y], .int .i64 b] w (SpanAns w b (b / 16 + 5000) (cntF (wayN P r s) M * Q b / s ^ P) (-(-(cntF (wayN P r s) M * Q b) / s ^ P))) := by
  have hfl : -1000000000 ≤ x / y ∧ x / y ≤ 1000000000 := by
    obtain ⟨h1, h2, h3, h4⟩ := hxy
    have a := flo_le' x y (by omega)
    have b := flo_gt' x y (by omega)
    constructor
    · refine Int.not_lt.1 fun h => ?_
      have := Int.mul_le_mul_of_nonneg_right (show x / y ≤ -1000000001 by omega) (show 0 ≤ y by omega)
      omega
    · refine Int.not_lt.1 fun h => ?_
      have := Int.mul_le_mul_of_nonneg_right (show 1000000001 ≤ x / y by omega) (show 0 ≤ y by omega)
      omega
  obtain ⟨W, hW⟩ : ∃ W, W = ((w.alloc (.cells #[.int .i64 6, .int .i64 (P : Int), .int .i64 q, .int .i64 r, .int .i64 s] 53)).alloc (.cells #[.int .i64 x, .int .i64 y] 23)).alloc (.cells #[.bool false, .slice none 0 0, .bool false, .slice none 0 0, .int .i64 0] 28) := ⟨_, rfl⟩
  have hBW : Below w.heap.size w W := by rw [hW]; exact bl3 _ _ _ _
  have L : W.cell? ⟨w.heap.size, 0, none⟩ = some (.int .i64 6) ∧ W.cell? ⟨w.heap.size, 1, none⟩ = some (.int .i64 (P : Int)) ∧ W.cell? ⟨w.heap.size, 2, none⟩ = some (.int .i64 q) ∧ W.cell? ⟨w.heap.size, 3, none⟩ = some (.int .i64 r) ∧ W.cell? ⟨w.heap.size, 4, none⟩ = some (.int .i64 s) ∧ W.cell? ⟨w.heap.size + 1, 0, none⟩ = some (.int .i64 x) ∧ W.cell? ⟨w.heap.size + 1, 1, none⟩ = some (.int .i64 y) := by rw [hW]; simp [go_sem]
  have R : NoC W (w.heap.size + 1 + 1) := by rw [hW]; exact ⟨by simp [go_sem], by simp [go_sem], by simp [go_sem], by simp [go_sem], by simp [go_sem], fun o => by simp [go_sem]⟩
  have lR := R.lt
  have HK := hide (show ∀ w', Below W.heap.size W w' → (w'.cell? ⟨w.heap.size, 0, none⟩ = some (.int .i64 6) ∧ w'.cell? ⟨w.heap.size, 1, none⟩ = some (.int .i64 (P : Int)) ∧ w'.cell? ⟨w.heap.size, 2, none⟩ = some (.int .i64 q) ∧ w'.cell? ⟨w.heap.size, 3, none⟩ = some (.int .i64 r) ∧ w'.cell? ⟨w.heap.size, 4, none⟩ = some (.int .i64 s) ∧ w'.cell? ⟨w.heap.size + 1, 0, none⟩ = some (.int .i64 x) ∧ w'.cell? ⟨w.heap.size + 1, 1, none⟩ = some (.int .i64 y)) from fun w' hB => by
    obtain ⟨l0, l1, l2, l3, l4, l5, l6⟩ := L
    exact ⟨(hB.cell (p := ⟨w.heap.size, 0, none⟩) (by show w.heap.size < _; omega)).trans l0, (hB.cell (p := ⟨w.heap.size, 1, none⟩) (by show w.heap.size < _; omega)).trans l1, (hB.cell (p := ⟨w.heap.size, 2, none⟩) (by show w.heap.size < _; omega)).trans l2, (hB.cell (p := ⟨w.heap.size, 3, none⟩) (by show w.heap.size < _; omega)).trans l3, (hB.cell (p := ⟨w.heap.size, 4, none⟩) (by show w.heap.size < _; omega)).trans l4, (hB.cell (p := ⟨w.heap.size + 1, 0, none⟩) (by show w.heap.size + 1 < _; omega)).trans l5, (hB.cell (p := ⟨w.heap.size + 1, 1, none⟩) (by show w.heap.size + 1 < _; omega)).trans l6⟩)
  have HM := hide hM
  clear hM L
  go_enter Tryz.func185, Tryz.ntmps185
  go_wp2
  rw [← hW]
  clear hW
  obtain ⟨l0, l1, l2, l3, l4, l5, l6⟩ := unhide HK _ (Below.refl _ _)
  have hD0 : Below W.heap.size W W.drew := (Below.refl _ _).drew
  have nA : w.heap.size ≠ w.heap.size + 1 + 1 := by omega
  have nA' : w.heap.size + 1 + 1 ≠ w.heap.size := by omega
  go_region_held3 (fun w' => w'.cell? ⟨w.heap.size, 0, none⟩ = some (.int .i64 6) ∧ w'.cell? ⟨w.heap.size, 1, none⟩ = some (.int .i64 (P : Int)) ∧ w'.cell? ⟨w.heap.size, 2, none⟩ = some (.int .i64 q) ∧ w'.cell? ⟨w.heap.size, 3, none⟩ = some (.int .i64 r) ∧ w'.cell? ⟨w.heap.size, 4, none⟩ = some (.int .i64 s) ∧ w'.cell? ⟨w.heap.size + 1, 0, none⟩ = some (.int .i64 x) ∧ w'.cell? ⟨w.heap.size + 1, 1, none⟩ = some (.int .i64 y)) (first | exact unhide HK _ (by first | with_reducible exact hD0 | with_reducible exact hD2 | with_reducible exact hD1) | go_keep)
    (first
      | (go_at_call 202; refine (count_int 6 q r s (x / y) P M b _ (unhide HM) hfl.1 hfl.2 hp hr hs hs1 hs2 hb).mono ?_; rintro r' w2 ⟨u, rfl, hub, hup, hb2⟩; have hD2 := bthen hD1 hb2; obtain ⟨q0, q1, q2, q3, q4, q5⟩ := R.below hD2; have HUB := hide hub; clear hub; obtain ⟨e0, e1, e2, e3, e4, e5, e6⟩ := unhide HK _ hD2)
      | (go_at_call 203; refine (floorLaw x y _ hxy).mono ?_; rintro r' w1 ⟨rfl, hb1⟩; have hD1 := bthen hD0 hb1))
  all_goals
    go_wp2_with fail
    refine bodyPost_ret (v := .agg #[.bool u.ln, .slice u.la u.lN u.lc, .bool u.hn, .slice u.ha u.hN u.hc, .int .i64 u.bits]) (by simp [results, Tryz.results185, go_sem, q0, q1, q2, q3, q4]) rfl ⟨u, rfl, unhide HUB, ?_, ?_⟩
    · exact SpAt.put5 hup q0 q1 q2 q3 q4 _ _ _ _ _
    · exact set5 (bthen hBW hD2) (by omega) _ _ _ _ _
end Go.Proofs.YtgmnknmjainababGreat

namespace Go.Proofs.YtgmnknmjainababGreat
set_option linter.unusedVariables false
set_option linter.unusedSimpArgs false
set_option linter.unnecessarySimpa false
open Go.RowKit
attribute [local go_sem ↓] Go.wp_at_zero Go.wp_at_succ

set_option maxRecDepth 100000 in
set_option maxHeartbeats 2000000 in
theorem below1_any (u : Sp) (w : World) : Calls Tryz.prog 150 #[.agg #[.bool u.ln, .slice u.la u.lN u.lc, .bool u.hn, .slice u.ha u.hN u.hc, .int .i64 u.bits]] w fun r w' => r = .returned (.agg #[.bool u.ln, .slice u.la u.lN u.lc, .bool u.hn, .slice u.ha u.hN u.hc, .int .i64 u.bits]) ∧ Below w.heap.size w w' := by
  obtain ⟨W, hW⟩ : ∃ W, W = (w.alloc (.cells #[.bool u.ln, .slice u.la u.lN u.lc, .bool u.hn, .slice u.ha u.hN u.hc, .int .i64 u.bits] 28)).alloc (.cells #[.bool false, .slice none 0 0, .bool false, .slice none 0 0, .int .i64 0] 28) := ⟨_, rfl⟩
  have hBW : Below w.heap.size w W := by rw [hW]; exact bl2 _ _ _
  have U : SpC W w.heap.size u := by rw [hW]; exact (spc_new w u _).below (bl1 _ _)
  have R : NoC W (w.heap.size + 1) := by rw [hW]; exact ⟨by simp [go_sem], by simp [go_sem], by simp [go_sem], by simp [go_sem], by simp [go_sem], fun o => by simp [go_sem]⟩
  have lR := R.lt
  have lU := U.lt
  obtain ⟨x0, x1, x2, x3, x4⟩ := U
  obtain ⟨q0, q1, q2, q3, q4, q5⟩ := R
  go_enter Tryz.func150, Tryz.ntmps150
  go_wp2
  try rw [← hW]
  clear hW
  try go_wp2
  refine bodyPost_ret (v := .agg #[.bool u.ln, .slice u.la u.lN u.lc, .bool u.hn, .slice u.ha u.hN u.hc, .int .i64 u.bits]) (by simp [results, Tryz.results150, go_sem, q0, q1, q2, q3, q4]) rfl ⟨rfl, ?_⟩
  exact bl2 _ _ _

/-- What the first literal of law.made leans on, for two coins. -/
def CoinAt (w : World) (B1 B2 B3 : Nat) : Prop :=
  w.cell? ⟨B1, 0, none⟩ = some (.func (.func 150) #[] #[]) ∧ w.cell? ⟨B2, 0, none⟩ = some (.int .i64 6) ∧ w.cell? ⟨B2, 1, none⟩ = some (.int .i64 2) ∧ w.cell? ⟨B2, 2, none⟩ = some (.int .i64 1) ∧ w.cell? ⟨B2, 3, none⟩ = some (.int .i64 1) ∧ w.cell? ⟨B2, 4, none⟩ = some (.int .i64 2) ∧ w.cell? ⟨B3, 0, none⟩ = some (.int .i64 1) ∧ w.cell? ⟨B3, 1, none⟩ = some (.int .i64 1)
theorem CoinAt.below {w w' : World} {B1 B2 B3 : Nat} (h : CoinAt w B1 B2 B3) (hb : Below w.heap.size w w') : CoinAt w' B1 B2 B3 := by
  obtain ⟨h0, h1, h2, h3, h4, h5, h6, h7⟩ := h
  have l1 := World.block_lt_of_cell? w ⟨B1, 0, none⟩ h0
  have l2 := World.block_lt_of_cell? w ⟨B2, 0, none⟩ h1
  have l3 := World.block_lt_of_cell? w ⟨B3, 0, none⟩ h6
  exact ⟨(hb.cell (p := ⟨B1, 0, none⟩) l1).trans h0, (hb.cell (p := ⟨B2, 0, none⟩) l2).trans h1, (hb.cell (p := ⟨B2, 1, none⟩) l2).trans h2, (hb.cell (p := ⟨B2, 2, none⟩) l2).trans h3, (hb.cell (p := ⟨B2, 3, none⟩) l2).trans h4, (hb.cell (p := ⟨B2, 4, none⟩) l2).trans h5, (hb.cell (p := ⟨B3, 0, none⟩) l3).trans h6, (hb.cell (p := ⟨B3, 1, none⟩) l3).trans h7⟩

set_option maxRecDepth 100000 in
set_option maxHeartbeats 2000000 in
theorem made1_coin (b : Nat) (B1 B2 B3 : Nat) (w : World) (h : CoinAt w B1 B2 B3) (hb : b ≤ 1000000) :
    Calls Tryz.prog 184 #[.int .i64 b, .pointer (some ⟨B1, 0, none⟩), .pointer (some ⟨B2, 0, none⟩), .pointer (some ⟨B3, 0, none⟩)] w (SpanAns w b (b / 16 + 5000) (3 * Q b / 4) (-(-(3 * Q b) / 4))) := by
  have l1 := World.block_lt_of_cell? w ⟨B1, 0, none⟩ h.1
  have l2 := World.block_lt_of_cell? w ⟨B2, 0, none⟩ h.2.1
  have l3 := World.block_lt_of_cell? w ⟨B3, 0, none⟩ h.2.2.2.2.2.2.1
  obtain ⟨W, hW⟩ : ∃ W, W = w.alloc (.cells #[.bool false, .slice none 0 0, .bool false, .slice none 0 0, .int .i64 0] 28) := ⟨_, rfl⟩
  have hBW : Below w.heap.size w W := by rw [hW]; exact bl1 _ _
  have R : NoC W w.heap.size := by rw [hW]; exact noc_new _ _
  have h' := h.below hBW
  have HK := hide (show ∀ w', Below W.heap.size W w' → (w'.cell? ⟨B1, 0, none⟩ = some (.func (.func 150) #[] #[]) ∧ w'.cell? ⟨B2, 0, none⟩ = some (.int .i64 6) ∧ w'.cell? ⟨B2, 1, none⟩ = some (.int .i64 2) ∧ w'.cell? ⟨B2, 2, none⟩ = some (.int .i64 1) ∧ w'.cell? ⟨B2, 3, none⟩ = some (.int .i64 1) ∧ w'.cell? ⟨B2, 4, none⟩ = some (.int .i64 2) ∧ w'.cell? ⟨B3, 0, none⟩ = some (.int .i64 1) ∧ w'.cell? ⟨B3, 1, none⟩ = some (.int .i64 1)) from fun w' hB => h'.below hB)
  have e1 : cntF (wayN (2 : Nat) 1 2) 2 = 3 := by decide
  have e2 : (2 : Int) ^ 2 = 4 := by decide
  have HC := hide (fun W b' => below_count 1 1 2 1 1 2 2 b W ⟨by omega, by omega, by omega, by omega⟩ (by decide) (by omega) (by omega) (by omega) (by omega) (by omega) (b' : b ≤ 1000000))
  rw [e1, e2] at HC
  clear h h'
  go_enter Tryz.func184, Tryz.ntmps184
  go_wp2
  rw [← hW]
  clear hW
  have lR := R.lt
  have nA : B1 ≠ w.heap.size := by omega
  have nA' : w.heap.size ≠ B1 := by omega
  have nB : B2 ≠ w.heap.size := by omega
  have nB' : w.heap.size ≠ B2 := by omega
  have nC : B3 ≠ w.heap.size := by omega
  have nC' : w.heap.size ≠ B3 := by omega
  obtain ⟨x0, x1, x2, x3, x4, x5, x6, x7⟩ := unhide HK _ (Below.refl _ _)
  have hD0 : Below W.heap.size W W.drew := (Below.refl _ _).drew
  go_region_held3 (fun w' => w'.cell? ⟨B1, 0, none⟩ = some (.func (.func 150) #[] #[]) ∧ w'.cell? ⟨B2, 0, none⟩ = some (.int .i64 6) ∧ w'.cell? ⟨B2, 1, none⟩ = some (.int .i64 2) ∧ w'.cell? ⟨B2, 2, none⟩ = some (.int .i64 1) ∧ w'.cell? ⟨B2, 3, none⟩ = some (.int .i64 1) ∧ w'.cell? ⟨B2, 4, none⟩ = some (.int .i64 2) ∧ w'.cell? ⟨B3, 0, none⟩ = some (.int .i64 1) ∧ w'.cell? ⟨B3, 1, none⟩ = some (.int .i64 1)) (first | exact unhide HK _ (by first | with_reducible exact hD0 | with_reducible exact hD2 | with_reducible exact hD1) | go_keep)
    (first
      | (go_at_call 150; refine (below1_any u _).mono ?_; rintro r' w2 ⟨rfl, hb2⟩; have hD2 := bthen hD1 hb2; replace hup := hup.below hb2; obtain ⟨q0, q1, q2, q3, q4, q5⟩ := R.below hD2; obtain ⟨y0, y1, y2, y3, y4, y5, y6, y7⟩ := unhide HK _ hD2)
      | (go_at_call 185; refine (unhide HC _ hb).mono ?_; rintro r' w1 ⟨u, rfl, hub, hup, hb1⟩; have hD1 := bthen hD0 hb1; have HUB := hide hub; clear hub))
  all_goals
    go_wp2_with fail
    refine bodyPost_ret (v := .agg #[.bool u.ln, .slice u.la u.lN u.lc, .bool u.hn, .slice u.ha u.hN u.hc, .int .i64 u.bits]) (by simp [results, Tryz.results184, go_sem, q0, q1, q2, q3, q4]) rfl ⟨u, rfl, unhide HUB, ?_, ?_⟩
    · exact SpAt.put5 hup q0 q1 q2 q3 q4 _ _ _ _ _
    · exact set5 (bthen hBW hD2) (Nat.le_refl _) _ _ _ _ _

/-- What comes of N over D, by some bits. -/
def Exact (N D : Int) (B : Nat) (lo hi : Int) : Prop := lo = N * Q B / D ∧ hi = -(-(N * Q B) / D)
theorem exact_ends {N D : Int} {bits : Nat} (hD : 0 < D) (h0 : 0 ≤ N) (h1 : N ≤ D) (hb : bits ≤ 120) : SureEnds bits 0 (Exact N D) := by
  rintro m lo hi ⟨rfl, rfl⟩
  have a1 := ceil_ge (N * Q (bits + m)) D hD
  have a2 := ceil_lt (N * Q (bits + m)) D hD
  have a3 := flo_le (N * Q (bits + m)) D hD
  have a4 := flo_gt (N * Q (bits + m)) D hD
  have hs := Int.sub_mul (-(-(N * Q (bits + m)) / D)) (N * Q (bits + m) / D) D
  have hq := Q_pos (bits + m)
  have hx0 : 0 ≤ N * Q (bits + m) := Int.mul_nonneg h0 (by omega)
  have hx1 : N * Q (bits + m) ≤ D * Q (bits + m) := Int.mul_le_mul_of_nonneg_right h1 (by omega)
  have hbig : Q (bits + m) + 1 ≤ P 200 * Q m := by
    have e : P 200 = Q 3200 := (Q_P 200).symm
    rw [e, ← Q_add]
    have h5 := Q_mono (show bits + m + 1 ≤ 3200 + m by omega)
    have e2 : Q (bits + m + 1) = 2 * Q (bits + m) := rfl
    omega
  refine ⟨?_, ?_, ?_, ?_⟩
  · refine Int.not_lt.1 fun hn => ?_
    have := Int.mul_le_mul_of_nonneg_right (show -(-(N * Q (bits + m)) / D) - N * Q (bits + m) / D ≤ -1 by omega) (show 0 ≤ D by omega)
    omega
  · show _ ≤ 1
    refine Int.not_lt.1 fun hn => ?_
    have := Int.mul_le_mul_of_nonneg_right (show 2 ≤ -(-(N * Q (bits + m)) / D) - N * Q (bits + m) / D by omega) (show 0 ≤ D by omega)
    omega
  · have : 0 ≤ N * Q (bits + m) / D := Int.ediv_nonneg hx0 (by omega)
    omega
  · refine Int.not_lt.1 fun hn => ?_
    have h6 := Int.mul_le_mul_of_nonneg_right (show Q (bits + m) + 1 ≤ -(-(N * Q (bits + m)) / D) by omega) (show 0 ≤ D by omega)
    have h7 : (Q (bits + m) + 1) * D = D * Q (bits + m) + D := by rw [Int.add_mul, Int.mul_comm (Q (bits + m))]; omega
    omega
theorem exact_sure {N D L H : Int} {bits : Nat} (z : Int) (hz : N * Q bits = D * z) (hD : 0 < D) (h : SureOf bits (Exact N D) L H) : L = z ∧ H = z := by
  obtain ⟨m, lo, hi, ⟨rfl, rfl⟩, hm, rfl, rfl, _⟩ := h
  have hq := Q_pos m
  have e : N * Q (bits + m) = D * (z * Q m) := by rw [Q_add, ← Int.mul_assoc, hz, Int.mul_assoc]
  have e2 : -(D * (z * Q m)) = D * (-(z * Q m)) := by rw [Int.mul_neg]
  rw [e, e2, Int.mul_ediv_cancel_left _ (by omega), Int.mul_ediv_cancel_left _ (by omega), Int.neg_neg]
  rw [← Int.neg_mul, Int.mul_ediv_cancel _ (by omega), Int.mul_ediv_cancel _ (by omega)]
  omega
end Go.Proofs.YtgmnknmjainababGreat

namespace Go.Proofs.YtgmnknmjainababGreat
set_option linter.unusedVariables false
set_option linter.unusedSimpArgs false
set_option linter.unnecessarySimpa false
open Go.RowKit
attribute [local go_sem ↓] Go.wp_at_zero Go.wp_at_succ

theorem coin_sure {L H : Int} (h : SureOf 20 (Exact 3 4) L H) : L = 786432 ∧ H = 786432 := exact_sure 786432 (by decide) (by decide) h
theorem half_sure {L H : Int} (h : SureOf 20 (Exact 2 4) L H) : L = 524288 ∧ H = 524288 := exact_sure 524288 (by decide) (by decide) h

set_option maxRecDepth 100000 in
set_option maxHeartbeats 2000000 in
theorem made_coin (w : World) :
    Calls Tryz.prog 149 #[.agg #[.int .i64 6, .int .i64 2, .int .i64 1, .int .i64 1, .int .i64 2], .agg #[.int .i64 1, .int .i64 1], .int .i64 20, .func (.func 150) #[] #[]] w (PairAns w 20 250 786432 786432 0) := by
  have e0 : lawE 6 2 1 1 2 = 0 := by decide
  have e1 : ratE 1 1 20 = 0 := by decide
  go_enter Tryz.func149, Tryz.ntmps149
  go_wp2_with fail
  refine (check_law 6 2 1 1 2 _).mono ?_
  rintro r' w1 ⟨rfl, hb1⟩
  rw [e0]
  have C : CoinAt w1 (w.heap.size + 1 + 1) w.heap.size (w.heap.size + 1) := CoinAt.below ⟨by simp [go_sem], by simp [go_sem], by simp [go_sem], by simp [go_sem], by simp [go_sem], by simp [go_sem], by simp [go_sem], by simp [go_sem]⟩ hb1
  have R : NoC w1 (w.heap.size + 1 + 1 + 1) := NoC.below ⟨by simp [go_sem], by simp [go_sem], by simp [go_sem], by simp [go_sem], by simp [go_sem], fun o => by simp [go_sem]⟩ hb1
  have hB : Below w.heap.size w w1 := bthen (bl4 _ _ _ _ _) hb1
  have lR := R.lt
  obtain ⟨x0, x1, x2, x3, x4, x5, x6, x7⟩ := C
  have C : CoinAt w1 (w.heap.size + 1 + 1) w.heap.size (w.heap.size + 1) := ⟨x0, x1, x2, x3, x4, x5, x6, x7⟩
  clear hb1
  go_wp2_with fail
  refine (ratioFault1 20 w1 _ (by simp) 1 1 _ _).mono ?_
  rintro r' w2 ⟨rfl, hb2⟩
  rw [e1]
  replace C := C.below hb2
  replace R := R.below hb2
  replace hB := bthen hB hb2
  clear hb2 x0 x1 x2 x3 x4 x5 x6 x7
  go_wp2_with fail
  refine (sure_lawmade _ _ _ 20 0 6000 (Exact 3 4) _ (by omega) (by omega) (by omega) (exact_ends (by decide) (by decide) (by decide) (by omega)) (fun m w' hm hm2 hbl => ?_)).mono ?_
  · have := made1_coin (20 + m) (w.heap.size + 1 + 1) w.heap.size (w.heap.size + 1) w' (C.below hbl) (by omega)
    rw [show (((20 + m : Nat) : Nat) : Int) = ((20 : Nat) : Int) + m by omega] at this
    refine this.mono fun r w'' ⟨s, g1, g2, g3, g4⟩ => ⟨_, _, ⟨rfl, rfl⟩, s, g1, g2, ⟨g3.lo.mono (by omega), g3.hi.mono (by omega)⟩, g4⟩
  rintro r' w3 ⟨L, H, hS, u, rfl, hub, hup, hb3⟩
  obtain ⟨rfl, rfl⟩ := coin_sure hS
  obtain ⟨q0, q1, q2, q3, q4, q5⟩ := R.below hb3
  replace hB := bthen hB hb3
  have HUB := hide hub
  clear hub
  go_wp2_with fail
  refine bodyPost_ret (v := .tuple #[.agg #[.bool u.ln, .slice u.la u.lN u.lc, .bool u.hn, .slice u.ha u.hN u.hc, .int .i64 u.bits], .int .i64 0]) (by simp [results, Tryz.results149, go_sem, q0, q1, q2, q3, q4]) rfl ⟨u, rfl, unhide HUB, ?_, ?_⟩
  · exact SpAt.put5 hup q0 q1 q2 q3 q4 _ _ _ _ _
  · exact set5 hB (by omega) _ _ _ _ _

set_option maxRecDepth 100000 in
set_option maxHeartbeats 2000000 in
theorem below_coin (w : World) :
    Calls Tryz.prog 79 #[.agg #[.int .i64 6, .int .i64 2, .int .i64 1, .int .i64 1, .int .i64 2], .agg #[.int .i64 1, .int .i64 1], .int .i64 20] w (PairAns w 20 250 786432 786432 0) := by
  go_enter Tryz.func79, Tryz.ntmps79
  go_wp2_with fail
  refine (made_coin _).mono ?_
  rintro r' w1 ⟨u, rfl, hub, hup, hb1⟩
  have R : NoC w1 (w.heap.size + 1 + 1) := NoC.below ⟨by simp [go_sem], by simp [go_sem], by simp [go_sem], by simp [go_sem], by simp [go_sem], fun o => by simp [go_sem]⟩ hb1
  have hB : Below w.heap.size w w1 := bthen (bl3 _ _ _ _) hb1
  obtain ⟨q0, q1, q2, q3, q4, q5⟩ := R
  have HUB := hide hub
  clear hub hb1
  go_wp2_with fail
  refine bodyPost_ret (v := .tuple #[.agg #[.bool u.ln, .slice u.la u.lN u.lc, .bool u.hn, .slice u.ha u.hN u.hc, .int .i64 u.bits], .int .i64 0]) (by simp [results, Tryz.results79, go_sem, q0, q1, q2, q3, q4]) rfl ⟨u, rfl, unhide HUB, ?_, ?_⟩
  · exact SpAt.put5 hup q0 q1 q2 q3 q4 _ _ _ _ _
  · exact set5 hB (by omega) _ _ _ _ _
end Go.Proofs.YtgmnknmjainababGreat

namespace Go.Proofs.YtgmnknmjainababGreat
set_option linter.unusedVariables false
set_option linter.unusedSimpArgs false
set_option linter.unnecessarySimpa false
open Go.RowKit
attribute [local go_sem ↓] Go.wp_at_zero Go.wp_at_succ

set_option maxRecDepth 100000 in
set_option maxHeartbeats 2000000 in
theorem massFault_coin (w : World) :
    Calls Tryz.prog 85 #[.agg #[.int .i64 6, .int .i64 2, .int .i64 1, .int .i64 1, .int .i64 2], .int .i64 1, .int .i64 20] w fun r w' => r = .returned (.int .i64 0) ∧ Below w.heap.size w w' := by
  have e0 : lawE 6 2 1 1 2 = 0 := by decide
  go_enter Tryz.func85, Tryz.ntmps85
  go_wp2_with fail
  refine (check_law 6 2 1 1 2 _).mono ?_
  rintro r' w1 ⟨rfl, hb1⟩
  rw [e0]
  have C : LwC w1 w.heap.size 6 2 1 1 2 := (lwc_new w 6 2 1 1 2 _).below hb1
  have hB : Below w.heap.size w w1 := bthen (bl1 _ _) hb1
  obtain ⟨x0, x1, x2, x3, x4⟩ := C
  clear hb1
  go_wp2_with fail
  go_ret
  exact ⟨rfl, hB⟩

set_option maxRecDepth 100000 in
set_option maxHeartbeats 2000000 in
theorem just_coin (b : Nat) (w : World) (hb : b ≤ 1000000) :
    Calls Tryz.prog 87 #[.agg #[.int .i64 6, .int .i64 2, .int .i64 1, .int .i64 1, .int .i64 2], .int .i64 1, .int .i64 b] w (SpanAns w b (b / 16 + 5000) (2 * Q b / 4) (-(-(2 * Q b) / 4))) := by
  obtain ⟨W, hW⟩ : ∃ W, W = (w.alloc (.cells #[.int .i64 6, .int .i64 2, .int .i64 1, .int .i64 1, .int .i64 2] 53)).alloc (.cells #[.bool false, .slice none 0 0, .bool false, .slice none 0 0, .int .i64 0] 28) := ⟨_, rfl⟩
  have hBW : Below w.heap.size w W := by rw [hW]; exact bl2 _ _ _
  have C : LwC W w.heap.size 6 2 1 1 2 := by rw [hW]; exact (lwc_new w 6 2 1 1 2 _).below (bl1 _ _)
  have R : NoC W (w.heap.size + 1) := by rw [hW]; exact ⟨by simp [go_sem], by simp [go_sem], by simp [go_sem], by simp [go_sem], by simp [go_sem], fun o => by simp [go_sem]⟩
  have HK := hide (show ∀ w', Below W.heap.size W w' → (w'.cell? ⟨w.heap.size, 0, none⟩ = some (.int .i64 6) ∧ w'.cell? ⟨w.heap.size, 1, none⟩ = some (.int .i64 2) ∧ w'.cell? ⟨w.heap.size, 2, none⟩ = some (.int .i64 1) ∧ w'.cell? ⟨w.heap.size, 3, none⟩ = some (.int .i64 1) ∧ w'.cell? ⟨w.heap.size, 4, none⟩ = some (.int .i64 2)) from fun w' hB => ⟨(C.below hB).c0, (C.below hB).c1, (C.below hB).c2, (C.below hB).c3, (C.below hB).c4⟩)
  have e1 : wayF ((1 : Int) ^ 1 * (2 - 1) ^ ((2 : Int).toNat - 1)) (2 - (1 : Nat)) 1 = 2 := by decide
  have e2 : (2 : Int) ^ 2 = 4 := by decide
  have HW := hide (fun W => ways_int 6 2 1 1 2 1 W (by omega) (by omega) (by omega) (by omega) (by omega))
  rw [e1] at HW
  have HP := hide (fun W => raised_int 2 2 W (by omega) (by omega) (by omega))
  rw [e2] at HP
  go_enter Tryz.func87, Tryz.ntmps87
  go_wp2
  try rw [← hW]
  clear hW e1 e2
  have lR := R.lt
  have nA : w.heap.size ≠ w.heap.size + 1 := by omega
  have nA' : w.heap.size + 1 ≠ w.heap.size := by omega
  obtain ⟨x0, x1, x2, x3, x4⟩ := unhide HK _ (Below.refl _ _)
  have hD0 : Below W.heap.size W W.drew := (Below.refl _ _).drew
  go_region_held3 (fun w' => w'.cell? ⟨w.heap.size, 0, none⟩ = some (.int .i64 6) ∧ w'.cell? ⟨w.heap.size, 1, none⟩ = some (.int .i64 2) ∧ w'.cell? ⟨w.heap.size, 2, none⟩ = some (.int .i64 1) ∧ w'.cell? ⟨w.heap.size, 3, none⟩ = some (.int .i64 1) ∧ w'.cell? ⟨w.heap.size, 4, none⟩ = some (.int .i64 2)) (first | exact unhide HK _ (by first | with_reducible exact hD0 | with_reducible exact hD3 | with_reducible exact hD2 | with_reducible exact hD1) | go_keep)
    (first
      | (go_at_call 140; have hq := hD2; refine (wideOf_any _ _ _ _ _ _ _ _ 500 500 b 2 4 _ ((hint1.below hb2).mono (by omega)) (hint2.mono (by omega)) (by omega) hb (by omega)).mono ?_; rintro r' w3 ⟨u, rfl, hub, hup, hb3⟩; have hD3 := bthen hD2 hb3; obtain ⟨q0, q1, q2, q3, q4, q5⟩ := R.below hD3; have HUB := hide hub; clear hub; obtain ⟨y0, y1, y2, y3, y4⟩ := unhide HK _ hD3)
      | (go_at_call 154; refine (unhide HP _).mono ?_; rintro r' w2 ⟨neg2, a2, n2, c2, rfl, hint2, hb2⟩; have hD2 := bthen hD1 hb2)
      | (go_at_call 153; refine (unhide HW _).mono ?_; rintro r' w1 ⟨neg1, a1, n1, c1, rfl, hint1, hb1⟩; have hD1 := bthen hD0 hb1))
  all_goals
    go_wp2_with fail
    refine bodyPost_ret (v := .agg #[.bool u.ln, .slice u.la u.lN u.lc, .bool u.hn, .slice u.ha u.hN u.hc, .int .i64 u.bits]) (by simp [results, Tryz.results87, go_sem, q0, q1, q2, q3, q4]) rfl ⟨u, rfl, unhide HUB, ?_, ?_⟩
    · exact SpAt.put5 (hup.mono (by omega)) q0 q1 q2 q3 q4 _ _ _ _ _
    · exact set5 (bthen hBW hD3) (Nat.le_succ _) _ _ _ _ _

/-- What the literal of law.Mass leans on, for two coins. -/
def HalfAt (w : World) (B1 B2 : Nat) : Prop := LwC w B1 6 2 1 1 2 ∧ w.cell? ⟨B2, 0, none⟩ = some (.int .i64 1)
theorem HalfAt.below {w w' : World} {B1 B2 : Nat} (h : HalfAt w B1 B2) (hb : Below w.heap.size w w') : HalfAt w' B1 B2 :=
  ⟨h.1.below hb, (hb.cell (p := ⟨B2, 0, none⟩) (World.block_lt_of_cell? w ⟨B2, 0, none⟩ h.2)).trans h.2⟩

set_option maxRecDepth 100000 in
set_option maxHeartbeats 2000000 in
theorem mass1_coin (b : Nat) (B1 B2 : Nat) (w : World) (h : HalfAt w B1 B2) (hb : b ≤ 1000000) :
    Calls Tryz.prog 86 #[.int .i64 b, .pointer (some ⟨B1, 0, none⟩), .pointer (some ⟨B2, 0, none⟩)] w (SpanAns w b (b / 16 + 5000) (2 * Q b / 4) (-(-(2 * Q b) / 4))) := by
  obtain ⟨⟨x0, x1, x2, x3, x4⟩, y0⟩ := h
  have l1 := World.block_lt_of_cell? w ⟨B1, 0, none⟩ x0
  have l2 := World.block_lt_of_cell? w ⟨B2, 0, none⟩ y0
  go_enter Tryz.func86, Tryz.ntmps86
  go_wp2_with fail
  refine (just_coin b _ hb).mono ?_
  rintro r' w1 ⟨u, rfl, hub, hup, hb1⟩
  obtain ⟨q0, q1, q2, q3, q4, q5⟩ := (noc_new w 28).below hb1
  have hB : Below w.heap.size w w1 := bthen (bl1 _ _) hb1
  have HUB := hide hub
  clear hub hb1
  go_wp2_with fail
  refine bodyPost_ret (v := .agg #[.bool u.ln, .slice u.la u.lN u.lc, .bool u.hn, .slice u.ha u.hN u.hc, .int .i64 u.bits]) (by simp [results, Tryz.results86, go_sem, q0, q1, q2, q3, q4]) rfl ⟨u, rfl, unhide HUB, ?_, ?_⟩
  · exact SpAt.put5 hup q0 q1 q2 q3 q4 _ _ _ _ _
  · exact set5 hB (Nat.le_refl _) _ _ _ _ _

set_option maxRecDepth 100000 in
set_option maxHeartbeats 2000000 in
theorem mass_coin (w : World) :
    Calls Tryz.prog 36 #[.agg #[.int .i64 6, .int .i64 2, .int .i64 1, .int .i64 1, .int .i64 2], .int .i64 1, .int .i64 20] w (PairAns w 20 250 524288 524288 0) := by
  go_enter Tryz.func36, Tryz.ntmps36
  go_wp2_with fail
  refine (massFault_coin _).mono ?_
  rintro r' w1 ⟨rfl, hb1⟩
  have C : HalfAt w1 w.heap.size (w.heap.size + 1) := HalfAt.below ⟨⟨by simp [go_sem], by simp [go_sem], by simp [go_sem], by simp [go_sem], by simp [go_sem]⟩, by simp [go_sem]⟩ hb1
  have R : NoC w1 (w.heap.size + 1 + 1) := NoC.below ⟨by simp [go_sem], by simp [go_sem], by simp [go_sem], by simp [go_sem], by simp [go_sem], fun o => by simp [go_sem]⟩ hb1
  have hB : Below w.heap.size w w1 := bthen (bl3 _ _ _ _) hb1
  have lR := R.lt
  clear hb1
  go_wp2_with fail
  refine (sure_mass _ _ 20 0 6000 (Exact 2 4) _ (by omega) (by omega) (by omega) (exact_ends (by decide) (by decide) (by decide) (by omega)) (fun m w' hm hm2 hbl => ?_)).mono ?_
  · have := mass1_coin (20 + m) w.heap.size (w.heap.size + 1) w' (C.below hbl) (by omega)
    rw [show (((20 + m : Nat) : Nat) : Int) = ((20 : Nat) : Int) + m by omega] at this
    refine this.mono fun r w'' ⟨s, g1, g2, g3, g4⟩ => ⟨_, _, ⟨rfl, rfl⟩, s, g1, g2, ⟨g3.lo.mono (by omega), g3.hi.mono (by omega)⟩, g4⟩
  rintro r' w3 ⟨L, H, hS, u, rfl, hub, hup, hb3⟩
  obtain ⟨rfl, rfl⟩ := half_sure hS
  obtain ⟨q0, q1, q2, q3, q4, q5⟩ := R.below hb3
  replace hB := bthen hB hb3
  have HUB := hide hub
  clear hub
  go_wp2_with fail
  refine bodyPost_ret (v := .tuple #[.agg #[.bool u.ln, .slice u.la u.lN u.lc, .bool u.hn, .slice u.ha u.hN u.hc, .int .i64 u.bits], .int .i64 0]) (by simp [results, Tryz.results36, go_sem, q0, q1, q2, q3, q4]) rfl ⟨u, rfl, unhide HUB, ?_, ?_⟩
  · exact SpAt.put5 hup q0 q1 q2 q3 q4 _ _ _ _ _
  · exact set5 hB (by omega) _ _ _ _ _
end Go.Proofs.YtgmnknmjainababGreat
