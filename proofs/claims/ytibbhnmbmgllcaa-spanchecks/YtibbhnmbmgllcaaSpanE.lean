/-
  What span.Order and tailsureref.TwoSpans answer of whatever spans, and that they leave old memory alone.
-/
import Derived.Test.YtibbhnmbmgllcaaSpanD
namespace Go.Proofs.Ytibbhnmbmgllcaa
set_option linter.unusedVariables false
set_option linter.unusedSimpArgs false
set_option linter.unnecessarySimpa false
open Go.RowKit
attribute [local go_sem ↓] Go.wp_at_zero Go.wp_at_succ

/-- The first of two, or the second. -/
def pr {α : Type} (x y : α) (j : Nat) : α := if j = 0 then x else y

/-- What is said of two spans. -/
def fltE2 (x y b1 b2 : Int) : Int := if x ≠ 0 then x else if y ≠ 0 then y else if b1 ≠ b2 then 4 else 0
theorem flt2 {x y b1 b2 r : Int} (h : Flt (fun j => pr x y j) (fun j => pr b1 b2 j) 2 r) : r = fltE2 x y b1 b2 := by
  unfold fltE2
  rcases h with ⟨i, hi, h1, h2, h3⟩ | ⟨h1, ⟨i, hi, h2⟩, h3⟩ | ⟨h1, h2, h3⟩
  · match i, hi with
    | 0, _ => simp [pr] at h1 h3; simp [h1, h3]
    | 1, _ => have := h2 0 (by omega); simp [pr] at h1 h3 this; simp [this, h1, h3]
  · have a0 := h1 0 (by omega)
    have a1 := h1 1 (by omega)
    simp [pr] at a0 a1
    match i, hi with
    | 0, _ => simp at h2
    | 1, _ => simp [pr] at h2; simp [a0, a1, h3]; omega
  · have a0 := h1 0 (by omega)
    have a1 := h1 1 (by omega)
    have a2 := h2 1 (by omega)
    simp [pr] at a0 a1 a2; simp [a0, a1, a2, h3]
theorem flt1 {x b1 r : Int} (h : Flt (fun _ => x) (fun _ => b1) 1 r) : r = x := by
  rcases h with ⟨i, hi, h1, h2, h3⟩ | ⟨h1, ⟨i, hi, h2⟩, h3⟩ | ⟨h1, h2, h3⟩
  · exact h3
  · simp at h2
  · have h4 : x = 0 := h1 0 (by omega)
    rw [h3, h4]

theorem spans2 (w : World) (s t : Sp) (d e d' e' : Nat → Int) (T : TypeId) (hs : SpDig w s d e) (ht : SpDig w t d' e') :
    Spans (w.alloc (.cells #[.bool s.ln, .slice s.la s.lN s.lc, .bool s.hn, .slice s.ha s.hN s.hc, .int .i64 s.bits, .bool t.ln, .slice t.la t.lN t.lc, .bool t.hn, .slice t.ha t.hN t.hc, .int .i64 t.bits] T)) w.heap.size 2 (pr s t) (pr d d') (pr e e') := by
  refine ⟨by simp, ?_, ?_, ?_, ?_, ?_, ?_⟩
  all_goals
    intro j hj
    match j, hj with
    | 0, _ => first | (simp [pr]; done) | exact hs.below (bl1 _ _)
    | 1, _ => first | (simp [pr]; done) | exact ht.below (bl1 _ _)
theorem spans1 (w : World) (s : Sp) (d e : Nat → Int) (T : TypeId) (hs : SpDig w s d e) :
    Spans (w.alloc (.cells #[.bool s.ln, .slice s.la s.lN s.lc, .bool s.hn, .slice s.ha s.hN s.hc, .int .i64 s.bits] T)) w.heap.size 1 (fun _ => s) (fun _ => d) (fun _ => e) := by
  refine ⟨by simp, ?_, ?_, ?_, ?_, ?_, ?_⟩
  all_goals
    intro j hj
    match j, hj with
    | 0, _ => first | (simp; done) | exact hs.below (bl1 _ _)

theorem fault2 (w : World) (B : Nat) (hB : w.heap.size = B) (s t : Sp) (d e d' e' : Nat → Int) (T : TypeId) (cap : Nat) (hs : SpDig w s d e) (ht : SpDig w t d' e') :
    Calls Try.prog 101 #[.slice (some ⟨B, 0, none⟩) 2 cap] (w.alloc (.cells #[.bool s.ln, .slice s.la s.lN s.lc, .bool s.hn, .slice s.ha s.hN s.hc, .int .i64 s.bits, .bool t.ln, .slice t.la t.lN t.lc, .bool t.hn, .slice t.ha t.hN t.hc, .int .i64 t.bits] T)) fun r w' =>
      r = .returned (.int .i64 (fltE2 (chkE s d e) (chkE t d' e') s.bits t.bits)) ∧ Below w.heap.size w w' := by
  subst hB
  exact (fault_any w.heap.size 2 cap (pr s t) (pr d d') (pr e e') _ (spans2 w s t d e d' e' T hs ht) (by omega)).mono fun r w' ⟨z, h1, h2, h3⟩ => by
    have h4 : Flt (fun j => pr (chkE s d e) (chkE t d' e') j) (fun j => pr s.bits t.bits j) 2 z := by
      have e1 : (fun j => chkE (pr s t j) (pr d d' j) (pr e e' j)) = (fun j => pr (chkE s d e) (chkE t d' e') j) := by
        funext j; unfold pr; split <;> rfl
      have e2 : (fun j => (pr s t j).bits) = (fun j => pr s.bits t.bits j) := by
        funext j; unfold pr; split <;> rfl
      rw [← e1, ← e2]; exact h2
    exact ⟨by rw [h1, flt2 h4], (bl1 _ _).trans (h3.mono (by simp))⟩
theorem fault1 (w : World) (B : Nat) (hB : w.heap.size = B) (s : Sp) (d e : Nat → Int) (T : TypeId) (cap : Nat) (hs : SpDig w s d e) :
    Calls Try.prog 101 #[.slice (some ⟨B, 0, none⟩) 1 cap] (w.alloc (.cells #[.bool s.ln, .slice s.la s.lN s.lc, .bool s.hn, .slice s.ha s.hN s.hc, .int .i64 s.bits] T)) fun r w' =>
      r = .returned (.int .i64 (chkE s d e)) ∧ Below w.heap.size w w' := by
  subst hB
  exact (fault_any w.heap.size 1 cap (fun _ => s) (fun _ => d) (fun _ => e) _ (spans1 w s d e T hs) (by omega)).mono fun r w' ⟨z, h1, h2, h3⟩ =>
    ⟨by rw [h1, flt1 h2], (bl1 _ _).trans (h3.mono (by simp))⟩

theorem fltE2_cases (s t : Sp) (d e d' e' : Nat → Int) : 0 ≤ fltE2 (chkE s d e) (chkE t d' e') s.bits t.bits ∧ fltE2 (chkE s d e) (chkE t d' e') s.bits t.bits ≤ 4 := by
  have h1 := chkE_cases s d e
  have h2 := chkE_cases t d' e'
  unfold fltE2; repeat' split
  all_goals omega

set_option maxRecDepth 100000 in
set_option maxHeartbeats 2000000 in
theorem twoSpans_any (w : World) (s t : Sp) (d e d' e' : Nat → Int) (hs : SpDig w s d e) (ht : SpDig w t d' e') :
    Calls Try.prog 31 #[.agg #[.bool s.ln, .slice s.la s.lN s.lc, .bool s.hn, .slice s.ha s.hN s.hc, .int .i64 s.bits], .agg #[.bool t.ln, .slice t.la t.lN t.lc, .bool t.hn, .slice t.ha t.hN t.hc, .int .i64 t.bits]] w fun r w' =>
      r = .returned (.int .i64 (fltE2 (chkE s d e) (chkE t d' e') s.bits t.bits)) ∧ Below w.heap.size w w' := by
  by_cases h1 : chkE s d e = 0
  · have h1' : (chkE s d e == 0) = true := by simp [h1]
    by_cases h2 : chkE t d' e' = 0
    · have h2' : (chkE t d' e' == 0) = true := by simp [h2]
      by_cases h3 : s.bits = t.bits
      · have h3' : (s.bits != t.bits) = false := by simp [h3]
        have HE := hide (show fltE2 (chkE s d e) (chkE t d' e') s.bits t.bits = 0 by simp [fltE2, h1, h2, h3])
        have H1 := hide h1
        have H2 := hide h2
        clear h1 h2 h3
        go_enter Try.func31, Try.ntmps31
        go_wp2_with fail
        refine (checkSpan_any s d e _ (hs.below (bl2 _ _ _))).mono ?_
        rintro r w1 ⟨rfl, hb1⟩
        obtain ⟨hsz1, hcell1, hfz1⟩ := near (w.heap.size + 1 + 1) (by simp) hb1
        go_wp2_with fail
        refine (checkSpan_any t d' e' _ (ht.below (bthen (bl2 _ _ _) hb1))).mono ?_
        rintro r w2 ⟨rfl, hb2⟩
        obtain ⟨hsz2, hcell2, hfz2⟩ := near (w.heap.size + 1 + 1) hsz1 hb2
        go_wp2_with fail
        go_ret
        exact ⟨by rw [unhide HE]; simp [unhide H2], bthen (bthen (bl2 _ _ _) hb1) hb2⟩
      · have h3' : (s.bits != t.bits) = true := by simp [h3]
        have HE := hide (show fltE2 (chkE s d e) (chkE t d' e') s.bits t.bits = 4 by simp [fltE2, h1, h2, h3])
        clear h1 h2 h3
        go_enter Try.func31, Try.ntmps31
        go_wp2_with fail
        refine (checkSpan_any s d e _ (hs.below (bl2 _ _ _))).mono ?_
        rintro r w1 ⟨rfl, hb1⟩
        obtain ⟨hsz1, hcell1, hfz1⟩ := near (w.heap.size + 1 + 1) (by simp) hb1
        go_wp2_with fail
        refine (checkSpan_any t d' e' _ (ht.below (bthen (bl2 _ _ _) hb1))).mono ?_
        rintro r w2 ⟨rfl, hb2⟩
        obtain ⟨hsz2, hcell2, hfz2⟩ := near (w.heap.size + 1 + 1) hsz1 hb2
        go_wp2_with fail
        go_ret
        exact ⟨by rw [unhide HE]; rfl, bthen (bthen (bl2 _ _ _) hb1) hb2⟩
    · have h2' : (chkE t d' e' == 0) = false := by simp [h2]
      have HE := hide (show fltE2 (chkE s d e) (chkE t d' e') s.bits t.bits = chkE t d' e' by simp [fltE2, h1, h2])
      clear h1 h2
      go_enter Try.func31, Try.ntmps31
      go_wp2_with fail
      refine (checkSpan_any s d e _ (hs.below (bl2 _ _ _))).mono ?_
      rintro r w1 ⟨rfl, hb1⟩
      obtain ⟨hsz1, hcell1, hfz1⟩ := near (w.heap.size + 1 + 1) (by simp) hb1
      go_wp2_with fail
      refine (checkSpan_any t d' e' _ (ht.below (bthen (bl2 _ _ _) hb1))).mono ?_
      rintro r w2 ⟨rfl, hb2⟩
      obtain ⟨hsz2, hcell2, hfz2⟩ := near (w.heap.size + 1 + 1) hsz1 hb2
      go_wp2_with fail
      go_ret
      exact ⟨by rw [unhide HE]; rfl, bthen (bthen (bl2 _ _ _) hb1) hb2⟩
  · have h1' : (chkE s d e == 0) = false := by simp [h1]
    have HE := hide (show fltE2 (chkE s d e) (chkE t d' e') s.bits t.bits = chkE s d e by simp [fltE2, h1])
    clear h1
    go_enter Try.func31, Try.ntmps31
    go_wp2_with fail
    refine (checkSpan_any s d e _ (hs.below (bl2 _ _ _))).mono ?_
    rintro r w1 ⟨rfl, hb1⟩
    obtain ⟨hsz1, hcell1, hfz1⟩ := near (w.heap.size + 1 + 1) (by simp) hb1
    go_wp2_with fail
    go_ret
    exact ⟨by rw [unhide HE]; rfl, bthen (bl2 _ _ _) hb1⟩

/-- What span.Order says where nothing is wrong. -/
def ordZ (s t : Sp) (d e d' e' : Nat → Int) : Int :=
  if cmpI s.hn t.ln e d' s.hN t.lN < 0 then -1 else if 0 < cmpI s.ln t.hn d e' s.lN t.hN then 1 else 0

set_option maxRecDepth 100000 in
set_option maxHeartbeats 2000000 in
theorem order_any (w : World) (s t : Sp) (d e d' e' : Nat → Int) (hs : SpDig w s d e) (ht : SpDig w t d' e') :
    Calls Try.prog 44 #[.agg #[.bool s.ln, .slice s.la s.lN s.lc, .bool s.hn, .slice s.ha s.hN s.hc, .int .i64 s.bits], .agg #[.bool t.ln, .slice t.la t.lN t.lc, .bool t.hn, .slice t.ha t.hN t.hc, .int .i64 t.bits]] w fun r w' =>
      r = .returned (.tuple #[.int .i64 (if fltE2 (chkE s d e) (chkE t d' e') s.bits t.bits = 0 then ordZ s t d e d' e' else 0), .int .i64 (fltE2 (chkE s d e) (chkE t d' e') s.bits t.bits)]) ∧ Below w.heap.size w w' := by
  obtain ⟨E, hE⟩ : ∃ E, E = fltE2 (chkE s d e) (chkE t d' e') s.bits t.bits := ⟨_, rfl⟩
  have hf := fun W B hB hS hT => fault2 W B hB s t d e d' e' 26 2 hS hT
  rw [← hE] at hf ⊢
  have HF := hide hf
  clear hf hE
  by_cases h1 : E = 0
  · subst h1
    by_cases h2 : cmpI s.hn t.ln e d' s.hN t.lN < 0
    · have HE := hide (show ordZ s t d e d' e' = -1 by simp [ordZ, h2])
      go_enter Try.func44, Try.ntmps44
      go_wp2_with fail
      refine (unhide HF _ _ (by simp) (hs.below (bl2 _ _ _)) (ht.below (bl2 _ _ _))).mono ?_
      rintro r w1 ⟨rfl, hb1⟩
      obtain ⟨hsz1, hcell1, hfz1⟩ := near (w.heap.size + 1 + 1) (by simp) hb1
      go_wp2_with fail
      refine (cmp_any _ _ _ _ _ _ _ _ e d' _ (hs.hi.below (bthen (bl2 _ _ _) hb1)) (ht.lo.below (bthen (bl2 _ _ _) hb1))).mono ?_
      rintro r w2 ⟨rfl, hb2⟩
      go_wp2_with fail
      go_ret2
      exact ⟨by simp [unhide HE], bthen (bthen (bl2 _ _ _) hb1) hb2⟩
    · by_cases h3 : 0 < cmpI s.ln t.hn d e' s.lN t.hN
      · have HE := hide (show ordZ s t d e d' e' = 1 by simp [ordZ, h2, h3])
        go_enter Try.func44, Try.ntmps44
        go_wp2_with fail
        refine (unhide HF _ _ (by simp) (hs.below (bl2 _ _ _)) (ht.below (bl2 _ _ _))).mono ?_
        rintro r w1 ⟨rfl, hb1⟩
        obtain ⟨hsz1, hcell1, hfz1⟩ := near (w.heap.size + 1 + 1) (by simp) hb1
        go_wp2_with fail
        refine (cmp_any _ _ _ _ _ _ _ _ e d' _ (hs.hi.below (bthen (bl2 _ _ _) hb1)) (ht.lo.below (bthen (bl2 _ _ _) hb1))).mono ?_
        rintro r w2 ⟨rfl, hb2⟩
        obtain ⟨hsz2, hcell2, hfz2⟩ := near (w.heap.size + 1 + 1) hsz1 hb2
        go_wp2_with fail
        refine (cmp_any _ _ _ _ _ _ _ _ d e' _ (hs.lo.below (bthen (bthen (bl2 _ _ _) hb1) hb2)) (ht.hi.below (bthen (bthen (bl2 _ _ _) hb1) hb2))).mono ?_
        rintro r w3 ⟨rfl, hb3⟩
        go_wp2_with fail
        go_ret2
        exact ⟨by simp [unhide HE], bthen (bthen (bthen (bl2 _ _ _) hb1) hb2) hb3⟩
      · have HE := hide (show ordZ s t d e d' e' = 0 by simp [ordZ, h2, h3])
        go_enter Try.func44, Try.ntmps44
        go_wp2_with fail
        refine (unhide HF _ _ (by simp) (hs.below (bl2 _ _ _)) (ht.below (bl2 _ _ _))).mono ?_
        rintro r w1 ⟨rfl, hb1⟩
        obtain ⟨hsz1, hcell1, hfz1⟩ := near (w.heap.size + 1 + 1) (by simp) hb1
        go_wp2_with fail
        refine (cmp_any _ _ _ _ _ _ _ _ e d' _ (hs.hi.below (bthen (bl2 _ _ _) hb1)) (ht.lo.below (bthen (bl2 _ _ _) hb1))).mono ?_
        rintro r w2 ⟨rfl, hb2⟩
        obtain ⟨hsz2, hcell2, hfz2⟩ := near (w.heap.size + 1 + 1) hsz1 hb2
        go_wp2_with fail
        refine (cmp_any _ _ _ _ _ _ _ _ d e' _ (hs.lo.below (bthen (bthen (bl2 _ _ _) hb1) hb2)) (ht.hi.below (bthen (bthen (bl2 _ _ _) hb1) hb2))).mono ?_
        rintro r w3 ⟨rfl, hb3⟩
        go_wp2_with fail
        go_ret2
        exact ⟨by simp [unhide HE], bthen (bthen (bthen (bl2 _ _ _) hb1) hb2) hb3⟩
  · have h1' : (E != 0) = true := by simp [h1]
    have HE := hide h1
    clear h1
    go_enter Try.func44, Try.ntmps44
    go_wp2_with fail
    refine (unhide HF _ _ (by simp) (hs.below (bl2 _ _ _)) (ht.below (bl2 _ _ _))).mono ?_
    rintro r w1 ⟨rfl, hb1⟩
    go_wp2_with fail
    go_ret2
    exact ⟨by simp [unhide HE], bthen (bl2 _ _ _) hb1⟩
end Go.Proofs.Ytibbhnmbmgllcaa
