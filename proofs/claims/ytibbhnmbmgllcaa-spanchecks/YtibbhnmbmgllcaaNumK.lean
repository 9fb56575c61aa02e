/-
  What num.Floor answers of right numbers where the second one is more than 0 and has at most three digits, and that it leaves old memory alone.
-/
import Derived.Test.YtibbhnmbmgllcaaNumJ
namespace Go.Proofs.Ytibbhnmbmgllcaa
set_option linter.unusedVariables false
set_option linter.unusedSimpArgs false
set_option linter.unnecessarySimpa false
open Go.RowKit
attribute [local go_sem ↓] Go.wp_at_zero Go.wp_at_succ

/-- What num.over answers: a quotient and whether something is left. -/
def OverAns (w : World) (d e : Nat → Int) (n m : Nat) (r : Ending) (w' : World) : Prop :=
  ∃ a1 n1 c1 o a2 n2 c2 rem, r = .returned (.tuple #[.slice a1 n1 c1, .slice a2 n2 c2]) ∧ Dig w' a1 n1 c1 o ∧ n1 ≤ n + 3 ∧ (0 < n2 ↔ rem ≠ 0) ∧ n2 ≤ n + 3 ∧ V d n = V o n1 * V e m + rem ∧ 0 ≤ rem ∧ rem < V e m ∧ Below w.heap.size w w'

set_option maxRecDepth 100000 in
set_option maxHeartbeats 1000000 in
theorem over_small (a c : Option Addr) (n m cap cap2 : Nat) (d e : Nat → Int) (w : World) (ha : Dig w a n cap d) (hc : Dig w c m cap2 e) (hn : n ≤ 1000000000) (h1 : n = 0 ∨ d (n - 1) ≠ 0) (h2 : m = 0 ∨ e (m - 1) ≠ 0) (hpos : 0 < V e m)
    (hm : m ≤ 3 ∨ V d n < V e m) :
    Calls Try.prog 133 #[.slice a n cap, .slice c m cap2] w (OverAns w d e n m) := by
  have hcv := cmpZ_V ha.dgs hc.dgs n m h1 h2
  by_cases hlt : V d n < V e m
  · have hneg : cmpZ d e n m < 0 := by rw [hcv]; simp [cmpInt, hlt]
    clear hcv
    have HF := hide (show 0 < n ↔ V d n ≠ 0 by
      have := trimN_pos ha.dgs n; rwa [trimN_idem h1] at this)
    go_enter Try.func133, Try.ntmps133
    go_wp2_with (go_at_call 90; refine (compare_any _ _ _ _ _ _ d e _ ha hc).mono ?_; rintro r w0 ⟨rfl, hb0⟩)
    go_ret2
    exact ⟨none, 0, 0, fun _ => 0, a, n, cap, V d n, rfl, ⟨fun h => by omega, fun _ => ⟨by simp, by simp⟩, Nat.le_refl _, by omega⟩, by omega, unhide HF, by omega, by simp [V], V_nonneg ha.dgs n, hlt, hb0⟩
  · have hneg : ¬ cmpZ d e n m < 0 := by rw [hcv]; simp only [cmpInt, hlt, if_false]; split <;> omega
    have hm3 : m ≤ 3 := by omega
    have hm3' : (m : Int) ≤ 3 := by omega
    clear hcv
    go_enter Try.func133, Try.ntmps133
    go_wp2_with (first
      | (go_at_call 90; refine (compare_any _ _ _ _ _ _ d e _ ha hc).mono ?_; rintro r w0 ⟨rfl, hb0⟩)
      | (go_at_call 147; refine (short_any _ _ _ _ _ _ d e _ (ha.below hb0) (hc.below hb0) hn hm3 hpos).mono ?_; rintro r w1 ⟨a1, n1, c1, o, a2, n2, c2, rem, rfl, p1, p2, p3, p4, p5, p6, p7, p8⟩))
    go_ret2
    exact ⟨a1, n1, c1, o, a2, n2, c2, rem, rfl, p1, by omega, p3, by omega, p5, p6, p7, bthen hb0 p8⟩

/-- What num.Floor answers, where num.over answers what it must. -/
def FloorAns (w : World) (n : Nat) (z : Int) (r : Ending) (w' : World) : Prop :=
  ∃ neg' a' n' cap', r = .returned (.agg #[.bool neg', .slice a' n' cap']) ∧ IntAt w' neg' a' n' cap' (n + 8) z ∧ Below w.heap.size w w'

set_option maxRecDepth 100000 in
set_option maxHeartbeats 4000000 in
theorem floor_core (neg : Bool) (a c : Option Addr) (n m cap cap2 : Nat) (d e : Nat → Int) (w : World) (ha : Dig w a n cap d) (hc : Dig w c m cap2 e) (hn : n ≤ 900000000) (hm : 0 < m)
    (hov : ∀ w', Dig w' a n cap d → Dig w' c m cap2 e → Calls Try.prog 133 #[.slice a n cap, .slice c m cap2] w' (OverAns w' d e n m)) :
    Calls Try.prog 103 #[.agg #[.bool neg, .slice a n cap], .agg #[.bool false, .slice c m cap2]] w (FloorAns w n (sgn neg (V d n) / V e m)) := by
  have hsg : signZ false m = 1 := by simp [signZ]; omega
  have le2 : w.heap.size ≤ w.heap.size + 1 + 1 := by omega
  have ne1 : w.heap.size ≠ w.heap.size + 1 + 1 := by omega
  have ne2 : w.heap.size + 1 + 1 ≠ w.heap.size := by omega
  cases neg
  · go_enter Try.func103, Try.ntmps103
    go_wp2_with (first
      | (go_at_call 40; refine (sign_any _ _ _ _ _ hc.room).mono ?_; rintro r w0 ⟨rfl, hb0⟩; obtain ⟨hsz0, hcell0, hfz0⟩ := near (w.heap.size + 1 + 1 + 1) (by simp) hb0; rw [hsg])
      | (go_at_call 133; refine (hov _ (ha.below (bthen (bl3 _ _ _ _) hb0)) (hc.below (bthen (bl3 _ _ _ _) hb0))).mono ?_; rintro r w1 ⟨a1, n1, c1, o, a9, n9, c9, rem, rfl, p1, p2, p3, p4, p5, p6, p7, p8⟩; obtain ⟨hsz1, hcell1, hfz1⟩ := near (w.heap.size + 1 + 1 + 1) hsz0 p8; skip)
      | (go_at_call 104; refine (of_int _ _ _ _ o _ p1).mono ?_; rintro r w2 ⟨neg', a2, n2, c2, rfl, hint, hb2⟩; obtain ⟨hsz2, hcell2, hfz2⟩ := near (w.heap.size + 1 + 1 + 1) hsz1 hb2; have hz0 := Nat.lt_of_lt_of_le (Nat.lt_succ_of_lt (Nat.lt_succ_of_lt (Nat.lt_succ_self w.heap.size))) hsz2; have hz1 := Nat.lt_of_lt_of_le (Nat.lt_succ_self (w.heap.size + 1 + 1)) hsz2))
    have h0 : w2.cell? ⟨w.heap.size + 1 + 1, 0, none⟩ = some (.bool false) := by simp [hcell2, hcell1, hcell0, go_sem]
    have h1' : w2.cell? ⟨w.heap.size + 1 + 1, 1, none⟩ = some (.slice none 0 0) := by simp [hcell2, hcell1, hcell0, go_sem]
    refine bodyPost_ret (v := .agg #[.bool neg', .slice a2 n2 c2]) (by simp [results, Try.results103, go_sem, hz0, hz1, h0, h1']) rfl ⟨neg', a2, n2, c2, rfl, ?_, ?_⟩
    · rw [show sgn false (V o n1) = sgn false (V d n) / V e m by simp only [sgn]; exact (div_pos_eq (by omega) p5 p6 p7).symm] at hint
      exact ((hint.put2 h0 h1' _ _).below (bl1 _ _)).mono (by omega)
    · exact balloc (((bthen (bthen (bthen (bl3 _ _ _ _) hb0) p8) hb2).setCell (p := ⟨w.heap.size + 1 + 1, 0, none⟩) le2 _).setCell (p := ⟨w.heap.size + 1 + 1, 1, none⟩) le2 _) _
  · go_enter Try.func103, Try.ntmps103
    go_wp2_with (first
      | (go_at_call 40; refine (sign_any _ _ _ _ _ hc.room).mono ?_; rintro r w0 ⟨rfl, hb0⟩; obtain ⟨hsz0, hcell0, hfz0⟩ := near (w.heap.size + 1 + 1 + 1) (by simp) hb0; rw [hsg])
      | (go_at_call 133; refine (hov _ (ha.below (bthen (bl3 _ _ _ _) hb0)) (hc.below (bthen (bl3 _ _ _ _) hb0))).mono ?_; rintro r w1 ⟨a1, n1, c1, o, a9, n9, c9, rem, rfl, p1, p2, p3, p4, p5, p6, p7, p8⟩; obtain ⟨hsz1, hcell1, hfz1⟩ := near (w.heap.size + 1 + 1 + 1) hsz0 p8; skip)
      | (go_at_call 104; refine (of_int _ _ _ _ o _ p1).mono ?_; rintro r w2 ⟨neg', a2, n2, c2, rfl, hint, hb2⟩; obtain ⟨hsz2, hcell2, hfz2⟩ := near (w.heap.size + 1 + 1 + 1) hsz1 hb2; have hz0 := Nat.lt_of_lt_of_le (Nat.lt_succ_of_lt (Nat.lt_succ_of_lt (Nat.lt_succ_self w.heap.size))) hsz2; have hz1 := Nat.lt_of_lt_of_le (Nat.lt_succ_self (w.heap.size + 1 + 1)) hsz2))
    · have hr : rem ≠ 0 := by have h : (!decide (rem = 0)) = true := by assumption
                              simpa using h
      have h0 : w2.cell? ⟨w.heap.size + 1 + 1, 0, none⟩ = some (.bool false) := by simp [hcell2, hcell1, hcell0, go_sem]
      have h1' : w2.cell? ⟨w.heap.size + 1 + 1, 1, none⟩ = some (.slice none 0 0) := by simp [hcell2, hcell1, hcell0, go_sem]
      have h2' : ∀ o, w2.frozen? ⟨w.heap.size + 1 + 1, o, none⟩ = false := by intro o; simp [hfz2, hfz1, hfz0, go_sem]
      have HE := hide (show sgn true (V o n1) - 1 = sgn true (V d n) / V e m by simp only [sgn]; exact (div_neg_lost (by omega) p5 (by omega) p7).symm)
      have nz : w2.heap.size ≠ w.heap.size + 1 + 1 := by omega
      have nz' : w.heap.size + 1 + 1 ≠ w2.heap.size := by omega
      have y1 := Nat.le_succ_of_le hz1
      go_region_held3 (fun w' => w'.cell? ⟨w2.heap.size, 0, none⟩ = some (.bool neg') ∧ w'.cell? ⟨w2.heap.size, 1, none⟩ = some (.slice a2 n2 c2)) (go_keep)
        (first
          | (go_at_call 62; refine (numOf_int 1 _ (by decide) (by decide)).mono ?_; rintro r w3 ⟨neg3, a3, n3, c3, rfl, hint3, hb3⟩; obtain ⟨hsz3, hcell3, hfz3⟩ := near (w2.heap.size + 1) (by simp) hb3)
          | (go_at_call 50; refine (sub_int _ _ _ _ _ _ _ _ n1 4 _ _ _ (hint.below (bthen (bl1 _ _).drew hb3)) hint3 (by omega) (by omega)).mono ?_; rintro r w4 ⟨neg4, a4, n4, c4, rfl, hint4, hb4⟩; obtain ⟨hsz4, hcell4, hfz4⟩ := near (w2.heap.size + 1) hsz3 hb4))
      go_wp2
      have h0 : w4.cell? ⟨w.heap.size + 1 + 1, 0, none⟩ = some (.bool false) := by rw [hcell4 _ _ y1, hcell3 _ _ y1]; exact (World.cell?_alloc_past _ _ _ hz1).trans h0
      have h1' : w4.cell? ⟨w.heap.size + 1 + 1, 1, none⟩ = some (.slice none 0 0) := by rw [hcell4 _ _ y1, hcell3 _ _ y1]; exact (World.cell?_alloc_past _ _ _ hz1).trans h1'
      refine bodyPost_ret (v := .agg #[.bool neg4, .slice a4 n4 c4]) (by simp [results, Try.results103, go_sem, h0, h1']) rfl ⟨neg4, a4, n4, c4, rfl, ?_, ?_⟩
      · rw [unhide HE] at hint4
        exact (hint4.put2 h0 h1' _ _).mono (by omega)
      · exact ((bthen (bthen (balloc (bthen (bthen (bthen (bl3 _ _ _ _) hb0) p8) hb2) _).drew hb3) hb4).setCell (p := ⟨w.heap.size + 1 + 1, 0, none⟩) le2 _).setCell (p := ⟨w.heap.size + 1 + 1, 1, none⟩) le2 _
    · have hr : rem = 0 := by have h : (!decide (rem = 0)) = false := by assumption
                              simpa using h
      have h0 : w2.cell? ⟨w.heap.size + 1 + 1, 0, none⟩ = some (.bool false) := by simp [hcell2, hcell1, hcell0, go_sem]
      have h1' : w2.cell? ⟨w.heap.size + 1 + 1, 1, none⟩ = some (.slice none 0 0) := by simp [hcell2, hcell1, hcell0, go_sem]
      refine bodyPost_ret (v := .agg #[.bool neg', .slice a2 n2 c2]) (by simp [results, Try.results103, go_sem, hz0, hz1, h0, h1']) rfl ⟨neg', a2, n2, c2, rfl, ?_, ?_⟩
      · rw [show sgn true (V o n1) = sgn true (V d n) / V e m by simp only [sgn]; exact (div_neg_eq (by omega) (by rw [p5, hr]; omega)).symm] at hint
        exact ((hint.put2 h0 h1' _ _).below (bl1 _ _)).mono (by omega)
      · exact balloc (((bthen (bthen (bthen (bl3 _ _ _ _) hb0) p8) hb2).setCell (p := ⟨w.heap.size + 1 + 1, 0, none⟩) le2 _).setCell (p := ⟨w.heap.size + 1 + 1, 1, none⟩) le2 _) _

theorem int_pos {w : World} {neg : Bool} {a : Option Addr} {n cap k : Nat} {y : Int} (h : IntAt w neg a n cap k y) (hy : 0 < y) : ∃ e, neg = false ∧ 0 < n ∧ Dig w a n cap e ∧ (n = 0 ∨ e (n - 1) ≠ 0) ∧ n ≤ k ∧ y = V e n := by
  obtain ⟨e, h1, h2, h3, h4, h5⟩ := h
  have hv := V_nonneg h1.dgs n
  cases neg
  · have hn : 0 < n := by
      rcases Nat.eq_zero_or_pos n with h0 | h0
      · subst h0; simp [sgn, V] at h5; omega
      · exact h0
    exact ⟨e, rfl, hn, h1, h2, h4, by simpa [sgn] using h5⟩
  · simp [sgn] at h5; omega

/-- A number of more than k digits is at least 65536 to the power of k. -/
theorem len_le {e : Nat → Int} (he : Dgs e) {m k : Nat} (h2 : m = 0 ∨ e (m - 1) ≠ 0) (h : V e m < P k) : m ≤ k := by
  rcases Nat.lt_or_ge k m with hk | hk
  · have h3 := V_ge he (m - 1) (by omega)
    rw [show m - 1 + 1 = m by omega] at h3
    have := P_mono (show k ≤ m - 1 by omega); omega
  · exact hk

theorem floor_small (neg neg2 : Bool) (a c : Option Addr) (n m cap cap2 k k2 : Nat) (x y : Int) (w : World) (h1 : IntAt w neg a n cap k x) (h2 : IntAt w neg2 c m cap2 k2 y) (hk : k ≤ 900000000) (hy : 0 < y) (hy3 : y < 281474976710656) :
    Calls Try.prog 103 #[.agg #[.bool neg, .slice a n cap], .agg #[.bool neg2, .slice c m cap2]] w (FloorAns w k (x / y)) := by
  obtain ⟨e, rfl, f0, f1, f2, f3, rfl⟩ := int_pos h2 hy
  obtain ⟨d, g1, g2, g3, g4, rfl⟩ := h1
  have hm3 : m ≤ 3 := len_le f1.dgs f2 (by rw [P3]; exact hy3)
  exact (floor_core neg a c n m cap cap2 d e w g1 f1 (by omega) f0 (fun w' p q => over_small a c n m cap cap2 d e w' p q (by omega) g2 f2 hy (Or.inl hm3))).mono
    fun _ _ ⟨n1, n2, n3, n4, q1, q2, q3⟩ => ⟨n1, n2, n3, n4, q1, q2.mono (by omega), q3⟩
end Go.Proofs.Ytibbhnmbmgllcaa
