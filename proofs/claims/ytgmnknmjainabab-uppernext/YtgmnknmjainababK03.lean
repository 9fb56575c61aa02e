/-
  Texts NumK, SpanA, SpanB, SpanC, SpanD, SpanE, SpanF: what they hold is told in the last text.
-/
import Derived.Test.YtgmnknmjainababK02
set_option linter.unnecessarySimpa false
set_option linter.unusedSimpArgs false
set_option linter.unusedVariables false
namespace Go.Proofs.Ytgmnknmjainabab
open Go.RowKit
attribute [local go_sem ↓] Go.wp_at_zero Go.wp_at_succ
def OverAns (w : World) (d e : Nat → Int) (n m : Nat) (r : Ending) (w' : World) : Prop :=
  ∃ a1 n1 c1 o a2 n2 c2 rem, r = .returned (.tuple #[.slice a1 n1 c1, .slice a2 n2 c2]) ∧ Dig w' a1 n1 c1 o ∧ n1 ≤ n + 3 ∧ (0 < n2 ↔ rem ≠ 0) ∧ n2 ≤ n + 3 ∧ V d n = V o n1 * V e m + rem ∧ 0 ≤ rem ∧ rem < V e m ∧ Below w.heap.size w w'
set_option maxRecDepth 100000 in
set_option maxHeartbeats 1000000 in
theorem over_small (a c : Option Addr) (n m cap cap2 : Nat) (d e : Nat → Int) (w : World) (ha : Dig w a n cap d) (hc : Dig w c m cap2 e) (hn : n ≤ 1000000000) (h1 : n = 0 ∨ d (n - 1) ≠ 0) (h2 : m = 0 ∨ e (m - 1) ≠ 0) (hpos : 0 < V e m)
    (hm : m ≤ 3 ∨ V d n < V e m) :
    Calls Try.prog 148 #[.slice a n cap, .slice c m cap2] w (OverAns w d e n m) := by
  have hcv := cmpZ_V ha.dgs hc.dgs n m h1 h2
  by_cases hlt : V d n < V e m
  · have hneg : cmpZ d e n m < 0 := by rw [hcv]; simp [cmpInt, hlt]
    clear hcv
    have HF := hide (show 0 < n ↔ V d n ≠ 0 by
      have := trimN_pos ha.dgs n; rwa [trimN_idem h1] at this)
    go_enter Try.func148, Try.ntmps148
    go_wp2_with (go_at_call 59; refine (compare_any _ _ _ _ _ _ d e _ ha hc).mono ?_; rintro r w0 ⟨rfl, hb0⟩)
    go_ret2
    exact ⟨none, 0, 0, fun _ => 0, a, n, cap, V d n, rfl, ⟨fun h => by omega, fun _ => ⟨by simp, by simp⟩, Nat.le_refl _, by omega⟩, by omega, unhide HF, by omega, by simp [V], V_nonneg ha.dgs n, hlt, hb0⟩
  · have hneg : ¬ cmpZ d e n m < 0 := by rw [hcv]; simp only [cmpInt, hlt, if_false]; split <;> omega
    have hm3 : m ≤ 3 := by omega
    have hm3' : (m : Int) ≤ 3 := by omega
    clear hcv
    go_enter Try.func148, Try.ntmps148
    go_wp2_with (first
      | (go_at_call 59; refine (compare_any _ _ _ _ _ _ d e _ ha hc).mono ?_; rintro r w0 ⟨rfl, hb0⟩)
      | (go_at_call 165; refine (short_any _ _ _ _ _ _ d e _ (ha.below hb0) (hc.below hb0) hn hm3 hpos).mono ?_; rintro r w1 ⟨a1, n1, c1, o, a2, n2, c2, rem, rfl, p1, p2, p3, p4, p5, p6, p7, p8⟩))
    go_ret2
    exact ⟨a1, n1, c1, o, a2, n2, c2, rem, rfl, p1, by omega, p3, by omega, p5, p6, p7, bthen hb0 p8⟩
def FloorAns (w : World) (n : Nat) (z : Int) (r : Ending) (w' : World) : Prop :=
  ∃ neg' a' n' cap', r = .returned (.agg #[.bool neg', .slice a' n' cap']) ∧ IntAt w' neg' a' n' cap' (n + 8) z ∧ Below w.heap.size w w'
set_option maxRecDepth 100000 in
set_option maxHeartbeats 4000000 in
theorem floor_core (neg : Bool) (a c : Option Addr) (n m cap cap2 : Nat) (d e : Nat → Int) (w : World) (ha : Dig w a n cap d) (hc : Dig w c m cap2 e) (hn : n ≤ 900000000) (hm : 0 < m)
    (hov : ∀ w', Dig w' a n cap d → Dig w' c m cap2 e → Calls Try.prog 148 #[.slice a n cap, .slice c m cap2] w' (OverAns w' d e n m)) :
    Calls Try.prog 105 #[.agg #[.bool neg, .slice a n cap], .agg #[.bool false, .slice c m cap2]] w (FloorAns w n (sgn neg (V d n) / V e m)) := by
  have hsg : signZ false m = 1 := by simp [signZ]; omega
  have le2 : w.heap.size ≤ w.heap.size + 1 + 1 := by omega
  have ne1 : w.heap.size ≠ w.heap.size + 1 + 1 := by omega
  have ne2 : w.heap.size + 1 + 1 ≠ w.heap.size := by omega
  cases neg
  · go_enter Try.func105, Try.ntmps105
    go_wp2_with (first
      | (go_at_call 57; refine (sign_any _ _ _ _ _ hc.room).mono ?_; rintro r w0 ⟨rfl, hb0⟩; obtain ⟨hsz0, hcell0, hfz0⟩ := near (w.heap.size + 1 + 1 + 1) (by simp) hb0; rw [hsg])
      | (go_at_call 148; refine (hov _ (ha.below (bthen (bl3 _ _ _ _) hb0)) (hc.below (bthen (bl3 _ _ _ _) hb0))).mono ?_; rintro r w1 ⟨a1, n1, c1, o, a9, n9, c9, rem, rfl, p1, p2, p3, p4, p5, p6, p7, p8⟩; obtain ⟨hsz1, hcell1, hfz1⟩ := near (w.heap.size + 1 + 1 + 1) hsz0 p8; skip)
      | (go_at_call 91; refine (of_int _ _ _ _ o _ p1).mono ?_; rintro r w2 ⟨neg', a2, n2, c2, rfl, hint, hb2⟩; obtain ⟨hsz2, hcell2, hfz2⟩ := near (w.heap.size + 1 + 1 + 1) hsz1 hb2; have hz0 := Nat.lt_of_lt_of_le (Nat.lt_succ_of_lt (Nat.lt_succ_of_lt (Nat.lt_succ_self w.heap.size))) hsz2; have hz1 := Nat.lt_of_lt_of_le (Nat.lt_succ_self (w.heap.size + 1 + 1)) hsz2))
    have h0 : w2.cell? ⟨w.heap.size + 1 + 1, 0, none⟩ = some (.bool false) := by simp [hcell2, hcell1, hcell0, go_sem]
    have h1' : w2.cell? ⟨w.heap.size + 1 + 1, 1, none⟩ = some (.slice none 0 0) := by simp [hcell2, hcell1, hcell0, go_sem]
    refine bodyPost_ret (v := .agg #[.bool neg', .slice a2 n2 c2]) (by simp [results, Try.results105, go_sem, hz0, hz1, h0, h1']) rfl ⟨neg', a2, n2, c2, rfl, ?_, ?_⟩
    · rw [show sgn false (V o n1) = sgn false (V d n) / V e m by simp only [sgn]; exact (div_pos_eq (by omega) p5 p6 p7).symm] at hint
      exact ((hint.put2 h0 h1' _ _).below (bl1 _ _)).mono (by omega)
    · exact balloc (((bthen (bthen (bthen (bl3 _ _ _ _) hb0) p8) hb2).setCell (p := ⟨w.heap.size + 1 + 1, 0, none⟩) le2 _).setCell (p := ⟨w.heap.size + 1 + 1, 1, none⟩) le2 _) _
  · go_enter Try.func105, Try.ntmps105
    go_wp2_with (first
      | (go_at_call 57; refine (sign_any _ _ _ _ _ hc.room).mono ?_; rintro r w0 ⟨rfl, hb0⟩; obtain ⟨hsz0, hcell0, hfz0⟩ := near (w.heap.size + 1 + 1 + 1) (by simp) hb0; rw [hsg])
      | (go_at_call 148; refine (hov _ (ha.below (bthen (bl3 _ _ _ _) hb0)) (hc.below (bthen (bl3 _ _ _ _) hb0))).mono ?_; rintro r w1 ⟨a1, n1, c1, o, a9, n9, c9, rem, rfl, p1, p2, p3, p4, p5, p6, p7, p8⟩; obtain ⟨hsz1, hcell1, hfz1⟩ := near (w.heap.size + 1 + 1 + 1) hsz0 p8; skip)
      | (go_at_call 91; refine (of_int _ _ _ _ o _ p1).mono ?_; rintro r w2 ⟨neg', a2, n2, c2, rfl, hint, hb2⟩; obtain ⟨hsz2, hcell2, hfz2⟩ := near (w.heap.size + 1 + 1 + 1) hsz1 hb2; have hz0 := Nat.lt_of_lt_of_le (Nat.lt_succ_of_lt (Nat.lt_succ_of_lt (Nat.lt_succ_self w.heap.size))) hsz2; have hz1 := Nat.lt_of_lt_of_le (Nat.lt_succ_self (w.heap.size + 1 + 1)) hsz2))
    · have hr : rem ≠ 0 := by have h : (!decide (rem = 0)) = true := by assumption
                              simpa using h
      have h0 : w2.cell? ⟨w.heap.size + 1 + 1, 0, none⟩ = some (.bool false) := by simp [hcell2, hcell1, hcell0, go_sem]
      have h1' : w2.cell? ⟨w.heap.size + 1 + 1, 1, none⟩ = some (.slice none 0 0) := by simp [hcell2, hcell1, hcell0, go_sem]
      have h2' : ∀ o, w2.frozen? ⟨w.heap.size + 1 + 1, o, none⟩ = false := by intro o; simp [hfz2, hfz1, hfz0, go_sem]
      have HE := hide (show sgn true (V o n1) - 1 = sgn true (V d n) / V e m by simp only [sgn]; exact (div_neg_lost (by omega) p5 (by omega) p7).symm)
      have nz : w2.heap.size ≠ w.heap.size + 1 + 1 := by omega
      have nz' : w.heap.size + 1 + 1 ≠ w2.heap.size := by omega
      have y1 := Nat.le_succ_of_le hz1
      go_region_held3 (fun w' => w'.cell? ⟨w2.heap.size, 0, none⟩ = some (.bool neg') ∧ w'.cell? ⟨w2.heap.size, 1, none⟩ = some (.slice a2 n2 c2)) (go_keep)
        (first
          | (go_at_call 48; refine (numOf_int 1 _ (by decide) (by decide)).mono ?_; rintro r w3 ⟨neg3, a3, n3, c3, rfl, hint3, hb3⟩; obtain ⟨hsz3, hcell3, hfz3⟩ := near (w2.heap.size + 1) (by simp) hb3)
          | (go_at_call 53; refine (sub_int _ _ _ _ _ _ _ _ n1 4 _ _ _ (hint.below (bthen (bl1 _ _).drew hb3)) hint3 (by omega) (by omega)).mono ?_; rintro r w4 ⟨neg4, a4, n4, c4, rfl, hint4, hb4⟩; obtain ⟨hsz4, hcell4, hfz4⟩ := near (w2.heap.size + 1) hsz3 hb4))
      go_wp2
      have h0 : w4.cell? ⟨w.heap.size + 1 + 1, 0, none⟩ = some (.bool false) := by rw [hcell4 _ _ y1, hcell3 _ _ y1]; exact (World.cell?_alloc_past _ _ _ hz1).trans h0
      have h1' : w4.cell? ⟨w.heap.size + 1 + 1, 1, none⟩ = some (.slice none 0 0) := by rw [hcell4 _ _ y1, hcell3 _ _ y1]; exact (World.cell?_alloc_past _ _ _ hz1).trans h1'
      refine bodyPost_ret (v := .agg #[.bool neg4, .slice a4 n4 c4]) (by simp [results, Try.results105, go_sem, h0, h1']) rfl ⟨neg4, a4, n4, c4, rfl, ?_, ?_⟩
      · rw [unhide HE] at hint4
        exact (hint4.put2 h0 h1' _ _).mono (by omega)
      · exact ((bthen (bthen (balloc (bthen (bthen (bthen (bl3 _ _ _ _) hb0) p8) hb2) _).drew hb3) hb4).setCell (p := ⟨w.heap.size + 1 + 1, 0, none⟩) le2 _).setCell (p := ⟨w.heap.size + 1 + 1, 1, none⟩) le2 _
    · have hr : rem = 0 := by have h : (!decide (rem = 0)) = false := by assumption
                              simpa using h
      have h0 : w2.cell? ⟨w.heap.size + 1 + 1, 0, none⟩ = some (.bool false) := by simp [hcell2, hcell1, hcell0, go_sem]
      have h1' : w2.cell? ⟨w.heap.size + 1 + 1, 1, none⟩ = some (.slice none 0 0) := by simp [hcell2, hcell1, hcell0, go_sem]
      refine bodyPost_ret (v := .agg #[.bool neg', .slice a2 n2 c2]) (by simp [results, Try.results105, go_sem, hz0, hz1, h0, h1']) rfl ⟨neg', a2, n2, c2, rfl, ?_, ?_⟩
      · rw [show sgn true (V o n1) = sgn true (V d n) / V e m by simp only [sgn]; exact (div_neg_eq (by omega) (by rw [p5, hr]; omega)).symm] at hint
        exact ((hint.put2 h0 h1' _ _).below (bl1 _ _)).mono (by omega)
      · exact balloc (((bthen (bthen (bthen (bl3 _ _ _ _) hb0) p8) hb2).setCell (p := ⟨w.heap.size + 1 + 1, 0, none⟩) le2 _).setCell (p := ⟨w.heap.size + 1 + 1, 1, none⟩) le2 _) _
theorem int_pos {w : World} {neg : Bool} {a : Option Addr} {n cap k : Nat} {y : Int} (h : IntAt w neg a n cap k y) (hy : 0 < y) : ∃ e, neg = false ∧ 0 < n ∧ Dig w a n cap e ∧ (n = 0 ∨ e (n - 1) ≠ 0) ∧ n ≤ k ∧ y = V e n := by
  obtain ⟨e, h1, h2, h3, h4, h5⟩ := h
  have hv := V_nonneg h1.dgs n
  cases neg
  · have hn : 0 < n := by
      rcases Nat.eq_zero_or_pos n with h0 | h0
      · subst h0; simp [sgn, V] at h5; omega
      · exact h0
    exact ⟨e, rfl, hn, h1, h2, h4, by simpa [sgn] using h5⟩
  · simp [sgn] at h5; omega
theorem len_le {e : Nat → Int} (he : Dgs e) {m k : Nat} (h2 : m = 0 ∨ e (m - 1) ≠ 0) (h : V e m < P k) : m ≤ k := by
  rcases Nat.lt_or_ge k m with hk | hk
  · have h3 := V_ge he (m - 1) (by omega)
    rw [show m - 1 + 1 = m by omega] at h3
    have := P_mono (show k ≤ m - 1 by omega); omega
  · exact hk
theorem floor_small (neg neg2 : Bool) (a c : Option Addr) (n m cap cap2 k k2 : Nat) (x y : Int) (w : World) (h1 : IntAt w neg a n cap k x) (h2 : IntAt w neg2 c m cap2 k2 y) (hk : k ≤ 900000000) (hy : 0 < y) (hy3 : y < 281474976710656) :
    Calls Try.prog 105 #[.agg #[.bool neg, .slice a n cap], .agg #[.bool neg2, .slice c m cap2]] w (FloorAns w k (x / y)) := by
  obtain ⟨e, rfl, f0, f1, f2, f3, rfl⟩ := int_pos h2 hy
  obtain ⟨d, g1, g2, g3, g4, rfl⟩ := h1
  have hm3 : m ≤ 3 := len_le f1.dgs f2 (by rw [P3]; exact hy3)
  exact (floor_core neg a c n m cap cap2 d e w g1 f1 (by omega) f0 (fun w' p q => over_small a c n m cap cap2 d e w' p q (by omega) g2 f2 hy (Or.inl hm3))).mono
    fun _ _ ⟨n1, n2, n3, n4, q1, q2, q3⟩ => ⟨n1, n2, n3, n4, q1, q2.mono (by omega), q3⟩
end Go.Proofs.Ytgmnknmjainabab
namespace Go.Proofs.Ytgmnknmjainabab
open Go.RowKit
structure Sp where
  ln : Bool
  la : Option Addr
  lN : Nat
  lc : Nat
  hn : Bool
  ha : Option Addr
  hN : Nat
  hc : Nat
  bits : Int
structure SpDig (w : World) (s : Sp) (d e : Nat → Int) : Prop where
  lo : Dig w s.la s.lN s.lc d
  hi : Dig w s.ha s.hN s.hc e
theorem SpDig.below {w w' : World} {s : Sp} {d e : Nat → Int} (h : SpDig w s d e) (hb : Below w.heap.size w w') : SpDig w' s d e := ⟨h.lo.below hb, h.hi.below hb⟩
def chkE (s : Sp) (d e : Nat → Int) : Int :=
  if s.bits < 1 ∨ 120 < s.bits then 3
  else if rightB s.ln s.lN d = false ∨ rightB s.hn s.hN e = false then 1
  else if 4000 < lenZ s.lN d ∨ 4000 < lenZ s.hN e then 2
  else if 0 < cmpI s.ln s.hn d e s.lN s.hN then 4
  else 0
set_option maxRecDepth 100000 in
set_option maxHeartbeats 4000000 in
theorem check_any (s : Sp) (d e : Nat → Int) (w : World) (h : SpDig w s d e) :
    Calls Try.prog 144 #[.agg #[.bool s.ln, .slice s.la s.lN s.lc, .bool s.hn, .slice s.ha s.hN s.hc, .int .i64 s.bits]] w fun r w' => r = .returned (.int .i64 (chkE s d e)) ∧ Below w.heap.size w w' := by
  by_cases c0 : s.bits < 1
  · have HC := hide (show chkE s d e = 3 by unfold chkE; simp [c0])
    go_enter Try.func144, Try.ntmps144
    go_wp2_with fail
    go_ret
    exact ⟨by rw [unhide HC]; rfl, bl1 _ _⟩
  by_cases c1 : 120 < s.bits
  · have HC := hide (show chkE s d e = 3 by unfold chkE; simp [c0, c1])
    go_enter Try.func144, Try.ntmps144
    go_wp2_with fail
    go_ret
    exact ⟨by rw [unhide HC]; rfl, bl1 _ _⟩
  by_cases c2 : rightB s.ln s.lN d = false
  · have HC := hide (show chkE s d e = 1 by unfold chkE; simp [c0, c1, c2])
    go_enter Try.func144, Try.ntmps144
    go_wp2_with fail
    refine (isRight_any _ _ _ _ d _ (h.lo.below (bl1 _ _))).mono ?_
    rintro r w1 ⟨rfl, hb1⟩
    obtain ⟨hsz1, hcell1, hfz1⟩ := near (w.heap.size + 1) (by simp) hb1
    go_wp2_with fail
    go_ret
    exact ⟨by rw [unhide HC]; rfl, bthen (bl1 _ _) hb1⟩
  have c2' : rightB s.ln s.lN d  = true := by simpa using c2
  by_cases c3 : rightB s.hn s.hN e = false
  · have HC := hide (show chkE s d e = 1 by unfold chkE; simp [c0, c1, c2, c3])
    go_enter Try.func144, Try.ntmps144
    go_wp2_with fail
    refine (isRight_any _ _ _ _ d _ (h.lo.below (bl1 _ _))).mono ?_
    rintro r w1 ⟨rfl, hb1⟩
    obtain ⟨hsz1, hcell1, hfz1⟩ := near (w.heap.size + 1) (by simp) hb1
    go_wp2_with fail
    refine (isRight_any _ _ _ _ e _ (h.hi.below (bthen (bl1 _ _) hb1))).mono ?_
    rintro r w2 ⟨rfl, hb2⟩
    obtain ⟨hsz2, hcell2, hfz2⟩ := near (w.heap.size + 1) hsz1 hb2
    go_wp2_with fail
    go_ret
    exact ⟨by rw [unhide HC]; rfl, bthen (bthen (bl1 _ _) hb1) hb2⟩
  have c3' : rightB s.hn s.hN e  = true := by simpa using c3
  by_cases c4 : 4000 < lenZ s.lN d
  · have HC := hide (show chkE s d e = 2 by unfold chkE; simp [c0, c1, c2, c3, c4])
    go_enter Try.func144, Try.ntmps144
    go_wp2_with fail
    refine (isRight_any _ _ _ _ d _ (h.lo.below (bl1 _ _))).mono ?_
    rintro r w1 ⟨rfl, hb1⟩
    obtain ⟨hsz1, hcell1, hfz1⟩ := near (w.heap.size + 1) (by simp) hb1
    go_wp2_with fail
    refine (isRight_any _ _ _ _ e _ (h.hi.below (bthen (bl1 _ _) hb1))).mono ?_
    rintro r w2 ⟨rfl, hb2⟩
    obtain ⟨hsz2, hcell2, hfz2⟩ := near (w.heap.size + 1) hsz1 hb2
    go_wp2_with fail
    refine (len_any _ _ _ _ d _ (h.lo.below (bthen (bthen (bl1 _ _) hb1) hb2))).mono ?_
    rintro r w3 ⟨rfl, hb3⟩
    obtain ⟨hsz3, hcell3, hfz3⟩ := near (w.heap.size + 1) hsz2 hb3
    go_wp2_with fail
    go_ret
    exact ⟨by rw [unhide HC]; rfl, bthen (bthen (bthen (bl1 _ _) hb1) hb2) hb3⟩
  by_cases c5 : 4000 < lenZ s.hN e
  · have HC := hide (show chkE s d e = 2 by unfold chkE; simp [c0, c1, c2, c3, c4, c5])
    go_enter Try.func144, Try.ntmps144
    go_wp2_with fail
    refine (isRight_any _ _ _ _ d _ (h.lo.below (bl1 _ _))).mono ?_
    rintro r w1 ⟨rfl, hb1⟩
    obtain ⟨hsz1, hcell1, hfz1⟩ := near (w.heap.size + 1) (by simp) hb1
    go_wp2_with fail
    refine (isRight_any _ _ _ _ e _ (h.hi.below (bthen (bl1 _ _) hb1))).mono ?_
    rintro r w2 ⟨rfl, hb2⟩
    obtain ⟨hsz2, hcell2, hfz2⟩ := near (w.heap.size + 1) hsz1 hb2
    go_wp2_with fail
    refine (len_any _ _ _ _ d _ (h.lo.below (bthen (bthen (bl1 _ _) hb1) hb2))).mono ?_
    rintro r w3 ⟨rfl, hb3⟩
    obtain ⟨hsz3, hcell3, hfz3⟩ := near (w.heap.size + 1) hsz2 hb3
    go_wp2_with fail
    refine (len_any _ _ _ _ e _ (h.hi.below (bthen (bthen (bthen (bl1 _ _) hb1) hb2) hb3))).mono ?_
    rintro r w4 ⟨rfl, hb4⟩
    obtain ⟨hsz4, hcell4, hfz4⟩ := near (w.heap.size + 1) hsz3 hb4
    go_wp2_with fail
    go_ret
    exact ⟨by rw [unhide HC]; rfl, bthen (bthen (bthen (bthen (bl1 _ _) hb1) hb2) hb3) hb4⟩
  by_cases c6 : 0 < cmpI s.ln s.hn d e s.lN s.hN
  · have HC := hide (show chkE s d e = 4 by unfold chkE; simp [c0, c1, c2, c3, c4, c5, c6])
    go_enter Try.func144, Try.ntmps144
    go_wp2_with fail
    refine (isRight_any _ _ _ _ d _ (h.lo.below (bl1 _ _))).mono ?_
    rintro r w1 ⟨rfl, hb1⟩
    obtain ⟨hsz1, hcell1, hfz1⟩ := near (w.heap.size + 1) (by simp) hb1
    go_wp2_with fail
    refine (isRight_any _ _ _ _ e _ (h.hi.below (bthen (bl1 _ _) hb1))).mono ?_
    rintro r w2 ⟨rfl, hb2⟩
    obtain ⟨hsz2, hcell2, hfz2⟩ := near (w.heap.size + 1) hsz1 hb2
    go_wp2_with fail
    refine (len_any _ _ _ _ d _ (h.lo.below (bthen (bthen (bl1 _ _) hb1) hb2))).mono ?_
    rintro r w3 ⟨rfl, hb3⟩
    obtain ⟨hsz3, hcell3, hfz3⟩ := near (w.heap.size + 1) hsz2 hb3
    go_wp2_with fail
    refine (len_any _ _ _ _ e _ (h.hi.below (bthen (bthen (bthen (bl1 _ _) hb1) hb2) hb3))).mono ?_
    rintro r w4 ⟨rfl, hb4⟩
    obtain ⟨hsz4, hcell4, hfz4⟩ := near (w.heap.size + 1) hsz3 hb4
    go_wp2_with fail
    refine (cmp_any _ _ _ _ _ _ _ _ d e _ (h.lo.below (bthen (bthen (bthen (bthen (bl1 _ _) hb1) hb2) hb3) hb4)) (h.hi.below (bthen (bthen (bthen (bthen (bl1 _ _) hb1) hb2) hb3) hb4))).mono ?_
    rintro r w5 ⟨rfl, hb5⟩
    obtain ⟨hsz5, hcell5, hfz5⟩ := near (w.heap.size + 1) hsz4 hb5
    go_wp2_with fail
    go_ret
    exact ⟨by rw [unhide HC]; rfl, bthen (bthen (bthen (bthen (bthen (bl1 _ _) hb1) hb2) hb3) hb4) hb5⟩
  have HC := hide (show chkE s d e = 0 by unfold chkE; simp [c0, c1, c2, c3, c4, c5, c6])
  go_enter Try.func144, Try.ntmps144
  go_wp2_with fail
  refine (isRight_any _ _ _ _ d _ (h.lo.below (bl1 _ _))).mono ?_
  rintro r w1 ⟨rfl, hb1⟩
  obtain ⟨hsz1, hcell1, hfz1⟩ := near (w.heap.size + 1) (by simp) hb1
  go_wp2_with fail
  refine (isRight_any _ _ _ _ e _ (h.hi.below (bthen (bl1 _ _) hb1))).mono ?_
  rintro r w2 ⟨rfl, hb2⟩
  obtain ⟨hsz2, hcell2, hfz2⟩ := near (w.heap.size + 1) hsz1 hb2
  go_wp2_with fail
  refine (len_any _ _ _ _ d _ (h.lo.below (bthen (bthen (bl1 _ _) hb1) hb2))).mono ?_
  rintro r w3 ⟨rfl, hb3⟩
  obtain ⟨hsz3, hcell3, hfz3⟩ := near (w.heap.size + 1) hsz2 hb3
  go_wp2_with fail
  refine (len_any _ _ _ _ e _ (h.hi.below (bthen (bthen (bthen (bl1 _ _) hb1) hb2) hb3))).mono ?_
  rintro r w4 ⟨rfl, hb4⟩
  obtain ⟨hsz4, hcell4, hfz4⟩ := near (w.heap.size + 1) hsz3 hb4
  go_wp2_with fail
  refine (cmp_any _ _ _ _ _ _ _ _ d e _ (h.lo.below (bthen (bthen (bthen (bthen (bl1 _ _) hb1) hb2) hb3) hb4)) (h.hi.below (bthen (bthen (bthen (bthen (bl1 _ _) hb1) hb2) hb3) hb4))).mono ?_
  rintro r w5 ⟨rfl, hb5⟩
  obtain ⟨hsz5, hcell5, hfz5⟩ := near (w.heap.size + 1) hsz4 hb5
  go_wp2_with fail
  go_ret
  exact ⟨by rw [unhide HC]; rfl, bthen (bthen (bthen (bthen (bthen (bl1 _ _) hb1) hb2) hb3) hb4) hb5⟩
end Go.Proofs.Ytgmnknmjainabab
namespace Go.Proofs.Ytgmnknmjainabab
open Go.RowKit
attribute [local go_sem ↓] Go.wp_at_zero Go.wp_at_succ
structure Nm where
  neg : Bool
  a : Option Addr
  n : Nat
  cap : Nat
structure Nums (w : World) (b n k : Nat) (f : Nat → Nm) (z : Nat → Int) : Prop where
  lt : b < w.heap.size
  c0 : ∀ j, j < n → w.cell? ⟨b, j * 2, none⟩ = some (.bool (f j).neg)
  c1 : ∀ j, j < n → w.cell? ⟨b, j * 2 + 1, none⟩ = some (.slice (f j).a (f j).n (f j).cap)
  int : ∀ j, j < n → IntAt w (f j).neg (f j).a (f j).n (f j).cap k (z j)
theorem Nums.below {w w' : World} {b n k : Nat} {f : Nat → Nm} {z : Nat → Int} (h : Nums w b n k f z) (hb : Below w.heap.size w w') : Nums w' b n k f z :=
  ⟨Nat.lt_of_lt_of_le h.lt hb.size, fun j hj => (hb.cell (p := ⟨b, j * 2, none⟩) h.lt).trans (h.c0 j hj), fun j hj => (hb.cell (p := ⟨b, j * 2 + 1, none⟩) h.lt).trans (h.c1 j hj), fun j hj => (h.int j hj).below hb⟩
def mostZ (z : Nat → Int) : Nat → Int
  | 0 => z 0
  | n + 1 => if mostZ z n < z (n + 1) then z (n + 1) else mostZ z n
def leastZ (z : Nat → Int) : Nat → Int
  | 0 => z 0
  | n + 1 => if z (n + 1) < leastZ z n then z (n + 1) else leastZ z n
theorem cmpInt_le0 {x y : Int} (h : ¬ y < x) : ¬ 0 < cmpInt x y := by
  unfold cmpInt; simp only [h, if_false]; split <;> omega
theorem cmpInt_ge0 {x y : Int} (h : ¬ x < y) : ¬ cmpInt x y < 0 := by
  unfold cmpInt; rw [if_neg h]; split <;> omega
theorem mostZ_up {z : Nat → Int} {i : Nat} (h : mostZ z (i - 1) < z i) : mostZ z (i + 1 - 1) = z i := by
  cases i with
  | zero => rfl
  | succ j => simp only [Nat.add_sub_cancel] at *; simp only [mostZ, h, if_true]
theorem mostZ_stay {z : Nat → Int} {i : Nat} (h : ¬ mostZ z (i - 1) < z i) : mostZ z (i + 1 - 1) = mostZ z (i - 1) := by
  cases i with
  | zero => rfl
  | succ j => simp only [Nat.add_sub_cancel] at *; simp only [mostZ, h, if_false]
set_option maxRecDepth 100000 in
set_option maxHeartbeats 1000000 in
theorem power2_int (k : Nat) (w : World) (hk : k ≤ 1000000000) :
    Calls Try.prog 85 #[.int .i64 k] w fun r w' =>
      ∃ neg' a' n' cap', r = .returned (.agg #[.bool neg', .slice a' n' cap']) ∧ IntAt w' neg' a' n' cap' (k / 16 + 5) (Q k) ∧ Below w.heap.size w w' := by
  go_enter Try.func85, Try.ntmps85
  go_wp2_with (first
    | (go_at_call 48; refine (numOf_int 1 _ (by decide) (by decide)).mono ?_; rintro r w1 ⟨neg1, a1, n1, c1, rfl, hint1, hb1⟩; obtain ⟨hsz1, hcell1, hfz1⟩ := near (w.heap.size + 1) (by simp) hb1)
    | (go_at_call 113; refine (up_int _ _ _ _ k 4 1 _ hint1 (by omega) hk).mono ?_; rintro r w2 ⟨neg', a2, n2, c2, rfl, hint, hb2⟩; obtain ⟨hsz2, hcell2, hfz2⟩ := near (w.heap.size + 1) hsz1 hb2))
  have h0 : w2.cell? ⟨w.heap.size, 0, none⟩ = some (.bool false) := by simp [hcell2, hcell1, go_sem]
  have h1' : w2.cell? ⟨w.heap.size, 1, none⟩ = some (.slice none 0 0) := by simp [hcell2, hcell1, go_sem]
  refine bodyPost_ret (v := .agg #[.bool neg', .slice a2 n2 c2]) (by simp [results, Try.results85, go_sem, h0, h1']) rfl ⟨neg', a2, n2, c2, rfl, ?_, ?_⟩
  · rw [Int.one_mul] at hint
    exact (hint.put2 h0 h1' _ _).mono (by omega)
  · exact ((bthen (bthen (bl1 _ _) hb1) hb2).setCell (p := ⟨w.heap.size, 0, none⟩) (Nat.le_refl _) _).setCell (p := ⟨w.heap.size, 1, none⟩) (Nat.le_refl _) _
set_option maxRecDepth 100000 in
set_option maxHeartbeats 1000000 in
theorem copied_int (neg : Bool) (a : Option Addr) (n cap k1 : Nat) (x : Int) (w : World) (h1 : IntAt w neg a n cap k1 x) (hk1 : k1 ≤ 1000000000) :
    Calls Try.prog 168 #[.agg #[.bool neg, .slice a n cap]] w fun r w' =>
      ∃ neg' a' n' cap', r = .returned (.agg #[.bool neg', .slice a' n' cap']) ∧ IntAt w' neg' a' n' cap' (k1 + 1) x ∧ Below w.heap.size w w' := by
  go_enter Try.func168, Try.ntmps168
  go_wp2_with (go_at_call 113; refine (up_int _ _ _ _ 0 k1 x _ (h1.below (bl2 _ _ _)) hk1 (by omega)).mono ?_; rintro r w2 ⟨neg', a2, n2, c2, rfl, hint, hb2⟩; obtain ⟨hsz2, hcell2, hfz2⟩ := near (w.heap.size + 1 + 1) (by simp) hb2)
  have h0 : w2.cell? ⟨w.heap.size + 1, 0, none⟩ = some (.bool false) := by simp [hcell2, go_sem]
  have h1' : w2.cell? ⟨w.heap.size + 1, 1, none⟩ = some (.slice none 0 0) := by simp [hcell2, go_sem]
  refine bodyPost_ret (v := .agg #[.bool neg', .slice a2 n2 c2]) (by simp [results, Try.results168, go_sem, h0, h1']) rfl ⟨neg', a2, n2, c2, rfl, ?_, ?_⟩
  · simp only [Q, Int.mul_one] at hint
    exact (hint.put2 h0 h1' _ _).mono (by omega)
  · exact ((bthen (bl2 _ _ _) hb2).setCell (p := ⟨w.heap.size + 1, 0, none⟩) (Nat.le_succ _) _).setCell (p := ⟨w.heap.size + 1, 1, none⟩) (Nat.le_succ _) _
set_option maxRecDepth 100000 in
set_option maxHeartbeats 2000000 in
theorem greatest_int (b n cap k : Nat) (f : Nat → Nm) (z : Nat → Int) (w : World) (h : Nums w b (n + 1) k f z) (hn : n ≤ 1000) :
    Calls Try.prog 82 #[.slice (some ⟨b, 0, none⟩) (n + 1) cap] w fun r w' =>
      ∃ neg' a' n' cap', r = .returned (.agg #[.bool neg', .slice a' n' cap']) ∧ IntAt w' neg' a' n' cap' k (mostZ z n) ∧ Below w.heap.size w w' := by
  have h00 := h.c0 0 (by omega)
  have h01 := h.c1 0 (by omega)
  simp only [Nat.zero_mul, Nat.zero_add] at h00 h01
  have hnn : (0 : Int) < (n : Int) + 1 := by omega
  have hblt := h.lt
  go_enter Try.func82, Try.ntmps82
  go_wp2
  go_loopw [4] (fun ii wr => ∃ (i : Nat) (x : Nm), i ≤ n + 1 ∧ ii = .int .i64 i ∧ wr.cell? ⟨w.heap.size + 1, 0, none⟩ = some (.bool x.neg) ∧ wr.cell? ⟨w.heap.size + 1, 1, none⟩ = some (.slice x.a x.n x.cap) ∧ (∀ o, wr.frozen? ⟨w.heap.size + 1, o, none⟩ = false) ∧ IntAt wr x.neg x.a x.n x.cap k (mostZ z (i - 1)) ∧ w.heap.size + 1 + 1 ≤ wr.heap.size ∧
      Below (w.heap.size + 1) (w.alloc (.cells #[.bool false, .slice none 0 0] 26)) wr) (fun ii _ => n + 1 - (intOf ii).toNat)
  case atStart =>
    exact ⟨0, f 0, by omega, rfl, by simp [go_sem], by simp [go_sem], by intro o; simp [go_sem], (h.int 0 (by omega)).below (bl2 _ _ _), by simp, (Below.refl _ _).alloc (by simp) _⟩
  case round =>
    obtain ⟨i, x, hi, rfl, x0, x1, x2, hx, hsw, hbl⟩ := hrel
    have hB : Below w.heap.size w wr := (bl1 _ _).trans (hbl.mono (by omega))
    by_cases hin : i < n + 1
    · have g0 := (h.below hB).c0 i hin
      have g1 := (h.below hB).c1 i hin
      have hint := (h.below hB).int i hin
      have hi0 : (0 : Int) ≤ (i : Int) := by omega
      have hi1 : (i : Int) < (n : Int) + 1 := by omega
      have hbb : b ≤ w.heap.size + 1 := by omega
      have hne : w.heap.size + 1 ≠ b := by omega
      have hne' : b ≠ w.heap.size + 1 := by omega
      have HH := hide h
      clear h h00 h01
      by_cases hc : mostZ z (i - 1) < z i
      · have hcm : cmpInt (z i) (mostZ z (i - 1)) = 1 := by unfold cmpInt; rw [if_neg (by omega), if_pos hc]
        have HZ := hide (mostZ_up hc)
        go_wp2
        go_region_held3 (fun w' => w'.cell? ⟨b, i * 2, none⟩ = some (.bool (f i).neg) ∧ w'.cell? ⟨b, i * 2 + 1, none⟩ = some (.slice (f i).a (f i).n (f i).cap) ∧ w'.cell? ⟨w.heap.size + 1, 0, none⟩ = some (.bool x.neg) ∧ w'.cell? ⟨w.heap.size + 1, 1, none⟩ = some (.slice x.a x.n x.cap)) (go_keep)
          (first
            | (go_at_call 24; refine (cmp_int _ _ _ _ _ _ _ _ k k (z i) (mostZ z (i - 1)) _ (hint.below (Below.refl _ _).drew) (hx.below (Below.refl _ _).drew)).mono ?_; rintro r w1 ⟨rfl, hb1⟩; obtain ⟨hsz1, hcell1, hfz1⟩ := near (w.heap.size + 1 + 1) (by exact hsw) hb1; rw [hcm]))
        have y0 : w1.cell? ⟨w.heap.size + 1, 0, none⟩ = some (.bool x.neg) := (hcell1 _ _ (Nat.le_refl _)).trans x0
        have y1 : w1.cell? ⟨w.heap.size + 1, 1, none⟩ = some (.slice x.a x.n x.cap) := (hcell1 _ _ (Nat.le_refl _)).trans x1
        have y2 : ∀ o, w1.frozen? ⟨w.heap.size + 1, o, none⟩ = false := fun o => (hfz1 _ _ (Nat.le_refl _)).trans (x2 o)
        go_wp2
        go_roundw
        case rel =>
          refine ⟨i + 1, f i, by omega, by go_num, by simp [go_sem, y0, y1], by simp [go_sem, y0, y1], by intro o; simp [go_sem, y2], ?_, ?_, ?_⟩
          · rw [unhide HZ]; exact ((hint.below (Below.refl _ _).drew).below hb1).put2 y0 y1 _ _
          · simpa [World.setCell] using hsz1
          · exact ((hbl.trans ((bthen (Below.refl _ _).drew hb1).mono (by omega))).setCell (p := ⟨w.heap.size + 1, 0, none⟩) (Nat.le_refl _) _).setCell (p := ⟨w.heap.size + 1, 1, none⟩) (Nat.le_refl _) _
        case measure => simp [intOf]; omega
      · have hcm : ¬ 0 < cmpInt (z i) (mostZ z (i - 1)) := cmpInt_le0 hc
        have HZ := hide (mostZ_stay hc)
        go_wp2
        go_region_held3 (fun w' => w'.cell? ⟨b, i * 2, none⟩ = some (.bool (f i).neg) ∧ w'.cell? ⟨b, i * 2 + 1, none⟩ = some (.slice (f i).a (f i).n (f i).cap) ∧ w'.cell? ⟨w.heap.size + 1, 0, none⟩ = some (.bool x.neg) ∧ w'.cell? ⟨w.heap.size + 1, 1, none⟩ = some (.slice x.a x.n x.cap)) (go_keep)
          (first
            | (go_at_call 24; refine (cmp_int _ _ _ _ _ _ _ _ k k (z i) (mostZ z (i - 1)) _ (hint.below (Below.refl _ _).drew) (hx.below (Below.refl _ _).drew)).mono ?_; rintro r w1 ⟨rfl, hb1⟩; obtain ⟨hsz1, hcell1, hfz1⟩ := near (w.heap.size + 1 + 1) (by exact hsw) hb1))
        have y0 : w1.cell? ⟨w.heap.size + 1, 0, none⟩ = some (.bool x.neg) := (hcell1 _ _ (Nat.le_refl _)).trans x0
        have y1 : w1.cell? ⟨w.heap.size + 1, 1, none⟩ = some (.slice x.a x.n x.cap) := (hcell1 _ _ (Nat.le_refl _)).trans x1
        have y2 : ∀ o, w1.frozen? ⟨w.heap.size + 1, o, none⟩ = false := fun o => (hfz1 _ _ (Nat.le_refl _)).trans (x2 o)
        go_wp2
        go_roundw
        case rel =>
          exact ⟨i + 1, x, by omega, by go_num, y0, y1, y2, by rw [unhide HZ]; exact (hx.below (Below.refl _ _).drew).below hb1, hsz1, hbl.trans ((bthen (Below.refl _ _).drew hb1).mono (by omega))⟩
        case measure => simp [intOf]; omega
    · have hiE : i = n + 1 := by omega
      subst hiE
      have q3 : wr.cell? ⟨w.heap.size, 0, none⟩ = some (.bool false) := (hbl.cell (p := ⟨w.heap.size, 0, none⟩) (Nat.lt_succ_self _)).trans (by simp [go_sem])
      have q4 : wr.cell? ⟨w.heap.size, 1, none⟩ = some (.slice none 0 0) := (hbl.cell (p := ⟨w.heap.size, 1, none⟩) (Nat.lt_succ_self _)).trans (by simp [go_sem])
      have q5 : ∀ o, wr.frozen? ⟨w.heap.size, o, none⟩ = false := fun o => (hbl.frozen (p := ⟨w.heap.size, o, none⟩) (Nat.lt_succ_self _)).trans (by simp [go_sem])
      clear h h00 h01
      go_wp2
      refine bodyPost_ret (v := .agg #[.bool x.neg, .slice x.a x.n x.cap]) (by simp [results, Try.results82, go_sem, q3, q4]) rfl ⟨x.neg, x.a, x.n, x.cap, rfl, hx.put2 q3 q4 _ _, ?_⟩
      exact (hB.setCell (p := ⟨w.heap.size, 0, none⟩) (Nat.le_refl _) _).setCell (p := ⟨w.heap.size, 1, none⟩) (Nat.le_refl _) _
end Go.Proofs.Ytgmnknmjainabab
namespace Go.Proofs.Ytgmnknmjainabab
open Go.RowKit
attribute [local go_sem ↓] Go.wp_at_zero Go.wp_at_succ
def farZ (t : Int) (z : Nat → Int) : Nat → Int
  | 0 => z 0
  | n + 1 => if cmpInt (z (n + 1)) (farZ t z n) = t then z (n + 1) else farZ t z n
theorem farZ_most (z : Nat → Int) (n : Nat) : farZ 1 z n = mostZ z n := by
  induction n with
  | zero => rfl
  | succ n ih =>
    simp only [farZ, mostZ, ih]
    by_cases h : mostZ z n < z (n + 1)
    · have : cmpInt (z (n + 1)) (mostZ z n) = 1 := by unfold cmpInt; rw [if_neg (by omega), if_pos h]
      simp [this, h]
    · have : cmpInt (z (n + 1)) (mostZ z n) ≠ 1 := by have := cmpInt_le0 h; omega
      simp [this, h]
theorem farZ_least (z : Nat → Int) (n : Nat) : farZ (-1) z n = leastZ z n := by
  induction n with
  | zero => rfl
  | succ n ih =>
    simp only [farZ, leastZ, ih]
    by_cases h : z (n + 1) < leastZ z n
    · have : cmpInt (z (n + 1)) (leastZ z n) = -1 := by unfold cmpInt; rw [if_pos h]
      simp [this, h]
    · have : cmpInt (z (n + 1)) (leastZ z n) ≠ -1 := by have := cmpInt_ge0 h; omega
      simp [this, h]
theorem fz_past (w : World) (o : Obj) (p : Addr) (h : p.block < w.heap.size) : (w.alloc o).frozen? p = w.frozen? p := World.frozen?_of_block (Below.heap_alloc w o p.block h)
set_option maxRecDepth 100000 in
set_option maxHeartbeats 2000000 in
theorem farthest_int (t : Int) (b n cap k : Nat) (f : Nat → Nm) (z : Nat → Int) (w : World) (h : Nums w b (n + 1) k f z) (hk : k ≤ 1000000000) (hn : n ≤ 1000) :
    Calls Try.prog 150 #[.int .i64 t, .slice (some ⟨b, 0, none⟩) (n + 1) cap] w fun r w' =>
      ∃ neg' a' n' cap', r = .returned (.agg #[.bool neg', .slice a' n' cap']) ∧ IntAt w' neg' a' n' cap' (k + 1) (farZ t z n) ∧ Below w.heap.size w w' := by
  have hblt := h.lt
  go_enter Try.func150, Try.ntmps150
  go_wp2
  go_loopw [10] (fun ii wr => ∃ (i : Nat) (x : Nm), i ≤ n + 1 ∧ ii = .int .i64 i ∧ wr.cell? ⟨w.heap.size + 1, 0, none⟩ = some (.bool x.neg) ∧ wr.cell? ⟨w.heap.size + 1, 1, none⟩ = some (.slice x.a x.n x.cap) ∧ (∀ o, wr.frozen? ⟨w.heap.size + 1, o, none⟩ = false) ∧ (0 < i → IntAt wr x.neg x.a x.n x.cap k (farZ t z (i - 1))) ∧ w.heap.size + 1 + 1 ≤ wr.heap.size ∧
      Below (w.heap.size + 1) (w.alloc (.cells #[.bool false, .slice none 0 0] 26)) wr) (fun ii _ => n + 1 - (intOf ii).toNat)
  case atStart =>
    exact ⟨0, ⟨false, none, 0, 0⟩, by omega, rfl, by simp [go_sem], by simp [go_sem], by intro o; simp [go_sem], fun h => by omega, by simp, (Below.refl _ _).alloc (by simp) _⟩
  case round =>
    obtain ⟨i, x, hi, rfl, x0, x1, x2, hx, hsw, hbl⟩ := hrel
    have hB : Below w.heap.size w wr := (bl1 _ _).trans (hbl.mono (by omega))
    by_cases hin : i < n + 1
    · have g0 := (h.below hB).c0 i hin
      have g1 := (h.below hB).c1 i hin
      have hint := (h.below hB).int i hin
      have hi0 : (0 : Int) ≤ (i : Int) := by omega
      have hi1 : (i : Int) < (n : Int) + 1 := by omega
      have hbb : b ≤ w.heap.size + 1 := by omega
      have hne : w.heap.size + 1 ≠ b := by omega
      have hne' : b ≠ w.heap.size + 1 := by omega
      have hlw : w.heap.size + 1 < wr.heap.size := by omega
      have hne2 : w.heap.size + 1 ≠ wr.heap.size := by omega
      have hne3 : wr.heap.size ≠ w.heap.size + 1 := by omega
      have HH := hide h
      clear h
      by_cases hz : i = 0
      · subst hz
        go_wp2
        go_roundw
        case rel =>
          refine ⟨1, f 0, by omega, rfl, ?_, ?_, ?_, fun _ => ?_, ?_, ?_⟩
          · simp [go_sem, hlw, x0, x1]
          · simp [go_sem, hlw, x0, x1]
          · intro o; rw [fz_past _ _ _ (by simpa [World.setCell] using hlw)]; simp [go_sem, x2]
          · exact ((hint.put2 x0 x1 _ _).below (bl1 _ _))
          · simp [World.setCell]; omega
          · exact ((hbl.setCell (p := ⟨w.heap.size + 1, 0, none⟩) (Nat.le_refl _) _).setCell (p := ⟨w.heap.size + 1, 1, none⟩) (Nat.le_refl _) _).alloc (by simp [World.setCell]; omega) _
        case measure => simp [intOf]
      · have HX := hide (hx (by omega))
        have hz' : ((i : Int) == 0) = false := by simp; omega
        obtain ⟨j, hj⟩ : ∃ j, i = j + 1 := ⟨i - 1, by omega⟩
        have hfz : farZ t z (i + 1 - 1) = if cmpInt (z i) (farZ t z (i - 1)) = t then z i else farZ t z (i - 1) := by subst hj; rfl
        clear hj hx
        by_cases hc : cmpInt (z i) (farZ t z (i - 1)) = t
        · have hcm : (cmpInt (z i) (farZ t z (i - 1)) == t) = true := by simp [hc]
          rw [if_pos hc] at hfz
          have HF := hide hfz
          clear hfz hc
          go_wp2_with (go_at_call 24; refine (cmp_int _ _ _ _ _ _ _ _ k k (z i) (farZ t z (i - 1)) _ (hint.below (bl1 _ _)) ((unhide HX).below (bl1 _ _))).mono ?_; rintro r w1 ⟨rfl, hb1⟩; obtain ⟨hsz1, hcell1, hfz1⟩ := near (wr.heap.size + 1) (by simp) hb1; have y3 : w.heap.size + 1 + 1 ≤ wr.heap.size + 1 := Nat.le_succ_of_le hsw; have y0 : w1.cell? ⟨w.heap.size + 1, 0, none⟩ = some (.bool x.neg) := ((hcell1 _ _ y3).trans (World.cell?_alloc_past _ _ _ hlw)).trans x0; have y1 : w1.cell? ⟨w.heap.size + 1, 1, none⟩ = some (.slice x.a x.n x.cap) := ((hcell1 _ _ y3).trans (World.cell?_alloc_past _ _ _ hlw)).trans x1; have y2 : ∀ o, w1.frozen? ⟨w.heap.size + 1, o, none⟩ = false := fun o => ((hfz1 _ _ y3).trans (fz_past _ _ _ hlw)).trans (x2 o))
          go_roundw
          case rel =>
            refine ⟨i + 1, f i, by omega, by go_num, by simp [go_sem, y0, y1], by simp [go_sem, y0, y1], by intro o; simp [go_sem, y2], fun _ => ?_, ?_, ?_⟩
            · rw [unhide HF]; exact ((hint.below (bl1 _ _)).below hb1).put2 y0 y1 _ _
            · have := Nat.le_trans y3 hsz1; simpa [World.setCell] using this
            · exact ((hbl.trans ((bthen (bl1 _ _) hb1).mono (by omega))).setCell (p := ⟨w.heap.size + 1, 0, none⟩) (Nat.le_refl _) _).setCell (p := ⟨w.heap.size + 1, 1, none⟩) (Nat.le_refl _) _
          case measure => simp [intOf]; omega
        · have hcm : (cmpInt (z i) (farZ t z (i - 1)) == t) = false := by simp [hc]
          rw [if_neg hc] at hfz
          have HF := hide hfz
          clear hfz hc
          go_wp2_with (go_at_call 24; refine (cmp_int _ _ _ _ _ _ _ _ k k (z i) (farZ t z (i - 1)) _ (hint.below (bl1 _ _)) ((unhide HX).below (bl1 _ _))).mono ?_; rintro r w1 ⟨rfl, hb1⟩; obtain ⟨hsz1, hcell1, hfz1⟩ := near (wr.heap.size + 1) (by simp) hb1; have y3 : w.heap.size + 1 + 1 ≤ wr.heap.size + 1 := Nat.le_succ_of_le hsw; have y0 : w1.cell? ⟨w.heap.size + 1, 0, none⟩ = some (.bool x.neg) := ((hcell1 _ _ y3).trans (World.cell?_alloc_past _ _ _ hlw)).trans x0; have y1 : w1.cell? ⟨w.heap.size + 1, 1, none⟩ = some (.slice x.a x.n x.cap) := ((hcell1 _ _ y3).trans (World.cell?_alloc_past _ _ _ hlw)).trans x1; have y2 : ∀ o, w1.frozen? ⟨w.heap.size + 1, o, none⟩ = false := fun o => ((hfz1 _ _ y3).trans (fz_past _ _ _ hlw)).trans (x2 o))
          go_roundw
          case rel =>
            exact ⟨i + 1, x, by omega, by go_num, y0, y1, y2, fun _ => by rw [unhide HF]; exact ((unhide HX).below (bl1 _ _)).below hb1, Nat.le_trans y3 hsz1, hbl.trans ((bthen (bl1 _ _) hb1).mono (by omega))⟩
          case measure => simp [intOf]; omega
    · have hiE : i = n + 1 := by omega
      subst hiE
      have q3 : wr.cell? ⟨w.heap.size, 0, none⟩ = some (.bool false) := (hbl.cell (p := ⟨w.heap.size, 0, none⟩) (Nat.lt_succ_self _)).trans (by simp [go_sem])
      have q4 : wr.cell? ⟨w.heap.size, 1, none⟩ = some (.slice none 0 0) := (hbl.cell (p := ⟨w.heap.size, 1, none⟩) (Nat.lt_succ_self _)).trans (by simp [go_sem])
      have q5 : ∀ o, wr.frozen? ⟨w.heap.size, o, none⟩ = false := fun o => (hbl.frozen (p := ⟨w.heap.size, o, none⟩) (Nat.lt_succ_self _)).trans (by simp [go_sem])
      have HX := hide (hx (by omega))
      clear h hx
      go_wp2_with (go_at_call 168; refine (copied_int _ _ _ _ k _ _ (unhide HX) hk).mono ?_; rintro r w1 ⟨neg1, a1, n1, c1, rfl, hint1, hb1⟩; obtain ⟨hsz1, hcell1, hfz1⟩ := near (w.heap.size + 1 + 1) hsw hb1)
      have y0 : w1.cell? ⟨w.heap.size, 0, none⟩ = some (.bool false) := (hcell1 _ _ (by omega)).trans q3
      have y1 : w1.cell? ⟨w.heap.size, 1, none⟩ = some (.slice none 0 0) := (hcell1 _ _ (by omega)).trans q4
      refine bodyPost_ret (v := .agg #[.bool neg1, .slice a1 n1 c1]) (by simp [results, Try.results150, go_sem, y0, y1]) rfl ⟨neg1, a1, n1, c1, rfl, ?_, ?_⟩
      · simp only [Nat.add_sub_cancel] at hint1; exact hint1.put2 y0 y1 _ _
      · exact ((bthen hB hb1).setCell (p := ⟨w.heap.size, 0, none⟩) (Nat.le_refl _) _).setCell (p := ⟨w.heap.size, 1, none⟩) (Nat.le_refl _) _
set_option maxRecDepth 100000 in
set_option maxHeartbeats 1000000 in
theorem most_int (b n cap k : Nat) (f : Nat → Nm) (z : Nat → Int) (w : World) (h : Nums w b (n + 1) k f z) (hk : k ≤ 1000000000) (hn : n ≤ 1000) :
    Calls Try.prog 118 #[.slice (some ⟨b, 0, none⟩) (n + 1) cap] w fun r w' =>
      ∃ neg' a' n' cap', r = .returned (.agg #[.bool neg', .slice a' n' cap']) ∧ IntAt w' neg' a' n' cap' (k + 1) (mostZ z n) ∧ Below w.heap.size w w' := by
  rw [← farZ_most]
  go_enter Try.func118, Try.ntmps118
  go_wp2_with (go_at_call 150; refine (farthest_int (1) _ _ _ k f z _ (h.below (bl1 _ _)) hk hn).mono ?_; rintro r w1 ⟨neg1, a1, n1, c1, rfl, hint1, hb1⟩; obtain ⟨hsz1, hcell1, hfz1⟩ := near (w.heap.size + 1) (by simp) hb1)
  have y0 : w1.cell? ⟨w.heap.size, 0, none⟩ = some (.bool false) := by simp [hcell1, go_sem]
  have y1 : w1.cell? ⟨w.heap.size, 1, none⟩ = some (.slice none 0 0) := by simp [hcell1, go_sem]
  refine bodyPost_ret (v := .agg #[.bool neg1, .slice a1 n1 c1]) (by simp [results, Try.results118, go_sem, y0, y1]) rfl ⟨neg1, a1, n1, c1, rfl, hint1.put2 y0 y1 _ _, ?_⟩
  exact ((bthen (bl1 _ _) hb1).setCell (p := ⟨w.heap.size, 0, none⟩) (Nat.le_refl _) _).setCell (p := ⟨w.heap.size, 1, none⟩) (Nat.le_refl _) _
set_option maxRecDepth 100000 in
set_option maxHeartbeats 1000000 in
theorem leastw_int (b n cap k : Nat) (f : Nat → Nm) (z : Nat → Int) (w : World) (h : Nums w b (n + 1) k f z) (hk : k ≤ 1000000000) (hn : n ≤ 1000) :
    Calls Try.prog 116 #[.slice (some ⟨b, 0, none⟩) (n + 1) cap] w fun r w' =>
      ∃ neg' a' n' cap', r = .returned (.agg #[.bool neg', .slice a' n' cap']) ∧ IntAt w' neg' a' n' cap' (k + 1) (leastZ z n) ∧ Below w.heap.size w w' := by
  rw [← farZ_least]
  go_enter Try.func116, Try.ntmps116
  go_wp2_with (go_at_call 150; refine (farthest_int (-1) _ _ _ k f z _ (h.below (bl1 _ _)) hk hn).mono ?_; rintro r w1 ⟨neg1, a1, n1, c1, rfl, hint1, hb1⟩; obtain ⟨hsz1, hcell1, hfz1⟩ := near (w.heap.size + 1) (by simp) hb1)
  have y0 : w1.cell? ⟨w.heap.size, 0, none⟩ = some (.bool false) := by simp [hcell1, go_sem]
  have y1 : w1.cell? ⟨w.heap.size, 1, none⟩ = some (.slice none 0 0) := by simp [hcell1, go_sem]
  refine bodyPost_ret (v := .agg #[.bool neg1, .slice a1 n1 c1]) (by simp [results, Try.results116, go_sem, y0, y1]) rfl ⟨neg1, a1, n1, c1, rfl, hint1.put2 y0 y1 _ _, ?_⟩
  exact ((bthen (bl1 _ _) hb1).setCell (p := ⟨w.heap.size, 0, none⟩) (Nat.le_refl _) _).setCell (p := ⟨w.heap.size, 1, none⟩) (Nat.le_refl _) _
end Go.Proofs.Ytgmnknmjainabab
namespace Go.Proofs.Ytgmnknmjainabab
open Go.RowKit
attribute [local go_sem ↓] Go.wp_at_zero Go.wp_at_succ
structure Spans (w : World) (b n : Nat) (f : Nat → Sp) (d e : Nat → Nat → Int) : Prop where
  lt : b < w.heap.size
  c0 : ∀ j, j < n → w.cell? ⟨b, j * 5, none⟩ = some (.bool (f j).ln)
  c1 : ∀ j, j < n → w.cell? ⟨b, j * 5 + 1, none⟩ = some (.slice (f j).la (f j).lN (f j).lc)
  c2 : ∀ j, j < n → w.cell? ⟨b, j * 5 + 2, none⟩ = some (.bool (f j).hn)
  c3 : ∀ j, j < n → w.cell? ⟨b, j * 5 + 3, none⟩ = some (.slice (f j).ha (f j).hN (f j).hc)
  c4 : ∀ j, j < n → w.cell? ⟨b, j * 5 + 4, none⟩ = some (.int .i64 (f j).bits)
  dig : ∀ j, j < n → SpDig w (f j) (d j) (e j)
theorem Spans.below {w w' : World} {b n : Nat} {f : Nat → Sp} {d e : Nat → Nat → Int} (h : Spans w b n f d e) (hb : Below w.heap.size w w') : Spans w' b n f d e :=
  ⟨Nat.lt_of_lt_of_le h.lt hb.size, fun j hj => (hb.cell (p := ⟨b, j * 5, none⟩) h.lt).trans (h.c0 j hj), fun j hj => (hb.cell (p := ⟨b, j * 5 + 1, none⟩) h.lt).trans (h.c1 j hj), fun j hj => (hb.cell (p := ⟨b, j * 5 + 2, none⟩) h.lt).trans (h.c2 j hj),
    fun j hj => (hb.cell (p := ⟨b, j * 5 + 3, none⟩) h.lt).trans (h.c3 j hj), fun j hj => (hb.cell (p := ⟨b, j * 5 + 4, none⟩) h.lt).trans (h.c4 j hj), fun j hj => (h.dig j hj).below hb⟩
def Flt (c bt : Nat → Int) (n : Nat) (r : Int) : Prop :=
  (∃ i, i < n ∧ c i ≠ 0 ∧ (∀ j, j < i → c j = 0) ∧ r = c i) ∨ ((∀ j, j < n → c j = 0) ∧ (∃ i, i < n ∧ bt i ≠ bt 0) ∧ r = 4) ∨ ((∀ j, j < n → c j = 0) ∧ (∀ j, j < n → bt j = bt 0) ∧ r = 0)
set_option maxRecDepth 100000 in
set_option maxHeartbeats 2000000 in
theorem fault_any (b n cap : Nat) (f : Nat → Sp) (d e : Nat → Nat → Int) (w : World) (h : Spans w b n f d e) (hn : n ≤ 1000) :
    Calls Try.prog 92 #[.slice (some ⟨b, 0, none⟩) n cap] w fun r w' =>
      ∃ z, r = .returned (.int .i64 z) ∧ Flt (fun j => chkE (f j) (d j) (e j)) (fun j => (f j).bits) n z ∧ Below w.heap.size w w' := by
  have hblt := h.lt
  have HH := hide h
  clear h
  go_enter Try.func92, Try.ntmps92
  go_wp2
  go_loopw [10] (fun ii wr => ∃ i : Nat, i ≤ n ∧ ii = .int .i64 i ∧ (∀ j, j < i → chkE (f j) (d j) (e j) = 0) ∧ Below w.heap.size w wr) (fun ii _ => n - (intOf ii).toNat)
  case atStart => exact ⟨0, by omega, rfl, fun j hj => by omega, Below.refl _ _⟩
  case round =>
    obtain ⟨i, hi, rfl, hz, hB⟩ := hrel
    by_cases hin : i < n
    · have H2 := (unhide HH).below hB
      have g0 := H2.c0 i hin
      have g1 := H2.c1 i hin
      have g2 := H2.c2 i hin
      have g3 := H2.c3 i hin
      have g4 := H2.c4 i hin
      have HD := hide (H2.dig i hin)
      have hi1 : (i : Int) < (n : Int) := by omega
      have HZ := hide hz
      clear hz H2
      by_cases hc : chkE (f i) (d i) (e i) = 0
      · go_wp2_with (go_at_call 144; refine (check_any (f i) (d i) (e i) _ ((unhide HD).below (bl1 _ _))).mono ?_; rintro r w1 ⟨rfl, hb1⟩)
        go_roundw
        case rel => exact ⟨i + 1, by omega, by go_num, fun j hj => by
                            by_cases hji : j = i
                            · subst hji; exact hc
                            · exact unhide HZ j (by omega), bthen (balloc hB _) hb1⟩
        case measure => simp [intOf]; omega
      · have hc' : (chkE (f i) (d i) (e i) != 0) = true := by simpa using hc
        go_wp2_with (go_at_call 144; refine (check_any (f i) (d i) (e i) _ ((unhide HD).below (bl1 _ _))).mono ?_; rintro r w1 ⟨rfl, hb1⟩)
        go_ret
        exact ⟨_, rfl, Or.inl ⟨i, hin, hc, unhide HZ, rfl⟩, bthen (balloc hB _) hb1⟩
    · have hiE : i = n := by omega
      subst hiE
      have HZ := hide hz
      clear hz hin hi
      go_wp2
      go_loopw [22] (fun ii wq => ∃ t : Nat, t ≤ i ∧ ii = .int .i64 t ∧ (∀ j, j < t → (f j).bits = (f 0).bits) ∧ Below w.heap.size w wq) (fun ii _ => i - (intOf ii).toNat)
      case atStart => exact ⟨0, by omega, rfl, fun j hj => by omega, hB⟩
      case round =>
        obtain ⟨t, ht, rfl, hz, hB⟩ := hrel
        by_cases hti : t < i
        · have H2 := (unhide HH).below hB
          have g0 := H2.c0 t hti
          have g1 := H2.c1 t hti
          have g2 := H2.c2 t hti
          have g3 := H2.c3 t hti
          have g4 := H2.c4 t hti
          have g5 := H2.c4 0 (by omega)
          have hlt := H2.lt
          simp only [Nat.zero_mul, Nat.zero_add] at g5
          have hi1 : (t : Int) < (i : Int) := by omega
          have hi0 : (0 : Int) < (i : Int) := by omega
          have HZ2 := hide hz
          clear hz H2
          by_cases hc : (f t).bits = (f 0).bits
          · have hc' : ((f t).bits != (f 0).bits) = false := by simp [hc]
            have HC := hide hc
            clear hc
            go_wp2
            go_quiet (fail)
            go_wp2
            go_roundw
            case rel => exact ⟨t + 1, by omega, by go_num, fun j hj => by
                                by_cases hji : j = t
                                · subst hji; exact unhide HC
                                · exact unhide HZ2 j (by omega), below_drewN (balloc hB _) _⟩
            case measure => simp [intOf]; omega
          · have hc' : ((f t).bits != (f 0).bits) = true := by simp [hc]
            go_wp2
            go_quiet (fail)
            go_wp2
            go_ret
            exact ⟨_, rfl, Or.inr (Or.inl ⟨unhide HZ, ⟨t, hti, hc⟩, rfl⟩), below_drewN (balloc hB _) _⟩
        · have htE : t = i := by omega
          subst htE
          go_wp2
          go_ret
          exact ⟨_, rfl, Or.inr (Or.inr ⟨unhide HZ, hz, rfl⟩), hB⟩
end Go.Proofs.Ytgmnknmjainabab
namespace Go.Proofs.Ytgmnknmjainabab
open Go.RowKit
attribute [local go_sem ↓] Go.wp_at_zero Go.wp_at_succ
def pr {α : Type} (x y : α) (j : Nat) : α := if j = 0 then x else y
def fltE2 (x y b1 b2 : Int) : Int := if x ≠ 0 then x else if y ≠ 0 then y else if b1 ≠ b2 then 4 else 0
theorem flt2 {x y b1 b2 r : Int} (h : Flt (fun j => pr x y j) (fun j => pr b1 b2 j) 2 r) : r = fltE2 x y b1 b2 := by
  unfold fltE2
  rcases h with ⟨i, hi, h1, h2, h3⟩ | ⟨h1, ⟨i, hi, h2⟩, h3⟩ | ⟨h1, h2, h3⟩
  · match i, hi with
    | 0, _ => simp [pr] at h1 h3; simp [h1, h3]
    | 1, _ => have := h2 0 (by omega); simp [pr] at h1 h3 this; simp [this, h1, h3]
  · have a0 := h1 0 (by omega)
    have a1 := h1 1 (by omega)
    simp [pr] at a0 a1
    match i, hi with
    | 0, _ => simp at h2
    | 1, _ => simp [pr] at h2; simp [a0, a1, h3]; omega
  · have a0 := h1 0 (by omega)
    have a1 := h1 1 (by omega)
    have a2 := h2 1 (by omega)
    simp [pr] at a0 a1 a2; simp [a0, a1, a2, h3]
theorem spans2 (w : World) (s t : Sp) (d e d' e' : Nat → Int) (T : TypeId) (hs : SpDig w s d e) (ht : SpDig w t d' e') :
    Spans (w.alloc (.cells #[.bool s.ln, .slice s.la s.lN s.lc, .bool s.hn, .slice s.ha s.hN s.hc, .int .i64 s.bits, .bool t.ln, .slice t.la t.lN t.lc, .bool t.hn, .slice t.ha t.hN t.hc, .int .i64 t.bits] T)) w.heap.size 2 (pr s t) (pr d d') (pr e e') := by
  refine ⟨by simp, ?_, ?_, ?_, ?_, ?_, ?_⟩
  all_goals
    intro j hj
    match j, hj with
    | 0, _ => first | (simp [pr]; done) | exact hs.below (bl1 _ _)
    | 1, _ => first | (simp [pr]; done) | exact ht.below (bl1 _ _)
end Go.Proofs.Ytgmnknmjainabab
namespace Go.Proofs.Ytgmnknmjainabab
open Go.RowKit
attribute [local go_sem ↓] Go.wp_at_zero Go.wp_at_succ
structure SpAt (w : World) (s : Sp) (k : Nat) (lo hi : Int) : Prop where
  lo : IntAt w s.ln s.la s.lN s.lc k lo
  hi : IntAt w s.hn s.ha s.hN s.hc k hi
theorem SpAt.below {w w' : World} {s : Sp} {k : Nat} {lo hi : Int} (h : SpAt w s k lo hi) (hb : Below w.heap.size w w') : SpAt w' s k lo hi := ⟨h.lo.below hb, h.hi.below hb⟩
theorem blenF_pos (f : Nat) {x : Int} (h : 0 < x) : 1 ≤ blenF (f + 1) x := by
  simp only [blenF]; rw [if_neg (by omega)]; have := blenF_bd f (x / 2); omega
theorem blen16_pos {x : Int} (h : 0 < x) : 1 ≤ blenF 16 x := blenF_pos 15 h
def maxZ (x y : Int) : Int := if x < y then y else x
def minZ (x y : Int) : Int := if y < x then y else x
theorem right_int {w : World} {neg : Bool} {a : Option Addr} {n cap : Nat} {d : Nat → Int} (h : Dig w a n cap d) (hr : rightB neg n d ≠ false) (hl : ¬ 4000 < lenZ n d) : IntAt w neg a n cap 250 (sgn neg (V d n)) := by
  have hd := h.dgs (n - 1)
  unfold rightB at hr
  unfold lenZ at hl
  by_cases h0 : n = 0
  · subst h0
    simp at hr
    exact ⟨d, h, Or.inl rfl, fun _ => hr, by omega, rfl⟩
  · rw [if_neg h0] at hr hl
    have hne : d (n - 1) ≠ 0 := by simpa using hr
    have := blen16_pos (show 0 < d (n - 1) by omega)
    exact ⟨d, h, Or.inr hne, fun h => absurd h h0, by omega, rfl⟩
theorem chk_ok {w : World} {s : Sp} {d e : Nat → Int} (h : SpDig w s d e) (hc : chkE s d e = 0) :
    SpAt w s 250 (sgn s.ln (V d s.lN)) (sgn s.hn (V e s.hN)) ∧ 1 ≤ s.bits ∧ s.bits ≤ 120 ∧ sgn s.ln (V d s.lN) ≤ sgn s.hn (V e s.hN) := by
  unfold chkE at hc
  split at hc
  · omega
  · split at hc
    · omega
    · split at hc
      · omega
      · split at hc
        · omega
        · rename_i c1 c2 c3 c4
          have i1 := right_int h.lo (neg := s.ln) (fun q => c2 (Or.inl q)) (fun q => c3 (Or.inl q))
          have i2 := right_int h.hi (neg := s.hn) (fun q => c2 (Or.inr q)) (fun q => c3 (Or.inr q))
          refine ⟨⟨i1, i2⟩, by omega, by omega, ?_⟩
          obtain ⟨d1, p1, p2, p3, p4, p5⟩ := i1
          obtain ⟨e1, r1, r2, r3, r4, r5⟩ := i2
          have q1 : s.lN = 0 ∨ d (s.lN - 1) ≠ 0 := by
            by_cases hh : s.lN = 0
            · exact Or.inl hh
            · right; intro h0; exact c2 (Or.inl (by simp [rightB, hh, h0]))
          have q2 : s.hN = 0 ∨ e (s.hN - 1) ≠ 0 := by
            by_cases hh : s.hN = 0
            · exact Or.inl hh
            · right; intro h0; exact c2 (Or.inr (by simp [rightB, hh, h0]))
          rw [sgn_nonneg_lt h.lo.dgs h.hi.dgs s.ln s.hn s.lN s.hN q1 q2 p3 r3] at c4
          by_cases hh : sgn s.hn (V e s.hN) < sgn s.ln (V d s.lN)
          · exact absurd (show 0 < cmpInt (sgn s.ln (V d s.lN)) (sgn s.hn (V e s.hN)) by unfold cmpInt; rw [if_neg (by omega), if_pos hh]; omega) c4
          · omega
theorem nums2 (w : World) (x y : Nm) (k : Nat) (zx zy : Int) (T : TypeId) (hx : IntAt w x.neg x.a x.n x.cap k zx) (hy : IntAt w y.neg y.a y.n y.cap k zy) :
    Nums (w.alloc (.cells #[.bool x.neg, .slice x.a x.n x.cap, .bool y.neg, .slice y.a y.n y.cap] T)) w.heap.size 2 k (pr x y) (pr zx zy) := by
  refine ⟨by simp, ?_, ?_, ?_⟩
  all_goals
    intro j hj
    match j, hj with
    | 0, _ => first | (simp [pr]; done) | exact hx.below (bl1 _ _)
    | 1, _ => first | (simp [pr]; done) | exact hy.below (bl1 _ _)
theorem most2 (w : World) (B : Nat) (hB : w.heap.size = B) (x y : Nm) (k : Nat) (zx zy : Int) (T : TypeId) (cap : Nat) (hx : IntAt w x.neg x.a x.n x.cap k zx) (hy : IntAt w y.neg y.a y.n y.cap k zy) (hk : k ≤ 1000000000) :
    Calls Try.prog 118 #[.slice (some ⟨B, 0, none⟩) 2 cap] (w.alloc (.cells #[.bool x.neg, .slice x.a x.n x.cap, .bool y.neg, .slice y.a y.n y.cap] T)) fun r w' =>
      ∃ neg' a' n' cap', r = .returned (.agg #[.bool neg', .slice a' n' cap']) ∧ IntAt w' neg' a' n' cap' (k + 1) (maxZ zx zy) ∧ Below w.heap.size w w' := by
  subst hB
  exact (most_int w.heap.size 1 cap k (pr x y) (pr zx zy) _ (nums2 w x y k zx zy T hx hy) hk (by omega)).mono fun _ _ ⟨n1, n2, n3, n4, q1, q2, q3⟩ => ⟨n1, n2, n3, n4, q1, q2, (bl1 _ _).trans (q3.mono (by simp))⟩
theorem least2 (w : World) (B : Nat) (hB : w.heap.size = B) (x y : Nm) (k : Nat) (zx zy : Int) (T : TypeId) (cap : Nat) (hx : IntAt w x.neg x.a x.n x.cap k zx) (hy : IntAt w y.neg y.a y.n y.cap k zy) (hk : k ≤ 1000000000) :
    Calls Try.prog 116 #[.slice (some ⟨B, 0, none⟩) 2 cap] (w.alloc (.cells #[.bool x.neg, .slice x.a x.n x.cap, .bool y.neg, .slice y.a y.n y.cap] T)) fun r w' =>
      ∃ neg' a' n' cap', r = .returned (.agg #[.bool neg', .slice a' n' cap']) ∧ IntAt w' neg' a' n' cap' (k + 1) (minZ zx zy) ∧ Below w.heap.size w w' := by
  subst hB
  exact (leastw_int w.heap.size 1 cap k (pr x y) (pr zx zy) _ (nums2 w x y k zx zy T hx hy) hk (by omega)).mono fun _ _ ⟨n1, n2, n3, n4, q1, q2, q3⟩ => ⟨n1, n2, n3, n4, q1, q2, (bl1 _ _).trans (q3.mono (by simp))⟩
set_option maxRecDepth 100000 in
set_option maxHeartbeats 2000000 in
theorem reach_int (w : World) (s : Sp) (k : Nat) (lo hi : Int) (h : SpAt w s k lo hi) (hk : k ≤ 900000000) :
    Calls Try.prog 154 #[.agg #[.bool s.ln, .slice s.la s.lN s.lc, .bool s.hn, .slice s.ha s.hN s.hc, .int .i64 s.bits]] w fun r w' =>
      ∃ neg' a' n' cap', r = .returned (.agg #[.bool neg', .slice a' n' cap']) ∧ IntAt w' neg' a' n' cap' (k + 1) (maxZ hi (-lo)) ∧ Below w.heap.size w w' := by
  go_enter Try.func154, Try.ntmps154
  go_wp2
  go_region_held3 (fun w' => w'.cell? ⟨w.heap.size, 0, none⟩ = some (.bool s.ln) ∧ w'.cell? ⟨w.heap.size, 1, none⟩ = some (.slice s.la s.lN s.lc) ∧ w'.cell? ⟨w.heap.size, 2, none⟩ = some (.bool s.hn) ∧ w'.cell? ⟨w.heap.size, 3, none⟩ = some (.slice s.ha s.hN s.hc)) (go_keep)
    (first
      | (go_at_call 83; refine (neg_int _ _ _ _ k lo _ (h.lo.below (bl2 _ _ _).drew) (by omega)).mono ?_; rintro r w1 ⟨neg1, a1, n1, c1, rfl, hint1, hb1⟩; obtain ⟨hsz1, hcell1, hfz1⟩ := near (w.heap.size + 1 + 1) (by simp) hb1; have hz0 := Nat.lt_of_lt_of_le (Nat.lt_succ_of_lt (Nat.lt_succ_self w.heap.size)) hsz1; have hz1 := Nat.lt_of_lt_of_le (Nat.lt_succ_self (w.heap.size + 1)) hsz1)
      | (go_at_call 118; refine (most2 w1 _ rfl ⟨s.hn, s.ha, s.hN, s.hc⟩ ⟨neg1, a1, n1, c1⟩ k hi (-lo) _ _ (h.hi.below (bthen (bl2 _ _ _).drew hb1)) hint1 (by omega)).mono ?_; rintro r w2 ⟨neg2, a2, n2, c2, rfl, hint2, hb2⟩; obtain ⟨hsz2, hcell2, hfz2⟩ := near (w.heap.size + 1 + 1) hsz1 hb2))
  go_wp2
  have y0 : w2.cell? ⟨w.heap.size + 1, 0, none⟩ = some (.bool false) := by simp [hcell2, hcell1, go_sem]
  have y1 : w2.cell? ⟨w.heap.size + 1, 1, none⟩ = some (.slice none 0 0) := by simp [hcell2, hcell1, go_sem]
  refine bodyPost_ret (v := .agg #[.bool neg2, .slice a2 n2 c2]) (by simp [results, Try.results154, go_sem, y0, y1]) rfl ⟨neg2, a2, n2, c2, rfl, hint2.put2 y0 y1 _ _, ?_⟩
  exact ((bthen (bthen (bl2 _ _ _).drew hb1) hb2).setCell (p := ⟨w.heap.size + 1, 0, none⟩) (Nat.le_succ _) _).setCell (p := ⟨w.heap.size + 1, 1, none⟩) (Nat.le_succ _) _
end Go.Proofs.Ytgmnknmjainabab
