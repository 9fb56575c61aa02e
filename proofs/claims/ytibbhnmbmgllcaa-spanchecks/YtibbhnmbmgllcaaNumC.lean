/-
  What num.Cmp, Add, Sub, Neg answer of right numbers, and that they leave old memory alone.
-/
import Derived.Test.YtibbhnmbmgllcaaMath
import Derived.Deep.RegionHeld3
import Derived.Deep.DrawnRows
import Derived.Deep.AppendSrc
namespace Go.Proofs.Ytibbhnmbmgllcaa
set_option linter.unusedVariables false
set_option linter.unusedSimpArgs false
set_option linter.unnecessarySimpa false
open Go.RowKit
attribute [local go_sem ↓] Go.wp_at_zero Go.wp_at_succ

theorem rowDig {w : World} {b t N : Nat} {f : Nat → Int} (h : w.rowIs b t N (fun j => .int .u16 (f j))) (hd : Dgs f) (hN : N ≤ 70368744177664) : Dig w (some ⟨b, 0, none⟩) N N f :=
  ⟨fun _ => ⟨b, 0, rfl, h.lt, fun j hj => by simpa using h.cell hj⟩, hd, Nat.le_refl _, hN⟩

theorem ofInt {w : World} {a : Option Addr} {N cap : Nat} {f : Nat → Int} (neg : Bool) (h : Dig w a N cap f) : IntAt w (neg && decide (0 < trimN f N)) a (trimN f N) cap N (sgn neg (V f N)) := by
  have hl := trimN_le f N
  have hV := trimN_V f N
  refine ⟨f, h.take hl, trimN_top f N, fun h0 => by simp [h0], hl, ?_⟩
  by_cases h0 : trimN f N = 0
  · rw [h0] at hV ⊢; rw [← hV]; cases neg <;> simp [sgn, V]
  · have : decide (0 < trimN f N) = true := by simp; omega
    rw [this, hV]; cases neg <;> rfl

theorem plus_dig (a c : Option Addr) (n m cap cap2 : Nat) (d e : Nat → Int) (w : World) (ha : Dig w a n cap d) (hc : Dig w c m cap2 e) (hn : n ≤ 1000000000) (hm : m ≤ 1000000000) :
    Calls Try.prog 105 #[.slice a n cap, .slice c m cap2] w fun r w' => ∃ a' N, Hid (N = max n m + 1) ∧ r = .returned (.slice a' N N) ∧ Dig w' a' N N (plusD d e n m) ∧ Below w.heap.size w w' :=
  (plus_any a c n m cap cap2 d e w ha hc hn hm).mono fun _ _ ⟨N, h1, h2, h3, h4⟩ => ⟨_, N, h1, h2, rowDig h3 (plusD_dgs _ _ _ _) (by omega), h4⟩

theorem less_dig (a c : Option Addr) (n m cap cap2 : Nat) (d e : Nat → Int) (w : World) (ha : Dig w a n cap d) (hc : Dig w c m cap2 e) (hn : n ≤ 1000000000) (hm : m ≤ 1000000000) :
    Calls Try.prog 106 #[.slice a n cap, .slice c m cap2] w fun r w' => ∃ a', r = .returned (.slice a' n n) ∧ Dig w' a' n n (lessD d e m) ∧ Below w.heap.size w w' :=
  (less_any a c n m cap cap2 d e w ha hc hn hm).mono fun _ _ ⟨h2, h3, h4⟩ => ⟨_, h2, rowDig h3 (lessD_dgs ha.dgs hc.dgs _) (by omega), h4⟩

theorem of_int (neg : Bool) (a : Option Addr) (n cap : Nat) (d : Nat → Int) (w : World) (h : Dig w a n cap d) :
    Calls Try.prog 104 #[.bool neg, .slice a n cap] w fun e w' => ∃ neg' a' n' cap', e = .returned (.agg #[.bool neg', .slice a' n' cap']) ∧ IntAt w' neg' a' n' cap' n (sgn neg (V d n)) ∧ Below w.heap.size w w' :=
  (of_any neg a n cap d w h).mono fun _ _ ⟨h1, h2⟩ => ⟨_, _, _, _, h1, (ofInt neg h).below h2, h2⟩

theorem cmp_int (neg neg2 : Bool) (a a2 : Option Addr) (n n2 cap cap2 k k2 : Nat) (x y : Int) (w : World) (h1 : IntAt w neg a n cap k x) (h2 : IntAt w neg2 a2 n2 cap2 k2 y) :
    Calls Try.prog 33 #[.agg #[.bool neg, .slice a n cap], .agg #[.bool neg2, .slice a2 n2 cap2]] w fun r w' => r = .returned (.int .i64 (cmpInt x y)) ∧ Below w.heap.size w w' := by
  obtain ⟨d, g1, g2, g3, g4, rfl⟩ := h1
  obtain ⟨d2, f1, f2, f3, f4, rfl⟩ := h2
  rw [← sgn_nonneg_lt g1.dgs f1.dgs neg neg2 n n2 g2 f2 g3 f3]
  exact cmp_any neg neg2 a a2 n n2 cap cap2 d d2 w g1 f1

set_option maxRecDepth 100000 in
set_option maxHeartbeats 1000000 in
theorem add_any (neg neg2 : Bool) (a c : Option Addr) (n m cap cap2 : Nat) (d e : Nat → Int) (w : World) (ha : Dig w a n cap d) (hc : Dig w c m cap2 e) (hn : n ≤ 1000000000) (hm : m ≤ 1000000000)
    (h1 : n = 0 ∨ d (n - 1) ≠ 0) (h2 : m = 0 ∨ e (m - 1) ≠ 0) :
    Calls Try.prog 49 #[.agg #[.bool neg, .slice a n cap], .agg #[.bool neg2, .slice c m cap2]] w fun r w' =>
      ∃ neg' a' n' cap', r = .returned (.agg #[.bool neg', .slice a' n' cap']) ∧ IntAt w' neg' a' n' cap' (max n m + 1) (sgn neg (V d n) + sgn neg2 (V e m)) ∧ Below w.heap.size w w' := by
  by_cases hs : neg = neg2
  · subst hs
    have hs : (neg == neg) = true := by simp
    have ne1 : w.heap.size ≠ w.heap.size + 1 + 1 := by omega
    have ne2 : w.heap.size + 1 + 1 ≠ w.heap.size := by omega
    go_enter Try.func49, Try.ntmps49
    go_wp2
    go_region_held3 (fun w' => w'.cell? ⟨w.heap.size, 0, none⟩ = some (.bool neg) ∧ w'.cell? ⟨w.heap.size, 1, none⟩ = some (.slice a n cap) ∧ w'.cell? ⟨w.heap.size + 1, 1, none⟩ = some (.slice c m cap2)) (go_keep)
      (first
        | (go_at_call 105; refine (plus_dig _ _ _ _ _ _ d e _ (ha.below (bl3 _ _ _ _).drew) (hc.below (bl3 _ _ _ _).drew) hn hm).mono ?_; rintro r w1 ⟨a', N, HN, rfl, hdig, hb⟩; obtain ⟨hsz, hcell, hfz⟩ := near (w.heap.size + 3) (by simp) hb)
        | (go_at_call 104; refine (of_int _ _ _ _ (plusD d e n m) _ hdig).mono ?_; rintro r w2 ⟨neg', a2, n2, c2, rfl, hint, hb2⟩; obtain ⟨hsz2, hcell2, hfz2⟩ := near (w.heap.size + 3) hsz hb2))
    go_wp2
    refine bodyPost_ret (v := .agg #[.bool neg', .slice a2 n2 c2]) (by simp [results, Try.results49, go_sem, hcell2, hcell]) rfl ⟨neg', a2, n2, c2, rfl, ?_, ?_⟩
    · have hV := plus_V ha.dgs hc.dgs n m
      have h0 : w2.cell? ⟨w.heap.size + 1 + 1, 0, none⟩ = some (.bool false) := by simp [hcell2, hcell, go_sem]
      have h1' : w2.cell? ⟨w.heap.size + 1 + 1, 1, none⟩ = some (.slice none 0 0) := by simp [hcell2, hcell, go_sem]
      rw [unhide HN, hV] at hint
      have e1 : sgn neg (V d n + V e m) = sgn neg (V d n) + sgn neg (V e m) := by cases neg <;> simp [sgn]; omega
      rw [e1] at hint
      exact hint.put2 h0 h1' _ _
    · exact ((bthen (bthen (bl3 _ _ _ _).drew hb) hb2).setCell (by simp; omega) _).setCell (by simp; omega) _
  · have hs2 : (neg == neg2) = false := by simpa using hs
    have ne1 : w.heap.size ≠ w.heap.size + 1 + 1 := by omega
    have ne2 : w.heap.size + 1 + 1 ≠ w.heap.size := by omega
    have hcv := cmpZ_V ha.dgs hc.dgs n m h1 h2
    by_cases hge : 0 ≤ cmpZ d e n m
    · have hle : V e m ≤ V d n := by
        rw [hcv] at hge; unfold cmpInt at hge; split at hge <;> omega
      have hmn : m ≤ n := by
        unfold cmpZ at hge; split at hge <;> omega
      have Hv := hide (show sgn neg (V (lessD d e m) n) = sgn neg (V d n) + sgn neg2 (V e m) by
        rw [less_V ha.dgs hc.dgs n m hmn hle]; cases neg <;> cases neg2 <;> simp [sgn] at * <;> omega)
      clear hcv
      go_enter Try.func49, Try.ntmps49
      go_wp2_with (go_at_call 90; refine (compare_any _ _ _ _ _ _ d e _ (ha.below (bl3 _ _ _ _)) (hc.below (bl3 _ _ _ _))).mono ?_; rintro r w0 ⟨rfl, hb0⟩; obtain ⟨hsz0, hcell0, hfz0⟩ := near (w.heap.size + 3) (by simp) hb0)
      go_region_held3 (fun w' => w'.cell? ⟨w.heap.size, 0, none⟩ = some (.bool neg) ∧ w'.cell? ⟨w.heap.size, 1, none⟩ = some (.slice a n cap) ∧ w'.cell? ⟨w.heap.size + 1, 1, none⟩ = some (.slice c m cap2)) (go_keep)
        (first
          | (go_at_call 106; refine (less_dig _ _ _ _ _ _ d e _ (ha.below (bthen (bl3 _ _ _ _) hb0).drew) (hc.below (bthen (bl3 _ _ _ _) hb0).drew) hn hm).mono ?_; rintro r w1 ⟨a', rfl, hdig, hb⟩; obtain ⟨hsz, hcell, hfz⟩ := near (w.heap.size + 3) (by exact hsz0) hb)
          | (go_at_call 104; refine (of_int _ _ _ _ (lessD d e m) _ hdig).mono ?_; rintro r w2 ⟨neg', a2, n2, c2, rfl, hint, hb2⟩; obtain ⟨hsz2, hcell2, hfz2⟩ := near (w.heap.size + 3) hsz hb2))
      go_wp2
      refine bodyPost_ret (v := .agg #[.bool neg', .slice a2 n2 c2]) (by simp [results, Try.results49, go_sem, hcell2, hcell, hcell0]) rfl ⟨neg', a2, n2, c2, rfl, ?_, ?_⟩
      · have h0 : w2.cell? ⟨w.heap.size + 1 + 1, 0, none⟩ = some (.bool false) := by simp [hcell2, hcell, hcell0, go_sem]
        have h1' : w2.cell? ⟨w.heap.size + 1 + 1, 1, none⟩ = some (.slice none 0 0) := by simp [hcell2, hcell, hcell0, go_sem]
        rw [unhide Hv] at hint
        exact (hint.put2 h0 h1' _ _).mono (by omega)
      · exact ((bthen (bthen (bthen (bl3 _ _ _ _) hb0).drew hb) hb2).setCell (by simp; omega) _).setCell (by simp; omega) _
    · have hle : V d n ≤ V e m := by
        rw [hcv] at hge; unfold cmpInt at hge; split at hge <;> omega
      have hmn : n ≤ m := by
        unfold cmpZ at hge; split at hge <;> (try split at hge) <;> omega
      have Hv := hide (show sgn neg2 (V (lessD e d n) m) = sgn neg (V d n) + sgn neg2 (V e m) by
        rw [less_V hc.dgs ha.dgs m n hmn hle]; cases neg <;> cases neg2 <;> simp [sgn] at * <;> omega)
      clear hcv
      go_enter Try.func49, Try.ntmps49
      go_wp2_with (go_at_call 90; refine (compare_any _ _ _ _ _ _ d e _ (ha.below (bl3 _ _ _ _)) (hc.below (bl3 _ _ _ _))).mono ?_; rintro r w0 ⟨rfl, hb0⟩; obtain ⟨hsz0, hcell0, hfz0⟩ := near (w.heap.size + 3) (by simp) hb0)
      go_region_held3 (fun w' => w'.cell? ⟨w.heap.size + 1, 0, none⟩ = some (.bool neg2) ∧ w'.cell? ⟨w.heap.size + 1, 1, none⟩ = some (.slice c m cap2) ∧ w'.cell? ⟨w.heap.size, 1, none⟩ = some (.slice a n cap)) (go_keep)
        (first
          | (go_at_call 106; refine (less_dig _ _ _ _ _ _ e d _ (hc.below (bthen (bl3 _ _ _ _) hb0).drew) (ha.below (bthen (bl3 _ _ _ _) hb0).drew) hm hn).mono ?_; rintro r w1 ⟨a', rfl, hdig, hb⟩; obtain ⟨hsz, hcell, hfz⟩ := near (w.heap.size + 3) (by exact hsz0) hb)
          | (go_at_call 104; refine (of_int _ _ _ _ (lessD e d n) _ hdig).mono ?_; rintro r w2 ⟨neg', a2, n2, c2, rfl, hint, hb2⟩; obtain ⟨hsz2, hcell2, hfz2⟩ := near (w.heap.size + 3) hsz hb2))
      go_wp2
      refine bodyPost_ret (v := .agg #[.bool neg', .slice a2 n2 c2]) (by simp [results, Try.results49, go_sem, hcell2, hcell, hcell0]) rfl ⟨neg', a2, n2, c2, rfl, ?_, ?_⟩
      · have h0 : w2.cell? ⟨w.heap.size + 1 + 1, 0, none⟩ = some (.bool false) := by simp [hcell2, hcell, hcell0, go_sem]
        have h1' : w2.cell? ⟨w.heap.size + 1 + 1, 1, none⟩ = some (.slice none 0 0) := by simp [hcell2, hcell, hcell0, go_sem]
        rw [unhide Hv] at hint
        exact (hint.put2 h0 h1' _ _).mono (by omega)
      · exact ((bthen (bthen (bthen (bl3 _ _ _ _) hb0).drew hb) hb2).setCell (by simp; omega) _).setCell (by simp; omega) _

end Go.Proofs.Ytibbhnmbmgllcaa
