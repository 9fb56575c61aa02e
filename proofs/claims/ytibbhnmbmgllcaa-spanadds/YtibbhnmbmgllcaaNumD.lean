/-
  What num.Sub and num.Neg answer of right numbers, and that they leave old memory alone.
-/
import Derived.Test.YtibbhnmbmgllcaaAppC
namespace Go.Proofs.Ytibbhnmbmgllcaa
set_option linter.unusedVariables false
set_option linter.unusedSimpArgs false
set_option linter.unnecessarySimpa false
open Go.RowKit
attribute [local go_sem ↓] Go.wp_at_zero Go.wp_at_succ

theorem add_int (neg neg2 : Bool) (a c : Option Addr) (n m cap cap2 k k2 : Nat) (x y : Int) (w : World) (h1 : IntAt w neg a n cap k x) (h2 : IntAt w neg2 c m cap2 k2 y) (hk : k ≤ 1000000000) (hk2 : k2 ≤ 1000000000) :
    Calls Try.prog 49 #[.agg #[.bool neg, .slice a n cap], .agg #[.bool neg2, .slice c m cap2]] w fun r w' =>
      ∃ neg' a' n' cap', r = .returned (.agg #[.bool neg', .slice a' n' cap']) ∧ IntAt w' neg' a' n' cap' (max k k2 + 1) (x + y) ∧ Below w.heap.size w w' := by
  obtain ⟨d, g1, g2, g3, g4, rfl⟩ := h1
  obtain ⟨e, f1, f2, f3, f4, rfl⟩ := h2
  exact (add_any neg neg2 a c n m cap cap2 d e w g1 f1 (by omega) (by omega) g2 f2).mono fun _ _ ⟨n1, n2, n3, n4, q1, q2, q3⟩ => ⟨n1, n2, n3, n4, q1, q2.mono (by omega), q3⟩

set_option maxRecDepth 100000 in
set_option maxHeartbeats 1000000 in
theorem sub_int (neg neg2 : Bool) (a c : Option Addr) (n m cap cap2 k k2 : Nat) (x y : Int) (w : World) (h1 : IntAt w neg a n cap k x) (h2 : IntAt w neg2 c m cap2 k2 y) (hk : k ≤ 1000000000) (hk2 : k2 ≤ 1000000000) :
    Calls Try.prog 50 #[.agg #[.bool neg, .slice a n cap], .agg #[.bool neg2, .slice c m cap2]] w fun r w' =>
      ∃ neg' a' n' cap', r = .returned (.agg #[.bool neg', .slice a' n' cap']) ∧ IntAt w' neg' a' n' cap' (max k k2 + 1) (x - y) ∧ Below w.heap.size w w' := by
  have H1 := hide h1
  obtain ⟨e, f1, f2, f3, f4, fy⟩ := h2
  have Hy := hide (show sgn (!neg2) (V e m) = -y by rw [fy]; cases neg2 <;> simp [sgn])
  have Hx := hide (show x + -y = x - y by omega)
  clear h1 fy
  have ne1 : w.heap.size ≠ w.heap.size + 1 + 1 := by omega
  have ne2 : w.heap.size + 1 + 1 ≠ w.heap.size := by omega
  go_enter Try.func50, Try.ntmps50
  go_wp2
  go_region_held3 (fun w' => w'.cell? ⟨w.heap.size, 0, none⟩ = some (.bool neg) ∧ w'.cell? ⟨w.heap.size, 1, none⟩ = some (.slice a n cap) ∧ w'.cell? ⟨w.heap.size + 1, 0, none⟩ = some (.bool neg2) ∧ w'.cell? ⟨w.heap.size + 1, 1, none⟩ = some (.slice c m cap2)) (go_keep)
    (first
      | (go_at_call 104; refine (of_int _ _ _ _ e _ (f1.below (bl3 _ _ _ _).drew)).mono ?_; rintro r w1 ⟨neg1, a1, n1, c1, rfl, hint1, hb⟩; obtain ⟨hsz, hcell, hfz⟩ := near (w.heap.size + 3) (by simp) hb)
      | (go_at_call 49; refine (add_int _ _ _ _ _ _ _ _ k m x _ _ ((unhide H1).below (bthen (bl3 _ _ _ _).drew hb)) hint1 hk (by omega)).mono ?_; rintro r w2 ⟨neg', a2, n2, c2, rfl, hint, hb2⟩; obtain ⟨hsz2, hcell2, hfz2⟩ := near (w.heap.size + 3) hsz hb2))
  go_wp2
  refine bodyPost_ret (v := .agg #[.bool neg', .slice a2 n2 c2]) (by simp [results, Try.results50, go_sem, hcell2, hcell]) rfl ⟨neg', a2, n2, c2, rfl, ?_, ?_⟩
  · have h0 : w2.cell? ⟨w.heap.size + 1 + 1, 0, none⟩ = some (.bool false) := by simp [hcell2, hcell, go_sem]
    have h1' : w2.cell? ⟨w.heap.size + 1 + 1, 1, none⟩ = some (.slice none 0 0) := by simp [hcell2, hcell, go_sem]
    rw [unhide Hy, unhide Hx] at hint
    exact (hint.put2 h0 h1' _ _).mono (by omega)
  · exact ((bthen (bthen (bl3 _ _ _ _).drew hb) hb2).setCell (by simp; omega) _).setCell (by simp; omega) _

set_option maxRecDepth 100000 in
set_option maxHeartbeats 1000000 in
theorem neg_int (neg : Bool) (a : Option Addr) (n cap k : Nat) (x : Int) (w : World) (h1 : IntAt w neg a n cap k x) (hk : k ≤ 1000000000) :
    Calls Try.prog 80 #[.agg #[.bool neg, .slice a n cap]] w fun r w' =>
      ∃ neg' a' n' cap', r = .returned (.agg #[.bool neg', .slice a' n' cap']) ∧ IntAt w' neg' a' n' cap' k (-x) ∧ Below w.heap.size w w' := by
  obtain ⟨d, f1, f2, f3, f4, fy⟩ := h1
  have Hy := hide (show sgn (!neg) (V d n) = -x by rw [fy]; cases neg <;> simp [sgn])
  clear fy
  go_enter Try.func80, Try.ntmps80
  go_wp2
  go_region_held3 (fun w' => w'.cell? ⟨w.heap.size, 0, none⟩ = some (.bool neg) ∧ w'.cell? ⟨w.heap.size, 1, none⟩ = some (.slice a n cap)) (go_keep)
    (first
      | (refine step_append_copy (by rfl) _ _ 22 (by rfl) 96 Try.underlying22 Try.infoU16 _ (by rfl) _ _ _ d (by rfl) (f1.below (bl3 _ _ _ _).drew) (by omega) ?_; intro a1 c1 w1 hdig hb; obtain ⟨hsz, hcell, hfz⟩ := near (w.heap.size + 2) (by simp) hb)
      | (go_at_call 104; refine (of_int _ _ _ _ d _ hdig).mono ?_; rintro r w2 ⟨neg', a2, n2, c2, rfl, hint, hb2⟩; obtain ⟨hsz2, hcell2, hfz2⟩ := near (w.heap.size + 2) hsz hb2))
  go_wp2
  refine bodyPost_ret (v := .agg #[.bool neg', .slice a2 n2 c2]) (by simp [results, Try.results80, go_sem, hcell2, hcell]) rfl ⟨neg', a2, n2, c2, rfl, ?_, ?_⟩
  · have h0 : w2.cell? ⟨w.heap.size + 1, 0, none⟩ = some (.bool false) := by simp [hcell2, hcell, go_sem]
    have h1' : w2.cell? ⟨w.heap.size + 1, 1, none⟩ = some (.slice none 0 0) := by simp [hcell2, hcell, go_sem]
    rw [unhide Hy] at hint
    exact (hint.put2 h0 h1' _ _).mono (by omega)
  · exact ((bthen (bthen (bl3 _ _ _ _).drew hb) hb2).setCell (by simp) _).setCell (by simp) _
end Go.Proofs.Ytibbhnmbmgllcaa
