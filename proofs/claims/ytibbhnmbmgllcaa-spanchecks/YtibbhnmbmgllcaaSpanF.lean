/-
  What wide.reach and wide.Narrow answer of right spans, and that they leave old memory alone.
-/
import Derived.Test.YtibbhnmbmgllcaaSpanE
namespace Go.Proofs.Ytibbhnmbmgllcaa
set_option linter.unusedVariables false
set_option linter.unusedSimpArgs false
set_option linter.unnecessarySimpa false
open Go.RowKit
attribute [local go_sem ↓] Go.wp_at_zero Go.wp_at_succ

/-- A span whose ends are right. -/
structure SpAt (w : World) (s : Sp) (k : Nat) (lo hi : Int) : Prop where
  lo : IntAt w s.ln s.la s.lN s.lc k lo
  hi : IntAt w s.hn s.ha s.hN s.hc k hi
theorem SpAt.below {w w' : World} {s : Sp} {k : Nat} {lo hi : Int} (h : SpAt w s k lo hi) (hb : Below w.heap.size w w') : SpAt w' s k lo hi := ⟨h.lo.below hb, h.hi.below hb⟩

theorem blenF_pos (f : Nat) {x : Int} (h : 0 < x) : 1 ≤ blenF (f + 1) x := by
  simp only [blenF]; rw [if_neg (by omega)]; have := blenF_bd f (x / 2); omega

theorem blen16_pos {x : Int} (h : 0 < x) : 1 ≤ blenF 16 x := blenF_pos 15 h

/-- The greater one, and the lesser one, of two. -/
def maxZ (x y : Int) : Int := if x < y then y else x
def minZ (x y : Int) : Int := if y < x then y else x

theorem right_int {w : World} {neg : Bool} {a : Option Addr} {n cap : Nat} {d : Nat → Int} (h : Dig w a n cap d) (hr : rightB neg n d ≠ false) (hl : ¬ 4000 < lenZ n d) : IntAt w neg a n cap 250 (sgn neg (V d n)) := by
  have hd := h.dgs (n - 1)
  unfold rightB at hr
  unfold lenZ at hl
  by_cases h0 : n = 0
  · subst h0
    simp at hr
    exact ⟨d, h, Or.inl rfl, fun _ => hr, by omega, rfl⟩
  · rw [if_neg h0] at hr hl
    have hne : d (n - 1) ≠ 0 := by simpa using hr
    have := blen16_pos (show 0 < d (n - 1) by omega)
    exact ⟨d, h, Or.inr hne, fun h => absurd h h0, by omega, rfl⟩

/-- A span that Check has nothing against. -/
theorem chk_ok {w : World} {s : Sp} {d e : Nat → Int} (h : SpDig w s d e) (hc : chkE s d e = 0) :
    SpAt w s 250 (sgn s.ln (V d s.lN)) (sgn s.hn (V e s.hN)) ∧ 1 ≤ s.bits ∧ s.bits ≤ 120 ∧ sgn s.ln (V d s.lN) ≤ sgn s.hn (V e s.hN) := by
  unfold chkE at hc
  split at hc
  · omega
  · split at hc
    · omega
    · split at hc
      · omega
      · split at hc
        · omega
        · rename_i c1 c2 c3 c4
          have i1 := right_int h.lo (neg := s.ln) (fun q => c2 (Or.inl q)) (fun q => c3 (Or.inl q))
          have i2 := right_int h.hi (neg := s.hn) (fun q => c2 (Or.inr q)) (fun q => c3 (Or.inr q))
          refine ⟨⟨i1, i2⟩, by omega, by omega, ?_⟩
          obtain ⟨d1, p1, p2, p3, p4, p5⟩ := i1
          obtain ⟨e1, r1, r2, r3, r4, r5⟩ := i2
          have q1 : s.lN = 0 ∨ d (s.lN - 1) ≠ 0 := by
            by_cases hh : s.lN = 0
            · exact Or.inl hh
            · right; intro h0; exact c2 (Or.inl (by simp [rightB, hh, h0]))
          have q2 : s.hN = 0 ∨ e (s.hN - 1) ≠ 0 := by
            by_cases hh : s.hN = 0
            · exact Or.inl hh
            · right; intro h0; exact c2 (Or.inr (by simp [rightB, hh, h0]))
          rw [sgn_nonneg_lt h.lo.dgs h.hi.dgs s.ln s.hn s.lN s.hN q1 q2 p3 r3] at c4
          by_cases hh : sgn s.hn (V e s.hN) < sgn s.ln (V d s.lN)
          · exact absurd (show 0 < cmpInt (sgn s.ln (V d s.lN)) (sgn s.hn (V e s.hN)) by unfold cmpInt; rw [if_neg (by omega), if_pos hh]; omega) c4
          · omega

theorem nums2 (w : World) (x y : Nm) (k : Nat) (zx zy : Int) (T : TypeId) (hx : IntAt w x.neg x.a x.n x.cap k zx) (hy : IntAt w y.neg y.a y.n y.cap k zy) :
    Nums (w.alloc (.cells #[.bool x.neg, .slice x.a x.n x.cap, .bool y.neg, .slice y.a y.n y.cap] T)) w.heap.size 2 k (pr x y) (pr zx zy) := by
  refine ⟨by simp, ?_, ?_, ?_⟩
  all_goals
    intro j hj
    match j, hj with
    | 0, _ => first | (simp [pr]; done) | exact hx.below (bl1 _ _)
    | 1, _ => first | (simp [pr]; done) | exact hy.below (bl1 _ _)

theorem most2 (w : World) (B : Nat) (hB : w.heap.size = B) (x y : Nm) (k : Nat) (zx zy : Int) (T : TypeId) (cap : Nat) (hx : IntAt w x.neg x.a x.n x.cap k zx) (hy : IntAt w y.neg y.a y.n y.cap k zy) (hk : k ≤ 1000000000) :
    Calls Try.prog 89 #[.slice (some ⟨B, 0, none⟩) 2 cap] (w.alloc (.cells #[.bool x.neg, .slice x.a x.n x.cap, .bool y.neg, .slice y.a y.n y.cap] T)) fun r w' =>
      ∃ neg' a' n' cap', r = .returned (.agg #[.bool neg', .slice a' n' cap']) ∧ IntAt w' neg' a' n' cap' (k + 1) (maxZ zx zy) ∧ Below w.heap.size w w' := by
  subst hB
  exact (most_int w.heap.size 1 cap k (pr x y) (pr zx zy) _ (nums2 w x y k zx zy T hx hy) hk (by omega)).mono fun _ _ ⟨n1, n2, n3, n4, q1, q2, q3⟩ => ⟨n1, n2, n3, n4, q1, q2, (bl1 _ _).trans (q3.mono (by simp))⟩
theorem least2 (w : World) (B : Nat) (hB : w.heap.size = B) (x y : Nm) (k : Nat) (zx zy : Int) (T : TypeId) (cap : Nat) (hx : IntAt w x.neg x.a x.n x.cap k zx) (hy : IntAt w y.neg y.a y.n y.cap k zy) (hk : k ≤ 1000000000) :
    Calls Try.prog 88 #[.slice (some ⟨B, 0, none⟩) 2 cap] (w.alloc (.cells #[.bool x.neg, .slice x.a x.n x.cap, .bool y.neg, .slice y.a y.n y.cap] T)) fun r w' =>
      ∃ neg' a' n' cap', r = .returned (.agg #[.bool neg', .slice a' n' cap']) ∧ IntAt w' neg' a' n' cap' (k + 1) (minZ zx zy) ∧ Below w.heap.size w w' := by
  subst hB
  exact (leastw_int w.heap.size 1 cap k (pr x y) (pr zx zy) _ (nums2 w x y k zx zy T hx hy) hk (by omega)).mono fun _ _ ⟨n1, n2, n3, n4, q1, q2, q3⟩ => ⟨n1, n2, n3, n4, q1, q2, (bl1 _ _).trans (q3.mono (by simp))⟩

set_option maxRecDepth 100000 in
set_option maxHeartbeats 2000000 in
theorem reach_int (w : World) (s : Sp) (k : Nat) (lo hi : Int) (h : SpAt w s k lo hi) (hk : k ≤ 900000000) :
    Calls Try.prog 132 #[.agg #[.bool s.ln, .slice s.la s.lN s.lc, .bool s.hn, .slice s.ha s.hN s.hc, .int .i64 s.bits]] w fun r w' =>
      ∃ neg' a' n' cap', r = .returned (.agg #[.bool neg', .slice a' n' cap']) ∧ IntAt w' neg' a' n' cap' (k + 1) (maxZ hi (-lo)) ∧ Below w.heap.size w w' := by
  go_enter Try.func132, Try.ntmps132
  go_wp2
  go_region_held3 (fun w' => w'.cell? ⟨w.heap.size, 0, none⟩ = some (.bool s.ln) ∧ w'.cell? ⟨w.heap.size, 1, none⟩ = some (.slice s.la s.lN s.lc) ∧ w'.cell? ⟨w.heap.size, 2, none⟩ = some (.bool s.hn) ∧ w'.cell? ⟨w.heap.size, 3, none⟩ = some (.slice s.ha s.hN s.hc)) (go_keep)
    (first
      | (go_at_call 80; refine (neg_int _ _ _ _ k lo _ (h.lo.below (bl2 _ _ _).drew) (by omega)).mono ?_; rintro r w1 ⟨neg1, a1, n1, c1, rfl, hint1, hb1⟩; obtain ⟨hsz1, hcell1, hfz1⟩ := near (w.heap.size + 1 + 1) (by simp) hb1; have hz0 := Nat.lt_of_lt_of_le (Nat.lt_succ_of_lt (Nat.lt_succ_self w.heap.size)) hsz1; have hz1 := Nat.lt_of_lt_of_le (Nat.lt_succ_self (w.heap.size + 1)) hsz1)
      | (go_at_call 89; refine (most2 w1 _ rfl ⟨s.hn, s.ha, s.hN, s.hc⟩ ⟨neg1, a1, n1, c1⟩ k hi (-lo) _ _ (h.hi.below (bthen (bl2 _ _ _).drew hb1)) hint1 (by omega)).mono ?_; rintro r w2 ⟨neg2, a2, n2, c2, rfl, hint2, hb2⟩; obtain ⟨hsz2, hcell2, hfz2⟩ := near (w.heap.size + 1 + 1) hsz1 hb2))
  go_wp2
  have y0 : w2.cell? ⟨w.heap.size + 1, 0, none⟩ = some (.bool false) := by simp [hcell2, hcell1, go_sem]
  have y1 : w2.cell? ⟨w.heap.size + 1, 1, none⟩ = some (.slice none 0 0) := by simp [hcell2, hcell1, go_sem]
  refine bodyPost_ret (v := .agg #[.bool neg2, .slice a2 n2 c2]) (by simp [results, Try.results132, go_sem, y0, y1]) rfl ⟨neg2, a2, n2, c2, rfl, hint2.put2 y0 y1 _ _, ?_⟩
  exact ((bthen (bthen (bl2 _ _ _).drew hb1) hb2).setCell (p := ⟨w.heap.size + 1, 0, none⟩) (Nat.le_succ _) _).setCell (p := ⟨w.heap.size + 1, 1, none⟩) (Nat.le_succ _) _
end Go.Proofs.Ytibbhnmbmgllcaa
