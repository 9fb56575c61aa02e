/-
  What tailsureref.NarrowBy answers of right spans, and that it leaves old memory alone.
-/
import Derived.Test.YtibbhnmbmgllcaaSpanG
namespace Go.Proofs.Ytibbhnmbmgllcaa
set_option linter.unusedVariables false
set_option linter.unusedSimpArgs false
set_option linter.unnecessarySimpa false
open Go.RowKit
attribute [local go_sem ↓] Go.wp_at_zero Go.wp_at_succ

/-- One of four. -/
def pr4 {α : Type} (x y z t : α) (j : Nat) : α := if j = 0 then x else if j = 1 then y else if j = 2 then z else t

theorem nums4 (w : World) (B : Nat) (hB : w.heap.size = B) (x y z t : Nm) (k : Nat) (zx zy zz zt : Int) (T : TypeId) (hx : IntAt w x.neg x.a x.n x.cap k zx) (hy : IntAt w y.neg y.a y.n y.cap k zy) (hz : IntAt w z.neg z.a z.n z.cap k zz) (ht : IntAt w t.neg t.a t.n t.cap k zt) :
    Nums (w.alloc (.cells #[.bool x.neg, .slice x.a x.n x.cap, .bool y.neg, .slice y.a y.n y.cap, .bool z.neg, .slice z.a z.n z.cap, .bool t.neg, .slice t.a t.n t.cap] T)) B 4 k (pr4 x y z t) (pr4 zx zy zz zt) := by
  subst hB
  refine ⟨by simp, ?_, ?_, ?_⟩
  all_goals
    intro j hj
    match j, hj with
    | 0, _ => first | (simp [pr4]; done) | exact hx.below (bl1 _ _)
    | 1, _ => first | (simp [pr4]; done) | exact hy.below (bl1 _ _)
    | 2, _ => first | (simp [pr4]; done) | exact hz.below (bl1 _ _)
    | 3, _ => first | (simp [pr4]; done) | exact ht.below (bl1 _ _)

theorem most4 (lo hi : Int) (h : lo ≤ hi) : mostZ (pr4 lo hi (-lo) (-hi)) 3 = maxZ hi (-lo) := by
  have e1 : mostZ (pr4 lo hi (-lo) (-hi)) 1 = hi := by
    show (if lo < hi then hi else lo) = hi
    split <;> omega
  have e2 : mostZ (pr4 lo hi (-lo) (-hi)) 2 = maxZ hi (-lo) := by
    show (if mostZ (pr4 lo hi (-lo) (-hi)) 1 < -lo then -lo else mostZ (pr4 lo hi (-lo) (-hi)) 1) = _
    rw [e1]; rfl
  show (if mostZ (pr4 lo hi (-lo) (-hi)) 2 < -hi then -hi else mostZ (pr4 lo hi (-lo) (-hi)) 2) = _
  rw [e2, if_neg]
  unfold maxZ; split <;> omega

set_option maxRecDepth 100000 in
set_option maxHeartbeats 4000000 in
theorem narrowBy_int (w : World) (s : Sp) (b n : Nat) (lo hi : Int) (h : SpAt w s 250 lo hi) (hb : s.bits = b) (hb1 : b ≤ 120) (hn : n ≤ 1000000) (hle : lo ≤ hi) :
    Calls Try.prog 46 #[.agg #[.bool s.ln, .slice s.la s.lN s.lc, .bool s.hn, .slice s.ha s.hN s.hc, .int .i64 s.bits], .int .i64 n] w fun r w' =>
      r = .returned (.bool (narB lo hi (Q b) n)) ∧ Below w.heap.size w w' := by
  rw [hb]
  have HM := hide (most4 lo hi hle)
  go_enter Try.func46, Try.ntmps46
  go_wp2
  obtain ⟨W, hW⟩ : ∃ W, W = w.alloc (.cells #[.bool s.ln, .slice s.la s.lN s.lc, .bool s.hn, .slice s.ha s.hN s.hc, .int .i64 b] 26) := ⟨_, rfl⟩
  have k0 : W.cell? ⟨w.heap.size, 0, none⟩ = some (.bool s.ln) := by rw [hW]; simp
  have k1 : W.cell? ⟨w.heap.size, 1, none⟩ = some (.slice s.la s.lN s.lc) := by rw [hW]; simp
  have k2 : W.cell? ⟨w.heap.size, 2, none⟩ = some (.bool s.hn) := by rw [hW]; simp
  have k3 : W.cell? ⟨w.heap.size, 3, none⟩ = some (.slice s.ha s.hN s.hc) := by rw [hW]; simp
  have k4 : W.cell? ⟨w.heap.size, 4, none⟩ = some (.int .i64 b) := by rw [hW]; simp
  have hlt : w.heap.size < W.heap.size := by rw [hW]; simp
  have hlt1 : w.heap.size + 1 ≤ W.heap.size := hlt
  have hBW : Below w.heap.size w W := by rw [hW]; exact bl1 _ _
  have hdr : W.drew.heap.size = W.heap.size := rfl
  have HS := hide (h.below hBW)
  have hne : W.heap.size ≠ w.heap.size := by omega
  have hne' : w.heap.size ≠ W.heap.size := by omega
  rw [← hW]
  clear hW h
  have keepS : ∀ w', Below W.heap.size W w' → (w'.cell? ⟨w.heap.size, 0, none⟩ = some (.bool s.ln) ∧ w'.cell? ⟨w.heap.size, 1, none⟩ = some (.slice s.la s.lN s.lc) ∧ w'.cell? ⟨w.heap.size, 2, none⟩ = some (.bool s.hn) ∧ w'.cell? ⟨w.heap.size, 3, none⟩ = some (.slice s.ha s.hN s.hc)) := fun w' hB =>
    ⟨(hB.cell (p := ⟨w.heap.size, 0, none⟩) hlt).trans k0, (hB.cell (p := ⟨w.heap.size, 1, none⟩) hlt).trans k1, (hB.cell (p := ⟨w.heap.size, 2, none⟩) hlt).trans k2, (hB.cell (p := ⟨w.heap.size, 3, none⟩) hlt).trans k3⟩
  have HK := hide keepS
  clear keepS
  go_cut [5] (fun p wx => VarAt wx p W.heap.size 260 (maxZ hi (-lo)) ∧ Below W.heap.size W wx)
  case first =>
    go_region_held3 (fun w' => w'.cell? ⟨w.heap.size, 0, none⟩ = some (.bool s.ln) ∧ w'.cell? ⟨w.heap.size, 1, none⟩ = some (.slice s.la s.lN s.lc) ∧ w'.cell? ⟨w.heap.size, 2, none⟩ = some (.bool s.hn) ∧ w'.cell? ⟨w.heap.size, 3, none⟩ = some (.slice s.ha s.hN s.hc)) (exact unhide HK _ (by first | exact (Below.refl _ _).drew | exact (bl1 _ _).drew | exact hB1 | exact balloc hB1 _ | exact hB2 | exact balloc hB2 _ | exact balloc (balloc hB2 _) _ | exact hB3 | exact balloc hB3 _ | exact (hB3.setCell (by first | exact Nat.le_refl _ | exact hB1.size | exact hB2.size | exact Nat.le_succ_of_le hB2.size) _).setCell (by first | exact Nat.le_refl _ | exact hB1.size | exact hB2.size | exact Nat.le_succ_of_le hB2.size) _))
      (first
        | (go_at_call_of 80 s.la; refine (neg_int _ _ _ _ 250 lo _ ((unhide HS).lo.below (by first | exact (Below.refl _ _).drew | exact (bl1 _ _).drew)) (by omega)).mono ?_; rintro r w1 ⟨neg1, a1, n1, c1, rfl, hint1, hb1⟩; obtain ⟨hs1, hcell1, hfz1⟩ := near _ (Nat.le_refl _) hb1; have hB1 : Below W.heap.size W w1 := (by first | exact bthen (Below.refl _ _).drew hb1 | exact bthen (bl1 _ _).drew hb1); have hl1 := hB1.size; have hm1 := Nat.lt_of_lt_of_le hlt hl1; have hm1s : w.heap.size + 1 ≤ w1.heap.size := hm1; have hm1l := Nat.le_of_lt hm1; have hm1ll := Nat.le_succ_of_le hm1l; have hn1 := Nat.ne_of_gt hm1; have hn1' := Nat.ne_of_lt hm1; (try simp at hs1); (try have hq1 : W.heap.size < w1.heap.size := hs1); (try have hq1s : W.heap.size + 1 ≤ w1.heap.size := hs1))
        | (go_at_call_of 80 s.ha; refine (neg_int _ _ _ _ 250 hi _ ((unhide HS).hi.below (by first | exact hB1 | exact balloc hB1 _)) (by omega)).mono ?_; rintro r w2 ⟨neg2, a2, n2, c2, rfl, hint2, hb2⟩; obtain ⟨hs2, hcell2, hfz2⟩ := near _ (Nat.le_refl _) hb2; have hB12 : Below w1.heap.size w1 w2 := (by first | exact hb2 | exact bthen (bl1 _ _) hb2); have hB2 := bthen hB1 hB12; have hl2 := hB12.size; have hw2 := hB2.size; (try have hq2 := Nat.lt_of_lt_of_le hs1 hl2); have hm2 := Nat.lt_of_lt_of_le hm1 hl2; have hm2s : w.heap.size + 1 ≤ w2.heap.size := hm2; have hm2l := Nat.le_of_lt hm2; have hm2ll := Nat.le_succ_of_le hm2l; have hn2 := Nat.ne_of_gt hm2; have hn2' := Nat.ne_of_lt hm2; (try simp at hs2); (try have hq12 : w1.heap.size < w2.heap.size := hs2); (try have hq12s : w1.heap.size + 1 ≤ w2.heap.size := hs2); (try have hq2s : W.heap.size + 1 ≤ w2.heap.size := hq2))
        | (go_at_call_of 92 (Addr.mk w2.heap.size 0 none); refine (greatest_int w2.heap.size 3 _ 250 (pr4 ⟨s.ln, s.la, s.lN, s.lc⟩ ⟨s.hn, s.ha, s.hN, s.hc⟩ ⟨neg1, a1, n1, c1⟩ ⟨neg2, a2, n2, c2⟩) (pr4 lo hi (-lo) (-hi)) _ (by first | exact nums4 w2 w2.heap.size rfl ⟨s.ln, s.la, s.lN, s.lc⟩ ⟨s.hn, s.ha, s.hN, s.hc⟩ ⟨neg1, a1, n1, c1⟩ ⟨neg2, a2, n2, c2⟩ 250 _ _ _ _ _ ((unhide HS).lo.below hB2) ((unhide HS).hi.below hB2) (hint1.below hB12) hint2 | exact (nums4 w2 w2.heap.size rfl ⟨s.ln, s.la, s.lN, s.lc⟩ ⟨s.hn, s.ha, s.hN, s.hc⟩ ⟨neg1, a1, n1, c1⟩ ⟨neg2, a2, n2, c2⟩ 250 _ _ _ _ _ ((unhide HS).lo.below hB2) ((unhide HS).hi.below hB2) (hint1.below hB12) hint2).below (bl1 _ _)) (by omega)).mono ?_; rintro r w3 ⟨neg3, a3, n3, c3, rfl, hint3, hb3⟩; obtain ⟨hs3, hcell3, hfz3⟩ := near _ (Nat.le_refl _) hb3; have hB23 : Below w2.heap.size w2 w3 := (by first | exact bthen (bl1 _ _) hb3 | exact bthen (bl2 _ _ _) hb3); have hB3 := bthen hB2 hB23; have hl3 := hB23.size; have hm3 := Nat.lt_of_lt_of_le hm2 hl3; have hm3s : w.heap.size + 1 ≤ w3.heap.size := hm3; have hm3l := Nat.le_of_lt hm3; have hm3ll := Nat.le_succ_of_le hm3l; have hn3 := Nat.ne_of_gt hm3; have hn3' := Nat.ne_of_lt hm3; (try simp at hs3))
        | (go_at_call 92; refine (greatest_int (w2.heap.size + 1) 3 _ 250 (pr4 ⟨s.ln, s.la, s.lN, s.lc⟩ ⟨s.hn, s.ha, s.hN, s.hc⟩ ⟨neg1, a1, n1, c1⟩ ⟨neg2, a2, n2, c2⟩) (pr4 lo hi (-lo) (-hi)) _ (by exact nums4 (w2.alloc (.cells #[.bool false, .slice none 0 0] 24)) (w2.heap.size + 1) (Go.Deep.nblk_alloc _ _) ⟨s.ln, s.la, s.lN, s.lc⟩ ⟨s.hn, s.ha, s.hN, s.hc⟩ ⟨neg1, a1, n1, c1⟩ ⟨neg2, a2, n2, c2⟩ 250 _ _ _ _ _ ((unhide HS).lo.below (balloc hB2 _)) ((unhide HS).hi.below (balloc hB2 _)) (hint1.below (balloc hB12 _)) (hint2.below (bl1 _ _))) (by omega)).mono ?_; rintro r w3 ⟨neg3, a3, n3, c3, rfl, hint3, hb3⟩; obtain ⟨hs3, hcell3, hfz3⟩ := near _ (Nat.le_refl _) hb3; have hB23 : Below w2.heap.size w2 w3 := (by first | exact bthen (bl1 _ _) hb3 | exact bthen (bl2 _ _ _) hb3); have hB3 := bthen hB2 hB23; have hl3 := hB23.size; have hm3 := Nat.lt_of_lt_of_le hm2 hl3; have hm3s : w.heap.size + 1 ≤ w3.heap.size := hm3; have hm3l := Nat.le_of_lt hm3; have hm3ll := Nat.le_succ_of_le hm3l; have hn3 := Nat.ne_of_gt hm3; have hn3' := Nat.ne_of_lt hm3; (try simp at hs3)))
    all_goals rw [unhide HM] at hint3
    · go_wp2_with fail
      go_meet
      exact ⟨(varA hint3 _ _ hB3.size).mono (by omega), balloc hB3 _⟩
    · go_wp2_with fail
      go_meet
      have h0 : w3.cell? ⟨w2.heap.size + 1, 0, none⟩ = some (.bool false) := by simp [hcell3, go_sem]
      have h1 : w3.cell? ⟨w2.heap.size + 1, 1, none⟩ = some (.slice none 0 0) := by simp [hcell3, go_sem]
      exact ⟨(varB hint3 _ _ h0 h1 (Nat.le_succ_of_le hw2)).mono (by omega), (hB3.setCell (p := ⟨w2.heap.size + 1, 0, none⟩) (Nat.le_succ_of_le hw2) _).setCell (p := ⟨w2.heap.size + 1, 1, none⟩) (Nat.le_succ_of_le hw2) _⟩
    · go_wp2_with fail
      go_meet
      have h0 : w3.cell? ⟨w2.heap.size, 0, none⟩ = some (.bool false) := by simp [hcell3, go_sem]
      have h1 : w3.cell? ⟨w2.heap.size, 1, none⟩ = some (.slice none 0 0) := by simp [hcell3, go_sem]
      exact ⟨(varB hint3 _ _ h0 h1 hw2).mono (by omega), (hB3.setCell (p := ⟨w2.heap.size, 0, none⟩) hw2 _).setCell (p := ⟨w2.heap.size, 1, none⟩) hw2 _⟩
    · go_wp2_with fail
      go_meet
      have h0 : w3.cell? ⟨w1.heap.size, 0, none⟩ = some (.bool false) := by simp [hcell3, hcell2, hq12, hl2, go_sem]
      have h1 : w3.cell? ⟨w1.heap.size, 1, none⟩ = some (.slice none 0 0) := by simp [hcell3, hcell2, hq12, hl2, go_sem]
      exact ⟨(varB hint3 _ _ h0 h1 hl1).mono (by omega), (hB3.setCell (p := ⟨w1.heap.size, 0, none⟩) hl1 _).setCell (p := ⟨w1.heap.size, 1, none⟩) hl1 _⟩
    · go_wp2_with fail
      go_meet
      have h0 : w3.cell? ⟨W.heap.size, 0, none⟩ = some (.bool false) := by simp [hcell3, hcell2, hcell1, hq1, hq1s, hq2, hq2s, hw2, go_sem]
      have h1 : w3.cell? ⟨W.heap.size, 1, none⟩ = some (.slice none 0 0) := by simp [hcell3, hcell2, hcell1, hq1, hq1s, hq2, hq2s, hw2, go_sem]
      exact ⟨(varB hint3 _ _ h0 h1 (Nat.le_refl _)).mono (by omega), (hB3.setCell (p := ⟨W.heap.size, 0, none⟩) (Nat.le_refl _) _).setCell (p := ⟨W.heap.size, 1, none⟩) (Nat.le_refl _) _⟩
  case rest =>
  obtain ⟨⟨B5, x5, rfl, c50, c51, hint5, hB5, hlt5⟩, hbl5⟩ := hcut
  have HI5 := hide hint5
  have HS2 := hide ((unhide HS).below hbl5)
  have hltc := Nat.lt_of_lt_of_le hlt hbl5.size
  have e4 : wc.cell? ⟨w.heap.size, 4, none⟩ = some (.int .i64 b) := (hbl5.cell (p := ⟨w.heap.size, 4, none⟩) hlt).trans k4
  obtain ⟨e0, e1, e2, e3⟩ := unhide HK wc hbl5
  have HK2 := hide (show ∀ w', Below wc.heap.size wc w' → (w'.cell? ⟨w.heap.size, 0, none⟩ = some (.bool s.ln) ∧ w'.cell? ⟨w.heap.size, 1, none⟩ = some (.slice s.la s.lN s.lc) ∧ w'.cell? ⟨w.heap.size, 2, none⟩ = some (.bool s.hn) ∧ w'.cell? ⟨w.heap.size, 3, none⟩ = some (.slice s.ha s.hN s.hc) ∧ w'.cell? ⟨w.heap.size, 4, none⟩ = some (.int .i64 b) ∧ w'.cell? ⟨B5, 0, none⟩ = some (.bool x5.neg) ∧ w'.cell? ⟨B5, 1, none⟩ = some (.slice x5.a x5.n x5.cap)) from fun w' hB =>
    ⟨(hB.cell (p := ⟨w.heap.size, 0, none⟩) hltc).trans e0, (hB.cell (p := ⟨w.heap.size, 1, none⟩) hltc).trans e1, (hB.cell (p := ⟨w.heap.size, 2, none⟩) hltc).trans e2, (hB.cell (p := ⟨w.heap.size, 3, none⟩) hltc).trans e3, (hB.cell (p := ⟨w.heap.size, 4, none⟩) hltc).trans e4, (hB.cell (p := ⟨B5, 0, none⟩) hlt5).trans c50, (hB.cell (p := ⟨B5, 1, none⟩) hlt5).trans c51⟩)
  have HE := hide (show (decide (cmpInt ((hi - lo) * Q b) (n * (Q b + maxZ hi (-lo))) ≤ 0)) = narB lo hi (Q b) n from cmp_le0 _ _)
  have hBw : Below w.heap.size w wc := hBW.trans (hbl5.mono (Nat.le_of_lt hlt))
  clear hint5 k0 k1 k2 k3 k4 hbl5 HK HS HM
  go_wp2
  go_region_held3 (fun w' => w'.cell? ⟨w.heap.size, 0, none⟩ = some (.bool s.ln) ∧ w'.cell? ⟨w.heap.size, 1, none⟩ = some (.slice s.la s.lN s.lc) ∧ w'.cell? ⟨w.heap.size, 2, none⟩ = some (.bool s.hn) ∧ w'.cell? ⟨w.heap.size, 3, none⟩ = some (.slice s.ha s.hN s.hc) ∧ w'.cell? ⟨w.heap.size, 4, none⟩ = some (.int .i64 b) ∧ w'.cell? ⟨B5, 0, none⟩ = some (.bool x5.neg) ∧ w'.cell? ⟨B5, 1, none⟩ = some (.slice x5.a x5.n x5.cap)) (exact unhide HK2 _ (by first | exact (Below.refl _ _).drew | exact hB1 | exact hB2 | exact hB3 | exact hB4 | exact hB5' | exact hB6 | exact hB7 | exact hB8))
    (first
      | (go_at_call 50; refine (sub_int _ _ _ _ _ _ _ _ 250 250 hi lo _ ((unhide HS2).hi.below (Below.refl _ _).drew) ((unhide HS2).lo.below (Below.refl _ _).drew) (by omega) (by omega)).mono ?_; rintro r w1 ⟨neg1, a1, n1, c1, rfl, hint1, hb1⟩; have hB1 : Below wc.heap.size wc w1 := bthen (Below.refl _ _).drew hb1)
      | (go_at_call_of 52 a1; refine (mul_int _ _ _ _ _ _ _ _ 251 20 _ _ _ (hint1.below hb2) hint2 (by omega) (by omega)).mono ?_; rintro r w3 ⟨neg3, a3, n3, c3, rfl, hint3, hb3⟩; have hB3 := bthen hB2 hb3)
      | (go_at_call 62; refine (numOf_int (n : Int) _ (by omega) (by omega)).mono ?_; rintro r w4 ⟨neg4, a4, n4, c4, rfl, hint4, hb4⟩; have hB4 := bthen hB3 hb4)
      | (go_at_call 51; have hB4' := hB4; refine (power2_int b _ (by omega)).mono ?_; rintro r w5 ⟨neg5, a5, n5, c5, rfl, hint5, hb5⟩; have hB5' := bthen hB4 hb5)
      | (go_at_call 51; refine (power2_int b _ (by omega)).mono ?_; rintro r w2 ⟨neg2, a2, n2, c2, rfl, hint2, hb2⟩; have hint2 := hint2.mono (show b / 16 + 5 ≤ 20 by omega); have hB2 := bthen hB1 hb2)
      | (go_at_call 49; refine (add_int _ _ _ _ _ _ _ _ (b / 16 + 5) 260 _ _ _ hint5 ((unhide HI5).below hB5') (by omega) (by omega)).mono ?_; rintro r w6 ⟨neg6, a6, n6, c6, rfl, hint6, hb6⟩; have hint6 := hint6.mono (show max (b / 16 + 5) 260 + 1 ≤ 300 by omega); have hB6 := bthen hB5' hb6)
      | (go_at_call 52; refine (mul_int _ _ _ _ _ _ _ _ 4 300 _ _ _ (hint4.below (bthen hb5 hb6)) hint6 (by omega) (by omega)).mono ?_; rintro r w7 ⟨neg7, a7, n7, c7, rfl, hint7, hb7⟩; have hB7 := bthen hB6 hb7)
      | (go_at_call 33; refine (cmp_int _ _ _ _ _ _ _ _ 271 304 _ _ _ (hint3.below (bthen (bthen (bthen hb4 hb5) hb6) hb7)) hint7).mono ?_; rintro r w8 ⟨rfl, hb8⟩; have hB8 := bthen hB7 hb8))
  go_wp2
  go_ret
  exact ⟨by rw [← unhide HE]; rfl, hBw.trans (hB8.mono (Nat.le_of_lt hltc))⟩
end Go.Proofs.Ytibbhnmbmgllcaa
