/-
  What span.To, Meet, Div answer lies in new memory.
-/
import Derived.Test.YtgmnknmjainabaaK10
namespace Go.Proofs.Ytgmnknmjainabaa
set_option linter.unusedVariables false
set_option linter.unusedSimpArgs false
set_option linter.unnecessarySimpa false
open Go.RowKit
attribute [local go_sem ↓] Go.wp_at_zero Go.wp_at_succ
set_option maxRecDepth 100000 in
set_option maxHeartbeats 2000000 in
theorem wideTo_fr (w : World) (s : Sp) (k : Nat) (bt lo hi : Int) (hs : SpAt w s k lo hi) (hk : k ≤ 300000000) (hb0 : 0 ≤ s.bits) (hbm : s.bits ≤ 1000000) (hc0 : 0 ≤ bt) (hcm : bt ≤ 1000000) :
    Calls Try.prog 74 #[.agg #[.bool s.ln, .slice s.la s.lN s.lc, .bool s.hn, .slice s.ha s.hN s.hc, .int .i64 s.bits], .int .i64 bt] w (SpanF w bt (k + 62505) (downZ lo (s.bits - bt)) (-(downZ (-hi) (s.bits - bt)))) := by
  obtain ⟨W, hW⟩ : ∃ W, W = (w.alloc (.cells #[.bool s.ln, .slice s.la s.lN s.lc, .bool s.hn, .slice s.ha s.hN s.hc, .int .i64 s.bits] 26)).alloc (.cells #[.bool false, .slice none 0 0, .bool false, .slice none 0 0, .int .i64 0] 26) := ⟨_, rfl⟩
  have hBW : Below w.heap.size w W := by rw [hW]; exact bl2 _ _ _
  have A : SpC W w.heap.size s := by rw [hW]; exact ⟨by simp [go_sem], by simp [go_sem], by simp [go_sem], by simp [go_sem], by simp [go_sem]⟩
  have R : NoC W (w.heap.size + 1) := by rw [hW]; exact ⟨by simp [go_sem], by simp [go_sem], by simp [go_sem], by simp [go_sem], by simp [go_sem], fun o => by simp [go_sem]⟩
  have HS := hide (hs.below hBW)
  have lA := A.lt
  have lR := R.lt
  have hB0 : Below W.heap.size W W.drew := (Below.refl _ _).drew
  have HK := hide (show ∀ w', Below W.heap.size W w' → (w'.cell? ⟨w.heap.size, 0, none⟩ = some (.bool s.ln) ∧ w'.cell? ⟨w.heap.size, 1, none⟩ = some (.slice s.la s.lN s.lc) ∧ w'.cell? ⟨w.heap.size, 2, none⟩ = some (.bool s.hn) ∧ w'.cell? ⟨w.heap.size, 3, none⟩ = some (.slice s.ha s.hN s.hc)) from fun w' hB => by
    obtain ⟨x0, x1, x2, x3, x4⟩ := A.below hB
    exact ⟨x0, x1, x2, x3⟩)
  go_enter Try.func74, Try.ntmps74
  go_wp2
  obtain ⟨x0, x1, x2, x3, x4⟩ := A
  rw [← hW]
  clear hW
  go_region_held3 (fun w' => w'.cell? ⟨w.heap.size, 0, none⟩ = some (.bool s.ln) ∧ w'.cell? ⟨w.heap.size, 1, none⟩ = some (.slice s.la s.lN s.lc) ∧ w'.cell? ⟨w.heap.size, 2, none⟩ = some (.bool s.hn) ∧ w'.cell? ⟨w.heap.size, 3, none⟩ = some (.slice s.ha s.hN s.hc)) (first | exact unhide HK _ (by first | with_reducible exact hB0 | with_reducible exact hB2 | with_reducible exact hB1) | go_keep)
    (first
      | (go_at_call 79; refine (down_z_fr _ _ _ _ k (s.bits - bt) lo _ ((unhide HS).lo.below hB0) (by omega) (by omega) (by omega)).mono ?_; rintro r w1 ⟨neg1, a1, n1, c1, rfl, hint1, hb1, fr1⟩; have hB1 := bthen hB0 hb1)
      | (go_at_call 125; refine (ceilDown_fr _ _ _ _ k (s.bits - bt) hi _ ((unhide HS).hi.below hB1) (by omega) (by omega) (by omega)).mono ?_; rintro r w2 ⟨neg2, a2, n2, c2, rfl, hint2, hb2, fr2⟩; replace hint1 := hint1.below hb2; have hB2 := bthen hB1 hb2; obtain ⟨q0, q1, q2, q3, q4, q5⟩ := R.below hB2; obtain ⟨i0, i1, i2, i3⟩ := unhide HK _ hB2))
  go_wp2
  refine bodyPost_ret (v := .agg #[.bool neg1, .slice a1 n1 c1, .bool neg2, .slice a2 n2 c2, .int .i64 bt]) (by simp [results, Try.results74, go_sem, q0, q1, q2, q3, q4]) rfl ⟨⟨neg1, a1, n1, c1, neg2, a2, n2, c2, bt⟩, rfl, rfl, ?_, ?_, ?_⟩
  · exact SpAt.put5 ⟨hint1.mono (by omega), hint2.mono (by omega)⟩ q0 q1 q2 q3 q4 _ _ _ _ _
  · exact set5 (bthen hBW hB2) (Nat.le_succ _) _ _ _ _ _
  · exact MineS.put5 _ _ _ _ _ _ (h := ⟨(fr1.mono (bthen hBW hB0).size).below hb2, fr2.mono (bthen hBW hB1).size⟩)

set_option maxRecDepth 100000 in
set_option maxHeartbeats 2000000 in
theorem to1_fr (w : World) (B0 B1 : Nat) (s : Sp) (bt : Int) (k : Nat) (lo hi : Int) (hs : SpAt w s k lo hi) (hk : k ≤ 300000000) (hb0 : 0 ≤ s.bits) (hbm : s.bits ≤ 1000000) (h1 : 8 ≤ bt) (h2 : bt ≤ 120) (a : SpC w B0 s) (g : w.cell? ⟨B1, 0, none⟩ = some (.int .i64 bt)) (l : B1 < w.heap.size) :
    Calls Try.prog 73 #[.pointer (some ⟨B1, 0, none⟩), .pointer (some ⟨B0, 0, none⟩)] w (PairF w bt (k + 62505) (downZ lo (s.bits - bt)) (-(downZ (-hi) (s.bits - bt))) 0) := by
  have hE : bitE bt = 0 := by unfold bitE; rw [if_pos ⟨h1, h2⟩]
  have l0 := a.lt
  go_enter Try.func73, Try.ntmps73
  go_wp2_with fail
  refine (ratioFault_none _ _).mono ?_
  rintro r w1 ⟨rfl, hb1⟩
  rw [hE]
  have hB1 : Below w.heap.size w w1 := bthen (bl1 _ _) hb1
  have hN1 := (noc_new w 26).below hb1
  obtain ⟨a0, a1, a2, a3, a4⟩ := a.below hB1
  have g1 := (hB1.cell (p := ⟨B1, 0, none⟩) l).trans g
  have l1 := Nat.lt_of_lt_of_le l hB1.size
  have l01 := Nat.lt_of_lt_of_le l0 hB1.size
  go_wp2_with fail
  refine (wideTo_fr _ s k bt lo hi (hs.below hB1) hk hb0 hbm (by omega) (by omega)).mono ?_
  rintro r w2 ⟨u, rfl, hub, hup, hb2, fr⟩
  obtain ⟨q0, q1, q2, q3, q4, q5⟩ := hN1.below hb2
  have HB := hide hub
  clear hub
  go_wp2_with fail
  refine bodyPost_ret (v := .tuple #[.agg #[.bool u.ln, .slice u.la u.lN u.lc, .bool u.hn, .slice u.ha u.hN u.hc, .int .i64 u.bits], .int .i64 0]) (by simp [results, Try.results73, go_sem, q0, q1, q2, q3, q4]) rfl ⟨u, rfl, unhide HB, ?_, ?_, ?_⟩
  · exact SpAt.put5 hup q0 q1 q2 q3 q4 _ _ _ _ _
  · exact set5 (bthen hB1 hb2) (Nat.le_refl _) _ _ _ _ _
  · exact (fr.mono hB1.size).put5 _ _ _ _ _ _

set_option maxRecDepth 100000 in
set_option maxHeartbeats 4000000 in
theorem meet1_fr (w : World) (B0 B1 : Nat) (s t : Sp) (k : Nat) (lo hi lo' hi' : Int) (hs : SpAt w s k lo hi) (ht : SpAt w t k lo' hi') (hk : k ≤ 300000000) (a : SpC w B0 s) (g : SpC w B1 t) :
    Calls Try.prog 97 #[.pointer (some ⟨B0, 0, none⟩), .pointer (some ⟨B1, 0, none⟩)] w fun r w' => (minZ hi hi' < maxZ lo lo' → PairAns w 0 (k + 1) 0 0 5 r w') ∧ (maxZ lo lo' ≤ minZ hi hi' → PairF w s.bits (k + 1) (maxZ lo lo') (minZ hi hi') 0 r w') := by
  have l0 := a.lt
  have l1 := g.lt
  obtain ⟨W, hW⟩ : ∃ W, W = w.alloc (.cells #[.bool false, .slice none 0 0, .bool false, .slice none 0 0, .int .i64 0] 26) := ⟨_, rfl⟩
  have hBW : Below w.heap.size w W := by rw [hW]; exact bl1 _ _
  have r0 : NoC W w.heap.size := by rw [hW]; exact noc_new _ _
  have a0 := a.below hBW
  have g0 := g.below hBW
  have HS := hide (hs.below hBW)
  have HT := hide (ht.below hBW)
  have HK := hide (show ∀ w', Below W.heap.size W w' → (w'.cell? ⟨B0, 0, none⟩ = some (.bool s.ln) ∧ w'.cell? ⟨B0, 1, none⟩ = some (.slice s.la s.lN s.lc) ∧ w'.cell? ⟨B0, 2, none⟩ = some (.bool s.hn) ∧ w'.cell? ⟨B0, 3, none⟩ = some (.slice s.ha s.hN s.hc) ∧ w'.cell? ⟨B0, 4, none⟩ = some (.int .i64 s.bits) ∧ w'.cell? ⟨B1, 0, none⟩ = some (.bool t.ln) ∧ w'.cell? ⟨B1, 1, none⟩ = some (.slice t.la t.lN t.lc) ∧ w'.cell? ⟨B1, 2, none⟩ = some (.bool t.hn) ∧ w'.cell? ⟨B1, 3, none⟩ = some (.slice t.ha t.hN t.hc)) from fun w' hB => by
    obtain ⟨x0, x1, x2, x3, x4⟩ := a0.below hB
    obtain ⟨y0, y1, y2, y3, y4⟩ := g0.below hB
    exact ⟨x0, x1, x2, x3, x4, y0, y1, y2, y3⟩)
  clear hs ht a g
  have lr := r0.lt
  go_enter Try.func97, Try.ntmps97
  go_wp2
  obtain ⟨x0, x1, x2, x3, x4, y0, y1, y2, y3⟩ := unhide HK _ (Below.refl _ _)
  rw [← hW]
  clear hW
  go_cut [4] (fun p wx => ∃ (B4 : Nat) (v : Sp), p = .pointer (some ⟨B4, 0, none⟩) ∧ SpC wx B4 v ∧ SpAt wx v (k + 1) (maxZ lo lo') (minZ hi hi') ∧ v.bits = s.bits ∧ W.heap.size ≤ B4 ∧ Below W.heap.size W wx ∧ MineS w.heap.size wx v)
  case first =>
    go_region_held3 (fun w' => w'.cell? ⟨B0, 0, none⟩ = some (.bool s.ln) ∧ w'.cell? ⟨B0, 1, none⟩ = some (.slice s.la s.lN s.lc) ∧ w'.cell? ⟨B0, 2, none⟩ = some (.bool s.hn) ∧ w'.cell? ⟨B0, 3, none⟩ = some (.slice s.ha s.hN s.hc) ∧ w'.cell? ⟨B0, 4, none⟩ = some (.int .i64 s.bits) ∧ w'.cell? ⟨B1, 0, none⟩ = some (.bool t.ln) ∧ w'.cell? ⟨B1, 1, none⟩ = some (.slice t.la t.lN t.lc) ∧ w'.cell? ⟨B1, 2, none⟩ = some (.bool t.hn) ∧ w'.cell? ⟨B1, 3, none⟩ = some (.slice t.ha t.hN t.hc)) (exact unhide HK _ (by repeat' (first | with_reducible exact hB2 | with_reducible exact hB1 | with_reducible exact Below.refl _ _ | with_reducible refine Below.drew ?_ | with_reducible refine balloc ?_ _ | with_reducible refine Below.setCell ?_ (by first | with_reducible exact Nat.le_refl _ | with_reducible exact hl1 | with_reducible exact hl2 | with_reducible exact Nat.le_succ _ | with_reducible exact Nat.le_succ_of_le (Nat.le_succ _) | with_reducible exact Nat.le_succ_of_le hl1) _)))
      (first
        | (go_at_call 88; have hq := hB1; refine (leastw_fr _ 1 _ k (pr ⟨s.hn, s.ha, s.hN, s.hc⟩ ⟨t.hn, t.ha, t.hN, t.hc⟩) (pr hi hi') _ (by first | with_reducible exact ((nums2f W W.heap.size rfl s.hn t.hn s.ha t.ha s.hN t.hN s.hc t.hc k hi hi' 24 (unhide HS).hi (unhide HT).hi).below (bthen (Below.refl _ _).drew hb1)).below (Below.refl _ _) | with_reducible exact ((nums2f W W.heap.size rfl s.hn t.hn s.ha t.ha s.hN t.hN s.hc t.hc k hi hi' 24 (unhide HS).hi (unhide HT).hi).below (bthen (Below.refl _ _).drew hb1)).below (bl1 _ _) | with_reducible exact ((nums2f W W.heap.size rfl s.hn t.hn s.ha t.ha s.hN t.hN s.hc t.hc k hi hi' 24 (unhide HS).hi (unhide HT).hi).below (bthen (bl1 _ _).drew hb1)).below (Below.refl _ _) | with_reducible exact ((nums2f W W.heap.size rfl s.hn t.hn s.ha t.ha s.hN t.hN s.hc t.hc k hi hi' 24 (unhide HS).hi (unhide HT).hi).below (bthen (bl1 _ _).drew hb1)).below (bl1 _ _) | with_reducible exact ((nums2f W W.heap.size rfl s.hn t.hn s.ha t.ha s.hN t.hN s.hc t.hc k hi hi' 24 (unhide HS).hi (unhide HT).hi).below (bthen (bl2 _ _ _).drew hb1)).below (Below.refl _ _) | with_reducible exact ((nums2f W W.heap.size rfl s.hn t.hn s.ha t.ha s.hN t.hN s.hc t.hc k hi hi' 24 (unhide HS).hi (unhide HT).hi).below (bthen (bl2 _ _ _).drew hb1)).below (bl1 _ _) | with_reducible exact ((nums2f (W.alloc _) (W.heap.size + 1) (h1p _ _) s.hn t.hn s.ha t.ha s.hN t.hN s.hc t.hc k hi hi' 24 ((unhide HS).hi.below (bl1 _ _)) ((unhide HT).hi.below (bl1 _ _))).below (bthen (Below.refl _ _).drew hb1)).below (Below.refl _ _) | with_reducible exact ((nums2f (W.alloc _) (W.heap.size + 1) (h1p _ _) s.hn t.hn s.ha t.ha s.hN t.hN s.hc t.hc k hi hi' 24 ((unhide HS).hi.below (bl1 _ _)) ((unhide HT).hi.below (bl1 _ _))).below (bthen (Below.refl _ _).drew hb1)).below (bl1 _ _) | with_reducible exact ((nums2f (W.alloc _) (W.heap.size + 1) (h1p _ _) s.hn t.hn s.ha t.ha s.hN t.hN s.hc t.hc k hi hi' 24 ((unhide HS).hi.below (bl1 _ _)) ((unhide HT).hi.below (bl1 _ _))).below (bthen (bl1 _ _).drew hb1)).below (Below.refl _ _) | with_reducible exact ((nums2f (W.alloc _) (W.heap.size + 1) (h1p _ _) s.hn t.hn s.ha t.ha s.hN t.hN s.hc t.hc k hi hi' 24 ((unhide HS).hi.below (bl1 _ _)) ((unhide HT).hi.below (bl1 _ _))).below (bthen (bl1 _ _).drew hb1)).below (bl1 _ _) | with_reducible exact ((nums2f (W.alloc _) (W.heap.size + 1) (h1p _ _) s.hn t.hn s.ha t.ha s.hN t.hN s.hc t.hc k hi hi' 24 ((unhide HS).hi.below (bl1 _ _)) ((unhide HT).hi.below (bl1 _ _))).below (bthen (bl2 _ _ _).drew hb1)).below (Below.refl _ _) | with_reducible exact ((nums2f (W.alloc _) (W.heap.size + 1) (h1p _ _) s.hn t.hn s.ha t.ha s.hN t.hN s.hc t.hc k hi hi' 24 ((unhide HS).hi.below (bl1 _ _)) ((unhide HT).hi.below (bl1 _ _))).below (bthen (bl2 _ _ _).drew hb1)).below (bl1 _ _) | with_reducible exact ((nums2f ((W.alloc _).alloc _) (W.heap.size + 1 + 1) (h2p _ _ _) s.hn t.hn s.ha t.ha s.hN t.hN s.hc t.hc k hi hi' 24 ((unhide HS).hi.below (bl2 _ _ _)) ((unhide HT).hi.below (bl2 _ _ _))).below (bthen (Below.refl _ _).drew hb1)).below (Below.refl _ _) | with_reducible exact ((nums2f ((W.alloc _).alloc _) (W.heap.size + 1 + 1) (h2p _ _ _) s.hn t.hn s.ha t.ha s.hN t.hN s.hc t.hc k hi hi' 24 ((unhide HS).hi.below (bl2 _ _ _)) ((unhide HT).hi.below (bl2 _ _ _))).below (bthen (Below.refl _ _).drew hb1)).below (bl1 _ _) | with_reducible exact ((nums2f ((W.alloc _).alloc _) (W.heap.size + 1 + 1) (h2p _ _ _) s.hn t.hn s.ha t.ha s.hN t.hN s.hc t.hc k hi hi' 24 ((unhide HS).hi.below (bl2 _ _ _)) ((unhide HT).hi.below (bl2 _ _ _))).below (bthen (bl1 _ _).drew hb1)).below (Below.refl _ _) | with_reducible exact ((nums2f ((W.alloc _).alloc _) (W.heap.size + 1 + 1) (h2p _ _ _) s.hn t.hn s.ha t.ha s.hN t.hN s.hc t.hc k hi hi' 24 ((unhide HS).hi.below (bl2 _ _ _)) ((unhide HT).hi.below (bl2 _ _ _))).below (bthen (bl1 _ _).drew hb1)).below (bl1 _ _) | with_reducible exact ((nums2f ((W.alloc _).alloc _) (W.heap.size + 1 + 1) (h2p _ _ _) s.hn t.hn s.ha t.ha s.hN t.hN s.hc t.hc k hi hi' 24 ((unhide HS).hi.below (bl2 _ _ _)) ((unhide HT).hi.below (bl2 _ _ _))).below (bthen (bl2 _ _ _).drew hb1)).below (Below.refl _ _) | with_reducible exact ((nums2f ((W.alloc _).alloc _) (W.heap.size + 1 + 1) (h2p _ _ _) s.hn t.hn s.ha t.ha s.hN t.hN s.hc t.hc k hi hi' 24 ((unhide HS).hi.below (bl2 _ _ _)) ((unhide HT).hi.below (bl2 _ _ _))).below (bthen (bl2 _ _ _).drew hb1)).below (bl1 _ _) | with_reducible exact (nums2f w1 w1.heap.size rfl s.hn t.hn s.ha t.ha s.hN t.hN s.hc t.hc k hi hi' 24 ((unhide HS).hi.below (hB1)) ((unhide HT).hi.below (hB1))).below (Below.refl _ _) | with_reducible exact (nums2f w1 w1.heap.size rfl s.hn t.hn s.ha t.ha s.hN t.hN s.hc t.hc k hi hi' 24 ((unhide HS).hi.below (hB1)) ((unhide HT).hi.below (hB1))).below (bl1 _ _) | with_reducible exact (nums2f (w1.alloc _) (w1.heap.size + 1) (h1p _ _) s.hn t.hn s.ha t.ha s.hN t.hN s.hc t.hc k hi hi' 24 ((unhide HS).hi.below (balloc hB1 _)) ((unhide HT).hi.below (balloc hB1 _))).below (Below.refl _ _) | with_reducible exact (nums2f (w1.alloc _) (w1.heap.size + 1) (h1p _ _) s.hn t.hn s.ha t.ha s.hN t.hN s.hc t.hc k hi hi' 24 ((unhide HS).hi.below (balloc hB1 _)) ((unhide HT).hi.below (balloc hB1 _))).below (bl1 _ _)) (by omega) (by omega)).mono ?_; rintro r w2 ⟨neg2, a2, n2, c2, rfl, hint2, hb2, fr2⟩; have fr2 := fr2.mono (m' := w.heap.size) (Nat.le_trans (bthen hBW hB1).size (by first | with_reducible exact Nat.le_refl _ | with_reducible exact (bl1 _ _).size | with_reducible exact (bl2 _ _ _).size)); have hB12 : Below w1.heap.size w1 w2 := (by first | with_reducible exact bthen (Below.refl _ _) hb2 | with_reducible exact bthen (bl1 _ _) hb2 | with_reducible exact bthen (bl2 _ _ _) hb2); replace hint1 := hint1.below hB12; have fr1 := fr1.below hB12; have hB2 := bthen hB1 hB12; have hl2 := hB2.size; (try replace g4 := g4.below hB12); (first | with_reducible have g4 := (noc_newB w1 w1.heap.size rfl 26).below (bthen (Below.refl _ _) hb2) | with_reducible have g4 := (noc_newB w1 w1.heap.size rfl 26).below (bthen (bl1 _ _) hb2) | with_reducible have g4 := (noc_newB (w1.alloc _) (w1.heap.size + 1) (h1p _ _) 26).below (bthen (Below.refl _ _) hb2) | with_reducible have g4 := (noc_newB (w1.alloc _) (w1.heap.size + 1) (h1p _ _) 26).below (bthen (bl1 _ _) hb2) | skip); (try have e4 := g4.lt); (try have e4' := Nat.ne_of_lt e4); (try have e4'' := Nat.ne_of_gt e4); (try obtain ⟨z0, z1, z2, z3, z4, z5⟩ := g4); obtain ⟨f0, f1, f2, f3, f4, f5, f6, f7, f8⟩ := unhide HK _ hB2)
        | (go_at_call 89; refine (most_fr _ 1 _ k (pr ⟨s.ln, s.la, s.lN, s.lc⟩ ⟨t.ln, t.la, t.lN, t.lc⟩) (pr lo lo') _ (by first | with_reducible exact (nums2f W W.heap.size rfl s.ln t.ln s.la t.la s.lN t.lN s.lc t.lc k lo lo' 24 (unhide HS).lo (unhide HT).lo).below (Below.refl _ _).drew | with_reducible exact (nums2f W W.heap.size rfl s.ln t.ln s.la t.la s.lN t.lN s.lc t.lc k lo lo' 24 (unhide HS).lo (unhide HT).lo).below (bl1 _ _).drew | with_reducible exact (nums2f W W.heap.size rfl s.ln t.ln s.la t.la s.lN t.lN s.lc t.lc k lo lo' 24 (unhide HS).lo (unhide HT).lo).below (bl2 _ _ _).drew | with_reducible exact (nums2f (W.alloc _) (W.heap.size + 1) (h1p _ _) s.ln t.ln s.la t.la s.lN t.lN s.lc t.lc k lo lo' 24 ((unhide HS).lo.below (bl1 _ _)) ((unhide HT).lo.below (bl1 _ _))).below (Below.refl _ _).drew | with_reducible exact (nums2f (W.alloc _) (W.heap.size + 1) (h1p _ _) s.ln t.ln s.la t.la s.lN t.lN s.lc t.lc k lo lo' 24 ((unhide HS).lo.below (bl1 _ _)) ((unhide HT).lo.below (bl1 _ _))).below (bl1 _ _).drew | with_reducible exact (nums2f (W.alloc _) (W.heap.size + 1) (h1p _ _) s.ln t.ln s.la t.la s.lN t.lN s.lc t.lc k lo lo' 24 ((unhide HS).lo.below (bl1 _ _)) ((unhide HT).lo.below (bl1 _ _))).below (bl2 _ _ _).drew | with_reducible exact (nums2f ((W.alloc _).alloc _) (W.heap.size + 1 + 1) (h2p _ _ _) s.ln t.ln s.la t.la s.lN t.lN s.lc t.lc k lo lo' 24 ((unhide HS).lo.below (bl2 _ _ _)) ((unhide HT).lo.below (bl2 _ _ _))).below (Below.refl _ _).drew | with_reducible exact (nums2f ((W.alloc _).alloc _) (W.heap.size + 1 + 1) (h2p _ _ _) s.ln t.ln s.la t.la s.lN t.lN s.lc t.lc k lo lo' 24 ((unhide HS).lo.below (bl2 _ _ _)) ((unhide HT).lo.below (bl2 _ _ _))).below (bl1 _ _).drew | with_reducible exact (nums2f ((W.alloc _).alloc _) (W.heap.size + 1 + 1) (h2p _ _ _) s.ln t.ln s.la t.la s.lN t.lN s.lc t.lc k lo lo' 24 ((unhide HS).lo.below (bl2 _ _ _)) ((unhide HT).lo.below (bl2 _ _ _))).below (bl2 _ _ _).drew) (by omega) (by omega)).mono ?_; rintro r w1 ⟨neg1, a1, n1, c1, rfl, hint1, hb1, fr1⟩; have fr1 := fr1.mono (m' := w.heap.size) (Nat.le_trans hBW.size (by first | with_reducible exact Nat.le_refl _ | with_reducible exact (Below.refl _ _).drew.size | with_reducible exact (bl1 _ _).drew.size | with_reducible exact (bl2 _ _ _).drew.size | with_reducible exact (bl3 _ _ _ _).drew.size)); have hB1 : Below W.heap.size W w1 := (by first | with_reducible exact bthen (Below.refl _ _).drew hb1 | with_reducible exact bthen (bl1 _ _).drew hb1 | with_reducible exact bthen (bl2 _ _ _).drew hb1 | with_reducible exact bthen (bl3 _ _ _ _).drew hb1); have hl1 := hB1.size; (first | with_reducible have g4 := ((noc_newB W W.heap.size rfl 26).below (Below.refl _ _).drew).below hb1 | with_reducible have g4 := ((noc_newB W W.heap.size rfl 26).below (bl1 _ _).drew).below hb1 | with_reducible have g4 := ((noc_newB W W.heap.size rfl 26).below (bl2 _ _ _).drew).below hb1 | with_reducible have g4 := ((noc_newB (W.alloc _) (W.heap.size + 1) (h1p _ _) 26).below (Below.refl _ _).drew).below hb1 | with_reducible have g4 := ((noc_newB (W.alloc _) (W.heap.size + 1) (h1p _ _) 26).below (bl1 _ _).drew).below hb1 | with_reducible have g4 := ((noc_newB (W.alloc _) (W.heap.size + 1) (h1p _ _) 26).below (bl2 _ _ _).drew).below hb1 | with_reducible have g4 := ((noc_newB ((W.alloc _).alloc _) (W.heap.size + 1 + 1) (h2p _ _ _) 26).below (Below.refl _ _).drew).below hb1 | with_reducible have g4 := ((noc_newB ((W.alloc _).alloc _) (W.heap.size + 1 + 1) (h2p _ _ _) 26).below (bl1 _ _).drew).below hb1 | with_reducible have g4 := ((noc_newB ((W.alloc _).alloc _) (W.heap.size + 1 + 1) (h2p _ _ _) 26).below (bl2 _ _ _).drew).below hb1 | skip)))
    all_goals
      go_wp2_with fail
      go_meet
      have i1 : IntAt w2 neg1 a1 n1 c1 (k + 1) (maxZ lo lo') := (by rw [mx1] at hint1; exact hint1)
      have i2 : IntAt w2 neg2 a2 n2 c2 (k + 1) (minZ hi hi') := (by rw [mn1] at hint2; exact hint2)
      refine ⟨_, ⟨neg1, a1, n1, c1, neg2, a2, n2, c2, s.bits⟩, rfl, ?_, ?_, rfl, ?_, ?_, ?_⟩
      · first | with_reducible exact spc_put5 (NoC.mk z0 z1 z2 z3 z4 z5) ⟨neg1, a1, n1, c1, neg2, a2, n2, c2, s.bits⟩ | with_reducible exact spc_new w2 ⟨neg1, a1, n1, c1, neg2, a2, n2, c2, s.bits⟩ _
      · first | with_reducible exact SpAt.put5 ⟨i1, i2⟩ z0 z1 z2 z3 z4 _ _ _ _ _ | with_reducible exact ⟨i1.below (bl1 _ _), i2.below (bl1 _ _)⟩
      · first | with_reducible exact hl2 | with_reducible exact hl1 | with_reducible exact Nat.le_refl _ | with_reducible exact Nat.le_succ _ | with_reducible exact Nat.le_succ_of_le (Nat.le_succ _) | with_reducible exact Nat.le_succ_of_le hl1
      · repeat' (first | with_reducible exact hB2 | with_reducible exact hB1 | with_reducible exact Below.refl _ _ | with_reducible refine Below.drew ?_ | with_reducible refine balloc ?_ _ | with_reducible refine Below.setCell ?_ (by first | with_reducible exact Nat.le_refl _ | with_reducible exact hl1 | with_reducible exact hl2 | with_reducible exact Nat.le_succ _ | with_reducible exact Nat.le_succ_of_le (Nat.le_succ _) | with_reducible exact Nat.le_succ_of_le hl1) _)
      · first | with_reducible exact MineS.put5 (h := ⟨fr1, fr2⟩) _ _ _ _ _ _ | with_reducible exact ⟨fr1.below (bl1 _ _), fr2.below (bl1 _ _)⟩
  case rest =>
  obtain ⟨B4, v, rfl, V, hv, hvb, hB4, hbl, frv⟩ := hcut
  have hVB := hide hvb
  have R := r0.below hbl
  have hB := bthen hBW hbl
  clear hvb x0 x1 x2 x3 x4 y0 y1 y2 y3 HK a0 g0 HS HT hbl
  obtain ⟨v0, v1, v2, v3, v4⟩ := V
  have V : SpC wc B4 v := ⟨v0, v1, v2, v3, v4⟩
  have lV := V.lt
  have nB : B4 ≠ w.heap.size := Nat.ne_of_gt (Nat.lt_of_lt_of_le lr hB4)
  have nB' : w.heap.size ≠ B4 := fun e => nB e.symm
  go_wp2_with fail
  refine (cmp_int _ _ _ _ _ _ _ _ (k + 1) (k + 1) _ _ _ hv.lo hv.hi).mono ?_
  rintro r w3 ⟨rfl, hb3⟩
  replace V := V.below hb3
  replace R := R.below hb3
  replace hB := bthen hB hb3
  replace hv := hv.below hb3
  replace frv := frv.below hb3
  have lV := V.lt
  have lR := R.lt
  clear v0 v1 v2 v3 v4 hb3
  obtain ⟨v0, v1, v2, v3, v4⟩ := V
  obtain ⟨q0, q1, q2, q3, q4, q5⟩ := R
  by_cases hc : minZ hi hi' < maxZ lo lo'
  · have t1 : 0 < cmpInt (maxZ lo lo') (minZ hi hi') := by unfold cmpInt; rw [if_neg (by omega), if_pos hc]; omega
    have HC := hide hc
    clear hc
    go_wp2_with fail
    refine bodyPost_ret (v := .tuple #[.agg #[.bool false, .slice none 0 0, .bool false, .slice none 0 0, .int .i64 0], .int .i64 5]) (by simp [results, Try.results97, go_sem, lR, q0, q1, q2, q3, q4]) rfl ⟨fun _ => ⟨⟨false, none, 0, 0, false, none, 0, 0, 0⟩, rfl, rfl, zeroSp _ _, ?_⟩, fun h9 => by have := unhide HC; omega⟩
    exact set5 hB (Nat.le_refl _) _ _ _ _ _
  · have t1 : ¬ 0 < cmpInt (maxZ lo lo') (minZ hi hi') := by unfold cmpInt; split <;> (try rw [if_neg (by omega)]) <;> omega
    have HC := hide hc
    clear hc
    go_wp2_with fail
    refine bodyPost_ret (v := .tuple #[.agg #[.bool v.ln, .slice v.la v.lN v.lc, .bool v.hn, .slice v.ha v.hN v.hc, .int .i64 v.bits], .int .i64 0]) (by simp [results, Try.results97, go_sem, lR, q0, q1, q2, q3, q4]) rfl ⟨fun h9 => by have := unhide HC; omega, fun _ => ⟨v, rfl, unhide hVB, ?_, ?_, ?_⟩⟩
    · exact SpAt.put5 hv q0 q1 q2 q3 q4 _ _ _ _ _
    · exact set5 hB (Nat.le_refl _) _ _ _ _ _
    · exact frv.put5 _ _ _ _ _ _

set_option maxRecDepth 100000 in
set_option maxHeartbeats 2000000 in
theorem wideDivPos_fr (w : World) (s t : Sp) (k b : Nat) (lo hi lo' hi' : Int) (hs : SpAt w s k lo hi) (ht : SpAt w t k lo' hi') (hk : k ≤ 300000000) (hb : b ≤ 1000000) (hbits : s.bits = b) (hp : 0 < lo') (hp2 : 0 < hi') :
    Calls Try.prog 94 #[.agg #[.bool s.ln, .slice s.la s.lN s.lc, .bool s.hn, .slice s.ha s.hN s.hc, .int .i64 s.bits], .agg #[.bool t.ln, .slice t.la t.lN t.lc, .bool t.hn, .slice t.ha t.hN t.hc, .int .i64 t.bits]] w (SpanF w b (b / 16 + k + 10) (leastZ (pr4 (lo * Q b / lo') (lo * Q b / hi') (hi * Q b / lo') (hi * Q b / hi')) 3) (mostZ (pr4 (-(-(lo * Q b) / lo')) (-(-(lo * Q b) / hi')) (-(-(hi * Q b) / lo')) (-(-(hi * Q b) / hi'))) 3)) := by
  have HBT := hide hbits
  have t1 : ¬ cmpInt hi' 0 < 0 := by unfold cmpInt; rw [if_neg (by omega)]; split <;> omega
  clear hbits
  obtain ⟨W, hW⟩ : ∃ W, W = ((w.alloc (.cells #[.bool s.ln, .slice s.la s.lN s.lc, .bool s.hn, .slice s.ha s.hN s.hc, .int .i64 s.bits] 26)).alloc (.cells #[.bool t.ln, .slice t.la t.lN t.lc, .bool t.hn, .slice t.ha t.hN t.hc, .int .i64 t.bits] 26)).alloc (.cells #[.bool false, .slice none 0 0, .bool false, .slice none 0 0, .int .i64 0] 26) := ⟨_, rfl⟩
  have hBW : Below w.heap.size w W := by rw [hW]; exact bl3 _ _ _ _
  have A : SpC W w.heap.size s := by rw [hW]; exact ⟨by simp [go_sem], by simp [go_sem], by simp [go_sem], by simp [go_sem], by simp [go_sem]⟩
  have G : SpC W (w.heap.size + 1) t := by rw [hW]; exact ⟨by simp [go_sem], by simp [go_sem], by simp [go_sem], by simp [go_sem], by simp [go_sem]⟩
  have R : NoC W (w.heap.size + 1 + 1) := by rw [hW]; exact ⟨by simp [go_sem], by simp [go_sem], by simp [go_sem], by simp [go_sem], by simp [go_sem], fun o => by simp [go_sem]⟩
  replace hs := hs.below hBW
  replace ht := ht.below hBW
  go_enter Try.func94, Try.ntmps94
  go_wp2_with fail
  rw [← hW]
  clear hW
  refine (sign_int _ _ _ _ k hi' _ ht.hi).mono ?_
  rintro r w0 ⟨rfl, hb0⟩
  replace hBW := bthen hBW hb0
  replace A := A.below hb0
  replace G := G.below hb0
  replace R := R.below hb0
  replace hs := hs.below hb0
  replace ht := ht.below hb0
  clear hb0
  have lA := A.lt
  have lG := G.lt
  obtain ⟨x0, x1, x2, x3, x4⟩ := A
  obtain ⟨y0, y1, y2, y3, y4⟩ := G
  have A : SpC w0 w.heap.size s := ⟨x0, x1, x2, x3, x4⟩
  have G : SpC w0 (w.heap.size + 1) t := ⟨y0, y1, y2, y3, y4⟩
  go_wp2_with fail
  clear lA lG x0 x1 x2 x3 x4 y0 y1 y2 y3 y4
  refine (corners_div1 _ s t k b w.heap.size lo hi lo' hi' hs ht hk hb hp hp2 (by rw [← unhide HBT]; exact A.c4)).mono ?_
  rintro r w1 ⟨B1, f1, rfl, hN1, hb1⟩
  replace hBW := bthen hBW hb1
  replace A := A.below hb1
  replace G := G.below hb1
  replace R := R.below hb1
  replace hs := hs.below hb1
  replace ht := ht.below hb1
  clear hb1
  go_wp2_with fail
  refine (leastw_fr _ 3 _ (b / 16 + k + 9) f1 _ _ hN1 (by omega) (by omega)).mono ?_
  rintro r w2 ⟨neg2, a2, n2, c2, rfl, hint2, hb2, fr2⟩
  replace fr2 := fr2.mono (m' := w.heap.size) hBW.size
  replace hBW := bthen hBW hb2
  replace A := A.below hb2
  replace G := G.below hb2
  replace R := R.below hb2
  replace hs := hs.below hb2
  replace ht := ht.below hb2
  clear hb2 hN1
  obtain ⟨W2, hW2⟩ : ∃ W', W' = w2.alloc (.cells #[.bool neg2, .slice a2 n2 c2] 24) := ⟨_, rfl⟩
  have hc2 : Below w2.heap.size w2 W2 := by rw [hW2]; exact bl1 _ _
  have X2 : NmC W2 w2.heap.size ⟨neg2, a2, n2, c2⟩ := by rw [hW2]; exact nmc_new w2 ⟨neg2, a2, n2, c2⟩ _
  have lA := A.lt
  have lG := G.lt
  obtain ⟨x0, x1, x2, x3, x4⟩ := A
  obtain ⟨y0, y1, y2, y3, y4⟩ := G
  have A : SpC w2 w.heap.size s := ⟨x0, x1, x2, x3, x4⟩
  have G : SpC w2 (w.heap.size + 1) t := ⟨y0, y1, y2, y3, y4⟩
  go_wp2_with fail
  rw [← hW2]
  clear hW2
  clear lA lG x0 x1 x2 x3 x4 y0 y1 y2 y3 y4
  have nR2 : w2.heap.size ≠ w.heap.size + 1 + 1 := Nat.ne_of_gt R.lt
  replace hBW := bthen hBW hc2
  replace A := A.below hc2
  replace G := G.below hc2
  replace R := R.below hc2
  replace hs := hs.below hc2
  replace ht := ht.below hc2
  replace hint2 := hint2.below hc2
  replace fr2 := fr2.below hc2
  clear hc2
  refine (corners_div2 _ s t k b w.heap.size lo hi lo' hi' hs ht hk hb hp hp2 (by rw [← unhide HBT]; exact A.c4)).mono ?_
  rintro r w3 ⟨B3, f3, rfl, hN3, hb3⟩
  replace hBW := bthen hBW hb3
  replace A := A.below hb3
  replace R := R.below hb3
  replace hint2 := hint2.below hb3
  replace fr2 := fr2.below hb3
  replace X2 := X2.below hb3
  clear hb3
  go_wp2_with fail
  refine (most_fr _ 3 _ (b / 16 + k + 9) f3 _ _ hN3 (by omega) (by omega)).mono ?_
  rintro r w4 ⟨neg4, a4, n4, c4, rfl, hint4, hb4, fr4⟩
  replace fr4 := fr4.mono (m' := w.heap.size) hBW.size
  replace hBW := bthen hBW hb4
  replace A := A.below hb4
  replace R := R.below hb4
  replace hint2 := hint2.below hb4
  replace fr2 := fr2.below hb4
  replace X2 := X2.below hb4
  clear hb4 hN3
  have lA := A.lt
  have lX := X2.lt
  have lR := R.lt
  have nR2' : w.heap.size + 1 + 1 ≠ w2.heap.size := fun e9 => nR2 e9.symm
  have nR4 : w4.heap.size ≠ w.heap.size + 1 + 1 := Nat.ne_of_gt lR
  have nR4' : w.heap.size + 1 + 1 ≠ w4.heap.size := Nat.ne_of_lt lR
  have nX4 : w2.heap.size ≠ w4.heap.size := Nat.ne_of_lt lX
  obtain ⟨x0, x1, x2, x3, x4⟩ := A
  obtain ⟨z0, z1⟩ := X2
  obtain ⟨q0, q1, q2, q3, q4, q5⟩ := R
  go_wp2_with fail
  refine bodyPost_ret (v := .agg #[.bool neg2, .slice a2 n2 c2, .bool neg4, .slice a4 n4 c4, .int .i64 s.bits]) (by simp [results, Try.results94, go_sem, lR, q0, q1, q2, q3, q4]) rfl ⟨⟨neg2, a2, n2, c2, neg4, a4, n4, c4, s.bits⟩, rfl, unhide HBT, ?_, ?_, ?_⟩
  · first | with_reducible exact SpAt.put5 ⟨(hint2.below (bl1 _ _)).mono (by omega), (hint4.below (bl1 _ _)).mono (by omega)⟩ (by simp [go_sem, lR, q0]) (by simp [go_sem, lR, q1]) (by simp [go_sem, lR, q2]) (by simp [go_sem, lR, q3]) (by simp [go_sem, lR, q4]) _ _ _ _ _ | with_reducible exact SpAt.below (SpAt.put5 ⟨hint2.mono (by omega), hint4.mono (by omega)⟩ q0 q1 q2 q3 q4 _ _ _ _ _) (bl1 _ _)
  · first | with_reducible exact set5 (balloc hBW _) (by omega) _ _ _ _ _ | with_reducible exact balloc (set5 hBW (by omega) _ _ _ _ _) _
  · first | with_reducible exact MineS.put5 (h := ⟨fr2.below (bl1 _ _), fr4.below (bl1 _ _)⟩) _ _ _ _ _ _ | with_reducible exact MineS.below (MineS.put5 (h := ⟨fr2, fr4⟩) _ _ _ _ _ _) (bl1 _ _)

set_option maxRecDepth 100000 in
set_option maxHeartbeats 4000000 in
theorem wideDivNeg_fr (w : World) (s t : Sp) (k b : Nat) (lo hi lo' hi' : Int) (hs : SpAt w s k lo hi) (ht : SpAt w t k lo' hi') (hk : k ≤ 300000000) (hb : b ≤ 1000000) (hbits : s.bits = b) (hp : lo' < 0) (hp2 : hi' < 0) :
    Calls Try.prog 94 #[.agg #[.bool s.ln, .slice s.la s.lN s.lc, .bool s.hn, .slice s.ha s.hN s.hc, .int .i64 s.bits], .agg #[.bool t.ln, .slice t.la t.lN t.lc, .bool t.hn, .slice t.ha t.hN t.hc, .int .i64 t.bits]] w (SpanF w b (b / 16 + k + 10) (leastZ (pr4 ((-hi) * Q b / (-hi')) ((-hi) * Q b / (-lo')) ((-lo) * Q b / (-hi')) ((-lo) * Q b / (-lo'))) 3) (mostZ (pr4 (-(-((-hi) * Q b) / (-hi'))) (-(-((-hi) * Q b) / (-lo'))) (-(-((-lo) * Q b) / (-hi'))) (-(-((-lo) * Q b) / (-lo')))) 3)) := by
  have HBT := hide hbits
  have t1 : cmpInt hi' 0 < 0 := by unfold cmpInt; rw [if_pos (by omega)]; omega
  clear hbits
  obtain ⟨W, hW⟩ : ∃ W, W = ((w.alloc (.cells #[.bool s.ln, .slice s.la s.lN s.lc, .bool s.hn, .slice s.ha s.hN s.hc, .int .i64 s.bits] 26)).alloc (.cells #[.bool t.ln, .slice t.la t.lN t.lc, .bool t.hn, .slice t.ha t.hN t.hc, .int .i64 t.bits] 26)).alloc (.cells #[.bool false, .slice none 0 0, .bool false, .slice none 0 0, .int .i64 0] 26) := ⟨_, rfl⟩
  have hBW : Below w.heap.size w W := by rw [hW]; exact bl3 _ _ _ _
  have A : SpC W w.heap.size s := by rw [hW]; exact ⟨by simp [go_sem], by simp [go_sem], by simp [go_sem], by simp [go_sem], by simp [go_sem]⟩
  have G : SpC W (w.heap.size + 1) t := by rw [hW]; exact ⟨by simp [go_sem], by simp [go_sem], by simp [go_sem], by simp [go_sem], by simp [go_sem]⟩
  have R : NoC W (w.heap.size + 1 + 1) := by rw [hW]; exact ⟨by simp [go_sem], by simp [go_sem], by simp [go_sem], by simp [go_sem], by simp [go_sem], fun o => by simp [go_sem]⟩
  have FA : ∀ o, W.frozen? ⟨w.heap.size, o, none⟩ = false := by intro o; rw [hW]; simp [go_sem]
  have FG : ∀ o, W.frozen? ⟨w.heap.size + 1, o, none⟩ = false := by intro o; rw [hW]; simp [go_sem]
  replace hs := hs.below hBW
  replace ht := ht.below hBW
  go_enter Try.func94, Try.ntmps94
  go_wp2_with fail
  rw [← hW]
  clear hW
  refine (sign_int _ _ _ _ k hi' _ ht.hi).mono ?_
  rintro r w0 ⟨rfl, hb0⟩
  replace hBW := bthen hBW hb0
  replace FA : ∀ o, w0.frozen? ⟨w.heap.size, o, none⟩ = false := fun o => (hb0.frozen (p := ⟨w.heap.size, o, none⟩) A.lt).trans (FA o)
  replace FG : ∀ o, w0.frozen? ⟨w.heap.size + 1, o, none⟩ = false := fun o => (hb0.frozen (p := ⟨w.heap.size + 1, o, none⟩) G.lt).trans (FG o)
  replace A := A.below hb0
  replace G := G.below hb0
  replace R := R.below hb0
  replace hs := hs.below hb0
  replace ht := ht.below hb0
  clear hb0
  have nAG : w.heap.size ≠ w.heap.size + 1 := by omega
  have nRA : w.heap.size + 1 + 1 ≠ w.heap.size := by omega
  have nRG : w.heap.size + 1 + 1 ≠ w.heap.size + 1 := by omega
  have HS := hide hs
  have HT := hide ht
  have HR := hide R
  have HA := hide A
  have HG := hide G
  have lA := A.lt
  have lG := G.lt
  have hB0 : Below w0.heap.size w0 w0.drew := (Below.refl _ _).drew
  obtain ⟨x0, x1, x2, x3, x4⟩ := A
  obtain ⟨y0, y1, y2, y3, y4⟩ := G
  go_wp2_with fail
  go_cut [12] (fun p wx => ∃ s2 t2 : Sp, s2.bits = s.bits ∧ SpC wx w.heap.size s2 ∧ SpC wx (w.heap.size + 1) t2 ∧ SpAt wx s2 k (-hi) (-lo) ∧ SpAt wx t2 k (-hi') (-lo') ∧ NoC wx (w.heap.size + 1 + 1) ∧ Below w.heap.size w wx)
  case first =>
    go_region_with
      (first
        | (go_at_call 126; have hq := hB1; refine (opposite_int _ t k lo' hi' ((unhide HT).below hB1) (by omega)).mono ?_; rintro r w2 ⟨u2, rfl, hub2, hup2, hb2⟩; have HU2 := hide hub2; clear hub2; have hB2 := bthen hB1 hb2; replace hup1 := hup1.below hb2; have l2A := Nat.lt_of_lt_of_le lA hB2.size; have l2G := Nat.lt_of_lt_of_le lG hB2.size; obtain ⟨a0, a1, a2, a3, a4⟩ := (unhide HA).below hB2; obtain ⟨g0, g1, g2, g3, g4⟩ := (unhide HG).below hB2; have fA2 : ∀ o, w2.frozen? ⟨w.heap.size, o, none⟩ = false := (fun o => (hB2.frozen (p := ⟨w.heap.size, o, none⟩) lA).trans (FA o)); have fG2 : ∀ o, w2.frozen? ⟨w.heap.size + 1, o, none⟩ = false := (fun o => (hB2.frozen (p := ⟨w.heap.size + 1, o, none⟩) lG).trans (FG o)))
        | (go_at_call 126; refine (opposite_int _ s k lo hi ((unhide HS).below (by repeat' (first | with_reducible exact Below.refl _ _ | with_reducible refine Below.drew ?_))) (by omega)).mono ?_; rintro r w1 ⟨u1, rfl, hub1, hup1, hb1⟩; have HU1 := hide hub1; clear hub1; have hB1 : Below w0.heap.size w0 w1 := bthen (by repeat' (first | with_reducible exact Below.refl _ _ | with_reducible refine Below.drew ?_)) hb1; obtain ⟨b0, b1, b2, b3, b4⟩ := (unhide HA).below hB1; obtain ⟨d0, d1, d2, d3, d4⟩ := (unhide HG).below hB1; have l1A := Nat.lt_of_lt_of_le lA hB1.size; have l1G := Nat.lt_of_lt_of_le lG hB1.size))
    all_goals
      go_wp2_with fail
      go_meet
      have A2 : SpC w2 w.heap.size s := ⟨a0, a1, a2, a3, a4⟩
      have G2 : SpC w2 (w.heap.size + 1) t := ⟨g0, g1, g2, g3, g4⟩
      obtain ⟨p1, p2, p3, p4⟩ := two_sp A2 G2 nAG u1 u2
      exact ⟨u1, u2, unhide HU1, p1, p2, p3 hup1, p3 hup2, p4 ((unhide HR).below hB2) nRA nRG, set5 (set5 (bthen hBW hB2) (Nat.le_refl _) _ _ _ _ _) (Nat.le_succ _) _ _ _ _ _⟩
  case rest =>
  obtain ⟨s2, t2, hsb, A, G, hs, ht, R, hBW⟩ := hcut
  replace HBT := hide (hsb.trans (unhide HBT))
  clear hsb HA HG HS HT HR lA lG x0 x1 x2 x3 x4 y0 y1 y2 y3 y4 FA FG hB0
  have lA := A.lt
  have lG := G.lt
  obtain ⟨x0, x1, x2, x3, x4⟩ := A
  obtain ⟨y0, y1, y2, y3, y4⟩ := G
  have A : SpC wc w.heap.size s2 := ⟨x0, x1, x2, x3, x4⟩
  have G : SpC wc (w.heap.size + 1) t2 := ⟨y0, y1, y2, y3, y4⟩
  go_wp2_with fail
  clear lA lG x0 x1 x2 x3 x4 y0 y1 y2 y3 y4
  refine (corners_div1 _ s2 t2 k b w.heap.size (-hi) (-lo) (-hi') (-lo') hs ht hk hb (by omega) (by omega) (by rw [← unhide HBT]; exact A.c4)).mono ?_
  rintro r w1 ⟨B1, f1, rfl, hN1, hb1⟩
  replace hBW := bthen hBW hb1
  replace A := A.below hb1
  replace G := G.below hb1
  replace R := R.below hb1
  replace hs := hs.below hb1
  replace ht := ht.below hb1
  clear hb1
  go_wp2_with fail
  refine (leastw_fr _ 3 _ (b / 16 + k + 9) f1 _ _ hN1 (by omega) (by omega)).mono ?_
  rintro r w2 ⟨neg2, a2, n2, c2, rfl, hint2, hb2, fr2⟩
  replace fr2 := fr2.mono (m' := w.heap.size) hBW.size
  replace hBW := bthen hBW hb2
  replace A := A.below hb2
  replace G := G.below hb2
  replace R := R.below hb2
  replace hs := hs.below hb2
  replace ht := ht.below hb2
  clear hb2 hN1
  obtain ⟨W2, hW2⟩ : ∃ W', W' = w2.alloc (.cells #[.bool neg2, .slice a2 n2 c2] 24) := ⟨_, rfl⟩
  have hc2 : Below w2.heap.size w2 W2 := by rw [hW2]; exact bl1 _ _
  have X2 : NmC W2 w2.heap.size ⟨neg2, a2, n2, c2⟩ := by rw [hW2]; exact nmc_new w2 ⟨neg2, a2, n2, c2⟩ _
  have lA := A.lt
  have lG := G.lt
  obtain ⟨x0, x1, x2, x3, x4⟩ := A
  obtain ⟨y0, y1, y2, y3, y4⟩ := G
  have A : SpC w2 w.heap.size s2 := ⟨x0, x1, x2, x3, x4⟩
  have G : SpC w2 (w.heap.size + 1) t2 := ⟨y0, y1, y2, y3, y4⟩
  go_wp2_with fail
  rw [← hW2]
  clear hW2
  clear lA lG x0 x1 x2 x3 x4 y0 y1 y2 y3 y4
  have nR2 : w2.heap.size ≠ w.heap.size + 1 + 1 := Nat.ne_of_gt R.lt
  replace hBW := bthen hBW hc2
  replace A := A.below hc2
  replace G := G.below hc2
  replace R := R.below hc2
  replace hs := hs.below hc2
  replace ht := ht.below hc2
  replace hint2 := hint2.below hc2
  replace fr2 := fr2.below hc2
  clear hc2
  refine (corners_div2 _ s2 t2 k b w.heap.size (-hi) (-lo) (-hi') (-lo') hs ht hk hb (by omega) (by omega) (by rw [← unhide HBT]; exact A.c4)).mono ?_
  rintro r w3 ⟨B3, f3, rfl, hN3, hb3⟩
  replace hBW := bthen hBW hb3
  replace A := A.below hb3
  replace R := R.below hb3
  replace hint2 := hint2.below hb3
  replace fr2 := fr2.below hb3
  replace X2 := X2.below hb3
  clear hb3
  go_wp2_with fail
  refine (most_fr _ 3 _ (b / 16 + k + 9) f3 _ _ hN3 (by omega) (by omega)).mono ?_
  rintro r w4 ⟨neg4, a4, n4, c4, rfl, hint4, hb4, fr4⟩
  replace fr4 := fr4.mono (m' := w.heap.size) hBW.size
  replace hBW := bthen hBW hb4
  replace A := A.below hb4
  replace R := R.below hb4
  replace hint2 := hint2.below hb4
  replace fr2 := fr2.below hb4
  replace X2 := X2.below hb4
  clear hb4 hN3
  have lA := A.lt
  have lX := X2.lt
  have lR := R.lt
  have nR2' : w.heap.size + 1 + 1 ≠ w2.heap.size := fun e9 => nR2 e9.symm
  have nR4 : w4.heap.size ≠ w.heap.size + 1 + 1 := Nat.ne_of_gt lR
  have nR4' : w.heap.size + 1 + 1 ≠ w4.heap.size := Nat.ne_of_lt lR
  have nX4 : w2.heap.size ≠ w4.heap.size := Nat.ne_of_lt lX
  obtain ⟨x0, x1, x2, x3, x4⟩ := A
  obtain ⟨z0, z1⟩ := X2
  obtain ⟨q0, q1, q2, q3, q4, q5⟩ := R
  go_wp2_with fail
  refine bodyPost_ret (v := .agg #[.bool neg2, .slice a2 n2 c2, .bool neg4, .slice a4 n4 c4, .int .i64 s2.bits]) (by simp [results, Try.results94, go_sem, lR, q0, q1, q2, q3, q4]) rfl ⟨⟨neg2, a2, n2, c2, neg4, a4, n4, c4, s2.bits⟩, rfl, unhide HBT, ?_, ?_, ?_⟩
  · first | with_reducible exact SpAt.put5 ⟨(hint2.below (bl1 _ _)).mono (by omega), (hint4.below (bl1 _ _)).mono (by omega)⟩ (by simp [go_sem, lR, q0]) (by simp [go_sem, lR, q1]) (by simp [go_sem, lR, q2]) (by simp [go_sem, lR, q3]) (by simp [go_sem, lR, q4]) _ _ _ _ _ | with_reducible exact SpAt.below (SpAt.put5 ⟨hint2.mono (by omega), hint4.mono (by omega)⟩ q0 q1 q2 q3 q4 _ _ _ _ _) (bl1 _ _)
  · first | with_reducible exact set5 (balloc hBW _) (by omega) _ _ _ _ _ | with_reducible exact balloc (set5 hBW (by omega) _ _ _ _ _) _
  · first | with_reducible exact MineS.put5 (h := ⟨fr2.below (bl1 _ _), fr4.below (bl1 _ _)⟩) _ _ _ _ _ _ | with_reducible exact MineS.below (MineS.put5 (h := ⟨fr2, fr4⟩) _ _ _ _ _ _) (bl1 _ _)

theorem wideDiv_fr (w : World) (s t : Sp) (k b : Nat) (lo hi lo' hi' : Int) (hs : SpAt w s k lo hi) (ht : SpAt w t k lo' hi') (hk : k ≤ 300000000) (hb : b ≤ 1000000) (hbits : s.bits = b) (hl : lo ≤ hi) (hp : ¬ (lo' ≤ 0 ∧ 0 ≤ hi')) (hp2 : lo' ≤ hi') :
    Calls Try.prog 94 #[.agg #[.bool s.ln, .slice s.la s.lN s.lc, .bool s.hn, .slice s.ha s.hN s.hc, .int .i64 s.bits], .agg #[.bool t.ln, .slice t.la t.lN t.lc, .bool t.hn, .slice t.ha t.hN t.hc, .int .i64 t.bits]] w (SpanF w b (b / 16 + k + 10) (dvLo lo hi lo' hi' b) (dvHi lo hi lo' hi' b)) := by
  have hq := Q_pos b
  unfold dvLo dvHi
  by_cases h : hi' < 0
  · rw [if_pos h, if_pos h]
    have := wideDivNeg_fr w s t k b lo hi lo' hi' hs ht hk hb hbits (by omega) h
    rw [over_least (Int.mul_le_mul_of_nonneg_right (by omega) (by omega)) (by omega) (by omega), over_most (Int.mul_le_mul_of_nonneg_right (by omega) (by omega)) (by omega) (by omega)] at this
    exact this
  · rw [if_neg h, if_neg h]
    have := wideDivPos_fr w s t k b lo hi lo' hi' hs ht hk hb hbits (by omega) (by omega)
    rw [over_least (Int.mul_le_mul_of_nonneg_right hl (by omega)) (by omega) (by omega), over_most (Int.mul_le_mul_of_nonneg_right hl (by omega)) (by omega) (by omega)] at this
    exact this

set_option maxRecDepth 100000 in
set_option maxHeartbeats 2000000 in
theorem sdiv1_fr (w : World) (B0 B1 : Nat) (s t : Sp) (k b : Nat) (lo hi lo' hi' : Int) (hs : SpAt w s k lo hi) (ht : SpAt w t k lo' hi') (hk : k ≤ 300000000) (hb : b ≤ 1000000) (hbits : s.bits = b) (hl : lo ≤ hi) (hp : ¬ (lo' ≤ 0 ∧ 0 ≤ hi')) (hp2 : lo' ≤ hi') (a : SpC w B0 s) (g : SpC w B1 t) :
    Calls Try.prog 93 #[.pointer (some ⟨B1, 0, none⟩), .pointer (some ⟨B0, 0, none⟩)] w (PairF w s.bits (b / 16 + k + 10) (dvLo lo hi lo' hi' b) (dvHi lo hi lo' hi' b) 0) := by
  have HBT := hide hbits
  have HP := hide (show lo ≤ hi ∧ ¬ (lo' ≤ 0 ∧ 0 ≤ hi') ∧ lo' ≤ hi' from ⟨hl, hp, hp2⟩)
  have t1 : 0 < lo' → ¬ cmpInt lo' 0 ≤ 0 := by intro h; unfold cmpInt; rw [if_neg (by omega), if_pos h]; omega
  have t2 : ¬ 0 < lo' → cmpInt lo' 0 ≤ 0 := by intro h; unfold cmpInt; split <;> (try split) <;> omega
  have t3 : ¬ 0 < lo' → ¬ 0 ≤ cmpInt hi' 0 := by intro h; unfold cmpInt; rw [if_pos (by omega)]; omega
  obtain ⟨W, hW⟩ : ∃ W, W = w.alloc (.cells #[.bool false, .slice none 0 0, .bool false, .slice none 0 0, .int .i64 0] 26) := ⟨_, rfl⟩
  have hBW : Below w.heap.size w W := by rw [hW]; exact bl1 _ _
  have R : NoC W w.heap.size := by rw [hW]; exact noc_new _ _
  have A := a.below hBW
  have G := g.below hBW
  replace ht := ht.below hBW
  replace hs := hs.below hBW
  have lG := G.lt
  obtain ⟨y0, y1, y2, y3, y4⟩ := G
  clear g a hp hl hp2 hbits
  go_enter Try.func93, Try.ntmps93
  go_upto_region 1 with fail
  rw [← hW]
  clear hW
  go_wp2_with fail
  refine (sign_int _ _ _ _ k lo' _ ht.lo).mono ?_
  rintro r w1 ⟨rfl, hb1⟩
  have G := (SpC.mk y0 y1 y2 y3 y4).below hb1
  replace R := R.below hb1
  replace A := A.below hb1
  replace ht := ht.below hb1
  replace hs := hs.below hb1
  replace hBW := bthen hBW hb1
  clear y0 y1 y2 y3 y4 lG hb1
  have lG := G.lt
  have lA := A.lt
  by_cases hpos : 0 < lo'
  · have t4 : ¬ cmpInt lo' 0 ≤ 0 := by have := t1 (by omega); omega
    clear t1 t2 t3 hpos
    obtain ⟨y0, y1, y2, y3, y4⟩ := G
    obtain ⟨x0, x1, x2, x3, x4⟩ := A
    go_wp2_with fail
    refine (wideDiv_fr _ s t k b lo hi lo' hi' hs ht hk hb (unhide HBT) (unhide HP).1 (unhide HP).2.1 (unhide HP).2.2).mono ?_
    rintro r w3 ⟨u, rfl, hub, hup, hb3, fr⟩
    replace fr := fr.mono (m' := w.heap.size) hBW.size
    have HU := hide hub
    clear hub
    replace R := R.below hb3
    replace hBW := bthen hBW hb3
    have lR := R.lt
    obtain ⟨q0, q1, q2, q3, q4, q5⟩ := R
    go_wp2_with fail
    refine bodyPost_ret (v := .tuple #[.agg #[.bool u.ln, .slice u.la u.lN u.lc, .bool u.hn, .slice u.ha u.hN u.hc, .int .i64 u.bits], .int .i64 0]) (by simp [results, Try.results93, go_sem, lR, q0, q1, q2, q3, q4]) rfl ⟨u, rfl, (unhide HU).trans (unhide HBT).symm, ?_, ?_, ?_⟩
    · exact SpAt.put5 hup q0 q1 q2 q3 q4 _ _ _ _ _
    · exact set5 hBW (Nat.le_refl _) _ _ _ _ _
    · exact fr.put5 _ _ _ _ _ _
  · have t4 : cmpInt lo' 0 ≤ 0 := t2 (by omega)
    have t5 : ¬ 0 ≤ cmpInt hi' 0 := by have := t3 (by omega); omega
    have t5' : ¬ cmpInt hi' 0 ≥ 0 := by omega
    clear t1 t2 t3 hpos
    obtain ⟨y0, y1, y2, y3, y4⟩ := G
    go_wp2_with fail
    refine (sign_int _ _ _ _ k hi' _ ht.hi).mono ?_
    rintro r w2 ⟨rfl, hb2⟩
    have G := (SpC.mk y0 y1 y2 y3 y4).below hb2
    replace R := R.below hb2
    replace A := A.below hb2
    replace ht := ht.below hb2
    replace hs := hs.below hb2
    replace hBW := bthen hBW hb2
    clear y0 y1 y2 y3 y4 lG lA hb2
    have lG := G.lt
    have lA := A.lt
    obtain ⟨y0, y1, y2, y3, y4⟩ := G
    obtain ⟨x0, x1, x2, x3, x4⟩ := A
    go_wp2_with fail
    refine (wideDiv_fr _ s t k b lo hi lo' hi' hs ht hk hb (unhide HBT) (unhide HP).1 (unhide HP).2.1 (unhide HP).2.2).mono ?_
    rintro r w3 ⟨u, rfl, hub, hup, hb3, fr⟩
    replace fr := fr.mono (m' := w.heap.size) hBW.size
    have HU := hide hub
    clear hub
    replace R := R.below hb3
    replace hBW := bthen hBW hb3
    have lR := R.lt
    obtain ⟨q0, q1, q2, q3, q4, q5⟩ := R
    go_wp2_with fail
    refine bodyPost_ret (v := .tuple #[.agg #[.bool u.ln, .slice u.la u.lN u.lc, .bool u.hn, .slice u.ha u.hN u.hc, .int .i64 u.bits], .int .i64 0]) (by simp [results, Try.results93, go_sem, lR, q0, q1, q2, q3, q4]) rfl ⟨u, rfl, (unhide HU).trans (unhide HBT).symm, ?_, ?_, ?_⟩
    · exact SpAt.put5 hup q0 q1 q2 q3 q4 _ _ _ _ _
    · exact set5 hBW (Nat.le_refl _) _ _ _ _ _
    · exact fr.put5 _ _ _ _ _ _

set_option maxRecDepth 100000 in
set_option maxHeartbeats 2000000 in
theorem madeF_bad_Meet (p1 p2 : Value) (B : Nat) (W : World) (f : Nat → Sp) (d e : Nat → Nat → Int) (n cap : Nat) (hn : n ≤ 1000) (hS : Spans W B n f d e) (E : Int) (h0 : ∀ z, Flt (fun j => chkE (f j) (d j) (e j)) (fun j => (f j).bits) n z → z = E) (hE : E ≠ 0) (k : Nat) :
    Calls Try.prog 72 #[.func (.func 97) #[] #[p1, p2], .slice (some ⟨B, 0, none⟩) n cap] W (PairF W 0 k 0 0 E) := by
  have HZ := hide h0
  have HS := hide hS
  have hE' : (E != 0) = true := by simpa using hE
  clear h0 hS hE
  go_enter Try.func72, Try.ntmps72
  go_wp2_with fail
  refine (fault_any _ _ _ f d e _ ((unhide HS).below (bl1 _ _)) hn).mono ?_
  rintro r w1 ⟨z, rfl, hz, hb1'⟩
  have hz0 := unhide HZ z hz
  subst hz0
  obtain ⟨q0, q1, q2, q3, q4, q5⟩ := (noc_new W 26).below hb1'
  have hB1 : Below W.heap.size W w1 := bthen (bl1 _ _) hb1'
  clear hz
  go_wp2_with fail
  refine bodyPost_ret (v := .tuple #[.agg #[.bool false, .slice none 0 0, .bool false, .slice none 0 0, .int .i64 0], .int .i64 z]) (by simp [results, Try.results72, go_sem, q0, q1, q2, q3, q4]) rfl ⟨⟨false, none, 0, 0, false, none, 0, 0, 0⟩, rfl, rfl, zeroSp _ _, ?_, zeroMine _ _⟩
  exact set5 hB1 (Nat.le_refl _) _ _ _ _ _

set_option maxRecDepth 100000 in
set_option maxHeartbeats 2000000 in
theorem madeF_err_Meet (p1 p2 : Value) (B : Nat) (W : World) (f : Nat → Sp) (d e : Nat → Nat → Int) (n cap : Nat) (hn : n ≤ 1000) (hS : Spans W B n f d e) (h0 : ∀ z, Flt (fun j => chkE (f j) (d j) (e j)) (fun j => (f j).bits) n z → z = 0) (b : Int) (k : Nat) (lo hi er : Int) (her : er ≠ 0)
    (hF : ∀ w', Below W.heap.size W w' → Calls Try.prog 97 #[p1, p2] w' (PairAns w' b k lo hi er)) :
    Calls Try.prog 72 #[.func (.func 97) #[] #[p1, p2], .slice (some ⟨B, 0, none⟩) n cap] W (PairF W 0 k 0 0 er) := by
  have HF := hide hF
  have HZ := hide h0
  have HS := hide hS
  have hE' : (er != 0) = true := by simpa using her
  clear hF h0 hS her
  go_enter Try.func72, Try.ntmps72
  go_wp2_with fail
  refine (fault_any _ _ _ f d e _ ((unhide HS).below (bl1 _ _)) hn).mono ?_
  rintro r w1 ⟨z, rfl, hz, hb1'⟩
  have hz0 := unhide HZ z hz
  subst hz0
  have hN1 := (noc_new W 26).below hb1'
  have hB1 : Below W.heap.size W w1 := bthen (bl1 _ _) hb1'
  clear hz
  go_wp2_with fail
  refine (unhide HF _ hB1).mono ?_
  rintro r w2 ⟨s, rfl, hsb, hsp, hb3⟩
  have hB2 := bthen hB1 hb3
  have hN2 := hN1.below hb3
  have hlt := hN2.lt
  obtain ⟨q0, q1, q2, q3, q4, q5⟩ := hN2
  have HB := hide hsb
  clear hsb hb1'
  go_wp2_with fail
  refine bodyPost_ret (v := .tuple #[.agg #[.bool false, .slice none 0 0, .bool false, .slice none 0 0, .int .i64 0], .int .i64 er]) (by simp [results, Try.results72, go_sem, hlt, q0, q1, q2, q3, q4]) rfl ⟨⟨false, none, 0, 0, false, none, 0, 0, 0⟩, rfl, rfl, zeroSp _ _, ?_, zeroMine _ _⟩
  first | with_reducible exact set5 (balloc hB2 _) (Nat.le_refl _) _ _ _ _ _ | with_reducible exact balloc (set5 hB2 (Nat.le_refl _) _ _ _ _ _) _

set_option maxRecDepth 100000 in
set_option maxHeartbeats 2000000 in
theorem madeF_fit_Meet (p1 p2 : Value) (B : Nat) (W : World) (f : Nat → Sp) (d e : Nat → Nat → Int) (n cap : Nat) (hn : n ≤ 1000) (hS : Spans W B n f d e) (h0 : ∀ z, Flt (fun j => chkE (f j) (d j) (e j)) (fun j => (f j).bits) n z → z = 0) (b : Int) (k : Nat) (lo hi : Int)
    (hF : ∀ w', Below W.heap.size W w' → Calls Try.prog 97 #[p1, p2] w' (PairF w' b k lo hi 0)) (hle : lo ≤ hi) (hb1 : 1 ≤ b) (hb2 : b ≤ 120) :
    Calls Try.prog 72 #[.func (.func 97) #[] #[p1, p2], .slice (some ⟨B, 0, none⟩) n cap] W (PairF W (fitZ lo hi b) k (fitZ lo hi lo) (fitZ lo hi hi) (fitE lo hi)) := by
  have HF := hide hF
  have HZ := hide h0
  have HS := hide hS
  clear hF h0 hS
  go_enter Try.func72, Try.ntmps72
  go_wp2_with fail
  refine (fault_any _ _ _ f d e _ ((unhide HS).below (bl1 _ _)) hn).mono ?_
  rintro r w1 ⟨z, rfl, hz, hb1'⟩
  have hz0 := unhide HZ z hz
  subst hz0
  have hN1 := (noc_new W 26).below hb1'
  have hB1 : Below W.heap.size W w1 := bthen (bl1 _ _) hb1'
  clear hz
  go_wp2_with fail
  refine (unhide HF _ hB1).mono ?_
  rintro r w2 ⟨s, rfl, hsb, hsp, hb3, fr⟩
  have hB2 := bthen hB1 hb3
  have hN2 := hN1.below hb3
  have hlt := hN2.lt
  obtain ⟨dd, ee, hdig, hchk⟩ := chk_fit hsp hle (by omega) (by omega)
  obtain ⟨q0, q1, q2, q3, q4, q5⟩ := hN2
  have HB := hide hsb
  have HC := hide hchk
  clear hsb hb1' hchk
  go_wp2_with fail
  refine (fit_any _ s dd ee (hdig.below (bl1 _ _))).mono ?_
  rintro r w3 ⟨hr, hb4⟩
  have hB3 : Below w2.heap.size w2 w3 := bthen (bl1 _ _) hb4
  have hN3 := (NoC.mk q0 q1 q2 q3 q4 q5).below hB3
  obtain ⟨t0, t1, t2, t3, t4, t5⟩ := hN3
  have hr' : ∃ u : Sp, r = .returned (.tuple #[.agg #[.bool u.ln, .slice u.la u.lN u.lc, .bool u.hn, .slice u.ha u.hN u.hc, .int .i64 u.bits], .int .i64 (fitE lo hi)]) ∧ u.bits = fitZ lo hi b ∧ SpAt w3 u k (fitZ lo hi lo) (fitZ lo hi hi) ∧ MineS W.heap.size w3 u := by
    have hc := unhide HC
    rcases fit_cases lo hi with ⟨_, f2, f3⟩ | ⟨_, f2, f3⟩
    · rcases hr with ⟨h1, h⟩ | ⟨h1, h⟩
      · omega
      · refine ⟨⟨false, none, 0, 0, false, none, 0, 0, 0⟩, by rw [h, hc], by rw [f3], ?_, zeroMine _ _⟩
        rw [f3, f3]; exact zeroSp _ _
    · rcases hr with ⟨h1, h⟩ | ⟨h1, h⟩
      · refine ⟨s, by rw [h, f2], by rw [f3]; exact unhide HB, ?_, (fr.mono hB1.size).below hB3⟩
        rw [f3, f3]; exact hsp.below hB3
      · omega
  obtain ⟨u, hru, hub, hup, fru⟩ := hr'
  clear hr
  rw [hru]
  clear hru
  have HU := hide hub
  clear hub
  have hB9 := bthen hB2 hB3
  generalize fitE lo hi = er at *
  go_wp2_with fail
  refine bodyPost_ret (v := .tuple #[.agg #[.bool u.ln, .slice u.la u.lN u.lc, .bool u.hn, .slice u.ha u.hN u.hc, .int .i64 u.bits], .int .i64 er]) (by simp [results, Try.results72, go_sem, t0, t1, t2, t3, t4]) rfl ⟨u, rfl, unhide HU, ?_, ?_, ?_⟩
  · exact SpAt.putN hup ⟨t0, t1, t2, t3, t4, t5⟩ _ _ _ _ _
  · exact set5 hB9 (Nat.le_refl _) _ _ _ _ _
  · exact fru.put5 _ _ _ _ _ _

set_option maxRecDepth 100000 in
set_option maxHeartbeats 2000000 in
theorem spanF_Meet (w : World) (s t : Sp) (d e d' e' : Nat → Int) (hs : SpDig w s d e) (ht : SpDig w t d' e') (b' : Int) (k : Nat) (lo hi er : Int)
    (hM : ∀ (W : World) (B0 B1 B cap : Nat), Below w.heap.size w W → SpC W B0 s → SpC W B1 t → Spans W B 2 (pr s t) (pr d d') (pr e e') → Calls Try.prog 72 #[.func (.func 97) #[] #[.pointer (some ⟨B0, 0, none⟩), .pointer (some ⟨B1, 0, none⟩)], .slice (some ⟨B, 0, none⟩) 2 cap] W (PairF W b' k lo hi er)) :
    Calls Try.prog 39 #[.agg #[.bool s.ln, .slice s.la s.lN s.lc, .bool s.hn, .slice s.ha s.hN s.hc, .int .i64 s.bits], .agg #[.bool t.ln, .slice t.la t.lN t.lc, .bool t.hn, .slice t.ha t.hN t.hc, .int .i64 t.bits]] w (PairF w b' k lo hi er) := by
  have HM := hide hM
  have HS := hide (fun W hS hT => spans2 W s t d e d' e' 26 hS hT)
  clear hM
  go_enter Try.func39, Try.ntmps39
  go_wp2_with fail
  obtain ⟨W, hW⟩ : ∃ W, W = ((w.alloc (.cells #[.bool s.ln, .slice s.la s.lN s.lc, .bool s.hn, .slice s.ha s.hN s.hc, .int .i64 s.bits] 26)).alloc (.cells #[.bool t.ln, .slice t.la t.lN t.lc, .bool t.hn, .slice t.ha t.hN t.hc, .int .i64 t.bits] 26)).alloc (.cells #[.bool false, .slice none 0 0, .bool false, .slice none 0 0, .int .i64 0] 26) := ⟨_, rfl⟩
  have s3 : W.heap.size = w.heap.size + 1 + 1 + 1 := by rw [hW]; simp
  have hBW : Below w.heap.size w W := by rw [hW]; exact bl3 _ _ _ _
  have a0 : SpC W w.heap.size s := by rw [hW]; exact ⟨by simp [go_sem], by simp [go_sem], by simp [go_sem], by simp [go_sem], by simp [go_sem]⟩
  have g0 : SpC W (w.heap.size + 1) t := by rw [hW]; exact ⟨by simp [go_sem], by simp [go_sem], by simp [go_sem], by simp [go_sem], by simp [go_sem]⟩
  have r0 : NoC W (w.heap.size + 1 + 1) := by rw [hW]; exact ⟨by simp [go_sem], by simp [go_sem], by simp [go_sem], by simp [go_sem], by simp [go_sem], fun o => by simp [go_sem]⟩
  rw [← hW, ← s3]
  clear hW
  refine (unhide HM _ _ _ _ _ (bthen hBW (bl1 _ _)) (a0.below (bl1 _ _)) (g0.below (bl1 _ _)) (unhide HS W (hs.below hBW) (ht.below hBW))).mono ?_
  rintro r w1 ⟨u, rfl, hub, hup, hb1, fr⟩
  have hB1 : Below W.heap.size W w1 := bthen (bl1 _ _) hb1
  obtain ⟨q0, q1, q2, q3, q4, q5⟩ := r0.below hB1
  have HB := hide hub
  clear hub
  go_wp2_with fail
  refine bodyPost_ret (v := .tuple #[.agg #[.bool u.ln, .slice u.la u.lN u.lc, .bool u.hn, .slice u.ha u.hN u.hc, .int .i64 u.bits], .int .i64 er]) (by simp [results, Try.results39, go_sem, q0, q1, q2, q3, q4]) rfl ⟨u, rfl, unhide HB, ?_, ?_, ?_⟩
  · exact SpAt.put5 hup q0 q1 q2 q3 q4 _ _ _ _ _
  · exact set5 (bthen hBW hB1) (by omega) _ _ _ _ _
  · exact (fr.mono (bthen hBW (bl1 _ _)).size).put5 _ _ _ _ _ _

set_option maxRecDepth 100000 in
set_option maxHeartbeats 2000000 in
theorem madeF_bad_Div (p1 p2 : Value) (B : Nat) (W : World) (f : Nat → Sp) (d e : Nat → Nat → Int) (n cap : Nat) (hn : n ≤ 1000) (hS : Spans W B n f d e) (E : Int) (h0 : ∀ z, Flt (fun j => chkE (f j) (d j) (e j)) (fun j => (f j).bits) n z → z = E) (hE : E ≠ 0) (k : Nat) :
    Calls Try.prog 72 #[.func (.func 93) #[] #[p1, p2], .slice (some ⟨B, 0, none⟩) n cap] W (PairF W 0 k 0 0 E) := by
  have HZ := hide h0
  have HS := hide hS
  have hE' : (E != 0) = true := by simpa using hE
  clear h0 hS hE
  go_enter Try.func72, Try.ntmps72
  go_wp2_with fail
  refine (fault_any _ _ _ f d e _ ((unhide HS).below (bl1 _ _)) hn).mono ?_
  rintro r w1 ⟨z, rfl, hz, hb1'⟩
  have hz0 := unhide HZ z hz
  subst hz0
  obtain ⟨q0, q1, q2, q3, q4, q5⟩ := (noc_new W 26).below hb1'
  have hB1 : Below W.heap.size W w1 := bthen (bl1 _ _) hb1'
  clear hz
  go_wp2_with fail
  refine bodyPost_ret (v := .tuple #[.agg #[.bool false, .slice none 0 0, .bool false, .slice none 0 0, .int .i64 0], .int .i64 z]) (by simp [results, Try.results72, go_sem, q0, q1, q2, q3, q4]) rfl ⟨⟨false, none, 0, 0, false, none, 0, 0, 0⟩, rfl, rfl, zeroSp _ _, ?_, zeroMine _ _⟩
  exact set5 hB1 (Nat.le_refl _) _ _ _ _ _

set_option maxRecDepth 100000 in
set_option maxHeartbeats 2000000 in
theorem madeF_err_Div (p1 p2 : Value) (B : Nat) (W : World) (f : Nat → Sp) (d e : Nat → Nat → Int) (n cap : Nat) (hn : n ≤ 1000) (hS : Spans W B n f d e) (h0 : ∀ z, Flt (fun j => chkE (f j) (d j) (e j)) (fun j => (f j).bits) n z → z = 0) (b : Int) (k : Nat) (lo hi er : Int) (her : er ≠ 0)
    (hF : ∀ w', Below W.heap.size W w' → Calls Try.prog 93 #[p1, p2] w' (PairAns w' b k lo hi er)) :
    Calls Try.prog 72 #[.func (.func 93) #[] #[p1, p2], .slice (some ⟨B, 0, none⟩) n cap] W (PairF W 0 k 0 0 er) := by
  have HF := hide hF
  have HZ := hide h0
  have HS := hide hS
  have hE' : (er != 0) = true := by simpa using her
  clear hF h0 hS her
  go_enter Try.func72, Try.ntmps72
  go_wp2_with fail
  refine (fault_any _ _ _ f d e _ ((unhide HS).below (bl1 _ _)) hn).mono ?_
  rintro r w1 ⟨z, rfl, hz, hb1'⟩
  have hz0 := unhide HZ z hz
  subst hz0
  have hN1 := (noc_new W 26).below hb1'
  have hB1 : Below W.heap.size W w1 := bthen (bl1 _ _) hb1'
  clear hz
  go_wp2_with fail
  refine (unhide HF _ hB1).mono ?_
  rintro r w2 ⟨s, rfl, hsb, hsp, hb3⟩
  have hB2 := bthen hB1 hb3
  have hN2 := hN1.below hb3
  have hlt := hN2.lt
  obtain ⟨q0, q1, q2, q3, q4, q5⟩ := hN2
  have HB := hide hsb
  clear hsb hb1'
  go_wp2_with fail
  refine bodyPost_ret (v := .tuple #[.agg #[.bool false, .slice none 0 0, .bool false, .slice none 0 0, .int .i64 0], .int .i64 er]) (by simp [results, Try.results72, go_sem, hlt, q0, q1, q2, q3, q4]) rfl ⟨⟨false, none, 0, 0, false, none, 0, 0, 0⟩, rfl, rfl, zeroSp _ _, ?_, zeroMine _ _⟩
  first | with_reducible exact set5 (balloc hB2 _) (Nat.le_refl _) _ _ _ _ _ | with_reducible exact balloc (set5 hB2 (Nat.le_refl _) _ _ _ _ _) _

set_option maxRecDepth 100000 in
set_option maxHeartbeats 2000000 in
theorem madeF_fit_Div (p1 p2 : Value) (B : Nat) (W : World) (f : Nat → Sp) (d e : Nat → Nat → Int) (n cap : Nat) (hn : n ≤ 1000) (hS : Spans W B n f d e) (h0 : ∀ z, Flt (fun j => chkE (f j) (d j) (e j)) (fun j => (f j).bits) n z → z = 0) (b : Int) (k : Nat) (lo hi : Int)
    (hF : ∀ w', Below W.heap.size W w' → Calls Try.prog 93 #[p1, p2] w' (PairF w' b k lo hi 0)) (hle : lo ≤ hi) (hb1 : 1 ≤ b) (hb2 : b ≤ 120) :
    Calls Try.prog 72 #[.func (.func 93) #[] #[p1, p2], .slice (some ⟨B, 0, none⟩) n cap] W (PairF W (fitZ lo hi b) k (fitZ lo hi lo) (fitZ lo hi hi) (fitE lo hi)) := by
  have HF := hide hF
  have HZ := hide h0
  have HS := hide hS
  clear hF h0 hS
  go_enter Try.func72, Try.ntmps72
  go_wp2_with fail
  refine (fault_any _ _ _ f d e _ ((unhide HS).below (bl1 _ _)) hn).mono ?_
  rintro r w1 ⟨z, rfl, hz, hb1'⟩
  have hz0 := unhide HZ z hz
  subst hz0
  have hN1 := (noc_new W 26).below hb1'
  have hB1 : Below W.heap.size W w1 := bthen (bl1 _ _) hb1'
  clear hz
  go_wp2_with fail
  refine (unhide HF _ hB1).mono ?_
  rintro r w2 ⟨s, rfl, hsb, hsp, hb3, fr⟩
  have hB2 := bthen hB1 hb3
  have hN2 := hN1.below hb3
  have hlt := hN2.lt
  obtain ⟨dd, ee, hdig, hchk⟩ := chk_fit hsp hle (by omega) (by omega)
  obtain ⟨q0, q1, q2, q3, q4, q5⟩ := hN2
  have HB := hide hsb
  have HC := hide hchk
  clear hsb hb1' hchk
  go_wp2_with fail
  refine (fit_any _ s dd ee (hdig.below (bl1 _ _))).mono ?_
  rintro r w3 ⟨hr, hb4⟩
  have hB3 : Below w2.heap.size w2 w3 := bthen (bl1 _ _) hb4
  have hN3 := (NoC.mk q0 q1 q2 q3 q4 q5).below hB3
  obtain ⟨t0, t1, t2, t3, t4, t5⟩ := hN3
  have hr' : ∃ u : Sp, r = .returned (.tuple #[.agg #[.bool u.ln, .slice u.la u.lN u.lc, .bool u.hn, .slice u.ha u.hN u.hc, .int .i64 u.bits], .int .i64 (fitE lo hi)]) ∧ u.bits = fitZ lo hi b ∧ SpAt w3 u k (fitZ lo hi lo) (fitZ lo hi hi) ∧ MineS W.heap.size w3 u := by
    have hc := unhide HC
    rcases fit_cases lo hi with ⟨_, f2, f3⟩ | ⟨_, f2, f3⟩
    · rcases hr with ⟨h1, h⟩ | ⟨h1, h⟩
      · omega
      · refine ⟨⟨false, none, 0, 0, false, none, 0, 0, 0⟩, by rw [h, hc], by rw [f3], ?_, zeroMine _ _⟩
        rw [f3, f3]; exact zeroSp _ _
    · rcases hr with ⟨h1, h⟩ | ⟨h1, h⟩
      · refine ⟨s, by rw [h, f2], by rw [f3]; exact unhide HB, ?_, (fr.mono hB1.size).below hB3⟩
        rw [f3, f3]; exact hsp.below hB3
      · omega
  obtain ⟨u, hru, hub, hup, fru⟩ := hr'
  clear hr
  rw [hru]
  clear hru
  have HU := hide hub
  clear hub
  have hB9 := bthen hB2 hB3
  generalize fitE lo hi = er at *
  go_wp2_with fail
  refine bodyPost_ret (v := .tuple #[.agg #[.bool u.ln, .slice u.la u.lN u.lc, .bool u.hn, .slice u.ha u.hN u.hc, .int .i64 u.bits], .int .i64 er]) (by simp [results, Try.results72, go_sem, t0, t1, t2, t3, t4]) rfl ⟨u, rfl, unhide HU, ?_, ?_, ?_⟩
  · exact SpAt.putN hup ⟨t0, t1, t2, t3, t4, t5⟩ _ _ _ _ _
  · exact set5 hB9 (Nat.le_refl _) _ _ _ _ _
  · exact fru.put5 _ _ _ _ _ _

set_option maxRecDepth 100000 in
set_option maxHeartbeats 2000000 in
theorem spanF_Div (w : World) (s t : Sp) (d e d' e' : Nat → Int) (hs : SpDig w s d e) (ht : SpDig w t d' e') (b' : Int) (k : Nat) (lo hi er : Int)
    (hM : ∀ (W : World) (B0 B1 B cap : Nat), Below w.heap.size w W → SpC W B0 s → SpC W B1 t → Spans W B 2 (pr s t) (pr d d') (pr e e') → Calls Try.prog 72 #[.func (.func 93) #[] #[.pointer (some ⟨B1, 0, none⟩), .pointer (some ⟨B0, 0, none⟩)], .slice (some ⟨B, 0, none⟩) 2 cap] W (PairF W b' k lo hi er)) :
    Calls Try.prog 37 #[.agg #[.bool s.ln, .slice s.la s.lN s.lc, .bool s.hn, .slice s.ha s.hN s.hc, .int .i64 s.bits], .agg #[.bool t.ln, .slice t.la t.lN t.lc, .bool t.hn, .slice t.ha t.hN t.hc, .int .i64 t.bits]] w (PairF w b' k lo hi er) := by
  have HM := hide hM
  have HS := hide (fun W hS hT => spans2 W s t d e d' e' 26 hS hT)
  clear hM
  go_enter Try.func37, Try.ntmps37
  go_wp2_with fail
  obtain ⟨W, hW⟩ : ∃ W, W = ((w.alloc (.cells #[.bool s.ln, .slice s.la s.lN s.lc, .bool s.hn, .slice s.ha s.hN s.hc, .int .i64 s.bits] 26)).alloc (.cells #[.bool t.ln, .slice t.la t.lN t.lc, .bool t.hn, .slice t.ha t.hN t.hc, .int .i64 t.bits] 26)).alloc (.cells #[.bool false, .slice none 0 0, .bool false, .slice none 0 0, .int .i64 0] 26) := ⟨_, rfl⟩
  have s3 : W.heap.size = w.heap.size + 1 + 1 + 1 := by rw [hW]; simp
  have hBW : Below w.heap.size w W := by rw [hW]; exact bl3 _ _ _ _
  have a0 : SpC W w.heap.size s := by rw [hW]; exact ⟨by simp [go_sem], by simp [go_sem], by simp [go_sem], by simp [go_sem], by simp [go_sem]⟩
  have g0 : SpC W (w.heap.size + 1) t := by rw [hW]; exact ⟨by simp [go_sem], by simp [go_sem], by simp [go_sem], by simp [go_sem], by simp [go_sem]⟩
  have r0 : NoC W (w.heap.size + 1 + 1) := by rw [hW]; exact ⟨by simp [go_sem], by simp [go_sem], by simp [go_sem], by simp [go_sem], by simp [go_sem], fun o => by simp [go_sem]⟩
  rw [← hW, ← s3]
  clear hW
  refine (unhide HM _ _ _ _ _ (bthen hBW (bl1 _ _)) (a0.below (bl1 _ _)) (g0.below (bl1 _ _)) (unhide HS W (hs.below hBW) (ht.below hBW))).mono ?_
  rintro r w1 ⟨u, rfl, hub, hup, hb1, fr⟩
  have hB1 : Below W.heap.size W w1 := bthen (bl1 _ _) hb1
  obtain ⟨q0, q1, q2, q3, q4, q5⟩ := r0.below hB1
  have HB := hide hub
  clear hub
  go_wp2_with fail
  refine bodyPost_ret (v := .tuple #[.agg #[.bool u.ln, .slice u.la u.lN u.lc, .bool u.hn, .slice u.ha u.hN u.hc, .int .i64 u.bits], .int .i64 er]) (by simp [results, Try.results37, go_sem, q0, q1, q2, q3, q4]) rfl ⟨u, rfl, unhide HB, ?_, ?_, ?_⟩
  · exact SpAt.put5 hup q0 q1 q2 q3 q4 _ _ _ _ _
  · exact set5 (bthen hBW hB1) (by omega) _ _ _ _ _
  · exact (fr.mono (bthen hBW (bl1 _ _)).size).put5 _ _ _ _ _ _

set_option maxRecDepth 100000 in
set_option maxHeartbeats 2000000 in
theorem madeF_bad_To (p1 p2 : Value) (B : Nat) (W : World) (f : Nat → Sp) (d e : Nat → Nat → Int) (n cap : Nat) (hn : n ≤ 1000) (hS : Spans W B n f d e) (E : Int) (h0 : ∀ z, Flt (fun j => chkE (f j) (d j) (e j)) (fun j => (f j).bits) n z → z = E) (hE : E ≠ 0) (k : Nat) :
    Calls Try.prog 72 #[.func (.func 73) #[] #[p1, p2], .slice (some ⟨B, 0, none⟩) n cap] W (PairF W 0 k 0 0 E) := by
  have HZ := hide h0
  have HS := hide hS
  have hE' : (E != 0) = true := by simpa using hE
  clear h0 hS hE
  go_enter Try.func72, Try.ntmps72
  go_wp2_with fail
  refine (fault_any _ _ _ f d e _ ((unhide HS).below (bl1 _ _)) hn).mono ?_
  rintro r w1 ⟨z, rfl, hz, hb1'⟩
  have hz0 := unhide HZ z hz
  subst hz0
  obtain ⟨q0, q1, q2, q3, q4, q5⟩ := (noc_new W 26).below hb1'
  have hB1 : Below W.heap.size W w1 := bthen (bl1 _ _) hb1'
  clear hz
  go_wp2_with fail
  refine bodyPost_ret (v := .tuple #[.agg #[.bool false, .slice none 0 0, .bool false, .slice none 0 0, .int .i64 0], .int .i64 z]) (by simp [results, Try.results72, go_sem, q0, q1, q2, q3, q4]) rfl ⟨⟨false, none, 0, 0, false, none, 0, 0, 0⟩, rfl, rfl, zeroSp _ _, ?_, zeroMine _ _⟩
  exact set5 hB1 (Nat.le_refl _) _ _ _ _ _

set_option maxRecDepth 100000 in
set_option maxHeartbeats 2000000 in
theorem madeF_err_To (p1 p2 : Value) (B : Nat) (W : World) (f : Nat → Sp) (d e : Nat → Nat → Int) (n cap : Nat) (hn : n ≤ 1000) (hS : Spans W B n f d e) (h0 : ∀ z, Flt (fun j => chkE (f j) (d j) (e j)) (fun j => (f j).bits) n z → z = 0) (b : Int) (k : Nat) (lo hi er : Int) (her : er ≠ 0)
    (hF : ∀ w', Below W.heap.size W w' → Calls Try.prog 73 #[p1, p2] w' (PairAns w' b k lo hi er)) :
    Calls Try.prog 72 #[.func (.func 73) #[] #[p1, p2], .slice (some ⟨B, 0, none⟩) n cap] W (PairF W 0 k 0 0 er) := by
  have HF := hide hF
  have HZ := hide h0
  have HS := hide hS
  have hE' : (er != 0) = true := by simpa using her
  clear hF h0 hS her
  go_enter Try.func72, Try.ntmps72
  go_wp2_with fail
  refine (fault_any _ _ _ f d e _ ((unhide HS).below (bl1 _ _)) hn).mono ?_
  rintro r w1 ⟨z, rfl, hz, hb1'⟩
  have hz0 := unhide HZ z hz
  subst hz0
  have hN1 := (noc_new W 26).below hb1'
  have hB1 : Below W.heap.size W w1 := bthen (bl1 _ _) hb1'
  clear hz
  go_wp2_with fail
  refine (unhide HF _ hB1).mono ?_
  rintro r w2 ⟨s, rfl, hsb, hsp, hb3⟩
  have hB2 := bthen hB1 hb3
  have hN2 := hN1.below hb3
  have hlt := hN2.lt
  obtain ⟨q0, q1, q2, q3, q4, q5⟩ := hN2
  have HB := hide hsb
  clear hsb hb1'
  go_wp2_with fail
  refine bodyPost_ret (v := .tuple #[.agg #[.bool false, .slice none 0 0, .bool false, .slice none 0 0, .int .i64 0], .int .i64 er]) (by simp [results, Try.results72, go_sem, hlt, q0, q1, q2, q3, q4]) rfl ⟨⟨false, none, 0, 0, false, none, 0, 0, 0⟩, rfl, rfl, zeroSp _ _, ?_, zeroMine _ _⟩
  first | with_reducible exact set5 (balloc hB2 _) (Nat.le_refl _) _ _ _ _ _ | with_reducible exact balloc (set5 hB2 (Nat.le_refl _) _ _ _ _ _) _

set_option maxRecDepth 100000 in
set_option maxHeartbeats 2000000 in
theorem madeF_fit_To (p1 p2 : Value) (B : Nat) (W : World) (f : Nat → Sp) (d e : Nat → Nat → Int) (n cap : Nat) (hn : n ≤ 1000) (hS : Spans W B n f d e) (h0 : ∀ z, Flt (fun j => chkE (f j) (d j) (e j)) (fun j => (f j).bits) n z → z = 0) (b : Int) (k : Nat) (lo hi : Int)
    (hF : ∀ w', Below W.heap.size W w' → Calls Try.prog 73 #[p1, p2] w' (PairF w' b k lo hi 0)) (hle : lo ≤ hi) (hb1 : 1 ≤ b) (hb2 : b ≤ 120) :
    Calls Try.prog 72 #[.func (.func 73) #[] #[p1, p2], .slice (some ⟨B, 0, none⟩) n cap] W (PairF W (fitZ lo hi b) k (fitZ lo hi lo) (fitZ lo hi hi) (fitE lo hi)) := by
  have HF := hide hF
  have HZ := hide h0
  have HS := hide hS
  clear hF h0 hS
  go_enter Try.func72, Try.ntmps72
  go_wp2_with fail
  refine (fault_any _ _ _ f d e _ ((unhide HS).below (bl1 _ _)) hn).mono ?_
  rintro r w1 ⟨z, rfl, hz, hb1'⟩
  have hz0 := unhide HZ z hz
  subst hz0
  have hN1 := (noc_new W 26).below hb1'
  have hB1 : Below W.heap.size W w1 := bthen (bl1 _ _) hb1'
  clear hz
  go_wp2_with fail
  refine (unhide HF _ hB1).mono ?_
  rintro r w2 ⟨s, rfl, hsb, hsp, hb3, fr⟩
  have hB2 := bthen hB1 hb3
  have hN2 := hN1.below hb3
  have hlt := hN2.lt
  obtain ⟨dd, ee, hdig, hchk⟩ := chk_fit hsp hle (by omega) (by omega)
  obtain ⟨q0, q1, q2, q3, q4, q5⟩ := hN2
  have HB := hide hsb
  have HC := hide hchk
  clear hsb hb1' hchk
  go_wp2_with fail
  refine (fit_any _ s dd ee (hdig.below (bl1 _ _))).mono ?_
  rintro r w3 ⟨hr, hb4⟩
  have hB3 : Below w2.heap.size w2 w3 := bthen (bl1 _ _) hb4
  have hN3 := (NoC.mk q0 q1 q2 q3 q4 q5).below hB3
  obtain ⟨t0, t1, t2, t3, t4, t5⟩ := hN3
  have hr' : ∃ u : Sp, r = .returned (.tuple #[.agg #[.bool u.ln, .slice u.la u.lN u.lc, .bool u.hn, .slice u.ha u.hN u.hc, .int .i64 u.bits], .int .i64 (fitE lo hi)]) ∧ u.bits = fitZ lo hi b ∧ SpAt w3 u k (fitZ lo hi lo) (fitZ lo hi hi) ∧ MineS W.heap.size w3 u := by
    have hc := unhide HC
    rcases fit_cases lo hi with ⟨_, f2, f3⟩ | ⟨_, f2, f3⟩
    · rcases hr with ⟨h1, h⟩ | ⟨h1, h⟩
      · omega
      · refine ⟨⟨false, none, 0, 0, false, none, 0, 0, 0⟩, by rw [h, hc], by rw [f3], ?_, zeroMine _ _⟩
        rw [f3, f3]; exact zeroSp _ _
    · rcases hr with ⟨h1, h⟩ | ⟨h1, h⟩
      · refine ⟨s, by rw [h, f2], by rw [f3]; exact unhide HB, ?_, (fr.mono hB1.size).below hB3⟩
        rw [f3, f3]; exact hsp.below hB3
      · omega
  obtain ⟨u, hru, hub, hup, fru⟩ := hr'
  clear hr
  rw [hru]
  clear hru
  have HU := hide hub
  clear hub
  have hB9 := bthen hB2 hB3
  generalize fitE lo hi = er at *
  go_wp2_with fail
  refine bodyPost_ret (v := .tuple #[.agg #[.bool u.ln, .slice u.la u.lN u.lc, .bool u.hn, .slice u.ha u.hN u.hc, .int .i64 u.bits], .int .i64 er]) (by simp [results, Try.results72, go_sem, t0, t1, t2, t3, t4]) rfl ⟨u, rfl, unhide HU, ?_, ?_, ?_⟩
  · exact SpAt.putN hup ⟨t0, t1, t2, t3, t4, t5⟩ _ _ _ _ _
  · exact set5 hB9 (Nat.le_refl _) _ _ _ _ _
  · exact fru.put5 _ _ _ _ _ _

set_option maxRecDepth 100000 in
set_option maxHeartbeats 2000000 in
theorem spanF_To (w : World) (s : Sp) (bt : Int) (d e : Nat → Int) (hs : SpDig w s d e) (b' : Int) (k : Nat) (lo hi er : Int)
    (hM : ∀ (W : World) (B0 B1 B cap : Nat), Below w.heap.size w W → SpC W B0 s → W.cell? ⟨B1, 0, none⟩ = some (.int .i64 bt) → B1 < W.heap.size → Spans W B 1 (fun _ => s) (fun _ => d) (fun _ => e) → Calls Try.prog 72 #[.func (.func 73) #[] #[.pointer (some ⟨B1, 0, none⟩), .pointer (some ⟨B0, 0, none⟩)], .slice (some ⟨B, 0, none⟩) 1 cap] W (PairF W b' k lo hi er)) :
    Calls Try.prog 16 #[.agg #[.bool s.ln, .slice s.la s.lN s.lc, .bool s.hn, .slice s.ha s.hN s.hc, .int .i64 s.bits], .int .i64 bt] w (PairF w b' k lo hi er) := by
  have HM := hide hM
  have HS := hide (fun W hS => spans1 W s d e 26 hS)
  clear hM
  go_enter Try.func16, Try.ntmps16
  go_wp2_with fail
  obtain ⟨W, hW⟩ : ∃ W, W = ((w.alloc (.cells #[.bool s.ln, .slice s.la s.lN s.lc, .bool s.hn, .slice s.ha s.hN s.hc, .int .i64 s.bits] 26)).alloc (.cells #[.int .i64 bt] 3)).alloc (.cells #[.bool false, .slice none 0 0, .bool false, .slice none 0 0, .int .i64 0] 26) := ⟨_, rfl⟩
  have s3 : W.heap.size = w.heap.size + 1 + 1 + 1 := by rw [hW]; simp
  have hBW : Below w.heap.size w W := by rw [hW]; exact bl3 _ _ _ _
  have a0 : SpC W w.heap.size s := by rw [hW]; exact ⟨by simp [go_sem], by simp [go_sem], by simp [go_sem], by simp [go_sem], by simp [go_sem]⟩
  have g0 : W.cell? ⟨w.heap.size + 1, 0, none⟩ = some (.int .i64 bt) := by rw [hW]; simp [go_sem]
  have g1 : w.heap.size + 1 < W.heap.size := by omega
  have r0 : NoC W (w.heap.size + 1 + 1) := by rw [hW]; exact ⟨by simp [go_sem], by simp [go_sem], by simp [go_sem], by simp [go_sem], by simp [go_sem], fun o => by simp [go_sem]⟩
  rw [← hW, ← s3]
  clear hW
  refine (unhide HM _ _ _ _ _ (bthen hBW (bl1 _ _)) (a0.below (bl1 _ _)) (((bl1 _ _).cell (p := ⟨w.heap.size + 1, 0, none⟩) g1).trans g0) (Nat.lt_of_lt_of_le g1 (bl1 _ _).size) (unhide HS W (hs.below hBW))).mono ?_
  rintro r w1 ⟨u, rfl, hub, hup, hb1, fr⟩
  have hB1 : Below W.heap.size W w1 := bthen (bl1 _ _) hb1
  obtain ⟨q0, q1, q2, q3, q4, q5⟩ := r0.below hB1
  have HB := hide hub
  clear hub
  go_wp2_with fail
  refine bodyPost_ret (v := .tuple #[.agg #[.bool u.ln, .slice u.la u.lN u.lc, .bool u.hn, .slice u.ha u.hN u.hc, .int .i64 u.bits], .int .i64 er]) (by simp [results, Try.results16, go_sem, q0, q1, q2, q3, q4]) rfl ⟨u, rfl, unhide HB, ?_, ?_, ?_⟩
  · exact SpAt.put5 hup q0 q1 q2 q3 q4 _ _ _ _ _
  · exact set5 (bthen hBW hB1) (by omega) _ _ _ _ _
  · exact (fr.mono (bthen hBW (bl1 _ _)).size).put5 _ _ _ _ _ _

end Go.Proofs.Ytgmnknmjainabaa
