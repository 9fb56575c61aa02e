/-
  That tailsurelaw.SpanAdds answers true of right spans by the same bits, and leaves old memory alone.
-/
import Derived.Test.YtgmnknmjainabaaK10
namespace Go.Proofs.Ytgmnknmjainabaa
set_option linter.unusedVariables false
set_option linter.unusedSimpArgs false
set_option linter.unnecessarySimpa false
open Go.RowKit
attribute [local go_sem ↓] Go.wp_at_zero Go.wp_at_succ

/-- What tailsureref.Done answers of a span by so many bits that has two numbers as its ends. -/
def SaidD (b : Int) (k : Nat) (L H : Int) (b' lo hi er : Int) : Prop :=
  ∀ W v, SpAt W v k L H → v.bits = b → Calls Try.prog 20 #[.agg #[.bool v.ln, .slice v.la v.lN v.lc, .bool v.hn, .slice v.ha v.hN v.hc, .int .i64 v.bits]] W (PairAns W b' k lo hi er)
theorem noc_new' (w : World) (B : Nat) (hB : w.heap.size = B) (T : TypeId) : NoC (w.alloc (.cells #[.bool false, .slice none 0 0, .bool false, .slice none 0 0, .int .i64 0] T)) B := by subst hB; exact noc_new w T

set_option maxRecDepth 100000 in
set_option maxHeartbeats 4000000 in
theorem adds_ok (w : World) (s t : Sp) (d e d' e' : Nat → Int) (hs : SpDig w s d e) (ht : SpDig w t d' e') (lo hi lo' hi' : Int) (ps : SpAt w s 250 lo hi) (pt : SpAt w t 250 lo' hi') (h1 : 1 ≤ s.bits) (h2 : s.bits ≤ 120) (hl : lo ≤ hi) (hl' : lo' ≤ hi')
    (b1 lo1 hi1 er1 b2 lo2 hi2 er2 b3 lo3 hi3 er3 b4 lo4 hi4 er4 : Int)
    (H1 : SaidP 27 s t d e d' e' b1 600 lo1 hi1 er1) (H2 : SaidP 28 s t d e d' e' b2 600 lo2 hi2 er2) (H3 : SaidP 29 s t d e d' e' b3 600 lo3 hi3 er3) (H4 : SaidP 30 s t d e d' e' b4 600 lo4 hi4 er4)
    (D1 : SaidD s.bits 600 (lo + lo') (hi + hi') b1 lo1 hi1 er1) (D2 : SaidD s.bits 600 (lo - hi') (hi - lo') b2 lo2 hi2 er2) (D3 : SaidD s.bits 600 (downZ (leastZ (pr4 (lo * lo') (lo * hi') (hi * lo') (hi * hi')) 3) s.bits) (-(downZ (-(mostZ (pr4 (lo * lo') (lo * hi') (hi * lo') (hi * hi')) 3)) s.bits)) b3 lo3 hi3 er3) (D4 : SaidD s.bits 600 (minZ lo lo') (maxZ hi hi') b4 lo4 hi4 er4)
    (Z1 : er1 ≠ 0 → lo1 = 0 ∧ hi1 = 0 ∧ b1 = 0) (Z2 : er2 ≠ 0 → lo2 = 0 ∧ hi2 = 0 ∧ b2 = 0) (Z3 : er3 ≠ 0 → lo3 = 0 ∧ hi3 = 0 ∧ b3 = 0) (Z4 : er4 ≠ 0 → lo4 = 0 ∧ hi4 = 0 ∧ b4 = 0)
    (HT : Said2 31 #[.agg #[.bool s.ln, .slice s.la s.lN s.lc, .bool s.hn, .slice s.ha s.hN s.hc, .int .i64 s.bits], .agg #[.bool t.ln, .slice t.la t.lN t.lc, .bool t.hn, .slice t.ha t.hN t.hc, .int .i64 t.bits]] s t d e d' e' (.int .i64 0)) :
    Calls Try.prog 4 #[.agg #[.bool s.ln, .slice s.la s.lN s.lc, .bool s.hn, .slice s.ha s.hN s.hc, .int .i64 s.bits], .agg #[.bool t.ln, .slice t.la t.lN t.lc, .bool t.hn, .slice t.ha t.hN t.hc, .int .i64 t.bits]] w fun r w' => r = .returned (.bool true) ∧ Below w.heap.size w w' := by
  obtain ⟨W, hW⟩ : ∃ W, W = (w.alloc (.cells #[.bool s.ln, .slice s.la s.lN s.lc, .bool s.hn, .slice s.ha s.hN s.hc, .int .i64 s.bits] 26)).alloc (.cells #[.bool t.ln, .slice t.la t.lN t.lc, .bool t.hn, .slice t.ha t.hN t.hc, .int .i64 t.bits] 26) := ⟨_, rfl⟩
  have hBW : Below w.heap.size w W := by rw [hW]; exact bl2 _ _ _
  have A : SpC W w.heap.size s := by rw [hW]; exact ⟨by simp [go_sem], by simp [go_sem], by simp [go_sem], by simp [go_sem], by simp [go_sem]⟩
  have G : SpC W (w.heap.size + 1) t := by rw [hW]; exact ⟨by simp [go_sem], by simp [go_sem], by simp [go_sem], by simp [go_sem], by simp [go_sem]⟩
  have DS := hide (hs.below hBW)
  have DT := hide (ht.below hBW)
  replace A := hide A
  replace G := hide G
  clear hs ht
  have PS := hide (ps.below hBW)
  have PT := hide (pt.below hBW)
  clear ps pt
  go_enter Try.func4, Try.ntmps4
  go_wp2_with fail
  rw [← hW]
  clear hW
  refine (H1 W (unhide DS) (unhide DT)).mono ?_
  rintro r w1 ⟨u1, rfl, hub1, hup1, hb1⟩
  have HUB1 := hide hub1
  clear hub1
  replace hBW := bthen hBW hb1
  replace A := hide ((unhide A).below hb1)
  replace G := hide ((unhide G).below hb1)
  replace DS := hide ((unhide DS).below hb1)
  replace DT := hide ((unhide DT).below hb1)
  replace PS := hide ((unhide PS).below hb1)
  replace PT := hide ((unhide PT).below hb1)
  clear hb1
  have la := (unhide A).lt
  have lg := (unhide G).lt
  obtain ⟨x0, x1, x2, x3, x4⟩ := unhide A
  obtain ⟨y0, y1, y2, y3, y4⟩ := unhide G
  obtain ⟨W1, hW1⟩ : ∃ W', W' = w1.alloc (.cells #[.bool u1.ln, .slice u1.la u1.lN u1.lc, .bool u1.hn, .slice u1.ha u1.hN u1.hc, .int .i64 u1.bits] 26) := ⟨_, rfl⟩
  have hc1 : Below w1.heap.size w1 W1 := by rw [hW1]; exact bl1 _ _
  have U1 := hide (show SpC W1 w1.heap.size u1 by rw [hW1]; exact spc_new _ _ _)
  go_wp2_with fail
  rw [← hW1]
  clear hW1 x0 x1 x2 x3 x4 y0 y1 y2 y3 y4 la lg
  replace hBW := bthen hBW hc1
  replace hup1 := hup1.below hc1
  replace A := hide ((unhide A).below hc1)
  replace G := hide ((unhide G).below hc1)
  replace DS := hide ((unhide DS).below hc1)
  replace DT := hide ((unhide DT).below hc1)
  replace PS := hide ((unhide PS).below hc1)
  replace PT := hide ((unhide PT).below hc1)
  clear hc1
  refine (H2 W1 (unhide DS) (unhide DT)).mono ?_
  rintro r w2 ⟨u2, rfl, hub2, hup2, hb2⟩
  have HUB2 := hide hub2
  clear hub2
  replace hBW := bthen hBW hb2
  replace A := hide ((unhide A).below hb2)
  replace G := hide ((unhide G).below hb2)
  replace DS := hide ((unhide DS).below hb2)
  replace DT := hide ((unhide DT).below hb2)
  replace PS := hide ((unhide PS).below hb2)
  replace PT := hide ((unhide PT).below hb2)
  replace U1 := hide ((unhide U1).below hb2)
  replace hup1 := hup1.below hb2
  clear hb2
  have la := (unhide A).lt
  have lg := (unhide G).lt
  obtain ⟨x0, x1, x2, x3, x4⟩ := unhide A
  obtain ⟨y0, y1, y2, y3, y4⟩ := unhide G
  obtain ⟨W2, hW2⟩ : ∃ W', W' = w2.alloc (.cells #[.bool u2.ln, .slice u2.la u2.lN u2.lc, .bool u2.hn, .slice u2.ha u2.hN u2.hc, .int .i64 u2.bits] 26) := ⟨_, rfl⟩
  have hc2 : Below w2.heap.size w2 W2 := by rw [hW2]; exact bl1 _ _
  have U2 := hide (show SpC W2 w2.heap.size u2 by rw [hW2]; exact spc_new _ _ _)
  go_wp2_with fail
  rw [← hW2]
  clear hW2 x0 x1 x2 x3 x4 y0 y1 y2 y3 y4 la lg
  replace hBW := bthen hBW hc2
  replace hup2 := hup2.below hc2
  replace A := hide ((unhide A).below hc2)
  replace G := hide ((unhide G).below hc2)
  replace DS := hide ((unhide DS).below hc2)
  replace DT := hide ((unhide DT).below hc2)
  replace PS := hide ((unhide PS).below hc2)
  replace PT := hide ((unhide PT).below hc2)
  replace U1 := hide ((unhide U1).below hc2)
  replace hup1 := hup1.below hc2
  clear hc2
  refine (H3 W2 (unhide DS) (unhide DT)).mono ?_
  rintro r w3 ⟨u3, rfl, hub3, hup3, hb3⟩
  have HUB3 := hide hub3
  clear hub3
  replace hBW := bthen hBW hb3
  replace A := hide ((unhide A).below hb3)
  replace G := hide ((unhide G).below hb3)
  replace DS := hide ((unhide DS).below hb3)
  replace DT := hide ((unhide DT).below hb3)
  replace PS := hide ((unhide PS).below hb3)
  replace PT := hide ((unhide PT).below hb3)
  replace U1 := hide ((unhide U1).below hb3)
  replace hup1 := hup1.below hb3
  replace U2 := hide ((unhide U2).below hb3)
  replace hup2 := hup2.below hb3
  clear hb3
  have la := (unhide A).lt
  have lg := (unhide G).lt
  obtain ⟨x0, x1, x2, x3, x4⟩ := unhide A
  obtain ⟨y0, y1, y2, y3, y4⟩ := unhide G
  obtain ⟨W3, hW3⟩ : ∃ W', W' = w3.alloc (.cells #[.bool u3.ln, .slice u3.la u3.lN u3.lc, .bool u3.hn, .slice u3.ha u3.hN u3.hc, .int .i64 u3.bits] 26) := ⟨_, rfl⟩
  have hc3 : Below w3.heap.size w3 W3 := by rw [hW3]; exact bl1 _ _
  have U3 := hide (show SpC W3 w3.heap.size u3 by rw [hW3]; exact spc_new _ _ _)
  go_wp2_with fail
  rw [← hW3]
  clear hW3 x0 x1 x2 x3 x4 y0 y1 y2 y3 y4 la lg
  replace hBW := bthen hBW hc3
  replace hup3 := hup3.below hc3
  replace A := hide ((unhide A).below hc3)
  replace G := hide ((unhide G).below hc3)
  replace DS := hide ((unhide DS).below hc3)
  replace DT := hide ((unhide DT).below hc3)
  replace PS := hide ((unhide PS).below hc3)
  replace PT := hide ((unhide PT).below hc3)
  replace U1 := hide ((unhide U1).below hc3)
  replace hup1 := hup1.below hc3
  replace U2 := hide ((unhide U2).below hc3)
  replace hup2 := hup2.below hc3
  clear hc3
  refine (H4 W3 (unhide DS) (unhide DT)).mono ?_
  rintro r w4 ⟨u4, rfl, hub4, hup4, hb4⟩
  have HUB4 := hide hub4
  clear hub4
  replace hBW := bthen hBW hb4
  replace A := hide ((unhide A).below hb4)
  replace G := hide ((unhide G).below hb4)
  replace DS := hide ((unhide DS).below hb4)
  replace DT := hide ((unhide DT).below hb4)
  replace PS := hide ((unhide PS).below hb4)
  replace PT := hide ((unhide PT).below hb4)
  replace U1 := hide ((unhide U1).below hb4)
  replace hup1 := hup1.below hb4
  replace U2 := hide ((unhide U2).below hb4)
  replace hup2 := hup2.below hb4
  replace U3 := hide ((unhide U3).below hb4)
  replace hup3 := hup3.below hb4
  clear hb4
  have la := (unhide A).lt
  have lg := (unhide G).lt
  obtain ⟨x0, x1, x2, x3, x4⟩ := unhide A
  obtain ⟨y0, y1, y2, y3, y4⟩ := unhide G
  obtain ⟨W4, hW4⟩ : ∃ W', W' = w4.alloc (.cells #[.bool u4.ln, .slice u4.la u4.lN u4.lc, .bool u4.hn, .slice u4.ha u4.hN u4.hc, .int .i64 u4.bits] 26) := ⟨_, rfl⟩
  have hc4 : Below w4.heap.size w4 W4 := by rw [hW4]; exact bl1 _ _
  have U4 := hide (show SpC W4 w4.heap.size u4 by rw [hW4]; exact spc_new _ _ _)
  go_wp2_with fail
  rw [← hW4]
  clear hW4 x0 x1 x2 x3 x4 y0 y1 y2 y3 y4 la lg
  replace hBW := bthen hBW hc4
  replace hup4 := hup4.below hc4
  replace A := hide ((unhide A).below hc4)
  replace G := hide ((unhide G).below hc4)
  replace DS := hide ((unhide DS).below hc4)
  replace DT := hide ((unhide DT).below hc4)
  replace PS := hide ((unhide PS).below hc4)
  replace PT := hide ((unhide PT).below hc4)
  replace U1 := hide ((unhide U1).below hc4)
  replace hup1 := hup1.below hc4
  replace U2 := hide ((unhide U2).below hc4)
  replace hup2 := hup2.below hc4
  replace U3 := hide ((unhide U3).below hc4)
  replace hup3 := hup3.below hc4
  clear hc4
  refine (HT W4 (unhide DS) (unhide DT)).mono ?_
  rintro r w5 ⟨rfl, hb5⟩
  replace hBW := bthen hBW hb5
  replace U1 := hide ((unhide U1).below hb5)
  replace hup1 := hup1.below hb5
  replace U2 := hide ((unhide U2).below hb5)
  replace hup2 := hup2.below hb5
  replace U3 := hide ((unhide U3).below hb5)
  replace hup3 := hup3.below hb5
  replace U4 := hide ((unhide U4).below hb5)
  replace hup4 := hup4.below hb5
  replace A := (unhide A).below hb5
  replace G := (unhide G).below hb5
  replace PS := hide ((unhide PS).below hb5)
  replace PT := hide ((unhide PT).below hb5)
  clear hb5 DS DT H1 H2 H3 H4 HT
  have la := A.lt
  have lg := G.lt
  have HK := hide (show ∀ w', Below w5.heap.size w5 w' → (w'.cell? ⟨w.heap.size, 0, none⟩ = some (.bool s.ln) ∧ w'.cell? ⟨w.heap.size, 1, none⟩ = some (.slice s.la s.lN s.lc) ∧ w'.cell? ⟨w.heap.size, 2, none⟩ = some (.bool s.hn) ∧ w'.cell? ⟨w.heap.size, 3, none⟩ = some (.slice s.ha s.hN s.hc) ∧ w'.cell? ⟨w.heap.size, 4, none⟩ = some (.int .i64 s.bits) ∧ w'.cell? ⟨w.heap.size + 1, 0, none⟩ = some (.bool t.ln) ∧ w'.cell? ⟨w.heap.size + 1, 1, none⟩ = some (.slice t.la t.lN t.lc) ∧ w'.cell? ⟨w.heap.size + 1, 2, none⟩ = some (.bool t.hn) ∧ w'.cell? ⟨w.heap.size + 1, 3, none⟩ = some (.slice t.ha t.hN t.hc) ∧ w'.cell? ⟨w.heap.size + 1, 4, none⟩ = some (.int .i64 t.bits)) from fun w' hB => by
    obtain ⟨x0, x1, x2, x3, x4⟩ := A.below hB
    obtain ⟨y0, y1, y2, y3, y4⟩ := G.below hB
    exact ⟨x0, x1, x2, x3, x4, y0, y1, y2, y3, y4⟩)
  obtain ⟨x0, x1, x2, x3, x4⟩ := A
  obtain ⟨y0, y1, y2, y3, y4⟩ := G
  go_wp2_with fail
  go_cut [15, 16] (fun p q wx => ∃ B5 B6 : Nat, p = .pointer (some ⟨B5, 0, none⟩) ∧ q = .pointer (some ⟨B6, 0, none⟩) ∧ SpC wx B5 s ∧ SpC wx B6 t ∧ B5 ≠ B6 ∧ Below w5.heap.size w5 wx)
  case first =>
    go_region_held3 (fun w' => w'.cell? ⟨w.heap.size, 0, none⟩ = some (.bool s.ln) ∧ w'.cell? ⟨w.heap.size, 1, none⟩ = some (.slice s.la s.lN s.lc) ∧ w'.cell? ⟨w.heap.size, 2, none⟩ = some (.bool s.hn) ∧ w'.cell? ⟨w.heap.size, 3, none⟩ = some (.slice s.ha s.hN s.hc) ∧ w'.cell? ⟨w.heap.size, 4, none⟩ = some (.int .i64 s.bits) ∧ w'.cell? ⟨w.heap.size + 1, 0, none⟩ = some (.bool t.ln) ∧ w'.cell? ⟨w.heap.size + 1, 1, none⟩ = some (.slice t.la t.lN t.lc) ∧ w'.cell? ⟨w.heap.size + 1, 2, none⟩ = some (.bool t.hn) ∧ w'.cell? ⟨w.heap.size + 1, 3, none⟩ = some (.slice t.ha t.hN t.hc) ∧ w'.cell? ⟨w.heap.size + 1, 4, none⟩ = some (.int .i64 t.bits)) (exact unhide HK _ (by repeat' (first | with_reducible exact hB7 | with_reducible exact hB6 | with_reducible exact Below.refl _ _ | with_reducible refine Below.drew ?_ | with_reducible refine balloc ?_ _ | with_reducible refine Below.setCell ?_ (by first | exact Nat.le_refl _ | exact hl6 | exact hl57 | (show _ ≤ _ + 1; omega)) _)))
      (first
        | (go_at_call 23; have hq := hb6; refine (refOf_any _ t).mono ?_; rintro r w7 ⟨rfl, hb7⟩; obtain ⟨hs7, hcell7, hfz7⟩ := near _ (Nat.le_refl _) hb7; (try simp at hs7); have hB67 : Below w6.heap.size w6 w7 := (by first | with_reducible exact hb7 | with_reducible exact bthen (bl1 _ _) hb7 | with_reducible exact bthen (bl2 _ _ _) hb7); have hB7 := bthen hB6 hB67; have hl7 := hB67.size; have hl57 := hB7.size; (try with_reducible have m5a := n5a.below hB67); (try with_reducible have m5b := n5b.below hB67); (try with_reducible have n6a := (noc_new w6 38).below hb7); (try with_reducible have n6a := ((noc_new w6 38).below (bl1 _ _)).below hb7); (try with_reducible have n6b := (noc_new' (w6.alloc _) (w6.heap.size + 1) (by simp) 38).below hb7); (try have k5a := m5a.lt); (try have k5b := m5b.lt); (try have k6a := n6a.lt); (try have k6b := n6b.lt); (try have e5a := Nat.ne_of_lt k5a); (try have e5a' := Nat.ne_of_gt k5a); (try have e6a := Nat.ne_of_lt k6a); (try have e6a' := Nat.ne_of_gt k6a); (try have e56 := Nat.ne_of_lt l5a); (try have e56' := Nat.ne_of_gt l5a); (try obtain ⟨v50, v51, v52, v53, v54, v55⟩ := m5a); (try obtain ⟨v60, v61, v62, v63, v64, v65⟩ := m5b); (try obtain ⟨v70, v71, v72, v73, v74, v75⟩ := n6a); (try obtain ⟨v80, v81, v82, v83, v84, v85⟩ := n6b))
        | (go_at_call 23; refine (refOf_any _ s).mono ?_; rintro r w6 ⟨rfl, hb6⟩; obtain ⟨hs6, hcell6, hfz6⟩ := near _ (Nat.le_refl _) hb6; (try simp at hs6); (try with_reducible have n5a := ((noc_new w5 38).below (Below.refl _ _).drew).below hb6); (try with_reducible have n5a := ((noc_new w5 38).below (bl1 _ _).drew).below hb6); (try with_reducible have n5b := ((noc_new' (w5.alloc _) (w5.heap.size + 1) (by simp) 38).below (Below.refl _ _).drew).below hb6); (try have l5a := n5a.lt); (try have l5b := n5b.lt); (try have d5a := n5a); (try have d5b := n5b); (try obtain ⟨z50, z51, z52, z53, z54, z55⟩ := d5a); (try obtain ⟨z60, z61, z62, z63, z64, z65⟩ := d5b); have hB6 : Below w5.heap.size w5 w6 := (by first | with_reducible exact bthen (Below.refl _ _).drew hb6 | with_reducible exact bthen (bl1 _ _).drew hb6 | with_reducible exact bthen (bl2 _ _ _).drew hb6); have hl6 := hB6.size))
    all_goals
      go_wp2_with fail
      go_meet
      refine ⟨_, _, rfl, rfl, ?_, ?_, ?_, ?_⟩
      · constructor <;> simp [go_sem, *]
      · constructor <;> simp [go_sem, *]
      · simp [*]
      · repeat' (first | with_reducible exact hB7 | with_reducible exact hB6 | with_reducible exact Below.refl _ _ | with_reducible refine Below.drew ?_ | with_reducible refine balloc ?_ _ | with_reducible refine Below.setCell ?_ (by first | exact Nat.le_refl _ | exact hl6 | exact hl57 | (show _ ≤ _ + 1; omega)) _)
  case rest =>
  obtain ⟨B5, B6, rfl, rfl, X5, X6, hne, hbl⟩ := hcut
  replace hBW := bthen hBW hbl
  have PS := hide ((unhide PS).below hbl)
  have PT := hide ((unhide PT).below hbl)
  replace hup1 := hup1.below hbl
  replace hup2 := hup2.below hbl
  replace hup3 := hup3.below hbl
  replace hup4 := hup4.below hbl
  replace U1 := hide ((unhide U1).below hbl)
  replace U2 := hide ((unhide U2).below hbl)
  replace U3 := hide ((unhide U3).below hbl)
  replace U4 := hide ((unhide U4).below hbl)
  clear hbl HK x0 x1 x2 x3 x4 y0 y1 y2 y3 y4 la lg
  have l5 := X5.lt
  have l6 := X6.lt
  have n5 := Nat.ne_of_lt l5
  have n6 := Nat.ne_of_lt l6
  have n5' := Nat.ne_of_gt l5
  have n6' := Nat.ne_of_gt l6
  replace X5 := hide X5
  replace X6 := hide X6
  have DD1 := hide D1
  have DD2 := hide D2
  have DD3 := hide D3
  have DD4 := hide D4
  have ZZ1 := hide Z1
  have ZZ2 := hide Z2
  have ZZ3 := hide Z3
  have ZZ4 := hide Z4
  clear D1 D2 D3 D4 Z1 Z2 Z3 Z4
  obtain ⟨W7, hW7⟩ : ∃ W', W' = wc.alloc (.cells #[.bool s.ln, .slice s.la s.lN s.lc, .bool s.hn, .slice s.ha s.hN s.hc, .int .i64 s.bits] 38) := ⟨_, rfl⟩
  have hc7 : Below wc.heap.size wc W7 := by rw [hW7]; exact bl1 _ _
  have X7 : SpC W7 wc.heap.size s := by rw [hW7]; exact spc_new _ _ _
  have F7 : ∀ o, W7.frozen? ⟨wc.heap.size, o, none⟩ = false := by intro o; rw [hW7]; simp [go_sem]
  obtain ⟨a0, a1, a2, a3, a4⟩ := unhide X5
  obtain ⟨g0, g1, g2, g3, g4⟩ := unhide X6
  go_wp2_with fail
  rw [← hW7]
  clear hW7 a0 a1 a2 a3 a4 g0 g1 g2 g3 g4
  refine (cmp_int _ _ _ _ _ _ _ _ 250 250 lo' lo _ ((unhide PT).lo.below hc7) ((unhide PS).lo.below hc7)).mono ?_
  rintro r wa ⟨rfl, hba⟩
  have hca := bthen hc7 hba
  have X7a := X7.below hba
  have l7 := X7a.lt
  have F7a : ∀ o, wa.frozen? ⟨wc.heap.size, o, none⟩ = false := fun o => (hba.frozen (p := ⟨wc.heap.size, o, none⟩) X7.lt).trans (F7 o)
  obtain ⟨a0, a1, a2, a3, a4⟩ := (unhide X5).below hca
  obtain ⟨g0, g1, g2, g3, g4⟩ := (unhide X6).below hca
  obtain ⟨k0, k1, k2, k3, k4⟩ := X7a
  clear hba F7 X7 hc7
  by_cases c1 : lo' < lo
  · have t1 : cmpInt lo' lo < 0 := by simp [cmpInt, c1]
    have hmin : minZ lo lo' = lo' := by simp [minZ, c1]
    clear c1
    replace hmin := hide hmin
    by_cases c2 : hi < hi'
    · have t2 : 0 < cmpInt hi' hi := by unfold cmpInt; rw [if_neg (by omega), if_pos c2]; omega
      have hmax : maxZ hi hi' = hi' := by simp [maxZ, c2]
      clear c2
      replace hmax := hide hmax
      obtain ⟨WA, hWA⟩ : ∃ W', W' = (wa.setCell ⟨wc.heap.size, 0, none⟩ (.bool t.ln)).setCell ⟨wc.heap.size, 1, none⟩ (.slice t.la t.lN t.lc) := ⟨_, rfl⟩
      have hcA : Below wc.heap.size wc WA := by rw [hWA]; exact (hca.setCell (p := ⟨wc.heap.size, 0, none⟩) (Nat.le_refl _) _).setCell (p := ⟨wc.heap.size, 1, none⟩) (Nat.le_refl _) _
      have X7A : SpC WA wc.heap.size ⟨t.ln, t.la, t.lN, t.lc, s.hn, s.ha, s.hN, s.hc, s.bits⟩ := by rw [hWA]; exact ⟨by simp [go_sem, k0, k1, k2, k3, k4], by simp [go_sem, k0, k1, k2, k3, k4], by simp [go_sem, k0, k1, k2, k3, k4], by simp [go_sem, k0, k1, k2, k3, k4], by simp [go_sem, k0, k1, k2, k3, k4]⟩
      have F7A : ∀ o, WA.frozen? ⟨wc.heap.size, o, none⟩ = false := by intro o; rw [hWA]; simp [go_sem, F7a]
      go_wp2_with fail
      rw [← hWA]
      clear hWA a0 a1 a2 a3 a4 g0 g1 g2 g3 g4 k0 k1 k2 k3 k4
      refine (cmp_int _ _ _ _ _ _ _ _ 250 250 hi' hi _ ((unhide PT).hi.below hcA) ((unhide PS).hi.below hcA)).mono ?_
      rintro r wb ⟨rfl, hbb⟩
      have hcb := bthen hcA hbb
      have X7b := X7A.below hbb
      have l7b := X7b.lt
      have F7b : ∀ o, wb.frozen? ⟨wc.heap.size, o, none⟩ = false := fun o => (hbb.frozen (p := ⟨wc.heap.size, o, none⟩) X7A.lt).trans (F7A o)
      obtain ⟨a0, a1, a2, a3, a4⟩ := (unhide X5).below hcb
      obtain ⟨g0, g1, g2, g3, g4⟩ := (unhide X6).below hcb
      obtain ⟨k0, k1, k2, k3, k4⟩ := X7b
      clear hbb F7A X7A hcA
      obtain ⟨WB, hWB⟩ : ∃ W', W' = (wb.setCell ⟨wc.heap.size, 2, none⟩ (.bool t.hn)).setCell ⟨wc.heap.size, 3, none⟩ (.slice t.ha t.hN t.hc) := ⟨_, rfl⟩
      have hc : Below wc.heap.size wc WB := by rw [hWB]; exact (hcb.setCell (p := ⟨wc.heap.size, 2, none⟩) (Nat.le_refl _) _).setCell (p := ⟨wc.heap.size, 3, none⟩) (Nat.le_refl _) _
      have X7 : SpC WB wc.heap.size ⟨t.ln, t.la, t.lN, t.lc, t.hn, t.ha, t.hN, t.hc, s.bits⟩ := by rw [hWB]; exact ⟨by simp [go_sem, k0, k1, k2, k3, k4], by simp [go_sem, k0, k1, k2, k3, k4], by simp [go_sem, k0, k1, k2, k3, k4], by simp [go_sem, k0, k1, k2, k3, k4], by simp [go_sem, k0, k1, k2, k3, k4]⟩
      go_wp2_with fail
      rw [← hWB]
      clear hWB a0 a1 a2 a3 a4 g0 g1 g2 g3 g4 k0 k1 k2 k3 k4 hcb F7b l7b
      have PV : SpAt WB ⟨t.ln, t.la, t.lN, t.lc, t.hn, t.ha, t.hN, t.hc, s.bits⟩ 250 lo' hi' := ⟨(unhide PT).lo.below hc, (unhide PT).hi.below hc⟩
      replace PV := hide PV
      replace X7 := hide X7
      refine (refPlus_int _ s t 250 lo hi lo' hi' ((unhide PS).below hc) ((unhide PT).below hc) (by omega)).mono ?_
      rintro r wp1 ⟨v1, rfl, hvb1, hvp1, hbp1⟩
      have HVB1 := hide hvb1
      clear hvb1
      replace hc := bthen hc hbp1
      replace X7 := hide ((unhide X7).below hbp1)
      replace PV := hide ((unhide PV).below hbp1)
      clear hbp1
      go_wp2_with fail
      refine (unhide DD1 _ v1 (hvp1.mono (by omega)) (unhide HVB1)).mono ?_
      rintro r wd1 ⟨z1, rfl, hzb1, hzp1, hbd1⟩
      have HZB1 := hide hzb1
      clear hzb1
      replace hc := bthen hc hbd1
      replace X7 := hide ((unhide X7).below hbd1)
      replace PV := hide ((unhide PV).below hbd1)
      clear hbd1
      obtain ⟨WD1, hWD1⟩ : ∃ W', W' = wd1.alloc (.cells #[.bool z1.ln, .slice z1.la z1.lN z1.lc, .bool z1.hn, .slice z1.ha z1.hN z1.hc, .int .i64 z1.bits] 26) := ⟨_, rfl⟩
      have hcd1 : Below wd1.heap.size wd1 WD1 := by rw [hWD1]; exact bl1 _ _
      have T1 := hide (show SpC WD1 wd1.heap.size z1 by rw [hWD1]; exact spc_new _ _ _)
      have htp1 := hzp1.below hcd1
      have m5 := Nat.lt_of_lt_of_le l5 hc.size
      have m6 := Nat.lt_of_lt_of_le l6 hc.size
      obtain ⟨a0, a1, a2, a3, a4⟩ := (unhide X5).below hc
      obtain ⟨g0, g1, g2, g3, g4⟩ := (unhide X6).below hc
      go_wp2_with fail
      rw [← hWD1]
      clear hWD1 a0 a1 a2 a3 a4 g0 g1 g2 g3 g4 m5 m6
      replace hc := bthen hc hcd1
      replace X7 := hide ((unhide X7).below hcd1)
      replace PV := hide ((unhide PV).below hcd1)
      clear hcd1
      refine (refLess_int _ s t 250 lo hi lo' hi' ((unhide PS).below hc) ((unhide PT).below hc) (by omega)).mono ?_
      rintro r wp2 ⟨v2, rfl, hvb2, hvp2, hbp2⟩
      have HVB2 := hide hvb2
      clear hvb2
      replace hc := bthen hc hbp2
      replace X7 := hide ((unhide X7).below hbp2)
      replace PV := hide ((unhide PV).below hbp2)
      replace T1 := hide ((unhide T1).below hbp2)
      replace htp1 := htp1.below hbp2
      clear hbp2
      go_wp2_with fail
      refine (unhide DD2 _ v2 (hvp2.mono (by omega)) (unhide HVB2)).mono ?_
      rintro r wd2 ⟨z2, rfl, hzb2, hzp2, hbd2⟩
      have HZB2 := hide hzb2
      clear hzb2
      replace hc := bthen hc hbd2
      replace X7 := hide ((unhide X7).below hbd2)
      replace PV := hide ((unhide PV).below hbd2)
      replace T1 := hide ((unhide T1).below hbd2)
      replace htp1 := htp1.below hbd2
      clear hbd2
      obtain ⟨WD2, hWD2⟩ : ∃ W', W' = wd2.alloc (.cells #[.bool z2.ln, .slice z2.la z2.lN z2.lc, .bool z2.hn, .slice z2.ha z2.hN z2.hc, .int .i64 z2.bits] 26) := ⟨_, rfl⟩
      have hcd2 : Below wd2.heap.size wd2 WD2 := by rw [hWD2]; exact bl1 _ _
      have T2 := hide (show SpC WD2 wd2.heap.size z2 by rw [hWD2]; exact spc_new _ _ _)
      have htp2 := hzp2.below hcd2
      have m5 := Nat.lt_of_lt_of_le l5 hc.size
      have m6 := Nat.lt_of_lt_of_le l6 hc.size
      obtain ⟨a0, a1, a2, a3, a4⟩ := (unhide X5).below hc
      obtain ⟨g0, g1, g2, g3, g4⟩ := (unhide X6).below hc
      go_wp2_with fail
      rw [← hWD2]
      clear hWD2 a0 a1 a2 a3 a4 g0 g1 g2 g3 g4 m5 m6
      replace hc := bthen hc hcd2
      replace X7 := hide ((unhide X7).below hcd2)
      replace PV := hide ((unhide PV).below hcd2)
      replace T1 := hide ((unhide T1).below hcd2)
      replace htp1 := htp1.below hcd2
      clear hcd2
      refine (refTimes_int _ s t 250 lo hi lo' hi' ((unhide PS).below hc) ((unhide PT).below hc) (by omega) (by omega) (by omega)).mono ?_
      rintro r wp3 ⟨v3, rfl, hvb3, hvp3, hbp3⟩
      have HVB3 := hide hvb3
      clear hvb3
      replace hc := bthen hc hbp3
      replace X7 := hide ((unhide X7).below hbp3)
      replace PV := hide ((unhide PV).below hbp3)
      replace T1 := hide ((unhide T1).below hbp3)
      replace htp1 := htp1.below hbp3
      replace T2 := hide ((unhide T2).below hbp3)
      replace htp2 := htp2.below hbp3
      clear hbp3
      go_wp2_with fail
      refine (unhide DD3 _ v3 (hvp3.mono (by omega)) (unhide HVB3)).mono ?_
      rintro r wd3 ⟨z3, rfl, hzb3, hzp3, hbd3⟩
      have HZB3 := hide hzb3
      clear hzb3
      replace hc := bthen hc hbd3
      replace X7 := hide ((unhide X7).below hbd3)
      replace PV := hide ((unhide PV).below hbd3)
      replace T1 := hide ((unhide T1).below hbd3)
      replace htp1 := htp1.below hbd3
      replace T2 := hide ((unhide T2).below hbd3)
      replace htp2 := htp2.below hbd3
      clear hbd3
      obtain ⟨WD3, hWD3⟩ : ∃ W', W' = wd3.alloc (.cells #[.bool z3.ln, .slice z3.la z3.lN z3.lc, .bool z3.hn, .slice z3.ha z3.hN z3.hc, .int .i64 z3.bits] 26) := ⟨_, rfl⟩
      have hcd3 : Below wd3.heap.size wd3 WD3 := by rw [hWD3]; exact bl1 _ _
      have T3 := hide (show SpC WD3 wd3.heap.size z3 by rw [hWD3]; exact spc_new _ _ _)
      have htp3 := hzp3.below hcd3
      have m7 := (unhide X7).lt
      obtain ⟨a0, a1, a2, a3, a4⟩ := unhide X7
      go_wp2_with fail
      rw [← hWD3]
      clear hWD3 a0 a1 a2 a3 a4 m7
      replace hc := bthen hc hcd3
      replace X7 := hide ((unhide X7).below hcd3)
      replace PV := hide ((unhide PV).below hcd3)
      replace T1 := hide ((unhide T1).below hcd3)
      replace htp1 := htp1.below hcd3
      replace T2 := hide ((unhide T2).below hcd3)
      replace htp2 := htp2.below hcd3
      clear hcd3
      refine (unhide DD4 _ ⟨t.ln, t.la, t.lN, t.lc, t.hn, t.ha, t.hN, t.hc, s.bits⟩ (by have h := (unhide PV); rw [unhide hmin, unhide hmax]; exact h.mono (by omega)) rfl).mono ?_
      rintro r wd4 ⟨z4, rfl, hzb4, hzp4, hbd4⟩
      have HZB4 := hide hzb4
      clear hzb4
      replace hc := bthen hc hbd4
      replace X7 := hide ((unhide X7).below hbd4)
      replace PV := hide ((unhide PV).below hbd4)
      replace T1 := hide ((unhide T1).below hbd4)
      replace htp1 := htp1.below hbd4
      replace T2 := hide ((unhide T2).below hbd4)
      replace htp2 := htp2.below hbd4
      replace T3 := hide ((unhide T3).below hbd4)
      replace htp3 := htp3.below hbd4
      clear hbd4
      obtain ⟨WD4, hWD4⟩ : ∃ W', W' = wd4.alloc (.cells #[.bool z4.ln, .slice z4.la z4.lN z4.lc, .bool z4.hn, .slice z4.ha z4.hN z4.hc, .int .i64 z4.bits] 26) := ⟨_, rfl⟩
      have hcd4 : Below wd4.heap.size wd4 WD4 := by rw [hWD4]; exact bl1 _ _
      have T4 := hide (show SpC WD4 wd4.heap.size z4 by rw [hWD4]; exact spc_new _ _ _)
      have htp4 := hzp4.below hcd4
      go_wp2_with fail
      rw [← hWD4]
      clear hWD4 
      replace hc := bthen hc hcd4
      replace X7 := hide ((unhide X7).below hcd4)
      replace PV := hide ((unhide PV).below hcd4)
      replace T1 := hide ((unhide T1).below hcd4)
      replace htp1 := htp1.below hcd4
      replace T2 := hide ((unhide T2).below hcd4)
      replace htp2 := htp2.below hcd4
      replace T3 := hide ((unhide T3).below hcd4)
      replace htp3 := htp3.below hcd4
      clear hcd4
      refine (spanBegun_any _).mono ?_
      rintro r wz ⟨rfl, hbz⟩
      replace hc := bthen hc hbz
      clear X7 PV
      replace T1 := hide ((unhide T1).below hbz)
      replace htp1 := htp1.below hbz
      replace U1 := hide ((unhide U1).below hc)
      replace hup1 := hup1.below hc
      replace T2 := hide ((unhide T2).below hbz)
      replace htp2 := htp2.below hbz
      replace U2 := hide ((unhide U2).below hc)
      replace hup2 := hup2.below hc
      replace T3 := hide ((unhide T3).below hbz)
      replace htp3 := htp3.below hbz
      replace U3 := hide ((unhide U3).below hc)
      replace hup3 := hup3.below hc
      replace T4 := hide ((unhide T4).below hbz)
      replace htp4 := htp4.below hbz
      replace U4 := hide ((unhide U4).below hc)
      replace hup4 := hup4.below hc
      replace hBW := bthen hBW hc
      clear hbz hc
      have lx := (unhide U1).lt
      have ly := (unhide T1).lt
      obtain ⟨x0, x1, x2, x3, x4⟩ := unhide U1
      obtain ⟨y0, y1, y2, y3, y4⟩ := unhide T1
      go_wp2_with fail
      clear x0 x1 x2 x3 x4 y0 y1 y2 y3 y4 lx ly
      refine (spanIs_true _ u1 z1 600 lo1 hi1 er1 hup1 htp1 ((unhide HUB1).trans (unhide HZB1).symm) (fun hq => ⟨(unhide ZZ1 hq).1, (unhide ZZ1 hq).2.1, (unhide HUB1).trans (unhide ZZ1 hq).2.2⟩)).mono ?_
      rintro r wy1 ⟨rfl, hby1⟩
      replace hBW := bthen hBW hby1
      replace T2 := hide ((unhide T2).below hby1)
      replace htp2 := htp2.below hby1
      replace U2 := hide ((unhide U2).below hby1)
      replace hup2 := hup2.below hby1
      replace T3 := hide ((unhide T3).below hby1)
      replace htp3 := htp3.below hby1
      replace U3 := hide ((unhide U3).below hby1)
      replace hup3 := hup3.below hby1
      replace T4 := hide ((unhide T4).below hby1)
      replace htp4 := htp4.below hby1
      replace U4 := hide ((unhide U4).below hby1)
      replace hup4 := hup4.below hby1
      have lx := (unhide U2).lt
      have ly := (unhide T2).lt
      obtain ⟨x0, x1, x2, x3, x4⟩ := unhide U2
      obtain ⟨y0, y1, y2, y3, y4⟩ := unhide T2
      go_wp2_with fail
      clear x0 x1 x2 x3 x4 y0 y1 y2 y3 y4 lx ly
      refine (spanIs_true _ u2 z2 600 lo2 hi2 er2 hup2 htp2 ((unhide HUB2).trans (unhide HZB2).symm) (fun hq => ⟨(unhide ZZ2 hq).1, (unhide ZZ2 hq).2.1, (unhide HUB2).trans (unhide ZZ2 hq).2.2⟩)).mono ?_
      rintro r wy2 ⟨rfl, hby2⟩
      replace hBW := bthen hBW hby2
      replace T3 := hide ((unhide T3).below hby2)
      replace htp3 := htp3.below hby2
      replace U3 := hide ((unhide U3).below hby2)
      replace hup3 := hup3.below hby2
      replace T4 := hide ((unhide T4).below hby2)
      replace htp4 := htp4.below hby2
      replace U4 := hide ((unhide U4).below hby2)
      replace hup4 := hup4.below hby2
      have lx := (unhide U3).lt
      have ly := (unhide T3).lt
      obtain ⟨x0, x1, x2, x3, x4⟩ := unhide U3
      obtain ⟨y0, y1, y2, y3, y4⟩ := unhide T3
      go_wp2_with fail
      clear x0 x1 x2 x3 x4 y0 y1 y2 y3 y4 lx ly
      refine (spanIs_true _ u3 z3 600 lo3 hi3 er3 hup3 htp3 ((unhide HUB3).trans (unhide HZB3).symm) (fun hq => ⟨(unhide ZZ3 hq).1, (unhide ZZ3 hq).2.1, (unhide HUB3).trans (unhide ZZ3 hq).2.2⟩)).mono ?_
      rintro r wy3 ⟨rfl, hby3⟩
      replace hBW := bthen hBW hby3
      replace T4 := hide ((unhide T4).below hby3)
      replace htp4 := htp4.below hby3
      replace U4 := hide ((unhide U4).below hby3)
      replace hup4 := hup4.below hby3
      have lx := (unhide U4).lt
      have ly := (unhide T4).lt
      obtain ⟨x0, x1, x2, x3, x4⟩ := unhide U4
      obtain ⟨y0, y1, y2, y3, y4⟩ := unhide T4
      go_wp2_with fail
      clear x0 x1 x2 x3 x4 y0 y1 y2 y3 y4 lx ly
      refine (spanIs_true _ u4 z4 600 lo4 hi4 er4 hup4 htp4 ((unhide HUB4).trans (unhide HZB4).symm) (fun hq => ⟨(unhide ZZ4 hq).1, (unhide ZZ4 hq).2.1, (unhide HUB4).trans (unhide ZZ4 hq).2.2⟩)).mono ?_
      rintro r wy4 ⟨rfl, hby4⟩
      replace hBW := bthen hBW hby4
      go_wp2_with fail
      go_ret
      exact ⟨rfl, hBW⟩
    · have t2 : ¬ 0 < cmpInt hi' hi := cmpInt_le0 c2
      have hmax : maxZ hi hi' = hi := by simp [maxZ, c2]
      clear c2
      replace hmax := hide hmax
      obtain ⟨WA, hWA⟩ : ∃ W', W' = (wa.setCell ⟨wc.heap.size, 0, none⟩ (.bool t.ln)).setCell ⟨wc.heap.size, 1, none⟩ (.slice t.la t.lN t.lc) := ⟨_, rfl⟩
      have hcA : Below wc.heap.size wc WA := by rw [hWA]; exact (hca.setCell (p := ⟨wc.heap.size, 0, none⟩) (Nat.le_refl _) _).setCell (p := ⟨wc.heap.size, 1, none⟩) (Nat.le_refl _) _
      have X7A : SpC WA wc.heap.size ⟨t.ln, t.la, t.lN, t.lc, s.hn, s.ha, s.hN, s.hc, s.bits⟩ := by rw [hWA]; exact ⟨by simp [go_sem, k0, k1, k2, k3, k4], by simp [go_sem, k0, k1, k2, k3, k4], by simp [go_sem, k0, k1, k2, k3, k4], by simp [go_sem, k0, k1, k2, k3, k4], by simp [go_sem, k0, k1, k2, k3, k4]⟩
      have F7A : ∀ o, WA.frozen? ⟨wc.heap.size, o, none⟩ = false := by intro o; rw [hWA]; simp [go_sem, F7a]
      go_wp2_with fail
      rw [← hWA]
      clear hWA a0 a1 a2 a3 a4 g0 g1 g2 g3 g4 k0 k1 k2 k3 k4
      refine (cmp_int _ _ _ _ _ _ _ _ 250 250 hi' hi _ ((unhide PT).hi.below hcA) ((unhide PS).hi.below hcA)).mono ?_
      rintro r wb ⟨rfl, hbb⟩
      have hcb := bthen hcA hbb
      have X7b := X7A.below hbb
      have l7b := X7b.lt
      have F7b : ∀ o, wb.frozen? ⟨wc.heap.size, o, none⟩ = false := fun o => (hbb.frozen (p := ⟨wc.heap.size, o, none⟩) X7A.lt).trans (F7A o)
      obtain ⟨a0, a1, a2, a3, a4⟩ := (unhide X5).below hcb
      obtain ⟨g0, g1, g2, g3, g4⟩ := (unhide X6).below hcb
      obtain ⟨k0, k1, k2, k3, k4⟩ := X7b
      clear hbb F7A X7A hcA
      obtain ⟨WB, hWB⟩ : ∃ W', W' = wb := ⟨_, rfl⟩
      have hc : Below wc.heap.size wc WB := by rw [hWB]; exact hcb
      have X7 : SpC WB wc.heap.size ⟨t.ln, t.la, t.lN, t.lc, s.hn, s.ha, s.hN, s.hc, s.bits⟩ := by rw [hWB]; exact ⟨by simp [go_sem, k0, k1, k2, k3, k4], by simp [go_sem, k0, k1, k2, k3, k4], by simp [go_sem, k0, k1, k2, k3, k4], by simp [go_sem, k0, k1, k2, k3, k4], by simp [go_sem, k0, k1, k2, k3, k4]⟩
      go_wp2_with fail
      rw [← hWB]
      clear hWB a0 a1 a2 a3 a4 g0 g1 g2 g3 g4 k0 k1 k2 k3 k4 hcb F7b l7b
      have PV : SpAt WB ⟨t.ln, t.la, t.lN, t.lc, s.hn, s.ha, s.hN, s.hc, s.bits⟩ 250 lo' hi := ⟨(unhide PT).lo.below hc, (unhide PS).hi.below hc⟩
      replace PV := hide PV
      replace X7 := hide X7
      refine (refPlus_int _ s t 250 lo hi lo' hi' ((unhide PS).below hc) ((unhide PT).below hc) (by omega)).mono ?_
      rintro r wp1 ⟨v1, rfl, hvb1, hvp1, hbp1⟩
      have HVB1 := hide hvb1
      clear hvb1
      replace hc := bthen hc hbp1
      replace X7 := hide ((unhide X7).below hbp1)
      replace PV := hide ((unhide PV).below hbp1)
      clear hbp1
      go_wp2_with fail
      refine (unhide DD1 _ v1 (hvp1.mono (by omega)) (unhide HVB1)).mono ?_
      rintro r wd1 ⟨z1, rfl, hzb1, hzp1, hbd1⟩
      have HZB1 := hide hzb1
      clear hzb1
      replace hc := bthen hc hbd1
      replace X7 := hide ((unhide X7).below hbd1)
      replace PV := hide ((unhide PV).below hbd1)
      clear hbd1
      obtain ⟨WD1, hWD1⟩ : ∃ W', W' = wd1.alloc (.cells #[.bool z1.ln, .slice z1.la z1.lN z1.lc, .bool z1.hn, .slice z1.ha z1.hN z1.hc, .int .i64 z1.bits] 26) := ⟨_, rfl⟩
      have hcd1 : Below wd1.heap.size wd1 WD1 := by rw [hWD1]; exact bl1 _ _
      have T1 := hide (show SpC WD1 wd1.heap.size z1 by rw [hWD1]; exact spc_new _ _ _)
      have htp1 := hzp1.below hcd1
      have m5 := Nat.lt_of_lt_of_le l5 hc.size
      have m6 := Nat.lt_of_lt_of_le l6 hc.size
      obtain ⟨a0, a1, a2, a3, a4⟩ := (unhide X5).below hc
      obtain ⟨g0, g1, g2, g3, g4⟩ := (unhide X6).below hc
      go_wp2_with fail
      rw [← hWD1]
      clear hWD1 a0 a1 a2 a3 a4 g0 g1 g2 g3 g4 m5 m6
      replace hc := bthen hc hcd1
      replace X7 := hide ((unhide X7).below hcd1)
      replace PV := hide ((unhide PV).below hcd1)
      clear hcd1
      refine (refLess_int _ s t 250 lo hi lo' hi' ((unhide PS).below hc) ((unhide PT).below hc) (by omega)).mono ?_
      rintro r wp2 ⟨v2, rfl, hvb2, hvp2, hbp2⟩
      have HVB2 := hide hvb2
      clear hvb2
      replace hc := bthen hc hbp2
      replace X7 := hide ((unhide X7).below hbp2)
      replace PV := hide ((unhide PV).below hbp2)
      replace T1 := hide ((unhide T1).below hbp2)
      replace htp1 := htp1.below hbp2
      clear hbp2
      go_wp2_with fail
      refine (unhide DD2 _ v2 (hvp2.mono (by omega)) (unhide HVB2)).mono ?_
      rintro r wd2 ⟨z2, rfl, hzb2, hzp2, hbd2⟩
      have HZB2 := hide hzb2
      clear hzb2
      replace hc := bthen hc hbd2
      replace X7 := hide ((unhide X7).below hbd2)
      replace PV := hide ((unhide PV).below hbd2)
      replace T1 := hide ((unhide T1).below hbd2)
      replace htp1 := htp1.below hbd2
      clear hbd2
      obtain ⟨WD2, hWD2⟩ : ∃ W', W' = wd2.alloc (.cells #[.bool z2.ln, .slice z2.la z2.lN z2.lc, .bool z2.hn, .slice z2.ha z2.hN z2.hc, .int .i64 z2.bits] 26) := ⟨_, rfl⟩
      have hcd2 : Below wd2.heap.size wd2 WD2 := by rw [hWD2]; exact bl1 _ _
      have T2 := hide (show SpC WD2 wd2.heap.size z2 by rw [hWD2]; exact spc_new _ _ _)
      have htp2 := hzp2.below hcd2
      have m5 := Nat.lt_of_lt_of_le l5 hc.size
      have m6 := Nat.lt_of_lt_of_le l6 hc.size
      obtain ⟨a0, a1, a2, a3, a4⟩ := (unhide X5).below hc
      obtain ⟨g0, g1, g2, g3, g4⟩ := (unhide X6).below hc
      go_wp2_with fail
      rw [← hWD2]
      clear hWD2 a0 a1 a2 a3 a4 g0 g1 g2 g3 g4 m5 m6
      replace hc := bthen hc hcd2
      replace X7 := hide ((unhide X7).below hcd2)
      replace PV := hide ((unhide PV).below hcd2)
      replace T1 := hide ((unhide T1).below hcd2)
      replace htp1 := htp1.below hcd2
      clear hcd2
      refine (refTimes_int _ s t 250 lo hi lo' hi' ((unhide PS).below hc) ((unhide PT).below hc) (by omega) (by omega) (by omega)).mono ?_
      rintro r wp3 ⟨v3, rfl, hvb3, hvp3, hbp3⟩
      have HVB3 := hide hvb3
      clear hvb3
      replace hc := bthen hc hbp3
      replace X7 := hide ((unhide X7).below hbp3)
      replace PV := hide ((unhide PV).below hbp3)
      replace T1 := hide ((unhide T1).below hbp3)
      replace htp1 := htp1.below hbp3
      replace T2 := hide ((unhide T2).below hbp3)
      replace htp2 := htp2.below hbp3
      clear hbp3
      go_wp2_with fail
      refine (unhide DD3 _ v3 (hvp3.mono (by omega)) (unhide HVB3)).mono ?_
      rintro r wd3 ⟨z3, rfl, hzb3, hzp3, hbd3⟩
      have HZB3 := hide hzb3
      clear hzb3
      replace hc := bthen hc hbd3
      replace X7 := hide ((unhide X7).below hbd3)
      replace PV := hide ((unhide PV).below hbd3)
      replace T1 := hide ((unhide T1).below hbd3)
      replace htp1 := htp1.below hbd3
      replace T2 := hide ((unhide T2).below hbd3)
      replace htp2 := htp2.below hbd3
      clear hbd3
      obtain ⟨WD3, hWD3⟩ : ∃ W', W' = wd3.alloc (.cells #[.bool z3.ln, .slice z3.la z3.lN z3.lc, .bool z3.hn, .slice z3.ha z3.hN z3.hc, .int .i64 z3.bits] 26) := ⟨_, rfl⟩
      have hcd3 : Below wd3.heap.size wd3 WD3 := by rw [hWD3]; exact bl1 _ _
      have T3 := hide (show SpC WD3 wd3.heap.size z3 by rw [hWD3]; exact spc_new _ _ _)
      have htp3 := hzp3.below hcd3
      have m7 := (unhide X7).lt
      obtain ⟨a0, a1, a2, a3, a4⟩ := unhide X7
      go_wp2_with fail
      rw [← hWD3]
      clear hWD3 a0 a1 a2 a3 a4 m7
      replace hc := bthen hc hcd3
      replace X7 := hide ((unhide X7).below hcd3)
      replace PV := hide ((unhide PV).below hcd3)
      replace T1 := hide ((unhide T1).below hcd3)
      replace htp1 := htp1.below hcd3
      replace T2 := hide ((unhide T2).below hcd3)
      replace htp2 := htp2.below hcd3
      clear hcd3
      refine (unhide DD4 _ ⟨t.ln, t.la, t.lN, t.lc, s.hn, s.ha, s.hN, s.hc, s.bits⟩ (by have h := (unhide PV); rw [unhide hmin, unhide hmax]; exact h.mono (by omega)) rfl).mono ?_
      rintro r wd4 ⟨z4, rfl, hzb4, hzp4, hbd4⟩
      have HZB4 := hide hzb4
      clear hzb4
      replace hc := bthen hc hbd4
      replace X7 := hide ((unhide X7).below hbd4)
      replace PV := hide ((unhide PV).below hbd4)
      replace T1 := hide ((unhide T1).below hbd4)
      replace htp1 := htp1.below hbd4
      replace T2 := hide ((unhide T2).below hbd4)
      replace htp2 := htp2.below hbd4
      replace T3 := hide ((unhide T3).below hbd4)
      replace htp3 := htp3.below hbd4
      clear hbd4
      obtain ⟨WD4, hWD4⟩ : ∃ W', W' = wd4.alloc (.cells #[.bool z4.ln, .slice z4.la z4.lN z4.lc, .bool z4.hn, .slice z4.ha z4.hN z4.hc, .int .i64 z4.bits] 26) := ⟨_, rfl⟩
      have hcd4 : Below wd4.heap.size wd4 WD4 := by rw [hWD4]; exact bl1 _ _
      have T4 := hide (show SpC WD4 wd4.heap.size z4 by rw [hWD4]; exact spc_new _ _ _)
      have htp4 := hzp4.below hcd4
      go_wp2_with fail
      rw [← hWD4]
      clear hWD4 
      replace hc := bthen hc hcd4
      replace X7 := hide ((unhide X7).below hcd4)
      replace PV := hide ((unhide PV).below hcd4)
      replace T1 := hide ((unhide T1).below hcd4)
      replace htp1 := htp1.below hcd4
      replace T2 := hide ((unhide T2).below hcd4)
      replace htp2 := htp2.below hcd4
      replace T3 := hide ((unhide T3).below hcd4)
      replace htp3 := htp3.below hcd4
      clear hcd4
      refine (spanBegun_any _).mono ?_
      rintro r wz ⟨rfl, hbz⟩
      replace hc := bthen hc hbz
      clear X7 PV
      replace T1 := hide ((unhide T1).below hbz)
      replace htp1 := htp1.below hbz
      replace U1 := hide ((unhide U1).below hc)
      replace hup1 := hup1.below hc
      replace T2 := hide ((unhide T2).below hbz)
      replace htp2 := htp2.below hbz
      replace U2 := hide ((unhide U2).below hc)
      replace hup2 := hup2.below hc
      replace T3 := hide ((unhide T3).below hbz)
      replace htp3 := htp3.below hbz
      replace U3 := hide ((unhide U3).below hc)
      replace hup3 := hup3.below hc
      replace T4 := hide ((unhide T4).below hbz)
      replace htp4 := htp4.below hbz
      replace U4 := hide ((unhide U4).below hc)
      replace hup4 := hup4.below hc
      replace hBW := bthen hBW hc
      clear hbz hc
      have lx := (unhide U1).lt
      have ly := (unhide T1).lt
      obtain ⟨x0, x1, x2, x3, x4⟩ := unhide U1
      obtain ⟨y0, y1, y2, y3, y4⟩ := unhide T1
      go_wp2_with fail
      clear x0 x1 x2 x3 x4 y0 y1 y2 y3 y4 lx ly
      refine (spanIs_true _ u1 z1 600 lo1 hi1 er1 hup1 htp1 ((unhide HUB1).trans (unhide HZB1).symm) (fun hq => ⟨(unhide ZZ1 hq).1, (unhide ZZ1 hq).2.1, (unhide HUB1).trans (unhide ZZ1 hq).2.2⟩)).mono ?_
      rintro r wy1 ⟨rfl, hby1⟩
      replace hBW := bthen hBW hby1
      replace T2 := hide ((unhide T2).below hby1)
      replace htp2 := htp2.below hby1
      replace U2 := hide ((unhide U2).below hby1)
      replace hup2 := hup2.below hby1
      replace T3 := hide ((unhide T3).below hby1)
      replace htp3 := htp3.below hby1
      replace U3 := hide ((unhide U3).below hby1)
      replace hup3 := hup3.below hby1
      replace T4 := hide ((unhide T4).below hby1)
      replace htp4 := htp4.below hby1
      replace U4 := hide ((unhide U4).below hby1)
      replace hup4 := hup4.below hby1
      have lx := (unhide U2).lt
      have ly := (unhide T2).lt
      obtain ⟨x0, x1, x2, x3, x4⟩ := unhide U2
      obtain ⟨y0, y1, y2, y3, y4⟩ := unhide T2
      go_wp2_with fail
      clear x0 x1 x2 x3 x4 y0 y1 y2 y3 y4 lx ly
      refine (spanIs_true _ u2 z2 600 lo2 hi2 er2 hup2 htp2 ((unhide HUB2).trans (unhide HZB2).symm) (fun hq => ⟨(unhide ZZ2 hq).1, (unhide ZZ2 hq).2.1, (unhide HUB2).trans (unhide ZZ2 hq).2.2⟩)).mono ?_
      rintro r wy2 ⟨rfl, hby2⟩
      replace hBW := bthen hBW hby2
      replace T3 := hide ((unhide T3).below hby2)
      replace htp3 := htp3.below hby2
      replace U3 := hide ((unhide U3).below hby2)
      replace hup3 := hup3.below hby2
      replace T4 := hide ((unhide T4).below hby2)
      replace htp4 := htp4.below hby2
      replace U4 := hide ((unhide U4).below hby2)
      replace hup4 := hup4.below hby2
      have lx := (unhide U3).lt
      have ly := (unhide T3).lt
      obtain ⟨x0, x1, x2, x3, x4⟩ := unhide U3
      obtain ⟨y0, y1, y2, y3, y4⟩ := unhide T3
      go_wp2_with fail
      clear x0 x1 x2 x3 x4 y0 y1 y2 y3 y4 lx ly
      refine (spanIs_true _ u3 z3 600 lo3 hi3 er3 hup3 htp3 ((unhide HUB3).trans (unhide HZB3).symm) (fun hq => ⟨(unhide ZZ3 hq).1, (unhide ZZ3 hq).2.1, (unhide HUB3).trans (unhide ZZ3 hq).2.2⟩)).mono ?_
      rintro r wy3 ⟨rfl, hby3⟩
      replace hBW := bthen hBW hby3
      replace T4 := hide ((unhide T4).below hby3)
      replace htp4 := htp4.below hby3
      replace U4 := hide ((unhide U4).below hby3)
      replace hup4 := hup4.below hby3
      have lx := (unhide U4).lt
      have ly := (unhide T4).lt
      obtain ⟨x0, x1, x2, x3, x4⟩ := unhide U4
      obtain ⟨y0, y1, y2, y3, y4⟩ := unhide T4
      go_wp2_with fail
      clear x0 x1 x2 x3 x4 y0 y1 y2 y3 y4 lx ly
      refine (spanIs_true _ u4 z4 600 lo4 hi4 er4 hup4 htp4 ((unhide HUB4).trans (unhide HZB4).symm) (fun hq => ⟨(unhide ZZ4 hq).1, (unhide ZZ4 hq).2.1, (unhide HUB4).trans (unhide ZZ4 hq).2.2⟩)).mono ?_
      rintro r wy4 ⟨rfl, hby4⟩
      replace hBW := bthen hBW hby4
      go_wp2_with fail
      go_ret
      exact ⟨rfl, hBW⟩
  · have t1 : ¬ cmpInt lo' lo < 0 := cmpInt_ge0 c1
    have hmin : minZ lo lo' = lo := by simp [minZ, c1]
    clear c1
    replace hmin := hide hmin
    by_cases c2 : hi < hi'
    · have t2 : 0 < cmpInt hi' hi := by unfold cmpInt; rw [if_neg (by omega), if_pos c2]; omega
      have hmax : maxZ hi hi' = hi' := by simp [maxZ, c2]
      clear c2
      replace hmax := hide hmax
      obtain ⟨WA, hWA⟩ : ∃ W', W' = wa := ⟨_, rfl⟩
      have hcA : Below wc.heap.size wc WA := by rw [hWA]; exact hca
      have X7A : SpC WA wc.heap.size ⟨s.ln, s.la, s.lN, s.lc, s.hn, s.ha, s.hN, s.hc, s.bits⟩ := by rw [hWA]; exact ⟨by simp [go_sem, k0, k1, k2, k3, k4], by simp [go_sem, k0, k1, k2, k3, k4], by simp [go_sem, k0, k1, k2, k3, k4], by simp [go_sem, k0, k1, k2, k3, k4], by simp [go_sem, k0, k1, k2, k3, k4]⟩
      have F7A : ∀ o, WA.frozen? ⟨wc.heap.size, o, none⟩ = false := by intro o; rw [hWA]; simp [go_sem, F7a]
      go_wp2_with fail
      rw [← hWA]
      clear hWA a0 a1 a2 a3 a4 g0 g1 g2 g3 g4 k0 k1 k2 k3 k4
      refine (cmp_int _ _ _ _ _ _ _ _ 250 250 hi' hi _ ((unhide PT).hi.below hcA) ((unhide PS).hi.below hcA)).mono ?_
      rintro r wb ⟨rfl, hbb⟩
      have hcb := bthen hcA hbb
      have X7b := X7A.below hbb
      have l7b := X7b.lt
      have F7b : ∀ o, wb.frozen? ⟨wc.heap.size, o, none⟩ = false := fun o => (hbb.frozen (p := ⟨wc.heap.size, o, none⟩) X7A.lt).trans (F7A o)
      obtain ⟨a0, a1, a2, a3, a4⟩ := (unhide X5).below hcb
      obtain ⟨g0, g1, g2, g3, g4⟩ := (unhide X6).below hcb
      obtain ⟨k0, k1, k2, k3, k4⟩ := X7b
      clear hbb F7A X7A hcA
      obtain ⟨WB, hWB⟩ : ∃ W', W' = (wb.setCell ⟨wc.heap.size, 2, none⟩ (.bool t.hn)).setCell ⟨wc.heap.size, 3, none⟩ (.slice t.ha t.hN t.hc) := ⟨_, rfl⟩
      have hc : Below wc.heap.size wc WB := by rw [hWB]; exact (hcb.setCell (p := ⟨wc.heap.size, 2, none⟩) (Nat.le_refl _) _).setCell (p := ⟨wc.heap.size, 3, none⟩) (Nat.le_refl _) _
      have X7 : SpC WB wc.heap.size ⟨s.ln, s.la, s.lN, s.lc, t.hn, t.ha, t.hN, t.hc, s.bits⟩ := by rw [hWB]; exact ⟨by simp [go_sem, k0, k1, k2, k3, k4], by simp [go_sem, k0, k1, k2, k3, k4], by simp [go_sem, k0, k1, k2, k3, k4], by simp [go_sem, k0, k1, k2, k3, k4], by simp [go_sem, k0, k1, k2, k3, k4]⟩
      go_wp2_with fail
      rw [← hWB]
      clear hWB a0 a1 a2 a3 a4 g0 g1 g2 g3 g4 k0 k1 k2 k3 k4 hcb F7b l7b
      have PV : SpAt WB ⟨s.ln, s.la, s.lN, s.lc, t.hn, t.ha, t.hN, t.hc, s.bits⟩ 250 lo hi' := ⟨(unhide PS).lo.below hc, (unhide PT).hi.below hc⟩
      replace PV := hide PV
      replace X7 := hide X7
      refine (refPlus_int _ s t 250 lo hi lo' hi' ((unhide PS).below hc) ((unhide PT).below hc) (by omega)).mono ?_
      rintro r wp1 ⟨v1, rfl, hvb1, hvp1, hbp1⟩
      have HVB1 := hide hvb1
      clear hvb1
      replace hc := bthen hc hbp1
      replace X7 := hide ((unhide X7).below hbp1)
      replace PV := hide ((unhide PV).below hbp1)
      clear hbp1
      go_wp2_with fail
      refine (unhide DD1 _ v1 (hvp1.mono (by omega)) (unhide HVB1)).mono ?_
      rintro r wd1 ⟨z1, rfl, hzb1, hzp1, hbd1⟩
      have HZB1 := hide hzb1
      clear hzb1
      replace hc := bthen hc hbd1
      replace X7 := hide ((unhide X7).below hbd1)
      replace PV := hide ((unhide PV).below hbd1)
      clear hbd1
      obtain ⟨WD1, hWD1⟩ : ∃ W', W' = wd1.alloc (.cells #[.bool z1.ln, .slice z1.la z1.lN z1.lc, .bool z1.hn, .slice z1.ha z1.hN z1.hc, .int .i64 z1.bits] 26) := ⟨_, rfl⟩
      have hcd1 : Below wd1.heap.size wd1 WD1 := by rw [hWD1]; exact bl1 _ _
      have T1 := hide (show SpC WD1 wd1.heap.size z1 by rw [hWD1]; exact spc_new _ _ _)
      have htp1 := hzp1.below hcd1
      have m5 := Nat.lt_of_lt_of_le l5 hc.size
      have m6 := Nat.lt_of_lt_of_le l6 hc.size
      obtain ⟨a0, a1, a2, a3, a4⟩ := (unhide X5).below hc
      obtain ⟨g0, g1, g2, g3, g4⟩ := (unhide X6).below hc
      go_wp2_with fail
      rw [← hWD1]
      clear hWD1 a0 a1 a2 a3 a4 g0 g1 g2 g3 g4 m5 m6
      replace hc := bthen hc hcd1
      replace X7 := hide ((unhide X7).below hcd1)
      replace PV := hide ((unhide PV).below hcd1)
      clear hcd1
      refine (refLess_int _ s t 250 lo hi lo' hi' ((unhide PS).below hc) ((unhide PT).below hc) (by omega)).mono ?_
      rintro r wp2 ⟨v2, rfl, hvb2, hvp2, hbp2⟩
      have HVB2 := hide hvb2
      clear hvb2
      replace hc := bthen hc hbp2
      replace X7 := hide ((unhide X7).below hbp2)
      replace PV := hide ((unhide PV).below hbp2)
      replace T1 := hide ((unhide T1).below hbp2)
      replace htp1 := htp1.below hbp2
      clear hbp2
      go_wp2_with fail
      refine (unhide DD2 _ v2 (hvp2.mono (by omega)) (unhide HVB2)).mono ?_
      rintro r wd2 ⟨z2, rfl, hzb2, hzp2, hbd2⟩
      have HZB2 := hide hzb2
      clear hzb2
      replace hc := bthen hc hbd2
      replace X7 := hide ((unhide X7).below hbd2)
      replace PV := hide ((unhide PV).below hbd2)
      replace T1 := hide ((unhide T1).below hbd2)
      replace htp1 := htp1.below hbd2
      clear hbd2
      obtain ⟨WD2, hWD2⟩ : ∃ W', W' = wd2.alloc (.cells #[.bool z2.ln, .slice z2.la z2.lN z2.lc, .bool z2.hn, .slice z2.ha z2.hN z2.hc, .int .i64 z2.bits] 26) := ⟨_, rfl⟩
      have hcd2 : Below wd2.heap.size wd2 WD2 := by rw [hWD2]; exact bl1 _ _
      have T2 := hide (show SpC WD2 wd2.heap.size z2 by rw [hWD2]; exact spc_new _ _ _)
      have htp2 := hzp2.below hcd2
      have m5 := Nat.lt_of_lt_of_le l5 hc.size
      have m6 := Nat.lt_of_lt_of_le l6 hc.size
      obtain ⟨a0, a1, a2, a3, a4⟩ := (unhide X5).below hc
      obtain ⟨g0, g1, g2, g3, g4⟩ := (unhide X6).below hc
      go_wp2_with fail
      rw [← hWD2]
      clear hWD2 a0 a1 a2 a3 a4 g0 g1 g2 g3 g4 m5 m6
      replace hc := bthen hc hcd2
      replace X7 := hide ((unhide X7).below hcd2)
      replace PV := hide ((unhide PV).below hcd2)
      replace T1 := hide ((unhide T1).below hcd2)
      replace htp1 := htp1.below hcd2
      clear hcd2
      refine (refTimes_int _ s t 250 lo hi lo' hi' ((unhide PS).below hc) ((unhide PT).below hc) (by omega) (by omega) (by omega)).mono ?_
      rintro r wp3 ⟨v3, rfl, hvb3, hvp3, hbp3⟩
      have HVB3 := hide hvb3
      clear hvb3
      replace hc := bthen hc hbp3
      replace X7 := hide ((unhide X7).below hbp3)
      replace PV := hide ((unhide PV).below hbp3)
      replace T1 := hide ((unhide T1).below hbp3)
      replace htp1 := htp1.below hbp3
      replace T2 := hide ((unhide T2).below hbp3)
      replace htp2 := htp2.below hbp3
      clear hbp3
      go_wp2_with fail
      refine (unhide DD3 _ v3 (hvp3.mono (by omega)) (unhide HVB3)).mono ?_
      rintro r wd3 ⟨z3, rfl, hzb3, hzp3, hbd3⟩
      have HZB3 := hide hzb3
      clear hzb3
      replace hc := bthen hc hbd3
      replace X7 := hide ((unhide X7).below hbd3)
      replace PV := hide ((unhide PV).below hbd3)
      replace T1 := hide ((unhide T1).below hbd3)
      replace htp1 := htp1.below hbd3
      replace T2 := hide ((unhide T2).below hbd3)
      replace htp2 := htp2.below hbd3
      clear hbd3
      obtain ⟨WD3, hWD3⟩ : ∃ W', W' = wd3.alloc (.cells #[.bool z3.ln, .slice z3.la z3.lN z3.lc, .bool z3.hn, .slice z3.ha z3.hN z3.hc, .int .i64 z3.bits] 26) := ⟨_, rfl⟩
      have hcd3 : Below wd3.heap.size wd3 WD3 := by rw [hWD3]; exact bl1 _ _
      have T3 := hide (show SpC WD3 wd3.heap.size z3 by rw [hWD3]; exact spc_new _ _ _)
      have htp3 := hzp3.below hcd3
      have m7 := (unhide X7).lt
      obtain ⟨a0, a1, a2, a3, a4⟩ := unhide X7
      go_wp2_with fail
      rw [← hWD3]
      clear hWD3 a0 a1 a2 a3 a4 m7
      replace hc := bthen hc hcd3
      replace X7 := hide ((unhide X7).below hcd3)
      replace PV := hide ((unhide PV).below hcd3)
      replace T1 := hide ((unhide T1).below hcd3)
      replace htp1 := htp1.below hcd3
      replace T2 := hide ((unhide T2).below hcd3)
      replace htp2 := htp2.below hcd3
      clear hcd3
      refine (unhide DD4 _ ⟨s.ln, s.la, s.lN, s.lc, t.hn, t.ha, t.hN, t.hc, s.bits⟩ (by have h := (unhide PV); rw [unhide hmin, unhide hmax]; exact h.mono (by omega)) rfl).mono ?_
      rintro r wd4 ⟨z4, rfl, hzb4, hzp4, hbd4⟩
      have HZB4 := hide hzb4
      clear hzb4
      replace hc := bthen hc hbd4
      replace X7 := hide ((unhide X7).below hbd4)
      replace PV := hide ((unhide PV).below hbd4)
      replace T1 := hide ((unhide T1).below hbd4)
      replace htp1 := htp1.below hbd4
      replace T2 := hide ((unhide T2).below hbd4)
      replace htp2 := htp2.below hbd4
      replace T3 := hide ((unhide T3).below hbd4)
      replace htp3 := htp3.below hbd4
      clear hbd4
      obtain ⟨WD4, hWD4⟩ : ∃ W', W' = wd4.alloc (.cells #[.bool z4.ln, .slice z4.la z4.lN z4.lc, .bool z4.hn, .slice z4.ha z4.hN z4.hc, .int .i64 z4.bits] 26) := ⟨_, rfl⟩
      have hcd4 : Below wd4.heap.size wd4 WD4 := by rw [hWD4]; exact bl1 _ _
      have T4 := hide (show SpC WD4 wd4.heap.size z4 by rw [hWD4]; exact spc_new _ _ _)
      have htp4 := hzp4.below hcd4
      go_wp2_with fail
      rw [← hWD4]
      clear hWD4 
      replace hc := bthen hc hcd4
      replace X7 := hide ((unhide X7).below hcd4)
      replace PV := hide ((unhide PV).below hcd4)
      replace T1 := hide ((unhide T1).below hcd4)
      replace htp1 := htp1.below hcd4
      replace T2 := hide ((unhide T2).below hcd4)
      replace htp2 := htp2.below hcd4
      replace T3 := hide ((unhide T3).below hcd4)
      replace htp3 := htp3.below hcd4
      clear hcd4
      refine (spanBegun_any _).mono ?_
      rintro r wz ⟨rfl, hbz⟩
      replace hc := bthen hc hbz
      clear X7 PV
      replace T1 := hide ((unhide T1).below hbz)
      replace htp1 := htp1.below hbz
      replace U1 := hide ((unhide U1).below hc)
      replace hup1 := hup1.below hc
      replace T2 := hide ((unhide T2).below hbz)
      replace htp2 := htp2.below hbz
      replace U2 := hide ((unhide U2).below hc)
      replace hup2 := hup2.below hc
      replace T3 := hide ((unhide T3).below hbz)
      replace htp3 := htp3.below hbz
      replace U3 := hide ((unhide U3).below hc)
      replace hup3 := hup3.below hc
      replace T4 := hide ((unhide T4).below hbz)
      replace htp4 := htp4.below hbz
      replace U4 := hide ((unhide U4).below hc)
      replace hup4 := hup4.below hc
      replace hBW := bthen hBW hc
      clear hbz hc
      have lx := (unhide U1).lt
      have ly := (unhide T1).lt
      obtain ⟨x0, x1, x2, x3, x4⟩ := unhide U1
      obtain ⟨y0, y1, y2, y3, y4⟩ := unhide T1
      go_wp2_with fail
      clear x0 x1 x2 x3 x4 y0 y1 y2 y3 y4 lx ly
      refine (spanIs_true _ u1 z1 600 lo1 hi1 er1 hup1 htp1 ((unhide HUB1).trans (unhide HZB1).symm) (fun hq => ⟨(unhide ZZ1 hq).1, (unhide ZZ1 hq).2.1, (unhide HUB1).trans (unhide ZZ1 hq).2.2⟩)).mono ?_
      rintro r wy1 ⟨rfl, hby1⟩
      replace hBW := bthen hBW hby1
      replace T2 := hide ((unhide T2).below hby1)
      replace htp2 := htp2.below hby1
      replace U2 := hide ((unhide U2).below hby1)
      replace hup2 := hup2.below hby1
      replace T3 := hide ((unhide T3).below hby1)
      replace htp3 := htp3.below hby1
      replace U3 := hide ((unhide U3).below hby1)
      replace hup3 := hup3.below hby1
      replace T4 := hide ((unhide T4).below hby1)
      replace htp4 := htp4.below hby1
      replace U4 := hide ((unhide U4).below hby1)
      replace hup4 := hup4.below hby1
      have lx := (unhide U2).lt
      have ly := (unhide T2).lt
      obtain ⟨x0, x1, x2, x3, x4⟩ := unhide U2
      obtain ⟨y0, y1, y2, y3, y4⟩ := unhide T2
      go_wp2_with fail
      clear x0 x1 x2 x3 x4 y0 y1 y2 y3 y4 lx ly
      refine (spanIs_true _ u2 z2 600 lo2 hi2 er2 hup2 htp2 ((unhide HUB2).trans (unhide HZB2).symm) (fun hq => ⟨(unhide ZZ2 hq).1, (unhide ZZ2 hq).2.1, (unhide HUB2).trans (unhide ZZ2 hq).2.2⟩)).mono ?_
      rintro r wy2 ⟨rfl, hby2⟩
      replace hBW := bthen hBW hby2
      replace T3 := hide ((unhide T3).below hby2)
      replace htp3 := htp3.below hby2
      replace U3 := hide ((unhide U3).below hby2)
      replace hup3 := hup3.below hby2
      replace T4 := hide ((unhide T4).below hby2)
      replace htp4 := htp4.below hby2
      replace U4 := hide ((unhide U4).below hby2)
      replace hup4 := hup4.below hby2
      have lx := (unhide U3).lt
      have ly := (unhide T3).lt
      obtain ⟨x0, x1, x2, x3, x4⟩ := unhide U3
      obtain ⟨y0, y1, y2, y3, y4⟩ := unhide T3
      go_wp2_with fail
      clear x0 x1 x2 x3 x4 y0 y1 y2 y3 y4 lx ly
      refine (spanIs_true _ u3 z3 600 lo3 hi3 er3 hup3 htp3 ((unhide HUB3).trans (unhide HZB3).symm) (fun hq => ⟨(unhide ZZ3 hq).1, (unhide ZZ3 hq).2.1, (unhide HUB3).trans (unhide ZZ3 hq).2.2⟩)).mono ?_
      rintro r wy3 ⟨rfl, hby3⟩
      replace hBW := bthen hBW hby3
      replace T4 := hide ((unhide T4).below hby3)
      replace htp4 := htp4.below hby3
      replace U4 := hide ((unhide U4).below hby3)
      replace hup4 := hup4.below hby3
      have lx := (unhide U4).lt
      have ly := (unhide T4).lt
      obtain ⟨x0, x1, x2, x3, x4⟩ := unhide U4
      obtain ⟨y0, y1, y2, y3, y4⟩ := unhide T4
      go_wp2_with fail
      clear x0 x1 x2 x3 x4 y0 y1 y2 y3 y4 lx ly
      refine (spanIs_true _ u4 z4 600 lo4 hi4 er4 hup4 htp4 ((unhide HUB4).trans (unhide HZB4).symm) (fun hq => ⟨(unhide ZZ4 hq).1, (unhide ZZ4 hq).2.1, (unhide HUB4).trans (unhide ZZ4 hq).2.2⟩)).mono ?_
      rintro r wy4 ⟨rfl, hby4⟩
      replace hBW := bthen hBW hby4
      go_wp2_with fail
      go_ret
      exact ⟨rfl, hBW⟩
    · have t2 : ¬ 0 < cmpInt hi' hi := cmpInt_le0 c2
      have hmax : maxZ hi hi' = hi := by simp [maxZ, c2]
      clear c2
      replace hmax := hide hmax
      obtain ⟨WA, hWA⟩ : ∃ W', W' = wa := ⟨_, rfl⟩
      have hcA : Below wc.heap.size wc WA := by rw [hWA]; exact hca
      have X7A : SpC WA wc.heap.size ⟨s.ln, s.la, s.lN, s.lc, s.hn, s.ha, s.hN, s.hc, s.bits⟩ := by rw [hWA]; exact ⟨by simp [go_sem, k0, k1, k2, k3, k4], by simp [go_sem, k0, k1, k2, k3, k4], by simp [go_sem, k0, k1, k2, k3, k4], by simp [go_sem, k0, k1, k2, k3, k4], by simp [go_sem, k0, k1, k2, k3, k4]⟩
      have F7A : ∀ o, WA.frozen? ⟨wc.heap.size, o, none⟩ = false := by intro o; rw [hWA]; simp [go_sem, F7a]
      go_wp2_with fail
      rw [← hWA]
      clear hWA a0 a1 a2 a3 a4 g0 g1 g2 g3 g4 k0 k1 k2 k3 k4
      refine (cmp_int _ _ _ _ _ _ _ _ 250 250 hi' hi _ ((unhide PT).hi.below hcA) ((unhide PS).hi.below hcA)).mono ?_
      rintro r wb ⟨rfl, hbb⟩
      have hcb := bthen hcA hbb
      have X7b := X7A.below hbb
      have l7b := X7b.lt
      have F7b : ∀ o, wb.frozen? ⟨wc.heap.size, o, none⟩ = false := fun o => (hbb.frozen (p := ⟨wc.heap.size, o, none⟩) X7A.lt).trans (F7A o)
      obtain ⟨a0, a1, a2, a3, a4⟩ := (unhide X5).below hcb
      obtain ⟨g0, g1, g2, g3, g4⟩ := (unhide X6).below hcb
      obtain ⟨k0, k1, k2, k3, k4⟩ := X7b
      clear hbb F7A X7A hcA
      obtain ⟨WB, hWB⟩ : ∃ W', W' = wb := ⟨_, rfl⟩
      have hc : Below wc.heap.size wc WB := by rw [hWB]; exact hcb
      have X7 : SpC WB wc.heap.size ⟨s.ln, s.la, s.lN, s.lc, s.hn, s.ha, s.hN, s.hc, s.bits⟩ := by rw [hWB]; exact ⟨by simp [go_sem, k0, k1, k2, k3, k4], by simp [go_sem, k0, k1, k2, k3, k4], by simp [go_sem, k0, k1, k2, k3, k4], by simp [go_sem, k0, k1, k2, k3, k4], by simp [go_sem, k0, k1, k2, k3, k4]⟩
      go_wp2_with fail
      rw [← hWB]
      clear hWB a0 a1 a2 a3 a4 g0 g1 g2 g3 g4 k0 k1 k2 k3 k4 hcb F7b l7b
      have PV : SpAt WB ⟨s.ln, s.la, s.lN, s.lc, s.hn, s.ha, s.hN, s.hc, s.bits⟩ 250 lo hi := ⟨(unhide PS).lo.below hc, (unhide PS).hi.below hc⟩
      replace PV := hide PV
      replace X7 := hide X7
      refine (refPlus_int _ s t 250 lo hi lo' hi' ((unhide PS).below hc) ((unhide PT).below hc) (by omega)).mono ?_
      rintro r wp1 ⟨v1, rfl, hvb1, hvp1, hbp1⟩
      have HVB1 := hide hvb1
      clear hvb1
      replace hc := bthen hc hbp1
      replace X7 := hide ((unhide X7).below hbp1)
      replace PV := hide ((unhide PV).below hbp1)
      clear hbp1
      go_wp2_with fail
      refine (unhide DD1 _ v1 (hvp1.mono (by omega)) (unhide HVB1)).mono ?_
      rintro r wd1 ⟨z1, rfl, hzb1, hzp1, hbd1⟩
      have HZB1 := hide hzb1
      clear hzb1
      replace hc := bthen hc hbd1
      replace X7 := hide ((unhide X7).below hbd1)
      replace PV := hide ((unhide PV).below hbd1)
      clear hbd1
      obtain ⟨WD1, hWD1⟩ : ∃ W', W' = wd1.alloc (.cells #[.bool z1.ln, .slice z1.la z1.lN z1.lc, .bool z1.hn, .slice z1.ha z1.hN z1.hc, .int .i64 z1.bits] 26) := ⟨_, rfl⟩
      have hcd1 : Below wd1.heap.size wd1 WD1 := by rw [hWD1]; exact bl1 _ _
      have T1 := hide (show SpC WD1 wd1.heap.size z1 by rw [hWD1]; exact spc_new _ _ _)
      have htp1 := hzp1.below hcd1
      have m5 := Nat.lt_of_lt_of_le l5 hc.size
      have m6 := Nat.lt_of_lt_of_le l6 hc.size
      obtain ⟨a0, a1, a2, a3, a4⟩ := (unhide X5).below hc
      obtain ⟨g0, g1, g2, g3, g4⟩ := (unhide X6).below hc
      go_wp2_with fail
      rw [← hWD1]
      clear hWD1 a0 a1 a2 a3 a4 g0 g1 g2 g3 g4 m5 m6
      replace hc := bthen hc hcd1
      replace X7 := hide ((unhide X7).below hcd1)
      replace PV := hide ((unhide PV).below hcd1)
      clear hcd1
      refine (refLess_int _ s t 250 lo hi lo' hi' ((unhide PS).below hc) ((unhide PT).below hc) (by omega)).mono ?_
      rintro r wp2 ⟨v2, rfl, hvb2, hvp2, hbp2⟩
      have HVB2 := hide hvb2
      clear hvb2
      replace hc := bthen hc hbp2
      replace X7 := hide ((unhide X7).below hbp2)
      replace PV := hide ((unhide PV).below hbp2)
      replace T1 := hide ((unhide T1).below hbp2)
      replace htp1 := htp1.below hbp2
      clear hbp2
      go_wp2_with fail
      refine (unhide DD2 _ v2 (hvp2.mono (by omega)) (unhide HVB2)).mono ?_
      rintro r wd2 ⟨z2, rfl, hzb2, hzp2, hbd2⟩
      have HZB2 := hide hzb2
      clear hzb2
      replace hc := bthen hc hbd2
      replace X7 := hide ((unhide X7).below hbd2)
      replace PV := hide ((unhide PV).below hbd2)
      replace T1 := hide ((unhide T1).below hbd2)
      replace htp1 := htp1.below hbd2
      clear hbd2
      obtain ⟨WD2, hWD2⟩ : ∃ W', W' = wd2.alloc (.cells #[.bool z2.ln, .slice z2.la z2.lN z2.lc, .bool z2.hn, .slice z2.ha z2.hN z2.hc, .int .i64 z2.bits] 26) := ⟨_, rfl⟩
      have hcd2 : Below wd2.heap.size wd2 WD2 := by rw [hWD2]; exact bl1 _ _
      have T2 := hide (show SpC WD2 wd2.heap.size z2 by rw [hWD2]; exact spc_new _ _ _)
      have htp2 := hzp2.below hcd2
      have m5 := Nat.lt_of_lt_of_le l5 hc.size
      have m6 := Nat.lt_of_lt_of_le l6 hc.size
      obtain ⟨a0, a1, a2, a3, a4⟩ := (unhide X5).below hc
      obtain ⟨g0, g1, g2, g3, g4⟩ := (unhide X6).below hc
      go_wp2_with fail
      rw [← hWD2]
      clear hWD2 a0 a1 a2 a3 a4 g0 g1 g2 g3 g4 m5 m6
      replace hc := bthen hc hcd2
      replace X7 := hide ((unhide X7).below hcd2)
      replace PV := hide ((unhide PV).below hcd2)
      replace T1 := hide ((unhide T1).below hcd2)
      replace htp1 := htp1.below hcd2
      clear hcd2
      refine (refTimes_int _ s t 250 lo hi lo' hi' ((unhide PS).below hc) ((unhide PT).below hc) (by omega) (by omega) (by omega)).mono ?_
      rintro r wp3 ⟨v3, rfl, hvb3, hvp3, hbp3⟩
      have HVB3 := hide hvb3
      clear hvb3
      replace hc := bthen hc hbp3
      replace X7 := hide ((unhide X7).below hbp3)
      replace PV := hide ((unhide PV).below hbp3)
      replace T1 := hide ((unhide T1).below hbp3)
      replace htp1 := htp1.below hbp3
      replace T2 := hide ((unhide T2).below hbp3)
      replace htp2 := htp2.below hbp3
      clear hbp3
      go_wp2_with fail
      refine (unhide DD3 _ v3 (hvp3.mono (by omega)) (unhide HVB3)).mono ?_
      rintro r wd3 ⟨z3, rfl, hzb3, hzp3, hbd3⟩
      have HZB3 := hide hzb3
      clear hzb3
      replace hc := bthen hc hbd3
      replace X7 := hide ((unhide X7).below hbd3)
      replace PV := hide ((unhide PV).below hbd3)
      replace T1 := hide ((unhide T1).below hbd3)
      replace htp1 := htp1.below hbd3
      replace T2 := hide ((unhide T2).below hbd3)
      replace htp2 := htp2.below hbd3
      clear hbd3
      obtain ⟨WD3, hWD3⟩ : ∃ W', W' = wd3.alloc (.cells #[.bool z3.ln, .slice z3.la z3.lN z3.lc, .bool z3.hn, .slice z3.ha z3.hN z3.hc, .int .i64 z3.bits] 26) := ⟨_, rfl⟩
      have hcd3 : Below wd3.heap.size wd3 WD3 := by rw [hWD3]; exact bl1 _ _
      have T3 := hide (show SpC WD3 wd3.heap.size z3 by rw [hWD3]; exact spc_new _ _ _)
      have htp3 := hzp3.below hcd3
      have m7 := (unhide X7).lt
      obtain ⟨a0, a1, a2, a3, a4⟩ := unhide X7
      go_wp2_with fail
      rw [← hWD3]
      clear hWD3 a0 a1 a2 a3 a4 m7
      replace hc := bthen hc hcd3
      replace X7 := hide ((unhide X7).below hcd3)
      replace PV := hide ((unhide PV).below hcd3)
      replace T1 := hide ((unhide T1).below hcd3)
      replace htp1 := htp1.below hcd3
      replace T2 := hide ((unhide T2).below hcd3)
      replace htp2 := htp2.below hcd3
      clear hcd3
      refine (unhide DD4 _ ⟨s.ln, s.la, s.lN, s.lc, s.hn, s.ha, s.hN, s.hc, s.bits⟩ (by have h := (unhide PV); rw [unhide hmin, unhide hmax]; exact h.mono (by omega)) rfl).mono ?_
      rintro r wd4 ⟨z4, rfl, hzb4, hzp4, hbd4⟩
      have HZB4 := hide hzb4
      clear hzb4
      replace hc := bthen hc hbd4
      replace X7 := hide ((unhide X7).below hbd4)
      replace PV := hide ((unhide PV).below hbd4)
      replace T1 := hide ((unhide T1).below hbd4)
      replace htp1 := htp1.below hbd4
      replace T2 := hide ((unhide T2).below hbd4)
      replace htp2 := htp2.below hbd4
      replace T3 := hide ((unhide T3).below hbd4)
      replace htp3 := htp3.below hbd4
      clear hbd4
      obtain ⟨WD4, hWD4⟩ : ∃ W', W' = wd4.alloc (.cells #[.bool z4.ln, .slice z4.la z4.lN z4.lc, .bool z4.hn, .slice z4.ha z4.hN z4.hc, .int .i64 z4.bits] 26) := ⟨_, rfl⟩
      have hcd4 : Below wd4.heap.size wd4 WD4 := by rw [hWD4]; exact bl1 _ _
      have T4 := hide (show SpC WD4 wd4.heap.size z4 by rw [hWD4]; exact spc_new _ _ _)
      have htp4 := hzp4.below hcd4
      go_wp2_with fail
      rw [← hWD4]
      clear hWD4 
      replace hc := bthen hc hcd4
      replace X7 := hide ((unhide X7).below hcd4)
      replace PV := hide ((unhide PV).below hcd4)
      replace T1 := hide ((unhide T1).below hcd4)
      replace htp1 := htp1.below hcd4
      replace T2 := hide ((unhide T2).below hcd4)
      replace htp2 := htp2.below hcd4
      replace T3 := hide ((unhide T3).below hcd4)
      replace htp3 := htp3.below hcd4
      clear hcd4
      refine (spanBegun_any _).mono ?_
      rintro r wz ⟨rfl, hbz⟩
      replace hc := bthen hc hbz
      clear X7 PV
      replace T1 := hide ((unhide T1).below hbz)
      replace htp1 := htp1.below hbz
      replace U1 := hide ((unhide U1).below hc)
      replace hup1 := hup1.below hc
      replace T2 := hide ((unhide T2).below hbz)
      replace htp2 := htp2.below hbz
      replace U2 := hide ((unhide U2).below hc)
      replace hup2 := hup2.below hc
      replace T3 := hide ((unhide T3).below hbz)
      replace htp3 := htp3.below hbz
      replace U3 := hide ((unhide U3).below hc)
      replace hup3 := hup3.below hc
      replace T4 := hide ((unhide T4).below hbz)
      replace htp4 := htp4.below hbz
      replace U4 := hide ((unhide U4).below hc)
      replace hup4 := hup4.below hc
      replace hBW := bthen hBW hc
      clear hbz hc
      have lx := (unhide U1).lt
      have ly := (unhide T1).lt
      obtain ⟨x0, x1, x2, x3, x4⟩ := unhide U1
      obtain ⟨y0, y1, y2, y3, y4⟩ := unhide T1
      go_wp2_with fail
      clear x0 x1 x2 x3 x4 y0 y1 y2 y3 y4 lx ly
      refine (spanIs_true _ u1 z1 600 lo1 hi1 er1 hup1 htp1 ((unhide HUB1).trans (unhide HZB1).symm) (fun hq => ⟨(unhide ZZ1 hq).1, (unhide ZZ1 hq).2.1, (unhide HUB1).trans (unhide ZZ1 hq).2.2⟩)).mono ?_
      rintro r wy1 ⟨rfl, hby1⟩
      replace hBW := bthen hBW hby1
      replace T2 := hide ((unhide T2).below hby1)
      replace htp2 := htp2.below hby1
      replace U2 := hide ((unhide U2).below hby1)
      replace hup2 := hup2.below hby1
      replace T3 := hide ((unhide T3).below hby1)
      replace htp3 := htp3.below hby1
      replace U3 := hide ((unhide U3).below hby1)
      replace hup3 := hup3.below hby1
      replace T4 := hide ((unhide T4).below hby1)
      replace htp4 := htp4.below hby1
      replace U4 := hide ((unhide U4).below hby1)
      replace hup4 := hup4.below hby1
      have lx := (unhide U2).lt
      have ly := (unhide T2).lt
      obtain ⟨x0, x1, x2, x3, x4⟩ := unhide U2
      obtain ⟨y0, y1, y2, y3, y4⟩ := unhide T2
      go_wp2_with fail
      clear x0 x1 x2 x3 x4 y0 y1 y2 y3 y4 lx ly
      refine (spanIs_true _ u2 z2 600 lo2 hi2 er2 hup2 htp2 ((unhide HUB2).trans (unhide HZB2).symm) (fun hq => ⟨(unhide ZZ2 hq).1, (unhide ZZ2 hq).2.1, (unhide HUB2).trans (unhide ZZ2 hq).2.2⟩)).mono ?_
      rintro r wy2 ⟨rfl, hby2⟩
      replace hBW := bthen hBW hby2
      replace T3 := hide ((unhide T3).below hby2)
      replace htp3 := htp3.below hby2
      replace U3 := hide ((unhide U3).below hby2)
      replace hup3 := hup3.below hby2
      replace T4 := hide ((unhide T4).below hby2)
      replace htp4 := htp4.below hby2
      replace U4 := hide ((unhide U4).below hby2)
      replace hup4 := hup4.below hby2
      have lx := (unhide U3).lt
      have ly := (unhide T3).lt
      obtain ⟨x0, x1, x2, x3, x4⟩ := unhide U3
      obtain ⟨y0, y1, y2, y3, y4⟩ := unhide T3
      go_wp2_with fail
      clear x0 x1 x2 x3 x4 y0 y1 y2 y3 y4 lx ly
      refine (spanIs_true _ u3 z3 600 lo3 hi3 er3 hup3 htp3 ((unhide HUB3).trans (unhide HZB3).symm) (fun hq => ⟨(unhide ZZ3 hq).1, (unhide ZZ3 hq).2.1, (unhide HUB3).trans (unhide ZZ3 hq).2.2⟩)).mono ?_
      rintro r wy3 ⟨rfl, hby3⟩
      replace hBW := bthen hBW hby3
      replace T4 := hide ((unhide T4).below hby3)
      replace htp4 := htp4.below hby3
      replace U4 := hide ((unhide U4).below hby3)
      replace hup4 := hup4.below hby3
      have lx := (unhide U4).lt
      have ly := (unhide T4).lt
      obtain ⟨x0, x1, x2, x3, x4⟩ := unhide U4
      obtain ⟨y0, y1, y2, y3, y4⟩ := unhide T4
      go_wp2_with fail
      clear x0 x1 x2 x3 x4 y0 y1 y2 y3 y4 lx ly
      refine (spanIs_true _ u4 z4 600 lo4 hi4 er4 hup4 htp4 ((unhide HUB4).trans (unhide HZB4).symm) (fun hq => ⟨(unhide ZZ4 hq).1, (unhide ZZ4 hq).2.1, (unhide HUB4).trans (unhide ZZ4 hq).2.2⟩)).mono ?_
      rintro r wy4 ⟨rfl, hby4⟩
      replace hBW := bthen hBW hby4
      go_wp2_with fail
      go_ret
      exact ⟨rfl, hBW⟩
end Go.Proofs.Ytgmnknmjainabaa
