/-
  Texts Lwa, Bpa, Bpb, Lwc, Bpc: what they hold is told in the last text.
-/
import Derived.Test.YtgmnknmjainababK19
set_option linter.unnecessarySimpa false
set_option linter.unusedSimpArgs false
set_option linter.unusedVariables false
namespace Go.Proofs.Ytgmnknmjainabab
open Go.RowKit
attribute [local go_sem ↓] Go.wp_at_zero Go.wp_at_succ
open Ex
set_option maxRecDepth 100000 in
set_option maxHeartbeats 2000000 in
theorem timesRatio_iv (w : World) (s : Sp) (k b : Nat) (a : Int × Int) (p q : Int) (hs : SpAt w s k a.1 a.2) (hk : k ≤ 100000000) (hb : s.bits = (b : Int)) (hp0 : -9223372036854775808 ≤ p) (hp : p ≤ 9223372036854775807) (hq : 0 < q) (hq2 : q ≤ 9223372036854775807) :
    Calls Try.prog 127 #[.agg #[.bool s.ln, .slice s.la s.lN s.lc, .bool s.hn, .slice s.ha s.hN s.hc, .int .i64 s.bits], .agg #[.int .i64 p, .int .i64 q]] w (SpanAns w b (k + 4 + 10) (scaleI a p q).1 (scaleI a p q).2) := by
  obtain ⟨W, hW⟩ : ∃ W, W = ((w.alloc (.cells #[.bool s.ln, .slice s.la s.lN s.lc, .bool s.hn, .slice s.ha s.hN s.hc, .int .i64 s.bits] 28)).alloc (.cells #[.int .i64 p, .int .i64 q] 23)).alloc (.cells #[.bool false, .slice none 0 0, .bool false, .slice none 0 0, .int .i64 0] 28) := ⟨_, rfl⟩
  have hBW : Below w.heap.size w W := by rw [hW]; exact bl3 _ _ _ _
  have A : SpC W w.heap.size s := by rw [hW]; exact ⟨by simp [go_sem], by simp [go_sem], by simp [go_sem], by simp [go_sem], by simp [go_sem]⟩
  have D : RaC W (w.heap.size + 1) p q := by rw [hW]; exact ⟨by simp [go_sem], by simp [go_sem]⟩
  have R : NoC W (w.heap.size + 1 + 1) := by rw [hW]; exact ⟨by simp [go_sem], by simp [go_sem], by simp [go_sem], by simp [go_sem], by simp [go_sem], fun o => by simp [go_sem]⟩
  have HS := hide (hs.below hBW)
  have HB := hide hb
  have lR := R.lt
  have lA := A.lt
  have lD := D.lt
  clear hs hb
  have hB0 : Below W.heap.size W W.drew := (Below.refl _ _).drew
  have HK := hide (show ∀ w', Below W.heap.size W w' → (w'.cell? ⟨w.heap.size, 0, none⟩ = some (.bool s.ln) ∧ w'.cell? ⟨w.heap.size, 1, none⟩ = some (.slice s.la s.lN s.lc) ∧ w'.cell? ⟨w.heap.size, 2, none⟩ = some (.bool s.hn) ∧ w'.cell? ⟨w.heap.size, 3, none⟩ = some (.slice s.ha s.hN s.hc) ∧ w'.cell? ⟨w.heap.size, 4, none⟩ = some (.int .i64 s.bits) ∧ w'.cell? ⟨w.heap.size + 1, 0, none⟩ = some (.int .i64 p) ∧ w'.cell? ⟨w.heap.size + 1, 1, none⟩ = some (.int .i64 q)) from fun w' hB => ⟨(A.below hB).c0, (A.below hB).c1, (A.below hB).c2, (A.below hB).c3, (A.below hB).c4, (D.below hB).c0, (D.below hB).c1⟩)
  clear A D
  go_enter Try.func127, Try.ntmps127
  go_wp2
  rw [← hW]
  clear hW
  have n1 : w.heap.size + 1 + 1 ≠ w.heap.size := by omega
  have n2 : w.heap.size + 1 + 1 ≠ w.heap.size + 1 := by omega
  obtain ⟨x0, x1, x2, x3, x4, x5, x6⟩ := unhide HK _ (Below.refl _ _)
  go_region_held3 (fun w' => w'.cell? ⟨w.heap.size, 0, none⟩ = some (.bool s.ln) ∧ w'.cell? ⟨w.heap.size, 1, none⟩ = some (.slice s.la s.lN s.lc) ∧ w'.cell? ⟨w.heap.size, 2, none⟩ = some (.bool s.hn) ∧ w'.cell? ⟨w.heap.size, 3, none⟩ = some (.slice s.ha s.hN s.hc) ∧ w'.cell? ⟨w.heap.size, 4, none⟩ = some (.int .i64 s.bits) ∧ w'.cell? ⟨w.heap.size + 1, 0, none⟩ = some (.int .i64 p) ∧ w'.cell? ⟨w.heap.size + 1, 1, none⟩ = some (.int .i64 q)) (first | exact unhide HK _ (by first | with_reducible exact hB0 | with_reducible exact hB3 | with_reducible exact hB2 | with_reducible exact hB1) | go_keep)
    (first
      | (go_at_call 99; have hqq := hB2; refine (scale_iv _ s ⟨neg1, a1, n1', c1⟩ ⟨neg2, a2, n2', c2⟩ k 4 _ b a p q ((unhide HS).below hB2) (hint1.below hb2) hint2 (by omega) (by omega) hq (unhide HB)).mono ?_; rintro r w3 ⟨t, rfl, htb, htp, hb3⟩; have HT := hide htb; clear htb; have hB3 := bthen hB2 hb3; obtain ⟨q0, q1, q2, q3, q4, q5⟩ := R.below hB3; obtain ⟨i0, i1, i2, i3, i4, i5, i6⟩ := unhide HK _ hB3)
      | (go_at_call 48; have hqq := hB1; refine (numOf_int q _ (by omega) (by omega)).mono ?_; rintro r w2 ⟨neg2, a2, n2', c2, rfl, hint2, hb2⟩; have hB2 := bthen hB1 hb2)
      | (go_at_call 48; refine (numOf_int p _ (by omega) (by omega)).mono ?_; rintro r w1 ⟨neg1, a1, n1', c1, rfl, hint1, hb1⟩; have hB1 := bthen hB0 hb1))
  all_goals
    go_wp2
    refine bodyPost_ret (v := .agg #[.bool t.ln, .slice t.la t.lN t.lc, .bool t.hn, .slice t.ha t.hN t.hc, .int .i64 t.bits]) (by simp [results, Try.results127, go_sem, q0, q1, q2, q3, q4]) rfl ⟨t, rfl, unhide HT, ?_, ?_⟩
    · exact SpAt.put5 htp q0 q1 q2 q3 q4 _ _ _ _ _
    · exact set5 (bthen hBW hB3) (by omega) _ _ _ _ _
end Go.Proofs.Ytgmnknmjainabab
namespace Go.Proofs.Ytgmnknmjainabab
open Go.RowKit
attribute [local go_sem ↓] Go.wp_at_zero Go.wp_at_succ
open Ex
def LgIs2 (n d : Int) (b : Nat) (x : Nat → Rat) : Prop := ∀ w' : World, Calls Try.prog 120 #[.int .i64 n, .int .i64 d, .int .i64 b] w' (fun r w'' => ∃ lo hi, LgP2 x b lo hi ∧ SpanAns w' b 521 lo hi r w'')
def rok2 (p q : Int) : Prop := -1048576 ≤ p ∧ p ≤ 1048576 ∧ 1 ≤ q ∧ q ≤ 2048
theorem prd_bd2 {p q : Int} (h1 : -1048576 ≤ p) (h2 : p ≤ 1048576) (h3 : 0 ≤ q) (h4 : q ≤ 2048) : -2147483648 ≤ p * q ∧ p * q ≤ 2147483648 := by
  have := abs_mul (x := p) (y := q) (m := 1048576) (n := 2048) h1 h2 (by omega) h4
  omega
set_option maxRecDepth 100000 in
set_option maxHeartbeats 2000000 in
theorem sumOf_iv2 (w : World) (p1 q1 p2 q2 : Int) (h1 : rok2 p1 q1) (h2 : rok2 p2 q2) :
    Calls Try.prog 119 #[.agg #[.int .i64 p1, .int .i64 q1], .agg #[.int .i64 p2, .int .i64 q2]] w (fun r w' => r = .returned (.agg #[.int .i64 (p1 * q2 + p2 * q1), .int .i64 (q1 * q2)]) ∧ Below w.heap.size w w') := by
  obtain ⟨a1, a2, a3, a4⟩ := h1
  obtain ⟨b1, b2, b3, b4⟩ := h2
  obtain ⟨c1, c2⟩ := prd_bd2 a1 a2 (show 0 ≤ q2 by omega) b4
  obtain ⟨d1, d2⟩ := prd_bd2 b1 b2 (show 0 ≤ q1 by omega) a4
  obtain ⟨e1, e2⟩ := prd_bd2 (p := q1) (by omega) (by omega) (show 0 ≤ q2 by omega) b4
  go_enter Try.func119, Try.ntmps119
  go_wp2_with fail
  refine bodyPost_ret (v := .agg #[.int .i64 (p1 * q2 + p2 * q1), .int .i64 (q1 * q2)]) (by simp [results, Try.results119, go_sem]) rfl ⟨rfl, ?_⟩
  exact bl3 _ _ _ _
set_option maxRecDepth 100000 in
set_option maxHeartbeats 4000000 in
theorem logBeta_iv2 (w : World) (p1 q1 p2 q2 : Int) (b : Nat) (x y z : Nat → Rat) (h1 : rok2 p1 q1) (h2 : rok2 p2 q2) (L1 : LgIs2 p1 q1 b x) (L2 : LgIs2 p2 q2 b y) (L3 : LgIs2 (p1 * q2 + p2 * q1) (q1 * q2) b z) :
    Calls Try.prog 70 #[.agg #[.int .i64 p1, .int .i64 q1], .agg #[.int .i64 p2, .int .i64 q2], .int .i64 b] w (fun r w' => ∃ lo hi, LgP3 (fun M => x M + y M - z M) b lo hi ∧ SpanAns w b 523 lo hi r w') := by
  obtain ⟨W, hW⟩ : ∃ W, W = ((w.alloc (.cells #[.int .i64 p1, .int .i64 q1] 23)).alloc (.cells #[.int .i64 p2, .int .i64 q2] 23)).alloc (.cells #[.bool false, .slice none 0 0, .bool false, .slice none 0 0, .int .i64 0] 28) := ⟨_, rfl⟩
  have hBW : Below w.heap.size w W := by rw [hW]; exact bl3 _ _ _ _
  have A : RaC W w.heap.size p1 q1 := by rw [hW]; exact ⟨by simp [go_sem], by simp [go_sem]⟩
  have D : RaC W (w.heap.size + 1) p2 q2 := by rw [hW]; exact ⟨by simp [go_sem], by simp [go_sem]⟩
  have R : NoC W (w.heap.size + 1 + 1) := by rw [hW]; exact ⟨by simp [go_sem], by simp [go_sem], by simp [go_sem], by simp [go_sem], by simp [go_sem], fun o => by simp [go_sem]⟩
  have H1 := hide L1
  have H2 := hide L2
  have H3 := hide L3
  have HR := hide (And.intro h1 h2)
  have lA := A.lt
  have lD := D.lt
  have fA0 := A.c0
  have fA1 := A.c1
  have fD0 := D.c0
  have fD1 := D.c1
  clear L1 L2 L3 h1 h2
  go_enter Try.func70, Try.ntmps70
  go_wp2_with fail
  rw [← hW]
  clear hW fA0 fA1 fD0 fD1
  refine (sumOf_iv2 _ p1 q1 p2 q2 (unhide HR).1 (unhide HR).2).mono ?_
  rintro r w1 ⟨rfl, hb1⟩
  replace A := A.below hb1
  replace D := D.below hb1
  replace R := R.below hb1
  replace hBW := bthen hBW hb1
  clear hb1 lA lD
  have lR := R.lt
  obtain ⟨V, hV⟩ : ∃ V, V = w1.alloc (.cells #[.int .i64 (p1 * q2 + p2 * q1), .int .i64 (q1 * q2)] 23) := ⟨_, rfl⟩
  have bV : Below w1.heap.size w1 V := by rw [hV]; exact bl1 _ _
  have E : RaC V w1.heap.size (p1 * q2 + p2 * q1) (q1 * q2) := by rw [hV]; exact rac_new w1 _ _ _
  replace A := A.below bV
  replace D := D.below bV
  replace R := R.below bV
  replace hBW := bthen hBW bV
  have lA := A.lt
  have lD := D.lt
  have lE := E.lt
  have HK := hide (show ∀ w', Below V.heap.size V w' → (w'.cell? ⟨w.heap.size, 0, none⟩ = some (.int .i64 p1) ∧ w'.cell? ⟨w.heap.size, 1, none⟩ = some (.int .i64 q1) ∧ w'.cell? ⟨(w.heap.size + 1), 0, none⟩ = some (.int .i64 p2) ∧ w'.cell? ⟨(w.heap.size + 1), 1, none⟩ = some (.int .i64 q2) ∧ w'.cell? ⟨w1.heap.size, 0, none⟩ = some (.int .i64 (p1 * q2 + p2 * q1)) ∧ w'.cell? ⟨w1.heap.size, 1, none⟩ = some (.int .i64 (q1 * q2))) from fun w' hB => ⟨(A.below hB).c0, (A.below hB).c1, (D.below hB).c0, (D.below hB).c1, (E.below hB).c0, (E.below hB).c1⟩)
  clear bV
  go_wp2_with fail
  rw [← hV]
  clear hV
  go_cut [8] (fun p wx => ∃ (B : Nat) (u : Sp) (l1 u1 l2 u2 : Int), p = .pointer (some ⟨B, 0, none⟩) ∧ LgP2 x b l1 u1 ∧ LgP2 y b l2 u2 ∧ V.heap.size ≤ B ∧ VrC wx B u ∧ SpAt wx u 522 (((l1 + l2, u1 + u2) : Int × Int)).1 (((l1 + l2, u1 + u2) : Int × Int)).2 ∧ u.bits = (b : Int) ∧ Below V.heap.size V wx)
  case first =>
    go_region_held3 (fun w' => w'.cell? ⟨w.heap.size, 0, none⟩ = some (.int .i64 p1) ∧ w'.cell? ⟨w.heap.size, 1, none⟩ = some (.int .i64 q1) ∧ w'.cell? ⟨(w.heap.size + 1), 0, none⟩ = some (.int .i64 p2) ∧ w'.cell? ⟨(w.heap.size + 1), 1, none⟩ = some (.int .i64 q2) ∧ w'.cell? ⟨w1.heap.size, 0, none⟩ = some (.int .i64 (p1 * q2 + p2 * q1)) ∧ w'.cell? ⟨w1.heap.size, 1, none⟩ = some (.int .i64 (q1 * q2))) (exact unhide HK _ (by repeat' (first | with_reducible exact hBE3 | with_reducible exact hBE2 | with_reducible exact hBE1 | with_reducible exact Below.refl _ _ | with_reducible refine Below.drew ?_ | with_reducible refine balloc ?_ _ | with_reducible refine Below.setCell ?_ (by first | exact Nat.le_refl _ | exact hlE1 | exact hlE2 | exact hlE3) _)))
      (first
        | (go_at_call 56; have hq := hBE2; refine (add_iv _ vE1 vE2 521 b (l1, u1) (l2, u2) ((hintE1.below hCE2).below (by first | with_reducible exact Below.refl _ _ | with_reducible exact bl1 _ _)) (hintE2.below (by first | with_reducible exact Below.refl _ _ | with_reducible exact bl1 _ _)) (by omega) (unhide HVBE1)).mono ?_; rintro r wE3 ⟨vE3, rfl, hvbE3, hintE3, hbE3⟩; have HVBE3 := hide hvbE3; clear hvbE3; have hCE3 : Below wE2.heap.size wE2 wE3 := (by first | with_reducible exact hbE3 | with_reducible exact bthen (bl1 _ _) hbE3); have hBE3 := bthen hBE2 hCE3; (try with_reducible have gE3 := (noc_new wE2 28).below hbE3); (try replace gE1 := gE1.below hCE3); (try replace gE2 := gE2.below hCE3); have hlE3 := hBE3.size; (try have mE1 := gE1.lt); (try have eE1 := Nat.ne_of_lt mE1); (try have eE1' := Nat.ne_of_gt mE1); (try obtain ⟨zE10, zE11, zE12, zE13, zE14, zE15⟩ := gE1); (try have mE2 := gE2.lt); (try have eE2 := Nat.ne_of_lt mE2); (try have eE2' := Nat.ne_of_gt mE2); (try obtain ⟨zE20, zE21, zE22, zE23, zE24, zE25⟩ := gE2); (try have mE3 := gE3.lt); (try have eE3 := Nat.ne_of_lt mE3); (try have eE3' := Nat.ne_of_gt mE3); (try obtain ⟨zE30, zE31, zE32, zE33, zE34, zE35⟩ := gE3))
        | (go_at_call 120; have hq := hBE1; refine (unhide H2 _).mono ?_; rintro r wE2 ⟨l2, u2, hp2, vE2, rfl, hvbE2, hintE2, hbE2⟩; have HVBE2 := hide hvbE2; have Hhp2 := hide hp2; clear hvbE2 hp2; have hCE2 : Below wE1.heap.size wE1 wE2 := (by first | with_reducible exact hbE2 | with_reducible exact bthen (bl1 _ _) hbE2); have hBE2 := bthen hBE1 hCE2; (try with_reducible have gE2 := (noc_new wE1 28).below hbE2); (try replace gE1 := gE1.below hCE2); have hlE2 := hBE2.size)
        | (go_at_call 120; refine (unhide H1 _).mono ?_; rintro r wE1 ⟨l1, u1, hp1, vE1, rfl, hvbE1, hintE1, hbE1⟩; have HVBE1 := hide hvbE1; have Hhp1 := hide hp1; clear hvbE1 hp1; have hBE1 : Below V.heap.size V wE1 := (by first | with_reducible exact bthen (Below.refl _ _).drew hbE1 | with_reducible exact bthen (bl1 _ _).drew hbE1); (try with_reducible have gE1 := ((noc_new V 28).below (Below.refl _ _).drew).below hbE1); have hlE1 := hBE1.size))
    all_goals
      have hfinE : SpAt wE3 vE3 522 (((l1 + l2, u1 + u2) : Int × Int)).1 (((l1 + l2, u1 + u2) : Int × Int)).2 := hintE3
      go_wp2_with fail
      go_meet
      refine ⟨_, vE3, l1, u1, l2, u2, rfl, unhide Hhp1, unhide Hhp2, ?_, ⟨⟨?_, ?_, ?_, ?_, ?_⟩, ?_⟩, ?_, unhide HVBE3, ?_⟩
      · first | exact Nat.le_refl _ | exact hlE1 | exact hlE2 | exact hlE3
      · simp [go_sem, *]
      · simp [go_sem, *]
      · simp [go_sem, *]
      · simp [go_sem, *]
      · simp [go_sem, *]
      · intro o; simp [go_sem, *]
      · first | with_reducible exact SpAt.put5 hfinE zE30 zE31 zE32 zE33 zE34 _ _ _ _ _ | with_reducible exact SpAt.put5 hfinE zE20 zE21 zE22 zE23 zE24 _ _ _ _ _ | with_reducible exact SpAt.put5 hfinE zE10 zE11 zE12 zE13 zE14 _ _ _ _ _ | with_reducible exact hfinE.below (bl1 _ _)
      · repeat' (first | with_reducible exact hBE3 | with_reducible exact hBE2 | with_reducible exact hBE1 | with_reducible exact Below.refl _ _ | with_reducible refine Below.drew ?_ | with_reducible refine balloc ?_ _ | with_reducible refine Below.setCell ?_ (by first | exact Nat.le_refl _ | exact hlE1 | exact hlE2 | exact hlE3) _)
  case rest =>
  obtain ⟨BE, xE, l1, u1, l2, u2, rfl, hp1, hp2, hHE, XE, hpE, hxbE, hblE⟩ := hcut
  replace A := A.below hblE
  replace D := D.below hblE
  replace E := E.below hblE
  have lR2 := R.lt
  replace R := R.below hblE
  replace hBW := bthen hBW hblE
  have HEB := hide hxbE
  have HEP := hide hpE
  have Hp1 := hide hp1
  have Hp2 := hide hp2
  have lXE := XE.lt
  have HK2 := hide (show ∀ w', Below wc.heap.size wc w' → (w'.cell? ⟨w.heap.size, 0, none⟩ = some (.int .i64 p1) ∧ w'.cell? ⟨w.heap.size, 1, none⟩ = some (.int .i64 q1) ∧ w'.cell? ⟨(w.heap.size + 1), 0, none⟩ = some (.int .i64 p2) ∧ w'.cell? ⟨(w.heap.size + 1), 1, none⟩ = some (.int .i64 q2) ∧ w'.cell? ⟨w1.heap.size, 0, none⟩ = some (.int .i64 (p1 * q2 + p2 * q1)) ∧ w'.cell? ⟨w1.heap.size, 1, none⟩ = some (.int .i64 (q1 * q2)) ∧ w'.cell? ⟨BE, 0, none⟩ = some (.bool xE.ln) ∧ w'.cell? ⟨BE, 1, none⟩ = some (.slice xE.la xE.lN xE.lc) ∧ w'.cell? ⟨BE, 2, none⟩ = some (.bool xE.hn) ∧ w'.cell? ⟨BE, 3, none⟩ = some (.slice xE.ha xE.hN xE.hc) ∧ w'.cell? ⟨BE, 4, none⟩ = some (.int .i64 xE.bits)) from fun w' hB => ⟨(A.below hB).c0, (A.below hB).c1, (D.below hB).c0, (D.below hB).c1, (E.below hB).c0, (E.below hB).c1, (XE.c.below hB).c0, (XE.c.below hB).c1, (XE.c.below hB).c2, (XE.c.below hB).c3, (XE.c.below hB).c4⟩)
  have lA2 := A.lt
  have lD2 := D.lt
  have lE2 := E.lt
  have lR3 := R.lt
  have n1 : w.heap.size + 1 + 1 ≠ w.heap.size := by omega
  have n2 : w.heap.size + 1 + 1 ≠ w.heap.size + 1 := by omega
  have n3 : w.heap.size + 1 + 1 ≠ w1.heap.size := by omega
  have n4 : w.heap.size + 1 + 1 ≠ BE := by omega
  clear hxbE hpE hp1 hp2 HK hblE A D E XE
  have hD0 : Below wc.heap.size wc wc.drew := (Below.refl _ _).drew
  obtain ⟨x0, x1, x2, x3, x4, x5, y0, y1, y2, y3, y4⟩ := unhide HK2 _ (Below.refl _ _)
  go_wp2_with fail
  go_region_held3 (fun w' => w'.cell? ⟨w.heap.size, 0, none⟩ = some (.int .i64 p1) ∧ w'.cell? ⟨w.heap.size, 1, none⟩ = some (.int .i64 q1) ∧ w'.cell? ⟨(w.heap.size + 1), 0, none⟩ = some (.int .i64 p2) ∧ w'.cell? ⟨(w.heap.size + 1), 1, none⟩ = some (.int .i64 q2) ∧ w'.cell? ⟨w1.heap.size, 0, none⟩ = some (.int .i64 (p1 * q2 + p2 * q1)) ∧ w'.cell? ⟨w1.heap.size, 1, none⟩ = some (.int .i64 (q1 * q2)) ∧ w'.cell? ⟨BE, 0, none⟩ = some (.bool xE.ln) ∧ w'.cell? ⟨BE, 1, none⟩ = some (.slice xE.la xE.lN xE.lc) ∧ w'.cell? ⟨BE, 2, none⟩ = some (.bool xE.hn) ∧ w'.cell? ⟨BE, 3, none⟩ = some (.slice xE.ha xE.hN xE.hc) ∧ w'.cell? ⟨BE, 4, none⟩ = some (.int .i64 xE.bits)) (first | exact unhide HK2 _ (by first | with_reducible exact hD0 | with_reducible exact hD2 | with_reducible exact hD1) | go_keep)
    (first
      | (go_at_call 79; have hqq := hD1; refine (sub_iv _ xE v1 522 b (l1 + l2, u1 + u2) (l3, u3) ((unhide HEP).below hD1) (hint1.mono (by omega)) (by omega) (unhide HEB)).mono ?_; rintro r' w5 ⟨t, rfl, htb, htp, hb2⟩; have HT := hide htb; clear htb; have hD2 := bthen hD1 hb2; obtain ⟨q0, q1', q2', q3, q4, q5⟩ := R.below hD2; obtain ⟨i0, i1, i2, i3, i4, i5, j0, j1, j2, j3, j4⟩ := unhide HK2 _ hD2)
      | (go_at_call 120; refine (unhide H3 _).mono ?_; rintro r' w4 ⟨l3, u3, hp3, v1, rfl, hvb1, hint1, hb1⟩; have Hp3 := hide hp3; clear hvb1 hp3; have hD1 := bthen hD0 hb1))
  all_goals
    go_wp2_with fail
    refine bodyPost_ret (v := .agg #[.bool t.ln, .slice t.la t.lN t.lc, .bool t.hn, .slice t.ha t.hN t.hc, .int .i64 t.bits]) (by simp [results, Try.results70, go_sem, q0, q1', q2', q3, q4]) rfl ⟨_, _, lgP3_of (unhide Hp1) (unhide Hp2) (unhide Hp3), t, rfl, unhide HT, ?_, ?_⟩
    · exact SpAt.put5 htp q0 q1' q2' q3 q4 _ _ _ _ _
    · exact set5 (bthen hBW hD2) (by omega) _ _ _ _ _
end Go.Proofs.Ytgmnknmjainabab
namespace Go.Proofs.Ytgmnknmjainabab
open Go.RowKit
attribute [local go_sem ↓] Go.wp_at_zero Go.wp_at_succ
open Ex
set_option maxRecDepth 100000 in
set_option maxHeartbeats 2000000 in
theorem pt1_iv (w : World) (B0 B1 B2 B3 B4 : Nat) (v : Sp) (x y : Nm) (k b : Nat) (j : Int) (a : Int × Int) (bn bd p q r s n d : Int) (hs : SpAt w v k a.1 a.2) (hx : IntAt w x.neg x.a x.n x.cap 4 n) (hy : IntAt w y.neg y.a y.n y.cap 4 d) (Z : RaC w B0 bn bd) (A : RaC w B1 p q) (D : RaC w B2 r s) (X : NmC w B3 x) (Y : NmC w B4 y) (hk : k ≤ 100000000) (hb : v.bits = (b : Int)) (j0 : 1 ≤ j) (j1 : j ≤ 1000000) (z0 : 0 ≤ (j - 1) * bd) (z1 : (j - 1) * bd ≤ 1152921504606846976) (bn0 : 0 ≤ bn) (bn1 : bn ≤ 1152921504606846976) (y0 : 0 ≤ j * q) (y1 : j * q ≤ 1152921504606846976) (p0 : 0 < p) (p1 : p ≤ 1152921504606846976) (t0 : 0 < (p + j * q) * s) (t1 : (p + j * q) * s ≤ 1152921504606846976) (hd : 0 < d) :
    Calls Try.prog 126 #[.agg #[.bool v.ln, .slice v.la v.lN v.lc, .bool v.hn, .slice v.ha v.hN v.hc, .int .i64 v.bits], .int .i64 j, .pointer (some ⟨B0, 0, none⟩), .pointer (some ⟨B1, 0, none⟩), .pointer (some ⟨B2, 0, none⟩), .pointer (some ⟨B3, 0, none⟩), .pointer (some ⟨B4, 0, none⟩)] w (SpanAns w b (k + 8 + 10) (scaleI a (n * (bn + (j - 1) * bd)) (d * ((p + j * q) * s))).1 (scaleI a (n * (bn + (j - 1) * bd)) (d * ((p + j * q) * s))).2) := by
  obtain ⟨W, hW⟩ : ∃ W, W = (w.alloc (.cells #[.bool v.ln, .slice v.la v.lN v.lc, .bool v.hn, .slice v.ha v.hN v.hc, .int .i64 v.bits] 28)).alloc (.cells #[.bool false, .slice none 0 0, .bool false, .slice none 0 0, .int .i64 0] 28) := ⟨_, rfl⟩
  have hBW : Below w.heap.size w W := by rw [hW]; exact bl2 _ _ _
  have V : SpC W w.heap.size v := by rw [hW]; exact ⟨by simp [go_sem], by simp [go_sem], by simp [go_sem], by simp [go_sem], by simp [go_sem]⟩
  have R : NoC W (w.heap.size + 1) := by rw [hW]; exact ⟨by simp [go_sem], by simp [go_sem], by simp [go_sem], by simp [go_sem], by simp [go_sem], fun o => by simp [go_sem]⟩
  have HS := hide (hs.below hBW)
  have HX := hide (hx.below hBW)
  have HY := hide (hy.below hBW)
  have l3 := X.lt
  have l4 := Y.lt
  replace X := X.below hBW
  replace Y := Y.below hBW
  replace Z := Z.below hBW
  replace A := A.below hBW
  replace D := D.below hBW
  have HB := hide hb
  have HQ3 := hide (show 0 < (d * ((p + j * q) * s)) from Int.mul_pos hd t0)
  have lR0 := R.lt
  clear hs hx hy hb hd
  obtain ⟨za, zb⟩ := Z
  go_enter Try.func126, Try.ntmps126
  go_upto_region 1 with fail
  rw [← hW]
  clear hW
  go_wp2_with fail
  clear za zb
  refine (numOf_int (bn + (j - 1) * bd) _ (by omega) (by omega)).mono ?_
  rintro r1 w1 ⟨neg1, a1, n1, c1, rfl, hint1, hb1⟩
  clear z0 z1 bn0 bn1
  obtain ⟨V1, hV1⟩ : ∃ V, V = w1.alloc (.cells #[.bool neg1, .slice a1 n1 c1] 26) := ⟨_, rfl⟩
  have bV1 : Below w1.heap.size w1 V1 := by rw [hV1]; exact bl1 _ _
  have hb1' := bthen hb1 bV1
  have U1 : NmC V1 w1.heap.size ⟨neg1, a1, n1, c1⟩ := by rw [hV1]; exact ⟨by simp [go_sem], by simp [go_sem]⟩
  have HI1 := hide (hint1.below bV1)
  have lw1 := hb1.size
  have lU0 := U1.lt
  replace V := V.below hb1'
  replace R := R.below hb1'
  replace X := X.below hb1'
  replace Y := Y.below hb1'
  replace A := A.below hb1'
  replace D := D.below hb1'
  replace HS := hide ((unhide HS).below hb1')
  replace HX := hide ((unhide HX).below hb1')
  replace HY := hide ((unhide HY).below hb1')
  replace hBW := bthen hBW hb1'
  clear hb1 hb1' bV1 hint1
  have aa := A.c0
  have ab := A.c1
  have db := D.c1
  have lA := A.lt
  have lD := D.lt
  go_upto_region 2 with fail
  rw [← hV1]
  clear hV1
  go_wp2_with fail
  clear aa ab db A D lA lD y0 y1 p0 p1
  refine (numOf_int ((p + j * q) * s) _ (by omega) (by omega)).mono ?_
  rintro r2 w2 ⟨neg2, a2, n2, c2, rfl, hint2, hb2⟩
  obtain ⟨V2, hV2⟩ : ∃ V, V = w2.alloc (.cells #[.bool neg2, .slice a2 n2 c2] 26) := ⟨_, rfl⟩
  have bV2 : Below w2.heap.size w2 V2 := by rw [hV2]; exact bl1 _ _
  have hb2' := bthen hb2 bV2
  have U2 : NmC V2 w2.heap.size ⟨neg2, a2, n2, c2⟩ := by rw [hV2]; exact ⟨by simp [go_sem], by simp [go_sem]⟩
  have HI2 := hide (hint2.below bV2)
  have lw2 := hb2.size
  replace V := V.below hb2'
  replace R := R.below hb2'
  replace X := X.below hb2'
  replace Y := Y.below hb2'
  replace U1 := U1.below hb2'
  replace HI1 := hide ((unhide HI1).below hb2')
  replace HS := hide ((unhide HS).below hb2')
  replace HX := hide ((unhide HX).below hb2')
  replace HY := hide ((unhide HY).below hb2')
  replace hBW := bthen hBW hb2'
  clear hb2 hb2' bV2 hint2 t0 t1 j0 j1
  have lR := R.lt
  have lV := V.lt
  have lX := X.lt
  have lY := Y.lt
  have lU1 := U1.lt
  have lU2 := U2.lt
  have HK := hide (show ∀ w', Below V2.heap.size V2 w' → (w'.cell? ⟨w.heap.size, 0, none⟩ = some (.bool v.ln) ∧ w'.cell? ⟨w.heap.size, 1, none⟩ = some (.slice v.la v.lN v.lc) ∧ w'.cell? ⟨w.heap.size, 2, none⟩ = some (.bool v.hn) ∧ w'.cell? ⟨w.heap.size, 3, none⟩ = some (.slice v.ha v.hN v.hc) ∧ w'.cell? ⟨w.heap.size, 4, none⟩ = some (.int .i64 v.bits) ∧ w'.cell? ⟨B3, 0, none⟩ = some (.bool x.neg) ∧ w'.cell? ⟨B3, 1, none⟩ = some (.slice x.a x.n x.cap) ∧ w'.cell? ⟨B4, 0, none⟩ = some (.bool y.neg) ∧ w'.cell? ⟨B4, 1, none⟩ = some (.slice y.a y.n y.cap) ∧ w'.cell? ⟨w1.heap.size, 0, none⟩ = some (.bool (⟨neg1, a1, n1, c1⟩ : Nm).neg) ∧ w'.cell? ⟨w1.heap.size, 1, none⟩ = some (.slice (⟨neg1, a1, n1, c1⟩ : Nm).a (⟨neg1, a1, n1, c1⟩ : Nm).n (⟨neg1, a1, n1, c1⟩ : Nm).cap) ∧ w'.cell? ⟨w2.heap.size, 0, none⟩ = some (.bool (⟨neg2, a2, n2, c2⟩ : Nm).neg) ∧ w'.cell? ⟨w2.heap.size, 1, none⟩ = some (.slice (⟨neg2, a2, n2, c2⟩ : Nm).a (⟨neg2, a2, n2, c2⟩ : Nm).n (⟨neg2, a2, n2, c2⟩ : Nm).cap)) from fun w' hB => ⟨(V.below hB).c0, (V.below hB).c1, (V.below hB).c2, (V.below hB).c3, (V.below hB).c4, (X.below hB).c0, (X.below hB).c1, (Y.below hB).c0, (Y.below hB).c1, (U1.below hB).c0, (U1.below hB).c1, (U2.below hB).c0, (U2.below hB).c1⟩)
  have hB0 : Below V2.heap.size V2 V2.drew := (Below.refl _ _).drew
  clear V X Y U1 U2
  have nB3 : w.heap.size + 1 ≠ B3 := by omega
  have nB4 : w.heap.size + 1 ≠ B4 := by omega
  have nB5 : w.heap.size + 1 ≠ w1.heap.size := by omega
  have nB6 : w.heap.size + 1 ≠ w2.heap.size := by omega
  go_wp2_with fail
  rw [← hV2]
  clear hV2
  obtain ⟨x0, x1, x2, x3, x4, x5, x6, x7, x8, x9, x10, x11, x12⟩ := unhide HK _ (Below.refl _ _)
  go_region_held3 (fun w' => w'.cell? ⟨w.heap.size, 0, none⟩ = some (.bool v.ln) ∧ w'.cell? ⟨w.heap.size, 1, none⟩ = some (.slice v.la v.lN v.lc) ∧ w'.cell? ⟨w.heap.size, 2, none⟩ = some (.bool v.hn) ∧ w'.cell? ⟨w.heap.size, 3, none⟩ = some (.slice v.ha v.hN v.hc) ∧ w'.cell? ⟨w.heap.size, 4, none⟩ = some (.int .i64 v.bits) ∧ w'.cell? ⟨B3, 0, none⟩ = some (.bool x.neg) ∧ w'.cell? ⟨B3, 1, none⟩ = some (.slice x.a x.n x.cap) ∧ w'.cell? ⟨B4, 0, none⟩ = some (.bool y.neg) ∧ w'.cell? ⟨B4, 1, none⟩ = some (.slice y.a y.n y.cap) ∧ w'.cell? ⟨w1.heap.size, 0, none⟩ = some (.bool (⟨neg1, a1, n1, c1⟩ : Nm).neg) ∧ w'.cell? ⟨w1.heap.size, 1, none⟩ = some (.slice (⟨neg1, a1, n1, c1⟩ : Nm).a (⟨neg1, a1, n1, c1⟩ : Nm).n (⟨neg1, a1, n1, c1⟩ : Nm).cap) ∧ w'.cell? ⟨w2.heap.size, 0, none⟩ = some (.bool (⟨neg2, a2, n2, c2⟩ : Nm).neg) ∧ w'.cell? ⟨w2.heap.size, 1, none⟩ = some (.slice (⟨neg2, a2, n2, c2⟩ : Nm).a (⟨neg2, a2, n2, c2⟩ : Nm).n (⟨neg2, a2, n2, c2⟩ : Nm).cap)) (first | exact unhide HK _ (by first | with_reducible exact hB0 | with_reducible exact hB3 | with_reducible exact hB2 | with_reducible exact hB1) | go_keep)
    (first
      | (go_at_call 99; have hqq := hB2; refine (scale_iv _ v ⟨neg3, a3, n3, c3⟩ ⟨neg4, a4, n4, c4⟩ k 8 8 b a (n * (bn + (j - 1) * bd)) (d * ((p + j * q) * s)) ((unhide HS).below hB2) (hint3.below hb4) hint4 (by omega) (by omega) (unhide HQ3) (unhide HB)).mono ?_; rintro r w5 ⟨t, rfl, htb, htp, hb5⟩; have HT := hide htb; clear htb; have hB3 := bthen hB2 hb5; obtain ⟨q0, q1, q2, q3, q4, q5⟩ := R.below hB3; obtain ⟨i0, i1, i2, i3, i4, i5, i6, i7, i8, i9, i10, i11, i12⟩ := unhide HK _ hB3)
      | (go_at_call 84; have hqq := hB1; refine (mul_int _ _ _ _ _ _ _ _ 4 4 d ((p + j * q) * s) _ ((unhide HY).below hB1) ((unhide HI2).below hB1) (by omega) (by omega)).mono ?_; rintro r w4 ⟨neg4, a4, n4, c4, rfl, hint4, hb4⟩; have hB2 := bthen hB1 hb4)
      | (go_at_call 84; refine (mul_int _ _ _ _ _ _ _ _ 4 4 n (bn + (j - 1) * bd) _ ((unhide HX).below hB0) ((unhide HI1).below hB0) (by omega) (by omega)).mono ?_; rintro r w3 ⟨neg3, a3, n3, c3, rfl, hint3, hb3⟩; have hB1 := bthen hB0 hb3))
  all_goals
    go_wp2
    refine bodyPost_ret (v := .agg #[.bool t.ln, .slice t.la t.lN t.lc, .bool t.hn, .slice t.ha t.hN t.hc, .int .i64 t.bits]) (by simp [results, Try.results126, go_sem, q0, q1, q2, q3, q4]) rfl ⟨t, rfl, unhide HT, ?_, ?_⟩
    · exact SpAt.put5 htp q0 q1 q2 q3 q4 _ _ _ _ _
    · exact set5 (bthen hBW hB3) (Nat.le_succ _) _ _ _ _ _
set_option maxRecDepth 100000 in
set_option maxHeartbeats 4000000 in
theorem rise_pt (p1 p2 p3 p4 p5 : Value) (f : Nat → Int × Int) (turn N b K KF : Nat) (s : Sp) (W : World) (hs : SpAt W s K (f 0).1 (f 0).2) (hbits : s.bits = (b : Int)) (hb : b ≤ 1000000) (hK : K ≤ 100000000) (hK4 : 4 ≤ K) (hKF : KF ≤ 900000000) (hN : IsRise f turn N) (hNb : N ≤ 1000000000) (htn : turn ≤ 1000000000)
    (hle : ∀ n, (f n).1 ≤ (f n).2) (h0 : ∀ n, 0 ≤ (f n).1) (hfit : ∀ n, n ≤ N → -P K < (f n).1 ∧ (f n).2 < P K) (hfitS : ∀ n, n ≤ N → -P K < (sumI f n).1 ∧ (sumI f n).2 < P K)
    (hF : ∀ (n : Nat) (u : Sp) w', n < N → u.bits = (b : Int) → SpAt w' u K (f n).1 (f n).2 → Below W.heap.size W w' → Calls Try.prog 126 #[.agg #[.bool u.ln, .slice u.la u.lN u.lc, .bool u.hn, .slice u.ha u.hN u.hc, .int .i64 u.bits], .int .i64 ((n : Int) + 1), p1, p2, p3, p4, p5] w' (SpanAns w' b KF (f (n + 1)).1 (f (n + 1)).2)) :
    Calls Try.prog 125 #[.agg #[.bool s.ln, .slice s.la s.lN s.lc, .bool s.hn, .slice s.ha s.hN s.hc, .int .i64 s.bits], .int .i64 turn, .func (.func 126) #[] #[p1, p2, p3, p4, p5]] W (SpanAns W b (K + 3) (riseI f N).1 (riseI f N).2) := by
  have HF := hide hF
  have HN := hide hN
  have HBT := hide hbits
  have H0 := hide h0
  clear hF hN hbits h0
  obtain ⟨V, hV⟩ : ∃ V, V = (W.alloc (.cells #[.bool s.ln, .slice s.la s.lN s.lc, .bool s.hn, .slice s.ha s.hN s.hc, .int .i64 s.bits] 28)).alloc (.cells #[.bool false, .slice none 0 0, .bool false, .slice none 0 0, .int .i64 0] 28) := ⟨_, rfl⟩
  have hBV : Below W.heap.size W V := by rw [hV]; exact bl2 _ _ _
  have A : SpC V W.heap.size s := by rw [hV]; exact ⟨by simp [go_sem], by simp [go_sem], by simp [go_sem], by simp [go_sem], by simp [go_sem]⟩
  have R : NoC V (W.heap.size + 1) := by rw [hV]; exact ⟨by simp [go_sem], by simp [go_sem], by simp [go_sem], by simp [go_sem], by simp [go_sem], fun o => by simp [go_sem]⟩
  have HS := hide (hs.below hBV)
  have lA := A.lt
  have lR := R.lt
  clear hs
  go_enter Try.func125, Try.ntmps125
  go_wp2
  rw [← hV]
  clear hV
  go_cut [7, 8] (fun p q wx => TwoS V wx s s p q)
  case first =>
    obtain ⟨x0, x1, x2, x3, x4⟩ := A
    go_region
    all_goals
      go_wp2_with fail
      go_meet
      first
        | with_reducible exact twoS_a _ _ _ _
        | with_reducible exact twoS_b _ _ _ _
  case rest =>
  obtain ⟨B5, B6, rfl, rfl, l5, l6, hne, X, Y, hB⟩ := hcut
  have n5 : W.heap.size + 1 < B5 := by omega
  have n6 : W.heap.size + 1 < B6 := by omega
  have st0 : SumSt W wc B5 B6 b K s s s f 0 := ⟨X, Y, (unhide HS).below hB, (unhide HS).below hB, unhide HBT, unhide HBT, A.below hB, R.below hB, bthen hBV hB, n5, n6, hne⟩
  clear X Y hB A R HS l5 l6 n5 n6 hne hBV lA lR
  go_wp2_with fail
  go_loopw [9] (fun nn wr => ∃ (i : Nat) (X Y : Sp), nn = .int .i64 ((i : Int) + 1) ∧ i ≤ N ∧ SumSt W wr B5 B6 b K s X Y f i) (fun nn _ => N + 1 - (intOf nn).toNat)
  case atStart => exact ⟨0, s, s, rfl, Nat.zero_le _, st0⟩
  case round =>
    obtain ⟨i, X, Y, rfl, hi, st⟩ := hrel
    by_cases hit : i < turn
    · have hin : i < N := by have := (unhide HN).1; omega
      have hit' : ((i : Int) + 1 ≤ (turn : Int)) := by omega
      obtain ⟨⟨y0, y1, y2, y3, y4⟩, y5⟩ := st.y
      go_wp2_with fail
      refine (unhide HF i Y _ hin st.yb st.yp st.be).mono ?_
      rintro r w3 ⟨u, rfl, hub, hup, hb3⟩
      replace st := st.below hb3
      replace hup := hup.fits (K := K) (hle _) (hfit _ (by omega)).1 (hfit _ (by omega)).2
      have HU := hide hub
      clear hb3 y0 y1 y2 y3 y4 y5 hub
      obtain ⟨V3, hV3⟩ : ∃ V3, V3 = put5w w3 B6 u := ⟨_, rfl⟩
      have X3 : VrC V3 B5 X := by rw [hV3]; exact st.x.off st.ne u
      have Y3 : VrC V3 B6 u := by rw [hV3]; exact st.y.put u
      have P3 : SpAt V3 X K (sumI f i).1 (sumI f i).2 := by rw [hV3]; exact st.xp.put st.y.c u
      have U3 : SpAt V3 u K (f (i + 1)).1 (f (i + 1)).2 := by rw [hV3]; exact hup.put st.y.c u
      have F3 : SpC V3 W.heap.size s := by rw [hV3]; exact st.fs.off (by have := st.l6; omega) u
      have R3 : NoC V3 (W.heap.size + 1) := by rw [hV3]; exact st.no.off (by have := st.l6; omega) u
      have B3 : Below W.heap.size W V3 := by rw [hV3]; exact below_put st.be (by have := st.l6; omega) u
      have xb := hide st.xb
      have l5 := st.l5
      have l6 := st.l6
      have hne := st.ne
      have lY := st.y.lt
      have lX := st.x.lt
      obtain ⟨⟨y0, y1, y2, y3, y4⟩, y5⟩ := st.y
      obtain ⟨⟨x0, x1, x2, x3, x4⟩, x5⟩ := st.x
      clear st hup
      go_wp2_with fail
      have hV3' : V3 = put5w w3 B6 u := hV3
      unfold put5w at hV3'
      rw [← hV3']
      clear hV3' y0 y1 y2 y3 y4 y5 x0 x1 x2 x3 x4 x5
      have lX3 : B5 < V3.heap.size := X3.lt
      refine (add_iv _ X u K b (sumI f i) (f (i + 1)) P3 U3 (by omega) (unhide xb)).mono ?_
      rintro r w4 ⟨v, rfl, hvb, hvp, hb4⟩
      have X4 := X3.below hb4
      have Y4 := Y3.below hb4
      have U4 := U3.below hb4
      have F4 := F3.below hb4
      have R4 := R3.below hb4
      have B4 := bthen B3 hb4
      have e : addI (sumI f i) (f (i + 1)) = sumI f (i + 1) := rfl
      rw [e] at hvp
      replace hvp := hvp.fits (K := K) (sum_le hle _) (hfitS _ (by omega)).1 (hfitS _ (by omega)).2
      have HV := hide hvb
      clear hb4 hvb X3 Y3 P3 U3 F3 R3 B3 hV3
      have stn : SumSt W (put5w w4 B5 v) B5 B6 b K s v u f (i + 1) := ⟨X4.put v, Y4.off (Ne.symm hne) v, hvp.put X4.c v, U4.put X4.c v, unhide HV, unhide HU, F4.off (by omega) v, R4.off (by omega) v, below_put B4 (by omega) v, l5, l6, hne⟩
      unfold put5w at stn
      obtain ⟨⟨x0, x1, x2, x3, x4⟩, x5⟩ := X4
      go_wp2_with fail
      go_roundw
      case rel => exact ⟨i + 1, v, u, by go_num, by omega, stn⟩
      case measure => simp [intOf]; omega
    · have hit' : ¬ ((i : Int) + 1 ≤ (turn : Int)) := by omega
      obtain ⟨⟨y0, y1, y2, y3, y4⟩, y5⟩ := st.y
      go_wp2_with fail
      have hr0 : 0 ≤ (f i).2 := by have := unhide H0 i; have := hle i; omega
      refine (len_int _ _ _ _ _ (f i).2 _ st.yp.hi hr0).mono ?_
      rintro r w2 ⟨l, hlen, rfl, hb2⟩
      replace st := st.below hb2
      clear hb2 y0 y1 y2 y3 y4 y5
      by_cases hin : i < N
      · have hl : 2 < l := by
          have h3 := (unhide HN).2.2 i hin
          refine Int.not_le.1 fun hl => ?_
          obtain ⟨g1, g2, g3⟩ := hlen
          obtain ⟨L, e1, e2, e3⟩ := g3 (by omega)
          have := Q_mono (show L + 1 ≤ 2 by omega)
          have : Q 2 = 4 := rfl
          omega
        clear hlen hr0
        obtain ⟨⟨y0, y1, y2, y3, y4⟩, y5⟩ := st.y
        go_wp2_with fail
        refine (unhide HF i Y _ hin st.yb st.yp st.be).mono ?_
        rintro r w3 ⟨u, rfl, hub, hup, hb3⟩
        replace st := st.below hb3
        replace hup := hup.fits (K := K) (hle _) (hfit _ (by omega)).1 (hfit _ (by omega)).2
        have HU := hide hub
        clear hb3 y0 y1 y2 y3 y4 y5 hub
        obtain ⟨V3, hV3⟩ : ∃ V3, V3 = put5w w3 B6 u := ⟨_, rfl⟩
        have X3 : VrC V3 B5 X := by rw [hV3]; exact st.x.off st.ne u
        have Y3 : VrC V3 B6 u := by rw [hV3]; exact st.y.put u
        have P3 : SpAt V3 X K (sumI f i).1 (sumI f i).2 := by rw [hV3]; exact st.xp.put st.y.c u
        have U3 : SpAt V3 u K (f (i + 1)).1 (f (i + 1)).2 := by rw [hV3]; exact hup.put st.y.c u
        have F3 : SpC V3 W.heap.size s := by rw [hV3]; exact st.fs.off (by have := st.l6; omega) u
        have R3 : NoC V3 (W.heap.size + 1) := by rw [hV3]; exact st.no.off (by have := st.l6; omega) u
        have B3 : Below W.heap.size W V3 := by rw [hV3]; exact below_put st.be (by have := st.l6; omega) u
        have xb := hide st.xb
        have l5 := st.l5
        have l6 := st.l6
        have hne := st.ne
        have lY := st.y.lt
        have lX := st.x.lt
        obtain ⟨⟨y0, y1, y2, y3, y4⟩, y5⟩ := st.y
        obtain ⟨⟨x0, x1, x2, x3, x4⟩, x5⟩ := st.x
        clear st hup
        go_wp2_with fail
        have hV3' : V3 = put5w w3 B6 u := hV3
        unfold put5w at hV3'
        rw [← hV3']
        clear hV3' y0 y1 y2 y3 y4 y5 x0 x1 x2 x3 x4 x5
        have lX3 : B5 < V3.heap.size := X3.lt
        refine (add_iv _ X u K b (sumI f i) (f (i + 1)) P3 U3 (by omega) (unhide xb)).mono ?_
        rintro r w4 ⟨v, rfl, hvb, hvp, hb4⟩
        have X4 := X3.below hb4
        have Y4 := Y3.below hb4
        have U4 := U3.below hb4
        have F4 := F3.below hb4
        have R4 := R3.below hb4
        have B4 := bthen B3 hb4
        have e : addI (sumI f i) (f (i + 1)) = sumI f (i + 1) := rfl
        rw [e] at hvp
        replace hvp := hvp.fits (K := K) (sum_le hle _) (hfitS _ (by omega)).1 (hfitS _ (by omega)).2
        have HV := hide hvb
        clear hb4 hvb X3 Y3 P3 U3 F3 R3 B3 hV3
        have stn : SumSt W (put5w w4 B5 v) B5 B6 b K s v u f (i + 1) := ⟨X4.put v, Y4.off (Ne.symm hne) v, hvp.put X4.c v, U4.put X4.c v, unhide HV, unhide HU, F4.off (by omega) v, R4.off (by omega) v, below_put B4 (by omega) v, l5, l6, hne⟩
        unfold put5w at stn
        obtain ⟨⟨x0, x1, x2, x3, x4⟩, x5⟩ := X4
        go_wp2_with fail
        go_roundw
        case rel => exact ⟨i + 1, v, u, by go_num, by omega, stn⟩
        case measure => simp [intOf]; omega
      · have hie : i = N := by omega
        subst hie
        have hl : ¬ 2 < l := by
          have h1 := (unhide HN).2.1
          intro hl
          obtain ⟨g1, g2, g3⟩ := hlen
          by_cases hp : 0 < (f i).2
          · obtain ⟨L, e1, e2, e3⟩ := g3 hp
            have := Q_mono (show 2 ≤ L by omega)
            have : Q 2 = 4 := rfl
            omega
          · have := g2 (by omega); omega
        clear hlen
        have l5 := st.l5
        have lX := st.x.lt
        have HKr := hide (show ∀ w', Below w2.heap.size w2 w' → (w'.cell? ⟨B5, 0, none⟩ = some (.bool X.ln) ∧ w'.cell? ⟨B5, 1, none⟩ = some (.slice X.la X.lN X.lc) ∧ w'.cell? ⟨B5, 2, none⟩ = some (.bool X.hn) ∧ w'.cell? ⟨B5, 3, none⟩ = some (.slice X.ha X.hN X.hc) ∧ w'.cell? ⟨B5, 4, none⟩ = some (.int .i64 X.bits) ∧ w'.cell? ⟨W.heap.size, 4, none⟩ = some (.int .i64 s.bits)) from fun w' hB => ⟨(st.x.c.below hB).c0, (st.x.c.below hB).c1, (st.x.c.below hB).c2, (st.x.c.below hB).c3, (st.x.c.below hB).c4, (st.fs.below hB).c4⟩)
        have R3 := st.no
        have lR3 := R3.lt
        have ST := hide st
        clear st
        go_wp2_with fail
        obtain ⟨x0, x1, x2, x3, x4, x5⟩ := unhide HKr _ (Below.refl _ _)
        have hD0 : Below w2.heap.size w2 w2.drew := (Below.refl _ _).drew
        have nR1 : W.heap.size + 1 ≠ B5 := by omega
        have nR3 : W.heap.size + 1 ≠ W.heap.size := by omega
        go_region_held3 (fun w' => w'.cell? ⟨B5, 0, none⟩ = some (.bool X.ln) ∧ w'.cell? ⟨B5, 1, none⟩ = some (.slice X.la X.lN X.lc) ∧ w'.cell? ⟨B5, 2, none⟩ = some (.bool X.hn) ∧ w'.cell? ⟨B5, 3, none⟩ = some (.slice X.ha X.hN X.hc) ∧ w'.cell? ⟨B5, 4, none⟩ = some (.int .i64 X.bits) ∧ w'.cell? ⟨W.heap.size, 4, none⟩ = some (.int .i64 s.bits)) (first | exact unhide HKr _ (by first | with_reducible exact hD0 | with_reducible exact hD2 | with_reducible exact hD1) | go_keep)
          (first
            | (go_at_call 56; have hq := hD1; refine (add_iv _ X ⟨false, none, 0, 0, neg4, a4, n4, c4, s.bits⟩ K b (sumI f i) (0, 9) ((unhide ST).xp.below hD1) ⟨zeroInt _ _, hint4.mono hK4⟩ (by omega) (unhide ST).xb).mono ?_; rintro r' w5 ⟨v, rfl, hvb, hvp, hb5⟩; have hD2 := bthen hD1 hb5; have HV := hide hvb; clear hvb; obtain ⟨q0, q1, q2, q3, q4, q5⟩ := R3.below hD2; obtain ⟨y0, y1, y2, y3, y4, y5⟩ := unhide HKr _ hD2)
            | (go_at_call 48; refine (numOf_int 9 _ (by omega) (by omega)).mono ?_; rintro r' w4 ⟨neg4, a4, n4, c4, rfl, hint4, hb4⟩; have hD1 := bthen hD0 hb4))
        all_goals
          go_wp2_with fail
          refine bodyPost_ret (v := .agg #[.bool v.ln, .slice v.la v.lN v.lc, .bool v.hn, .slice v.ha v.hN v.hc, .int .i64 v.bits]) (by simp [results, Try.results125, go_sem, q0, q1, q2, q3, q4]) rfl ⟨v, rfl, unhide HV, ?_, ?_⟩
          · exact SpAt.put5 (hvp.mono (by omega)) q0 q1 q2 q3 q4 _ _ _ _ _
          · exact set5 (bthen (unhide ST).be hD2) (Nat.le_succ _) _ _ _ _ _
end Go.Proofs.Ytgmnknmjainabab
namespace Go.Proofs.Ytgmnknmjainabab
open Go.RowKit
attribute [local go_sem ↓] Go.wp_at_zero Go.wp_at_succ
open Ex
theorem lw_fit {x : Nat → Rat} {B : Nat} {l u : Int} (h : LwPr x B l u) (hB : B ≤ 400) : l ≤ u ∧ -P 30 < l ∧ u < P 30 := by
  have h1 := Q_mono (show B + 1 ≤ 16 * 30 by omega)
  rw [Q_P] at h1
  have h2 : Q (B + 1) = 2 * Q B := rfl
  have := Q_pos B
  have := h.lo
  have := h.hi
  exact ⟨h.le, by omega, by omega⟩
end Go.Proofs.Ytgmnknmjainabab
namespace Go.Proofs.Ytgmnknmjainabab
open Go.RowKit
attribute [local go_sem ↓] Go.wp_at_zero Go.wp_at_succ
open Ex
theorem bl5 (w : World) (o1 o2 o3 o4 o5 : Obj) : Below w.heap.size w (((((w.alloc o1).alloc o2).alloc o3).alloc o4).alloc o5) := (bl4 w o1 o2 o3 o4).alloc (by simp; omega) _
theorem wideLog_lw (L : Rat → Nat → Rat) (hL : Lns L) (w : World) (x y : Nm) (b : Nat) (n d : Int) (hx : IntAt w x.neg x.a x.n x.cap 4 n) (hy : IntAt w y.neg y.a y.n y.cap 4 d) (hn : 0 < n) (hd : 0 < d) (hb0 : 40 ≤ b) (hb : b ≤ 400) :
    Calls Try.prog 128 #[.agg #[.bool x.neg, .slice x.a x.n x.cap], .agg #[.bool y.neg, .slice y.a y.n y.cap], .int .i64 b] w (fun r w' => ∃ lo hi, LwLog L ((n : Rat) / (d : Rat)) b (lo, hi) ∧ SpanAns w b 520 lo hi r w') := by
  refine (wideLog_iv w x y 4 b 500 n d hx hy (by omega) hn hd (by omega) (by omega) ?_ (by omega)).mono ?_
  · rw [← Q_P]
    have h1 := Q_mono (show b + 4 + 1 ≤ 16 * 500 by omega)
    have h2 : Q (b + 4 + 1) = 2 * Q (b + 4) := rfl
    have := Q_pos (b + 4)
    omega
  · rintro r w' ⟨n', d', cc, N1, N2, hbal, hc1, hc2, hN1, hN2, h⟩
    exact ⟨_, _, lwLog_of hL hn hd (by omega) hbal (by omega) (by omega) hN1 hN2, h⟩
def bvX (L : Rat → Nat → Rat) (p q r s n d : Int) : Nat → Rat := if n = 0 then fun _ => 0 else if n = d then fun _ => 1 else bv L ((p : Rat) / (q : Rat)) ((r : Rat) / (s : Rat)) ((n : Rat) / (d : Rat))
end Go.Proofs.Ytgmnknmjainabab
