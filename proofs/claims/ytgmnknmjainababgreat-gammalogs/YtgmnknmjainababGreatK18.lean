/-
  Texts Gmf, PowM, ErfV, GamN, Gmh, Pwx, Pwy, Tou, Pwp: what they hold is told in the last text.
-/
import Derived.Test.YtgmnknmjainababGreatK17
set_option linter.unnecessarySimpa false
set_option linter.unusedSimpArgs false
set_option linter.unusedVariables false
namespace Go.Proofs.YtgmnknmjainababGreat
open Go.RowKit
attribute [local go_sem ↓] Go.wp_at_zero Go.wp_at_succ
open Ex
def LgIs (n d : Int) (b : Nat) (x : Nat → Rat) : Prop := ∀ w' : World, Calls Tryz.prog 61 #[.int .i64 n, .int .i64 d, .int .i64 b] w' (fun r w'' => ∃ lo hi, LgPr x b 46 lo hi ∧ SpanAns w' b 521 lo hi r w'')
theorem prd_bd {p q : Int} (h1 : -1048576 ≤ p) (h2 : p ≤ 1048576) (h3 : 0 ≤ q) (h4 : q ≤ 1024) : -1073741824 ≤ p * q ∧ p * q ≤ 1073741824 := by
  have := abs_mul (x := p) (y := q) (m := 1048576) (n := 1024) h1 h2 (by omega) h4
  omega
set_option maxRecDepth 100000 in
set_option maxHeartbeats 2000000 in
theorem sumOf_iv (w : World) (p1 q1 p2 q2 : Int) (h1 : rok p1 q1) (h2 : rok p2 q2) :
    Calls Tryz.prog 117 #[.agg #[.int .i64 p1, .int .i64 q1], .agg #[.int .i64 p2, .int .i64 q2]] w (fun r w' => r = .returned (.agg #[.int .i64 (p1 * q2 + p2 * q1), .int .i64 (q1 * q2)]) ∧ Below w.heap.size w w') := by
  obtain ⟨a1, a2, a3, a4⟩ := h1
  obtain ⟨b1, b2, b3, b4⟩ := h2
  obtain ⟨c1, c2⟩ := prd_bd a1 a2 (show 0 ≤ q2 by omega) b4
  obtain ⟨d1, d2⟩ := prd_bd b1 b2 (show 0 ≤ q1 by omega) a4
  obtain ⟨e1, e2⟩ := prd_bd (p := q1) (by omega) (by omega) (show 0 ≤ q2 by omega) b4
  go_enter Tryz.func117, Tryz.ntmps117
  go_wp2_with fail
  refine bodyPost_ret (v := .agg #[.int .i64 (p1 * q2 + p2 * q1), .int .i64 (q1 * q2)]) (by simp [results, Tryz.results117, go_sem]) rfl ⟨rfl, ?_⟩
  exact bl3 _ _ _ _
set_option maxRecDepth 100000 in
set_option maxHeartbeats 4000000 in
theorem logBeta_iv (w : World) (p1 q1 p2 q2 : Int) (b : Nat) (x y z : Nat → Rat) (h1 : rok p1 q1) (h2 : rok p2 q2) (L1 : LgIs p1 q1 b x) (L2 : LgIs p2 q2 b y) (L3 : LgIs (p1 * q2 + p2 * q1) (q1 * q2) b z) :
    Calls Tryz.prog 63 #[.agg #[.int .i64 p1, .int .i64 q1], .agg #[.int .i64 p2, .int .i64 q2], .int .i64 b] w (fun r w' => ∃ lo hi, LgPr (fun M => x M + y M - z M) b 48 lo hi ∧ SpanAns w b 523 lo hi r w') := by
  obtain ⟨W, hW⟩ : ∃ W, W = ((w.alloc (.cells #[.int .i64 p1, .int .i64 q1] 23)).alloc (.cells #[.int .i64 p2, .int .i64 q2] 23)).alloc (.cells #[.bool false, .slice none 0 0, .bool false, .slice none 0 0, .int .i64 0] 28) := ⟨_, rfl⟩
  have hBW : Below w.heap.size w W := by rw [hW]; exact bl3 _ _ _ _
  have A : RaC W w.heap.size p1 q1 := by rw [hW]; exact ⟨by simp [go_sem], by simp [go_sem]⟩
  have D : RaC W (w.heap.size + 1) p2 q2 := by rw [hW]; exact ⟨by simp [go_sem], by simp [go_sem]⟩
  have R : NoC W (w.heap.size + 1 + 1) := by rw [hW]; exact ⟨by simp [go_sem], by simp [go_sem], by simp [go_sem], by simp [go_sem], by simp [go_sem], fun o => by simp [go_sem]⟩
  have H1 := hide L1
  have H2 := hide L2
  have H3 := hide L3
  have HR := hide (And.intro h1 h2)
  have lA := A.lt
  have lD := D.lt
  have fA0 := A.c0
  have fA1 := A.c1
  have fD0 := D.c0
  have fD1 := D.c1
  clear L1 L2 L3 h1 h2
  go_enter Tryz.func63, Tryz.ntmps63
  go_wp2_with fail
  rw [← hW]
  clear hW fA0 fA1 fD0 fD1
  refine (sumOf_iv _ p1 q1 p2 q2 (unhide HR).1 (unhide HR).2).mono ?_
  rintro r w1 ⟨rfl, hb1⟩
  replace A := A.below hb1
  replace D := D.below hb1
  replace R := R.below hb1
  replace hBW := bthen hBW hb1
  clear hb1 lA lD
  have lR := R.lt
  obtain ⟨V, hV⟩ : ∃ V, V = w1.alloc (.cells #[.int .i64 (p1 * q2 + p2 * q1), .int .i64 (q1 * q2)] 23) := ⟨_, rfl⟩
  have bV : Below w1.heap.size w1 V := by rw [hV]; exact bl1 _ _
  have E : RaC V w1.heap.size (p1 * q2 + p2 * q1) (q1 * q2) := by rw [hV]; exact rac_new w1 _ _ _
  replace A := A.below bV
  replace D := D.below bV
  replace R := R.below bV
  replace hBW := bthen hBW bV
  have lA := A.lt
  have lD := D.lt
  have lE := E.lt
  have HK := hide (show ∀ w', Below V.heap.size V w' → (w'.cell? ⟨w.heap.size, 0, none⟩ = some (.int .i64 p1) ∧ w'.cell? ⟨w.heap.size, 1, none⟩ = some (.int .i64 q1) ∧ w'.cell? ⟨(w.heap.size + 1), 0, none⟩ = some (.int .i64 p2) ∧ w'.cell? ⟨(w.heap.size + 1), 1, none⟩ = some (.int .i64 q2) ∧ w'.cell? ⟨w1.heap.size, 0, none⟩ = some (.int .i64 (p1 * q2 + p2 * q1)) ∧ w'.cell? ⟨w1.heap.size, 1, none⟩ = some (.int .i64 (q1 * q2))) from fun w' hB => ⟨(A.below hB).c0, (A.below hB).c1, (D.below hB).c0, (D.below hB).c1, (E.below hB).c0, (E.below hB).c1⟩)
  clear bV
  go_wp2_with fail
  rw [← hV]
  clear hV
  go_cut [8] (fun p wx => ∃ (B : Nat) (u : Sp) (l1 u1 l2 u2 : Int), p = .pointer (some ⟨B, 0, none⟩) ∧ LgPr x b 46 l1 u1 ∧ LgPr y b 46 l2 u2 ∧ V.heap.size ≤ B ∧ VrC wx B u ∧ SpAt wx u 522 (((l1 + l2, u1 + u2) : Int × Int)).1 (((l1 + l2, u1 + u2) : Int × Int)).2 ∧ u.bits = (b : Int) ∧ Below V.heap.size V wx)
  case first =>
    go_region_held3 (fun w' => w'.cell? ⟨w.heap.size, 0, none⟩ = some (.int .i64 p1) ∧ w'.cell? ⟨w.heap.size, 1, none⟩ = some (.int .i64 q1) ∧ w'.cell? ⟨(w.heap.size + 1), 0, none⟩ = some (.int .i64 p2) ∧ w'.cell? ⟨(w.heap.size + 1), 1, none⟩ = some (.int .i64 q2) ∧ w'.cell? ⟨w1.heap.size, 0, none⟩ = some (.int .i64 (p1 * q2 + p2 * q1)) ∧ w'.cell? ⟨w1.heap.size, 1, none⟩ = some (.int .i64 (q1 * q2))) (exact unhide HK _ (by repeat' (first | with_reducible exact hBE3 | with_reducible exact hBE2 | with_reducible exact hBE1 | with_reducible exact Below.refl _ _ | with_reducible refine Below.drew ?_ | with_reducible refine balloc ?_ _ | with_reducible refine Below.setCell ?_ (by first | exact Nat.le_refl _ | exact hlE1 | exact hlE2 | exact hlE3) _)))
      (first
        | (go_at_call 113; have hq := hBE2; refine (add_iv _ vE1 vE2 521 b (l1, u1) (l2, u2) ((hintE1.below hCE2).below (by first | with_reducible exact Below.refl _ _ | with_reducible exact bl1 _ _)) (hintE2.below (by first | with_reducible exact Below.refl _ _ | with_reducible exact bl1 _ _)) (by omega) (unhide HVBE1)).mono ?_; rintro r wE3 ⟨vE3, rfl, hvbE3, hintE3, hbE3⟩; have HVBE3 := hide hvbE3; clear hvbE3; have hCE3 : Below wE2.heap.size wE2 wE3 := (by first | with_reducible exact hbE3 | with_reducible exact bthen (bl1 _ _) hbE3); have hBE3 := bthen hBE2 hCE3; (try with_reducible have gE3 := (noc_new wE2 28).below hbE3); (try replace gE1 := gE1.below hCE3); (try replace gE2 := gE2.below hCE3); have hlE3 := hBE3.size; (try have mE1 := gE1.lt); (try have eE1 := Nat.ne_of_lt mE1); (try have eE1' := Nat.ne_of_gt mE1); (try obtain ⟨zE10, zE11, zE12, zE13, zE14, zE15⟩ := gE1); (try have mE2 := gE2.lt); (try have eE2 := Nat.ne_of_lt mE2); (try have eE2' := Nat.ne_of_gt mE2); (try obtain ⟨zE20, zE21, zE22, zE23, zE24, zE25⟩ := gE2); (try have mE3 := gE3.lt); (try have eE3 := Nat.ne_of_lt mE3); (try have eE3' := Nat.ne_of_gt mE3); (try obtain ⟨zE30, zE31, zE32, zE33, zE34, zE35⟩ := gE3))
        | (go_at_call 61; have hq := hBE1; refine (unhide H2 _).mono ?_; rintro r wE2 ⟨l2, u2, hp2, vE2, rfl, hvbE2, hintE2, hbE2⟩; have HVBE2 := hide hvbE2; have Hhp2 := hide hp2; clear hvbE2 hp2; have hCE2 : Below wE1.heap.size wE1 wE2 := (by first | with_reducible exact hbE2 | with_reducible exact bthen (bl1 _ _) hbE2); have hBE2 := bthen hBE1 hCE2; (try with_reducible have gE2 := (noc_new wE1 28).below hbE2); (try replace gE1 := gE1.below hCE2); have hlE2 := hBE2.size)
        | (go_at_call 61; refine (unhide H1 _).mono ?_; rintro r wE1 ⟨l1, u1, hp1, vE1, rfl, hvbE1, hintE1, hbE1⟩; have HVBE1 := hide hvbE1; have Hhp1 := hide hp1; clear hvbE1 hp1; have hBE1 : Below V.heap.size V wE1 := (by first | with_reducible exact bthen (Below.refl _ _).drew hbE1 | with_reducible exact bthen (bl1 _ _).drew hbE1); (try with_reducible have gE1 := ((noc_new V 28).below (Below.refl _ _).drew).below hbE1); have hlE1 := hBE1.size))
    all_goals
      have hfinE : SpAt wE3 vE3 522 (((l1 + l2, u1 + u2) : Int × Int)).1 (((l1 + l2, u1 + u2) : Int × Int)).2 := hintE3
      go_wp2_with fail
      go_meet
      refine ⟨_, vE3, l1, u1, l2, u2, rfl, unhide Hhp1, unhide Hhp2, ?_, ⟨⟨?_, ?_, ?_, ?_, ?_⟩, ?_⟩, ?_, unhide HVBE3, ?_⟩
      · first | exact Nat.le_refl _ | exact hlE1 | exact hlE2 | exact hlE3
      · simp [go_sem, *]
      · simp [go_sem, *]
      · simp [go_sem, *]
      · simp [go_sem, *]
      · simp [go_sem, *]
      · intro o; simp [go_sem, *]
      · first | with_reducible exact SpAt.put5 hfinE zE30 zE31 zE32 zE33 zE34 _ _ _ _ _ | with_reducible exact SpAt.put5 hfinE zE20 zE21 zE22 zE23 zE24 _ _ _ _ _ | with_reducible exact SpAt.put5 hfinE zE10 zE11 zE12 zE13 zE14 _ _ _ _ _ | with_reducible exact hfinE.below (bl1 _ _)
      · repeat' (first | with_reducible exact hBE3 | with_reducible exact hBE2 | with_reducible exact hBE1 | with_reducible exact Below.refl _ _ | with_reducible refine Below.drew ?_ | with_reducible refine balloc ?_ _ | with_reducible refine Below.setCell ?_ (by first | exact Nat.le_refl _ | exact hlE1 | exact hlE2 | exact hlE3) _)
  case rest =>
  obtain ⟨BE, xE, l1, u1, l2, u2, rfl, hp1, hp2, hHE, XE, hpE, hxbE, hblE⟩ := hcut
  replace A := A.below hblE
  replace D := D.below hblE
  replace E := E.below hblE
  have lR2 := R.lt
  replace R := R.below hblE
  replace hBW := bthen hBW hblE
  have HEB := hide hxbE
  have HEP := hide hpE
  have Hp1 := hide hp1
  have Hp2 := hide hp2
  have lXE := XE.lt
  have HK2 := hide (show ∀ w', Below wc.heap.size wc w' → (w'.cell? ⟨w.heap.size, 0, none⟩ = some (.int .i64 p1) ∧ w'.cell? ⟨w.heap.size, 1, none⟩ = some (.int .i64 q1) ∧ w'.cell? ⟨(w.heap.size + 1), 0, none⟩ = some (.int .i64 p2) ∧ w'.cell? ⟨(w.heap.size + 1), 1, none⟩ = some (.int .i64 q2) ∧ w'.cell? ⟨w1.heap.size, 0, none⟩ = some (.int .i64 (p1 * q2 + p2 * q1)) ∧ w'.cell? ⟨w1.heap.size, 1, none⟩ = some (.int .i64 (q1 * q2)) ∧ w'.cell? ⟨BE, 0, none⟩ = some (.bool xE.ln) ∧ w'.cell? ⟨BE, 1, none⟩ = some (.slice xE.la xE.lN xE.lc) ∧ w'.cell? ⟨BE, 2, none⟩ = some (.bool xE.hn) ∧ w'.cell? ⟨BE, 3, none⟩ = some (.slice xE.ha xE.hN xE.hc) ∧ w'.cell? ⟨BE, 4, none⟩ = some (.int .i64 xE.bits)) from fun w' hB => ⟨(A.below hB).c0, (A.below hB).c1, (D.below hB).c0, (D.below hB).c1, (E.below hB).c0, (E.below hB).c1, (XE.c.below hB).c0, (XE.c.below hB).c1, (XE.c.below hB).c2, (XE.c.below hB).c3, (XE.c.below hB).c4⟩)
  have lA2 := A.lt
  have lD2 := D.lt
  have lE2 := E.lt
  have lR3 := R.lt
  have n1 : w.heap.size + 1 + 1 ≠ w.heap.size := by omega
  have n2 : w.heap.size + 1 + 1 ≠ w.heap.size + 1 := by omega
  have n3 : w.heap.size + 1 + 1 ≠ w1.heap.size := by omega
  have n4 : w.heap.size + 1 + 1 ≠ BE := by omega
  clear hxbE hpE hp1 hp2 HK hblE A D E XE
  have hD0 : Below wc.heap.size wc wc.drew := (Below.refl _ _).drew
  obtain ⟨x0, x1, x2, x3, x4, x5, y0, y1, y2, y3, y4⟩ := unhide HK2 _ (Below.refl _ _)
  go_wp2_with fail
  go_region_held3 (fun w' => w'.cell? ⟨w.heap.size, 0, none⟩ = some (.int .i64 p1) ∧ w'.cell? ⟨w.heap.size, 1, none⟩ = some (.int .i64 q1) ∧ w'.cell? ⟨(w.heap.size + 1), 0, none⟩ = some (.int .i64 p2) ∧ w'.cell? ⟨(w.heap.size + 1), 1, none⟩ = some (.int .i64 q2) ∧ w'.cell? ⟨w1.heap.size, 0, none⟩ = some (.int .i64 (p1 * q2 + p2 * q1)) ∧ w'.cell? ⟨w1.heap.size, 1, none⟩ = some (.int .i64 (q1 * q2)) ∧ w'.cell? ⟨BE, 0, none⟩ = some (.bool xE.ln) ∧ w'.cell? ⟨BE, 1, none⟩ = some (.slice xE.la xE.lN xE.lc) ∧ w'.cell? ⟨BE, 2, none⟩ = some (.bool xE.hn) ∧ w'.cell? ⟨BE, 3, none⟩ = some (.slice xE.ha xE.hN xE.hc) ∧ w'.cell? ⟨BE, 4, none⟩ = some (.int .i64 xE.bits)) (first | exact unhide HK2 _ (by first | with_reducible exact hD0 | with_reducible exact hD2 | with_reducible exact hD1) | go_keep)
    (first
      | (go_at_call 118; have hqq := hD1; refine (sub_iv _ xE v1 522 b (l1 + l2, u1 + u2) (l3, u3) ((unhide HEP).below hD1) (hint1.mono (by omega)) (by omega) (unhide HEB)).mono ?_; rintro r' w5 ⟨t, rfl, htb, htp, hb2⟩; have HT := hide htb; clear htb; have hD2 := bthen hD1 hb2; obtain ⟨q0, q1', q2', q3, q4, q5⟩ := R.below hD2; obtain ⟨i0, i1, i2, i3, i4, i5, j0, j1, j2, j3, j4⟩ := unhide HK2 _ hD2)
      | (go_at_call 61; refine (unhide H3 _).mono ?_; rintro r' w4 ⟨l3, u3, hp3, v1, rfl, hvb1, hint1, hb1⟩; have Hp3 := hide hp3; clear hvb1 hp3; have hD1 := bthen hD0 hb1))
  all_goals
    go_wp2_with fail
    refine bodyPost_ret (v := .agg #[.bool t.ln, .slice t.la t.lN t.lc, .bool t.hn, .slice t.ha t.hN t.hc, .int .i64 t.bits]) (by simp [results, Tryz.results63, go_sem, q0, q1', q2', q3, q4]) rfl ⟨_, _, lbeta_ok (unhide Hp1) (unhide Hp2) (unhide Hp3), t, rfl, unhide HT, ?_, ?_⟩
    · exact SpAt.put5 htp q0 q1' q2' q3 q4 _ _ _ _ _
    · exact set5 (bthen hBW hD2) (by omega) _ _ _ _ _
end Go.Proofs.YtgmnknmjainababGreat
namespace Go.Proofs.YtgmnknmjainababGreat
open Ex
theorem dbl {b : Int} (m : Nat) : ∀ {a : Int}, 0 < a → a ≤ b → b - a ≤ (m : Int) → ∃ i, a * Q i ≤ b ∧ b < 2 * (a * Q i) := by
  have e0 : Q 0 = 1 := rfl
  induction m with
  | zero =>
    intro a h1 h2 h3
    exact ⟨0, by rw [e0]; omega, by rw [e0]; omega⟩
  | succ m ih =>
    intro a h1 h2 h3
    by_cases h : b < 2 * a
    · exact ⟨0, by rw [e0]; omega, by rw [e0]; omega⟩
    · obtain ⟨i, g1, g2⟩ := ih (a := 2 * a) (by omega) (by omega) (by omega)
      have e : a * Q (i + 1) = 2 * a * Q i := by show a * (2 * Q i) = _; grind
      exact ⟨i + 1, by rw [e]; exact g1, by rw [e]; exact g2⟩
theorem bal_ex {n d : Int} (hn : 0 < n) (hd : 0 < d) : ∃ n' d' k, Bal n d n' d' k := by
  have e0 : Q 0 = 1 := rfl
  by_cases h : d ≤ n
  · obtain ⟨i, h1, h2⟩ := dbl (n - d).toNat hd h (by omega)
    exact ⟨n, _, _, bal_of (j := 0) (i := i) hn hd (by rw [e0]; omega) rfl h1 h2 (Or.inl rfl)⟩
  · obtain ⟨i, h1, h2⟩ := dbl (d - n).toNat hn (Int.le_of_lt (Int.not_le.1 h)) (by omega)
    by_cases h3 : n * Q i = d
    · exact ⟨_, d, _, bal_of (j := i) (i := 0) hn hd rfl (by rw [e0]; omega) (by omega) (by omega) (Or.inr rfl)⟩
    · have e : n * Q (i + 1) = 2 * (n * Q i) := by show n * (2 * Q i) = _; grind
      exact ⟨_, d, _, bal_of (j := i + 1) (i := 0) hn hd rfl (by rw [e0]; omega) (by omega) (by omega) (Or.inr rfl)⟩
theorem log_ex {n d : Int} (hn : 0 < n) (hd : 0 < d) : ∃ l, IsLog l (fun _ => (n : Rat) / (d : Rat)) := by
  obtain ⟨n', d', k, h⟩ := bal_ex hn hd
  exact ⟨_, bal_isLog hd h (ln_isLog h.1) isLog_two⟩
theorem E3 (j : Nat) : (16 : Rat) ≤ E 3 (5 + j) := by
  induction j with
  | zero => decide +kernel
  | succ j ih =>
    have e : E 3 (5 + (j + 1)) = E 3 (5 + j) + tm 3 (5 + j) := rfl
    have := tm_nonneg (show (0 : Rat) ≤ 3 by decide) (5 + j)
    rw [e]; grind
end Go.Proofs.YtgmnknmjainababGreat
namespace Go.Proofs.YtgmnknmjainababGreat
open Ex
theorem sure_nar {b m : Nat} {lo hi L H : Int} (hle : lo ≤ hi) (e1 : L = lo / Q m) (e2 : H = -(-hi / Q m)) (h6 : H - L ≤ 1 ∨ narB L H (Q b) 4 = true) : L ≤ H ∧ narB L H (Q b) 4 = true := by
  have h7 := to_width (m := m) (Kw := (hi - lo).toNat) hle (by
    have : ∀ k : Nat, (k : Int) ≤ Q k := fun k => by
      induction k with
      | zero => decide
      | succ k ih => have e : Q (k + 1) = 2 * Q k := rfl; have := Q_pos k; omega
    have := this (hi - lo).toNat
    omega)
  have h8 : L ≤ H := by rw [e1, e2]; omega
  refine ⟨h8, ?_⟩
  rcases h6 with h6 | h6
  · exact narB_small h8 (by omega)
  · exact h6
end Go.Proofs.YtgmnknmjainababGreat
namespace Go.Proofs.YtgmnknmjainababGreat
open Ex
theorem Lns_ex : ∃ L, Lns L := by
  have each : ∀ x : Rat, ∃ l : Nat → Rat, 0 < x → IsLog l (fun _ => x) := fun x => by
    by_cases h : 0 < x
    · have hn : 0 < x.num := by have := (Rat.lt_iff (0 : Rat) x).1 h; simpa using this
      have hd : (0 : Int) < (x.den : Int) := by exact_mod_cast x.den_pos
      obtain ⟨l, hl⟩ := log_ex hn hd
      have e : (x.num : Rat) / ((x.den : Int) : Rat) = x := (Rat.divInt_eq_div _ _).symm.trans (Rat.num_divInt_den x)
      rw [e] at hl
      exact ⟨l, fun _ => hl⟩
    · exact ⟨fun _ => 0, fun h' => absurd h' h⟩
  obtain ⟨L, hL⟩ := Classical.skolem.1 each
  exact ⟨L, fun x hx => hL x hx⟩
def gA (n d : Int) : Rat := ((n - (stN n d : Int) * d : Int) : Rat) / (d : Rat)
structure GEnv (L G : Rat → Nat → Rat) (X : Int → Int → Nat → Rat) : Prop where
  lns : Lns L
  gam : ∀ a, 0 < a → a ≤ 1 → Gam1 L a (G a)
  lg : ∀ n d, StIn n d → IsLog (X n d) (gmV n d (G (gA n d)))
theorem gA_ok {n d : Int} (h : StIn n d) : 0 < gA n d ∧ gA n d ≤ 1 := by
  obtain ⟨r1, r2, r3⟩ := h.rest
  have d0 : (0 : Rat) < (d : Rat) := by exact_mod_cast h.d0
  have a0 : (0 : Rat) < ((n - (stN n d : Int) * d : Int) : Rat) := by exact_mod_cast r1
  exact ⟨rdiv_pos a0 d0, rdiv_le d0 (by have := cast_le r2; grind)⟩
theorem gmV_log {L : Rat → Nat → Rat} (hL : Lns L) {n d : Int} (h : StIn n d) {g : Nat → Rat} (hg : Gam1 L (gA n d) g) : ∃ x, IsLog x (gmV n d g) := by
  have ig := hg.isGam hL (gA_ok h).1
  have p0 : (0 : Rat) < (stP n d (stN n d) : Rat) := by exact_mod_cast stP_pos h (Nat.le_refl _)
  have q0 : (0 : Rat) < (stQ d (stN n d) : Rat) := by exact_mod_cast stQ_pos h.d0 _
  have r0 := rdiv_pos p0 q0
  refine log_seq hL ((Bdd.const _).mul ig.bdd) ?_
  obtain ⟨c, c0, N, hc⟩ := ig.pos
  exact ⟨_, Rat.mul_pos r0 c0, N, fun M hM => Rat.mul_le_mul_of_nonneg_left (hc M hM) (Rat.le_of_lt r0)⟩
theorem genv_ex : ∃ L G X, GEnv L G X := by
  obtain ⟨L, hL⟩ := Lns_ex
  have e1 : ∀ a : Rat, ∃ g : Nat → Rat, 0 < a → a ≤ 1 → Gam1 L a g := fun a => by
    by_cases h : 0 < a ∧ a ≤ 1
    · obtain ⟨g, hg⟩ := gam1_ex hL h.1 h.2
      exact ⟨g, fun _ _ => hg⟩
    · exact ⟨fun _ => 0, fun h1 h2 => absurd ⟨h1, h2⟩ h⟩
  obtain ⟨G, hG⟩ := Classical.skolem.1 e1
  have e2 : ∀ z : Int × Int, ∃ x : Nat → Rat, StIn z.1 z.2 → IsLog x (gmV z.1 z.2 (G (gA z.1 z.2))) := fun z => by
    by_cases h : StIn z.1 z.2
    · obtain ⟨x, hx⟩ := gmV_log hL h (hG _ (gA_ok h).1 (gA_ok h).2)
      exact ⟨x, fun _ => hx⟩
    · exact ⟨fun _ => 0, fun h' => absurd h' h⟩
  obtain ⟨X, hX⟩ := Classical.skolem.1 e2
  exact ⟨L, G, fun n d => X (n, d), hL, hG, fun n d h => hX (n, d) h⟩
theorem Q_fit {b m k : Nat} (h : b + k ≤ 3200) : Q (b + m + k) ≤ P 200 * Q m := by
  rw [← Q_P, ← Q_add]
  exact Q_mono (by omega)
theorem gm_ends (x : Nat → Rat) {bits : Nat} (hb : bits ≤ 120) : SureEnds bits 90 (GmPr x) := fun m lo hi h => by
  have q := Q_fit (b := bits) (m := m) (k := 706) (by omega)
  have := h.hi
  have := h.lo
  have p := Int.mul_nonneg (show 0 ≤ P 200 by have := P_pos 200; omega) (show 0 ≤ Q m by have := Q_pos m; omega)
  exact ⟨h.le, h.wd, by omega, by omega⟩
theorem lg_ends (x : Nat → Rat) {bits W : Nat} (hW : W ≤ 50) (hb : bits ≤ 120) : SureEnds bits 50 (fun B lo hi => LgPr x B W lo hi) := fun m lo hi h => by
  have q := Q_fit (b := bits) (m := m) (k := W) (by omega)
  obtain ⟨a1, a2, a3, a4⟩ := h.ab
  simp only [] at a1 a2 a3 a4
  exact ⟨h.le, Int.le_trans h.wd (Q_mono hW), by omega, by omega⟩
structure SuV (x : Nat → Rat) (b : Nat) (L H : Int) : Prop where
  le : L ≤ H
  nar : narB L H (Q b) 4 = true
  val : Iv b (L, H) x
theorem sure_su {x : Nat → Rat} {b : Nat} {Pr : Nat → Int → Int → Prop} {L H : Int} (h : SureOf b Pr L H) (hp : ∀ B lo hi, Pr B lo hi → lo ≤ hi ∧ Iv B (lo, hi) x) : SuV x b L H := by
  obtain ⟨m, lo, hi, pr, hm, e1, e2, h6⟩ := h
  obtain ⟨g1, iv⟩ := hp _ _ _ pr
  obtain ⟨n1, n2⟩ := sure_nar g1 e1 e2 h6
  refine ⟨n1, n2, ?_⟩
  have := Iv.to (B := b) (m := m) iv
  rw [e1, e2]; exact this
theorem sure_gm {x : Nat → Rat} {b : Nat} {L H : Int} (h : SureOf b (GmPr x) L H) : SuV x b L H ∧ 0 ≤ L ∧ H ≤ Q (b + 706) := by
  refine ⟨sure_su h fun B lo hi p => ⟨p.le, p.iv⟩, ?_⟩
  obtain ⟨m, lo, hi, pr, hm, e1, e2, h6⟩ := h
  have q := Q_pos m
  refine ⟨by rw [e1]; exact Int.ediv_nonneg pr.lo (by omega), ?_⟩
  have e : Q (b + m + 706) = Q (b + 706) * Q m := by rw [← Q_add]; congr 1; omega
  have hh := pr.hi
  have p0 := pr.lo
  have pl := pr.le
  have r := (round_abs (x := hi) (m := Q (b + 706)) (q := Q m) (by omega) (by
    have := Int.mul_nonneg (show 0 ≤ Q (b + 706) by have := Q_pos (b + 706); omega) (show 0 ≤ Q m by omega)
    omega) (by omega)).2.2.2
  rw [e2]; exact r
theorem sure_lg {x : Nat → Rat} {b W : Nat} {L H : Int} (h : SureOf b (fun B lo hi => LgPr x B W lo hi) L H) : SuV x b L H := sure_su h fun B lo hi p => ⟨p.le, p.iv⟩
end Go.Proofs.YtgmnknmjainababGreat
namespace Go.Proofs.YtgmnknmjainababGreat
open Go.RowKit
attribute [local go_sem ↓] Go.wp_at_zero Go.wp_at_succ
open Ex
theorem st_of {p q : Int} (hr : rok p q) (h0 : 0 < p) (h1 : p ≤ 201 * q) : StIn p q := by
  obtain ⟨r1, r2, r3, r4⟩ := hr
  exact ⟨h0, by omega, by omega, h1⟩
theorem st_sum {p1 q1 p2 q2 : Int} (hr : rok p1 q1) (hs : rok p2 q2) (h0 : 0 < p1) (h1 : p1 ≤ 100 * q1) (k0 : 0 < p2) (k1 : p2 ≤ 100 * q2) : StIn (p1 * q2 + p2 * q1) (q1 * q2) ∧ (p1 * q2 + p2 * q1) ≤ 4611686018427387904 := by
  obtain ⟨r1, r2, r3, r4⟩ := hr
  obtain ⟨s1, s2, s3, s4⟩ := hs
  have a := Int.mul_pos h0 (show 0 < q2 by omega)
  have b := Int.mul_pos k0 (show 0 < q1 by omega)
  have c := Int.mul_pos (show 0 < q1 by omega) (show 0 < q2 by omega)
  have e := Int.mul_le_mul r4 s4 (by omega) (by omega)
  have f := Int.mul_le_mul_of_nonneg_right h1 (show 0 ≤ q2 by omega)
  have g := Int.mul_le_mul_of_nonneg_right k1 (show 0 ≤ q1 by omega)
  have e1 : 100 * q1 * q2 = 100 * (q1 * q2) := by grind
  have e2 : 100 * q2 * q1 = 100 * (q1 * q2) := by grind
  exact ⟨⟨by omega, c, by omega, by omega⟩, by omega⟩
theorem lgIs_of {L G : Rat → Nat → Rat} {X : Int → Int → Nat → Rat} (hE : GEnv L G X) {n d : Int} (h : StIn n d) (hn : n ≤ 4611686018427387904) {b : Nat} (hb0 : 40 ≤ b) (hb : b ≤ 1000) : LgIs n d b (X n d) := fun w' => by
  have g := hE.gam _ (gA_ok h).1 (gA_ok h).2
  exact logGamma_iv L hE.lns w' n d b (G (gA n d)) (X n d) h hn hb0 hb g (g.isGam hE.lns (gA_ok h).1).pos (hE.lg n d h)
set_option maxRecDepth 100000 in
set_option maxHeartbeats 2000000 in
theorem gam1_iv (L G : Rat → Nat → Rat) (X : Int → Int → Nat → Rat) (hE : GEnv L G X) (w : World) (B0 : Nat) (p q : Int) (b : Nat) (hr : rok p q) (h0 : 0 < p) (h1 : p ≤ 100 * q) (hB0 : RaC w B0 p q) (hb40 : 40 ≤ b) (hb : b ≤ 330) :
    Calls Tryz.prog 128 #[.int .i64 b, .pointer (some ⟨B0, 0, none⟩)] w (fun r w' => ∃ lo hi, GmPr (gmV p q (G (gA p q))) b lo hi ∧ SpanAns w b 100 lo hi r w') := by
  have l0 := hB0.lt
  obtain ⟨y0, y1⟩ := hB0
  have hst : StIn p q := st_of hr h0 (by omega)
  have HC := hide (show ∀ w', Calls Tryz.prog 129 #[.int .i64 p, .int .i64 q, .int .i64 b] w' (fun r w'' => ∃ lo hi, GmPr (gmV p q (G (gA p q))) b lo hi ∧ SpanAns w' b 100 lo hi r w'') from fun w' => gamma_iv L hE.lns w' p q b (G (gA p q)) hst h1 (by have := hr.2.1; omega) hb40 hb (hE.gam _ (gA_ok hst).1 (gA_ok hst).2))
  have R := noc_new w 28
  clear hr hst hE
  go_enter Tryz.func128, Tryz.ntmps128
  go_wp2_with fail
  refine (unhide HC _).mono ?_
  rintro r' w1 ⟨lo, hi, hpr, v, rfl, hvb, hvp, hb1⟩
  replace R := R.below hb1
  have hBW : Below w.heap.size w w1 := bthen (bl1 _ _) hb1
  have HV := hide hvb
  have HP := hide hpr
  clear hvb y0 y1 hb1 hpr
  obtain ⟨q0, q1, q2, q3, q4, q5⟩ := R
  go_wp2_with fail
  refine bodyPost_ret (v := .agg #[.bool v.ln, .slice v.la v.lN v.lc, .bool v.hn, .slice v.ha v.hN v.hc, .int .i64 v.bits]) (by simp [results, Tryz.results128, go_sem, q0, q1, q2, q3, q4]) rfl ⟨lo, hi, unhide HP, v, rfl, unhide HV, ?_, ?_⟩
  · exact SpAt.put5 hvp q0 q1 q2 q3 q4 _ _ _ _ _
  · exact set5 hBW (Nat.le_refl _) _ _ _ _ _
set_option maxRecDepth 100000 in
set_option maxHeartbeats 2000000 in
theorem lga1_iv (L G : Rat → Nat → Rat) (X : Int → Int → Nat → Rat) (hE : GEnv L G X) (w : World) (B0 : Nat) (p q : Int) (b : Nat) (hr : rok p q) (h0 : 0 < p) (h1 : p ≤ 100 * q) (hB0 : RaC w B0 p q) (hb40 : 40 ≤ b) (hb : b ≤ 330) :
    Calls Tryz.prog 60 #[.int .i64 b, .pointer (some ⟨B0, 0, none⟩)] w (fun r w' => ∃ lo hi, LgPr (X p q) b 46 lo hi ∧ SpanAns w b 521 lo hi r w') := by
  have l0 := hB0.lt
  obtain ⟨y0, y1⟩ := hB0
  have hst : StIn p q := st_of hr h0 (by omega)
  have HC := hide (show LgIs p q b (X p q) from lgIs_of hE hst (by have := hr.2.1; omega) hb40 (by omega))
  have R := noc_new w 28
  clear hr hst hE
  go_enter Tryz.func60, Tryz.ntmps60
  go_wp2_with fail
  refine (unhide HC _).mono ?_
  rintro r' w1 ⟨lo, hi, hpr, v, rfl, hvb, hvp, hb1⟩
  replace R := R.below hb1
  have hBW : Below w.heap.size w w1 := bthen (bl1 _ _) hb1
  have HV := hide hvb
  have HP := hide hpr
  clear hvb y0 y1 hb1 hpr
  obtain ⟨q0, q1, q2, q3, q4, q5⟩ := R
  go_wp2_with fail
  refine bodyPost_ret (v := .agg #[.bool v.ln, .slice v.la v.lN v.lc, .bool v.hn, .slice v.ha v.hN v.hc, .int .i64 v.bits]) (by simp [results, Tryz.results60, go_sem, q0, q1, q2, q3, q4]) rfl ⟨lo, hi, unhide HP, v, rfl, unhide HV, ?_, ?_⟩
  · exact SpAt.put5 hvp q0 q1 q2 q3 q4 _ _ _ _ _
  · exact set5 hBW (Nat.le_refl _) _ _ _ _ _
set_option maxRecDepth 100000 in
set_option maxHeartbeats 2000000 in
theorem lbe1_iv (L G : Rat → Nat → Rat) (X : Int → Int → Nat → Rat) (hE : GEnv L G X) (w : World) (B0 B1 : Nat) (p1 q1 p2 q2 : Int) (b : Nat) (hr : rok p1 q1) (hs : rok p2 q2) (h0 : 0 < p1) (h1 : p1 ≤ 100 * q1) (k0 : 0 < p2) (k1 : p2 ≤ 100 * q2) (hB0 : RaC w B0 p1 q1) (hB1 : RaC w B1 p2 q2) (hb40 : 40 ≤ b) (hb : b ≤ 330) :
    Calls Tryz.prog 62 #[.int .i64 b, .pointer (some ⟨B0, 0, none⟩), .pointer (some ⟨B1, 0, none⟩)] w (fun r w' => ∃ lo hi, LgPr (fun M => X p1 q1 M + X p2 q2 M - X (p1 * q2 + p2 * q1) (q1 * q2) M) b 48 lo hi ∧ SpanAns w b 523 lo hi r w') := by
  have l0 := hB0.lt
  have l1 := hB1.lt
  obtain ⟨y0, y1⟩ := hB0
  obtain ⟨z0, z1⟩ := hB1
  have ss := st_sum hr hs h0 h1 k0 k1
  have HC := hide (fun w' => logBeta_iv w' p1 q1 p2 q2 b (X p1 q1) (X p2 q2) (X (p1 * q2 + p2 * q1) (q1 * q2)) hr hs (lgIs_of hE (st_of hr h0 (by omega)) (by have := hr.2.1; omega) hb40 (by omega)) (lgIs_of hE (st_of hs k0 (by omega)) (by have := hs.2.1; omega) hb40 (by omega)) (lgIs_of hE ss.1 ss.2 hb40 (by omega)))
  have R := noc_new w 28
  clear hr hs hE ss
  go_enter Tryz.func62, Tryz.ntmps62
  go_wp2_with fail
  refine (unhide HC _).mono ?_
  rintro r' w1 ⟨lo, hi, hpr, v, rfl, hvb, hvp, hb1⟩
  replace R := R.below hb1
  have hBW : Below w.heap.size w w1 := bthen (bl1 _ _) hb1
  have HV := hide hvb
  have HP := hide hpr
  clear hvb y0 y1 z0 z1 hb1 hpr
  obtain ⟨r0, r1, r2, r3, r4, r5⟩ := R
  go_wp2_with fail
  refine bodyPost_ret (v := .agg #[.bool v.ln, .slice v.la v.lN v.lc, .bool v.hn, .slice v.ha v.hN v.hc, .int .i64 v.bits]) (by simp [results, Tryz.results62, go_sem, r0, r1, r2, r3, r4]) rfl ⟨lo, hi, unhide HP, v, rfl, unhide HV, ?_, ?_⟩
  · exact SpAt.put5 hvp r0 r1 r2 r3 r4 _ _ _ _ _
  · exact set5 hBW (Nat.le_refl _) _ _ _ _ _
set_option maxRecDepth 100000 in
set_option maxHeartbeats 4000000 in
theorem sure_gam (p1 : Value) (bits Kw KD : Nat) (Pr : Nat → Int → Int → Prop) (W : World) (hb : bits ≤ 120) (hKw : Kw ≤ 900000) (hKD : KD ≤ 100000000) (hE : SureEnds bits Kw Pr)
    (hF : ∀ (m : Nat) w', 32 ≤ m → m ≤ Kw + 120 → Below W.heap.size W w' → Calls Tryz.prog 128 #[.int .i64 ((bits : Int) + m), p1] w' (fun r w'' => ∃ lo hi, Pr (bits + m) lo hi ∧ SpanAns w' ((bits : Int) + m) KD lo hi r w'')) :
    Calls Tryz.prog 74 #[.int .i64 bits, .func (.func 128) #[] #[p1]] W (fun r w' => ∃ L H, SureOf bits Pr L H ∧ SpanAns W bits 250 L H r w') := by
  have HF := hide hF
  have HE := hide hE
  clear hF hE
  have hR0 := noc_new W 28
  go_enter Tryz.func74, Tryz.ntmps74
  go_wp2_with fail
  go_loopw [5, 6] (fun mm tt wr => ∃ m t : Nat, mm = .int .i64 (m : Int) ∧ tt = .int .i64 (t : Int) ∧ SureInv Kw m t ∧ NoC wr W.heap.size ∧ Below W.heap.size W wr) (fun mm _ _ => Kw + 200 - (intOf mm).toNat)
  case atStart => exact ⟨32, 1, rfl, rfl, ⟨Nat.le_refl _, Nat.le_refl _, by omega, Or.inl ⟨by omega, by omega⟩⟩, hR0, bl1 _ _⟩
  case round =>
    obtain ⟨m, t, rfl, rfl, hinv, R, hB⟩ := hrel
    obtain ⟨hm, ht, htm, hmt⟩ := hinv
    have hmK : m ≤ Kw + 120 := by omega
    have HI := hide hmt
    clear hmt
    go_wp2_with fail
    refine (unhide HF m _ hm hmK hB).mono ?_
    rintro r w1 ⟨lo, hi, hPr, s, rfl, hsb, hsp, hb1⟩
    replace R := R.below hb1
    replace hB := bthen hB hb1
    clear hb1
    obtain ⟨e1, e2, e3, e4⟩ := unhide HE m lo hi hPr
    obtain ⟨v1, v2, v3⟩ := to_width (m := m) e1 e2
    obtain ⟨f1, f2⟩ := to_fit e3 e4
    have HPr := hide hPr
    have HV := hide (And.intro v2 v3)
    have hs0 : 0 ≤ s.bits := by omega
    have hs1 : s.bits ≤ 1000000 := by omega
    have d1 : downZ lo (s.bits - bits) = lo / Q m := by unfold downZ; rw [hsb, if_pos (by omega)]; congr 2; omega
    have d2 : downZ (-hi) (s.bits - bits) = -hi / Q m := by unfold downZ; rw [hsb, if_pos (by omega)]; congr 2; omega
    have HD1 := hide d1
    have HD2 := hide d2
    clear hPr e1 e2 e3 e4 v2 v3 d1 d2 hsb
    go_wp2_with fail
    refine (wideTo_int _ s KD bits lo hi hsp (by omega) hs0 hs1 (by omega) (by omega)).mono ?_
    rintro r w2 ⟨u, rfl, hub, hup, hb2⟩
    rw [unhide HD1, unhide HD2] at hup
    obtain ⟨L, hL⟩ : ∃ L, L = lo / Q m := ⟨_, rfl⟩
    obtain ⟨H, hH⟩ : ∃ H, H = -(-hi / Q m) := ⟨_, rfl⟩
    rw [← hL, ← hH] at hup v1
    rw [← hL] at f1
    rw [← hH] at f2
    have HV2 := hide (show (Kw ≤ m → H - L ≤ 2) ∧ (m ≤ Kw → H - L ≤ Q (Kw - m) + 1) by rw [hL, hH]; exact unhide HV)
    have HL := hide hL
    have HH := hide hH
    replace hup := hup.fits (K := 250) (by omega) f1 f2
    replace R := R.below hb2
    replace hB := bthen hB hb2
    have HUB := hide hub
    clear hb2 hL hH hub hs0 hs1 HD1 HD2 HV hsp
    have lR := R.lt
    obtain ⟨V, hV⟩ : ∃ V, V = w2.alloc (.cells #[.bool u.ln, .slice u.la u.lN u.lc, .bool u.hn, .slice u.ha u.hN u.hc, .int .i64 u.bits] 28) := ⟨_, rfl⟩
    have bV : Below w2.heap.size w2 V := by rw [hV]; exact bl1 _ _
    have U : SpC V w2.heap.size u := by rw [hV]; exact ⟨by simp, by simp, by simp, by simp, by simp⟩
    replace R := R.below bV
    replace hB := bthen hB bV
    replace hup := hup.below bV
    clear bV
    go_wp2_with fail
    rw [← hV]
    clear hV
    refine (sub_int _ _ _ _ _ _ _ _ 250 250 H L _ hup.hi hup.lo (by omega) (by omega)).mono ?_
    rintro r w3 ⟨neg3, a3, n3, c3, rfl, hint3, hb3⟩
    replace U := U.below hb3
    replace R := R.below hb3
    replace hB := bthen hB hb3
    replace hup := hup.below hb3
    clear hb3
    go_wp2_with fail
    refine (len_int _ _ _ _ _ (H - L) _ hint3 v1).mono ?_
    rintro r w4 ⟨l, hlen, rfl, hb4⟩
    replace U := U.below hb4
    replace R := R.below hb4
    replace hB := bthen hB hb4
    replace hup := hup.below hb4
    clear hb4 hint3
    have hlb : 0 ≤ l ∧ l ≤ Kw + 2 ∧ (m ≤ Kw → l ≤ Kw - m + 2) ∧ (Kw ≤ m → l ≤ 2) := by
      obtain ⟨g1, g2⟩ := unhide HV2
      refine ⟨hlen.1, ?_, fun h => ?_, fun h => ?_⟩
      · rcases Nat.le_total m Kw with h | h
        · have := len_bd (K := Kw - m) hlen (g2 h) v1; omega
        · have := len_two hlen (g1 h) v1; omega
      · have := len_bd (K := Kw - m) hlen (g2 h) v1; omega
      · exact len_two hlen (g1 h) v1
    obtain ⟨hl0, hl1, hl2, hl3⟩ := hlb
    have HL2 := hide (And.intro hl2 hl3)
    have HLen := hide hlen
    clear hl2 hl3 hlen
    have lU := U.lt
    have lR2 := R.lt
    have nRU : W.heap.size ≠ w2.heap.size := by omega
    have nRU' : w2.heap.size ≠ W.heap.size := by omega
    have HU := hide U
    obtain ⟨x0, x1, x2, x3, x4⟩ := U
    by_cases hc : l ≤ 1
    · have hN := R
      obtain ⟨q0, q1, q2, q3, q4, q5⟩ := R
      have Hc := hide hc
      go_wp2_with fail
      refine bodyPost_ret (v := .agg #[.bool u.ln, .slice u.la u.lN u.lc, .bool u.hn, .slice u.ha u.hN u.hc, .int .i64 u.bits]) (by simp [results, Tryz.results74, go_sem, q0, q1, q2, q3, q4]) rfl ⟨L, H, ⟨m, lo, hi, unhide HPr, hm, unhide HL, unhide HH, Or.inl (len_one (unhide HLen) (unhide Hc) v1)⟩, u, rfl, unhide HUB, ?_, ?_⟩
      · exact SpAt.put5 hup q0 q1 q2 q3 q4 _ _ _ _ _
      · exact set5 hB (Nat.le_refl _) _ _ _ _ _
    · by_cases ht3 : 3 ≤ t
      · have ht3' : (3 : Int) ≤ (t : Int) := by omega
        cases hn : narB L H (Q bits) 4
        · have hmK2 : m < Kw := by
            refine Nat.lt_of_not_le fun h => ?_
            have h5 := (unhide HV2).1 h
            rw [narB_small (by omega) (by omega)] at hn
            cases hn
          go_wp2_with fail
          refine (narrow_int _ u bits 4 L H hup (unhide HUB) hb (by omega)).mono ?_
          rintro r w5 ⟨rfl, hb5⟩
          rw [show narB L H (Q bits) ((4 : Nat) : Int) = false from hn]
          replace R := R.below hb5
          replace hB := bthen hB hb5
          go_wp2_with fail
          go_roundw
          case rel => exact ⟨m + l.toNat + 32, t + 1, by congr 1; omega, by congr 1, ⟨by omega, by omega, by omega, Or.inr (by have := (unhide HL2).1; omega)⟩, R, hB⟩
          case measure => simp [intOf]; omega
        · go_wp2_with fail
          refine (narrow_int _ u bits 4 L H hup (unhide HUB) hb (by omega)).mono ?_
          rintro r w5 ⟨rfl, hb5⟩
          rw [show narB L H (Q bits) ((4 : Nat) : Int) = true from hn]
          replace R := R.below hb5
          replace hB := bthen hB hb5
          replace hup := hup.below hb5
          obtain ⟨y0, y1, y2, y3, y4⟩ := (unhide HU).below hb5
          obtain ⟨q0, q1, q2, q3, q4, q5⟩ := R
          have lU2 := Nat.lt_of_lt_of_le lU hb5.size
          have lR3 := Nat.lt_of_lt_of_le lR2 hb5.size
          clear hb5 x0 x1 x2 x3 x4
          go_wp2_with fail
          refine bodyPost_ret (v := .agg #[.bool u.ln, .slice u.la u.lN u.lc, .bool u.hn, .slice u.ha u.hN u.hc, .int .i64 u.bits]) (by simp [results, Tryz.results74, go_sem, q0, q1, q2, q3, q4]) rfl ⟨L, H, ⟨m, lo, hi, unhide HPr, hm, unhide HL, unhide HH, Or.inr hn⟩, u, rfl, unhide HUB, ?_, ?_⟩
          · exact SpAt.put5 hup q0 q1 q2 q3 q4 _ _ _ _ _
          · exact set5 hB (Nat.le_refl _) _ _ _ _ _
      · have ht3' : ¬ (3 : Int) ≤ (t : Int) := by omega
        go_wp2_with fail
        go_roundw
        case rel => exact ⟨m + l.toNat + 32, t + 1, by congr 1; omega, by congr 1, ⟨by omega, by omega, by omega, by
          have g1 := (unhide HL2).1
          have g2 := (unhide HL2).2
          have g3 := unhide HI
          rcases Nat.le_total m Kw with h | h
          · have := g1 h; exact Or.inr (by omega)
          · have := g2 h; exact Or.inl ⟨by omega, by omega⟩⟩, R, hB⟩
        case measure => simp [intOf]; omega
set_option maxRecDepth 100000 in
set_option maxHeartbeats 4000000 in
theorem sure_lga (p1 : Value) (bits Kw KD : Nat) (Pr : Nat → Int → Int → Prop) (W : World) (hb : bits ≤ 120) (hKw : Kw ≤ 900000) (hKD : KD ≤ 100000000) (hE : SureEnds bits Kw Pr)
    (hF : ∀ (m : Nat) w', 32 ≤ m → m ≤ Kw + 120 → Below W.heap.size W w' → Calls Tryz.prog 60 #[.int .i64 ((bits : Int) + m), p1] w' (fun r w'' => ∃ lo hi, Pr (bits + m) lo hi ∧ SpanAns w' ((bits : Int) + m) KD lo hi r w'')) :
    Calls Tryz.prog 74 #[.int .i64 bits, .func (.func 60) #[] #[p1]] W (fun r w' => ∃ L H, SureOf bits Pr L H ∧ SpanAns W bits 250 L H r w') := by
  have HF := hide hF
  have HE := hide hE
  clear hF hE
  have hR0 := noc_new W 28
  go_enter Tryz.func74, Tryz.ntmps74
  go_wp2_with fail
  go_loopw [5, 6] (fun mm tt wr => ∃ m t : Nat, mm = .int .i64 (m : Int) ∧ tt = .int .i64 (t : Int) ∧ SureInv Kw m t ∧ NoC wr W.heap.size ∧ Below W.heap.size W wr) (fun mm _ _ => Kw + 200 - (intOf mm).toNat)
  case atStart => exact ⟨32, 1, rfl, rfl, ⟨Nat.le_refl _, Nat.le_refl _, by omega, Or.inl ⟨by omega, by omega⟩⟩, hR0, bl1 _ _⟩
  case round =>
    obtain ⟨m, t, rfl, rfl, hinv, R, hB⟩ := hrel
    obtain ⟨hm, ht, htm, hmt⟩ := hinv
    have hmK : m ≤ Kw + 120 := by omega
    have HI := hide hmt
    clear hmt
    go_wp2_with fail
    refine (unhide HF m _ hm hmK hB).mono ?_
    rintro r w1 ⟨lo, hi, hPr, s, rfl, hsb, hsp, hb1⟩
    replace R := R.below hb1
    replace hB := bthen hB hb1
    clear hb1
    obtain ⟨e1, e2, e3, e4⟩ := unhide HE m lo hi hPr
    obtain ⟨v1, v2, v3⟩ := to_width (m := m) e1 e2
    obtain ⟨f1, f2⟩ := to_fit e3 e4
    have HPr := hide hPr
    have HV := hide (And.intro v2 v3)
    have hs0 : 0 ≤ s.bits := by omega
    have hs1 : s.bits ≤ 1000000 := by omega
    have d1 : downZ lo (s.bits - bits) = lo / Q m := by unfold downZ; rw [hsb, if_pos (by omega)]; congr 2; omega
    have d2 : downZ (-hi) (s.bits - bits) = -hi / Q m := by unfold downZ; rw [hsb, if_pos (by omega)]; congr 2; omega
    have HD1 := hide d1
    have HD2 := hide d2
    clear hPr e1 e2 e3 e4 v2 v3 d1 d2 hsb
    go_wp2_with fail
    refine (wideTo_int _ s KD bits lo hi hsp (by omega) hs0 hs1 (by omega) (by omega)).mono ?_
    rintro r w2 ⟨u, rfl, hub, hup, hb2⟩
    rw [unhide HD1, unhide HD2] at hup
    obtain ⟨L, hL⟩ : ∃ L, L = lo / Q m := ⟨_, rfl⟩
    obtain ⟨H, hH⟩ : ∃ H, H = -(-hi / Q m) := ⟨_, rfl⟩
    rw [← hL, ← hH] at hup v1
    rw [← hL] at f1
    rw [← hH] at f2
    have HV2 := hide (show (Kw ≤ m → H - L ≤ 2) ∧ (m ≤ Kw → H - L ≤ Q (Kw - m) + 1) by rw [hL, hH]; exact unhide HV)
    have HL := hide hL
    have HH := hide hH
    replace hup := hup.fits (K := 250) (by omega) f1 f2
    replace R := R.below hb2
    replace hB := bthen hB hb2
    have HUB := hide hub
    clear hb2 hL hH hub hs0 hs1 HD1 HD2 HV hsp
    have lR := R.lt
    obtain ⟨V, hV⟩ : ∃ V, V = w2.alloc (.cells #[.bool u.ln, .slice u.la u.lN u.lc, .bool u.hn, .slice u.ha u.hN u.hc, .int .i64 u.bits] 28) := ⟨_, rfl⟩
    have bV : Below w2.heap.size w2 V := by rw [hV]; exact bl1 _ _
    have U : SpC V w2.heap.size u := by rw [hV]; exact ⟨by simp, by simp, by simp, by simp, by simp⟩
    replace R := R.below bV
    replace hB := bthen hB bV
    replace hup := hup.below bV
    clear bV
    go_wp2_with fail
    rw [← hV]
    clear hV
    refine (sub_int _ _ _ _ _ _ _ _ 250 250 H L _ hup.hi hup.lo (by omega) (by omega)).mono ?_
    rintro r w3 ⟨neg3, a3, n3, c3, rfl, hint3, hb3⟩
    replace U := U.below hb3
    replace R := R.below hb3
    replace hB := bthen hB hb3
    replace hup := hup.below hb3
    clear hb3
    go_wp2_with fail
    refine (len_int _ _ _ _ _ (H - L) _ hint3 v1).mono ?_
    rintro r w4 ⟨l, hlen, rfl, hb4⟩
    replace U := U.below hb4
    replace R := R.below hb4
    replace hB := bthen hB hb4
    replace hup := hup.below hb4
    clear hb4 hint3
    have hlb : 0 ≤ l ∧ l ≤ Kw + 2 ∧ (m ≤ Kw → l ≤ Kw - m + 2) ∧ (Kw ≤ m → l ≤ 2) := by
      obtain ⟨g1, g2⟩ := unhide HV2
      refine ⟨hlen.1, ?_, fun h => ?_, fun h => ?_⟩
      · rcases Nat.le_total m Kw with h | h
        · have := len_bd (K := Kw - m) hlen (g2 h) v1; omega
        · have := len_two hlen (g1 h) v1; omega
      · have := len_bd (K := Kw - m) hlen (g2 h) v1; omega
      · exact len_two hlen (g1 h) v1
    obtain ⟨hl0, hl1, hl2, hl3⟩ := hlb
    have HL2 := hide (And.intro hl2 hl3)
    have HLen := hide hlen
    clear hl2 hl3 hlen
    have lU := U.lt
    have lR2 := R.lt
    have nRU : W.heap.size ≠ w2.heap.size := by omega
    have nRU' : w2.heap.size ≠ W.heap.size := by omega
    have HU := hide U
    obtain ⟨x0, x1, x2, x3, x4⟩ := U
    by_cases hc : l ≤ 1
    · have hN := R
      obtain ⟨q0, q1, q2, q3, q4, q5⟩ := R
      have Hc := hide hc
      go_wp2_with fail
      refine bodyPost_ret (v := .agg #[.bool u.ln, .slice u.la u.lN u.lc, .bool u.hn, .slice u.ha u.hN u.hc, .int .i64 u.bits]) (by simp [results, Tryz.results74, go_sem, q0, q1, q2, q3, q4]) rfl ⟨L, H, ⟨m, lo, hi, unhide HPr, hm, unhide HL, unhide HH, Or.inl (len_one (unhide HLen) (unhide Hc) v1)⟩, u, rfl, unhide HUB, ?_, ?_⟩
      · exact SpAt.put5 hup q0 q1 q2 q3 q4 _ _ _ _ _
      · exact set5 hB (Nat.le_refl _) _ _ _ _ _
    · by_cases ht3 : 3 ≤ t
      · have ht3' : (3 : Int) ≤ (t : Int) := by omega
        cases hn : narB L H (Q bits) 4
        · have hmK2 : m < Kw := by
            refine Nat.lt_of_not_le fun h => ?_
            have h5 := (unhide HV2).1 h
            rw [narB_small (by omega) (by omega)] at hn
            cases hn
          go_wp2_with fail
          refine (narrow_int _ u bits 4 L H hup (unhide HUB) hb (by omega)).mono ?_
          rintro r w5 ⟨rfl, hb5⟩
          rw [show narB L H (Q bits) ((4 : Nat) : Int) = false from hn]
          replace R := R.below hb5
          replace hB := bthen hB hb5
          go_wp2_with fail
          go_roundw
          case rel => exact ⟨m + l.toNat + 32, t + 1, by congr 1; omega, by congr 1, ⟨by omega, by omega, by omega, Or.inr (by have := (unhide HL2).1; omega)⟩, R, hB⟩
          case measure => simp [intOf]; omega
        · go_wp2_with fail
          refine (narrow_int _ u bits 4 L H hup (unhide HUB) hb (by omega)).mono ?_
          rintro r w5 ⟨rfl, hb5⟩
          rw [show narB L H (Q bits) ((4 : Nat) : Int) = true from hn]
          replace R := R.below hb5
          replace hB := bthen hB hb5
          replace hup := hup.below hb5
          obtain ⟨y0, y1, y2, y3, y4⟩ := (unhide HU).below hb5
          obtain ⟨q0, q1, q2, q3, q4, q5⟩ := R
          have lU2 := Nat.lt_of_lt_of_le lU hb5.size
          have lR3 := Nat.lt_of_lt_of_le lR2 hb5.size
          clear hb5 x0 x1 x2 x3 x4
          go_wp2_with fail
          refine bodyPost_ret (v := .agg #[.bool u.ln, .slice u.la u.lN u.lc, .bool u.hn, .slice u.ha u.hN u.hc, .int .i64 u.bits]) (by simp [results, Tryz.results74, go_sem, q0, q1, q2, q3, q4]) rfl ⟨L, H, ⟨m, lo, hi, unhide HPr, hm, unhide HL, unhide HH, Or.inr hn⟩, u, rfl, unhide HUB, ?_, ?_⟩
          · exact SpAt.put5 hup q0 q1 q2 q3 q4 _ _ _ _ _
          · exact set5 hB (Nat.le_refl _) _ _ _ _ _
      · have ht3' : ¬ (3 : Int) ≤ (t : Int) := by omega
        go_wp2_with fail
        go_roundw
        case rel => exact ⟨m + l.toNat + 32, t + 1, by congr 1; omega, by congr 1, ⟨by omega, by omega, by omega, by
          have g1 := (unhide HL2).1
          have g2 := (unhide HL2).2
          have g3 := unhide HI
          rcases Nat.le_total m Kw with h | h
          · have := g1 h; exact Or.inr (by omega)
          · have := g2 h; exact Or.inl ⟨by omega, by omega⟩⟩, R, hB⟩
        case measure => simp [intOf]; omega
set_option maxRecDepth 100000 in
set_option maxHeartbeats 4000000 in
theorem sure_lbe (p1 p2 : Value) (bits Kw KD : Nat) (Pr : Nat → Int → Int → Prop) (W : World) (hb : bits ≤ 120) (hKw : Kw ≤ 900000) (hKD : KD ≤ 100000000) (hE : SureEnds bits Kw Pr)
    (hF : ∀ (m : Nat) w', 32 ≤ m → m ≤ Kw + 120 → Below W.heap.size W w' → Calls Tryz.prog 62 #[.int .i64 ((bits : Int) + m), p1, p2] w' (fun r w'' => ∃ lo hi, Pr (bits + m) lo hi ∧ SpanAns w' ((bits : Int) + m) KD lo hi r w'')) :
    Calls Tryz.prog 74 #[.int .i64 bits, .func (.func 62) #[] #[p1, p2]] W (fun r w' => ∃ L H, SureOf bits Pr L H ∧ SpanAns W bits 250 L H r w') := by
  have HF := hide hF
  have HE := hide hE
  clear hF hE
  have hR0 := noc_new W 28
  go_enter Tryz.func74, Tryz.ntmps74
  go_wp2_with fail
  go_loopw [5, 6] (fun mm tt wr => ∃ m t : Nat, mm = .int .i64 (m : Int) ∧ tt = .int .i64 (t : Int) ∧ SureInv Kw m t ∧ NoC wr W.heap.size ∧ Below W.heap.size W wr) (fun mm _ _ => Kw + 200 - (intOf mm).toNat)
  case atStart => exact ⟨32, 1, rfl, rfl, ⟨Nat.le_refl _, Nat.le_refl _, by omega, Or.inl ⟨by omega, by omega⟩⟩, hR0, bl1 _ _⟩
  case round =>
    obtain ⟨m, t, rfl, rfl, hinv, R, hB⟩ := hrel
    obtain ⟨hm, ht, htm, hmt⟩ := hinv
    have hmK : m ≤ Kw + 120 := by omega
    have HI := hide hmt
    clear hmt
    go_wp2_with fail
    refine (unhide HF m _ hm hmK hB).mono ?_
    rintro r w1 ⟨lo, hi, hPr, s, rfl, hsb, hsp, hb1⟩
    replace R := R.below hb1
    replace hB := bthen hB hb1
    clear hb1
    obtain ⟨e1, e2, e3, e4⟩ := unhide HE m lo hi hPr
    obtain ⟨v1, v2, v3⟩ := to_width (m := m) e1 e2
    obtain ⟨f1, f2⟩ := to_fit e3 e4
    have HPr := hide hPr
    have HV := hide (And.intro v2 v3)
    have hs0 : 0 ≤ s.bits := by omega
    have hs1 : s.bits ≤ 1000000 := by omega
    have d1 : downZ lo (s.bits - bits) = lo / Q m := by unfold downZ; rw [hsb, if_pos (by omega)]; congr 2; omega
    have d2 : downZ (-hi) (s.bits - bits) = -hi / Q m := by unfold downZ; rw [hsb, if_pos (by omega)]; congr 2; omega
    have HD1 := hide d1
    have HD2 := hide d2
    clear hPr e1 e2 e3 e4 v2 v3 d1 d2 hsb
    go_wp2_with fail
    refine (wideTo_int _ s KD bits lo hi hsp (by omega) hs0 hs1 (by omega) (by omega)).mono ?_
    rintro r w2 ⟨u, rfl, hub, hup, hb2⟩
    rw [unhide HD1, unhide HD2] at hup
    obtain ⟨L, hL⟩ : ∃ L, L = lo / Q m := ⟨_, rfl⟩
    obtain ⟨H, hH⟩ : ∃ H, H = -(-hi / Q m) := ⟨_, rfl⟩
    rw [← hL, ← hH] at hup v1
    rw [← hL] at f1
    rw [← hH] at f2
    have HV2 := hide (show (Kw ≤ m → H - L ≤ 2) ∧ (m ≤ Kw → H - L ≤ Q (Kw - m) + 1) by rw [hL, hH]; exact unhide HV)
    have HL := hide hL
    have HH := hide hH
    replace hup := hup.fits (K := 250) (by omega) f1 f2
    replace R := R.below hb2
    replace hB := bthen hB hb2
    have HUB := hide hub
    clear hb2 hL hH hub hs0 hs1 HD1 HD2 HV hsp
    have lR := R.lt
    obtain ⟨V, hV⟩ : ∃ V, V = w2.alloc (.cells #[.bool u.ln, .slice u.la u.lN u.lc, .bool u.hn, .slice u.ha u.hN u.hc, .int .i64 u.bits] 28) := ⟨_, rfl⟩
    have bV : Below w2.heap.size w2 V := by rw [hV]; exact bl1 _ _
    have U : SpC V w2.heap.size u := by rw [hV]; exact ⟨by simp, by simp, by simp, by simp, by simp⟩
    replace R := R.below bV
    replace hB := bthen hB bV
    replace hup := hup.below bV
    clear bV
    go_wp2_with fail
    rw [← hV]
    clear hV
    refine (sub_int _ _ _ _ _ _ _ _ 250 250 H L _ hup.hi hup.lo (by omega) (by omega)).mono ?_
    rintro r w3 ⟨neg3, a3, n3, c3, rfl, hint3, hb3⟩
    replace U := U.below hb3
    replace R := R.below hb3
    replace hB := bthen hB hb3
    replace hup := hup.below hb3
    clear hb3
    go_wp2_with fail
    refine (len_int _ _ _ _ _ (H - L) _ hint3 v1).mono ?_
    rintro r w4 ⟨l, hlen, rfl, hb4⟩
    replace U := U.below hb4
    replace R := R.below hb4
    replace hB := bthen hB hb4
    replace hup := hup.below hb4
    clear hb4 hint3
    have hlb : 0 ≤ l ∧ l ≤ Kw + 2 ∧ (m ≤ Kw → l ≤ Kw - m + 2) ∧ (Kw ≤ m → l ≤ 2) := by
      obtain ⟨g1, g2⟩ := unhide HV2
      refine ⟨hlen.1, ?_, fun h => ?_, fun h => ?_⟩
      · rcases Nat.le_total m Kw with h | h
        · have := len_bd (K := Kw - m) hlen (g2 h) v1; omega
        · have := len_two hlen (g1 h) v1; omega
      · have := len_bd (K := Kw - m) hlen (g2 h) v1; omega
      · exact len_two hlen (g1 h) v1
    obtain ⟨hl0, hl1, hl2, hl3⟩ := hlb
    have HL2 := hide (And.intro hl2 hl3)
    have HLen := hide hlen
    clear hl2 hl3 hlen
    have lU := U.lt
    have lR2 := R.lt
    have nRU : W.heap.size ≠ w2.heap.size := by omega
    have nRU' : w2.heap.size ≠ W.heap.size := by omega
    have HU := hide U
    obtain ⟨x0, x1, x2, x3, x4⟩ := U
    by_cases hc : l ≤ 1
    · have hN := R
      obtain ⟨q0, q1, q2, q3, q4, q5⟩ := R
      have Hc := hide hc
      go_wp2_with fail
      refine bodyPost_ret (v := .agg #[.bool u.ln, .slice u.la u.lN u.lc, .bool u.hn, .slice u.ha u.hN u.hc, .int .i64 u.bits]) (by simp [results, Tryz.results74, go_sem, q0, q1, q2, q3, q4]) rfl ⟨L, H, ⟨m, lo, hi, unhide HPr, hm, unhide HL, unhide HH, Or.inl (len_one (unhide HLen) (unhide Hc) v1)⟩, u, rfl, unhide HUB, ?_, ?_⟩
      · exact SpAt.put5 hup q0 q1 q2 q3 q4 _ _ _ _ _
      · exact set5 hB (Nat.le_refl _) _ _ _ _ _
    · by_cases ht3 : 3 ≤ t
      · have ht3' : (3 : Int) ≤ (t : Int) := by omega
        cases hn : narB L H (Q bits) 4
        · have hmK2 : m < Kw := by
            refine Nat.lt_of_not_le fun h => ?_
            have h5 := (unhide HV2).1 h
            rw [narB_small (by omega) (by omega)] at hn
            cases hn
          go_wp2_with fail
          refine (narrow_int _ u bits 4 L H hup (unhide HUB) hb (by omega)).mono ?_
          rintro r w5 ⟨rfl, hb5⟩
          rw [show narB L H (Q bits) ((4 : Nat) : Int) = false from hn]
          replace R := R.below hb5
          replace hB := bthen hB hb5
          go_wp2_with fail
          go_roundw
          case rel => exact ⟨m + l.toNat + 32, t + 1, by congr 1; omega, by congr 1, ⟨by omega, by omega, by omega, Or.inr (by have := (unhide HL2).1; omega)⟩, R, hB⟩
          case measure => simp [intOf]; omega
        · go_wp2_with fail
          refine (narrow_int _ u bits 4 L H hup (unhide HUB) hb (by omega)).mono ?_
          rintro r w5 ⟨rfl, hb5⟩
          rw [show narB L H (Q bits) ((4 : Nat) : Int) = true from hn]
          replace R := R.below hb5
          replace hB := bthen hB hb5
          replace hup := hup.below hb5
          obtain ⟨y0, y1, y2, y3, y4⟩ := (unhide HU).below hb5
          obtain ⟨q0, q1, q2, q3, q4, q5⟩ := R
          have lU2 := Nat.lt_of_lt_of_le lU hb5.size
          have lR3 := Nat.lt_of_lt_of_le lR2 hb5.size
          clear hb5 x0 x1 x2 x3 x4
          go_wp2_with fail
          refine bodyPost_ret (v := .agg #[.bool u.ln, .slice u.la u.lN u.lc, .bool u.hn, .slice u.ha u.hN u.hc, .int .i64 u.bits]) (by simp [results, Tryz.results74, go_sem, q0, q1, q2, q3, q4]) rfl ⟨L, H, ⟨m, lo, hi, unhide HPr, hm, unhide HL, unhide HH, Or.inr hn⟩, u, rfl, unhide HUB, ?_, ?_⟩
          · exact SpAt.put5 hup q0 q1 q2 q3 q4 _ _ _ _ _
          · exact set5 hB (Nat.le_refl _) _ _ _ _ _
      · have ht3' : ¬ (3 : Int) ≤ (t : Int) := by omega
        go_wp2_with fail
        go_roundw
        case rel => exact ⟨m + l.toNat + 32, t + 1, by congr 1; omega, by congr 1, ⟨by omega, by omega, by omega, by
          have g1 := (unhide HL2).1
          have g2 := (unhide HL2).2
          have g3 := unhide HI
          rcases Nat.le_total m Kw with h | h
          · have := g1 h; exact Or.inr (by omega)
          · have := g2 h; exact Or.inl ⟨by omega, by omega⟩⟩, R, hB⟩
        case measure => simp [intOf]; omega
end Go.Proofs.YtgmnknmjainababGreat
namespace Go.Proofs.YtgmnknmjainababGreat
open Go.RowKit
attribute [local go_sem ↓] Go.wp_at_zero Go.wp_at_succ
def DivsAll (p q a b : Int) : Prop := ∀ c : Int, c ∣ a → c ∣ b → c ∣ p ∧ c ∣ q
theorem DivsAll.step {p q a b : Int} (h : DivsAll p q a b) : DivsAll p q b (a % b) := fun c h1 h2 => by
  refine h c ?_ h1
  have e := Int.mul_ediv_add_emod a b
  rw [← e]
  exact Int.dvd_add (Int.dvd_trans h1 (Int.dvd_mul_right _ _)) h2
def LowOf (p q p' q' : Int) : Prop := ∃ g : Int, 0 < g ∧ p = g * p' ∧ q = g * q'
structure Low2 (w wr : World) (p q : Int) : Prop where
  y0 : wr.cell? ⟨w.heap.size, 0, none⟩ = some (.int .i64 p)
  y1 : wr.cell? ⟨w.heap.size, 1, none⟩ = some (.int .i64 q)
  u0 : wr.cell? ⟨w.heap.size + 1, 0, none⟩ = some (.int .i64 0)
  u1 : wr.cell? ⟨w.heap.size + 1, 1, none⟩ = some (.int .i64 0)
  u2 : ∀ o, wr.frozen? ⟨w.heap.size + 1, o, none⟩ = false
  be : Below w.heap.size w wr
theorem Low2.drew {w wr : World} {p q : Int} (h : Low2 w wr p q) : Low2 w wr.drew p q := by
  obtain ⟨y0, y1, u0, u1, u2, hB⟩ := h
  have l1 : w.heap.size + 1 < wr.heap.size := World.block_lt_of_cell? wr ⟨w.heap.size + 1, 0, none⟩ u0
  have b : Below wr.heap.size wr wr.drew := (Below.refl _ _).drew
  exact ⟨(b.cell (p := ⟨w.heap.size, 0, none⟩) (Nat.lt_of_succ_lt l1)).trans y0, (b.cell (p := ⟨w.heap.size, 1, none⟩) (Nat.lt_of_succ_lt l1)).trans y1, (b.cell (p := ⟨w.heap.size + 1, 0, none⟩) l1).trans u0, (b.cell (p := ⟨w.heap.size + 1, 1, none⟩) l1).trans u1, fun o => (b.frozen (p := ⟨w.heap.size + 1, o, none⟩) l1).trans (u2 o), bthen hB b⟩
end Go.Proofs.YtgmnknmjainababGreat
namespace Go.Proofs.YtgmnknmjainababGreat
open Go.RowKit
attribute [local go_sem ↓] Go.wp_at_zero Go.wp_at_succ
theorem LowOf.pos {p q p1 q1 : Int} (h : LowOf p q p1 q1) (hp : 0 < p) : 0 < p1 := by
  obtain ⟨g, g0, rfl, rfl⟩ := h
  exact Int.pos_of_mul_pos_right hp (by omega)
theorem LowOf.pos2 {p q p1 q1 : Int} (h : LowOf p q p1 q1) (hq : 0 < q) : 0 < q1 := by
  obtain ⟨g, g0, rfl, rfl⟩ := h
  exact Int.pos_of_mul_pos_right hq (by omega)
theorem LowOf.le {p q p1 q1 c : Int} (h : LowOf p q p1 q1) (hc : p ≤ c * q) : p1 ≤ c * q1 := by
  obtain ⟨g, g0, rfl, rfl⟩ := h
  have e : c * (g * q1) = g * (c * q1) := by grind
  rw [e] at hc
  exact Int.le_of_mul_le_mul_left hc g0
theorem LowOf.le2 {p q p1 q1 c : Int} (h : LowOf p q p1 q1) (hc : q ≤ c * p) : q1 ≤ c * p1 := by
  obtain ⟨g, g0, rfl, rfl⟩ := h
  have e : c * (g * p1) = g * (c * p1) := by grind
  rw [e] at hc
  exact Int.le_of_mul_le_mul_left hc g0
theorem LowOf.ge {p q p1 q1 c : Int} (h : LowOf p q p1 q1) (hc : -(c * q) ≤ p) : -(c * q1) ≤ p1 := by
  obtain ⟨g, g0, rfl, rfl⟩ := h
  have e : -(c * (g * q1)) = g * -(c * q1) := by grind
  rw [e] at hc
  exact Int.le_of_mul_le_mul_left hc g0
theorem LowOf.small {p q p1 q1 : Int} (h : LowOf p q p1 q1) (hp : 0 < p) : p1 ≤ p := by
  have h1 := h.pos hp
  obtain ⟨g, g0, rfl, rfl⟩ := h
  have := Int.mul_le_mul_of_nonneg_right (show 1 ≤ g by omega) (show 0 ≤ p1 by omega)
  omega
structure ExS (w wr : World) (p q kn kd : Int) : Prop where
  r : RaC wr w.heap.size p q
  fr : ∀ o, wr.frozen? ⟨w.heap.size, o, none⟩ = false
  k : RaC wr (w.heap.size + 1) kn kd
  fk : ∀ o, wr.frozen? ⟨w.heap.size + 1, o, none⟩ = false
  no : NoC wr (w.heap.size + 1 + 1)
  be : Below w.heap.size w wr
theorem ExS.below {w wr wr' : World} {p q kn kd : Int} (h : ExS w wr p q kn kd) (hb : Below wr.heap.size wr wr') : ExS w wr' p q kn kd :=
  ⟨h.r.below hb, fun o => (hb.frozen (p := ⟨w.heap.size, o, none⟩) h.r.lt).trans (h.fr o), h.k.below hb, fun o => (hb.frozen (p := ⟨w.heap.size + 1, o, none⟩) h.k.lt).trans (h.fk o), h.no.below hb, bthen h.be hb⟩
theorem RaC.off {w : World} {B B' : Nat} {p q : Int} (h : RaC w B p q) (hne : B ≠ B') (u0 u1 : Value) : RaC ((w.setCell ⟨B', 0, none⟩ u0).setCell ⟨B', 1, none⟩ u1) B p q := by
  obtain ⟨q0, q1⟩ := h
  constructor <;> simp [go_sem, q0, q1, hne, Ne.symm hne]
theorem ExS.drew {w wr : World} {p q kn kd : Int} (h : ExS w wr p q kn kd) : ExS w wr.drew p q kn kd := h.below (Below.refl _ _).drew
end Go.Proofs.YtgmnknmjainababGreat
namespace Go.Proofs.YtgmnknmjainababGreat
open Go.RowKit
attribute [local go_sem ↓] Go.wp_at_zero Go.wp_at_succ
def touB (lo hi : Int) (i : Nat) (lo' hi' : Int) (j : Nat) : Bool := decide (lo * Q i ≤ hi' * Q j) && decide (lo' * Q j ≤ hi * Q i)
theorem downZ_up (x : Int) (a b : Int) (i : Nat) (h : b - a = (i : Int)) : downZ x (a - b) = x * Q i := by
  unfold downZ
  by_cases h0 : i = 0
  · subst h0
    have e : a - b = 0 := by omega
    rw [e]; simp [Q]
  · rw [if_neg (by omega)]; congr 2; omega
theorem downZ_upn (x : Int) (a b : Int) (i : Nat) (h : b - a = (i : Int)) : -(downZ (-x) (a - b)) = x * Q i := by
  rw [downZ_up _ a b i h, Int.neg_mul, Int.neg_neg]
set_option maxRecDepth 100000 in
set_option maxHeartbeats 4000000 in
theorem touch_gt (w : World) (s t : Sp) (k i j : Nat) (lo hi lo' hi' : Int) (hs : SpAt w s k lo hi) (ht : SpAt w t k lo' hi') (hk : k ≤ 300000000) (s0 : 0 ≤ s.bits) (s1 : s.bits ≤ 1000000) (t0 : 0 ≤ t.bits) (t1 : t.bits ≤ 1000000) (hc : s.bits < t.bits) (hi1 : t.bits - s.bits = (i : Int)) (hj1 : t.bits - t.bits = (j : Int)) :
    Calls Tryz.prog 50 #[.agg #[.bool s.ln, .slice s.la s.lN s.lc, .bool s.hn, .slice s.ha s.hN s.hc, .int .i64 s.bits], .agg #[.bool t.ln, .slice t.la t.lN t.lc, .bool t.hn, .slice t.ha t.hN t.hc, .int .i64 t.bits]] w fun r w' => r = .returned (.bool (touB lo hi i lo' hi' j)) ∧ Below w.heap.size w w' := by
  obtain ⟨W, hW⟩ : ∃ W, W = (w.alloc (.cells #[.bool s.ln, .slice s.la s.lN s.lc, .bool s.hn, .slice s.ha s.hN s.hc, .int .i64 s.bits] 36)).alloc (.cells #[.bool t.ln, .slice t.la t.lN t.lc, .bool t.hn, .slice t.ha t.hN t.hc, .int .i64 t.bits] 36) := ⟨_, rfl⟩
  have hBW : Below w.heap.size w W := by rw [hW]; exact bl2 _ _ _
  have A : SpC W w.heap.size s := by rw [hW]; exact ⟨by simp [go_sem], by simp [go_sem], by simp [go_sem], by simp [go_sem], by simp [go_sem]⟩
  have G : SpC W (w.heap.size + 1) t := by rw [hW]; exact ⟨by simp [go_sem], by simp [go_sem], by simp [go_sem], by simp [go_sem], by simp [go_sem]⟩
  have FA : ∀ o, W.frozen? ⟨w.heap.size, o, none⟩ = false := by intro o; rw [hW]; simp [go_sem]
  have FG : ∀ o, W.frozen? ⟨w.heap.size + 1, o, none⟩ = false := by intro o; rw [hW]; simp [go_sem]
  have a1 := hide (downZ_up lo s.bits (t.bits) i hi1)
  have a2 := hide (downZ_upn hi s.bits (t.bits) i hi1)
  have a3 := hide (downZ_up lo' t.bits (t.bits) j hj1)
  have a4 := hide (downZ_upn hi' t.bits (t.bits) j hj1)
  have HS := hide (hs.below hBW)
  have HT := hide (ht.below hBW)
  have HA := hide A
  have HG := hide G
  have lA := A.lt
  have lG := G.lt
  have nAG : w.heap.size ≠ w.heap.size + 1 := by omega
  clear hi1 hj1 hs ht
  go_enter Tryz.func50, Tryz.ntmps50
  go_wp2_with fail
  rw [← hW]
  clear hW
  obtain ⟨x0, x1, x2, x3, x4⟩ := A
  obtain ⟨y0, y1, y2, y3, y4⟩ := G
  try go_wp2_with fail
  go_cut [] (fun wx => ∃ s2 t2 : Sp, SpC wx w.heap.size s2 ∧ SpC wx (w.heap.size + 1) t2 ∧ SpAt wx s2 (k + 62505) (lo * Q i) (hi * Q i) ∧ SpAt wx t2 (k + 62505) (lo' * Q j) (hi' * Q j) ∧ Below w.heap.size w wx)
  case first =>
    go_region_with
      (first
        | (go_at_call 90; have hq := hB1; refine (refTurn_int _ t k (t.bits) lo' hi' ((unhide HT).below hB1) hk t0 t1 (by omega) (by omega)).mono ?_; rintro r w2 ⟨u2, rfl, hub2, hup2, hb2⟩; rw [unhide a3, unhide a4] at hup2; clear hub2; have hB2 := bthen hB1 hb2; replace hup1 := hup1.below hb2; have l2A := Nat.lt_of_lt_of_le lA hB2.size; have l2G := Nat.lt_of_lt_of_le lG hB2.size; obtain ⟨a0, a1, a2, a3, a4⟩ := (unhide HA).below hB2; obtain ⟨g0, g1, g2, g3, g4⟩ := (unhide HG).below hB2; have fA2 : ∀ o, w2.frozen? ⟨w.heap.size, o, none⟩ = false := (fun o => (hB2.frozen (p := ⟨w.heap.size, o, none⟩) lA).trans (FA o)); have fG2 : ∀ o, w2.frozen? ⟨w.heap.size + 1, o, none⟩ = false := (fun o => (hB2.frozen (p := ⟨w.heap.size + 1, o, none⟩) lG).trans (FG o)))
        | (go_at_call 90; refine (refTurn_int _ s k (t.bits) lo hi ((unhide HS).below (by repeat' (first | with_reducible exact Below.refl _ _ | with_reducible refine Below.drew ?_))) hk s0 s1 (by omega) (by omega)).mono ?_; rintro r w1 ⟨u1, rfl, hub1, hup1, hb1⟩; rw [unhide a1, unhide a2] at hup1; clear hub1; have hB1 : Below W.heap.size W w1 := bthen (by repeat' (first | with_reducible exact Below.refl _ _ | with_reducible refine Below.drew ?_)) hb1; obtain ⟨b0, b1, b2, b3, b4⟩ := (unhide HA).below hB1; obtain ⟨d0, d1, d2, d3, d4⟩ := (unhide HG).below hB1; have l1A := Nat.lt_of_lt_of_le lA hB1.size; have l1G := Nat.lt_of_lt_of_le lG hB1.size))
    all_goals
      go_wp2_with fail
      go_meet
      have A2 : SpC w2 w.heap.size s := ⟨a0, a1, a2, a3, a4⟩
      have G2 : SpC w2 (w.heap.size + 1) t := ⟨g0, g1, g2, g3, g4⟩
      obtain ⟨p1, p2, p3, p4⟩ := two_sp A2 G2 nAG u1 u2
      exact ⟨u1, u2, p1, p2, p3 hup1, p3 hup2, set5 (set5 (bthen hBW hB2) (Nat.le_refl _) _ _ _ _ _) (Nat.le_succ _) _ _ _ _ _⟩
  case rest =>
  obtain ⟨s2, t2, A, G, hs, ht, hBW⟩ := hcut
  clear HA HG HS HT lA lG x0 x1 x2 x3 x4 y0 y1 y2 y3 y4 FA FG
  have lA := A.lt
  have lG := G.lt
  by_cases hq : lo * Q i ≤ hi' * Q j
  · have c1 : cmpInt (lo * Q i) (hi' * Q j) ≤ 0 := by unfold cmpInt; split; omega; rw [if_neg (by omega)]; omega
    have HE := hide (show decide (cmpInt (lo' * Q j) (hi * Q i) ≤ 0) = touB lo hi i lo' hi' j by rw [cmp_le0]; unfold touB; rw [decide_eq_true hq, Bool.true_and])
    obtain ⟨x0, x1, x2, x3, x4⟩ := A
    obtain ⟨y0, y1, y2, y3, y4⟩ := G
    clear hq
    go_wp2_with fail
    refine (cmp_int _ _ _ _ _ _ _ _ (k + 62505) (k + 62505) (lo * Q i) (hi' * Q j) _ hs.lo ht.hi).mono ?_
    rintro r w1 ⟨rfl, hb1⟩
    have A := (SpC.mk x0 x1 x2 x3 x4).below hb1
    have G := (SpC.mk y0 y1 y2 y3 y4).below hb1
    replace hs := hs.below hb1
    replace ht := ht.below hb1
    replace hBW := bthen hBW hb1
    clear x0 x1 x2 x3 x4 y0 y1 y2 y3 y4 hb1
    obtain ⟨x0, x1, x2, x3, x4⟩ := A
    obtain ⟨y0, y1, y2, y3, y4⟩ := G
    go_wp2_with fail
    refine (cmp_int _ _ _ _ _ _ _ _ (k + 62505) (k + 62505) (lo' * Q j) (hi * Q i) _ ht.lo hs.hi).mono ?_
    rintro r w2 ⟨rfl, hb2⟩
    replace hBW := bthen hBW hb2
    go_wp2_with fail
    go_ret
    exact ⟨by rw [← unhide HE]; rfl, hBW⟩
  · have c1 : ¬ cmpInt (lo * Q i) (hi' * Q j) ≤ 0 := by unfold cmpInt; rw [if_neg (by omega), if_pos (by omega)]; omega
    have HE := hide (show touB lo hi i lo' hi' j = false by unfold touB; rw [decide_eq_false hq, Bool.false_and])
    obtain ⟨x0, x1, x2, x3, x4⟩ := A
    obtain ⟨y0, y1, y2, y3, y4⟩ := G
    clear hq
    go_wp2_with fail
    refine (cmp_int _ _ _ _ _ _ _ _ (k + 62505) (k + 62505) (lo * Q i) (hi' * Q j) _ hs.lo ht.hi).mono ?_
    rintro r w1 ⟨rfl, hb1⟩
    replace hBW := bthen hBW hb1
    go_wp2_with fail
    go_ret
    exact ⟨by rw [unhide HE]; rfl, hBW⟩
set_option maxRecDepth 100000 in
set_option maxHeartbeats 4000000 in
theorem touch_le (w : World) (s t : Sp) (k i j : Nat) (lo hi lo' hi' : Int) (hs : SpAt w s k lo hi) (ht : SpAt w t k lo' hi') (hk : k ≤ 300000000) (s0 : 0 ≤ s.bits) (s1 : s.bits ≤ 1000000) (t0 : 0 ≤ t.bits) (t1 : t.bits ≤ 1000000) (hc : t.bits ≤ s.bits) (hi1 : s.bits - s.bits = (i : Int)) (hj1 : s.bits - t.bits = (j : Int)) :
    Calls Tryz.prog 50 #[.agg #[.bool s.ln, .slice s.la s.lN s.lc, .bool s.hn, .slice s.ha s.hN s.hc, .int .i64 s.bits], .agg #[.bool t.ln, .slice t.la t.lN t.lc, .bool t.hn, .slice t.ha t.hN t.hc, .int .i64 t.bits]] w fun r w' => r = .returned (.bool (touB lo hi i lo' hi' j)) ∧ Below w.heap.size w w' := by
  obtain ⟨W, hW⟩ : ∃ W, W = (w.alloc (.cells #[.bool s.ln, .slice s.la s.lN s.lc, .bool s.hn, .slice s.ha s.hN s.hc, .int .i64 s.bits] 36)).alloc (.cells #[.bool t.ln, .slice t.la t.lN t.lc, .bool t.hn, .slice t.ha t.hN t.hc, .int .i64 t.bits] 36) := ⟨_, rfl⟩
  have hBW : Below w.heap.size w W := by rw [hW]; exact bl2 _ _ _
  have A : SpC W w.heap.size s := by rw [hW]; exact ⟨by simp [go_sem], by simp [go_sem], by simp [go_sem], by simp [go_sem], by simp [go_sem]⟩
  have G : SpC W (w.heap.size + 1) t := by rw [hW]; exact ⟨by simp [go_sem], by simp [go_sem], by simp [go_sem], by simp [go_sem], by simp [go_sem]⟩
  have FA : ∀ o, W.frozen? ⟨w.heap.size, o, none⟩ = false := by intro o; rw [hW]; simp [go_sem]
  have FG : ∀ o, W.frozen? ⟨w.heap.size + 1, o, none⟩ = false := by intro o; rw [hW]; simp [go_sem]
  have a1 := hide (downZ_up lo s.bits (s.bits) i hi1)
  have a2 := hide (downZ_upn hi s.bits (s.bits) i hi1)
  have a3 := hide (downZ_up lo' t.bits (s.bits) j hj1)
  have a4 := hide (downZ_upn hi' t.bits (s.bits) j hj1)
  have HS := hide (hs.below hBW)
  have HT := hide (ht.below hBW)
  have HA := hide A
  have HG := hide G
  have lA := A.lt
  have lG := G.lt
  have nAG : w.heap.size ≠ w.heap.size + 1 := by omega
  clear hi1 hj1 hs ht
  go_enter Tryz.func50, Tryz.ntmps50
  go_wp2_with fail
  rw [← hW]
  clear hW
  obtain ⟨x0, x1, x2, x3, x4⟩ := A
  obtain ⟨y0, y1, y2, y3, y4⟩ := G
  try go_wp2_with fail
  go_cut [] (fun wx => ∃ s2 t2 : Sp, SpC wx w.heap.size s2 ∧ SpC wx (w.heap.size + 1) t2 ∧ SpAt wx s2 (k + 62505) (lo * Q i) (hi * Q i) ∧ SpAt wx t2 (k + 62505) (lo' * Q j) (hi' * Q j) ∧ Below w.heap.size w wx)
  case first =>
    go_region_with
      (first
        | (go_at_call 90; have hq := hB1; refine (refTurn_int _ t k (s.bits) lo' hi' ((unhide HT).below hB1) hk t0 t1 (by omega) (by omega)).mono ?_; rintro r w2 ⟨u2, rfl, hub2, hup2, hb2⟩; rw [unhide a3, unhide a4] at hup2; clear hub2; have hB2 := bthen hB1 hb2; replace hup1 := hup1.below hb2; have l2A := Nat.lt_of_lt_of_le lA hB2.size; have l2G := Nat.lt_of_lt_of_le lG hB2.size; obtain ⟨a0, a1, a2, a3, a4⟩ := (unhide HA).below hB2; obtain ⟨g0, g1, g2, g3, g4⟩ := (unhide HG).below hB2; have fA2 : ∀ o, w2.frozen? ⟨w.heap.size, o, none⟩ = false := (fun o => (hB2.frozen (p := ⟨w.heap.size, o, none⟩) lA).trans (FA o)); have fG2 : ∀ o, w2.frozen? ⟨w.heap.size + 1, o, none⟩ = false := (fun o => (hB2.frozen (p := ⟨w.heap.size + 1, o, none⟩) lG).trans (FG o)))
        | (go_at_call 90; refine (refTurn_int _ s k (s.bits) lo hi ((unhide HS).below (by repeat' (first | with_reducible exact Below.refl _ _ | with_reducible refine Below.drew ?_))) hk s0 s1 (by omega) (by omega)).mono ?_; rintro r w1 ⟨u1, rfl, hub1, hup1, hb1⟩; rw [unhide a1, unhide a2] at hup1; clear hub1; have hB1 : Below W.heap.size W w1 := bthen (by repeat' (first | with_reducible exact Below.refl _ _ | with_reducible refine Below.drew ?_)) hb1; obtain ⟨b0, b1, b2, b3, b4⟩ := (unhide HA).below hB1; obtain ⟨d0, d1, d2, d3, d4⟩ := (unhide HG).below hB1; have l1A := Nat.lt_of_lt_of_le lA hB1.size; have l1G := Nat.lt_of_lt_of_le lG hB1.size))
    all_goals
      go_wp2_with fail
      go_meet
      have A2 : SpC w2 w.heap.size s := ⟨a0, a1, a2, a3, a4⟩
      have G2 : SpC w2 (w.heap.size + 1) t := ⟨g0, g1, g2, g3, g4⟩
      obtain ⟨p1, p2, p3, p4⟩ := two_sp A2 G2 nAG u1 u2
      exact ⟨u1, u2, p1, p2, p3 hup1, p3 hup2, set5 (set5 (bthen hBW hB2) (Nat.le_refl _) _ _ _ _ _) (Nat.le_succ _) _ _ _ _ _⟩
  case rest =>
  obtain ⟨s2, t2, A, G, hs, ht, hBW⟩ := hcut
  clear HA HG HS HT lA lG x0 x1 x2 x3 x4 y0 y1 y2 y3 y4 FA FG
  have lA := A.lt
  have lG := G.lt
  by_cases hq : lo * Q i ≤ hi' * Q j
  · have c1 : cmpInt (lo * Q i) (hi' * Q j) ≤ 0 := by unfold cmpInt; split; omega; rw [if_neg (by omega)]; omega
    have HE := hide (show decide (cmpInt (lo' * Q j) (hi * Q i) ≤ 0) = touB lo hi i lo' hi' j by rw [cmp_le0]; unfold touB; rw [decide_eq_true hq, Bool.true_and])
    obtain ⟨x0, x1, x2, x3, x4⟩ := A
    obtain ⟨y0, y1, y2, y3, y4⟩ := G
    clear hq
    go_wp2_with fail
    refine (cmp_int _ _ _ _ _ _ _ _ (k + 62505) (k + 62505) (lo * Q i) (hi' * Q j) _ hs.lo ht.hi).mono ?_
    rintro r w1 ⟨rfl, hb1⟩
    have A := (SpC.mk x0 x1 x2 x3 x4).below hb1
    have G := (SpC.mk y0 y1 y2 y3 y4).below hb1
    replace hs := hs.below hb1
    replace ht := ht.below hb1
    replace hBW := bthen hBW hb1
    clear x0 x1 x2 x3 x4 y0 y1 y2 y3 y4 hb1
    obtain ⟨x0, x1, x2, x3, x4⟩ := A
    obtain ⟨y0, y1, y2, y3, y4⟩ := G
    go_wp2_with fail
    refine (cmp_int _ _ _ _ _ _ _ _ (k + 62505) (k + 62505) (lo' * Q j) (hi * Q i) _ ht.lo hs.hi).mono ?_
    rintro r w2 ⟨rfl, hb2⟩
    replace hBW := bthen hBW hb2
    go_wp2_with fail
    go_ret
    exact ⟨by rw [← unhide HE]; rfl, hBW⟩
  · have c1 : ¬ cmpInt (lo * Q i) (hi' * Q j) ≤ 0 := by unfold cmpInt; rw [if_neg (by omega), if_pos (by omega)]; omega
    have HE := hide (show touB lo hi i lo' hi' j = false by unfold touB; rw [decide_eq_false hq, Bool.false_and])
    obtain ⟨x0, x1, x2, x3, x4⟩ := A
    obtain ⟨y0, y1, y2, y3, y4⟩ := G
    clear hq
    go_wp2_with fail
    refine (cmp_int _ _ _ _ _ _ _ _ (k + 62505) (k + 62505) (lo * Q i) (hi' * Q j) _ hs.lo ht.hi).mono ?_
    rintro r w1 ⟨rfl, hb1⟩
    replace hBW := bthen hBW hb1
    go_wp2_with fail
    go_ret
    exact ⟨by rw [unhide HE]; rfl, hBW⟩
end Go.Proofs.YtgmnknmjainababGreat
namespace Go.Proofs.YtgmnknmjainababGreat
open Go.RowKit
attribute [local go_sem ↓] Go.wp_at_zero Go.wp_at_succ
theorem rats2 (w : World) (p q kn kd : Int) (T : TypeId) : Rats (w.alloc (.cells #[.int .i64 p, .int .i64 q, .int .i64 kn, .int .i64 kd] T)) w.heap.size 2 (fun j => if j = 0 then p else kn) (fun j => if j = 0 then q else kd) := by
  refine ⟨by simp, ?_, ?_⟩
  all_goals
    intro j hj
    match j, hj with
    | 0, _ => simp
    | 1, _ => simp
end Go.Proofs.YtgmnknmjainababGreat
