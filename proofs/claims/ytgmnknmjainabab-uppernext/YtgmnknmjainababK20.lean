/-
  Texts Upb, Msc, Mse, Rfp, GauQ, RootD, Rle, Lgo, Nrl, Lgr, Rfe, Rfo, ErfT, Rtl, Rlg, Lgt: what they hold is told in the last text.
-/
import Derived.Deep.CutBlock
import Derived.Test.YtgmnknmjainababK19
set_option linter.unnecessarySimpa false
set_option linter.unusedSimpArgs false
set_option linter.unusedVariables false
namespace Go.Proofs.Ytgmnknmjainabab
open Go.RowKit
attribute [local go_sem ↓] Go.wp_at_zero Go.wp_at_succ
open Ex
set_option maxRecDepth 100000 in
set_option maxHeartbeats 2000000 in
theorem upId (w : World) (s : Sp) (k b : Nat) (lo hi : Int) (hs : SpAt w s k lo hi) (hbits : s.bits = (b : Int)) :
    Calls Try.prog 72 #[.agg #[.bool s.ln, .slice s.la s.lN s.lc, .bool s.hn, .slice s.ha s.hN s.hc, .int .i64 s.bits]] w (SpanAns w b k lo hi) := by
  obtain ⟨W, hW⟩ : ∃ W, W = (w.alloc (.cells #[.bool s.ln, .slice s.la s.lN s.lc, .bool s.hn, .slice s.ha s.hN s.hc, .int .i64 s.bits] 28)).alloc (.cells #[.bool false, .slice none 0 0, .bool false, .slice none 0 0, .int .i64 0] 28) := ⟨_, rfl⟩
  have hBW : Below w.heap.size w W := by rw [hW]; exact bl2 _ _ _
  have A : SpC W w.heap.size s := by rw [hW]; exact ⟨by simp [go_sem], by simp [go_sem], by simp [go_sem], by simp [go_sem], by simp [go_sem]⟩
  have R : NoC W (w.heap.size + 1) := by rw [hW]; exact ⟨by simp [go_sem], by simp [go_sem], by simp [go_sem], by simp [go_sem], by simp [go_sem], fun o => by simp [go_sem]⟩
  have HP := hide (hs.below hBW)
  have HB := hide hbits
  have lA := A.lt
  have lR := R.lt
  obtain ⟨a0, a1, a2, a3, a4⟩ := A
  obtain ⟨q0, q1, q2, q3, q4, q5⟩ := R
  clear hs hbits
  go_enter Try.func72, Try.ntmps72
  go_upto_region 1 with fail
  rw [← hW]
  clear hW
  go_wp2_with fail
  refine bodyPost_ret (v := .agg #[.bool s.ln, .slice s.la s.lN s.lc, .bool s.hn, .slice s.ha s.hN s.hc, .int .i64 s.bits]) (by simp [results, Try.results72, go_sem, q0, q1, q2, q3, q4]) rfl ⟨s, rfl, unhide HB, ?_, ?_⟩
  · exact SpAt.put5 (unhide HP) q0 q1 q2 q3 q4 _ _ _ _ _
  · exact set5 hBW (Nat.le_succ _) _ _ _ _ _
set_option maxRecDepth 100000 in
set_option maxHeartbeats 4000000 in
theorem upm_lo (L G : Rat → Nat → Rat) (X : Int → Int → Nat → Rat) (hE : GEnv L G X) (w : World) (B0 B1 B2 : Nat) (p q n d bt : Int) (b : Nat) (C0 : w.cell? ⟨B0, 0, none⟩ = some (.func (.func 72) #[] #[])) (A : RaC w B1 p q) (D : RaC w B2 n d) (h : uE p q n d bt = 0) (b0 : 40 ≤ b) (b1 : b ≤ 400) :
    Calls Try.prog 122 #[.int .i64 (b : Int), .pointer (some ⟨B0, 0, none⟩), .pointer (some ⟨B1, 0, none⟩), .pointer (some ⟨B2, 0, none⟩)] w (fun r w' => ∃ lo hi, LwPr (lwX L p q n d (gmV p q (G (gA p q)))) b lo hi ∧ SpanAns w b 100 lo hi r w') := by
  have R := noc_new w 28
  have l0 : B0 < w.heap.size := World.block_lt_of_cell? w ⟨B0, 0, none⟩ C0
  have l1 := A.lt
  have l2 := D.lt
  obtain ⟨W, hW⟩ : ∃ W, W = w.alloc (.cells #[.bool false, .slice none 0 0, .bool false, .slice none 0 0, .int .i64 0] 28) := ⟨_, rfl⟩
  rw [← hW] at R
  have hBW : Below w.heap.size w W := by rw [hW]; exact bl1 _ _
  have C1 : W.cell? ⟨B0, 0, none⟩ = some (.func (.func 72) #[] #[]) := (hBW.cell (p := ⟨B0, 0, none⟩) l0).trans C0
  have l0' : B0 < W.heap.size := World.block_lt_of_cell? W ⟨B0, 0, none⟩ C1
  replace A := A.below hBW
  replace D := D.below hBW
  have HK := hide (show ∀ w', Below W.heap.size W w' → (w'.cell? ⟨B0, 0, none⟩ = some (.func (.func 72) #[] #[]) ∧ w'.cell? ⟨B1, 0, none⟩ = some (.int .i64 p) ∧ w'.cell? ⟨B1, 1, none⟩ = some (.int .i64 q) ∧ w'.cell? ⟨B2, 0, none⟩ = some (.int .i64 n) ∧ w'.cell? ⟨B2, 1, none⟩ = some (.int .i64 d)) from fun w' hB => ⟨(hB.cell (p := ⟨B0, 0, none⟩) l0').trans C1, (A.below hB).c0, (A.below hB).c1, (D.below hB).c0, (D.below hB).c1⟩)
  have HAR := hide (lwAr_of h b0 b1)
  have HE := hide hE
  obtain ⟨_, ⟨r1, r2, r3, r4⟩, _⟩ := uE_zero h
  have hB0 : Below W.heap.size W W.drew := (Below.refl _ _).drew
  have n0 : w.heap.size ≠ B0 := by omega
  have n1 : w.heap.size ≠ B1 := by omega
  have n2 : w.heap.size ≠ B2 := by omega
  have lR := R.lt
  clear C0 C1 A D h hE
  go_enter Try.func122, Try.ntmps122
  go_wp2_with fail
  rw [← hW]
  clear hW
  obtain ⟨x0, x1, x2, x3, x4⟩ := unhide HK _ (Below.refl _ _)
  go_region_held3 (fun w' => w'.cell? ⟨B0, 0, none⟩ = some (.func (.func 72) #[] #[]) ∧ w'.cell? ⟨B1, 0, none⟩ = some (.int .i64 p) ∧ w'.cell? ⟨B1, 1, none⟩ = some (.int .i64 q) ∧ w'.cell? ⟨B2, 0, none⟩ = some (.int .i64 n) ∧ w'.cell? ⟨B2, 1, none⟩ = some (.int .i64 d)) (first | exact unhide HK _ (by first | with_reducible exact hB0 | with_reducible exact hB4 | with_reducible exact hB3 | with_reducible exact hB2 | with_reducible exact hB1) | go_keep)
    (first
      | (go_at_call 72; have hq := hB3; refine (upId _ v3 30 b lo hi hint3 (unhide F3)).mono ?_; rintro r w4 ⟨v4, rfl, hvb4, hint4, hb4⟩; have HPR := hide (unhide HLP); have HFIN := hide (hint4.mono (show 30 ≤ 100 by omega)); have HT := hide hvb4; clear hvb4 hint4; have hB4 := bthen hB3 hb4; replace HFIN := hide (unhide HFIN); obtain ⟨q0, q1, q2, q3, q4, q5⟩ := R.below hB4)
      | (go_at_call 123; have hq := hB2; refine (lower_iv L G X (unhide HE) _ ⟨neg1, a1, m1, c1⟩ ⟨neg2, a2, m2, c2⟩ p q n d b (hint1.below hb2) hint2 (unhide HAR)).mono ?_; rintro r w3 ⟨lo, hi, hlp, v3, rfl, hvb3, hint3, hb3⟩; have HLP := hide hlp; have F3 := hide hvb3; clear hlp hvb3; have hB3 := bthen hB2 hb3)
      | (go_at_call 48; have hq := hB1; refine (numOf_int d _ (by omega) (by omega)).mono ?_; rintro r w2 ⟨neg2, a2, m2, c2, rfl, hint2, hb2⟩; have hB2 := bthen hB1 hb2)
      | (go_at_call 48; refine (numOf_int n _ (by omega) (by omega)).mono ?_; rintro r w1 ⟨neg1, a1, m1, c1, rfl, hint1, hb1⟩; have hB1 := bthen hB0 hb1))
  all_goals
    go_wp2_with fail
    refine bodyPost_ret (v := .agg #[.bool v4.ln, .slice v4.la v4.lN v4.lc, .bool v4.hn, .slice v4.ha v4.hN v4.hc, .int .i64 v4.bits]) (by simp [results, Try.results122, go_sem, q0, q1, q2, q3, q4]) rfl ⟨lo, hi, unhide HPR, v4, rfl, unhide HT, ?_, ?_⟩
    · exact SpAt.put5 (unhide HFIN) q0 q1 q2 q3 q4 _ _ _ _ _
    · exact set5 (bthen hBW hB4) (Nat.le_refl _) _ _ _ _ _
set_option maxRecDepth 100000 in
set_option maxHeartbeats 4000000 in
theorem upm_up (L G : Rat → Nat → Rat) (X : Int → Int → Nat → Rat) (hE : GEnv L G X) (w : World) (B0 B1 B2 : Nat) (p q n d bt : Int) (b : Nat) (C0 : w.cell? ⟨B0, 0, none⟩ = some (.func (.func 45) #[] #[])) (A : RaC w B1 p q) (D : RaC w B2 n d) (h : uE p q n d bt = 0) (b0 : 40 ≤ b) (b1 : b ≤ 400) :
    Calls Try.prog 122 #[.int .i64 (b : Int), .pointer (some ⟨B0, 0, none⟩), .pointer (some ⟨B1, 0, none⟩), .pointer (some ⟨B2, 0, none⟩)] w (fun r w' => ∃ lo hi, LwPr (fun M => 1 - (lwX L p q n d (gmV p q (G (gA p q)))) M) b lo hi ∧ SpanAns w b 100 lo hi r w') := by
  have R := noc_new w 28
  have l0 : B0 < w.heap.size := World.block_lt_of_cell? w ⟨B0, 0, none⟩ C0
  have l1 := A.lt
  have l2 := D.lt
  obtain ⟨W, hW⟩ : ∃ W, W = w.alloc (.cells #[.bool false, .slice none 0 0, .bool false, .slice none 0 0, .int .i64 0] 28) := ⟨_, rfl⟩
  rw [← hW] at R
  have hBW : Below w.heap.size w W := by rw [hW]; exact bl1 _ _
  have C1 : W.cell? ⟨B0, 0, none⟩ = some (.func (.func 45) #[] #[]) := (hBW.cell (p := ⟨B0, 0, none⟩) l0).trans C0
  have l0' : B0 < W.heap.size := World.block_lt_of_cell? W ⟨B0, 0, none⟩ C1
  replace A := A.below hBW
  replace D := D.below hBW
  have HK := hide (show ∀ w', Below W.heap.size W w' → (w'.cell? ⟨B0, 0, none⟩ = some (.func (.func 45) #[] #[]) ∧ w'.cell? ⟨B1, 0, none⟩ = some (.int .i64 p) ∧ w'.cell? ⟨B1, 1, none⟩ = some (.int .i64 q) ∧ w'.cell? ⟨B2, 0, none⟩ = some (.int .i64 n) ∧ w'.cell? ⟨B2, 1, none⟩ = some (.int .i64 d)) from fun w' hB => ⟨(hB.cell (p := ⟨B0, 0, none⟩) l0').trans C1, (A.below hB).c0, (A.below hB).c1, (D.below hB).c0, (D.below hB).c1⟩)
  have HAR := hide (lwAr_of h b0 b1)
  have HE := hide hE
  obtain ⟨_, ⟨r1, r2, r3, r4⟩, _⟩ := uE_zero h
  have hB0 : Below W.heap.size W W.drew := (Below.refl _ _).drew
  have n0 : w.heap.size ≠ B0 := by omega
  have n1 : w.heap.size ≠ B1 := by omega
  have n2 : w.heap.size ≠ B2 := by omega
  have lR := R.lt
  clear C0 C1 A D h hE
  go_enter Try.func122, Try.ntmps122
  go_wp2_with fail
  rw [← hW]
  clear hW
  obtain ⟨x0, x1, x2, x3, x4⟩ := unhide HK _ (Below.refl _ _)
  go_region_held3 (fun w' => w'.cell? ⟨B0, 0, none⟩ = some (.func (.func 45) #[] #[]) ∧ w'.cell? ⟨B1, 0, none⟩ = some (.int .i64 p) ∧ w'.cell? ⟨B1, 1, none⟩ = some (.int .i64 q) ∧ w'.cell? ⟨B2, 0, none⟩ = some (.int .i64 n) ∧ w'.cell? ⟨B2, 1, none⟩ = some (.int .i64 d)) (first | exact unhide HK _ (by first | with_reducible exact hB0 | with_reducible exact hB4 | with_reducible exact hB3 | with_reducible exact hB2 | with_reducible exact hB1) | go_keep)
    (first
      | (go_at_call 45; have hq := hB3; refine (rest_iv _ v3 60 b (lo, hi) (hint3.mono (by omega)) (unhide F3) (by omega) (by omega) (by omega)).mono ?_; rintro r w4 ⟨v4, rfl, hvb4, hint4, hb4⟩; have HPR := hide (lw_rest (unhide HLP)); have HFIN := hide (hint4.mono (show 60 + 1 ≤ 100 by omega)); have HT := hide hvb4; clear hvb4 hint4; have hB4 := bthen hB3 hb4; replace HFIN := hide (unhide HFIN); obtain ⟨q0, q1, q2, q3, q4, q5⟩ := R.below hB4)
      | (go_at_call 123; have hq := hB2; refine (lower_iv L G X (unhide HE) _ ⟨neg1, a1, m1, c1⟩ ⟨neg2, a2, m2, c2⟩ p q n d b (hint1.below hb2) hint2 (unhide HAR)).mono ?_; rintro r w3 ⟨lo, hi, hlp, v3, rfl, hvb3, hint3, hb3⟩; have HLP := hide hlp; have F3 := hide hvb3; clear hlp hvb3; have hB3 := bthen hB2 hb3)
      | (go_at_call 48; have hq := hB1; refine (numOf_int d _ (by omega) (by omega)).mono ?_; rintro r w2 ⟨neg2, a2, m2, c2, rfl, hint2, hb2⟩; have hB2 := bthen hB1 hb2)
      | (go_at_call 48; refine (numOf_int n _ (by omega) (by omega)).mono ?_; rintro r w1 ⟨neg1, a1, m1, c1, rfl, hint1, hb1⟩; have hB1 := bthen hB0 hb1))
  all_goals
    go_wp2_with fail
    refine bodyPost_ret (v := .agg #[.bool v4.ln, .slice v4.la v4.lN v4.lc, .bool v4.hn, .slice v4.ha v4.hN v4.hc, .int .i64 v4.bits]) (by simp [results, Try.results122, go_sem, q0, q1, q2, q3, q4]) rfl ⟨(restI b (lo, hi)).1, (restI b (lo, hi)).2, unhide HPR, v4, rfl, unhide HT, ?_, ?_⟩
    · exact SpAt.put5 (unhide HFIN) q0 q1 q2 q3 q4 _ _ _ _ _
    · exact set5 (bthen hBW hB4) (Nat.le_refl _) _ _ _ _ _
set_option maxRecDepth 100000 in
set_option maxHeartbeats 4000000 in
theorem sure_upp (p1 p2 p3 : Value) (bits Kw KD : Nat) (Pr : Nat → Int → Int → Prop) (W : World) (hb : bits ≤ 120) (hKw : Kw ≤ 900000) (hKD : KD ≤ 100000000) (hE : SureEnds bits Kw Pr)
    (hF : ∀ (m : Nat) w', 32 ≤ m → m ≤ Kw + 120 → Below W.heap.size W w' → Calls Try.prog 122 #[.int .i64 ((bits : Int) + m), p1, p2, p3] w' (fun r w'' => ∃ lo hi, Pr (bits + m) lo hi ∧ SpanAns w' ((bits : Int) + m) KD lo hi r w'')) :
    Calls Try.prog 74 #[.int .i64 bits, .func (.func 122) #[] #[p1, p2, p3]] W (fun r w' => ∃ L H, SureOf bits Pr L H ∧ SpanAns W bits 250 L H r w') := by
  have HF := hide hF
  have HE := hide hE
  clear hF hE
  have hR0 := noc_new W 28
  go_enter Try.func74, Try.ntmps74
  go_wp2_with fail
  go_loopw [5, 6] (fun mm tt wr => ∃ m t : Nat, mm = .int .i64 (m : Int) ∧ tt = .int .i64 (t : Int) ∧ SureInv Kw m t ∧ NoC wr W.heap.size ∧ Below W.heap.size W wr) (fun mm _ _ => Kw + 200 - (intOf mm).toNat)
  case atStart => exact ⟨32, 1, rfl, rfl, ⟨Nat.le_refl _, Nat.le_refl _, by omega, Or.inl ⟨by omega, by omega⟩⟩, hR0, bl1 _ _⟩
  case round =>
    obtain ⟨m, t, rfl, rfl, hinv, R, hB⟩ := hrel
    obtain ⟨hm, ht, htm, hmt⟩ := hinv
    have hmK : m ≤ Kw + 120 := by omega
    have HI := hide hmt
    clear hmt
    go_wp2_with fail
    refine (unhide HF m _ hm hmK hB).mono ?_
    rintro r w1 ⟨lo, hi, hPr, s, rfl, hsb, hsp, hb1⟩
    replace R := R.below hb1
    replace hB := bthen hB hb1
    clear hb1
    obtain ⟨e1, e2, e3, e4⟩ := unhide HE m lo hi hPr
    obtain ⟨v1, v2, v3⟩ := to_width (m := m) e1 e2
    obtain ⟨f1, f2⟩ := to_fit e3 e4
    have HPr := hide hPr
    have HV := hide (And.intro v2 v3)
    have hs0 : 0 ≤ s.bits := by omega
    have hs1 : s.bits ≤ 1000000 := by omega
    have d1 : downZ lo (s.bits - bits) = lo / Q m := by unfold downZ; rw [hsb, if_pos (by omega)]; congr 2; omega
    have d2 : downZ (-hi) (s.bits - bits) = -hi / Q m := by unfold downZ; rw [hsb, if_pos (by omega)]; congr 2; omega
    have HD1 := hide d1
    have HD2 := hide d2
    clear hPr e1 e2 e3 e4 v2 v3 d1 d2 hsb
    go_wp2_with fail
    refine (wideTo_int _ s KD bits lo hi hsp (by omega) hs0 hs1 (by omega) (by omega)).mono ?_
    rintro r w2 ⟨u, rfl, hub, hup, hb2⟩
    rw [unhide HD1, unhide HD2] at hup
    obtain ⟨L, hL⟩ : ∃ L, L = lo / Q m := ⟨_, rfl⟩
    obtain ⟨H, hH⟩ : ∃ H, H = -(-hi / Q m) := ⟨_, rfl⟩
    rw [← hL, ← hH] at hup v1
    rw [← hL] at f1
    rw [← hH] at f2
    have HV2 := hide (show (Kw ≤ m → H - L ≤ 2) ∧ (m ≤ Kw → H - L ≤ Q (Kw - m) + 1) by rw [hL, hH]; exact unhide HV)
    have HL := hide hL
    have HH := hide hH
    replace hup := hup.fits (K := 250) (by omega) f1 f2
    replace R := R.below hb2
    replace hB := bthen hB hb2
    have HUB := hide hub
    clear hb2 hL hH hub hs0 hs1 HD1 HD2 HV hsp
    have lR := R.lt
    obtain ⟨V, hV⟩ : ∃ V, V = w2.alloc (.cells #[.bool u.ln, .slice u.la u.lN u.lc, .bool u.hn, .slice u.ha u.hN u.hc, .int .i64 u.bits] 28) := ⟨_, rfl⟩
    have bV : Below w2.heap.size w2 V := by rw [hV]; exact bl1 _ _
    have U : SpC V w2.heap.size u := by rw [hV]; exact ⟨by simp, by simp, by simp, by simp, by simp⟩
    replace R := R.below bV
    replace hB := bthen hB bV
    replace hup := hup.below bV
    clear bV
    go_wp2_with fail
    rw [← hV]
    clear hV
    refine (sub_int _ _ _ _ _ _ _ _ 250 250 H L _ hup.hi hup.lo (by omega) (by omega)).mono ?_
    rintro r w3 ⟨neg3, a3, n3, c3, rfl, hint3, hb3⟩
    replace U := U.below hb3
    replace R := R.below hb3
    replace hB := bthen hB hb3
    replace hup := hup.below hb3
    clear hb3
    go_wp2_with fail
    refine (len_int _ _ _ _ _ (H - L) _ hint3 v1).mono ?_
    rintro r w4 ⟨l, hlen, rfl, hb4⟩
    replace U := U.below hb4
    replace R := R.below hb4
    replace hB := bthen hB hb4
    replace hup := hup.below hb4
    clear hb4 hint3
    have hlb : 0 ≤ l ∧ l ≤ Kw + 2 ∧ (m ≤ Kw → l ≤ Kw - m + 2) ∧ (Kw ≤ m → l ≤ 2) := by
      obtain ⟨g1, g2⟩ := unhide HV2
      refine ⟨hlen.1, ?_, fun h => ?_, fun h => ?_⟩
      · rcases Nat.le_total m Kw with h | h
        · have := len_bd (K := Kw - m) hlen (g2 h) v1; omega
        · have := len_two hlen (g1 h) v1; omega
      · have := len_bd (K := Kw - m) hlen (g2 h) v1; omega
      · exact len_two hlen (g1 h) v1
    obtain ⟨hl0, hl1, hl2, hl3⟩ := hlb
    have HL2 := hide (And.intro hl2 hl3)
    have HLen := hide hlen
    clear hl2 hl3 hlen
    have lU := U.lt
    have lR2 := R.lt
    have nRU : W.heap.size ≠ w2.heap.size := by omega
    have nRU' : w2.heap.size ≠ W.heap.size := by omega
    have HU := hide U
    obtain ⟨x0, x1, x2, x3, x4⟩ := U
    by_cases hc : l ≤ 1
    · have hN := R
      obtain ⟨q0, q1, q2, q3, q4, q5⟩ := R
      have Hc := hide hc
      go_wp2_with fail
      refine bodyPost_ret (v := .agg #[.bool u.ln, .slice u.la u.lN u.lc, .bool u.hn, .slice u.ha u.hN u.hc, .int .i64 u.bits]) (by simp [results, Try.results74, go_sem, q0, q1, q2, q3, q4]) rfl ⟨L, H, ⟨m, lo, hi, unhide HPr, hm, unhide HL, unhide HH, Or.inl (len_one (unhide HLen) (unhide Hc) v1)⟩, u, rfl, unhide HUB, ?_, ?_⟩
      · exact SpAt.put5 hup q0 q1 q2 q3 q4 _ _ _ _ _
      · exact set5 hB (Nat.le_refl _) _ _ _ _ _
    · by_cases ht3 : 3 ≤ t
      · have ht3' : (3 : Int) ≤ (t : Int) := by omega
        cases hn : narB L H (Q bits) 4
        · have hmK2 : m < Kw := by
            refine Nat.lt_of_not_le fun h => ?_
            have h5 := (unhide HV2).1 h
            rw [narB_small (by omega) (by omega)] at hn
            cases hn
          go_wp2_with fail
          refine (narrow_int _ u bits 4 L H hup (unhide HUB) hb (by omega)).mono ?_
          rintro r w5 ⟨rfl, hb5⟩
          rw [show narB L H (Q bits) ((4 : Nat) : Int) = false from hn]
          replace R := R.below hb5
          replace hB := bthen hB hb5
          go_wp2_with fail
          go_roundw
          case rel => exact ⟨m + l.toNat + 32, t + 1, by congr 1; omega, by congr 1, ⟨by omega, by omega, by omega, Or.inr (by have := (unhide HL2).1; omega)⟩, R, hB⟩
          case measure => simp [intOf]; omega
        · go_wp2_with fail
          refine (narrow_int _ u bits 4 L H hup (unhide HUB) hb (by omega)).mono ?_
          rintro r w5 ⟨rfl, hb5⟩
          rw [show narB L H (Q bits) ((4 : Nat) : Int) = true from hn]
          replace R := R.below hb5
          replace hB := bthen hB hb5
          replace hup := hup.below hb5
          obtain ⟨y0, y1, y2, y3, y4⟩ := (unhide HU).below hb5
          obtain ⟨q0, q1, q2, q3, q4, q5⟩ := R
          have lU2 := Nat.lt_of_lt_of_le lU hb5.size
          have lR3 := Nat.lt_of_lt_of_le lR2 hb5.size
          clear hb5 x0 x1 x2 x3 x4
          go_wp2_with fail
          refine bodyPost_ret (v := .agg #[.bool u.ln, .slice u.la u.lN u.lc, .bool u.hn, .slice u.ha u.hN u.hc, .int .i64 u.bits]) (by simp [results, Try.results74, go_sem, q0, q1, q2, q3, q4]) rfl ⟨L, H, ⟨m, lo, hi, unhide HPr, hm, unhide HL, unhide HH, Or.inr hn⟩, u, rfl, unhide HUB, ?_, ?_⟩
          · exact SpAt.put5 hup q0 q1 q2 q3 q4 _ _ _ _ _
          · exact set5 hB (Nat.le_refl _) _ _ _ _ _
      · have ht3' : ¬ (3 : Int) ≤ (t : Int) := by omega
        go_wp2_with fail
        go_roundw
        case rel => exact ⟨m + l.toNat + 32, t + 1, by congr 1; omega, by congr 1, ⟨by omega, by omega, by omega, by
          have g1 := (unhide HL2).1
          have g2 := (unhide HL2).2
          have g3 := unhide HI
          rcases Nat.le_total m Kw with h | h
          · have := g1 h; exact Or.inr (by omega)
          · have := g2 h; exact Or.inl ⟨by omega, by omega⟩⟩, R, hB⟩
        case measure => simp [intOf]; omega
set_option maxRecDepth 100000 in
set_option maxHeartbeats 4000000 in
theorem upmade_lo_ok (L G : Rat → Nat → Rat) (X : Int → Int → Nat → Rat) (hE : GEnv L G X) (w : World) (p q n d : Int) (b : Nat) (h : uE p q n d b = 0) :
    Calls Try.prog 71 #[.agg #[.int .i64 p, .int .i64 q], .agg #[.int .i64 n, .int .i64 d], .int .i64 b, .func (.func 72) #[] #[]] w (fun r w' => ∃ LL HH, (SuV (lwX L p q n d (gmV p q (G (gA p q)))) b LL HH ∧ 0 ≤ LL ∧ HH ≤ Q b) ∧ PairAns w b 250 LL HH 0 r w') := by
  obtain ⟨W, hW⟩ : ∃ W, W = (((w.alloc (.cells #[.int .i64 p, .int .i64 q] 23)).alloc (.cells #[.int .i64 n, .int .i64 d] 23)).alloc (.cells #[.func (.func 72) #[] #[]] 59)).alloc (.cells #[.bool false, .slice none 0 0, .bool false, .slice none 0 0, .int .i64 0] 28) := ⟨_, rfl⟩
  have hBW : Below w.heap.size w W := by rw [hW]; exact bl4 _ _ _ _ _
  have A : RaC W w.heap.size p q := by rw [hW]; exact ⟨by simp [go_sem], by simp [go_sem]⟩
  have D : RaC W (w.heap.size + 1) n d := by rw [hW]; exact ⟨by simp [go_sem], by simp [go_sem]⟩
  have C0 : W.cell? ⟨w.heap.size + 1 + 1, 0, none⟩ = some (.func (.func 72) #[] #[]) := by rw [hW]; simp [go_sem]
  have R : NoC W (w.heap.size + 1 + 1 + 1) := by rw [hW]; exact ⟨by simp [go_sem], by simp [go_sem], by simp [go_sem], by simp [go_sem], by simp [go_sem], fun o => by simp [go_sem]⟩
  have a0 := A.c0
  have a1 := A.c1
  have d0 := D.c0
  have d1 := D.c1
  have HE := hide hE
  have HH0 := hide h
  have b5 : 8 ≤ b := by have := (uE_zero h).2.2.1; omega
  have b6 : b ≤ 120 := by have := (uE_zero h).2.2.1; omega
  clear h hE
  go_enter Try.func71, Try.ntmps71
  go_wp2_with fail
  rw [← hW]
  clear hW a0 a1 d0 d1
  refine (uFault _ p q n d (b : Int)).mono ?_
  rintro r w1 ⟨rfl, hb1⟩
  rw [unhide HH0]
  have lC : w.heap.size + 1 + 1 < W.heap.size := World.block_lt_of_cell? W ⟨w.heap.size + 1 + 1, 0, none⟩ C0
  have C1 : w1.cell? ⟨w.heap.size + 1 + 1, 0, none⟩ = some (.func (.func 72) #[] #[]) := (hb1.cell (p := ⟨w.heap.size + 1 + 1, 0, none⟩) lC).trans C0
  replace A := A.below hb1
  replace D := D.below hb1
  replace R := R.below hb1
  replace hBW := bthen hBW hb1
  have HC := hide C1
  have lC1 : w.heap.size + 1 + 1 < w1.heap.size := World.block_lt_of_cell? w1 ⟨w.heap.size + 1 + 1, 0, none⟩ C1
  clear C0 C1 hb1 lC
  have HF := hide (show ∀ (m : Nat) w', 32 ≤ m → m ≤ 89 + 120 → Below w1.heap.size w1 w' → Calls Try.prog 122 #[.int .i64 ((b : Int) + m), .pointer (some ⟨w.heap.size + 1 + 1, 0, none⟩), .pointer (some ⟨w.heap.size, 0, none⟩), .pointer (some ⟨w.heap.size + 1, 0, none⟩)] w' (fun r w'' => ∃ lo hi, LwPr (lwX L p q n d (gmV p q (G (gA p q)))) (b + m) lo hi ∧ SpanAns w' ((b : Int) + m) 100 lo hi r w'') from fun m w' h1 h2 hbw => by
    have e : (b : Int) + (m : Int) = ((b + m : Nat) : Int) := by omega
    rw [e]
    exact upm_lo L G X (unhide HE) w' (w.heap.size + 1 + 1) w.heap.size (w.heap.size + 1) p q n d (b : Int) (b + m) ((hbw.cell (p := ⟨w.heap.size + 1 + 1, 0, none⟩) lC1).trans (unhide HC)) (A.below hbw) (D.below hbw) (unhide HH0) (by omega) (by omega))
  go_wp2_with fail
  refine (sure_upp _ _ _ b 89 100 (LwPr (lwX L p q n d (gmV p q (G (gA p q))))) _ b6 (by omega) (by omega) (lw_ends _ b6) (unhide HF)).mono ?_
  rintro r' w3 ⟨LL, HH, hLH, u, rfl, hub, hup, hb3⟩
  have HLH := hide (sure_lw hLH)
  have HU := hide hub
  have lR := R.lt
  obtain ⟨q0, q1, q2, q3, q4, q5⟩ := R.below hb3
  replace hBW := bthen hBW hb3
  clear hub hLH hb3 HF
  go_wp2_with fail
  refine bodyPost_ret (v := .tuple #[.agg #[.bool u.ln, .slice u.la u.lN u.lc, .bool u.hn, .slice u.ha u.hN u.hc, .int .i64 u.bits], .int .i64 0]) (by simp [results, Try.results71, go_sem, q0, q1, q2, q3, q4]) rfl ⟨LL, HH, unhide HLH, u, rfl, unhide HU, ?_, ?_⟩
  · exact SpAt.put5 hup q0 q1 q2 q3 q4 _ _ _ _ _
  · exact set5 hBW (by omega) _ _ _ _ _
set_option maxRecDepth 100000 in
set_option maxHeartbeats 2000000 in
theorem upmade_lo_bad (w : World) (p q n d bt e : Int) (h : uE p q n d bt = e) (he : e ≠ 0) :
    Calls Try.prog 71 #[.agg #[.int .i64 p, .int .i64 q], .agg #[.int .i64 n, .int .i64 d], .int .i64 bt, .func (.func 72) #[] #[]] w (PairAns w 0 250 0 0 e) := by
  obtain ⟨W, hW⟩ : ∃ W, W = (((w.alloc (.cells #[.int .i64 p, .int .i64 q] 23)).alloc (.cells #[.int .i64 n, .int .i64 d] 23)).alloc (.cells #[.func (.func 72) #[] #[]] 59)).alloc (.cells #[.bool false, .slice none 0 0, .bool false, .slice none 0 0, .int .i64 0] 28) := ⟨_, rfl⟩
  have hBW : Below w.heap.size w W := by rw [hW]; exact bl4 _ _ _ _ _
  have A : RaC W w.heap.size p q := by rw [hW]; exact ⟨by simp [go_sem], by simp [go_sem]⟩
  have D : RaC W (w.heap.size + 1) n d := by rw [hW]; exact ⟨by simp [go_sem], by simp [go_sem]⟩
  have C0 : W.cell? ⟨w.heap.size + 1 + 1, 0, none⟩ = some (.func (.func 72) #[] #[]) := by rw [hW]; simp [go_sem]
  have R : NoC W (w.heap.size + 1 + 1 + 1) := by rw [hW]; exact ⟨by simp [go_sem], by simp [go_sem], by simp [go_sem], by simp [go_sem], by simp [go_sem], fun o => by simp [go_sem]⟩
  have a0 := A.c0
  have a1 := A.c1
  have d0 := D.c0
  have d1 := D.c1
  have HH0 := hide h
  have c1 : (e != 0) = true := by simp [he]
  clear h
  go_enter Try.func71, Try.ntmps71
  go_wp2_with fail
  rw [← hW]
  clear hW a0 a1 d0 d1 C0
  refine (uFault _ p q n d bt).mono ?_
  rintro r w1 ⟨rfl, hb1⟩
  rw [unhide HH0]
  have lR := R.lt
  obtain ⟨q0, q1, q2, q3, q4, q5⟩ := R.below hb1
  replace hBW := bthen hBW hb1
  clear hb1 A D
  go_wp2_with fail
  refine bodyPost_ret (v := .tuple #[.agg #[.bool false, .slice none 0 0, .bool false, .slice none 0 0, .int .i64 0], .int .i64 e]) (by simp [results, Try.results71, go_sem, q0, q1, q2, q3, q4]) rfl ⟨⟨false, none, 0, 0, false, none, 0, 0, 0⟩, rfl, rfl, ?_, ?_⟩
  · exact SpAt.put5 (⟨zeroInt _ _, zeroInt _ _⟩) q0 q1 q2 q3 q4 _ _ _ _ _
  · exact set5 hBW (by omega) _ _ _ _ _
set_option maxRecDepth 100000 in
set_option maxHeartbeats 2000000 in
theorem culo_ok (L G : Rat → Nat → Rat) (X : Int → Int → Nat → Rat) (hE : GEnv L G X) (w : World) (p q n d : Int) (b : Nat) (h : uE p q n d b = 0) :
    Calls Try.prog 36 #[.agg #[.int .i64 p, .int .i64 q], .agg #[.int .i64 n, .int .i64 d], .int .i64 b] w (fun r w' => ∃ LL HH, (SuV (lwX L p q n d (gmV p q (G (gA p q)))) b LL HH ∧ 0 ≤ LL ∧ HH ≤ Q b) ∧ PairAns w b 250 LL HH 0 r w') := by
  obtain ⟨W, hW⟩ : ∃ W, W = ((w.alloc (.cells #[.int .i64 p, .int .i64 q] 23)).alloc (.cells #[.int .i64 n, .int .i64 d] 23)).alloc (.cells #[.bool false, .slice none 0 0, .bool false, .slice none 0 0, .int .i64 0] 28) := ⟨_, rfl⟩
  have hBW : Below w.heap.size w W := by rw [hW]; exact bl3 _ _ _ _
  have a0 : W.cell? ⟨w.heap.size, 0, none⟩ = some (.int .i64 p) := by rw [hW]; simp [go_sem]
  have a1 : W.cell? ⟨w.heap.size, 1, none⟩ = some (.int .i64 q) := by rw [hW]; simp [go_sem]
  have d0 : W.cell? ⟨w.heap.size + 1, 0, none⟩ = some (.int .i64 n) := by rw [hW]; simp [go_sem]
  have d1 : W.cell? ⟨w.heap.size + 1, 1, none⟩ = some (.int .i64 d) := by rw [hW]; simp [go_sem]
  have R : NoC W (w.heap.size + 1 + 1) := by rw [hW]; exact ⟨by simp [go_sem], by simp [go_sem], by simp [go_sem], by simp [go_sem], by simp [go_sem], fun o => by simp [go_sem]⟩
  have HE := hide hE
  have HH0 := hide h
  clear h hE
  go_enter Try.func36, Try.ntmps36
  go_wp2_with fail
  rw [← hW]
  clear hW a0 a1 d0 d1
  refine (upmade_lo_ok L G X (unhide HE) _ p q n d b (unhide HH0)).mono ?_
  rintro r' w3 ⟨LL, HH, hLH, u, rfl, hub, hup, hb3⟩
  have HLH := hide hLH
  clear hLH
  have HU := hide hub
  have lR := R.lt
  obtain ⟨q0, q1, q2, q3, q4, q5⟩ := R.below hb3
  replace hBW := bthen hBW hb3
  clear hub hb3
  go_wp2_with fail
  refine bodyPost_ret (v := .tuple #[.agg #[.bool u.ln, .slice u.la u.lN u.lc, .bool u.hn, .slice u.ha u.hN u.hc, .int .i64 u.bits], .int .i64 0]) (by simp [results, Try.results36, go_sem, q0, q1, q2, q3, q4]) rfl ⟨LL, HH, unhide HLH, u, rfl, unhide HU, ?_, ?_⟩
  · exact SpAt.put5 hup q0 q1 q2 q3 q4 _ _ _ _ _
  · exact set5 hBW (by omega) _ _ _ _ _
set_option maxRecDepth 100000 in
set_option maxHeartbeats 2000000 in
theorem culo_bad (w : World) (p q n d bt e : Int) (h : uE p q n d bt = e) (he : e ≠ 0) :
    Calls Try.prog 36 #[.agg #[.int .i64 p, .int .i64 q], .agg #[.int .i64 n, .int .i64 d], .int .i64 bt] w (PairAns w 0 250 0 0 e) := by
  obtain ⟨W, hW⟩ : ∃ W, W = ((w.alloc (.cells #[.int .i64 p, .int .i64 q] 23)).alloc (.cells #[.int .i64 n, .int .i64 d] 23)).alloc (.cells #[.bool false, .slice none 0 0, .bool false, .slice none 0 0, .int .i64 0] 28) := ⟨_, rfl⟩
  have hBW : Below w.heap.size w W := by rw [hW]; exact bl3 _ _ _ _
  have a0 : W.cell? ⟨w.heap.size, 0, none⟩ = some (.int .i64 p) := by rw [hW]; simp [go_sem]
  have a1 : W.cell? ⟨w.heap.size, 1, none⟩ = some (.int .i64 q) := by rw [hW]; simp [go_sem]
  have d0 : W.cell? ⟨w.heap.size + 1, 0, none⟩ = some (.int .i64 n) := by rw [hW]; simp [go_sem]
  have d1 : W.cell? ⟨w.heap.size + 1, 1, none⟩ = some (.int .i64 d) := by rw [hW]; simp [go_sem]
  have R : NoC W (w.heap.size + 1 + 1) := by rw [hW]; exact ⟨by simp [go_sem], by simp [go_sem], by simp [go_sem], by simp [go_sem], by simp [go_sem], fun o => by simp [go_sem]⟩
  have HH0 := hide h
  clear h
  go_enter Try.func36, Try.ntmps36
  go_wp2_with fail
  rw [← hW]
  clear hW a0 a1 d0 d1
  refine (upmade_lo_bad _ p q n d bt e (unhide HH0) he).mono ?_
  rintro r' w3 ⟨u, rfl, hub, hup, hb3⟩
  have HU := hide hub
  have lR := R.lt
  obtain ⟨q0, q1, q2, q3, q4, q5⟩ := R.below hb3
  replace hBW := bthen hBW hb3
  clear hub hb3
  go_wp2_with fail
  refine bodyPost_ret (v := .tuple #[.agg #[.bool u.ln, .slice u.la u.lN u.lc, .bool u.hn, .slice u.ha u.hN u.hc, .int .i64 u.bits], .int .i64 e]) (by simp [results, Try.results36, go_sem, q0, q1, q2, q3, q4]) rfl ⟨u, rfl, unhide HU, ?_, ?_⟩
  · exact SpAt.put5 hup q0 q1 q2 q3 q4 _ _ _ _ _
  · exact set5 hBW (by omega) _ _ _ _ _
set_option maxRecDepth 100000 in
set_option maxHeartbeats 4000000 in
theorem upmade_up_ok (L G : Rat → Nat → Rat) (X : Int → Int → Nat → Rat) (hE : GEnv L G X) (w : World) (p q n d : Int) (b : Nat) (h : uE p q n d b = 0) :
    Calls Try.prog 71 #[.agg #[.int .i64 p, .int .i64 q], .agg #[.int .i64 n, .int .i64 d], .int .i64 b, .func (.func 45) #[] #[]] w (fun r w' => ∃ LL HH, (SuV (fun M => 1 - (lwX L p q n d (gmV p q (G (gA p q)))) M) b LL HH ∧ 0 ≤ LL ∧ HH ≤ Q b) ∧ PairAns w b 250 LL HH 0 r w') := by
  obtain ⟨W, hW⟩ : ∃ W, W = (((w.alloc (.cells #[.int .i64 p, .int .i64 q] 23)).alloc (.cells #[.int .i64 n, .int .i64 d] 23)).alloc (.cells #[.func (.func 45) #[] #[]] 59)).alloc (.cells #[.bool false, .slice none 0 0, .bool false, .slice none 0 0, .int .i64 0] 28) := ⟨_, rfl⟩
  have hBW : Below w.heap.size w W := by rw [hW]; exact bl4 _ _ _ _ _
  have A : RaC W w.heap.size p q := by rw [hW]; exact ⟨by simp [go_sem], by simp [go_sem]⟩
  have D : RaC W (w.heap.size + 1) n d := by rw [hW]; exact ⟨by simp [go_sem], by simp [go_sem]⟩
  have C0 : W.cell? ⟨w.heap.size + 1 + 1, 0, none⟩ = some (.func (.func 45) #[] #[]) := by rw [hW]; simp [go_sem]
  have R : NoC W (w.heap.size + 1 + 1 + 1) := by rw [hW]; exact ⟨by simp [go_sem], by simp [go_sem], by simp [go_sem], by simp [go_sem], by simp [go_sem], fun o => by simp [go_sem]⟩
  have a0 := A.c0
  have a1 := A.c1
  have d0 := D.c0
  have d1 := D.c1
  have HE := hide hE
  have HH0 := hide h
  have b5 : 8 ≤ b := by have := (uE_zero h).2.2.1; omega
  have b6 : b ≤ 120 := by have := (uE_zero h).2.2.1; omega
  clear h hE
  go_enter Try.func71, Try.ntmps71
  go_wp2_with fail
  rw [← hW]
  clear hW a0 a1 d0 d1
  refine (uFault _ p q n d (b : Int)).mono ?_
  rintro r w1 ⟨rfl, hb1⟩
  rw [unhide HH0]
  have lC : w.heap.size + 1 + 1 < W.heap.size := World.block_lt_of_cell? W ⟨w.heap.size + 1 + 1, 0, none⟩ C0
  have C1 : w1.cell? ⟨w.heap.size + 1 + 1, 0, none⟩ = some (.func (.func 45) #[] #[]) := (hb1.cell (p := ⟨w.heap.size + 1 + 1, 0, none⟩) lC).trans C0
  replace A := A.below hb1
  replace D := D.below hb1
  replace R := R.below hb1
  replace hBW := bthen hBW hb1
  have HC := hide C1
  have lC1 : w.heap.size + 1 + 1 < w1.heap.size := World.block_lt_of_cell? w1 ⟨w.heap.size + 1 + 1, 0, none⟩ C1
  clear C0 C1 hb1 lC
  have HF := hide (show ∀ (m : Nat) w', 32 ≤ m → m ≤ 89 + 120 → Below w1.heap.size w1 w' → Calls Try.prog 122 #[.int .i64 ((b : Int) + m), .pointer (some ⟨w.heap.size + 1 + 1, 0, none⟩), .pointer (some ⟨w.heap.size, 0, none⟩), .pointer (some ⟨w.heap.size + 1, 0, none⟩)] w' (fun r w'' => ∃ lo hi, LwPr (fun M => 1 - (lwX L p q n d (gmV p q (G (gA p q)))) M) (b + m) lo hi ∧ SpanAns w' ((b : Int) + m) 100 lo hi r w'') from fun m w' h1 h2 hbw => by
    have e : (b : Int) + (m : Int) = ((b + m : Nat) : Int) := by omega
    rw [e]
    exact upm_up L G X (unhide HE) w' (w.heap.size + 1 + 1) w.heap.size (w.heap.size + 1) p q n d (b : Int) (b + m) ((hbw.cell (p := ⟨w.heap.size + 1 + 1, 0, none⟩) lC1).trans (unhide HC)) (A.below hbw) (D.below hbw) (unhide HH0) (by omega) (by omega))
  go_wp2_with fail
  refine (sure_upp _ _ _ b 89 100 (LwPr (fun M => 1 - (lwX L p q n d (gmV p q (G (gA p q)))) M)) _ b6 (by omega) (by omega) (lw_ends _ b6) (unhide HF)).mono ?_
  rintro r' w3 ⟨LL, HH, hLH, u, rfl, hub, hup, hb3⟩
  have HLH := hide (sure_lw hLH)
  have HU := hide hub
  have lR := R.lt
  obtain ⟨q0, q1, q2, q3, q4, q5⟩ := R.below hb3
  replace hBW := bthen hBW hb3
  clear hub hLH hb3 HF
  go_wp2_with fail
  refine bodyPost_ret (v := .tuple #[.agg #[.bool u.ln, .slice u.la u.lN u.lc, .bool u.hn, .slice u.ha u.hN u.hc, .int .i64 u.bits], .int .i64 0]) (by simp [results, Try.results71, go_sem, q0, q1, q2, q3, q4]) rfl ⟨LL, HH, unhide HLH, u, rfl, unhide HU, ?_, ?_⟩
  · exact SpAt.put5 hup q0 q1 q2 q3 q4 _ _ _ _ _
  · exact set5 hBW (by omega) _ _ _ _ _
set_option maxRecDepth 100000 in
set_option maxHeartbeats 2000000 in
theorem upmade_up_bad (w : World) (p q n d bt e : Int) (h : uE p q n d bt = e) (he : e ≠ 0) :
    Calls Try.prog 71 #[.agg #[.int .i64 p, .int .i64 q], .agg #[.int .i64 n, .int .i64 d], .int .i64 bt, .func (.func 45) #[] #[]] w (PairAns w 0 250 0 0 e) := by
  obtain ⟨W, hW⟩ : ∃ W, W = (((w.alloc (.cells #[.int .i64 p, .int .i64 q] 23)).alloc (.cells #[.int .i64 n, .int .i64 d] 23)).alloc (.cells #[.func (.func 45) #[] #[]] 59)).alloc (.cells #[.bool false, .slice none 0 0, .bool false, .slice none 0 0, .int .i64 0] 28) := ⟨_, rfl⟩
  have hBW : Below w.heap.size w W := by rw [hW]; exact bl4 _ _ _ _ _
  have A : RaC W w.heap.size p q := by rw [hW]; exact ⟨by simp [go_sem], by simp [go_sem]⟩
  have D : RaC W (w.heap.size + 1) n d := by rw [hW]; exact ⟨by simp [go_sem], by simp [go_sem]⟩
  have C0 : W.cell? ⟨w.heap.size + 1 + 1, 0, none⟩ = some (.func (.func 45) #[] #[]) := by rw [hW]; simp [go_sem]
  have R : NoC W (w.heap.size + 1 + 1 + 1) := by rw [hW]; exact ⟨by simp [go_sem], by simp [go_sem], by simp [go_sem], by simp [go_sem], by simp [go_sem], fun o => by simp [go_sem]⟩
  have a0 := A.c0
  have a1 := A.c1
  have d0 := D.c0
  have d1 := D.c1
  have HH0 := hide h
  have c1 : (e != 0) = true := by simp [he]
  clear h
  go_enter Try.func71, Try.ntmps71
  go_wp2_with fail
  rw [← hW]
  clear hW a0 a1 d0 d1 C0
  refine (uFault _ p q n d bt).mono ?_
  rintro r w1 ⟨rfl, hb1⟩
  rw [unhide HH0]
  have lR := R.lt
  obtain ⟨q0, q1, q2, q3, q4, q5⟩ := R.below hb1
  replace hBW := bthen hBW hb1
  clear hb1 A D
  go_wp2_with fail
  refine bodyPost_ret (v := .tuple #[.agg #[.bool false, .slice none 0 0, .bool false, .slice none 0 0, .int .i64 0], .int .i64 e]) (by simp [results, Try.results71, go_sem, q0, q1, q2, q3, q4]) rfl ⟨⟨false, none, 0, 0, false, none, 0, 0, 0⟩, rfl, rfl, ?_, ?_⟩
  · exact SpAt.put5 (⟨zeroInt _ _, zeroInt _ _⟩) q0 q1 q2 q3 q4 _ _ _ _ _
  · exact set5 hBW (by omega) _ _ _ _ _
set_option maxRecDepth 100000 in
set_option maxHeartbeats 2000000 in
theorem cuup_ok (L G : Rat → Nat → Rat) (X : Int → Int → Nat → Rat) (hE : GEnv L G X) (w : World) (p q n d : Int) (b : Nat) (h : uE p q n d b = 0) :
    Calls Try.prog 37 #[.agg #[.int .i64 p, .int .i64 q], .agg #[.int .i64 n, .int .i64 d], .int .i64 b] w (fun r w' => ∃ LL HH, (SuV (fun M => 1 - (lwX L p q n d (gmV p q (G (gA p q)))) M) b LL HH ∧ 0 ≤ LL ∧ HH ≤ Q b) ∧ PairAns w b 250 LL HH 0 r w') := by
  obtain ⟨W, hW⟩ : ∃ W, W = ((w.alloc (.cells #[.int .i64 p, .int .i64 q] 23)).alloc (.cells #[.int .i64 n, .int .i64 d] 23)).alloc (.cells #[.bool false, .slice none 0 0, .bool false, .slice none 0 0, .int .i64 0] 28) := ⟨_, rfl⟩
  have hBW : Below w.heap.size w W := by rw [hW]; exact bl3 _ _ _ _
  have a0 : W.cell? ⟨w.heap.size, 0, none⟩ = some (.int .i64 p) := by rw [hW]; simp [go_sem]
  have a1 : W.cell? ⟨w.heap.size, 1, none⟩ = some (.int .i64 q) := by rw [hW]; simp [go_sem]
  have d0 : W.cell? ⟨w.heap.size + 1, 0, none⟩ = some (.int .i64 n) := by rw [hW]; simp [go_sem]
  have d1 : W.cell? ⟨w.heap.size + 1, 1, none⟩ = some (.int .i64 d) := by rw [hW]; simp [go_sem]
  have R : NoC W (w.heap.size + 1 + 1) := by rw [hW]; exact ⟨by simp [go_sem], by simp [go_sem], by simp [go_sem], by simp [go_sem], by simp [go_sem], fun o => by simp [go_sem]⟩
  have HE := hide hE
  have HH0 := hide h
  clear h hE
  go_enter Try.func37, Try.ntmps37
  go_wp2_with fail
  rw [← hW]
  clear hW a0 a1 d0 d1
  refine (upmade_up_ok L G X (unhide HE) _ p q n d b (unhide HH0)).mono ?_
  rintro r' w3 ⟨LL, HH, hLH, u, rfl, hub, hup, hb3⟩
  have HLH := hide hLH
  clear hLH
  have HU := hide hub
  have lR := R.lt
  obtain ⟨q0, q1, q2, q3, q4, q5⟩ := R.below hb3
  replace hBW := bthen hBW hb3
  clear hub hb3
  go_wp2_with fail
  refine bodyPost_ret (v := .tuple #[.agg #[.bool u.ln, .slice u.la u.lN u.lc, .bool u.hn, .slice u.ha u.hN u.hc, .int .i64 u.bits], .int .i64 0]) (by simp [results, Try.results37, go_sem, q0, q1, q2, q3, q4]) rfl ⟨LL, HH, unhide HLH, u, rfl, unhide HU, ?_, ?_⟩
  · exact SpAt.put5 hup q0 q1 q2 q3 q4 _ _ _ _ _
  · exact set5 hBW (by omega) _ _ _ _ _
set_option maxRecDepth 100000 in
set_option maxHeartbeats 2000000 in
theorem cuup_bad (w : World) (p q n d bt e : Int) (h : uE p q n d bt = e) (he : e ≠ 0) :
    Calls Try.prog 37 #[.agg #[.int .i64 p, .int .i64 q], .agg #[.int .i64 n, .int .i64 d], .int .i64 bt] w (PairAns w 0 250 0 0 e) := by
  obtain ⟨W, hW⟩ : ∃ W, W = ((w.alloc (.cells #[.int .i64 p, .int .i64 q] 23)).alloc (.cells #[.int .i64 n, .int .i64 d] 23)).alloc (.cells #[.bool false, .slice none 0 0, .bool false, .slice none 0 0, .int .i64 0] 28) := ⟨_, rfl⟩
  have hBW : Below w.heap.size w W := by rw [hW]; exact bl3 _ _ _ _
  have a0 : W.cell? ⟨w.heap.size, 0, none⟩ = some (.int .i64 p) := by rw [hW]; simp [go_sem]
  have a1 : W.cell? ⟨w.heap.size, 1, none⟩ = some (.int .i64 q) := by rw [hW]; simp [go_sem]
  have d0 : W.cell? ⟨w.heap.size + 1, 0, none⟩ = some (.int .i64 n) := by rw [hW]; simp [go_sem]
  have d1 : W.cell? ⟨w.heap.size + 1, 1, none⟩ = some (.int .i64 d) := by rw [hW]; simp [go_sem]
  have R : NoC W (w.heap.size + 1 + 1) := by rw [hW]; exact ⟨by simp [go_sem], by simp [go_sem], by simp [go_sem], by simp [go_sem], by simp [go_sem], fun o => by simp [go_sem]⟩
  have HH0 := hide h
  clear h
  go_enter Try.func37, Try.ntmps37
  go_wp2_with fail
  rw [← hW]
  clear hW a0 a1 d0 d1
  refine (upmade_up_bad _ p q n d bt e (unhide HH0) he).mono ?_
  rintro r' w3 ⟨u, rfl, hub, hup, hb3⟩
  have HU := hide hub
  have lR := R.lt
  obtain ⟨q0, q1, q2, q3, q4, q5⟩ := R.below hb3
  replace hBW := bthen hBW hb3
  clear hub hb3
  go_wp2_with fail
  refine bodyPost_ret (v := .tuple #[.agg #[.bool u.ln, .slice u.la u.lN u.lc, .bool u.hn, .slice u.ha u.hN u.hc, .int .i64 u.bits], .int .i64 e]) (by simp [results, Try.results37, go_sem, q0, q1, q2, q3, q4]) rfl ⟨u, rfl, unhide HU, ?_, ?_⟩
  · exact SpAt.put5 hup q0 q1 q2 q3 q4 _ _ _ _ _
  · exact set5 hBW (by omega) _ _ _ _ _
end Go.Proofs.Ytgmnknmjainabab
namespace Go.Proofs.Ytgmnknmjainabab
open Go.RowKit
attribute [local go_sem ↓] Go.wp_at_zero Go.wp_at_succ
theorem NoI.offv {w : World} {B B' : Nat} (h : NoI w B) (hne : B ≠ B') (y : Nm) : NoI (put2w w B' y) B := by
  obtain ⟨q0, q1, q2⟩ := h
  exact ⟨by simp [go_sem, q0, hne, Ne.symm hne], by simp [go_sem, q1, hne, Ne.symm hne], put_fz2 q2 _ _⟩
structure RsSt (w wr : World) (B : Nat) (X : Nm) (k : Nat) (v : Int) : Prop where
  x : VnC wr B X
  i : IntAt wr X.neg X.a X.n X.cap k v
  no : NoI wr w.heap.size
  be : Below w.heap.size w wr
  l : w.heap.size < B
theorem RsSt.below {w wr wr' : World} {B : Nat} {X : Nm} {k : Nat} {v : Int} (h : RsSt w wr B X k v) (hb : Below wr.heap.size wr wr') : RsSt w wr' B X k v :=
  ⟨h.x.below hb, h.i.below hb, h.no.below hb, bthen h.be hb, h.l⟩
theorem RsSt.put {w wr : World} {B : Nat} {X Y : Nm} {k k' : Nat} {v v' : Int} (h : RsSt w wr B X k v) (hy : IntAt wr Y.neg Y.a Y.n Y.cap k' v') : RsSt w (put2w wr B Y) B Y k' v' :=
  ⟨h.x.put Y, hy.putv h.x Y, h.no.offv (by have := h.l; omega) Y, set2 h.be (by have := h.l; omega) _ _, h.l⟩
structure CtSt (w wr : World) (B B' : Nat) (X Y : Nm) (p q : Int) (k : Nat) (u v : Int) : Prop where
  a : RaC wr w.heap.size p q
  x : VnC wr B X
  y : VnC wr B' Y
  i : IntAt wr X.neg X.a X.n X.cap k u
  j : IntAt wr Y.neg Y.a Y.n Y.cap k v
  no : NoI wr (w.heap.size + 1)
  be : Below w.heap.size w wr
  l : w.heap.size + 1 < B
  l' : w.heap.size + 1 < B'
  n : B ≠ B'
theorem CtSt.below {w wr wr' : World} {B B' : Nat} {X Y : Nm} {p q : Int} {k : Nat} {u v : Int} (h : CtSt w wr B B' X Y p q k u v) (hb : Below wr.heap.size wr wr') : CtSt w wr' B B' X Y p q k u v :=
  ⟨h.a.below hb, h.x.below hb, h.y.below hb, h.i.below hb, h.j.below hb, h.no.below hb, bthen h.be hb, h.l, h.l', h.n⟩
theorem CtSt.mono {w wr : World} {B B' : Nat} {X Y : Nm} {p q : Int} {k k' : Nat} {u v : Int} (h : CtSt w wr B B' X Y p q k u v) (hk : k ≤ k') : CtSt w wr B B' X Y p q k' u v :=
  ⟨h.a, h.x, h.y, h.i.mono hk, h.j.mono hk, h.no, h.be, h.l, h.l', h.n⟩
end Go.Proofs.Ytgmnknmjainabab
namespace Go.Proofs.Ytgmnknmjainabab
open Go.RowKit
attribute [local go_sem ↓] Go.wp_at_zero Go.wp_at_succ
theorem VrC.offv {w : World} {B B' : Nat} {s : Sp} (h : VrC w B s) (hne : B ≠ B') (y : Nm) : VrC (put2w w B' y) B s := by
  obtain ⟨⟨q0, q1, q2, q3, q4⟩, q5⟩ := h
  exact ⟨⟨by simp [go_sem, q0, hne, Ne.symm hne], by simp [go_sem, q1, hne, Ne.symm hne], by simp [go_sem, q2, hne, Ne.symm hne], by simp [go_sem, q3, hne, Ne.symm hne], by simp [go_sem, q4, hne, Ne.symm hne]⟩, fun o => by rw [frozen_set', frozen_set']; exact q5 o⟩
structure ClSt (w wr : World) (B C : Nat) (ss xx yy : Sp) (K b : Nat) (lo hi : Int) : Prop where
  s : VrC wr w.heap.size ss
  x : VrC wr B xx
  y : VrC wr C yy
  ps : SpAt wr ss K lo hi
  px : SpAt wr xx K 0 0
  py : SpAt wr yy K (Q b) (Q b)
  no : NoC wr (w.heap.size + 1)
  be : Below w.heap.size w wr
  l : w.heap.size + 1 < B
  l' : w.heap.size + 1 < C
theorem ClSt.below {w wr wr' : World} {B C : Nat} {s x y : Sp} {K b : Nat} {lo hi : Int} (h : ClSt w wr B C s x y K b lo hi) (hb : Below wr.heap.size wr wr') : ClSt w wr' B C s x y K b lo hi :=
  ⟨h.s.below hb, h.x.below hb, h.y.below hb, h.ps.below hb, h.px.below hb, h.py.below hb, h.no.below hb, bthen h.be hb, h.l, h.l'⟩
end Go.Proofs.Ytgmnknmjainabab
namespace Go.Proofs.Ytgmnknmjainabab
open Go.RowKit
attribute [local go_sem ↓] Go.wp_at_zero Go.wp_at_succ
structure PiSt (w wr : World) (B4 B5 m K : Nat) (U Sm : Sp) (f : Nat → Int × Int) (i : Nat) : Prop where
  y : VrC wr B4 U
  s : VrC wr B5 Sm
  yp : SpAt wr U K (f i).1 (f i).2
  sp : SpAt wr Sm K (sumI f i).1 (sumI f i).2
  yb : U.bits = (m : Int)
  sb : Sm.bits = (m : Int)
  no : NoC wr w.heap.size
  be : Below w.heap.size w wr
  l4 : w.heap.size < B4
  l5 : w.heap.size < B5
  ne : B4 ≠ B5
theorem PiSt.below {w wr wr' : World} {B4 B5 m K : Nat} {U Sm : Sp} {f : Nat → Int × Int} {i : Nat} (h : PiSt w wr B4 B5 m K U Sm f i) (hb : Below wr.heap.size wr wr') : PiSt w wr' B4 B5 m K U Sm f i :=
  ⟨h.y.below hb, h.s.below hb, h.yp.below hb, h.sp.below hb, h.yb, h.sb, h.no.below hb, bthen h.be hb, h.l4, h.l5, h.ne⟩
end Go.Proofs.Ytgmnknmjainabab
namespace Go.Proofs.Ytgmnknmjainabab.Ex
def vT (x : Rat) (n : Nat) : Rat := x * tm (x * x) n / (2 * (n : Rat) + 1)
end Go.Proofs.Ytgmnknmjainabab.Ex
namespace Go.Proofs.Ytgmnknmjainabab
open Go.RowKit
attribute [local go_sem ↓] Go.wp_at_zero Go.wp_at_succ
theorem NoI.put2 {w : World} {B B' : Nat} (h : NoI w B) (hne : B ≠ B') (u0 u1 : Value) : NoI ((w.setCell ⟨B', 0, none⟩ u0).setCell ⟨B', 1, none⟩ u1) B := by
  obtain ⟨q0, q1, q2⟩ := h
  exact ⟨cell_put2 q0 hne _ _, cell_put2 q1 hne _ _, fun o => by rw [frozen_set', frozen_set']; exact q2 o⟩
structure RDs (w wr : World) (BL BH : Nat) (X Y : Nm) (neg : Bool) (a : Option Addr) (n cap k : Nat) (x zl zh : Int) : Prop where
  hX : NmC wr BL X
  hY : NmC wr BH Y
  fL : ∀ o, wr.frozen? ⟨BL, o, none⟩ = false
  fH : ∀ o, wr.frozen? ⟨BH, o, none⟩ = false
  hl : IntAt wr X.neg X.a X.n X.cap (k + 2) zl
  hh : IntAt wr Y.neg Y.a Y.n Y.cap (k + 2) zh
  A : NmC wr w.heap.size ⟨neg, a, n, cap⟩
  R : NoI wr (w.heap.size + 1)
  hx : IntAt wr neg a n cap k x
  hB : Below w.heap.size w wr
theorem RDs.below {w wr w' : World} {BL BH : Nat} {X Y : Nm} {neg : Bool} {a : Option Addr} {n cap k : Nat} {x zl zh : Int} (h : RDs w wr BL BH X Y neg a n cap k x zl zh) (hb : Below wr.heap.size wr w') : RDs w w' BL BH X Y neg a n cap k x zl zh :=
  ⟨h.hX.below hb, h.hY.below hb, fun o => (hb.frozen (p := ⟨BL, o, none⟩) h.hX.lt).trans (h.fL o), fun o => (hb.frozen (p := ⟨BH, o, none⟩) h.hY.lt).trans (h.fH o), h.hl.below hb, h.hh.below hb, h.A.below hb, h.R.below hb, h.hx.below hb, bthen h.hB hb⟩
end Go.Proofs.Ytgmnknmjainabab
namespace Go.Proofs.Ytgmnknmjainabab
open Go.RowKit
attribute [local go_sem ↓] Go.wp_at_zero Go.wp_at_succ
structure LeSt (w wr : World) (B7 B8 B9 m K kq : Nat) (q : Nm) (U Sm : Sp) (X : Int) (f g : Nat → Int × Int) (i : Nat) : Prop where
  y : VrC wr B8 U
  s : VrC wr B9 Sm
  qc : NmC wr B7 q
  yp : SpAt wr U K (f i).1 (f i).2
  sp : SpAt wr Sm K (g i).1 (g i).2
  qp : IntAt wr q.neg q.a q.n q.cap kq (X * X)
  yb : U.bits = (m : Int)
  sb : Sm.bits = (m : Int)
  no : NoC wr (w.heap.size + 1)
  be : Below w.heap.size w wr
  l7 : w.heap.size + 1 < B7
  l8 : w.heap.size + 1 < B8
  l9 : w.heap.size + 1 < B9
  n78 : B7 ≠ B8
  n79 : B7 ≠ B9
  n89 : B8 ≠ B9
theorem LeSt.below {w wr wr' : World} {B7 B8 B9 m K kq : Nat} {q : Nm} {U Sm : Sp} {X : Int} {f g : Nat → Int × Int} {i : Nat} (h : LeSt w wr B7 B8 B9 m K kq q U Sm X f g i) (hb : Below wr.heap.size wr wr') : LeSt w wr' B7 B8 B9 m K kq q U Sm X f g i :=
  ⟨h.y.below hb, h.s.below hb, h.qc.below hb, h.yp.below hb, h.sp.below hb, h.qp.below hb, h.yb, h.sb, h.no.below hb, bthen h.be hb, h.l7, h.l8, h.l9, h.n78, h.n79, h.n89⟩
end Go.Proofs.Ytgmnknmjainabab
namespace Go.Proofs.Ytgmnknmjainabab
open Go.RowKit
attribute [local go_sem ↓] Go.wp_at_zero Go.wp_at_succ
def Gr1 (bt : Int) (p q : Nat → Int) (n i : Nat) (e : Int) : Prop := (e = 3 ∧ RFlt bt p q n 3) ∨ (RFlt bt p q n 0 ∧ ((e = 0 ∧ ∀ j, j < i → 0 < p j) ∨ (e = 5 ∧ ∃ j, j < n ∧ p j ≤ 0)))
def Gr2 (bt : Int) (p q : Nat → Int) (n i : Nat) (e : Int) : Prop := (e = 3 ∧ RFlt bt p q n 3) ∨ (RFlt bt p q n 0 ∧ ((e = 5 ∧ ∃ j, j < n ∧ p j ≤ 0) ∨ ((∀ j, j < n → 0 < p j) ∧ ((e = 0 ∧ ∀ j, j < i → p j ≤ 100 * q j) ∨ (e = 2 ∧ ∃ j, j < n ∧ 100 * q j < p j)))))
def GrX (bt : Int) (p q : Nat → Int) (n : Nat) (e : Int) : Prop := Gr1 bt p q n n e
theorem Gr1.start {bt : Int} {p q : Nat → Int} {n : Nat} {z : Int} (h : RFlt bt p q n z) : Gr1 bt p q n 0 z := by
  rcases h with ⟨e, h1, h2⟩ | ⟨e, h1⟩
  · subst e; exact Or.inr ⟨Or.inl ⟨rfl, h1, h2⟩, Or.inl ⟨rfl, fun j hj => by omega⟩⟩
  · subst e; exact Or.inl ⟨rfl, Or.inr ⟨rfl, h1⟩⟩
theorem Gr1.none {bt : Int} {p q : Nat → Int} {n i : Nat} (h : Gr1 bt p q n i 0) (hi : i < n) (hp : p i ≤ 0) : Gr1 bt p q n (i + 1) 5 := by
  rcases h with ⟨e, _⟩ | ⟨h, _⟩
  · omega
  · exact Or.inr ⟨h, Or.inr ⟨rfl, i, hi, hp⟩⟩
theorem Gr1.ok {bt : Int} {p q : Nat → Int} {n i : Nat} (h : Gr1 bt p q n i 0) (hp : 0 < p i) : Gr1 bt p q n (i + 1) 0 := by
  rcases h with ⟨e, _⟩ | ⟨h, ⟨_, k⟩ | ⟨e, _⟩⟩
  · omega
  · refine Or.inr ⟨h, Or.inl ⟨rfl, fun j hj => ?_⟩⟩
    by_cases c : j = i
    · subst c; exact hp
    · exact k j (by omega)
  · omega
theorem Gr1.fin {bt : Int} {p q : Nat → Int} {n i : Nat} {e : Int} (h : Gr1 bt p q n i e) (hc : i = n ∨ e ≠ 0) : GrX bt p q n e := by
  rcases hc with c | c
  · subst c; exact h
  · rcases h with h | ⟨h, ⟨e', _⟩ | k⟩
    · exact Or.inl h
    · exact absurd e' c
    · exact Or.inr ⟨h, Or.inr k⟩
theorem GrX.two {bt : Int} {p q : Nat → Int} {n : Nat} {e : Int} (h : GrX bt p q n e) : Gr2 bt p q n 0 e := by
  rcases h with h | ⟨h, ⟨e', k⟩ | k⟩
  · exact Or.inl h
  · exact Or.inr ⟨h, Or.inr ⟨k, Or.inl ⟨e', fun j hj => by omega⟩⟩⟩
  · exact Or.inr ⟨h, Or.inl k⟩
theorem Gr2.rok {bt : Int} {p q : Nat → Int} {n i : Nat} (h : Gr2 bt p q n i 0) : ∀ j, j < n → rok (p j) (q j) := by
  rcases h with ⟨e, _⟩ | ⟨h, _⟩
  · omega
  · exact RFlt.all h
theorem Gr2.many {bt : Int} {p q : Nat → Int} {n i : Nat} (h : Gr2 bt p q n i 0) (hi : i < n) (hp : 100 * q i < p i) : Gr2 bt p q n (i + 1) 2 := by
  rcases h with ⟨e, _⟩ | ⟨h, ⟨e, _⟩ | ⟨k, _⟩⟩
  · omega
  · omega
  · exact Or.inr ⟨h, Or.inr ⟨k, Or.inr ⟨rfl, i, hi, hp⟩⟩⟩
theorem Gr2.ok {bt : Int} {p q : Nat → Int} {n i : Nat} (h : Gr2 bt p q n i 0) (hi : i < n) (hp : p i ≤ 100 * q i) : Gr2 bt p q n (i + 1) 0 := by
  rcases h with ⟨e, _⟩ | ⟨h, ⟨e, _⟩ | ⟨k, ⟨_, l⟩ | ⟨e, _⟩⟩⟩
  · omega
  · omega
  · refine Or.inr ⟨h, Or.inr ⟨k, Or.inl ⟨rfl, fun j hj => ?_⟩⟩⟩
    by_cases c : j = i
    · subst c; exact hp
    · exact l j (by omega)
  · omega
theorem Gr2.fin {bt : Int} {p q : Nat → Int} {n i : Nat} {e : Int} (h : Gr2 bt p q n i e) (hc : i = n ∨ e ≠ 0) : GmE bt p q n e := by
  rcases h with ⟨e1, h⟩ | ⟨h, ⟨e1, k⟩ | ⟨k, ⟨e1, l⟩ | ⟨e1, l⟩⟩⟩
  · subst e1; exact Or.inl ⟨h, rfl⟩
  · exact Or.inr ⟨h, Or.inl ⟨e1, k⟩⟩
  · rcases hc with c | c
    · subst c; exact Or.inr ⟨h, Or.inr (Or.inr ⟨e1, fun j hj => ⟨k j hj, l j hj⟩⟩)⟩
    · exact absurd e1 c
  · exact Or.inr ⟨h, Or.inr (Or.inl ⟨e1, k, l⟩)⟩
end Go.Proofs.Ytgmnknmjainabab
namespace Go.Proofs.Ytgmnknmjainabab
open Go.RowKit
attribute [local go_sem ↓] Go.wp_at_zero Go.wp_at_succ
theorem TwoP.drew {W wx : World} {b k1 k2 : Nat} {a c : Int × Int} {p q : Value} (h : TwoP W wx b k1 k2 a c p q) : TwoP W wx.drew b k1 k2 a c p q := by
  obtain ⟨B, B', x, y, h1, h2, h3, h4, h5, h6, h7, h8, h9, h10, h11, h12⟩ := h
  have hd : Below wx.heap.size wx wx.drew := (Below.refl _ _).drew
  exact ⟨B, B', x, y, h1, h2, h3, h4, h5, h6.below hd, h7.below hd, h8.below hd, h9.below hd, h10, h11, bthen h12 hd⟩
structure NearSt (w wr : World) (B5 B6 b K : Nat) (zz Pp Sm : Sp) (a pv sv : Int × Int) : Prop where
  z : SpC wr w.heap.size zz
  p : VrC wr B5 Pp
  s : VrC wr B6 Sm
  zp : SpAt wr zz K a.1 a.2
  pp : SpAt wr Pp K pv.1 pv.2
  sp : SpAt wr Sm K sv.1 sv.2
  pb : Pp.bits = (b : Int)
  sb : Sm.bits = (b : Int)
  no : NoC wr (w.heap.size + 1)
  be : Below w.heap.size w wr
  l1 : B5 ≠ w.heap.size + 1
  l2 : B6 ≠ w.heap.size + 1
  m1 : B5 ≠ w.heap.size
  m2 : B6 ≠ w.heap.size
  k1 : w.heap.size ≤ B5
  k2 : w.heap.size ≤ B6
  n : B5 ≠ B6
theorem NearSt.below {w wr wr' : World} {B5 B6 b K : Nat} {z Pp Sm : Sp} {a p s : Int × Int} (h : NearSt w wr B5 B6 b K z Pp Sm a p s) (hb : Below wr.heap.size wr wr') : NearSt w wr' B5 B6 b K z Pp Sm a p s :=
  ⟨h.z.below hb, h.p.below hb, h.s.below hb, h.zp.below hb, h.pp.below hb, h.sp.below hb, h.pb, h.sb, h.no.below hb, bthen h.be hb, h.l1, h.l2, h.m1, h.m2, h.k1, h.k2, h.n⟩
end Go.Proofs.Ytgmnknmjainabab
namespace Go.Proofs.Ytgmnknmjainabab
open Go.RowKit
attribute [local go_sem ↓] Go.wp_at_zero Go.wp_at_succ
open Ex
structure LmW (w wr : World) (X Y : Nm) (n d : Int) (BT BU BA : Nat) (T U : Sp) (A : Nm) (m k K : Nat) (a c : Int × Int) : Prop where
  x : NmC wr w.heap.size X
  y : NmC wr (w.heap.size + 1) Y
  ix : IntAt wr X.neg X.a X.n X.cap 20 n
  iy : IntAt wr Y.neg Y.a Y.n Y.cap 20 d
  t : VrC wr BT T
  u : VrC wr BU U
  at_ : VnC wr BA A
  tb : T.bits = (m : Int)
  ub : U.bits = (m : Int)
  tp : SpAt wr T K a.1 a.2
  up : SpAt wr U K c.1 c.2
  ap : IntAt wr A.neg A.a A.n A.cap (k + 20) (n + (k : Int) * d)
  r : NoC wr (w.heap.size + 1 + 1)
  be : Below w.heap.size w wr
  l1 : w.heap.size + 1 + 1 < BT
  l2 : w.heap.size + 1 + 1 < BU
  l3 : w.heap.size + 1 + 1 < BA
  n1 : BT ≠ BU
  n2 : BT ≠ BA
  n3 : BU ≠ BA
theorem LmW.below {w wr : World} {X Y : Nm} {n d : Int} {BT BU BA : Nat} {T U : Sp} {A : Nm} {m k K : Nat} {a c : Int × Int} (h : LmW w wr X Y n d BT BU BA T U A m k K a c) {wr' : World} (hb : Below wr.heap.size wr wr') : LmW w wr' X Y n d BT BU BA T U A m k K a c :=
  ⟨h.x.below hb, h.y.below hb, h.ix.below hb, h.iy.below hb, h.t.below hb, h.u.below hb, h.at_.below hb, h.tb, h.ub, h.tp.below hb, h.up.below hb, h.ap.below hb, h.r.below hb, bthen h.be hb, h.l1, h.l2, h.l3, h.n1, h.n2, h.n3⟩
theorem LmW.fits {w wr : World} {X Y : Nm} {n d : Int} {BT BU BA : Nat} {T U : Sp} {A : Nm} {m k K : Nat} {a c : Int × Int} (h : LmW w wr X Y n d BT BU BA T U A m k K a c) {K' : Nat} (e1 : a.1 ≤ a.2) (e2 : -P K' < a.1) (e3 : a.2 < P K') (f1 : c.1 ≤ c.2) (f2 : -P K' < c.1) (f3 : c.2 < P K') : LmW w wr X Y n d BT BU BA T U A m k K' a c :=
  ⟨h.x, h.y, h.ix, h.iy, h.t, h.u, h.at_, h.tb, h.ub, h.tp.fits e1 e2 e3, h.up.fits f1 f2 f3, h.ap, h.r, h.be, h.l1, h.l2, h.l3, h.n1, h.n2, h.n3⟩
theorem LmW.mono {w wr : World} {X Y : Nm} {n d : Int} {BT BU BA : Nat} {T U : Sp} {A : Nm} {m k K : Nat} {a c : Int × Int} (h : LmW w wr X Y n d BT BU BA T U A m k K a c) {K' : Nat} (e : K ≤ K') : LmW w wr X Y n d BT BU BA T U A m k K' a c :=
  ⟨h.x, h.y, h.ix, h.iy, h.t, h.u, h.at_, h.tb, h.ub, h.tp.mono e, h.up.mono e, h.ap, h.r, h.be, h.l1, h.l2, h.l3, h.n1, h.n2, h.n3⟩
end Go.Proofs.Ytgmnknmjainabab
namespace Go.Proofs.Ytgmnknmjainabab
open Go.RowKit
attribute [local go_sem ↓] Go.wp_at_zero Go.wp_at_succ
def RefErf (X : Int) (B : Nat) (lo hi : Int) : Prop := ∀ (w' : World) (x : Nm), IntAt w' x.neg x.a x.n x.cap 100 X → Calls Try.prog 51 #[.agg #[.bool x.neg, .slice x.a x.n x.cap], .int .i64 B] w' (SpanAns w' B 200001 lo hi)
end Go.Proofs.Ytgmnknmjainabab
namespace Go.Proofs.Ytgmnknmjainabab
open Go.RowKit
attribute [local go_sem ↓] Go.wp_at_zero Go.wp_at_succ
def RefErf2 (X : Int) (B : Nat) (lo hi : Int) : Prop := ∀ (w' : World) (x : Nm), IntAt w' x.neg x.a x.n x.cap 100 X → Calls Try.prog 51 #[.agg #[.bool x.neg, .slice x.a x.n x.cap], .int .i64 B] w' (SpanAns w' B 200002 lo hi)
theorem RefErf.two {X : Int} {B : Nat} {lo hi : Int} (h : RefErf X B lo hi) : RefErf2 X B lo hi := fun w' x hx => (h w' x hx).mono fun r w'' ⟨s, e1, e2, e3, e4⟩ => ⟨s, e1, e2, e3.mono (by omega), e4⟩
end Go.Proofs.Ytgmnknmjainabab
namespace Go.Proofs.Ytgmnknmjainabab
open Ex
theorem Iv.nought {b : Nat} {a : Int × Int} (h : Iv b a (fun _ => 0)) : a.1 ≤ 0 ∧ 0 ≤ a.2 := by
  have q := Qr_pos b
  obtain ⟨h1, h2⟩ := Has.of_const h
  constructor
  · refine Int.not_lt.1 fun hlt => ?_
    have : (0 : Rat) < (a.1 : Rat) := by exact_mod_cast hlt
    have := rdiv_pos this q
    grind
  · refine Int.not_lt.1 fun hlt => ?_
    have h3 : (a.2 : Rat) < 0 := by exact_mod_cast hlt
    have h4 := rdiv_pos (show 0 < -(a.2 : Rat) by grind) q
    have e : -(a.2 : Rat) / (Q b : Rat) = -((a.2 : Rat) / (Q b : Rat)) := by rw [Rat.div_def, Rat.div_def, Rat.neg_mul]
    grind
end Go.Proofs.Ytgmnknmjainabab
namespace Go.Proofs.Ytgmnknmjainabab
open Go.RowKit
attribute [local go_sem ↓] Go.wp_at_zero Go.wp_at_succ
structure RootSt (w wr : World) (b K i : Nat) (l : Nat → Rat) (ss : Sp) (a : Int × Int) : Prop where
  s : VrC wr w.heap.size ss
  sp : SpAt wr ss K a.1 a.2
  sb : ss.bits = (b : Int)
  iv : RInv b l i a
  no : NoC wr (w.heap.size + 1)
  be : Below w.heap.size w wr
theorem RootSt.below {w wr wr' : World} {b K i : Nat} {l : Nat → Rat} {ss : Sp} {a : Int × Int} (h : RootSt w wr b K i l ss a) (hb : Below wr.heap.size wr wr') : RootSt w wr' b K i l ss a :=
  ⟨h.s.below hb, h.sp.below hb, h.sb, h.iv, h.no.below hb, bthen h.be hb⟩
end Go.Proofs.Ytgmnknmjainabab
namespace Go.Proofs.Ytgmnknmjainabab
open Go.RowKit
attribute [local go_sem ↓] Go.wp_at_zero Go.wp_at_succ
structure LgSt (w wr : World) (X Y : Nm) (k : Nat) (n d : Int) : Prop where
  x : NmC wr w.heap.size X
  fx : ∀ o, wr.frozen? ⟨w.heap.size, o, none⟩ = false
  y : NmC wr (w.heap.size + 1) Y
  fy : ∀ o, wr.frozen? ⟨w.heap.size + 1, o, none⟩ = false
  ix : IntAt wr X.neg X.a X.n X.cap k n
  iy : IntAt wr Y.neg Y.a Y.n Y.cap k d
  no : NoC wr (w.heap.size + 1 + 1)
  be : Below w.heap.size w wr
theorem LgSt.below {w wr wr' : World} {X Y : Nm} {k : Nat} {n d : Int} (h : LgSt w wr X Y k n d) (hb : Below wr.heap.size wr wr') : LgSt w wr' X Y k n d :=
  ⟨h.x.below hb, fun o => (hb.frozen (p := ⟨w.heap.size, o, none⟩) h.x.lt).trans (h.fx o), h.y.below hb, fun o => (hb.frozen (p := ⟨w.heap.size + 1, o, none⟩) h.y.lt).trans (h.fy o), h.ix.below hb, h.iy.below hb, h.no.below hb, bthen h.be hb⟩
end Go.Proofs.Ytgmnknmjainabab
namespace Go.Proofs.Ytgmnknmjainabab
open Go.RowKit
attribute [local go_sem ↓] Go.wp_at_zero Go.wp_at_succ
open Ex
structure LnW (w wr : World) (X Y : Nm) (n d : Int) (BU : Nat) (U : Sp) (m K : Nat) (c : Int × Int) : Prop where
  x : NmC wr w.heap.size X
  y : NmC wr (w.heap.size + 1) Y
  ix : IntAt wr X.neg X.a X.n X.cap 20 n
  iy : IntAt wr Y.neg Y.a Y.n Y.cap 20 d
  u : VrC wr BU U
  ub : U.bits = (m : Int)
  up : SpAt wr U K c.1 c.2
  r : NoC wr (w.heap.size + 1 + 1)
  be : Below w.heap.size w wr
  l2 : w.heap.size + 1 + 1 < BU
theorem LmW.ln {w wr : World} {X Y : Nm} {n d : Int} {BT BU BA : Nat} {T U : Sp} {A : Nm} {m k K : Nat} {a c : Int × Int} (h : LmW w wr X Y n d BT BU BA T U A m k K a c) : LnW w wr X Y n d BU U m K c := ⟨h.x, h.y, h.ix, h.iy, h.u, h.ub, h.up, h.r, h.be, h.l2⟩
theorem LnW.below {w wr : World} {X Y : Nm} {n d : Int} {BU : Nat} {U : Sp} {m K : Nat} {c : Int × Int} (h : LnW w wr X Y n d BU U m K c) {wr' : World} (hb : Below wr.heap.size wr wr') : LnW w wr' X Y n d BU U m K c :=
  ⟨h.x.below hb, h.y.below hb, h.ix.below hb, h.iy.below hb, h.u.below hb, h.ub, h.up.below hb, h.r.below hb, bthen h.be hb, h.l2⟩
theorem NmC.offH {w : World} {B B' : Nat} {x : Nm} (h : NmC w B x) (hne : B ≠ B') (u0 u1 : Value) : NmC ((w.setCell ⟨B', 2, none⟩ u0).setCell ⟨B', 3, none⟩ u1) B x := by
  obtain ⟨q0, q1⟩ := h
  exact ⟨by simp [go_sem, q0, hne, Ne.symm hne], by simp [go_sem, q1, hne, Ne.symm hne]⟩
theorem LnW.putH {w wr : World} {X Y : Nm} {n d : Int} {BU : Nat} {U : Sp} {m K : Nat} {c : Int × Int} (h : LnW w wr X Y n d BU U m K c) {H : Nm} {z : Int} {K' : Nat} (hK : K ≤ K') (hp : IntAt wr H.neg H.a H.n H.cap K' z) : LnW w ((wr.setCell ⟨BU, 2, none⟩ (.bool H.neg)).setCell ⟨BU, 3, none⟩ (.slice H.a H.n H.cap)) X Y n d BU ⟨U.ln, U.la, U.lN, U.lc, H.neg, H.a, H.n, H.cap, U.bits⟩ m K' (c.1, z) :=
  have l2 := h.l2
  ⟨h.x.offH (by omega) _ _, h.y.offH (by omega) _ _, h.ix.putH h.u.c.c2 h.u.c.c3 _ _, h.iy.putH h.u.c.c2 h.u.c.c3 _ _, sp_putHi h.u H, h.ub, ⟨(h.up.lo.mono hK).putH h.u.c.c2 h.u.c.c3 _ _, hp.putH h.u.c.c2 h.u.c.c3 _ _⟩, h.r.offH (by omega) _ _, (h.be.setCell (p := ⟨BU, 2, none⟩) (by show w.heap.size ≤ BU; omega) _).setCell (p := ⟨BU, 3, none⟩) (by show w.heap.size ≤ BU; omega) _, h.l2⟩
namespace Ex
end Ex
end Go.Proofs.Ytgmnknmjainabab
