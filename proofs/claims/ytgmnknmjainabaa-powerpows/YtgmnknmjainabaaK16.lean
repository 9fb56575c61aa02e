/-
  What power.Pow answers, errors too, and that it leaves old memory alone.
  What power.Pow answers, errors too, and that it leaves old memory alone.
  Two variables of spans in memory that are made in one statement, wherever they came to lie.
  What tailsureref.lowExp answers, and that it leaves old memory alone.
-/
import Derived.Test.YtgmnknmjainabaaK15
namespace Go.Proofs.Ytgmnknmjainabaa
set_option linter.unusedVariables false
set_option linter.unusedSimpArgs false
set_option linter.unnecessarySimpa false
open Go.RowKit
attribute [local go_sem ↓] Go.wp_at_zero Go.wp_at_succ

open Ex
theorem exp_pr2 {bits m t N : Nat} {a : Int × Int} {x : Nat → Rat} (hb : bits ≤ 120) (hm : 32 ≤ m) (hm2 : m ≤ 1848) (ha : a.1 ≤ a.2) (hw : a.2 - a.1 ≤ Q 40) (hx : Iv (bits + m) a x) (ht : t ≤ 17) (hA : Abs (downI a t) (Q (bits + m - 8))) (hN : IsStop (expT (bits + m) (downI a t)) N) :
    ExpPr x 1728 (eb 17) (bits + m) (sqI (bits + m) (doneI (expT (bits + m) (downI a t)) N) t).1 (sqI (bits + m) (doneI (expT (bits + m) (downI a t)) N) t).2 := by
  have q := Q_pos t
  have hw2 : a.2 - a.1 ≤ Q 40 * Q t := by
    have := Int.mul_le_mul_of_nonneg_left (show 1 ≤ Q t by omega) (show 0 ≤ Q 40 by have := Q_pos 40; omega)
    omega
  obtain ⟨g1, g2, g3, g4⟩ := exp_bound (ws := Q 40) (by omega) hA ha hw2 hN
  have hwb := Q_mono (wb_mono ht)
  rw [wb_17] at hwb
  have heb : Q (bits + m + eb t) ≤ Q (bits + m + eb 17) := Q_mono (by have := eb_mono ht; omega)
  refine ⟨exp_has (by omega) hx hA, g1, ?_, ?_, ?_⟩
  · refine Int.le_trans g4 ?_
    have e : Q 1728 = Q 50 * Q 1678 := Q_add 50 1678
    have e40 : Q 40 = 1099511627776 := rfl
    have e50 : Q 50 = 1125899906842624 := rfl
    rw [e]
    have q2 := Q_pos (wb t)
    have hN2 : (N : Int) + 1 ≤ 255 := by omega
    have h1 := Int.mul_le_mul_of_nonneg_right hN2 (show 0 ≤ 2 * Q 40 + 6 by omega)
    exact Int.mul_le_mul (by rw [e50]; omega) hwb (by omega) (by omega)
  · have := g2.1; omega
  · have := g2.2.2.2; omega
/-- What goes into the power of e. -/
theorem pow_arg {B : Nat} {p q kn kd : Int} {c : Int × Int} {l : Nat → Rat} (hB : 40 ≤ B) (hl : IsLog l (fun _ => (p : Rat) / (q : Rat))) (hp : 0 < p) (hq : 0 < q) (h1 : p ≤ 16 * q) (h2 : q ≤ 16 * p) (hkd : 0 < kd) (h3 : -(100 * kd) ≤ kn) (h4 : kn ≤ 100 * kd) (hc : Iv B c l) (hw : c.2 - c.1 ≤ Q 30) :
    (mulI B (ofI kn kd B) c).1 ≤ (mulI B (ofI kn kd B) c).2 ∧ (mulI B (ofI kn kd B) c).2 - (mulI B (ofI kn kd B) c).1 ≤ Q 40 ∧ reachI (mulI B (ofI kn kd B) c) < Q (B + 9) ∧ Iv B (mulI B (ofI kn kd B) c) (fun M => (kn : Rat) / (kd : Rat) * l M) := by
  have qB := Q_pos B
  have e40 : Q 40 = 1024 * Q 30 := rfl
  have h40 := Q_mono hB
  have q30 := Q_pos 30
  have aC := log_span hl hp hq h1 h2 hc hw
  have g1 := Int.mul_le_mul_of_nonneg_right h3 (show 0 ≤ Q B by omega)
  have g2 := Int.mul_le_mul_of_nonneg_right h4 (show 0 ≤ Q B by omega)
  have e1 : 100 * kd * Q B = 100 * Q B * kd := by grind
  have e2 : -(100 * kd) * Q B = -(100 * Q B * kd) := by grind
  have aK := ofI_abs (n := kn) (m := 100 * Q B) hkd B (by omega) (by omega)
  have eP : 100 * Q B * (3 * Q B + Q 30) = (300 * Q B + 100 * Q 30) * Q B := by grind
  have aZ := mulI_abs (B := B) (p := 300 * Q B + 100 * Q 30) aK aC (by omega)
  have hcl := hc.le
  have hkl := ofI_le (n := kn) hkd B
  have hkw := ofI_wide (n := kn) hkd B
  have w1 := Int.mul_le_mul_of_nonneg_left hw (show 0 ≤ 100 * Q B by omega)
  have w2 := Int.mul_le_mul_of_nonneg_left hkw (show 0 ≤ 3 * Q B + Q 30 by omega)
  have e3 : 100 * Q B * Q 30 = 100 * Q 30 * Q B := by grind
  have wZ := mulI_wide (B := B) (c := 100 * Q 30 + 4) aK aC hkl hcl (by have e4 : (100 * Q 30 + 4) * Q B = 100 * Q 30 * Q B + 4 * Q B := Int.add_mul _ _ _; rw [e4]; omega)
  have hr := abs_reach aZ
  have e9 : Q (B + 9) = Q B * 512 := by rw [Q_add]; rfl
  exact ⟨mulI_le B, by omega, by rw [e9]; omega, (Iv.of B hkd).mul hc⟩
theorem eb_fit {b t : Nat} (hb : b ≤ 2200) (ht : t ≤ 17) : Q (b + eb t) < P 500 := by
  rw [← Q_P]
  have := eb_mono ht
  rw [eb_17] at this
  have h1 := Q_mono (show b + eb t + 1 ≤ 16 * 500 by omega)
  have h2 : Q (b + eb t + 1) = 2 * Q (b + eb t) := rfl
  have := Q_pos (b + eb t)
  omega
theorem arg_fit {b : Nat} {z : Int × Int} (hb : b ≤ 2200) (hz : z.1 ≤ z.2) (h : reachI z < Q (b + 9)) : -P 500 < z.1 ∧ z.2 < P 500 := by
  rw [← Q_P]
  have h1 := Q_mono (show b + 9 ≤ 16 * 500 by omega)
  obtain ⟨g1, g2, g3, g4⟩ := reach_abs hz
  omega
theorem log_fit {b : Nat} (hb : b ≤ 2200) : Q (b + 4) < P 400 := by
  rw [← Q_P]
  have h1 := Q_mono (show b + 4 + 1 ≤ 16 * 400 by omega)
  have h2 : Q (b + 4 + 1) = 2 * Q (b + 4) := rfl
  have := Q_pos (b + 4)
  omega
theorem log_here {b N N2 : Nat} {p q n' d' c : Int} {l0 : Nat → Rat} (hb16 : 16 ≤ b) (hb : b ≤ 2200) (hp : 0 < p) (hq : 0 < q) (h : Bal p q n' d' c) (hc1 : -65 ≤ c) (hc2 : c ≤ 65) (hN : IsStop (lnT n' d' b) N) (hN2 : IsStop (lnT 2 1 b) N2) (hl : IsLog l0 (fun _ => (p : Rat) / (q : Rat))) :
    Iv b (lnOf (doneI (lnT n' d' b) N) (doneI (lnT 2 1 b) N2) c) l0 ∧ (lnOf (doneI (lnT n' d' b) N) (doneI (lnT 2 1 b) N2) c).2 - (lnOf (doneI (lnT n' d' b) N) (doneI (lnT 2 1 b) N2) c).1 ≤ Q 30 := by
  obtain ⟨l, g1, g2⟩ := log_has hp hq h b N N2
  obtain ⟨b1, b2, b3⟩ := log_bound h.1 hb16 hN hN2 65 hc1 hc2
  refine ⟨g2.congr (hl.uniq g1), Int.le_trans b3 ?_⟩
  have : Q 30 = 1073741824 := rfl
  omega
theorem wideMul_iv (w : World) (s t : Sp) (k b : Nat) (a c : Int × Int) (hs : SpAt w s k a.1 a.2) (ht : SpAt w t k c.1 c.2) (hk : k ≤ 300000000) (hb : s.bits = (b : Int)) (hbm : b ≤ 1000000) :
    Calls Try.prog 86 #[.agg #[.bool s.ln, .slice s.la s.lN s.lc, .bool s.hn, .slice s.ha s.hN s.hc, .int .i64 s.bits], .agg #[.bool t.ln, .slice t.la t.lN t.lc, .bool t.hn, .slice t.ha t.hN t.hc, .int .i64 t.bits]] w (SpanAns w b (k + k + 8) (mulI b a c).1 (mulI b a c).2) :=
  (wideMul_int w s t k a.1 a.2 c.1 c.2 hs ht hk (by omega) (by omega)).mono fun r w' h => by
    rw [hb, downZ_nat, downZ_nat] at h; exact h

set_option maxRecDepth 100000 in
set_option maxHeartbeats 4000000 in
theorem pow1_iv (w : World) (Bk Br : Nat) (p q kn kd : Int) (b : Nat) (l0 : Nat → Rat) (hr : rok p q) (hrk : rok kn kd) (hk : RaC w Bk kn kd) (hB : RaC w Br p q) (hb40 : 40 ≤ b) (hb : b ≤ 2200) (hp : 0 < p) (h1 : p ≤ 16 * q) (h2 : q ≤ 16 * p) (h3 : -(100 * kd) ≤ kn) (h4 : kn ≤ 100 * kd) (hl : IsLog l0 (fun _ => (p : Rat) / (q : Rat))) :
    Calls Try.prog 120 #[.int .i64 b, .pointer (some ⟨Bk, 0, none⟩), .pointer (some ⟨Br, 0, none⟩)] w (fun r w' => ∃ (z : Int × Int) (t N : Nat), z.1 ≤ z.2 ∧ z.2 - z.1 ≤ Q 40 ∧ Iv b z (fun M => (kn : Rat) / (kd : Rat) * l0 M) ∧ t ≤ 17 ∧ Abs (downI z t) (Q (b - 8)) ∧ IsStop (expT b (downI z t)) N ∧ SpanAns w b 500 (sqI b (doneI (expT b (downI z t)) N) t).1 (sqI b (doneI (expT b (downI z t)) N) t).2 r w') := by
  have hq : 0 < q := by have := hr.2.2.1; omega
  have hkd : 0 < kd := by have := hrk.2.2.1; omega
  have HR := hide hr
  have HRK := hide hrk
  have H16 := hide (And.intro h1 h2)
  have H100 := hide (And.intro h3 h4)
  have HL := hide hl
  obtain ⟨W, hW⟩ : ∃ W, W = w.alloc (.cells #[.bool false, .slice none 0 0, .bool false, .slice none 0 0, .int .i64 0] 26) := ⟨_, rfl⟩
  have hBW : Below w.heap.size w W := by rw [hW]; exact bl1 _ _
  have R : NoC W w.heap.size := by rw [hW]; exact noc_new w _
  have ne1 : Bk ≠ w.heap.size := Nat.ne_of_lt hk.lt
  have ne2 : w.heap.size ≠ Bk := Ne.symm ne1
  have ne3 : Br ≠ w.heap.size := Nat.ne_of_lt hB.lt
  have ne4 : w.heap.size ≠ Br := Ne.symm ne3
  replace hk := hk.below hBW
  replace hB := hB.below hBW
  have HK := hide (show ∀ w', Below W.heap.size W w' → (w'.cell? ⟨Bk, 0, none⟩ = some (.int .i64 kn) ∧ w'.cell? ⟨Bk, 1, none⟩ = some (.int .i64 kd) ∧ w'.cell? ⟨Br, 0, none⟩ = some (.int .i64 p) ∧ w'.cell? ⟨Br, 1, none⟩ = some (.int .i64 q)) from fun w' hb => ⟨(hk.below hb).c0, (hk.below hb).c1, (hB.below hb).c0, (hB.below hb).c1⟩)
  have lk := hk.lt
  have lr := hB.lt
  have lR := R.lt
  clear h1 h2 h3 h4 hl hr hrk hk hB
  go_enter Try.func120, Try.ntmps120
  go_wp2
  rw [← hW]
  clear hW
  obtain ⟨x0, x1, x2, x3⟩ := unhide HK _ (Below.refl _ _)
  have hD0 : Below W.heap.size W W.drew := (Below.refl _ _).drew
  go_region_held3 (fun w' => w'.cell? ⟨Bk, 0, none⟩ = some (.int .i64 kn) ∧ w'.cell? ⟨Bk, 1, none⟩ = some (.int .i64 kd) ∧ w'.cell? ⟨Br, 0, none⟩ = some (.int .i64 p) ∧ w'.cell? ⟨Br, 1, none⟩ = some (.int .i64 q)) (first | exact unhide HK _ (by first | with_reducible exact hD0 | with_reducible exact hD4 | with_reducible exact hD3 | with_reducible exact hD2 | with_reducible exact hD1) | go_keep)
    (first
      | (go_at_call 111; have hqq := hD3; refine (wideExp_iv _ v3 500 b t N3 (mulI b (ofI kn kd b) (lnOf (doneI (lnT n' d' b) N) (doneI (lnT 2 1 b) N2) cc)) lz hs3 (unhide HV3) (unhide HZ).1 (by omega) (by omega) (unhide HT).1 (unhide HT).2.1 (Nat.le_trans (unhide HT).2.2.1 (by omega)) (unhide HT).2.2.2.1 (unhide HT).2.2.2.2 (eb_fit hb (unhide HT).2.2.1) (by omega)).mono ?_; rintro r' w4 ⟨v4, rfl, hvb4, hs4, hb4⟩; have HV4 := hide hvb4; clear hvb4; have hD4 := bthen hD3 hb4; have lD4 := hD4.size; obtain ⟨q0, q1, q2, q3, q4, q5⟩ := R.below hD4; obtain ⟨y0, y1, y2, y3⟩ := unhide HK _ hD4)
      | (go_at_call 86; have hqq := hD2; refine (wideMul_iv _ v1 v2 (420 : Nat) b (ofI kn kd b) (lnOf (doneI (lnT n' d' b) N) (doneI (lnT 2 1 b) N2) cc) (hs1.mono (by omega)) (hs2.mono (by omega)) (by omega) (unhide HV1) (by omega)).mono ?_; rintro r' w3 ⟨v3, rfl, hvb3, hs3, hb3⟩; have HV3 := hide hvb3; clear hvb3; have hD3 := bthen hD2 hb3; have HZ := hide (pow_arg hb40 (unhide HL) hp hq (unhide H16).1 (unhide H16).2 hkd (unhide H100).1 (unhide H100).2 (unhide HLG).1 (unhide HLG).2); obtain ⟨lz, t, N3, ht⟩ := exp_set (Nat.le_trans (by decide) hb40) (unhide HZ).1 (unhide HZ).2.2.1; have HT := hide ht; clear ht; replace hs3 := hs3.fits (K := 500) (unhide HZ).1 (arg_fit hb (unhide HZ).1 (unhide HZ).2.2.1).1 (arg_fit hb (unhide HZ).1 (unhide HZ).2.2.1).2)
      | (go_at_call 116; have hqq := hD1; refine (powLog_iv _ p q b (unhide HR) 400 hp (by omega) (by omega) (log_fit hb) (by omega)).mono ?_; rintro r' w2 ⟨n', d', cc, N, N2, hBal, hc1, hc2, hN, hN2, v2, rfl, hvb2, hs2, hb2⟩; have HLG := hide (log_here (Nat.le_trans (by decide) hb40) hb hp hq hBal hc1 hc2 hN hN2 (unhide HL)); have HV2 := hide hvb2; clear hvb2 hBal hc1 hc2 hN hN2; have hD2 := bthen hD1 hb2; replace hs1 := hs1.below hb2)
      | (go_at_call 112; refine (powOf_iv _ kn kd b (unhide HRK) (by omega)).mono ?_; rintro r' w1 ⟨v1, rfl, hvb1, hs1, hb1⟩; have HV1 := hide hvb1; clear hvb1; have hD1 := bthen hD0 hb1))
  all_goals
    go_wp2_with fail
    refine bodyPost_ret (v := .agg #[.bool v4.ln, .slice v4.la v4.lN v4.lc, .bool v4.hn, .slice v4.ha v4.hN v4.hc, .int .i64 v4.bits]) (by simp [results, Try.results120, go_sem, q0, q1, q2, q3, q4]) rfl ⟨_, t, N3, (unhide HZ).1, (unhide HZ).2.1, (unhide HZ).2.2.2, (unhide HT).2.2.1, (unhide HT).2.2.2.1, (unhide HT).2.2.2.2, v4, rfl, unhide HV4, ?_, ?_⟩
    · exact SpAt.put5 hs4 q0 q1 q2 q3 q4 _ _ _ _ _
    · exact set5 (bthen hBW hD4) (Nat.le_refl _) _ _ _ _ _

set_option maxRecDepth 100000 in
set_option maxHeartbeats 4000000 in
theorem sure_ppow (p1 p2 : Value) (bits Kw KD : Nat) (Pr : Nat → Int → Int → Prop) (W : World) (hb : bits ≤ 120) (hKw : Kw ≤ 900000) (hKD : KD ≤ 100000000) (hE : SureEnds bits Kw Pr)
    (hF : ∀ (m : Nat) w', 32 ≤ m → m ≤ Kw + 120 → Below W.heap.size W w' → Calls Try.prog 120 #[.int .i64 ((bits : Int) + m), p1, p2] w' (fun r w'' => ∃ lo hi, Pr (bits + m) lo hi ∧ SpanAns w' ((bits : Int) + m) KD lo hi r w'')) :
    Calls Try.prog 109 #[.int .i64 bits, .func (.func 120) #[] #[p1, p2]] W (fun r w' => ∃ L H, SureOf bits Pr L H ∧ SpanAns W bits 250 L H r w') := by
  have HF := hide hF
  have HE := hide hE
  clear hF hE
  have hR0 := noc_new W 26
  go_enter Try.func109, Try.ntmps109
  go_wp2_with fail
  go_loopw [5, 6] (fun mm tt wr => ∃ m t : Nat, mm = .int .i64 (m : Int) ∧ tt = .int .i64 (t : Int) ∧ SureInv Kw m t ∧ NoC wr W.heap.size ∧ Below W.heap.size W wr) (fun mm _ _ => Kw + 200 - (intOf mm).toNat)
  case atStart => exact ⟨32, 1, rfl, rfl, ⟨Nat.le_refl _, Nat.le_refl _, by omega, Or.inl ⟨by omega, by omega⟩⟩, hR0, bl1 _ _⟩
  case round =>
    obtain ⟨m, t, rfl, rfl, hinv, R, hB⟩ := hrel
    obtain ⟨hm, ht, htm, hmt⟩ := hinv
    have hmK : m ≤ Kw + 120 := by omega
    have HI := hide hmt
    clear hmt
    go_wp2_with fail
    refine (unhide HF m _ hm hmK hB).mono ?_
    rintro r w1 ⟨lo, hi, hPr, s, rfl, hsb, hsp, hb1⟩
    replace R := R.below hb1
    replace hB := bthen hB hb1
    clear hb1
    obtain ⟨e1, e2, e3, e4⟩ := unhide HE m lo hi hPr
    obtain ⟨v1, v2, v3⟩ := to_width (m := m) e1 e2
    obtain ⟨f1, f2⟩ := to_fit e3 e4
    have HPr := hide hPr
    have HV := hide (And.intro v2 v3)
    have hs0 : 0 ≤ s.bits := by omega
    have hs1 : s.bits ≤ 1000000 := by omega
    have d1 : downZ lo (s.bits - bits) = lo / Q m := by unfold downZ; rw [hsb, if_pos (by omega)]; congr 2; omega
    have d2 : downZ (-hi) (s.bits - bits) = -hi / Q m := by unfold downZ; rw [hsb, if_pos (by omega)]; congr 2; omega
    have HD1 := hide d1
    have HD2 := hide d2
    clear hPr e1 e2 e3 e4 v2 v3 d1 d2 hsb
    go_wp2_with fail
    refine (wideTo_int _ s KD bits lo hi hsp (by omega) hs0 hs1 (by omega) (by omega)).mono ?_
    rintro r w2 ⟨u, rfl, hub, hup, hb2⟩
    rw [unhide HD1, unhide HD2] at hup
    obtain ⟨L, hL⟩ : ∃ L, L = lo / Q m := ⟨_, rfl⟩
    obtain ⟨H, hH⟩ : ∃ H, H = -(-hi / Q m) := ⟨_, rfl⟩
    rw [← hL, ← hH] at hup v1
    rw [← hL] at f1
    rw [← hH] at f2
    have HV2 := hide (show (Kw ≤ m → H - L ≤ 2) ∧ (m ≤ Kw → H - L ≤ Q (Kw - m) + 1) by rw [hL, hH]; exact unhide HV)
    have HL := hide hL
    have HH := hide hH
    replace hup := hup.fits (K := 250) (by omega) f1 f2
    replace R := R.below hb2
    replace hB := bthen hB hb2
    have HUB := hide hub
    clear hb2 hL hH hub hs0 hs1 HD1 HD2 HV hsp
    have lR := R.lt
    obtain ⟨V, hV⟩ : ∃ V, V = w2.alloc (.cells #[.bool u.ln, .slice u.la u.lN u.lc, .bool u.hn, .slice u.ha u.hN u.hc, .int .i64 u.bits] 26) := ⟨_, rfl⟩
    have bV : Below w2.heap.size w2 V := by rw [hV]; exact bl1 _ _
    have U : SpC V w2.heap.size u := by rw [hV]; exact ⟨by simp, by simp, by simp, by simp, by simp⟩
    replace R := R.below bV
    replace hB := bthen hB bV
    replace hup := hup.below bV
    clear bV
    go_wp2_with fail
    rw [← hV]
    clear hV
    refine (sub_int _ _ _ _ _ _ _ _ 250 250 H L _ hup.hi hup.lo (by omega) (by omega)).mono ?_
    rintro r w3 ⟨neg3, a3, n3, c3, rfl, hint3, hb3⟩
    replace U := U.below hb3
    replace R := R.below hb3
    replace hB := bthen hB hb3
    replace hup := hup.below hb3
    clear hb3
    go_wp2_with fail
    refine (len_int _ _ _ _ _ (H - L) _ hint3 v1).mono ?_
    rintro r w4 ⟨l, hlen, rfl, hb4⟩
    replace U := U.below hb4
    replace R := R.below hb4
    replace hB := bthen hB hb4
    replace hup := hup.below hb4
    clear hb4 hint3
    have hlb : 0 ≤ l ∧ l ≤ Kw + 2 ∧ (m ≤ Kw → l ≤ Kw - m + 2) ∧ (Kw ≤ m → l ≤ 2) := by
      obtain ⟨g1, g2⟩ := unhide HV2
      refine ⟨hlen.1, ?_, fun h => ?_, fun h => ?_⟩
      · rcases Nat.le_total m Kw with h | h
        · have := len_bd (K := Kw - m) hlen (g2 h) v1; omega
        · have := len_two hlen (g1 h) v1; omega
      · have := len_bd (K := Kw - m) hlen (g2 h) v1; omega
      · exact len_two hlen (g1 h) v1
    obtain ⟨hl0, hl1, hl2, hl3⟩ := hlb
    have HL2 := hide (And.intro hl2 hl3)
    have HLen := hide hlen
    clear hl2 hl3 hlen
    have lU := U.lt
    have lR2 := R.lt
    have nRU : W.heap.size ≠ w2.heap.size := by omega
    have nRU' : w2.heap.size ≠ W.heap.size := by omega
    have HU := hide U
    obtain ⟨x0, x1, x2, x3, x4⟩ := U
    by_cases hc : l ≤ 1
    · have hN := R
      obtain ⟨q0, q1, q2, q3, q4, q5⟩ := R
      have Hc := hide hc
      go_wp2_with fail
      refine bodyPost_ret (v := .agg #[.bool u.ln, .slice u.la u.lN u.lc, .bool u.hn, .slice u.ha u.hN u.hc, .int .i64 u.bits]) (by simp [results, Try.results109, go_sem, q0, q1, q2, q3, q4]) rfl ⟨L, H, ⟨m, lo, hi, unhide HPr, hm, unhide HL, unhide HH, Or.inl (len_one (unhide HLen) (unhide Hc) v1)⟩, u, rfl, unhide HUB, ?_, ?_⟩
      · exact SpAt.put5 hup q0 q1 q2 q3 q4 _ _ _ _ _
      · exact set5 hB (Nat.le_refl _) _ _ _ _ _
    · by_cases ht3 : 3 ≤ t
      · have ht3' : (3 : Int) ≤ (t : Int) := by omega
        cases hn : narB L H (Q bits) 4
        · have hmK2 : m < Kw := by
            refine Nat.lt_of_not_le fun h => ?_
            have h5 := (unhide HV2).1 h
            rw [narB_small (by omega) (by omega)] at hn
            cases hn
          go_wp2_with fail
          refine (narrow_int _ u bits 4 L H hup (unhide HUB) hb (by omega)).mono ?_
          rintro r w5 ⟨rfl, hb5⟩
          rw [show narB L H (Q bits) ((4 : Nat) : Int) = false from hn]
          replace R := R.below hb5
          replace hB := bthen hB hb5
          go_wp2_with fail
          go_roundw
          case rel => exact ⟨m + l.toNat + 32, t + 1, by congr 1; omega, by congr 1, ⟨by omega, by omega, by omega, Or.inr (by have := (unhide HL2).1; omega)⟩, R, hB⟩
          case measure => simp [intOf]; omega
        · go_wp2_with fail
          refine (narrow_int _ u bits 4 L H hup (unhide HUB) hb (by omega)).mono ?_
          rintro r w5 ⟨rfl, hb5⟩
          rw [show narB L H (Q bits) ((4 : Nat) : Int) = true from hn]
          replace R := R.below hb5
          replace hB := bthen hB hb5
          replace hup := hup.below hb5
          obtain ⟨y0, y1, y2, y3, y4⟩ := (unhide HU).below hb5
          obtain ⟨q0, q1, q2, q3, q4, q5⟩ := R
          have lU2 := Nat.lt_of_lt_of_le lU hb5.size
          have lR3 := Nat.lt_of_lt_of_le lR2 hb5.size
          clear hb5 x0 x1 x2 x3 x4
          go_wp2_with fail
          refine bodyPost_ret (v := .agg #[.bool u.ln, .slice u.la u.lN u.lc, .bool u.hn, .slice u.ha u.hN u.hc, .int .i64 u.bits]) (by simp [results, Try.results109, go_sem, q0, q1, q2, q3, q4]) rfl ⟨L, H, ⟨m, lo, hi, unhide HPr, hm, unhide HL, unhide HH, Or.inr hn⟩, u, rfl, unhide HUB, ?_, ?_⟩
          · exact SpAt.put5 hup q0 q1 q2 q3 q4 _ _ _ _ _
          · exact set5 hB (Nat.le_refl _) _ _ _ _ _
      · have ht3' : ¬ (3 : Int) ≤ (t : Int) := by omega
        go_wp2_with fail
        go_roundw
        case rel => exact ⟨m + l.toNat + 32, t + 1, by congr 1; omega, by congr 1, ⟨by omega, by omega, by omega, by
          have g1 := (unhide HL2).1
          have g2 := (unhide HL2).2
          have g3 := unhide HI
          rcases Nat.le_total m Kw with h | h
          · have := g1 h; exact Or.inr (by omega)
          · have := g2 h; exact Or.inl ⟨by omega, by omega⟩⟩, R, hB⟩
        case measure => simp [intOf]; omega
end Go.Proofs.Ytgmnknmjainabaa

namespace Go.Proofs.Ytgmnknmjainabaa
set_option linter.unusedVariables false
set_option linter.unusedSimpArgs false
set_option linter.unnecessarySimpa false
open Go.RowKit
attribute [local go_sem ↓] Go.wp_at_zero Go.wp_at_succ

theorem rats2 (w : World) (p q kn kd : Int) (T : TypeId) : Rats (w.alloc (.cells #[.int .i64 p, .int .i64 q, .int .i64 kn, .int .i64 kd] T)) w.heap.size 2 (fun j => if j = 0 then p else kn) (fun j => if j = 0 then q else kd) := by
  refine ⟨by simp, ?_, ?_⟩
  all_goals
    intro j hj
    match j, hj with
    | 0, _ => simp
    | 1, _ => simp
/-- What two ratios and bits come to. -/
def ratE2 (p q kn kd b : Int) : Int := if (rok p q ∧ rok kn kd) ∧ 8 ≤ b ∧ b ≤ 120 then 0 else 3
theorem rat2_of {bt p q kn kd z : Int} (h : RFlt bt (fun j => if j = 0 then p else kn) (fun j => if j = 0 then q else kd) 2 z) : z = ratE2 p q kn kd bt := by
  unfold ratE2
  rcases h with ⟨rfl, h4, h5⟩ | ⟨rfl, h4⟩
  · rw [if_pos ⟨⟨h5 0 (by omega), h5 1 (by omega)⟩, h4⟩]
  · have h8 : ¬ ((rok p q ∧ rok kn kd) ∧ 8 ≤ bt ∧ bt ≤ 120) := fun ⟨⟨h5, h6⟩, h7⟩ => h4 ⟨h7, fun j hj => by
      match j, hj with
      | 0, _ => exact h5
      | 1, _ => exact h6⟩
    rw [if_neg h8]
theorem ratioFault2 (bt : Int) (w : World) (B : Nat) (hB : w.heap.size = B) (p q kn kd : Int) (T : TypeId) (cap : Nat) :
    Calls Try.prog 70 #[.int .i64 bt, .slice (some ⟨B, 0, none⟩) 2 cap] (w.alloc (.cells #[.int .i64 p, .int .i64 q, .int .i64 kn, .int .i64 kd] T)) fun r w' =>
      r = .returned (.int .i64 (ratE2 p q kn kd bt)) ∧ Below w.heap.size w w' := by
  subst hB
  exact (ratioFault_any bt w.heap.size 2 cap _ _ _ (rats2 w p q kn kd T) (by omega)).mono fun r w' ⟨z, h1, h2, h3⟩ =>
    ⟨by rw [h1, rat2_of h2], (bl1 _ _).trans (h3.mono (by simp))⟩
open Ex in
/-- What power.Pow must come to. -/
def PowOk (b : Nat) (p q kn kd L H : Int) : Prop :=
  L ≤ H ∧ narB L H (Q b) 4 = true ∧ ∀ l, IsLog l (fun _ => (p : Rat) / (q : Rat)) → Iv b (L, H) (Ev (fun M => (kn : Rat) / (kd : Rat) * l M))
open Ex in
theorem powOk_exact {b : Nat} {p q kn kd N D : Int} (h : PowEx p q kn kd N D) : PowOk b p q kn kd (ofI N D b).1 (ofI N D b).2 :=
  ⟨ofI_le h.d0 b, narB_small (ofI_le h.d0 b) (by have := ofI_wide (n := N) h.d0 b; omega), fun l hl => (Iv.of b h.d0).congr (h.log l hl).2⟩
open Ex in
theorem scale_null {c : Rat} {f g : Nat → Rat} (h : Null (fun M => f M - g M)) : Null (fun M => c * f M - c * g M) :=
  (h.bmul (Bdd.const c)).of_eq fun M => by grind
open Ex in
theorem powOk_sure {b Kw ee : Nat} {p q kn kd L H : Int} {l0 : Nat → Rat} (hl0 : IsLog l0 (fun _ => (p : Rat) / (q : Rat))) (h : SureOf b (ExpPr (fun M => (kn : Rat) / (kd : Rat) * l0 M) Kw ee) L H) : PowOk b p q kn kd L H := by
  obtain ⟨h1, h2, h3, _, _⟩ := sure_exp h
  refine ⟨h2, h3, fun l hl => h1.congr ?_⟩
  exact Ev_congr ((Bdd.const _).mul hl.1) ((Bdd.const _).mul hl0.1) (scale_null (hl.uniq hl0))

set_option maxRecDepth 100000 in
set_option maxHeartbeats 2000000 in
theorem powerPow_bad (p q kn kd bt : Int) (w : World) (h : ¬ ((rok p q ∧ rok kn kd) ∧ 8 ≤ bt ∧ bt ≤ 120)) :
    Calls Try.prog 63 #[.agg #[.int .i64 p, .int .i64 q], .agg #[.int .i64 kn, .int .i64 kd], .int .i64 bt] w (PairAns w 0 250 0 0 3) := by
  obtain ⟨W, hW⟩ : ∃ W, W = ((w.alloc (.cells #[.int .i64 p, .int .i64 q] 28)).alloc (.cells #[.int .i64 kn, .int .i64 kd] 28)).alloc (.cells #[.bool false, .slice none 0 0, .bool false, .slice none 0 0, .int .i64 0] 26) := ⟨_, rfl⟩
  have st : ExS w W p q kn kd := by
    rw [hW]
    exact ⟨⟨by simp [go_sem], by simp [go_sem]⟩, fun o => by simp [go_sem], ⟨by simp [go_sem], by simp [go_sem]⟩, fun o => by simp [go_sem], ⟨by simp [go_sem], by simp [go_sem], by simp [go_sem], by simp [go_sem], by simp [go_sem], fun o => by simp [go_sem]⟩, bl3 _ _ _ _⟩
  have hsz : W.heap.size = w.heap.size + 1 + 1 + 1 := by rw [hW]; simp
  have d1 : ratE2 p q kn kd bt = 3 := by unfold ratE2; rw [if_neg h]
  clear h
  go_enter Try.func63, Try.ntmps63
  go_wp2_with fail
  rw [← hW]
  clear hW
  refine (ratioFault2 bt W _ hsz p q kn kd _ _).mono ?_
  rintro r' w1 ⟨rfl, hb1⟩
  rw [d1]
  replace st := st.below hb1
  clear hb1 hsz
  have lR := st.no.lt
  have hBf := st.be
  obtain ⟨q0, q1, q2, q3, q4, q5⟩ := st.no
  clear st
  go_wp2_with fail
  refine bodyPost_ret (v := .tuple #[.agg #[.bool false, .slice none 0 0, .bool false, .slice none 0 0, .int .i64 0], .int .i64 3]) (by simp [results, Try.results63, go_sem, q0, q1, q2, q3, q4]) rfl ⟨⟨false, none, 0, 0, false, none, 0, 0, 0⟩, rfl, rfl, zeroSp _ _, ?_⟩
  exact set5 hBf (by omega) _ _ _ _ _

set_option maxRecDepth 100000 in
set_option maxHeartbeats 2000000 in
theorem powerPow_none (p q kn kd bt : Int) (w : World) (hr : rok p q) (hrk : rok kn kd) (h5 : 8 ≤ bt) (h6 : bt ≤ 120) (h : p ≤ 0) :
    Calls Try.prog 63 #[.agg #[.int .i64 p, .int .i64 q], .agg #[.int .i64 kn, .int .i64 kd], .int .i64 bt] w (PairAns w 0 250 0 0 5) := by
  obtain ⟨W, hW⟩ : ∃ W, W = ((w.alloc (.cells #[.int .i64 p, .int .i64 q] 28)).alloc (.cells #[.int .i64 kn, .int .i64 kd] 28)).alloc (.cells #[.bool false, .slice none 0 0, .bool false, .slice none 0 0, .int .i64 0] 26) := ⟨_, rfl⟩
  have st : ExS w W p q kn kd := by
    rw [hW]
    exact ⟨⟨by simp [go_sem], by simp [go_sem]⟩, fun o => by simp [go_sem], ⟨by simp [go_sem], by simp [go_sem]⟩, fun o => by simp [go_sem], ⟨by simp [go_sem], by simp [go_sem], by simp [go_sem], by simp [go_sem], by simp [go_sem], fun o => by simp [go_sem]⟩, bl3 _ _ _ _⟩
  have hsz : W.heap.size = w.heap.size + 1 + 1 + 1 := by rw [hW]; simp
  have d1 : ratE2 p q kn kd bt = 0 := by unfold ratE2; rw [if_pos]; exact ⟨⟨hr, hrk⟩, by omega, by omega⟩
  obtain ⟨r1, r2, r3, r4⟩ := hr
  obtain ⟨s1, s2, s3, s4⟩ := hrk
  go_enter Try.func63, Try.ntmps63
  go_wp2_with fail
  rw [← hW]
  clear hW
  refine (ratioFault2 bt W _ hsz p q kn kd _ _).mono ?_
  rintro r' w1 ⟨rfl, hb1⟩
  rw [d1]
  replace st := st.below hb1
  clear hb1 hsz
  have lr := st.r.lt
  have lk := st.k.lt
  have lR := st.no.lt
  obtain ⟨x0, x1⟩ := st.r
  obtain ⟨y0, y1⟩ := st.k
  have hBf := st.be
  obtain ⟨q0, q1, q2, q3, q4, q5⟩ := st.no
  clear st
  go_wp2_with fail
  refine bodyPost_ret (v := .tuple #[.agg #[.bool false, .slice none 0 0, .bool false, .slice none 0 0, .int .i64 0], .int .i64 5]) (by simp [results, Try.results63, go_sem, q0, q1, q2, q3, q4]) rfl ⟨⟨false, none, 0, 0, false, none, 0, 0, 0⟩, rfl, rfl, zeroSp _ _, ?_⟩
  exact set5 hBf (by omega) _ _ _ _ _

set_option maxRecDepth 100000 in
set_option maxHeartbeats 2000000 in
theorem powerPow_manyA (p q kn kd bt : Int) (w : World) (hr : rok p q) (hrk : rok kn kd) (h5 : 8 ≤ bt) (h6 : bt ≤ 120) (hp : 0 < p) (h : 16 * q < p) :
    Calls Try.prog 63 #[.agg #[.int .i64 p, .int .i64 q], .agg #[.int .i64 kn, .int .i64 kd], .int .i64 bt] w (PairAns w 0 250 0 0 2) := by
  obtain ⟨W, hW⟩ : ∃ W, W = ((w.alloc (.cells #[.int .i64 p, .int .i64 q] 28)).alloc (.cells #[.int .i64 kn, .int .i64 kd] 28)).alloc (.cells #[.bool false, .slice none 0 0, .bool false, .slice none 0 0, .int .i64 0] 26) := ⟨_, rfl⟩
  have st : ExS w W p q kn kd := by
    rw [hW]
    exact ⟨⟨by simp [go_sem], by simp [go_sem]⟩, fun o => by simp [go_sem], ⟨by simp [go_sem], by simp [go_sem]⟩, fun o => by simp [go_sem], ⟨by simp [go_sem], by simp [go_sem], by simp [go_sem], by simp [go_sem], by simp [go_sem], fun o => by simp [go_sem]⟩, bl3 _ _ _ _⟩
  have hsz : W.heap.size = w.heap.size + 1 + 1 + 1 := by rw [hW]; simp
  have d1 : ratE2 p q kn kd bt = 0 := by unfold ratE2; rw [if_pos]; exact ⟨⟨hr, hrk⟩, by omega, by omega⟩
  obtain ⟨r1, r2, r3, r4⟩ := hr
  obtain ⟨s1, s2, s3, s4⟩ := hrk
  have hp' : ¬ p ≤ 0 := by omega
  have d2 := within_f (p := p) (q := q) (n := 16) (by omega)
  go_enter Try.func63, Try.ntmps63
  go_wp2_with fail
  rw [← hW]
  clear hW
  refine (ratioFault2 bt W _ hsz p q kn kd _ _).mono ?_
  rintro r' w1 ⟨rfl, hb1⟩
  rw [d1]
  replace st := st.below hb1
  clear hb1 hsz
  have lr := st.r.lt
  have lk := st.k.lt
  have lR := st.no.lt
  obtain ⟨x0, x1⟩ := st.r
  obtain ⟨y0, y1⟩ := st.k
  go_wp2_with fail
  refine (within_any p q 16 _ (by omega) (by omega) r3 r4).mono ?_
  rintro r' w2 ⟨rfl, hb2⟩
  rw [d2]
  replace st := st.below hb2
  clear hb2 x0 x1 y0 y1 lr lk lR
  have lr := st.r.lt
  have lk := st.k.lt
  have lR := st.no.lt
  obtain ⟨x0, x1⟩ := st.r
  obtain ⟨y0, y1⟩ := st.k
  have hBf := st.be
  obtain ⟨q0, q1, q2, q3, q4, q5⟩ := st.no
  clear st
  go_wp2_with fail
  refine bodyPost_ret (v := .tuple #[.agg #[.bool false, .slice none 0 0, .bool false, .slice none 0 0, .int .i64 0], .int .i64 2]) (by simp [results, Try.results63, go_sem, q0, q1, q2, q3, q4]) rfl ⟨⟨false, none, 0, 0, false, none, 0, 0, 0⟩, rfl, rfl, zeroSp _ _, ?_⟩
  exact set5 hBf (by omega) _ _ _ _ _

set_option maxRecDepth 100000 in
set_option maxHeartbeats 2000000 in
theorem powerPow_manyB (p q kn kd bt : Int) (w : World) (hr : rok p q) (hrk : rok kn kd) (h5 : 8 ≤ bt) (h6 : bt ≤ 120) (hp : 0 < p) (h0 : p ≤ 16 * q) (h : 16 * p < q) :
    Calls Try.prog 63 #[.agg #[.int .i64 p, .int .i64 q], .agg #[.int .i64 kn, .int .i64 kd], .int .i64 bt] w (PairAns w 0 250 0 0 2) := by
  obtain ⟨W, hW⟩ : ∃ W, W = ((w.alloc (.cells #[.int .i64 p, .int .i64 q] 28)).alloc (.cells #[.int .i64 kn, .int .i64 kd] 28)).alloc (.cells #[.bool false, .slice none 0 0, .bool false, .slice none 0 0, .int .i64 0] 26) := ⟨_, rfl⟩
  have st : ExS w W p q kn kd := by
    rw [hW]
    exact ⟨⟨by simp [go_sem], by simp [go_sem]⟩, fun o => by simp [go_sem], ⟨by simp [go_sem], by simp [go_sem]⟩, fun o => by simp [go_sem], ⟨by simp [go_sem], by simp [go_sem], by simp [go_sem], by simp [go_sem], by simp [go_sem], fun o => by simp [go_sem]⟩, bl3 _ _ _ _⟩
  have hsz : W.heap.size = w.heap.size + 1 + 1 + 1 := by rw [hW]; simp
  have d1 : ratE2 p q kn kd bt = 0 := by unfold ratE2; rw [if_pos]; exact ⟨⟨hr, hrk⟩, by omega, by omega⟩
  obtain ⟨r1, r2, r3, r4⟩ := hr
  obtain ⟨s1, s2, s3, s4⟩ := hrk
  have hp' : ¬ p ≤ 0 := by omega
  have d2 := within_t (p := p) (q := q) (n := 16) (by omega) h0
  go_enter Try.func63, Try.ntmps63
  go_wp2_with fail
  rw [← hW]
  clear hW
  refine (ratioFault2 bt W _ hsz p q kn kd _ _).mono ?_
  rintro r' w1 ⟨rfl, hb1⟩
  rw [d1]
  replace st := st.below hb1
  clear hb1 hsz
  have lr := st.r.lt
  have lk := st.k.lt
  have lR := st.no.lt
  obtain ⟨x0, x1⟩ := st.r
  obtain ⟨y0, y1⟩ := st.k
  go_wp2_with fail
  refine (within_any p q 16 _ (by omega) (by omega) r3 r4).mono ?_
  rintro r' w2 ⟨rfl, hb2⟩
  rw [d2]
  replace st := st.below hb2
  clear hb2 x0 x1 y0 y1 lr lk lR
  have lr := st.r.lt
  have lk := st.k.lt
  have lR := st.no.lt
  obtain ⟨x0, x1⟩ := st.r
  obtain ⟨y0, y1⟩ := st.k
  have hBf := st.be
  obtain ⟨q0, q1, q2, q3, q4, q5⟩ := st.no
  clear st
  go_wp2_with fail
  refine bodyPost_ret (v := .tuple #[.agg #[.bool false, .slice none 0 0, .bool false, .slice none 0 0, .int .i64 0], .int .i64 2]) (by simp [results, Try.results63, go_sem, q0, q1, q2, q3, q4]) rfl ⟨⟨false, none, 0, 0, false, none, 0, 0, 0⟩, rfl, rfl, zeroSp _ _, ?_⟩
  exact set5 hBf (by omega) _ _ _ _ _

set_option maxRecDepth 100000 in
set_option maxHeartbeats 2000000 in
theorem powerPow_manyC (p q kn kd bt : Int) (w : World) (hr : rok p q) (hrk : rok kn kd) (h5 : 8 ≤ bt) (h6 : bt ≤ 120) (hp : 0 < p) (h0 : p ≤ 16 * q) (h1 : q ≤ 16 * p) (h : ¬ (-(100 * kd) ≤ kn ∧ kn ≤ 100 * kd)) :
    Calls Try.prog 63 #[.agg #[.int .i64 p, .int .i64 q], .agg #[.int .i64 kn, .int .i64 kd], .int .i64 bt] w (PairAns w 0 250 0 0 2) := by
  obtain ⟨W, hW⟩ : ∃ W, W = ((w.alloc (.cells #[.int .i64 p, .int .i64 q] 28)).alloc (.cells #[.int .i64 kn, .int .i64 kd] 28)).alloc (.cells #[.bool false, .slice none 0 0, .bool false, .slice none 0 0, .int .i64 0] 26) := ⟨_, rfl⟩
  have st : ExS w W p q kn kd := by
    rw [hW]
    exact ⟨⟨by simp [go_sem], by simp [go_sem]⟩, fun o => by simp [go_sem], ⟨by simp [go_sem], by simp [go_sem]⟩, fun o => by simp [go_sem], ⟨by simp [go_sem], by simp [go_sem], by simp [go_sem], by simp [go_sem], by simp [go_sem], fun o => by simp [go_sem]⟩, bl3 _ _ _ _⟩
  have hsz : W.heap.size = w.heap.size + 1 + 1 + 1 := by rw [hW]; simp
  have d1 : ratE2 p q kn kd bt = 0 := by unfold ratE2; rw [if_pos]; exact ⟨⟨hr, hrk⟩, by omega, by omega⟩
  obtain ⟨r1, r2, r3, r4⟩ := hr
  obtain ⟨s1, s2, s3, s4⟩ := hrk
  have hp' : ¬ p ≤ 0 := by omega
  have d2 := within_t (p := p) (q := q) (n := 16) (by omega) h0
  have d3 := within_f (p := kn) (q := kd) (n := 100) h
  clear h
  go_enter Try.func63, Try.ntmps63
  go_wp2_with fail
  rw [← hW]
  clear hW
  refine (ratioFault2 bt W _ hsz p q kn kd _ _).mono ?_
  rintro r' w1 ⟨rfl, hb1⟩
  rw [d1]
  replace st := st.below hb1
  clear hb1 hsz
  have lr := st.r.lt
  have lk := st.k.lt
  have lR := st.no.lt
  obtain ⟨x0, x1⟩ := st.r
  obtain ⟨y0, y1⟩ := st.k
  go_wp2_with fail
  refine (within_any p q 16 _ (by omega) (by omega) r3 r4).mono ?_
  rintro r' w2 ⟨rfl, hb2⟩
  rw [d2]
  replace st := st.below hb2
  clear hb2 x0 x1 y0 y1 lr lk lR
  have lr := st.r.lt
  have lk := st.k.lt
  have lR := st.no.lt
  obtain ⟨x0, x1⟩ := st.r
  obtain ⟨y0, y1⟩ := st.k
  go_wp2_with fail
  refine (within_any kn kd 100 _ (by omega) (by omega) s3 s4).mono ?_
  rintro r' w3 ⟨rfl, hb3⟩
  rw [d3]
  replace st := st.below hb3
  clear hb3 x0 x1 y0 y1 lr lk lR
  have lr := st.r.lt
  have lk := st.k.lt
  have lR := st.no.lt
  obtain ⟨x0, x1⟩ := st.r
  obtain ⟨y0, y1⟩ := st.k
  have hBf := st.be
  obtain ⟨q0, q1, q2, q3, q4, q5⟩ := st.no
  clear st
  go_wp2_with fail
  refine bodyPost_ret (v := .tuple #[.agg #[.bool false, .slice none 0 0, .bool false, .slice none 0 0, .int .i64 0], .int .i64 2]) (by simp [results, Try.results63, go_sem, q0, q1, q2, q3, q4]) rfl ⟨⟨false, none, 0, 0, false, none, 0, 0, 0⟩, rfl, rfl, zeroSp _ _, ?_⟩
  exact set5 hBf (by omega) _ _ _ _ _

theorem powerPow_many (p q kn kd bt : Int) (w : World) (hr : rok p q) (hrk : rok kn kd) (h5 : 8 ≤ bt) (h6 : bt ≤ 120) (hp : 0 < p) (h : ¬ (p ≤ 16 * q ∧ q ≤ 16 * p ∧ -(100 * kd) ≤ kn ∧ kn ≤ 100 * kd)) :
    Calls Try.prog 63 #[.agg #[.int .i64 p, .int .i64 q], .agg #[.int .i64 kn, .int .i64 kd], .int .i64 bt] w (PairAns w 0 250 0 0 2) := by
  by_cases h0 : p ≤ 16 * q
  · by_cases h1 : q ≤ 16 * p
    · exact powerPow_manyC p q kn kd bt w hr hrk h5 h6 hp h0 h1 (fun h2 => h ⟨h0, h1, h2⟩)
    · exact powerPow_manyB p q kn kd bt w hr hrk h5 h6 hp h0 (by omega)
  · exact powerPow_manyA p q kn kd bt w hr hrk h5 h6 hp (by omega)

set_option maxRecDepth 100000 in
set_option maxHeartbeats 4000000 in
theorem powerPow_ok (p q kn kd : Int) (b : Nat) (w : World) (hr : rok p q) (hrk : rok kn kd) (h5 : 8 ≤ b) (h6 : b ≤ 120) (hp : 0 < p) (h0 : p ≤ 16 * q) (h1 : q ≤ 16 * p) (h2 : -(100 * kd) ≤ kn) (h3 : kn ≤ 100 * kd) :
    Calls Try.prog 63 #[.agg #[.int .i64 p, .int .i64 q], .agg #[.int .i64 kn, .int .i64 kd], .int .i64 b] w (fun r w' => ∃ L H, PowOk b p q kn kd L H ∧ PairAns w b 250 L H 0 r w') := by
  have HR := hide hr
  have HRK := hide hrk
  have d2 := within_t (p := p) (q := q) (n := 16) (by have := hr.2.2.1; omega) h0
  have d3 := within_t (p := kn) (q := kd) (n := 100) h2 h3
  have hq : 0 < q := by have := hr.2.2.1; omega
  obtain ⟨l0, hl0⟩ := log_ex hp hq
  have HL0 := hide hl0
  have HH := hide (And.intro h2 h3)
  have HG := hide (And.intro h0 h1)
  clear h2 h3 hl0
  obtain ⟨W, hW⟩ : ∃ W, W = ((w.alloc (.cells #[.int .i64 p, .int .i64 q] 28)).alloc (.cells #[.int .i64 kn, .int .i64 kd] 28)).alloc (.cells #[.bool false, .slice none 0 0, .bool false, .slice none 0 0, .int .i64 0] 26) := ⟨_, rfl⟩
  have st : ExS w W p q kn kd := by
    rw [hW]
    exact ⟨⟨by simp [go_sem], by simp [go_sem]⟩, fun o => by simp [go_sem], ⟨by simp [go_sem], by simp [go_sem]⟩, fun o => by simp [go_sem], ⟨by simp [go_sem], by simp [go_sem], by simp [go_sem], by simp [go_sem], by simp [go_sem], fun o => by simp [go_sem]⟩, bl3 _ _ _ _⟩
  have hsz : W.heap.size = w.heap.size + 1 + 1 + 1 := by rw [hW]; simp
  have d1 : ratE2 p q kn kd (b : Int) = 0 := by unfold ratE2; rw [if_pos]; exact ⟨⟨hr, hrk⟩, by omega, by omega⟩
  obtain ⟨r1, r2, r3, r4⟩ := hr
  obtain ⟨s1, s2, s3, s4⟩ := hrk
  have hp' : ¬ p ≤ 0 := by omega
  go_enter Try.func63, Try.ntmps63
  go_wp2_with fail
  rw [← hW]
  clear hW
  refine (ratioFault2 (b : Int) W _ hsz p q kn kd _ _).mono ?_
  rintro r' w1 ⟨rfl, hb1⟩
  rw [d1]
  replace st := st.below hb1
  clear hb1 hsz
  have lr := st.r.lt
  have lk := st.k.lt
  have lR := st.no.lt
  obtain ⟨x0, x1⟩ := st.r
  obtain ⟨y0, y1⟩ := st.k
  go_wp2_with fail
  refine (within_any p q 16 _ (by omega) (by omega) r3 r4).mono ?_
  rintro r' w2 ⟨rfl, hb2⟩
  rw [d2]
  replace st := st.below hb2
  clear hb2 x0 x1 y0 y1 lr lk lR
  have lr := st.r.lt
  have lk := st.k.lt
  have lR := st.no.lt
  obtain ⟨x0, x1⟩ := st.r
  obtain ⟨y0, y1⟩ := st.k
  go_wp2_with fail
  refine (within_any kn kd 100 _ (by omega) (by omega) s3 s4).mono ?_
  rintro r' w3 ⟨rfl, hb3⟩
  rw [d3]
  replace st := st.below hb3
  clear hb3 x0 x1 y0 y1 lr lk lR
  have lr := st.r.lt
  have lk := st.k.lt
  have lR := st.no.lt
  obtain ⟨x0, x1⟩ := st.r
  obtain ⟨y0, y1⟩ := st.k
  go_wp2_with fail
  refine (exact_any p q kn kd b _ (unhide HR) (unhide HRK) h6 hp (unhide HG).1 (unhide HG).2 (unhide HH).1 (unhide HH).2).mono ?_
  rintro r' w4 ⟨ok, s, rfl, hok, hb4⟩
  replace st := st.below hb4
  clear hb4 x0 x1 y0 y1 lr lk lR
  obtain ⟨V, hV⟩ : ∃ V, V = w4.alloc (.cells #[.bool s.ln, .slice s.la s.lN s.lc, .bool s.hn, .slice s.ha s.hN s.hc, .int .i64 s.bits] 26) := ⟨_, rfl⟩
  have bV : Below w4.heap.size w4 V := by rw [hV]; exact bl1 _ _
  have SV : SpC V w4.heap.size s := by rw [hV]; exact ⟨by simp, by simp, by simp, by simp, by simp⟩
  have HOK := hide hok
  have lR0 := st.no.lt
  have stw := st
  replace st := st.below bV
  have lr := st.r.lt
  have lk := st.k.lt
  have lR := st.no.lt
  have lS := SV.lt
  have nS : w4.heap.size ≠ w.heap.size + 1 + 1 := by omega
  have nS' : w.heap.size + 1 + 1 ≠ w4.heap.size := by omega
  cases ok
  · clear hok
    go_wp2_with fail
    rw [← hV]
    clear hV SV lS nS nS'
    refine (sure_ppow _ _ b 1728 500 (ExpPr (fun M => (kn : Rat) / (kd : Rat) * l0 M) 1728 (eb 17)) _ h6 (by omega) (by omega) (exp_ends _ _ _ _ (by rw [eb_17]; omega)) (fun m w' hm hm2 hbw => ?_)).mono ?_
    · have eB : ((b : Int) + (m : Int)) = ((b + m : Nat) : Int) := by omega
      rw [eB]
      refine (pow1_iv w' (w.heap.size + 1) w.heap.size p q kn kd (b + m) l0 (unhide HR) (unhide HRK) (st.k.below hbw) (st.r.below hbw) (by omega) (by omega) hp (unhide HG).1 (unhide HG).2 (unhide HH).1 (unhide HH).2 (unhide HL0)).mono ?_
      rintro r' w'' ⟨z, t, N, g1, g2, g3, g4, g5, g6, h⟩
      exact ⟨_, _, exp_pr2 h6 hm (by omega) g1 g2 g3 g4 g5 g6, h⟩
    rintro r' w5 ⟨L, H, hLH, u, rfl, hub, hup, hb5⟩
    replace st := st.below hb5
    have HLH := hide (powOk_sure (unhide HL0) hLH)
    have HU := hide hub
    clear hub hLH
    have hBf := st.be
    obtain ⟨q0, q1, q2, q3, q4, q5⟩ := st.no
    clear st
    go_wp2_with fail
    refine bodyPost_ret (v := .tuple #[.agg #[.bool u.ln, .slice u.la u.lN u.lc, .bool u.hn, .slice u.ha u.hN u.hc, .int .i64 u.bits], .int .i64 0]) (by simp [results, Try.results63, go_sem, q0, q1, q2, q3, q4]) rfl ⟨L, H, unhide HLH, u, rfl, unhide HU, ?_, ?_⟩
    · exact SpAt.put5 hup q0 q1 q2 q3 q4 _ _ _ _ _
    · exact set5 hBf (by omega) _ _ _ _ _
  · obtain ⟨N, D, hpe, hsb, hsp⟩ := hok rfl
    have HPE := hide hpe
    have HSB := hide hsb
    clear hok HOK hpe hsb
    obtain ⟨q0, q1, q2, q3, q4, q5⟩ := stw.no
    clear SV
    have hBf := stw.be
    clear hV st stw
    go_wp2_with fail
    obtain ⟨U, hU⟩ : ∃ U, U = put5w w4 (w.heap.size + 1 + 1) s := ⟨_, rfl⟩
    have zz : SpC U (w.heap.size + 1 + 1) s := by rw [hU]; exact (VrC.put (s := ⟨false, none, 0, 0, false, none, 0, 0, 0⟩) ⟨⟨q0, q1, q2, q3, q4⟩, q5⟩ s).c
    have hsU : SpAt U s 250 (ofI N D b).1 (ofI N D b).2 := by rw [hU]; exact SpAt.put5 hsp q0 q1 q2 q3 q4 _ _ _ _ _
    have bU : Below w.heap.size w U := by rw [hU]; exact set5 hBf (by omega) _ _ _ _ _
    unfold put5w at hU
    rw [← hU]
    clear hU q0 q1 q2 q3 q4 q5
    have lz := zz.lt
    obtain ⟨z0, z1, z2, z3, z4⟩ := zz
    exact bodyPost_ret (v := .tuple #[.agg #[.bool s.ln, .slice s.la s.lN s.lc, .bool s.hn, .slice s.ha s.hN s.hc, .int .i64 s.bits], .int .i64 0]) (by simp [results, Try.results63, go_sem, z0, z1, z2, z3, z4, lz]) rfl ⟨_, _, powOk_exact (unhide HPE), s, rfl, unhide HSB, hsU.below (bl1 _ _), balloc bU _⟩
end Go.Proofs.Ytgmnknmjainabaa

namespace Go.Proofs.Ytgmnknmjainabaa
set_option linter.unusedVariables false
set_option linter.unusedSimpArgs false
set_option linter.unnecessarySimpa false
open Go.RowKit
attribute [local go_sem ↓] Go.wp_at_zero Go.wp_at_succ

theorem NoC.vr {w : World} {B : Nat} (h : NoC w B) (u : Sp) : VrC (put5w w B u) B u := by
  refine ⟨?_, fz_put5 h.fz u⟩
  obtain ⟨q0, q1, q2, q3, q4, q5⟩ := h
  constructor <;> simp [go_sem, q0, q1, q2, q3, q4]
theorem NoC.spat {w : World} {B : Nat} (h : NoC w B) {s : Sp} {k : Nat} {lo hi : Int} (hs : SpAt w s k lo hi) (u : Sp) : SpAt (put5w w B u) s k lo hi := SpAt.put5 hs h.c0 h.c1 h.c2 h.c3 h.c4 _ _ _ _ _
/-- Two variables that were made behind world W. -/
def TwoP (W wx : World) (b k1 k2 : Nat) (a c : Int × Int) (p q : Value) : Prop :=
  ∃ (B B' : Nat) (x y : Sp), p = .pointer (some ⟨B, 0, none⟩) ∧ q = .pointer (some ⟨B', 0, none⟩) ∧ W.heap.size ≤ B ∧ W.heap.size ≤ B' ∧ B ≠ B' ∧ VrC wx B x ∧ VrC wx B' y ∧ SpAt wx x k1 a.1 a.2 ∧ SpAt wx y k2 c.1 c.2 ∧ x.bits = (b : Int) ∧ y.bits = (b : Int) ∧ Below W.heap.size W wx
theorem vr_new (w : World) (x : Sp) (T : TypeId) : VrC (w.alloc (.cells #[.bool x.ln, .slice x.la x.lN x.lc, .bool x.hn, .slice x.ha x.hN x.hc, .int .i64 x.bits] T)) w.heap.size x := ⟨spc_new w x T, fun o => by simp [go_sem]⟩
theorem vr_new' (w : World) (B : Nat) (hB : w.heap.size = B) (x : Sp) (T : TypeId) : VrC (w.alloc (.cells #[.bool x.ln, .slice x.la x.lN x.lc, .bool x.hn, .slice x.ha x.hN x.hc, .int .i64 x.bits] T)) B x := by subst hB; exact vr_new w x T
variable {W w2 : World} {b k1 k2 : Nat} {a c : Int × Int} {x y : Sp} {T : TypeId}
theorem twoP_aa (hb : Below W.heap.size W w2) (ix : SpAt w2 x k1 a.1 a.2) (iy : SpAt w2 y k2 c.1 c.2) (bx : x.bits = (b : Int)) (by_ : y.bits = (b : Int)) :
    TwoP W ((w2.alloc (.cells #[.bool x.ln, .slice x.la x.lN x.lc, .bool x.hn, .slice x.ha x.hN x.hc, .int .i64 x.bits] T)).alloc (.cells #[.bool y.ln, .slice y.la y.lN y.lc, .bool y.hn, .slice y.ha y.hN y.hc, .int .i64 y.bits] T)) b k1 k2 a c (.pointer (some ⟨w2.heap.size, 0, none⟩)) (.pointer (some ⟨w2.heap.size + 1, 0, none⟩)) :=
  ⟨_, _, x, y, rfl, rfl, hb.size, Nat.le_succ_of_le hb.size, Nat.ne_of_lt (Nat.lt_succ_self _), (vr_new w2 x T).below (bl1 _ _), vr_new' _ _ (by simp) y T, ix.below (bl2 _ _ _), iy.below (bl2 _ _ _), bx, by_, bthen hb (bl2 _ _ _)⟩
theorem TwoP.swap {wx : World} {p q : Value} (h : TwoP W wx b k1 k2 a c p q) : TwoP W wx b k2 k1 c a q p := by
  obtain ⟨B, B', x, y, h1, h2, h3, h4, h5, h6, h7, h8, h9, h10, h11, h12⟩ := h
  exact ⟨B', B, y, x, h2, h1, h4, h3, fun e => h5 e.symm, h7, h6, h9, h8, h11, h10, h12⟩
theorem twoP_aa' (hb : Below W.heap.size W w2) (ix : SpAt w2 x k1 a.1 a.2) (iy : SpAt w2 y k2 c.1 c.2) (bx : x.bits = (b : Int)) (by_ : y.bits = (b : Int)) :
    TwoP W ((w2.alloc (.cells #[.bool y.ln, .slice y.la y.lN y.lc, .bool y.hn, .slice y.ha y.hN y.hc, .int .i64 y.bits] T)).alloc (.cells #[.bool x.ln, .slice x.la x.lN x.lc, .bool x.hn, .slice x.ha x.hN x.hc, .int .i64 x.bits] T)) b k1 k2 a c (.pointer (some ⟨w2.heap.size + 1, 0, none⟩)) (.pointer (some ⟨w2.heap.size, 0, none⟩)) := (twoP_aa hb iy ix by_ bx).swap
theorem twoP_sa {B : Nat} (hb : Below W.heap.size W w2) (ix : SpAt w2 x k1 a.1 a.2) (iy : SpAt w2 y k2 c.1 c.2) (bx : x.bits = (b : Int)) (by_ : y.bits = (b : Int)) (g : NoC w2 B) (h1 : W.heap.size ≤ B) :
    TwoP W ((put5w w2 B x).alloc (.cells #[.bool y.ln, .slice y.la y.lN y.lc, .bool y.hn, .slice y.ha y.hN y.hc, .int .i64 y.bits] T)) b k1 k2 a c (.pointer (some ⟨B, 0, none⟩)) (.pointer (some ⟨w2.heap.size, 0, none⟩)) := by
  have hx := g.vr x
  have ix' := g.spat ix x
  have iy' := g.spat iy x
  have hl := g.lt
  have hs := size_put w2 B x
  have hb' := below_put hb h1 x
  generalize put5w w2 B x = V at *
  rw [← hs]
  exact ⟨_, _, x, y, rfl, rfl, h1, hb'.size, by omega, hx.below (bl1 _ _), vr_new V y T, ix'.below (bl1 _ _), iy'.below (bl1 _ _), bx, by_, bthen hb' (bl1 _ _)⟩
theorem twoP_as {B : Nat} (hb : Below W.heap.size W w2) (ix : SpAt w2 x k1 a.1 a.2) (iy : SpAt w2 y k2 c.1 c.2) (bx : x.bits = (b : Int)) (by_ : y.bits = (b : Int)) (g : NoC w2 B) (h1 : W.heap.size ≤ B) :
    TwoP W ((put5w w2 B y).alloc (.cells #[.bool x.ln, .slice x.la x.lN x.lc, .bool x.hn, .slice x.ha x.hN x.hc, .int .i64 x.bits] T)) b k1 k2 a c (.pointer (some ⟨w2.heap.size, 0, none⟩)) (.pointer (some ⟨B, 0, none⟩)) := (twoP_sa hb iy ix by_ bx g h1).swap
theorem twoP_ss {B B' : Nat} (hb : Below W.heap.size W w2) (ix : SpAt w2 x k1 a.1 a.2) (iy : SpAt w2 y k2 c.1 c.2) (bx : x.bits = (b : Int)) (by_ : y.bits = (b : Int)) (g : NoC w2 B) (g' : NoC w2 B') (h1 : W.heap.size ≤ B) (h2 : W.heap.size ≤ B') (hne : B ≠ B') :
    TwoP W (put5w (put5w w2 B x) B' y) b k1 k2 a c (.pointer (some ⟨B, 0, none⟩)) (.pointer (some ⟨B', 0, none⟩)) := by
  have hx := g.vr x
  have ix' := g.spat ix x
  have iy' := g.spat iy x
  have g2 := g'.off (Ne.symm hne) x
  have hb' := below_put hb h1 x
  generalize put5w w2 B x = V at *
  exact ⟨_, _, x, y, rfl, rfl, h1, h2, hne, hx.off hne y, g2.vr y, g2.spat ix' y, g2.spat iy' y, bx, by_, below_put hb' h2 y⟩
end Go.Proofs.Ytgmnknmjainabaa

namespace Go.Proofs.Ytgmnknmjainabaa
set_option linter.unusedVariables false
set_option linter.unusedSimpArgs false
set_option linter.unnecessarySimpa false
open Go.RowKit
attribute [local go_sem ↓] Go.wp_at_zero Go.wp_at_succ

theorem refTimes_iv (w : World) (s t : Sp) (k b : Nat) (a c : Int × Int) (hs : SpAt w s k a.1 a.2) (ht : SpAt w t k c.1 c.2) (hk : k ≤ 300000000) (hb : s.bits = (b : Int)) (hbm : b ≤ 1000000) :
    Calls Try.prog 36 #[.agg #[.bool s.ln, .slice s.la s.lN s.lc, .bool s.hn, .slice s.ha s.hN s.hc, .int .i64 s.bits], .agg #[.bool t.ln, .slice t.la t.lN t.lc, .bool t.hn, .slice t.ha t.hN t.hc, .int .i64 t.bits]] w (SpanAns w b (k + k + 8) (mulI b a c).1 (mulI b a c).2) :=
  (refTimes_int w s t k a.1 a.2 c.1 c.2 hs ht hk (by omega) (by omega)).mono fun r w' h => by
    rw [hb, downZ_nat, downZ_nat] at h; exact h
theorem refPlus_iv (w : World) (s t : Sp) (k b : Nat) (a c : Int × Int) (hs : SpAt w s k a.1 a.2) (ht : SpAt w t k c.1 c.2) (hk : k ≤ 700000000) (hb : s.bits = (b : Int)) :
    Calls Try.prog 34 #[.agg #[.bool s.ln, .slice s.la s.lN s.lc, .bool s.hn, .slice s.ha s.hN s.hc, .int .i64 s.bits], .agg #[.bool t.ln, .slice t.la t.lN t.lc, .bool t.hn, .slice t.ha t.hN t.hc, .int .i64 t.bits]] w (SpanAns w b (k + 1) (addI a c).1 (addI a c).2) :=
  (refPlus_int w s t k a.1 a.2 c.1 c.2 hs ht hk).mono fun r w' h => by rw [hb] at h; exact h
theorem small_reach {lo hi : Int} : smallB lo hi 1 = decide (reachI (lo, hi) ≤ 1) := by
  unfold smallB reachI maxZ
  rw [Bool.eq_iff_iff, Bool.and_eq_true, decide_eq_true_iff, decide_eq_true_iff, decide_eq_true_iff]
  simp only []
  split <;> omega
/-- Where tailsureref.lowExp is behind some rounds. -/
structure LowSt (w wr : World) (B5 B6 B7 b K : Nat) (U Pp Sm : Sp) (f : Nat → Int × Int) (X : Int) (i : Nat) : Prop where
  u : VrC wr B5 U
  p : VrC wr B6 Pp
  s : VrC wr B7 Sm
  up : SpAt wr U K (f i).1 (f i).2
  pp : SpAt wr Pp K X X
  sp : SpAt wr Sm K (sumI f i).1 (sumI f i).2
  ub : U.bits = (b : Int)
  pb : Pp.bits = (b : Int)
  sb : Sm.bits = (b : Int)
  no : NoC wr (w.heap.size + 1)
  be : Below w.heap.size w wr
  l5 : w.heap.size + 1 < B5
  l6 : w.heap.size + 1 < B6
  l7 : w.heap.size + 1 < B7
  n56 : B5 ≠ B6
  n57 : B5 ≠ B7
  n67 : B6 ≠ B7
theorem LowSt.below {w wr wr' : World} {B5 B6 B7 b K : Nat} {U Pp Sm : Sp} {f : Nat → Int × Int} {X : Int} {i : Nat} (h : LowSt w wr B5 B6 B7 b K U Pp Sm f X i) (hb : Below wr.heap.size wr wr') : LowSt w wr' B5 B6 B7 b K U Pp Sm f X i :=
  ⟨h.u.below hb, h.p.below hb, h.s.below hb, h.up.below hb, h.pp.below hb, h.sp.below hb, h.ub, h.pb, h.sb, h.no.below hb, bthen h.be hb, h.l5, h.l6, h.l7, h.n56, h.n57, h.n67⟩

set_option maxRecDepth 100000 in
set_option maxHeartbeats 4000000 in
theorem lowExp_iv (w : World) (x : Nm) (k b N K : Nat) (X : Int) (hx : IntAt w x.neg x.a x.n x.cap k X) (hkK : k ≤ K) (h0 : 0 ≤ X) (h1 : X ≤ Q b) (hb : b ≤ 100000) (hN : LowStop (expT b (X, X)) N) (hNb : N ≤ b + 4) (hK : Q (b + 20) < P K) (hK2 : K ≤ 10000000) (hK3 : b / 16 + 18 ≤ K) :
    Calls Try.prog 140 #[.agg #[.bool x.neg, .slice x.a x.n x.cap], .int .i64 b] w (SpanAns w b (K + 1) (doneT (expT b (X, X)) N).1 (doneT (expT b (X, X)) N).2) := by
  obtain ⟨W, hW⟩ : ∃ W, W = (w.alloc (.cells #[.bool x.neg, .slice x.a x.n x.cap] 24)).alloc (.cells #[.bool false, .slice none 0 0, .bool false, .slice none 0 0, .int .i64 0] 38) := ⟨_, rfl⟩
  have hBW : Below w.heap.size w W := by rw [hW]; exact bl2 _ _ _
  have A : NmC W w.heap.size x := by rw [hW]; exact ⟨by simp [go_sem], by simp [go_sem]⟩
  have R : NoC W (w.heap.size + 1) := by rw [hW]; exact ⟨by simp [go_sem], by simp [go_sem], by simp [go_sem], by simp [go_sem], by simp [go_sem], fun o => by simp [go_sem]⟩
  have HX := hide ((hx.below hBW).mono hkK)
  have lR := R.lt
  have hQb := Q_pos b
  have hQK : Q b * 1048576 < P K := by
    have e : Q (b + 20) = Q b * Q 20 := Q_add b 20
    have e2 : Q 20 = 1048576 := rfl
    rw [e, e2] at hK; exact hK
  have HFIT : Hid (∀ j, j ≤ N → -P K < (expT b (X, X) j).1 ∧ (expT b (X, X) j).2 < P K) := hide (fun j _ => by
    obtain ⟨g1, g2, g3, g4⟩ := low_absB h0 h1 j
    omega)
  have HFITS : Hid (∀ j, j ≤ N → -P K < (sumI (expT b (X, X)) j).1 ∧ (sumI (expT b (X, X)) j).2 < P K) := hide (fun j hj => by
    obtain ⟨g1, g2, g3, g4⟩ := low_sumabs h0 h1 j
    have := Int.mul_le_mul_of_nonneg_right (show (j : Int) + 1 ≤ 1048575 by omega) (show 0 ≤ Q b by omega)
    omega)
  have HN := hide hN
  have HK := hide (show ∀ w', Below W.heap.size W w' → (w'.cell? ⟨w.heap.size, 0, none⟩ = some (.bool x.neg) ∧ w'.cell? ⟨w.heap.size, 1, none⟩ = some (.slice x.a x.n x.cap)) from fun w' hB => ⟨(A.below hB).c0, (A.below hB).c1⟩)
  clear hx hN hQK
  go_enter Try.func140, Try.ntmps140
  go_wp2
  rw [← hW]
  clear hW
  obtain ⟨x0, x1⟩ := unhide HK _ (Below.refl _ _)
  go_cut [5, 6] (fun p q wx => TwoP W wx b K K (expT b (X, X) 0) (X, X) p q)
  case first =>
    go_region_held3 (fun w' => w'.cell? ⟨w.heap.size, 0, none⟩ = some (.bool x.neg) ∧ w'.cell? ⟨w.heap.size, 1, none⟩ = some (.slice x.a x.n x.cap)) (exact unhide HK _ (by repeat' (first | with_reducible exact hBU1 | with_reducible exact Below.refl _ _ | with_reducible refine Below.drew ?_ | with_reducible refine balloc ?_ _ | with_reducible refine Below.setCell ?_ (by first | with_reducible exact Nat.le_refl _ | with_reducible exact Nat.le_succ _ | with_reducible exact hlU1 | with_reducible exact Nat.le_succ_of_le hlU1) _)))
      (first
        | (go_at_call 118; refine (refWhole _ 1 b hb (by decide) (by decide)).mono ?_; rintro r wU1 ⟨vU1, rfl, hvbU1, hintU1, hbU1⟩; have HVBU1 := hide hvbU1; clear hvbU1; have hBU1 : Below W.heap.size W wU1 := (by first | with_reducible exact bthen (Below.refl _ _).drew hbU1 | with_reducible exact bthen (bl1 _ _).drew hbU1 | with_reducible exact bthen (bl2 _ _ _).drew hbU1); (first | with_reducible have gaU1 := ((noc_new W 38).below (Below.refl _ _).drew).below hbU1 | with_reducible have gaU1 := ((noc_new W 38).below (bl1 _ _).drew).below hbU1 | skip); (try with_reducible have gbU1 := ((noc_new' (W.alloc _) (W.heap.size + 1) (hs1 _ _) 38).below (Below.refl _ _).drew).below hbU1); have hlU1 := hBU1.size; (try have eaU1 := gaU1); (try obtain ⟨zaU10, zaU11, zaU12, zaU13, zaU14, zaU15⟩ := eaU1); (try have yaU1 := gaU1.lt); (try have ebU1 := gbU1); (try obtain ⟨zbU10, zbU11, zbU12, zbU13, zbU14, zbU15⟩ := ebU1); (try have ybU1 := gbU1.lt)))
    all_goals
      have hiXU := (show SpAt wU1 vU1 K (expT b (X, X) 0).1 (expT b (X, X) 0).2 by rw [show (expT b (X, X) 0).1 = 1 * Q b from (Int.one_mul _).symm, show (expT b (X, X) 0).2 = 1 * Q b from (Int.one_mul _).symm]; exact hintU1.mono hK3)
      have hiYU := (show SpAt wU1 ⟨x.neg, x.a, x.n, x.cap, x.neg, x.a, x.n, x.cap, (b : Int)⟩ K X X from ⟨(unhide HX).below hBU1, (unhide HX).below hBU1⟩)
      go_wp2_with fail
      go_meet
      first
        | with_reducible exact twoP_aa (x := vU1) (y := ⟨x.neg, x.a, x.n, x.cap, x.neg, x.a, x.n, x.cap, (b : Int)⟩) hBU1 hiXU hiYU (unhide HVBU1) rfl
        | with_reducible exact twoP_aa' (x := vU1) (y := ⟨x.neg, x.a, x.n, x.cap, x.neg, x.a, x.n, x.cap, (b : Int)⟩) hBU1 hiXU hiYU (unhide HVBU1) rfl
        | with_reducible exact twoP_sa (x := vU1) (y := ⟨x.neg, x.a, x.n, x.cap, x.neg, x.a, x.n, x.cap, (b : Int)⟩) hBU1 hiXU hiYU (unhide HVBU1) rfl (by assumption) (by first | with_reducible exact Nat.le_refl _ | with_reducible exact Nat.le_succ _ | with_reducible exact hlU1 | with_reducible exact Nat.le_succ_of_le hlU1)
        | with_reducible exact twoP_as (x := vU1) (y := ⟨x.neg, x.a, x.n, x.cap, x.neg, x.a, x.n, x.cap, (b : Int)⟩) hBU1 hiXU hiYU (unhide HVBU1) rfl (by assumption) (by first | with_reducible exact Nat.le_refl _ | with_reducible exact Nat.le_succ _ | with_reducible exact hlU1 | with_reducible exact Nat.le_succ_of_le hlU1)
        | with_reducible exact twoP_ss (x := vU1) (y := ⟨x.neg, x.a, x.n, x.cap, x.neg, x.a, x.n, x.cap, (b : Int)⟩) hBU1 hiXU hiYU (unhide HVBU1) rfl (by assumption) (by assumption) (by first | with_reducible exact Nat.le_refl _ | with_reducible exact Nat.le_succ _ | with_reducible exact hlU1 | with_reducible exact Nat.le_succ_of_le hlU1) (by first | with_reducible exact Nat.le_refl _ | with_reducible exact Nat.le_succ _ | with_reducible exact hlU1 | with_reducible exact Nat.le_succ_of_le hlU1) (by omega)
  case rest =>
  obtain ⟨BU, CU, xU, yU, rfl, rfl, hHU, hJU, hneU, XU, YU, hxU, hyU, bxU, byU, hblU⟩ := hcut
  replace R := R.below hblU
  replace hBW := bthen hBW hblU
  have lx := XU.lt
  have ly := YU.lt
  have lR2 := R.lt
  obtain ⟨⟨y0, y1, y2, y3, y4⟩, y5⟩ := XU
  have XU : VrC wc BU xU := ⟨⟨y0, y1, y2, y3, y4⟩, y5⟩
  have st0 : LowSt w (wc.alloc (.cells #[.bool xU.ln, .slice xU.la xU.lN xU.lc, .bool xU.hn, .slice xU.ha xU.hN xU.hc, .int .i64 xU.bits] 38)) BU CU wc.heap.size b K xU yU xU (expT b (X, X)) X 0 := ⟨XU.below (bl1 _ _), YU.below (bl1 _ _), vr_new wc xU _, hxU.below (bl1 _ _), hyU.below (bl1 _ _), hxU.below (bl1 _ _), bxU, byU, bxU, R.below (bl1 _ _), balloc hBW _, by omega, by omega, by omega, hneU, by omega, by omega⟩
  have HBX := hide bxU
  clear bxU byU hxU hyU HX HK A x0 x1
  go_wp2_with fail
  go_loopw [8] (fun nn wr => ∃ (i : Nat) (U Pp Sm : Sp), nn = .int .i64 ((i : Int) + 1) ∧ i < N ∧ LowSt w wr BU CU wc.heap.size b K U Pp Sm (expT b (X, X)) X i) (fun nn _ => N + 1 - (intOf nn).toNat)
  case atStart => exact ⟨0, xU, yU, xU, rfl, by have := (unhide HN).1; omega, st0⟩
  case round =>
    obtain ⟨i, U, Pp, Sm, rfl, hi, st⟩ := hrel
    have hlim : (i : Int) + 1 < 3 * (b : Int) + 20 := by omega
    clear y0 y1 y2 y3 y4 y5 XU
    obtain ⟨⟨y0, y1, y2, y3, y4⟩, y5⟩ := st.u
    obtain ⟨⟨z0, z1, z2, z3, z4⟩, z5⟩ := st.p
    go_wp2_with fail
    refine (refTimes_iv _ U Pp K b (expT b (X, X) i) (X, X) st.up st.pp (by omega) st.ub (by omega)).mono ?_
    rintro r w1 ⟨v1, rfl, hvb1, hvp1, hb1⟩
    replace st := st.below hb1
    have HV1 := hide hvb1
    clear hb1 hvb1 y0 y1 y2 y3 y4 y5 z0 z1 z2 z3 z4 z5
    go_wp2_with fail
    refine (numOf_int 1 _ (by decide) (by decide)).mono ?_
    rintro r w2 ⟨neg2, a2, n2, c2, rfl, hint2, hb2⟩
    replace st := st.below hb2
    replace hvp1 := hvp1.below hb2
    clear hb2
    go_wp2_with fail
    refine (numOf_int ((i : Int) + 1) _ (by omega) (by omega)).mono ?_
    rintro r w3 ⟨neg3, a3, n3, c3, rfl, hint3, hb3⟩
    replace st := st.below hb3
    replace hvp1 := hvp1.below hb3
    replace hint2 := hint2.below hb3
    clear hb3
    go_wp2_with fail
    refine (refBy _ v1 ⟨neg2, a2, n2, c2⟩ ⟨neg3, a3, n3, c3⟩ _ _ _ b _ 1 ((i : Int) + 1) hvp1 hint2 hint3 (by omega) (by omega) (by omega) (by omega) (unhide HV1)).mono ?_
    rintro r w4 ⟨v4, rfl, hvb4, hvp4, hb4⟩
    rw [byI_nonneg (mulI_le b) (by omega)] at hvp4
    have e4 : scaleI (mulI b (expT b (X, X) i) (X, X)) 1 ((i : Int) + 1) = expT b (X, X) (i + 1) := rfl
    rw [e4] at hvp4
    replace hvp4 := hvp4.fits (K := K) (expT_le b (X, X) _) (unhide HFIT _ (by omega)).1 (unhide HFIT _ (by omega)).2
    replace st := st.below hb4
    have HV4 := hide hvb4
    clear hb4 hvb4 hvp1 hint2 hint3 e4
    obtain ⟨V4, hV4⟩ : ∃ V4, V4 = put5w w4 BU v4 := ⟨_, rfl⟩
    have U4 : VrC V4 BU v4 := by rw [hV4]; exact st.u.put v4
    have P4 : VrC V4 CU Pp := by rw [hV4]; exact st.p.off (Ne.symm st.n56) v4
    have S4 : VrC V4 wc.heap.size Sm := by rw [hV4]; exact st.s.off (Ne.symm st.n57) v4
    have up4 : SpAt V4 v4 K (expT b (X, X) (i + 1)).1 (expT b (X, X) (i + 1)).2 := by rw [hV4]; exact hvp4.put st.u.c v4
    have pp4 : SpAt V4 Pp K X X := by rw [hV4]; exact st.pp.put st.u.c v4
    have sp4 : SpAt V4 Sm K (sumI (expT b (X, X)) i).1 (sumI (expT b (X, X)) i).2 := by rw [hV4]; exact st.sp.put st.u.c v4
    have R4 : NoC V4 (w.heap.size + 1) := by rw [hV4]; exact st.no.off (by have := st.l5; omega) v4
    have B4 : Below w.heap.size w V4 := by rw [hV4]; exact below_put st.be (by have := st.l5; omega) v4
    have hpb := hide st.pb
    have hsb := hide st.sb
    have l5 := st.l5
    have l6 := st.l6
    have l7 := st.l7
    have n56 := st.n56
    have n57 := st.n57
    have n67 := st.n67
    have lu := st.u.lt
    have ls := st.s.lt
    obtain ⟨⟨y0, y1, y2, y3, y4⟩, y5⟩ := st.u
    obtain ⟨⟨z0, z1, z2, z3, z4⟩, z5⟩ := st.s
    clear st hvp4
    go_wp2_with fail
    have hV4' : V4 = put5w w4 BU v4 := hV4
    unfold put5w at hV4'
    rw [← hV4']
    clear hV4' hV4 y0 y1 y2 y3 y4 y5 z0 z1 z2 z3 z4 z5
    refine (refPlus_iv _ Sm v4 K b (sumI (expT b (X, X)) i) (expT b (X, X) (i + 1)) sp4 up4 (by omega) (unhide hsb)).mono ?_
    rintro r w5 ⟨v5, rfl, hvb5, hvp5, hb5⟩
    have e5 : addI (sumI (expT b (X, X)) i) (expT b (X, X) (i + 1)) = sumI (expT b (X, X)) (i + 1) := rfl
    rw [e5] at hvp5
    replace hvp5 := hvp5.fits (K := K) (sum_le (expT_le b (X, X)) _) (unhide HFITS _ (by omega)).1 (unhide HFITS _ (by omega)).2
    have U5 := U4.below hb5
    have P5 := P4.below hb5
    have S5 := S4.below hb5
    have up5 := up4.below hb5
    have pp5 := pp4.below hb5
    have R5 := R4.below hb5
    have B5 := bthen B4 hb5
    have HV5 := hide hvb5
    clear hb5 hvb5 U4 P4 S4 up4 pp4 sp4 R4 B4 e5
    have stn : LowSt w (put5w w5 wc.heap.size v5) BU CU wc.heap.size b K v4 Pp v5 (expT b (X, X)) X (i + 1) := ⟨U5.off n57 v5, P5.off n67 v5, S5.put v5, up5.put S5.c v5, pp5.put S5.c v5, hvp5.put S5.c v5, unhide HV4, unhide hpb, unhide HV5, R5.off (by omega) v5, below_put B5 (by omega) v5, l5, l6, l7, n56, n57, n67⟩
    have lu5 := U5.lt
    have ls5 := S5.lt
    obtain ⟨⟨y0, y1, y2, y3, y4⟩, y5⟩ := U5
    obtain ⟨⟨z0, z1, z2, z3, z4⟩, z5⟩ := S5
    clear P5 up5 pp5 R5 B5 hvp5
    obtain ⟨V5, hV5⟩ : ∃ V5, V5 = put5w w5 wc.heap.size v5 := ⟨_, rfl⟩
    rw [← hV5] at stn
    unfold put5w at hV5
    go_wp2_with fail
    rw [← hV5]
    clear hV5 y0 y1 y2 y3 y4 y5 z0 z1 z2 z3 z4 z5
    refine (refSmall _ v4 K 1 _ _ stn.up (by omega) (by omega)).mono ?_
    rintro r w6 ⟨rfl, hb6⟩
    rw [small_reach]
    replace stn := stn.below hb6
    clear hb6
    have er : reachI ((expT b (X, X) (i + 1)).1, (expT b (X, X) (i + 1)).2) = reachI (expT b (X, X) (i + 1)) := rfl
    rw [er]
    clear er
    by_cases hin : i + 1 < N
    · by_cases hr : reachI (expT b (X, X) (i + 1)) ≤ 1
      · have h3 : ¬ (2 : Int) < (i : Int) + 1 := by
          intro h3
          have := (unhide HN).2.2 (i + 1) (by omega) hin
          omega
        rw [decide_eq_true hr]
        clear hr
        go_wp2_with fail
        go_roundw
        case rel => exact ⟨i + 1, v4, Pp, v5, by go_num, hin, stn⟩
        case measure => simp [intOf]; omega
      · rw [decide_eq_false hr]
        clear hr
        go_wp2_with fail
        go_roundw
        case rel => exact ⟨i + 1, v4, Pp, v5, by go_num, hin, stn⟩
        case measure => simp [intOf]; omega
    · have hie : i + 1 = N := by omega
      have hr : reachI (expT b (X, X) (i + 1)) ≤ 1 := by rw [hie]; exact (unhide HN).2.1
      have h3 : (2 : Int) < (i : Int) + 1 := by have := (unhide HN).1; omega
      rw [decide_eq_true hr]
      have HIE := hide hie
      clear hr hie
      have ls6 := stn.s.lt
      obtain ⟨⟨z0, z1, z2, z3, z4⟩, z5⟩ := stn.s
      go_wp2_with fail
      refine (refTail _ v5 K 1 _ _ stn.sp (by omega) (by omega) (by omega) (by omega)).mono ?_
      rintro r w7 ⟨v7, rfl, hvb7, hvp7, hb7⟩
      obtain ⟨q0, q1, q2, q3, q4, q5⟩ := stn.no.below hb7
      have hBf := bthen stn.be hb7
      have HV7 := hide (hvb7.trans stn.sb)
      rw [unhide HIE] at hvp7
      clear hvb7 hb7
      go_wp2_with fail
      refine bodyPost_ret (v := .agg #[.bool v7.ln, .slice v7.la v7.lN v7.lc, .bool v7.hn, .slice v7.ha v7.hN v7.hc, .int .i64 v7.bits]) (by simp [results, Try.results140, go_sem, q0, q1, q2, q3, q4]) rfl ⟨v7, rfl, unhide HV7, ?_, ?_⟩
      · exact SpAt.put5 hvp7 q0 q1 q2 q3 q4 _ _ _ _ _
      · exact set5 hBf (Nat.le_succ _) _ _ _ _ _
end Go.Proofs.Ytgmnknmjainabaa
