/-
  What wide.Sure answers of what is made by the function literals of package errorf.
  What errorf.Erf and errorf.Erfc answer, errors too, and that they leave old memory alone.
  The error function of the opposite, of what is more; and what Erf and Erfc are together: told of their numbers. Plain arithmetic: no statement of the seat is proved here.
  Whether two spans touch (tailsureref.Touch), and that it leaves old memory alone.
  What tailsureref.lowExp answers, and that it leaves old memory alone.
  What tailsureref.Raised answers, and that it leaves old memory alone.
  tailsureref.Ready of a row of ratios; tailsurelaw.far; tailsurelaw.sure.
-/
import Derived.Test.YtgmnknmjainababK15
namespace Go.Proofs.Ytgmnknmjainabab
set_option linter.unusedVariables false
set_option linter.unusedSimpArgs false
set_option linter.unnecessarySimpa false
open Go.RowKit
attribute [local go_sem ↓] Go.wp_at_zero Go.wp_at_succ

set_option maxRecDepth 100000 in
set_option maxHeartbeats 4000000 in
theorem sure_erf (p1 : Value) (bits Kw KD : Nat) (Pr : Nat → Int → Int → Prop) (W : World) (hb : bits ≤ 120) (hKw : Kw ≤ 900000) (hKD : KD ≤ 100000000) (hE : SureEnds bits Kw Pr)
    (hF : ∀ (m : Nat) w', 32 ≤ m → m ≤ Kw + 120 → Below W.heap.size W w' → Calls Try.prog 42 #[.int .i64 ((bits : Int) + m), p1] w' (fun r w'' => ∃ lo hi, Pr (bits + m) lo hi ∧ SpanAns w' ((bits : Int) + m) KD lo hi r w'')) :
    Calls Try.prog 74 #[.int .i64 bits, .func (.func 42) #[] #[p1]] W (fun r w' => ∃ L H, SureOf bits Pr L H ∧ SpanAns W bits 250 L H r w') := by
  have HF := hide hF
  have HE := hide hE
  clear hF hE
  have hR0 := noc_new W 28
  go_enter Try.func74, Try.ntmps74
  go_wp2_with fail
  go_loopw [5, 6] (fun mm tt wr => ∃ m t : Nat, mm = .int .i64 (m : Int) ∧ tt = .int .i64 (t : Int) ∧ SureInv Kw m t ∧ NoC wr W.heap.size ∧ Below W.heap.size W wr) (fun mm _ _ => Kw + 200 - (intOf mm).toNat)
  case atStart => exact ⟨32, 1, rfl, rfl, ⟨Nat.le_refl _, Nat.le_refl _, by omega, Or.inl ⟨by omega, by omega⟩⟩, hR0, bl1 _ _⟩
  case round =>
    obtain ⟨m, t, rfl, rfl, hinv, R, hB⟩ := hrel
    obtain ⟨hm, ht, htm, hmt⟩ := hinv
    have hmK : m ≤ Kw + 120 := by omega
    have HI := hide hmt
    clear hmt
    go_wp2_with fail
    refine (unhide HF m _ hm hmK hB).mono ?_
    rintro r w1 ⟨lo, hi, hPr, s, rfl, hsb, hsp, hb1⟩
    replace R := R.below hb1
    replace hB := bthen hB hb1
    clear hb1
    obtain ⟨e1, e2, e3, e4⟩ := unhide HE m lo hi hPr
    obtain ⟨v1, v2, v3⟩ := to_width (m := m) e1 e2
    obtain ⟨f1, f2⟩ := to_fit e3 e4
    have HPr := hide hPr
    have HV := hide (And.intro v2 v3)
    have hs0 : 0 ≤ s.bits := by omega
    have hs1 : s.bits ≤ 1000000 := by omega
    have d1 : downZ lo (s.bits - bits) = lo / Q m := by unfold downZ; rw [hsb, if_pos (by omega)]; congr 2; omega
    have d2 : downZ (-hi) (s.bits - bits) = -hi / Q m := by unfold downZ; rw [hsb, if_pos (by omega)]; congr 2; omega
    have HD1 := hide d1
    have HD2 := hide d2
    clear hPr e1 e2 e3 e4 v2 v3 d1 d2 hsb
    go_wp2_with fail
    refine (wideTo_int _ s KD bits lo hi hsp (by omega) hs0 hs1 (by omega) (by omega)).mono ?_
    rintro r w2 ⟨u, rfl, hub, hup, hb2⟩
    rw [unhide HD1, unhide HD2] at hup
    obtain ⟨L, hL⟩ : ∃ L, L = lo / Q m := ⟨_, rfl⟩
    obtain ⟨H, hH⟩ : ∃ H, H = -(-hi / Q m) := ⟨_, rfl⟩
    rw [← hL, ← hH] at hup v1
    rw [← hL] at f1
    rw [← hH] at f2
    have HV2 := hide (show (Kw ≤ m → H - L ≤ 2) ∧ (m ≤ Kw → H - L ≤ Q (Kw - m) + 1) by rw [hL, hH]; exact unhide HV)
    have HL := hide hL
    have HH := hide hH
    replace hup := hup.fits (K := 250) (by omega) f1 f2
    replace R := R.below hb2
    replace hB := bthen hB hb2
    have HUB := hide hub
    clear hb2 hL hH hub hs0 hs1 HD1 HD2 HV hsp
    have lR := R.lt
    obtain ⟨V, hV⟩ : ∃ V, V = w2.alloc (.cells #[.bool u.ln, .slice u.la u.lN u.lc, .bool u.hn, .slice u.ha u.hN u.hc, .int .i64 u.bits] 28) := ⟨_, rfl⟩
    have bV : Below w2.heap.size w2 V := by rw [hV]; exact bl1 _ _
    have U : SpC V w2.heap.size u := by rw [hV]; exact ⟨by simp, by simp, by simp, by simp, by simp⟩
    replace R := R.below bV
    replace hB := bthen hB bV
    replace hup := hup.below bV
    clear bV
    go_wp2_with fail
    rw [← hV]
    clear hV
    refine (sub_int _ _ _ _ _ _ _ _ 250 250 H L _ hup.hi hup.lo (by omega) (by omega)).mono ?_
    rintro r w3 ⟨neg3, a3, n3, c3, rfl, hint3, hb3⟩
    replace U := U.below hb3
    replace R := R.below hb3
    replace hB := bthen hB hb3
    replace hup := hup.below hb3
    clear hb3
    go_wp2_with fail
    refine (len_int _ _ _ _ _ (H - L) _ hint3 v1).mono ?_
    rintro r w4 ⟨l, hlen, rfl, hb4⟩
    replace U := U.below hb4
    replace R := R.below hb4
    replace hB := bthen hB hb4
    replace hup := hup.below hb4
    clear hb4 hint3
    have hlb : 0 ≤ l ∧ l ≤ Kw + 2 ∧ (m ≤ Kw → l ≤ Kw - m + 2) ∧ (Kw ≤ m → l ≤ 2) := by
      obtain ⟨g1, g2⟩ := unhide HV2
      refine ⟨hlen.1, ?_, fun h => ?_, fun h => ?_⟩
      · rcases Nat.le_total m Kw with h | h
        · have := len_bd (K := Kw - m) hlen (g2 h) v1; omega
        · have := len_two hlen (g1 h) v1; omega
      · have := len_bd (K := Kw - m) hlen (g2 h) v1; omega
      · exact len_two hlen (g1 h) v1
    obtain ⟨hl0, hl1, hl2, hl3⟩ := hlb
    have HL2 := hide (And.intro hl2 hl3)
    have HLen := hide hlen
    clear hl2 hl3 hlen
    have lU := U.lt
    have lR2 := R.lt
    have nRU : W.heap.size ≠ w2.heap.size := by omega
    have nRU' : w2.heap.size ≠ W.heap.size := by omega
    have HU := hide U
    obtain ⟨x0, x1, x2, x3, x4⟩ := U
    by_cases hc : l ≤ 1
    · have hN := R
      obtain ⟨q0, q1, q2, q3, q4, q5⟩ := R
      have Hc := hide hc
      go_wp2_with fail
      refine bodyPost_ret (v := .agg #[.bool u.ln, .slice u.la u.lN u.lc, .bool u.hn, .slice u.ha u.hN u.hc, .int .i64 u.bits]) (by simp [results, Try.results74, go_sem, q0, q1, q2, q3, q4]) rfl ⟨L, H, ⟨m, lo, hi, unhide HPr, hm, unhide HL, unhide HH, Or.inl (len_one (unhide HLen) (unhide Hc) v1)⟩, u, rfl, unhide HUB, ?_, ?_⟩
      · exact SpAt.put5 hup q0 q1 q2 q3 q4 _ _ _ _ _
      · exact set5 hB (Nat.le_refl _) _ _ _ _ _
    · by_cases ht3 : 3 ≤ t
      · have ht3' : (3 : Int) ≤ (t : Int) := by omega
        cases hn : narB L H (Q bits) 4
        · have hmK2 : m < Kw := by
            refine Nat.lt_of_not_le fun h => ?_
            have h5 := (unhide HV2).1 h
            rw [narB_small (by omega) (by omega)] at hn
            cases hn
          go_wp2_with fail
          refine (narrow_int _ u bits 4 L H hup (unhide HUB) hb (by omega)).mono ?_
          rintro r w5 ⟨rfl, hb5⟩
          rw [show narB L H (Q bits) ((4 : Nat) : Int) = false from hn]
          replace R := R.below hb5
          replace hB := bthen hB hb5
          go_wp2_with fail
          go_roundw
          case rel => exact ⟨m + l.toNat + 32, t + 1, by congr 1; omega, by congr 1, ⟨by omega, by omega, by omega, Or.inr (by have := (unhide HL2).1; omega)⟩, R, hB⟩
          case measure => simp [intOf]; omega
        · go_wp2_with fail
          refine (narrow_int _ u bits 4 L H hup (unhide HUB) hb (by omega)).mono ?_
          rintro r w5 ⟨rfl, hb5⟩
          rw [show narB L H (Q bits) ((4 : Nat) : Int) = true from hn]
          replace R := R.below hb5
          replace hB := bthen hB hb5
          replace hup := hup.below hb5
          obtain ⟨y0, y1, y2, y3, y4⟩ := (unhide HU).below hb5
          obtain ⟨q0, q1, q2, q3, q4, q5⟩ := R
          have lU2 := Nat.lt_of_lt_of_le lU hb5.size
          have lR3 := Nat.lt_of_lt_of_le lR2 hb5.size
          clear hb5 x0 x1 x2 x3 x4
          go_wp2_with fail
          refine bodyPost_ret (v := .agg #[.bool u.ln, .slice u.la u.lN u.lc, .bool u.hn, .slice u.ha u.hN u.hc, .int .i64 u.bits]) (by simp [results, Try.results74, go_sem, q0, q1, q2, q3, q4]) rfl ⟨L, H, ⟨m, lo, hi, unhide HPr, hm, unhide HL, unhide HH, Or.inr hn⟩, u, rfl, unhide HUB, ?_, ?_⟩
          · exact SpAt.put5 hup q0 q1 q2 q3 q4 _ _ _ _ _
          · exact set5 hB (Nat.le_refl _) _ _ _ _ _
      · have ht3' : ¬ (3 : Int) ≤ (t : Int) := by omega
        go_wp2_with fail
        go_roundw
        case rel => exact ⟨m + l.toNat + 32, t + 1, by congr 1; omega, by congr 1, ⟨by omega, by omega, by omega, by
          have g1 := (unhide HL2).1
          have g2 := (unhide HL2).2
          have g3 := unhide HI
          rcases Nat.le_total m Kw with h | h
          · have := g1 h; exact Or.inr (by omega)
          · have := g2 h; exact Or.inl ⟨by omega, by omega⟩⟩, R, hB⟩
        case measure => simp [intOf]; omega

set_option maxRecDepth 100000 in
set_option maxHeartbeats 4000000 in
theorem sure1_erf (p1 : Value) (bits KD : Nat) (lo hi L H : Int) (W : World) (hb : bits ≤ 120) (hKD : KD ≤ 100000000) (hL : L = lo / Q 32) (hH : H = -(-hi / Q 32)) (v1 : 0 ≤ H - L) (hw : H - L ≤ 1) (f1 : -P 250 < L) (f2 : H < P 250)
    (hF : ∀ w', Below W.heap.size W w' → Calls Try.prog 42 #[.int .i64 ((bits : Int) + 32), p1] w' (SpanAns w' ((bits : Int) + 32) KD lo hi)) :
    Calls Try.prog 74 #[.int .i64 bits, .func (.func 42) #[] #[p1]] W (SpanAns W bits 250 L H) := by
  have HF := hide hF
  have HLL := hide hL
  have HHH := hide hH
  clear hF hL hH
  have hR0 := noc_new W 28
  go_enter Try.func74, Try.ntmps74
  go_wp2_with fail
  go_loopw [5, 6] (fun mm tt wr => mm = .int .i64 32 ∧ tt = .int .i64 1 ∧ NoC wr W.heap.size ∧ Below W.heap.size W wr) (fun _ _ _ => 0)
  case atStart => exact ⟨rfl, rfl, hR0, bl1 _ _⟩
  case round =>
    obtain ⟨rfl, rfl, R, hB⟩ := hrel
    go_wp2_with fail
    refine (unhide HF _ hB).mono ?_
    rintro r w1 ⟨s, rfl, hsb, hsp, hb1⟩
    replace R := R.below hb1
    replace hB := bthen hB hb1
    clear hb1
    have hs0 : 0 ≤ s.bits := by omega
    have hs1 : s.bits ≤ 1000000 := by omega
    have d1 : downZ lo (s.bits - bits) = L := by rw [unhide HLL]; unfold downZ; rw [hsb, if_pos (by omega)]; congr 2; omega
    have d2 : -downZ (-hi) (s.bits - bits) = H := by rw [unhide HHH]; unfold downZ; rw [hsb, if_pos (by omega)]; congr 3; omega
    have HD1 := hide d1
    have HD2 := hide d2
    clear d1 d2 hsb
    go_wp2_with fail
    refine (wideTo_int _ s KD bits lo hi hsp (by omega) hs0 hs1 (by omega) (by omega)).mono ?_
    rintro r w2 ⟨u, rfl, hub, hup, hb2⟩
    rw [unhide HD1, unhide HD2] at hup
    replace hup := hup.fits (K := 250) (by omega) f1 f2
    replace R := R.below hb2
    replace hB := bthen hB hb2
    have HUB := hide hub
    clear hb2 hub hs0 hs1 HD1 HD2 hsp
    have lR := R.lt
    obtain ⟨V, hV⟩ : ∃ V, V = w2.alloc (.cells #[.bool u.ln, .slice u.la u.lN u.lc, .bool u.hn, .slice u.ha u.hN u.hc, .int .i64 u.bits] 28) := ⟨_, rfl⟩
    have bV : Below w2.heap.size w2 V := by rw [hV]; exact bl1 _ _
    have U : SpC V w2.heap.size u := by rw [hV]; exact ⟨by simp, by simp, by simp, by simp, by simp⟩
    replace R := R.below bV
    replace hB := bthen hB bV
    replace hup := hup.below bV
    clear bV
    go_wp2_with fail
    rw [← hV]
    clear hV
    refine (sub_int _ _ _ _ _ _ _ _ 250 250 H L _ hup.hi hup.lo (by omega) (by omega)).mono ?_
    rintro r w3 ⟨neg3, a3, n3, c3, rfl, hint3, hb3⟩
    replace U := U.below hb3
    replace R := R.below hb3
    replace hB := bthen hB hb3
    replace hup := hup.below hb3
    clear hb3
    go_wp2_with fail
    refine (len_int _ _ _ _ _ (H - L) _ hint3 v1).mono ?_
    rintro r w4 ⟨l, hlen, rfl, hb4⟩
    replace U := U.below hb4
    replace R := R.below hb4
    replace hB := bthen hB hb4
    replace hup := hup.below hb4
    have hc : l ≤ 1 := by
      obtain ⟨g1, g2, g3⟩ := hlen
      by_cases hp : 0 < H - L
      · obtain ⟨L', e1, e2, e3⟩ := g3 hp
        have : ¬ 1 ≤ L' := fun h => by
          have := Q_mono h
          have : Q 1 = 2 := rfl
          omega
        omega
      · have := g2 (by omega); omega
    clear hb4 hint3 hlen
    have lU := U.lt
    have lR2 := R.lt
    have nRU : W.heap.size ≠ w2.heap.size := by omega
    have nRU' : w2.heap.size ≠ W.heap.size := by omega
    obtain ⟨x0, x1, x2, x3, x4⟩ := U
    obtain ⟨q0, q1, q2, q3, q4, q5⟩ := R
    go_wp2_with fail
    refine bodyPost_ret (v := .agg #[.bool u.ln, .slice u.la u.lN u.lc, .bool u.hn, .slice u.ha u.hN u.hc, .int .i64 u.bits]) (by simp [results, Try.results74, go_sem, q0, q1, q2, q3, q4]) rfl ⟨u, rfl, unhide HUB, ?_, ?_⟩
    · exact SpAt.put5 hup q0 q1 q2 q3 q4 _ _ _ _ _
    · exact set5 hB (Nat.le_refl _) _ _ _ _ _

set_option maxRecDepth 100000 in
set_option maxHeartbeats 4000000 in
theorem sure_erfc (p1 : Value) (bits Kw KD : Nat) (Pr : Nat → Int → Int → Prop) (W : World) (hb : bits ≤ 120) (hKw : Kw ≤ 900000) (hKD : KD ≤ 100000000) (hE : SureEnds bits Kw Pr)
    (hF : ∀ (m : Nat) w', 32 ≤ m → m ≤ Kw + 120 → Below W.heap.size W w' → Calls Try.prog 44 #[.int .i64 ((bits : Int) + m), p1] w' (fun r w'' => ∃ lo hi, Pr (bits + m) lo hi ∧ SpanAns w' ((bits : Int) + m) KD lo hi r w'')) :
    Calls Try.prog 74 #[.int .i64 bits, .func (.func 44) #[] #[p1]] W (fun r w' => ∃ L H, SureOf bits Pr L H ∧ SpanAns W bits 250 L H r w') := by
  have HF := hide hF
  have HE := hide hE
  clear hF hE
  have hR0 := noc_new W 28
  go_enter Try.func74, Try.ntmps74
  go_wp2_with fail
  go_loopw [5, 6] (fun mm tt wr => ∃ m t : Nat, mm = .int .i64 (m : Int) ∧ tt = .int .i64 (t : Int) ∧ SureInv Kw m t ∧ NoC wr W.heap.size ∧ Below W.heap.size W wr) (fun mm _ _ => Kw + 200 - (intOf mm).toNat)
  case atStart => exact ⟨32, 1, rfl, rfl, ⟨Nat.le_refl _, Nat.le_refl _, by omega, Or.inl ⟨by omega, by omega⟩⟩, hR0, bl1 _ _⟩
  case round =>
    obtain ⟨m, t, rfl, rfl, hinv, R, hB⟩ := hrel
    obtain ⟨hm, ht, htm, hmt⟩ := hinv
    have hmK : m ≤ Kw + 120 := by omega
    have HI := hide hmt
    clear hmt
    go_wp2_with fail
    refine (unhide HF m _ hm hmK hB).mono ?_
    rintro r w1 ⟨lo, hi, hPr, s, rfl, hsb, hsp, hb1⟩
    replace R := R.below hb1
    replace hB := bthen hB hb1
    clear hb1
    obtain ⟨e1, e2, e3, e4⟩ := unhide HE m lo hi hPr
    obtain ⟨v1, v2, v3⟩ := to_width (m := m) e1 e2
    obtain ⟨f1, f2⟩ := to_fit e3 e4
    have HPr := hide hPr
    have HV := hide (And.intro v2 v3)
    have hs0 : 0 ≤ s.bits := by omega
    have hs1 : s.bits ≤ 1000000 := by omega
    have d1 : downZ lo (s.bits - bits) = lo / Q m := by unfold downZ; rw [hsb, if_pos (by omega)]; congr 2; omega
    have d2 : downZ (-hi) (s.bits - bits) = -hi / Q m := by unfold downZ; rw [hsb, if_pos (by omega)]; congr 2; omega
    have HD1 := hide d1
    have HD2 := hide d2
    clear hPr e1 e2 e3 e4 v2 v3 d1 d2 hsb
    go_wp2_with fail
    refine (wideTo_int _ s KD bits lo hi hsp (by omega) hs0 hs1 (by omega) (by omega)).mono ?_
    rintro r w2 ⟨u, rfl, hub, hup, hb2⟩
    rw [unhide HD1, unhide HD2] at hup
    obtain ⟨L, hL⟩ : ∃ L, L = lo / Q m := ⟨_, rfl⟩
    obtain ⟨H, hH⟩ : ∃ H, H = -(-hi / Q m) := ⟨_, rfl⟩
    rw [← hL, ← hH] at hup v1
    rw [← hL] at f1
    rw [← hH] at f2
    have HV2 := hide (show (Kw ≤ m → H - L ≤ 2) ∧ (m ≤ Kw → H - L ≤ Q (Kw - m) + 1) by rw [hL, hH]; exact unhide HV)
    have HL := hide hL
    have HH := hide hH
    replace hup := hup.fits (K := 250) (by omega) f1 f2
    replace R := R.below hb2
    replace hB := bthen hB hb2
    have HUB := hide hub
    clear hb2 hL hH hub hs0 hs1 HD1 HD2 HV hsp
    have lR := R.lt
    obtain ⟨V, hV⟩ : ∃ V, V = w2.alloc (.cells #[.bool u.ln, .slice u.la u.lN u.lc, .bool u.hn, .slice u.ha u.hN u.hc, .int .i64 u.bits] 28) := ⟨_, rfl⟩
    have bV : Below w2.heap.size w2 V := by rw [hV]; exact bl1 _ _
    have U : SpC V w2.heap.size u := by rw [hV]; exact ⟨by simp, by simp, by simp, by simp, by simp⟩
    replace R := R.below bV
    replace hB := bthen hB bV
    replace hup := hup.below bV
    clear bV
    go_wp2_with fail
    rw [← hV]
    clear hV
    refine (sub_int _ _ _ _ _ _ _ _ 250 250 H L _ hup.hi hup.lo (by omega) (by omega)).mono ?_
    rintro r w3 ⟨neg3, a3, n3, c3, rfl, hint3, hb3⟩
    replace U := U.below hb3
    replace R := R.below hb3
    replace hB := bthen hB hb3
    replace hup := hup.below hb3
    clear hb3
    go_wp2_with fail
    refine (len_int _ _ _ _ _ (H - L) _ hint3 v1).mono ?_
    rintro r w4 ⟨l, hlen, rfl, hb4⟩
    replace U := U.below hb4
    replace R := R.below hb4
    replace hB := bthen hB hb4
    replace hup := hup.below hb4
    clear hb4 hint3
    have hlb : 0 ≤ l ∧ l ≤ Kw + 2 ∧ (m ≤ Kw → l ≤ Kw - m + 2) ∧ (Kw ≤ m → l ≤ 2) := by
      obtain ⟨g1, g2⟩ := unhide HV2
      refine ⟨hlen.1, ?_, fun h => ?_, fun h => ?_⟩
      · rcases Nat.le_total m Kw with h | h
        · have := len_bd (K := Kw - m) hlen (g2 h) v1; omega
        · have := len_two hlen (g1 h) v1; omega
      · have := len_bd (K := Kw - m) hlen (g2 h) v1; omega
      · exact len_two hlen (g1 h) v1
    obtain ⟨hl0, hl1, hl2, hl3⟩ := hlb
    have HL2 := hide (And.intro hl2 hl3)
    have HLen := hide hlen
    clear hl2 hl3 hlen
    have lU := U.lt
    have lR2 := R.lt
    have nRU : W.heap.size ≠ w2.heap.size := by omega
    have nRU' : w2.heap.size ≠ W.heap.size := by omega
    have HU := hide U
    obtain ⟨x0, x1, x2, x3, x4⟩ := U
    by_cases hc : l ≤ 1
    · have hN := R
      obtain ⟨q0, q1, q2, q3, q4, q5⟩ := R
      have Hc := hide hc
      go_wp2_with fail
      refine bodyPost_ret (v := .agg #[.bool u.ln, .slice u.la u.lN u.lc, .bool u.hn, .slice u.ha u.hN u.hc, .int .i64 u.bits]) (by simp [results, Try.results74, go_sem, q0, q1, q2, q3, q4]) rfl ⟨L, H, ⟨m, lo, hi, unhide HPr, hm, unhide HL, unhide HH, Or.inl (len_one (unhide HLen) (unhide Hc) v1)⟩, u, rfl, unhide HUB, ?_, ?_⟩
      · exact SpAt.put5 hup q0 q1 q2 q3 q4 _ _ _ _ _
      · exact set5 hB (Nat.le_refl _) _ _ _ _ _
    · by_cases ht3 : 3 ≤ t
      · have ht3' : (3 : Int) ≤ (t : Int) := by omega
        cases hn : narB L H (Q bits) 4
        · have hmK2 : m < Kw := by
            refine Nat.lt_of_not_le fun h => ?_
            have h5 := (unhide HV2).1 h
            rw [narB_small (by omega) (by omega)] at hn
            cases hn
          go_wp2_with fail
          refine (narrow_int _ u bits 4 L H hup (unhide HUB) hb (by omega)).mono ?_
          rintro r w5 ⟨rfl, hb5⟩
          rw [show narB L H (Q bits) ((4 : Nat) : Int) = false from hn]
          replace R := R.below hb5
          replace hB := bthen hB hb5
          go_wp2_with fail
          go_roundw
          case rel => exact ⟨m + l.toNat + 32, t + 1, by congr 1; omega, by congr 1, ⟨by omega, by omega, by omega, Or.inr (by have := (unhide HL2).1; omega)⟩, R, hB⟩
          case measure => simp [intOf]; omega
        · go_wp2_with fail
          refine (narrow_int _ u bits 4 L H hup (unhide HUB) hb (by omega)).mono ?_
          rintro r w5 ⟨rfl, hb5⟩
          rw [show narB L H (Q bits) ((4 : Nat) : Int) = true from hn]
          replace R := R.below hb5
          replace hB := bthen hB hb5
          replace hup := hup.below hb5
          obtain ⟨y0, y1, y2, y3, y4⟩ := (unhide HU).below hb5
          obtain ⟨q0, q1, q2, q3, q4, q5⟩ := R
          have lU2 := Nat.lt_of_lt_of_le lU hb5.size
          have lR3 := Nat.lt_of_lt_of_le lR2 hb5.size
          clear hb5 x0 x1 x2 x3 x4
          go_wp2_with fail
          refine bodyPost_ret (v := .agg #[.bool u.ln, .slice u.la u.lN u.lc, .bool u.hn, .slice u.ha u.hN u.hc, .int .i64 u.bits]) (by simp [results, Try.results74, go_sem, q0, q1, q2, q3, q4]) rfl ⟨L, H, ⟨m, lo, hi, unhide HPr, hm, unhide HL, unhide HH, Or.inr hn⟩, u, rfl, unhide HUB, ?_, ?_⟩
          · exact SpAt.put5 hup q0 q1 q2 q3 q4 _ _ _ _ _
          · exact set5 hB (Nat.le_refl _) _ _ _ _ _
      · have ht3' : ¬ (3 : Int) ≤ (t : Int) := by omega
        go_wp2_with fail
        go_roundw
        case rel => exact ⟨m + l.toNat + 32, t + 1, by congr 1; omega, by congr 1, ⟨by omega, by omega, by omega, by
          have g1 := (unhide HL2).1
          have g2 := (unhide HL2).2
          have g3 := unhide HI
          rcases Nat.le_total m Kw with h | h
          · have := g1 h; exact Or.inr (by omega)
          · have := g2 h; exact Or.inl ⟨by omega, by omega⟩⟩, R, hB⟩
        case measure => simp [intOf]; omega

set_option maxRecDepth 100000 in
set_option maxHeartbeats 4000000 in
theorem sure1_erfc (p1 : Value) (bits KD : Nat) (lo hi L H : Int) (W : World) (hb : bits ≤ 120) (hKD : KD ≤ 100000000) (hL : L = lo / Q 32) (hH : H = -(-hi / Q 32)) (v1 : 0 ≤ H - L) (hw : H - L ≤ 1) (f1 : -P 250 < L) (f2 : H < P 250)
    (hF : ∀ w', Below W.heap.size W w' → Calls Try.prog 44 #[.int .i64 ((bits : Int) + 32), p1] w' (SpanAns w' ((bits : Int) + 32) KD lo hi)) :
    Calls Try.prog 74 #[.int .i64 bits, .func (.func 44) #[] #[p1]] W (SpanAns W bits 250 L H) := by
  have HF := hide hF
  have HLL := hide hL
  have HHH := hide hH
  clear hF hL hH
  have hR0 := noc_new W 28
  go_enter Try.func74, Try.ntmps74
  go_wp2_with fail
  go_loopw [5, 6] (fun mm tt wr => mm = .int .i64 32 ∧ tt = .int .i64 1 ∧ NoC wr W.heap.size ∧ Below W.heap.size W wr) (fun _ _ _ => 0)
  case atStart => exact ⟨rfl, rfl, hR0, bl1 _ _⟩
  case round =>
    obtain ⟨rfl, rfl, R, hB⟩ := hrel
    go_wp2_with fail
    refine (unhide HF _ hB).mono ?_
    rintro r w1 ⟨s, rfl, hsb, hsp, hb1⟩
    replace R := R.below hb1
    replace hB := bthen hB hb1
    clear hb1
    have hs0 : 0 ≤ s.bits := by omega
    have hs1 : s.bits ≤ 1000000 := by omega
    have d1 : downZ lo (s.bits - bits) = L := by rw [unhide HLL]; unfold downZ; rw [hsb, if_pos (by omega)]; congr 2; omega
    have d2 : -downZ (-hi) (s.bits - bits) = H := by rw [unhide HHH]; unfold downZ; rw [hsb, if_pos (by omega)]; congr 3; omega
    have HD1 := hide d1
    have HD2 := hide d2
    clear d1 d2 hsb
    go_wp2_with fail
    refine (wideTo_int _ s KD bits lo hi hsp (by omega) hs0 hs1 (by omega) (by omega)).mono ?_
    rintro r w2 ⟨u, rfl, hub, hup, hb2⟩
    rw [unhide HD1, unhide HD2] at hup
    replace hup := hup.fits (K := 250) (by omega) f1 f2
    replace R := R.below hb2
    replace hB := bthen hB hb2
    have HUB := hide hub
    clear hb2 hub hs0 hs1 HD1 HD2 hsp
    have lR := R.lt
    obtain ⟨V, hV⟩ : ∃ V, V = w2.alloc (.cells #[.bool u.ln, .slice u.la u.lN u.lc, .bool u.hn, .slice u.ha u.hN u.hc, .int .i64 u.bits] 28) := ⟨_, rfl⟩
    have bV : Below w2.heap.size w2 V := by rw [hV]; exact bl1 _ _
    have U : SpC V w2.heap.size u := by rw [hV]; exact ⟨by simp, by simp, by simp, by simp, by simp⟩
    replace R := R.below bV
    replace hB := bthen hB bV
    replace hup := hup.below bV
    clear bV
    go_wp2_with fail
    rw [← hV]
    clear hV
    refine (sub_int _ _ _ _ _ _ _ _ 250 250 H L _ hup.hi hup.lo (by omega) (by omega)).mono ?_
    rintro r w3 ⟨neg3, a3, n3, c3, rfl, hint3, hb3⟩
    replace U := U.below hb3
    replace R := R.below hb3
    replace hB := bthen hB hb3
    replace hup := hup.below hb3
    clear hb3
    go_wp2_with fail
    refine (len_int _ _ _ _ _ (H - L) _ hint3 v1).mono ?_
    rintro r w4 ⟨l, hlen, rfl, hb4⟩
    replace U := U.below hb4
    replace R := R.below hb4
    replace hB := bthen hB hb4
    replace hup := hup.below hb4
    have hc : l ≤ 1 := by
      obtain ⟨g1, g2, g3⟩ := hlen
      by_cases hp : 0 < H - L
      · obtain ⟨L', e1, e2, e3⟩ := g3 hp
        have : ¬ 1 ≤ L' := fun h => by
          have := Q_mono h
          have : Q 1 = 2 := rfl
          omega
        omega
      · have := g2 (by omega); omega
    clear hb4 hint3 hlen
    have lU := U.lt
    have lR2 := R.lt
    have nRU : W.heap.size ≠ w2.heap.size := by omega
    have nRU' : w2.heap.size ≠ W.heap.size := by omega
    obtain ⟨x0, x1, x2, x3, x4⟩ := U
    obtain ⟨q0, q1, q2, q3, q4, q5⟩ := R
    go_wp2_with fail
    refine bodyPost_ret (v := .agg #[.bool u.ln, .slice u.la u.lN u.lc, .bool u.hn, .slice u.ha u.hN u.hc, .int .i64 u.bits]) (by simp [results, Try.results74, go_sem, q0, q1, q2, q3, q4]) rfl ⟨u, rfl, unhide HUB, ?_, ?_⟩
    · exact SpAt.put5 hup q0 q1 q2 q3 q4 _ _ _ _ _
    · exact set5 hB (Nat.le_refl _) _ _ _ _ _
end Go.Proofs.Ytgmnknmjainabab

namespace Go.Proofs.Ytgmnknmjainabab
set_option linter.unusedVariables false
set_option linter.unusedSimpArgs false
set_option linter.unnecessarySimpa false
open Go.RowKit
attribute [local go_sem ↓] Go.wp_at_zero Go.wp_at_succ

theorem fl_one {c m : Int} (hm : 1 ≤ m) : (c * m - 1) / m = c - 1 := by
  have e1 : (c - 1) * m = c * m - m := by grind
  have e2 : (c - 1 + 1) * m = c * m := by grind
  have h1 : (c - 1) * m ≤ c * m - 1 := by omega
  have h2 : c * m - 1 < (c - 1 + 1) * m := by omega
  have a := Int.le_ediv_of_mul_le (show 0 < m by omega) h1
  have b := Int.ediv_lt_of_lt_mul (show 0 < m by omega) h2
  omega
theorem fl_all {c m : Int} (hm : 1 ≤ m) : (c * m) / m = c := Int.mul_ediv_cancel c (by omega)
/-- Far away, as it comes at the first try. -/
theorem far_er (p : Int) (b : Nat) : (sgn2 p (Q b - 1, Q b)).1 = (sgn2 p (Q (b + 32) - 1, Q (b + 32))).1 / Q 32 ∧ (sgn2 p (Q b - 1, Q b)).2 = -(-(sgn2 p (Q (b + 32) - 1, Q (b + 32))).2 / Q 32) := by
  have q := Q_pos 32
  have e : Q (b + 32) = Q b * Q 32 := Q_add b 32
  unfold sgn2
  by_cases hp : p < 0
  · rw [if_pos hp, if_pos hp]
    simp only []
    rw [e, Int.neg_neg]
    refine ⟨?_, ?_⟩
    · rw [← Int.neg_mul, fl_all q]
    · rw [fl_one q]
  · rw [if_neg hp, if_neg hp]
    simp only []
    rw [e]
    refine ⟨(fl_one q).symm, ?_⟩
    rw [← Int.neg_mul, fl_all q]; omega
theorem far_ec (p : Int) (b : Nat) : (restI b (sgn2 p (Q b - 1, Q b))).1 = (restI (b + 32) (sgn2 p (Q (b + 32) - 1, Q (b + 32)))).1 / Q 32 ∧ (restI b (sgn2 p (Q b - 1, Q b))).2 = -(-(restI (b + 32) (sgn2 p (Q (b + 32) - 1, Q (b + 32)))).2 / Q 32) := by
  have q := Q_pos 32
  have e : Q (b + 32) = Q b * Q 32 := Q_add b 32
  unfold restI sgn2
  by_cases hp : p < 0
  · rw [if_pos hp, if_pos hp]
    simp only []
    rw [e]
    refine ⟨?_, ?_⟩
    · rw [show Q b * Q 32 - -(Q b * Q 32 - 1) = (2 * Q b) * Q 32 - 1 by grind, fl_one q]; omega
    · rw [show -(Q b * Q 32 - -(Q b * Q 32)) = (-(2 * Q b)) * Q 32 by grind, fl_all q]; omega
  · rw [if_neg hp, if_neg hp]
    simp only []
    rw [e]
    refine ⟨?_, ?_⟩
    · rw [show Q b * Q 32 - Q b * Q 32 = 0 * Q 32 by grind, fl_all q]; omega
    · rw [show -(Q b * Q 32 - (Q b * Q 32 - 1)) = 0 * Q 32 - 1 by grind, fl_one q]; omega
theorem P250_big {b : Nat} (hb : b ≤ 120) : 2 * Q b < P 250 := by
  rw [← Q_P]
  have h2 : Q (b + 1) = 2 * Q b := rfl
  have h3 : Q (b + 2) = 2 * Q (b + 1) := rfl
  have := Q_mono (show b + 2 ≤ 16 * 250 by omega)
  have := Q_pos b
  omega

set_option maxRecDepth 100000 in
set_option maxHeartbeats 2000000 in
theorem sured_erf (R : Nat → Rat) (hR : RootS piS R) (p q : Int) (b : Nat) (B0 : Nat) (w : World) (hr : rok p q) (h5 : 8 ≤ b) (h6 : b ≤ 120) (A : RaC w B0 p q) :
    Calls Try.prog 74 #[.int .i64 b, .func (.func 42) #[] #[.pointer (some ⟨B0, 0, none⟩)]] w (fun r w' => ∃ L H, ErV R p q b L H ∧ SpanAns w b 250 L H r w') := by
  have q1 := hr.2.2.1
  have qq : 0 < q * q := Int.mul_pos (by omega) (by omega)
  by_cases hn : p * p < q * q * ((b : Int) + 32)
  · have h152 : p * p < 152 * (q * q) := by
      have := Int.mul_le_mul_of_nonneg_left (show (b : Int) + 32 ≤ 152 by omega) (show 0 ≤ q * q by omega)
      have e : q * q * 152 = 152 * (q * q) := by grind
      omega
    refine (sure_erf _ b 4500 3002 (ErPr R p q) w h6 (by omega) (by omega) (er_ends R p q h6) (fun m w' hm hm2 hbw => ?_)).mono fun r w' ⟨L, H, h1, h2⟩ => ⟨L, H, sure_er hn h1, h2⟩
    have hlt : p * p < q * q * ((b + m : Nat) : Int) := by
      have := Int.mul_le_mul_of_nonneg_left (show (b : Int) + 32 ≤ ((b + m : Nat) : Int) by omega) (show 0 ≤ q * q by omega)
      omega
    obtain ⟨s, e, c1, c2⟩ := er_near hR hr h152 (show 40 ≤ b + m by omega) (show b + m ≤ 10000 by omega) hlt
    have eB : ((b : Int) + (m : Int)) = ((b + m : Nat) : Int) := by omega
    rw [eB]
    exact (erf1_iv w' B0 p q (b + m) s e hr (A.below hbw) (by omega) c1).mono fun r w'' h => ⟨_, _, ⟨s, e, c2, rfl, rfl⟩, h⟩
  · have hf : q * q * ((b + 32 : Nat) : Int) ≤ p * p := by
      have e : ((b + 32 : Nat) : Int) = (b : Int) + 32 := by omega
      rw [e]; omega
    have c1 := er_far (show 40 ≤ b + 32 by omega) (show b + 32 ≤ 10000 by omega) hf
    obtain ⟨e1, e2⟩ := far_er p b
    have pb := P250_big h6
    have qb := Q_pos b
    have g : -P 250 < (sgn2 p (Q b - 1, Q b)).1 ∧ (sgn2 p (Q b - 1, Q b)).2 < P 250 ∧ (sgn2 p (Q b - 1, Q b)).2 - (sgn2 p (Q b - 1, Q b)).1 = 1 ∧ -Q b ≤ (sgn2 p (Q b - 1, Q b)).1 ∧ (sgn2 p (Q b - 1, Q b)).2 ≤ Q b := by
      unfold sgn2
      by_cases hp : p < 0
      · rw [if_pos hp]; refine ⟨?_, ?_, ?_, ?_, ?_⟩ <;> (simp only []; omega)
      · rw [if_neg hp]; refine ⟨?_, ?_, ?_, ?_, ?_⟩ <;> (simp only []; omega)
    refine (sure1_erf _ b 3002 _ _ _ _ w h6 (by omega) e1 e2 (by omega) (by omega) g.1 g.2.1 (fun w' hbw => ?_)).mono fun r w' h => ⟨_, _, ⟨by omega, g.2.2.2.1, g.2.2.2.2, narB_small (by omega) (by omega), Or.inl ⟨by omega, rfl⟩⟩, h⟩
    have eB : ((b : Int) + 32) = ((b + 32 : Nat) : Int) := by omega
    rw [eB]
    exact erf1_iv w' B0 p q (b + 32) _ _ hr (A.below hbw) (by omega) c1

set_option maxRecDepth 100000 in
set_option maxHeartbeats 2000000 in
theorem made_erf_ok (R : Nat → Rat) (hR : RootS piS R) (p q : Int) (b : Nat) (B0 : Nat) (w : World) (hr : rok p q) (h5 : 8 ≤ b) (h6 : b ≤ 120) (A0 : RaC w B0 p q) :
    Calls Try.prog 41 #[.agg #[.int .i64 p, .int .i64 q], .int .i64 b, .func (.func 42) #[] #[.pointer (some ⟨B0, 0, none⟩)]] w (fun r w' => ∃ L H, ErV R p q b L H ∧ PairAns w b 250 L H 0 r w') := by
  have d1 : ratE p q b = 0 := by unfold ratE; rw [if_pos]; exact ⟨hr, by omega, by omega⟩
  have HR := hide hr
  have HA := hide A0
  clear hr A0
  go_enter Try.func41, Try.ntmps41
  go_wp2_with (go_at_call 65; refine (ratioFault1 _ _ _ (by simp) _ _ _ _).mono ?_; rintro r w1 ⟨rfl, hb1⟩; rw [d1]; obtain ⟨hsz1, hcell1, hfz1⟩ := near (w.heap.size + 1 + 1) (by simp) hb1)
  have R' : NoC w1 (w.heap.size + 1) := ⟨by simp [hcell1, go_sem], by simp [hcell1, go_sem], by simp [hcell1, go_sem], by simp [hcell1, go_sem], by simp [hcell1, go_sem], fun o => by simp [hfz1, go_sem]⟩
  have hBw : Below w.heap.size w w1 := bthen (bl2 _ _ _) hb1
  clear hcell1 hfz1 hb1
  have lR := R'.lt
  refine (sured_erf R hR p q b B0 _ (unhide HR) h5 h6 ((unhide HA).below hBw)).mono ?_
  rintro r' w3 ⟨L, H, hLH, u, rfl, hub, hup, hb3⟩
  obtain ⟨q0, q1, q2, q3, q4, q5⟩ := R'.below hb3
  replace hBw := bthen hBw hb3
  have HU := hide hub
  have HLH := hide hLH
  clear hub hLH
  go_wp2_with fail
  refine bodyPost_ret (v := .tuple #[.agg #[.bool u.ln, .slice u.la u.lN u.lc, .bool u.hn, .slice u.ha u.hN u.hc, .int .i64 u.bits], .int .i64 0]) (by simp [results, Try.results41, go_sem, q0, q1, q2, q3, q4]) rfl ⟨L, H, unhide HLH, u, rfl, unhide HU, ?_, ?_⟩
  · exact SpAt.put5 hup q0 q1 q2 q3 q4 _ _ _ _ _
  · exact set5 hBw (Nat.le_succ _) _ _ _ _ _

set_option maxRecDepth 100000 in
set_option maxHeartbeats 2000000 in
theorem made_erf_bad (p q b : Int) (B0 : Nat) (w : World) (h : ¬ (rok p q ∧ 8 ≤ b ∧ b ≤ 120)) :
    Calls Try.prog 41 #[.agg #[.int .i64 p, .int .i64 q], .int .i64 b, .func (.func 42) #[] #[.pointer (some ⟨B0, 0, none⟩)]] w (PairAns w 0 250 0 0 3) := by
  have d1 : ratE p q b = 3 := by unfold ratE; rw [if_neg h]
  clear h
  go_enter Try.func41, Try.ntmps41
  go_wp2_with (go_at_call 65; refine (ratioFault1 _ _ _ (by simp) _ _ _ _).mono ?_; rintro r w1 ⟨rfl, hb1⟩; rw [d1]; obtain ⟨hsz1, hcell1, hfz1⟩ := near (w.heap.size + 1 + 1) (by simp) hb1)
  refine bodyPost_ret (v := .tuple #[.agg #[.bool false, .slice none 0 0, .bool false, .slice none 0 0, .int .i64 0], .int .i64 3]) (by simp [results, Try.results41, go_sem, hcell1]) rfl ⟨⟨false, none, 0, 0, false, none, 0, 0, 0⟩, rfl, rfl, zeroSp _ _, ?_⟩
  exact set5 (bthen (bl2 _ _ _) hb1) (Nat.le_succ _) _ _ _ _ _

set_option maxRecDepth 100000 in
set_option maxHeartbeats 2000000 in
theorem cerf_ok (R : Nat → Rat) (hR : RootS piS R) (p q : Int) (b : Nat) (w : World) (hr : rok p q) (h5 : 8 ≤ b) (h6 : b ≤ 120) :
    Calls Try.prog 9 #[.agg #[.int .i64 p, .int .i64 q], .int .i64 b] w (fun r w' => ∃ L H, ErV R p q b L H ∧ PairAns w b 250 L H 0 r w') := by
  obtain ⟨W, hW⟩ : ∃ W, W = (w.alloc (.cells #[.int .i64 p, .int .i64 q] 23)).alloc (.cells #[.bool false, .slice none 0 0, .bool false, .slice none 0 0, .int .i64 0] 28) := ⟨_, rfl⟩
  have hBW : Below w.heap.size w W := by rw [hW]; exact bl2 _ _ _
  have A : RaC W w.heap.size p q := by rw [hW]; exact ⟨by simp [go_sem], by simp [go_sem]⟩
  have R' : NoC W (w.heap.size + 1) := by rw [hW]; exact ⟨by simp [go_sem], by simp [go_sem], by simp [go_sem], by simp [go_sem], by simp [go_sem], fun o => by simp [go_sem]⟩
  have HR := hide hr
  clear hr
  go_enter Try.func9, Try.ntmps9
  go_wp2_with fail
  rw [← hW]
  clear hW
  refine (made_erf_ok R hR p q b w.heap.size _ (unhide HR) h5 h6 A).mono ?_
  rintro r' w3 ⟨L, H, hLH, u, rfl, hub, hup, hb3⟩
  obtain ⟨q0, q1, q2, q3, q4, q5⟩ := R'.below hb3
  have lR := (R'.below hb3).lt
  replace hBW := bthen hBW hb3
  have HU := hide hub
  have HLH := hide hLH
  clear hub hLH
  go_wp2_with fail
  refine bodyPost_ret (v := .tuple #[.agg #[.bool u.ln, .slice u.la u.lN u.lc, .bool u.hn, .slice u.ha u.hN u.hc, .int .i64 u.bits], .int .i64 0]) (by simp [results, Try.results9, go_sem, q0, q1, q2, q3, q4]) rfl ⟨L, H, unhide HLH, u, rfl, unhide HU, ?_, ?_⟩
  · exact SpAt.put5 hup q0 q1 q2 q3 q4 _ _ _ _ _
  · exact set5 hBW (Nat.le_succ _) _ _ _ _ _

set_option maxRecDepth 100000 in
set_option maxHeartbeats 2000000 in
theorem cerf_bad (p q b : Int) (w : World) (h : ¬ (rok p q ∧ 8 ≤ b ∧ b ≤ 120)) :
    Calls Try.prog 9 #[.agg #[.int .i64 p, .int .i64 q], .int .i64 b] w (PairAns w 0 250 0 0 3) := by
  obtain ⟨W, hW⟩ : ∃ W, W = (w.alloc (.cells #[.int .i64 p, .int .i64 q] 23)).alloc (.cells #[.bool false, .slice none 0 0, .bool false, .slice none 0 0, .int .i64 0] 28) := ⟨_, rfl⟩
  have hBW : Below w.heap.size w W := by rw [hW]; exact bl2 _ _ _
  have A : RaC W w.heap.size p q := by rw [hW]; exact ⟨by simp [go_sem], by simp [go_sem]⟩
  have R' : NoC W (w.heap.size + 1) := by rw [hW]; exact ⟨by simp [go_sem], by simp [go_sem], by simp [go_sem], by simp [go_sem], by simp [go_sem], fun o => by simp [go_sem]⟩
  have HR := hide h
  clear h
  go_enter Try.func9, Try.ntmps9
  go_wp2_with fail
  rw [← hW]
  clear hW
  refine (made_erf_bad p q b w.heap.size _ (unhide HR)).mono ?_
  rintro r' w3 ⟨u, rfl, hub, hup, hb3⟩
  obtain ⟨q0, q1, q2, q3, q4, q5⟩ := R'.below hb3
  have lR := (R'.below hb3).lt
  replace hBW := bthen hBW hb3
  have HU := hide hub
  clear hub
  go_wp2_with fail
  refine bodyPost_ret (v := .tuple #[.agg #[.bool u.ln, .slice u.la u.lN u.lc, .bool u.hn, .slice u.ha u.hN u.hc, .int .i64 u.bits], .int .i64 3]) (by simp [results, Try.results9, go_sem, q0, q1, q2, q3, q4]) rfl ⟨u, rfl, unhide HU, ?_, ?_⟩
  · exact SpAt.put5 hup q0 q1 q2 q3 q4 _ _ _ _ _
  · exact set5 hBW (Nat.le_succ _) _ _ _ _ _

set_option maxRecDepth 100000 in
set_option maxHeartbeats 2000000 in
theorem sured_erfc (R : Nat → Rat) (hR : RootS piS R) (p q : Int) (b : Nat) (B0 : Nat) (w : World) (hr : rok p q) (h5 : 8 ≤ b) (h6 : b ≤ 120) (A : RaC w B0 p q) :
    Calls Try.prog 74 #[.int .i64 b, .func (.func 44) #[] #[.pointer (some ⟨B0, 0, none⟩)]] w (fun r w' => ∃ L H, EcV R p q b L H ∧ SpanAns w b 250 L H r w') := by
  have q1 := hr.2.2.1
  have qq : 0 < q * q := Int.mul_pos (by omega) (by omega)
  by_cases hn : p * p < q * q * ((b : Int) + 32)
  · have h152 : p * p < 152 * (q * q) := by
      have := Int.mul_le_mul_of_nonneg_left (show (b : Int) + 32 ≤ 152 by omega) (show 0 ≤ q * q by omega)
      have e : q * q * 152 = 152 * (q * q) := by grind
      omega
    refine (sure_erfc _ b 4500 3002 (EcPr R p q) w h6 (by omega) (by omega) (ec_ends R p q h6) (fun m w' hm hm2 hbw => ?_)).mono fun r w' ⟨L, H, h1, h2⟩ => ⟨L, H, sure_ec hn h1, h2⟩
    have hlt : p * p < q * q * ((b + m : Nat) : Int) := by
      have := Int.mul_le_mul_of_nonneg_left (show (b : Int) + 32 ≤ ((b + m : Nat) : Int) by omega) (show 0 ≤ q * q by omega)
      omega
    obtain ⟨s, e, c1, c2⟩ := er_near hR hr h152 (show 40 ≤ b + m by omega) (show b + m ≤ 10000 by omega) hlt
    have eB : ((b : Int) + (m : Int)) = ((b + m : Nat) : Int) := by omega
    rw [eB]
    exact (erfc1_iv w' B0 p q (b + m) s e hr (A.below hbw) (by omega) c1).mono fun r w'' h => ⟨_, _, ⟨s, e, c2, rfl, rfl⟩, h⟩
  · have hf : q * q * ((b + 32 : Nat) : Int) ≤ p * p := by
      have e : ((b + 32 : Nat) : Int) = (b : Int) + 32 := by omega
      rw [e]; omega
    have c1 := er_far (show 40 ≤ b + 32 by omega) (show b + 32 ≤ 10000 by omega) hf
    obtain ⟨e1, e2⟩ := far_ec p b
    have pb := P250_big h6
    have qb := Q_pos b
    have g : -P 250 < (restI b (sgn2 p (Q b - 1, Q b))).1 ∧ (restI b (sgn2 p (Q b - 1, Q b))).2 < P 250 ∧ (restI b (sgn2 p (Q b - 1, Q b))).2 - (restI b (sgn2 p (Q b - 1, Q b))).1 = 1 ∧ 0 ≤ (restI b (sgn2 p (Q b - 1, Q b))).1 ∧ (restI b (sgn2 p (Q b - 1, Q b))).2 ≤ 2 * Q b := by
      unfold restI sgn2
      by_cases hp : p < 0
      · rw [if_pos hp]; refine ⟨?_, ?_, ?_, ?_, ?_⟩ <;> (simp only []; omega)
      · rw [if_neg hp]; refine ⟨?_, ?_, ?_, ?_, ?_⟩ <;> (simp only []; omega)
    refine (sure1_erfc _ b 3002 _ _ _ _ w h6 (by omega) e1 e2 (by omega) (by omega) g.1 g.2.1 (fun w' hbw => ?_)).mono fun r w' h => ⟨_, _, ⟨by omega, g.2.2.2.1, g.2.2.2.2, narB_small (by omega) (by omega), Or.inl ⟨by omega, rfl⟩⟩, h⟩
    have eB : ((b : Int) + 32) = ((b + 32 : Nat) : Int) := by omega
    rw [eB]
    exact erfc1_iv w' B0 p q (b + 32) _ _ hr (A.below hbw) (by omega) c1

set_option maxRecDepth 100000 in
set_option maxHeartbeats 2000000 in
theorem made_erfc_ok (R : Nat → Rat) (hR : RootS piS R) (p q : Int) (b : Nat) (B0 : Nat) (w : World) (hr : rok p q) (h5 : 8 ≤ b) (h6 : b ≤ 120) (A0 : RaC w B0 p q) :
    Calls Try.prog 41 #[.agg #[.int .i64 p, .int .i64 q], .int .i64 b, .func (.func 44) #[] #[.pointer (some ⟨B0, 0, none⟩)]] w (fun r w' => ∃ L H, EcV R p q b L H ∧ PairAns w b 250 L H 0 r w') := by
  have d1 : ratE p q b = 0 := by unfold ratE; rw [if_pos]; exact ⟨hr, by omega, by omega⟩
  have HR := hide hr
  have HA := hide A0
  clear hr A0
  go_enter Try.func41, Try.ntmps41
  go_wp2_with (go_at_call 65; refine (ratioFault1 _ _ _ (by simp) _ _ _ _).mono ?_; rintro r w1 ⟨rfl, hb1⟩; rw [d1]; obtain ⟨hsz1, hcell1, hfz1⟩ := near (w.heap.size + 1 + 1) (by simp) hb1)
  have R' : NoC w1 (w.heap.size + 1) := ⟨by simp [hcell1, go_sem], by simp [hcell1, go_sem], by simp [hcell1, go_sem], by simp [hcell1, go_sem], by simp [hcell1, go_sem], fun o => by simp [hfz1, go_sem]⟩
  have hBw : Below w.heap.size w w1 := bthen (bl2 _ _ _) hb1
  clear hcell1 hfz1 hb1
  have lR := R'.lt
  refine (sured_erfc R hR p q b B0 _ (unhide HR) h5 h6 ((unhide HA).below hBw)).mono ?_
  rintro r' w3 ⟨L, H, hLH, u, rfl, hub, hup, hb3⟩
  obtain ⟨q0, q1, q2, q3, q4, q5⟩ := R'.below hb3
  replace hBw := bthen hBw hb3
  have HU := hide hub
  have HLH := hide hLH
  clear hub hLH
  go_wp2_with fail
  refine bodyPost_ret (v := .tuple #[.agg #[.bool u.ln, .slice u.la u.lN u.lc, .bool u.hn, .slice u.ha u.hN u.hc, .int .i64 u.bits], .int .i64 0]) (by simp [results, Try.results41, go_sem, q0, q1, q2, q3, q4]) rfl ⟨L, H, unhide HLH, u, rfl, unhide HU, ?_, ?_⟩
  · exact SpAt.put5 hup q0 q1 q2 q3 q4 _ _ _ _ _
  · exact set5 hBw (Nat.le_succ _) _ _ _ _ _

set_option maxRecDepth 100000 in
set_option maxHeartbeats 2000000 in
theorem made_erfc_bad (p q b : Int) (B0 : Nat) (w : World) (h : ¬ (rok p q ∧ 8 ≤ b ∧ b ≤ 120)) :
    Calls Try.prog 41 #[.agg #[.int .i64 p, .int .i64 q], .int .i64 b, .func (.func 44) #[] #[.pointer (some ⟨B0, 0, none⟩)]] w (PairAns w 0 250 0 0 3) := by
  have d1 : ratE p q b = 3 := by unfold ratE; rw [if_neg h]
  clear h
  go_enter Try.func41, Try.ntmps41
  go_wp2_with (go_at_call 65; refine (ratioFault1 _ _ _ (by simp) _ _ _ _).mono ?_; rintro r w1 ⟨rfl, hb1⟩; rw [d1]; obtain ⟨hsz1, hcell1, hfz1⟩ := near (w.heap.size + 1 + 1) (by simp) hb1)
  refine bodyPost_ret (v := .tuple #[.agg #[.bool false, .slice none 0 0, .bool false, .slice none 0 0, .int .i64 0], .int .i64 3]) (by simp [results, Try.results41, go_sem, hcell1]) rfl ⟨⟨false, none, 0, 0, false, none, 0, 0, 0⟩, rfl, rfl, zeroSp _ _, ?_⟩
  exact set5 (bthen (bl2 _ _ _) hb1) (Nat.le_succ _) _ _ _ _ _

set_option maxRecDepth 100000 in
set_option maxHeartbeats 2000000 in
theorem cerfc_ok (R : Nat → Rat) (hR : RootS piS R) (p q : Int) (b : Nat) (w : World) (hr : rok p q) (h5 : 8 ≤ b) (h6 : b ≤ 120) :
    Calls Try.prog 10 #[.agg #[.int .i64 p, .int .i64 q], .int .i64 b] w (fun r w' => ∃ L H, EcV R p q b L H ∧ PairAns w b 250 L H 0 r w') := by
  obtain ⟨W, hW⟩ : ∃ W, W = (w.alloc (.cells #[.int .i64 p, .int .i64 q] 23)).alloc (.cells #[.bool false, .slice none 0 0, .bool false, .slice none 0 0, .int .i64 0] 28) := ⟨_, rfl⟩
  have hBW : Below w.heap.size w W := by rw [hW]; exact bl2 _ _ _
  have A : RaC W w.heap.size p q := by rw [hW]; exact ⟨by simp [go_sem], by simp [go_sem]⟩
  have R' : NoC W (w.heap.size + 1) := by rw [hW]; exact ⟨by simp [go_sem], by simp [go_sem], by simp [go_sem], by simp [go_sem], by simp [go_sem], fun o => by simp [go_sem]⟩
  have HR := hide hr
  clear hr
  go_enter Try.func10, Try.ntmps10
  go_wp2_with fail
  rw [← hW]
  clear hW
  refine (made_erfc_ok R hR p q b w.heap.size _ (unhide HR) h5 h6 A).mono ?_
  rintro r' w3 ⟨L, H, hLH, u, rfl, hub, hup, hb3⟩
  obtain ⟨q0, q1, q2, q3, q4, q5⟩ := R'.below hb3
  have lR := (R'.below hb3).lt
  replace hBW := bthen hBW hb3
  have HU := hide hub
  have HLH := hide hLH
  clear hub hLH
  go_wp2_with fail
  refine bodyPost_ret (v := .tuple #[.agg #[.bool u.ln, .slice u.la u.lN u.lc, .bool u.hn, .slice u.ha u.hN u.hc, .int .i64 u.bits], .int .i64 0]) (by simp [results, Try.results10, go_sem, q0, q1, q2, q3, q4]) rfl ⟨L, H, unhide HLH, u, rfl, unhide HU, ?_, ?_⟩
  · exact SpAt.put5 hup q0 q1 q2 q3 q4 _ _ _ _ _
  · exact set5 hBW (Nat.le_succ _) _ _ _ _ _

set_option maxRecDepth 100000 in
set_option maxHeartbeats 2000000 in
theorem cerfc_bad (p q b : Int) (w : World) (h : ¬ (rok p q ∧ 8 ≤ b ∧ b ≤ 120)) :
    Calls Try.prog 10 #[.agg #[.int .i64 p, .int .i64 q], .int .i64 b] w (PairAns w 0 250 0 0 3) := by
  obtain ⟨W, hW⟩ : ∃ W, W = (w.alloc (.cells #[.int .i64 p, .int .i64 q] 23)).alloc (.cells #[.bool false, .slice none 0 0, .bool false, .slice none 0 0, .int .i64 0] 28) := ⟨_, rfl⟩
  have hBW : Below w.heap.size w W := by rw [hW]; exact bl2 _ _ _
  have A : RaC W w.heap.size p q := by rw [hW]; exact ⟨by simp [go_sem], by simp [go_sem]⟩
  have R' : NoC W (w.heap.size + 1) := by rw [hW]; exact ⟨by simp [go_sem], by simp [go_sem], by simp [go_sem], by simp [go_sem], by simp [go_sem], fun o => by simp [go_sem]⟩
  have HR := hide h
  clear h
  go_enter Try.func10, Try.ntmps10
  go_wp2_with fail
  rw [← hW]
  clear hW
  refine (made_erfc_bad p q b w.heap.size _ (unhide HR)).mono ?_
  rintro r' w3 ⟨u, rfl, hub, hup, hb3⟩
  obtain ⟨q0, q1, q2, q3, q4, q5⟩ := R'.below hb3
  have lR := (R'.below hb3).lt
  replace hBW := bthen hBW hb3
  have HU := hide hub
  clear hub
  go_wp2_with fail
  refine bodyPost_ret (v := .tuple #[.agg #[.bool u.ln, .slice u.la u.lN u.lc, .bool u.hn, .slice u.ha u.hN u.hc, .int .i64 u.bits], .int .i64 3]) (by simp [results, Try.results10, go_sem, q0, q1, q2, q3, q4]) rfl ⟨u, rfl, unhide HU, ?_, ?_⟩
  · exact SpAt.put5 hup q0 q1 q2 q3 q4 _ _ _ _ _
  · exact set5 hBW (Nat.le_succ _) _ _ _ _ _
end Go.Proofs.Ytgmnknmjainabab

namespace Go.Proofs.Ytgmnknmjainabab
set_option linter.unusedVariables false
open Ex

theorem absR_neg (p q : Int) : absR (-p) q = absR p q := by
  unfold absR
  congr 1
  rw [Rat.intCast_neg]
  by_cases h : p < 0
  · rw [if_pos h, if_neg (by omega)]
  · rw [if_neg h]
    by_cases h2 : 0 < p
    · rw [if_pos (by omega)]; grind
    · have : p = 0 := by omega
      subst this
      rw [if_neg (by omega)]
      decide +kernel
theorem erf_zero (R : Nat → Rat) (M : Nat) : erfS R 0 M = 0 := by
  have h : ∀ n, eT 0 n = 0 := fun n => by
    induction n with
    | zero => rfl
    | succ n ih => show _ * eT 0 n = 0; rw [ih]; grind
  have e : eS 0 M = 0 := by
    unfold eS
    induction M with
    | zero => rfl
    | succ n ih => show S (eT 0) n + eT 0 n = 0; rw [ih, h]; grind
  unfold erfS
  rw [e, Rat.div_def]
  grind
theorem absR_zero (q : Int) : absR 0 q = 0 := by unfold absR; rw [if_neg (by omega), Rat.div_def]; show (0 : Rat) * _ = 0; grind
theorem erR_neg (R : Nat → Rat) (p q : Int) (M : Nat) : erR R (-p) q M = -erR R p q M := by
  unfold erR
  rw [absR_neg]
  by_cases h : p < 0
  · rw [if_pos h, if_neg (by omega)]; grind
  · rw [if_neg h]
    by_cases h2 : 0 < p
    · rw [if_pos (by omega)]
    · have : p = 0 := by omega
      subst this
      rw [if_neg (by omega), absR_zero, erf_zero]
      grind
theorem sq_neg (p : Int) : -p * -p = p * p := by grind
theorem Iv.nought {b : Nat} {a : Int × Int} (h : Iv b a (fun _ => 0)) : a.1 ≤ 0 ∧ 0 ≤ a.2 := by
  have q := Qr_pos b
  obtain ⟨h1, h2⟩ := Has.of_const h
  constructor
  · refine Int.not_lt.1 fun hlt => ?_
    have : (0 : Rat) < (a.1 : Rat) := by exact_mod_cast hlt
    have := rdiv_pos this q
    grind
  · refine Int.not_lt.1 fun hlt => ?_
    have h3 : (a.2 : Rat) < 0 := by exact_mod_cast hlt
    have h4 := rdiv_pos (show 0 < -(a.2 : Rat) by grind) q
    have e : -(a.2 : Rat) / (Q b : Rat) = -((a.2 : Rat) / (Q b : Rat)) := by rw [Rat.div_def, Rat.div_def, Rat.neg_mul]
    grind
theorem far_ne {p q : Int} {b : Nat} (hq : 0 < q) (h : q * q * ((b : Int) + 32) ≤ p * p) : p ≠ 0 := fun e => by
  subst e
  have := Int.mul_pos (Int.mul_pos hq hq) (show 0 < (b : Int) + 32 by omega)
  omega
theorem add_nought {R : Nat → Rat} {p q : Int} {b : Nat} {L H L' H' : Int} (hq : 0 < q) (h : ErV R p q b L H) (k : ErV R (-p) q b L' H') : L + L' ≤ 0 ∧ 0 ≤ H + H' := by
  have qb := Q_pos b
  rcases h.val with ⟨h1, h2⟩ | ⟨h1, h2⟩
  · have h0 := far_ne hq h1
    rcases k.val with ⟨k1, k2⟩ | ⟨k1, k2⟩
    · unfold sgn2 at h2 k2
      by_cases hp : p < 0
      · rw [if_pos hp] at h2; rw [if_neg (by omega)] at k2
        simp only [Prod.mk.injEq] at h2 k2; omega
      · rw [if_neg hp] at h2; rw [if_pos (by omega)] at k2
        simp only [Prod.mk.injEq] at h2 k2; omega
    · rw [sq_neg] at k1; omega
  · rcases k.val with ⟨k1, k2⟩ | ⟨k1, k2⟩
    · rw [sq_neg] at k1; omega
    · have s := Iv.add h2 k2
      have s2 : Iv b (addI (L, H) (L', H')) (fun _ => 0) := Has.of_eq s fun M => by rw [erR_neg]; grind
      exact s2.nought
theorem Iv.unit {b : Nat} {a : Int × Int} (h : Iv b a (fun _ => 1)) : a.1 ≤ Q b ∧ Q b ≤ a.2 := by
  have s := Iv.sub h (one_iv b)
  have s2 : Iv b (subI a (Q b, Q b)) (fun _ => 0) := Has.of_eq s fun M => by grind
  have := s2.nought
  have e1 : (subI a (Q b, Q b)).1 = a.1 - Q b := rfl
  have e2 : (subI a (Q b, Q b)).2 = a.2 - Q b := rfl
  omega
theorem add_unit {R : Nat → Rat} {p q : Int} {b : Nat} {L H L' H' : Int} (hq : 0 < q) (h : ErV R p q b L H) (k : EcV R p q b L' H') : L + L' ≤ Q b ∧ Q b ≤ H + H' := by
  have qb := Q_pos b
  rcases h.val with ⟨h1, h2⟩ | ⟨h1, h2⟩
  · rcases k.val with ⟨k1, k2⟩ | ⟨k1, k2⟩
    · unfold restI sgn2 at k2
      unfold sgn2 at h2
      by_cases hp : p < 0
      · rw [if_pos hp] at h2 k2
        simp only [Prod.mk.injEq] at h2 k2; omega
      · rw [if_neg hp] at h2 k2
        simp only [Prod.mk.injEq] at h2 k2; omega
    · omega
  · rcases k.val with ⟨k1, k2⟩ | ⟨k1, k2⟩
    · omega
    · have s := Iv.add h2 k2
      have s2 : Iv b (addI (L, H) (L', H')) (fun _ => 1) := Has.of_eq s fun M => by grind
      exact s2.unit
/-- More, and so farther away. -/
theorem far_more {p q p' q' : Int} {b : Nat} (hq : 0 < q) (hq' : 0 < q') (hp : 0 < p) (hle : p * q' ≤ p' * q) (h : q * q * ((b : Int) + 32) ≤ p * p) : 0 < p' ∧ q' * q' * ((b : Int) + 32) ≤ p' * p' := by
  have a := Int.mul_pos hp hq'
  have p0 : 0 < p' := by
    refine Int.not_le.1 fun hh => ?_
    have := Int.mul_nonneg (show 0 ≤ -p' by omega) (show 0 ≤ q by omega)
    have e : -p' * q = -(p' * q) := by grind
    omega
  refine ⟨p0, ?_⟩
  have m1 := Int.mul_le_mul hle hle (show 0 ≤ p * q' by omega) (show 0 ≤ p' * q by have := Int.mul_pos p0 hq; omega)
  have qq := Int.mul_pos hq' hq'
  have m2 := Int.mul_le_mul_of_nonneg_right h (show 0 ≤ q' * q' by omega)
  refine Int.le_of_mul_le_mul_right (a := q * q) ?_ (Int.mul_pos hq hq)
  have e1 : q' * q' * ((b : Int) + 32) * (q * q) = q * q * ((b : Int) + 32) * (q' * q') := by grind
  have e2 : p' * p' * (q * q) = p' * q * (p' * q) := by grind
  have e3 : p * p * (q' * q') = p * q' * (p * q') := by grind
  omega
theorem rat_le {p q p' q' : Int} (hq : 0 < q) (hq' : 0 < q') (h : p * q' ≤ p' * q) : (p : Rat) / (q : Rat) ≤ (p' : Rat) / (q' : Rat) := by
  have a : (0 : Rat) < (q : Rat) := by exact_mod_cast hq
  have b : (0 : Rat) < (q' : Rat) := by exact_mod_cast hq'
  refine rle_div b ?_
  refine Rat.le_of_mul_le_mul_right (c := (q : Rat)) ?_ a
  have e : (p : Rat) / (q : Rat) * (q' : Rat) * (q : Rat) = (p : Rat) / (q : Rat) * (q : Rat) * (q' : Rat) := by grind
  rw [e, rdm a]
  have := cast_le h
  rw [Rat.intCast_mul, Rat.intCast_mul] at this
  exact this
theorem erR_mono {R : Nat → Rat} (hR : RootS piS R) {p q p' q' : Int} (hq : 0 < q) (hq' : 0 < q') (h : p * q' ≤ p' * q) : LeN (erR R p q) (erR R p' q') := by
  have a0 := (absR_ok (p := p) hq).1
  have a0' := (absR_ok (p := p') hq').1
  by_cases hp : p < 0
  · by_cases hp' : p' < 0
    · have hle : absR p' q' ≤ absR p q := by
        unfold absR
        rw [if_pos hp, if_pos hp', ← Rat.intCast_neg, ← Rat.intCast_neg]
        refine rat_le hq' hq ?_
        have e1 : -p' * q = -(p' * q) := by grind
        have e2 : -p * q' = -(p * q') := by grind
        omega
      obtain ⟨z, hz, k⟩ := (erf_mono hR a0' hle).null
      refine LeN.of_null hz 0 fun M _ => ?_
      unfold erR
      rw [if_pos hp, if_pos hp']
      have := k M
      grind
    · refine LeN.of_le 1 fun M hM => ?_
      unfold erR
      rw [if_pos hp, if_neg hp']
      have := erf_nonneg hR a0 hM
      have := erf_nonneg hR a0' hM
      grind
  · have hp' : ¬ p' < 0 := fun hh => by
      have m1 := Int.mul_nonneg (show 0 ≤ p by omega) (show 0 ≤ q' by omega)
      have m2 := Int.mul_pos (show 0 < -p' by omega) hq
      have e : -p' * q = -(p' * q) := by grind
      omega
    have hle : absR p q ≤ absR p' q' := by
      unfold absR
      rw [if_neg hp, if_neg hp']
      exact rat_le hq hq' h
    refine (LeN.of_le 0 fun M _ => ?_).trans ((erf_mono hR a0 hle).trans (LeN.of_le 0 fun M _ => ?_))
    · unfold erR; rw [if_neg hp]; grind
    · unfold erR; rw [if_neg hp']; grind
theorem er_mono {R : Nat → Rat} (hR : RootS piS R) {p q p' q' : Int} {b : Nat} {L H L' H' : Int} (hq : 0 < q) (hq' : 0 < q') (h : p * q' ≤ p' * q) (v : ErV R p q b L H) (v' : ErV R p' q' b L' H') : L ≤ H' := by
  have qb := Q_pos b
  have a1 := v.le
  have a2 := v.lo
  have a3 := v.hi
  have b1 := v'.le
  have b2 := v'.lo
  have b3 := v'.hi
  rcases v.val with ⟨h1, h2⟩ | ⟨h1, h2⟩
  · have h0 := far_ne hq h1
    by_cases hp : p < 0
    · unfold sgn2 at h2; rw [if_pos hp] at h2; simp only [Prod.mk.injEq] at h2; omega
    · obtain ⟨f1, f2⟩ := far_more hq hq' (show 0 < p by omega) h h1
      rcases v'.val with ⟨k1, k2⟩ | ⟨k1, k2⟩
      · unfold sgn2 at h2 k2; rw [if_neg hp] at h2; rw [if_neg (by omega)] at k2
        simp only [Prod.mk.injEq] at h2 k2; omega
      · omega
  · rcases v'.val with ⟨k1, k2⟩ | ⟨k1, k2⟩
    · have k0 := far_ne hq' k1
      by_cases hp : p' < 0
      · obtain ⟨f1, f2⟩ := far_more (p := -p') (p' := -p) hq' hq (show 0 < -p' by omega) (by
          have e1 : -p' * q = -(p' * q) := by grind
          have e2 : -p * q' = -(p * q') := by grind
          omega) (by rw [sq_neg]; exact k1)
        rw [sq_neg] at f2
        omega
      · unfold sgn2 at k2; rw [if_neg hp] at k2; simp only [Prod.mk.injEq] at k2; omega
    · obtain ⟨z, hz, k⟩ := (erR_mono hR hq hq' h).null
      exact Iv.touch_le h2 k2 hz 0 fun M _ => k M
theorem ec_mono {R : Nat → Rat} (hR : RootS piS R) {p q p' q' : Int} {b : Nat} {L H L' H' : Int} (hq : 0 < q) (hq' : 0 < q') (h : p * q' ≤ p' * q) (v : EcV R p q b L H) (v' : EcV R p' q' b L' H') : L' ≤ H := by
  have qb := Q_pos b
  have a1 := v.le
  have a2 := v.lo
  have a3 := v.hi
  have b1 := v'.le
  have b2 := v'.lo
  have b3 := v'.hi
  rcases v.val with ⟨h1, h2⟩ | ⟨h1, h2⟩
  · have h0 := far_ne hq h1
    by_cases hp : p < 0
    · unfold restI sgn2 at h2; rw [if_pos hp] at h2; simp only [Prod.mk.injEq] at h2; omega
    · obtain ⟨f1, f2⟩ := far_more hq hq' (show 0 < p by omega) h h1
      rcases v'.val with ⟨k1, k2⟩ | ⟨k1, k2⟩
      · unfold restI sgn2 at h2 k2; rw [if_neg hp] at h2; rw [if_neg (by omega)] at k2
        simp only [Prod.mk.injEq] at h2 k2; omega
      · omega
  · rcases v'.val with ⟨k1, k2⟩ | ⟨k1, k2⟩
    · have k0 := far_ne hq' k1
      by_cases hp : p' < 0
      · obtain ⟨f1, f2⟩ := far_more (p := -p') (p' := -p) hq' hq (show 0 < -p' by omega) (by
          have e1 : -p' * q = -(p' * q) := by grind
          have e2 : -p * q' = -(p * q') := by grind
          omega) (by rw [sq_neg]; exact k1)
        rw [sq_neg] at f2
        omega
      · unfold restI sgn2 at k2; rw [if_neg hp] at k2; simp only [Prod.mk.injEq] at k2; omega
    · obtain ⟨z, hz, k⟩ := (erR_mono hR hq hq' h).null
      exact Iv.touch_le k2 h2 hz 0 fun M _ => by have := k M; grind
theorem one_ser : riseI (riT (Q 40, Q 40) (erU 1) (erD 1)) 14 = (2232094882262, 2232094882285) := by decide +kernel
theorem one_rise : IsRise (riT (Q 40, Q 40) (erU 1) (erD 1)) (erTurn 1 1) 14 := ⟨by decide +kernel, by decide +kernel, by decide +kernel⟩
theorem one_exp : sqI 40 (doneI (expT 40 (downI (Q 40, Q 40) 8)) 8) 8 = (2988782476012, 2988782482163) := by decide +kernel
theorem one_pi : piI 40 9 3 = (3454217652248, 3454217652480) := by decide +kernel
theorem one_den : mulI 40 (1948833618736, 1948833618802) (2988782476012, 2988782482163) = (5297479009042, 5297479020124) := by decide +kernel
/-- The error function of 1. -/
theorem erf_of_one {R : Nat → Rat} (hR : RootS piS R) {L H : Int} (v : ErV R 1 1 20 L H) : L ≤ 883636 ∧ 883635 ≤ H := by
  have q40 : Q 40 = 1099511627776 := rfl
  have q20 : Q 20 = 1048576 := rfl
  have a1 : absR 1 1 = 1 := by decide +kernel
  have i1 : Iv 40 (2232094882262, 2232094882285) (eS 1) := by
    have := er_has (B := 40) (N := 14) (a := (Q 40, Q 40)) (n := 1) (d := 1) (x := 1) (by grind) (by omega) (by omega) (by decide +kernel) (one_iv 40) one_rise
    rw [one_ser] at this
    exact this
  have i2 : Iv 40 (2988782476012, 2988782482163) (ex (1 * 1)) := by
    have := exp_has (B := 40) (N := 8) (t := 8) (a := (Q 40, Q 40)) (by omega) (one_iv 40) (by
      have e : downI (Q 40, Q 40) 8 = (Q 32, Q 32) := by decide +kernel
      rw [e]
      have := Q_pos 32
      exact ⟨by show -Q 32 ≤ Q 32; omega, Int.le_refl _, by show -Q 32 ≤ Q 32; omega, Int.le_refl _⟩)
    rw [one_exp] at this
    rw [show (1 : Rat) * 1 = 1 by decide +kernel]
    exact this
  have i3 : Iv 40 (1948833618736, 1948833618802) R := by
    have h := pi_has 40 9 3
    rw [one_pi] at h
    exact root_iv h hR (by rw [q40]; decide +kernel) (by omega) (by rw [q40]; decide +kernel)
  have i4 := Iv.mul i3 i2
  rw [one_den] at i4
  have i5 : Iv 40 (926559319262, 926559321211) (erfS R 1) := by
    have := Iv.div (s := timesI (2232094882262, 2232094882285) 2) (i1.times 2) i4 (by decide) (lo := 926559319262) (hi := 926559321211) (by rw [q40]; decide +kernel) (by rw [q40]; decide +kernel) (by rw [q40]; decide +kernel) (by rw [q40]; decide +kernel)
    exact this
  rcases v.val with ⟨h1, _⟩ | ⟨_, h2⟩
  · exact absurd h1 (by decide)
  · have e : erR R 1 1 = erfS R 1 := by funext M; unfold erR; rw [if_neg (by decide), a1]
    rw [e] at h2
    have t1 := Iv.touch h2 i5
    have t2 := Iv.touch i5 h2
    rw [q40, q20] at t1 t2
    simp only [] at t1 t2
    omega
end Go.Proofs.Ytgmnknmjainabab

namespace Go.Proofs.Ytgmnknmjainabab
set_option linter.unusedVariables false
set_option linter.unusedSimpArgs false
set_option linter.unnecessarySimpa false
open Go.RowKit
attribute [local go_sem ↓] Go.wp_at_zero Go.wp_at_succ

/-- Do two spans touch? Of each the ends, and how many bits more it is told by. -/
def touB (lo hi : Int) (i : Nat) (lo' hi' : Int) (j : Nat) : Bool := decide (lo * Q i ≤ hi' * Q j) && decide (lo' * Q j ≤ hi * Q i)

theorem downZ_up (x : Int) (a b : Int) (i : Nat) (h : b - a = (i : Int)) : downZ x (a - b) = x * Q i := by
  unfold downZ
  by_cases h0 : i = 0
  · subst h0
    have e : a - b = 0 := by omega
    rw [e]; simp [Q]
  · rw [if_neg (by omega)]; congr 2; omega
theorem downZ_upn (x : Int) (a b : Int) (i : Nat) (h : b - a = (i : Int)) : -(downZ (-x) (a - b)) = x * Q i := by
  rw [downZ_up _ a b i h, Int.neg_mul, Int.neg_neg]

set_option maxRecDepth 100000 in
set_option maxHeartbeats 4000000 in
theorem touch_le (w : World) (s t : Sp) (k i j : Nat) (lo hi lo' hi' : Int) (hs : SpAt w s k lo hi) (ht : SpAt w t k lo' hi') (hk : k ≤ 300000000) (s0 : 0 ≤ s.bits) (s1 : s.bits ≤ 1000000) (t0 : 0 ≤ t.bits) (t1 : t.bits ≤ 1000000) (hc : t.bits ≤ s.bits) (hi1 : s.bits - s.bits = (i : Int)) (hj1 : s.bits - t.bits = (j : Int)) :
    Calls Try.prog 23 #[.agg #[.bool s.ln, .slice s.la s.lN s.lc, .bool s.hn, .slice s.ha s.hN s.hc, .int .i64 s.bits], .agg #[.bool t.ln, .slice t.la t.lN t.lc, .bool t.hn, .slice t.ha t.hN t.hc, .int .i64 t.bits]] w fun r w' => r = .returned (.bool (touB lo hi i lo' hi' j)) ∧ Below w.heap.size w w' := by
  obtain ⟨W, hW⟩ : ∃ W, W = (w.alloc (.cells #[.bool s.ln, .slice s.la s.lN s.lc, .bool s.hn, .slice s.ha s.hN s.hc, .int .i64 s.bits] 36)).alloc (.cells #[.bool t.ln, .slice t.la t.lN t.lc, .bool t.hn, .slice t.ha t.hN t.hc, .int .i64 t.bits] 36) := ⟨_, rfl⟩
  have hBW : Below w.heap.size w W := by rw [hW]; exact bl2 _ _ _
  have A : SpC W w.heap.size s := by rw [hW]; exact ⟨by simp [go_sem], by simp [go_sem], by simp [go_sem], by simp [go_sem], by simp [go_sem]⟩
  have G : SpC W (w.heap.size + 1) t := by rw [hW]; exact ⟨by simp [go_sem], by simp [go_sem], by simp [go_sem], by simp [go_sem], by simp [go_sem]⟩
  have FA : ∀ o, W.frozen? ⟨w.heap.size, o, none⟩ = false := by intro o; rw [hW]; simp [go_sem]
  have FG : ∀ o, W.frozen? ⟨w.heap.size + 1, o, none⟩ = false := by intro o; rw [hW]; simp [go_sem]
  have a1 := hide (downZ_up lo s.bits (s.bits) i hi1)
  have a2 := hide (downZ_upn hi s.bits (s.bits) i hi1)
  have a3 := hide (downZ_up lo' t.bits (s.bits) j hj1)
  have a4 := hide (downZ_upn hi' t.bits (s.bits) j hj1)
  have HS := hide (hs.below hBW)
  have HT := hide (ht.below hBW)
  have HA := hide A
  have HG := hide G
  have lA := A.lt
  have lG := G.lt
  have nAG : w.heap.size ≠ w.heap.size + 1 := by omega
  clear hi1 hj1 hs ht
  go_enter Try.func23, Try.ntmps23
  go_wp2_with fail
  rw [← hW]
  clear hW
  obtain ⟨x0, x1, x2, x3, x4⟩ := A
  obtain ⟨y0, y1, y2, y3, y4⟩ := G
  try go_wp2_with fail
  go_cut [] (fun wx => ∃ s2 t2 : Sp, SpC wx w.heap.size s2 ∧ SpC wx (w.heap.size + 1) t2 ∧ SpAt wx s2 (k + 62505) (lo * Q i) (hi * Q i) ∧ SpAt wx t2 (k + 62505) (lo' * Q j) (hi' * Q j) ∧ Below w.heap.size w wx)
  case first =>
    go_region_with
      (first
        | (go_at_call 58; have hq := hB1; refine (refTurn_int _ t k (s.bits) lo' hi' ((unhide HT).below hB1) hk t0 t1 (by omega) (by omega)).mono ?_; rintro r w2 ⟨u2, rfl, hub2, hup2, hb2⟩; rw [unhide a3, unhide a4] at hup2; clear hub2; have hB2 := bthen hB1 hb2; replace hup1 := hup1.below hb2; have l2A := Nat.lt_of_lt_of_le lA hB2.size; have l2G := Nat.lt_of_lt_of_le lG hB2.size; obtain ⟨a0, a1, a2, a3, a4⟩ := (unhide HA).below hB2; obtain ⟨g0, g1, g2, g3, g4⟩ := (unhide HG).below hB2; have fA2 : ∀ o, w2.frozen? ⟨w.heap.size, o, none⟩ = false := (fun o => (hB2.frozen (p := ⟨w.heap.size, o, none⟩) lA).trans (FA o)); have fG2 : ∀ o, w2.frozen? ⟨w.heap.size + 1, o, none⟩ = false := (fun o => (hB2.frozen (p := ⟨w.heap.size + 1, o, none⟩) lG).trans (FG o)))
        | (go_at_call 58; refine (refTurn_int _ s k (s.bits) lo hi ((unhide HS).below (by repeat' (first | with_reducible exact Below.refl _ _ | with_reducible refine Below.drew ?_))) hk s0 s1 (by omega) (by omega)).mono ?_; rintro r w1 ⟨u1, rfl, hub1, hup1, hb1⟩; rw [unhide a1, unhide a2] at hup1; clear hub1; have hB1 : Below W.heap.size W w1 := bthen (by repeat' (first | with_reducible exact Below.refl _ _ | with_reducible refine Below.drew ?_)) hb1; obtain ⟨b0, b1, b2, b3, b4⟩ := (unhide HA).below hB1; obtain ⟨d0, d1, d2, d3, d4⟩ := (unhide HG).below hB1; have l1A := Nat.lt_of_lt_of_le lA hB1.size; have l1G := Nat.lt_of_lt_of_le lG hB1.size))
    all_goals
      go_wp2_with fail
      go_meet
      have A2 : SpC w2 w.heap.size s := ⟨a0, a1, a2, a3, a4⟩
      have G2 : SpC w2 (w.heap.size + 1) t := ⟨g0, g1, g2, g3, g4⟩
      obtain ⟨p1, p2, p3, p4⟩ := two_sp A2 G2 nAG u1 u2
      exact ⟨u1, u2, p1, p2, p3 hup1, p3 hup2, set5 (set5 (bthen hBW hB2) (Nat.le_refl _) _ _ _ _ _) (Nat.le_succ _) _ _ _ _ _⟩
  case rest =>
  obtain ⟨s2, t2, A, G, hs, ht, hBW⟩ := hcut
  clear HA HG HS HT lA lG x0 x1 x2 x3 x4 y0 y1 y2 y3 y4 FA FG
  have lA := A.lt
  have lG := G.lt
  by_cases hq : lo * Q i ≤ hi' * Q j
  · have c1 : cmpInt (lo * Q i) (hi' * Q j) ≤ 0 := by unfold cmpInt; split; omega; rw [if_neg (by omega)]; omega
    have HE := hide (show decide (cmpInt (lo' * Q j) (hi * Q i) ≤ 0) = touB lo hi i lo' hi' j by rw [cmp_le0]; unfold touB; rw [decide_eq_true hq, Bool.true_and])
    obtain ⟨x0, x1, x2, x3, x4⟩ := A
    obtain ⟨y0, y1, y2, y3, y4⟩ := G
    clear hq
    go_wp2_with fail
    refine (cmp_int _ _ _ _ _ _ _ _ (k + 62505) (k + 62505) (lo * Q i) (hi' * Q j) _ hs.lo ht.hi).mono ?_
    rintro r w1 ⟨rfl, hb1⟩
    have A := (SpC.mk x0 x1 x2 x3 x4).below hb1
    have G := (SpC.mk y0 y1 y2 y3 y4).below hb1
    replace hs := hs.below hb1
    replace ht := ht.below hb1
    replace hBW := bthen hBW hb1
    clear x0 x1 x2 x3 x4 y0 y1 y2 y3 y4 hb1
    obtain ⟨x0, x1, x2, x3, x4⟩ := A
    obtain ⟨y0, y1, y2, y3, y4⟩ := G
    go_wp2_with fail
    refine (cmp_int _ _ _ _ _ _ _ _ (k + 62505) (k + 62505) (lo' * Q j) (hi * Q i) _ ht.lo hs.hi).mono ?_
    rintro r w2 ⟨rfl, hb2⟩
    replace hBW := bthen hBW hb2
    go_wp2_with fail
    go_ret
    exact ⟨by rw [← unhide HE]; rfl, hBW⟩
  · have c1 : ¬ cmpInt (lo * Q i) (hi' * Q j) ≤ 0 := by unfold cmpInt; rw [if_neg (by omega), if_pos (by omega)]; omega
    have HE := hide (show touB lo hi i lo' hi' j = false by unfold touB; rw [decide_eq_false hq, Bool.false_and])
    obtain ⟨x0, x1, x2, x3, x4⟩ := A
    obtain ⟨y0, y1, y2, y3, y4⟩ := G
    clear hq
    go_wp2_with fail
    refine (cmp_int _ _ _ _ _ _ _ _ (k + 62505) (k + 62505) (lo * Q i) (hi' * Q j) _ hs.lo ht.hi).mono ?_
    rintro r w1 ⟨rfl, hb1⟩
    replace hBW := bthen hBW hb1
    go_wp2_with fail
    go_ret
    exact ⟨by rw [unhide HE]; rfl, hBW⟩
end Go.Proofs.Ytgmnknmjainabab

namespace Go.Proofs.Ytgmnknmjainabab
set_option linter.unusedVariables false
set_option linter.unusedSimpArgs false
set_option linter.unnecessarySimpa false
open Go.RowKit
attribute [local go_sem ↓] Go.wp_at_zero Go.wp_at_succ

/-- Where tailsureref.lowExp is behind some rounds. -/
structure LowSt (w wr : World) (B5 B6 B7 b K : Nat) (U Pp Sm : Sp) (f : Nat → Int × Int) (X : Int) (i : Nat) : Prop where
  u : VrC wr B5 U
  p : VrC wr B6 Pp
  s : VrC wr B7 Sm
  up : SpAt wr U K (f i).1 (f i).2
  pp : SpAt wr Pp K X X
  sp : SpAt wr Sm K (sumI f i).1 (sumI f i).2
  ub : U.bits = (b : Int)
  pb : Pp.bits = (b : Int)
  sb : Sm.bits = (b : Int)
  no : NoC wr (w.heap.size + 1)
  be : Below w.heap.size w wr
  l5 : w.heap.size + 1 < B5
  l6 : w.heap.size + 1 < B6
  l7 : w.heap.size + 1 < B7
  n56 : B5 ≠ B6
  n57 : B5 ≠ B7
  n67 : B6 ≠ B7
theorem LowSt.below {w wr wr' : World} {B5 B6 B7 b K : Nat} {U Pp Sm : Sp} {f : Nat → Int × Int} {X : Int} {i : Nat} (h : LowSt w wr B5 B6 B7 b K U Pp Sm f X i) (hb : Below wr.heap.size wr wr') : LowSt w wr' B5 B6 B7 b K U Pp Sm f X i :=
  ⟨h.u.below hb, h.p.below hb, h.s.below hb, h.up.below hb, h.pp.below hb, h.sp.below hb, h.ub, h.pb, h.sb, h.no.below hb, bthen h.be hb, h.l5, h.l6, h.l7, h.n56, h.n57, h.n67⟩

end Go.Proofs.Ytgmnknmjainabab

namespace Go.Proofs.Ytgmnknmjainabab
set_option linter.unusedVariables false
set_option linter.unusedSimpArgs false
set_option linter.unnecessarySimpa false
open Go.RowKit
attribute [local go_sem ↓] Go.wp_at_zero Go.wp_at_succ

structure RaiSt2 (w wr : World) (B5 b K : Nat) (O S : Sp) (o s : Int × Int) : Prop where
  u : VrC wr B5 O
  v : VrC wr w.heap.size S
  up : SpAt wr O K o.1 o.2
  vp : SpAt wr S K s.1 s.2
  ub : O.bits = (b : Int)
  vb : S.bits = (b : Int)
  no : NoC wr (w.heap.size + 1)
  be : Below w.heap.size w wr
  l5 : w.heap.size + 1 < B5
theorem RaiSt2.below {w wr wr' : World} {B5 b K : Nat} {O S : Sp} {o s : Int × Int} (h : RaiSt2 w wr B5 b K O S o s) (hb : Below wr.heap.size wr wr') : RaiSt2 w wr' B5 b K O S o s :=
  ⟨h.u.below hb, h.v.below hb, h.up.below hb, h.vp.below hb, h.ub, h.vb, h.no.below hb, bthen h.be hb, h.l5⟩

end Go.Proofs.Ytgmnknmjainabab

namespace Go.Proofs.Ytgmnknmjainabab
set_option linter.unusedVariables false
set_option linter.unusedSimpArgs false
set_option linter.unnecessarySimpa false
open Go.RowKit
attribute [local go_sem ↓] Go.wp_at_zero Go.wp_at_succ

theorem narrowBy_four (w : World) (s : Sp) (b : Nat) (lo hi : Int) (h : SpAt w s 250 lo hi) (hb : s.bits = b) (hb1 : b ≤ 120) (hle : lo ≤ hi) (hN : narB lo hi (Q b) 4 = true) :
    Calls Try.prog 49 #[.agg #[.bool s.ln, .slice s.la s.lN s.lc, .bool s.hn, .slice s.ha s.hN s.hc, .int .i64 s.bits], .int .i64 4] w fun r w' => r = .returned (.bool true) ∧ Below w.heap.size w w' :=
  (narrowBy_int w s b 4 lo hi h hb hb1 (by omega) hle).mono fun r w' ⟨h1, h2⟩ => ⟨by rw [h1]; congr 2, h2⟩

end Go.Proofs.Ytgmnknmjainabab
