/-
  What power.Exp answers, and that it leaves old memory alone.
  What power.Exp answers, errors too, and that it leaves old memory alone.
  What wide.Raised answers of a whole number and of how often it is taken, and that it leaves old memory alone.
  What wide.balanced answers, and that it leaves old memory alone.
-/
import Derived.Test.YtgmnknmjainabaaK09
namespace Go.Proofs.Ytgmnknmjainabaa
set_option linter.unusedVariables false
set_option linter.unusedSimpArgs false
set_option linter.unnecessarySimpa false
open Go.RowKit
attribute [local go_sem ↓] Go.wp_at_zero Go.wp_at_succ

/-- Each number from 0 on has a length. -/
theorem len_ex {z : Int} (hz : 0 ≤ z) {e : Nat} (he : z < Q e) : ∃ l, LenIs z l ∧ l ≤ e ∧ z < Q l.toNat := by
  by_cases hp : 0 < z
  · have key : ∀ e : Nat, z < Q e → ∃ L : Nat, L + 1 ≤ e ∧ Q L ≤ z ∧ z < Q (L + 1) := fun e => by
      induction e with
      | zero => intro h; simp [Q] at h; omega
      | succ e ih =>
        intro h
        by_cases hq : Q e ≤ z
        · exact ⟨e, Nat.le_refl _, hq, h⟩
        · obtain ⟨L, h1, h2⟩ := ih (by omega)
          exact ⟨L, by omega, h2⟩
    obtain ⟨L, h1, h2, h3⟩ := key e he
    exact ⟨(L : Int) + 1, ⟨by omega, fun h => by omega, fun _ => ⟨L, rfl, h2, h3⟩⟩, by omega, by rw [show ((L : Int) + 1).toNat = L + 1 by omega]; exact h3⟩
  · have : z = 0 := by omega
    subst this
    exact ⟨0, ⟨by omega, fun _ => rfl, fun h => by omega⟩, by omega, by simp [Q]⟩
/-- How wide.Exp goes about it. -/
theorem exp_set {B e : Nat} {a : Int × Int} (hB : 16 ≤ B) (ha : a.1 ≤ a.2) (h : reachI a < Q (B + e)) :
    ∃ (l : Int) (t N : Nat), LenIs (reachI a) l ∧ (t : Int) = max 0 (l - B + 8) ∧ t ≤ e + 8 ∧ Abs (downI a t) (Q (B - 8)) ∧ IsStop (expT B (downI a t)) N := by
  obtain ⟨l, h1, h2, h3⟩ := len_ex (reach_pair ha) h
  obtain ⟨t, ht⟩ : ∃ t : Nat, (t : Int) = max 0 (l - B + 8) := ⟨(max 0 (l - (B : Int) + 8)).toNat, by omega⟩
  have hA : Abs (downI a t) (Q (B - 8)) := by
    obtain ⟨g1, g2, g3, g4⟩ := reach_abs ha
    have q := Q_pos t
    have hm := Q_mono (show l.toNat ≤ B - 8 + t by omega)
    rw [Q_add] at hm
    have r1 := round_abs (x := a.1) (m := Q (B - 8)) (q := Q t) (by omega) (by omega) (by omega)
    have r2 := round_abs (x := a.2) (m := Q (B - 8)) (q := Q t) (by omega) (by omega) (by omega)
    exact ⟨r1.1, r1.2.1, r2.2.2.1, r2.2.2.2⟩
  obtain ⟨N, n1, n2⟩ := stop_ex (s := 8) (by omega) (expT_abs (by omega) hA)
  exact ⟨l, t, N, h1, ht, by omega, hA, n2⟩
theorem P200 (m : Nat) : P 200 * Q m = Q (3200 + m) := by rw [Q_add, ← Q_P]
/-- What is made of a power of e. -/
def ExpPr (x : Nat → Rat) (Kw ee B : Nat) (lo hi : Int) : Prop :=
  Iv B (lo, hi) (Ex.Ev x) ∧ lo ≤ hi ∧ hi - lo ≤ Q Kw ∧ -Q (B + ee) ≤ lo ∧ hi ≤ Q (B + ee)
theorem exp_ends (bits : Nat) (x : Nat → Rat) (Kw ee : Nat) (h : bits + ee ≤ 3200) : SureEnds bits Kw (ExpPr x Kw ee) := fun m lo hi ⟨h1, h2, h3, h4, h5⟩ => by
  have := Q_mono (show bits + m + ee ≤ 3200 + m by omega)
  rw [P200]
  exact ⟨h2, h3, by omega, by omega⟩
theorem wb_17 : wb 17 = 1678 := by decide
theorem eb_17 : eb 17 = 1536 := by decide
theorem exp_pr {bits m t N T : Nat} {a : Int × Int} {x : Nat → Rat} (hb : bits ≤ 120) (hm : 32 ≤ m) (hm2 : m ≤ 1820) (ha : a.1 ≤ a.2) (hw : a.2 - a.1 ≤ 1) (hx : Iv (bits + m) a x) (ht : t ≤ T) (hT : T ≤ 17) (hA : Abs (downI a t) (Q (bits + m - 8))) (hN : IsStop (expT (bits + m) (downI a t)) N) :
    ExpPr x 1700 (eb T) (bits + m) (sqI (bits + m) (doneI (expT (bits + m) (downI a t)) N) t).1 (sqI (bits + m) (doneI (expT (bits + m) (downI a t)) N) t).2 := by
  have q := Q_pos t
  obtain ⟨g1, g2, g3, g4⟩ := exp_bound (ws := 1) (by omega) hA ha (by omega) hN
  have hwb := Q_mono (wb_mono (show t ≤ 17 by omega))
  rw [wb_17] at hwb
  have heb : Q (bits + m + eb t) ≤ Q (bits + m + eb T) := Q_mono (by have := eb_mono ht; omega)
  refine ⟨exp_has (by omega) hx hA, g1, ?_, ?_, ?_⟩
  · refine Int.le_trans g4 ?_
    have e : Q 1700 = 4194304 * Q 1678 := by
      have := Q_add 22 1678
      rw [show 22 + 1678 = 1700 by omega] at this
      rw [this]; rfl
    rw [e]
    have q2 := Q_pos (wb t)
    exact Int.mul_le_mul (by omega) hwb (by omega) (by omega)
  · have := g2.1; omega
  · have := g2.2.2.2; omega

/-- A ratio in a block. -/
structure RaC (w : World) (B : Nat) (p q : Int) : Prop where
  c0 : w.cell? ⟨B, 0, none⟩ = some (.int .i64 p)
  c1 : w.cell? ⟨B, 1, none⟩ = some (.int .i64 q)
theorem RaC.lt {w : World} {B : Nat} {p q : Int} (h : RaC w B p q) : B < w.heap.size := World.block_lt_of_cell? w ⟨B, 0, none⟩ h.c0
theorem RaC.below {w w' : World} {B : Nat} {p q : Int} (h : RaC w B p q) (hb : Below w.heap.size w w') : RaC w' B p q :=
  ⟨(hb.cell (p := ⟨B, 0, none⟩) h.lt).trans h.c0, (hb.cell (p := ⟨B, 1, none⟩) h.lt).trans h.c1⟩
theorem rac_new (w : World) (p q : Int) (T : TypeId) : RaC (w.alloc (.cells #[.int .i64 p, .int .i64 q] T)) w.heap.size p q := ⟨by simp, by simp⟩

set_option maxRecDepth 100000 in
set_option maxHeartbeats 4000000 in
theorem powOf_iv (w : World) (p q : Int) (b : Nat) (hr : rok p q) (hb : b ≤ 1000000) :
    Calls Try.prog 112 #[.agg #[.int .i64 p, .int .i64 q], .int .i64 b] w (SpanAns w b (4 + b / 16 + 20) (ofI p q b).1 (ofI p q b).2) := by
  obtain ⟨r1, r2, r3, r4⟩ := hr
  obtain ⟨W, hW⟩ : ∃ W, W = (w.alloc (.cells #[.int .i64 p, .int .i64 q] 28)).alloc (.cells #[.bool false, .slice none 0 0, .bool false, .slice none 0 0, .int .i64 0] 26) := ⟨_, rfl⟩
  have hBW : Below w.heap.size w W := by rw [hW]; exact bl2 _ _ _
  have A : RaC W w.heap.size p q := by rw [hW]; exact ⟨by simp [go_sem], by simp [go_sem]⟩
  have R : NoC W (w.heap.size + 1) := by rw [hW]; exact ⟨by simp [go_sem], by simp [go_sem], by simp [go_sem], by simp [go_sem], by simp [go_sem], fun o => by simp [go_sem]⟩
  have lA := A.lt
  have lR := R.lt
  have HK := hide (show ∀ w', Below W.heap.size W w' → (w'.cell? ⟨w.heap.size, 0, none⟩ = some (.int .i64 p) ∧ w'.cell? ⟨w.heap.size, 1, none⟩ = some (.int .i64 q)) from fun w' hB => ⟨(A.below hB).c0, (A.below hB).c1⟩)
  go_enter Try.func112, Try.ntmps112
  go_wp2
  rw [← hW]
  clear hW
  obtain ⟨x0, x1⟩ := unhide HK _ (Below.refl _ _)
  have hD0 : Below W.heap.size W W.drew := (Below.refl _ _).drew
  have n01 : w.heap.size ≠ w.heap.size + 1 := by omega
  have n10 : w.heap.size + 1 ≠ w.heap.size := by omega
  go_region_held3 (fun w' => w'.cell? ⟨w.heap.size, 0, none⟩ = some (.int .i64 p) ∧ w'.cell? ⟨w.heap.size, 1, none⟩ = some (.int .i64 q)) (first | exact unhide HK _ (by first | with_reducible exact hD0 | with_reducible exact hD3 | with_reducible exact hD2 | with_reducible exact hD1) | go_keep)
    (first
      | (go_at_call 71; have hq := hD2; refine (wideOf_any _ _ _ _ _ _ _ _ 4 4 b p q _ (hint1.below hb2) hint2 (by omega) hb (by omega)).mono ?_; rintro r' w3 ⟨u, rfl, hub, hup, hb3⟩; have hD3 := bthen hD2 hb3; have HU := hide hub; clear hub; obtain ⟨q0, q1, q2, q3, q4, q5⟩ := R.below hD3; obtain ⟨y0, y1⟩ := unhide HK _ hD3)
      | (go_at_call 62; have hq := hD1; refine (numOf_int q _ (by omega) (by omega)).mono ?_; rintro r' w2 ⟨neg2, a2, n2, c2, rfl, hint2, hb2⟩; have hD2 := bthen hD1 hb2)
      | (go_at_call 62; refine (numOf_int p _ (by omega) (by omega)).mono ?_; rintro r' w1 ⟨neg1, a1, n1, c1, rfl, hint1, hb1⟩; have hD1 := bthen hD0 hb1))
  all_goals
    go_wp2_with fail
    refine bodyPost_ret (v := .agg #[.bool u.ln, .slice u.la u.lN u.lc, .bool u.hn, .slice u.ha u.hN u.hc, .int .i64 u.bits]) (by simp [results, Try.results112, go_sem, q0, q1, q2, q3, q4]) rfl ⟨u, rfl, unhide HU, ?_, ?_⟩
    · exact SpAt.put5 hup q0 q1 q2 q3 q4 _ _ _ _ _
    · exact set5 (bthen hBW hD3) (Nat.le_succ _) _ _ _ _ _

set_option maxRecDepth 100000 in
set_option maxHeartbeats 2000000 in
theorem pexp1_iv (w : World) (B0 : Nat) (p q : Int) (b t N K : Nat) (l : Int) (hr : rok p q) (hB0 : RaC w B0 p q) (hb16 : 16 ≤ b) (hb : b ≤ 100000) (hl : LenIs (reachI (ofI p q b)) l) (ht : (t : Int) = max 0 (l - b + 8)) (ht2 : t ≤ 1000000)
    (hsm : Abs (downI (ofI p q b) t) (Q (b - 8))) (hN : IsStop (expT b (downI (ofI p q b) t)) N) (hK : Q (b + eb t) < P K) (hK2 : K ≤ 10000000) (hK3 : 4 + b / 16 + 20 ≤ K) :
    Calls Try.prog 110 #[.int .i64 b, .pointer (some ⟨B0, 0, none⟩)] w (SpanAns w b K (sqI b (doneI (expT b (downI (ofI p q b) t)) N) t).1 (sqI b (doneI (expT b (downI (ofI p q b) t)) N) t).2) := by
  have l0 := hB0.lt
  obtain ⟨y0, y1⟩ := hB0
  have hd : 0 < q := by have := hr.2.2.1; omega
  have HL := hide hl
  have HT := hide ht
  have HS := hide hsm
  have HN := hide hN
  have HR := hide hr
  have R := noc_new w 26
  clear hl ht hsm hN hr
  go_enter Try.func110, Try.ntmps110
  go_wp2_with fail
  refine (powOf_iv _ p q b (unhide HR) (by omega)).mono ?_
  rintro r' w1 ⟨u, rfl, hub, hup, hb1⟩
  replace R := R.below hb1
  have hBW : Below w.heap.size w w1 := bthen (bl1 _ _) hb1
  have HU := hide hub
  clear hub y0 y1 hb1
  go_wp2_with fail
  refine (wideExp_iv _ u K b t N (ofI p q b) l (hup.mono hK3) (unhide HU) (ofI_le hd b) hb16 (by omega) (unhide HL) (unhide HT) ht2 (unhide HS) (unhide HN) hK hK2).mono ?_
  rintro r' w2 ⟨v, rfl, hvb, hvp, hb2⟩
  obtain ⟨q0, q1, q2, q3, q4, q5⟩ := R.below hb2
  replace hBW := bthen hBW hb2
  have HV := hide hvb
  clear hvb
  go_wp2_with fail
  refine bodyPost_ret (v := .agg #[.bool v.ln, .slice v.la v.lN v.lc, .bool v.hn, .slice v.ha v.hN v.hc, .int .i64 v.bits]) (by simp [results, Try.results110, go_sem, q0, q1, q2, q3, q4]) rfl ⟨v, rfl, unhide HV, ?_, ?_⟩
  · exact SpAt.put5 hvp q0 q1 q2 q3 q4 _ _ _ _ _
  · exact set5 hBW (Nat.le_refl _) _ _ _ _ _

set_option maxRecDepth 100000 in
set_option maxHeartbeats 4000000 in
theorem sure_pexp (p1 : Value) (bits Kw KD : Nat) (Pr : Nat → Int → Int → Prop) (W : World) (hb : bits ≤ 120) (hKw : Kw ≤ 900000) (hKD : KD ≤ 100000000) (hE : SureEnds bits Kw Pr)
    (hF : ∀ (m : Nat) w', 32 ≤ m → m ≤ Kw + 120 → Below W.heap.size W w' → Calls Try.prog 110 #[.int .i64 ((bits : Int) + m), p1] w' (fun r w'' => ∃ lo hi, Pr (bits + m) lo hi ∧ SpanAns w' ((bits : Int) + m) KD lo hi r w'')) :
    Calls Try.prog 109 #[.int .i64 bits, .func (.func 110) #[] #[p1]] W (fun r w' => ∃ L H, SureOf bits Pr L H ∧ SpanAns W bits 250 L H r w') := by
  have HF := hide hF
  have HE := hide hE
  clear hF hE
  have hR0 := noc_new W 26
  go_enter Try.func109, Try.ntmps109
  go_wp2_with fail
  go_loopw [5, 6] (fun mm tt wr => ∃ m t : Nat, mm = .int .i64 (m : Int) ∧ tt = .int .i64 (t : Int) ∧ SureInv Kw m t ∧ NoC wr W.heap.size ∧ Below W.heap.size W wr) (fun mm _ _ => Kw + 200 - (intOf mm).toNat)
  case atStart => exact ⟨32, 1, rfl, rfl, ⟨Nat.le_refl _, Nat.le_refl _, by omega, Or.inl ⟨by omega, by omega⟩⟩, hR0, bl1 _ _⟩
  case round =>
    obtain ⟨m, t, rfl, rfl, hinv, R, hB⟩ := hrel
    obtain ⟨hm, ht, htm, hmt⟩ := hinv
    have hmK : m ≤ Kw + 120 := by omega
    have HI := hide hmt
    clear hmt
    go_wp2_with fail
    refine (unhide HF m _ hm hmK hB).mono ?_
    rintro r w1 ⟨lo, hi, hPr, s, rfl, hsb, hsp, hb1⟩
    replace R := R.below hb1
    replace hB := bthen hB hb1
    clear hb1
    obtain ⟨e1, e2, e3, e4⟩ := unhide HE m lo hi hPr
    obtain ⟨v1, v2, v3⟩ := to_width (m := m) e1 e2
    obtain ⟨f1, f2⟩ := to_fit e3 e4
    have HPr := hide hPr
    have HV := hide (And.intro v2 v3)
    have hs0 : 0 ≤ s.bits := by omega
    have hs1 : s.bits ≤ 1000000 := by omega
    have d1 : downZ lo (s.bits - bits) = lo / Q m := by unfold downZ; rw [hsb, if_pos (by omega)]; congr 2; omega
    have d2 : downZ (-hi) (s.bits - bits) = -hi / Q m := by unfold downZ; rw [hsb, if_pos (by omega)]; congr 2; omega
    have HD1 := hide d1
    have HD2 := hide d2
    clear hPr e1 e2 e3 e4 v2 v3 d1 d2 hsb
    go_wp2_with fail
    refine (wideTo_int _ s KD bits lo hi hsp (by omega) hs0 hs1 (by omega) (by omega)).mono ?_
    rintro r w2 ⟨u, rfl, hub, hup, hb2⟩
    rw [unhide HD1, unhide HD2] at hup
    obtain ⟨L, hL⟩ : ∃ L, L = lo / Q m := ⟨_, rfl⟩
    obtain ⟨H, hH⟩ : ∃ H, H = -(-hi / Q m) := ⟨_, rfl⟩
    rw [← hL, ← hH] at hup v1
    rw [← hL] at f1
    rw [← hH] at f2
    have HV2 := hide (show (Kw ≤ m → H - L ≤ 2) ∧ (m ≤ Kw → H - L ≤ Q (Kw - m) + 1) by rw [hL, hH]; exact unhide HV)
    have HL := hide hL
    have HH := hide hH
    replace hup := hup.fits (K := 250) (by omega) f1 f2
    replace R := R.below hb2
    replace hB := bthen hB hb2
    have HUB := hide hub
    clear hb2 hL hH hub hs0 hs1 HD1 HD2 HV hsp
    have lR := R.lt
    obtain ⟨V, hV⟩ : ∃ V, V = w2.alloc (.cells #[.bool u.ln, .slice u.la u.lN u.lc, .bool u.hn, .slice u.ha u.hN u.hc, .int .i64 u.bits] 26) := ⟨_, rfl⟩
    have bV : Below w2.heap.size w2 V := by rw [hV]; exact bl1 _ _
    have U : SpC V w2.heap.size u := by rw [hV]; exact ⟨by simp, by simp, by simp, by simp, by simp⟩
    replace R := R.below bV
    replace hB := bthen hB bV
    replace hup := hup.below bV
    clear bV
    go_wp2_with fail
    rw [← hV]
    clear hV
    refine (sub_int _ _ _ _ _ _ _ _ 250 250 H L _ hup.hi hup.lo (by omega) (by omega)).mono ?_
    rintro r w3 ⟨neg3, a3, n3, c3, rfl, hint3, hb3⟩
    replace U := U.below hb3
    replace R := R.below hb3
    replace hB := bthen hB hb3
    replace hup := hup.below hb3
    clear hb3
    go_wp2_with fail
    refine (len_int _ _ _ _ _ (H - L) _ hint3 v1).mono ?_
    rintro r w4 ⟨l, hlen, rfl, hb4⟩
    replace U := U.below hb4
    replace R := R.below hb4
    replace hB := bthen hB hb4
    replace hup := hup.below hb4
    clear hb4 hint3
    have hlb : 0 ≤ l ∧ l ≤ Kw + 2 ∧ (m ≤ Kw → l ≤ Kw - m + 2) ∧ (Kw ≤ m → l ≤ 2) := by
      obtain ⟨g1, g2⟩ := unhide HV2
      refine ⟨hlen.1, ?_, fun h => ?_, fun h => ?_⟩
      · rcases Nat.le_total m Kw with h | h
        · have := len_bd (K := Kw - m) hlen (g2 h) v1; omega
        · have := len_two hlen (g1 h) v1; omega
      · have := len_bd (K := Kw - m) hlen (g2 h) v1; omega
      · exact len_two hlen (g1 h) v1
    obtain ⟨hl0, hl1, hl2, hl3⟩ := hlb
    have HL2 := hide (And.intro hl2 hl3)
    have HLen := hide hlen
    clear hl2 hl3 hlen
    have lU := U.lt
    have lR2 := R.lt
    have nRU : W.heap.size ≠ w2.heap.size := by omega
    have nRU' : w2.heap.size ≠ W.heap.size := by omega
    have HU := hide U
    obtain ⟨x0, x1, x2, x3, x4⟩ := U
    by_cases hc : l ≤ 1
    · have hN := R
      obtain ⟨q0, q1, q2, q3, q4, q5⟩ := R
      have Hc := hide hc
      go_wp2_with fail
      refine bodyPost_ret (v := .agg #[.bool u.ln, .slice u.la u.lN u.lc, .bool u.hn, .slice u.ha u.hN u.hc, .int .i64 u.bits]) (by simp [results, Try.results109, go_sem, q0, q1, q2, q3, q4]) rfl ⟨L, H, ⟨m, lo, hi, unhide HPr, hm, unhide HL, unhide HH, Or.inl (len_one (unhide HLen) (unhide Hc) v1)⟩, u, rfl, unhide HUB, ?_, ?_⟩
      · exact SpAt.put5 hup q0 q1 q2 q3 q4 _ _ _ _ _
      · exact set5 hB (Nat.le_refl _) _ _ _ _ _
    · by_cases ht3 : 3 ≤ t
      · have ht3' : (3 : Int) ≤ (t : Int) := by omega
        cases hn : narB L H (Q bits) 4
        · have hmK2 : m < Kw := by
            refine Nat.lt_of_not_le fun h => ?_
            have h5 := (unhide HV2).1 h
            rw [narB_small (by omega) (by omega)] at hn
            cases hn
          go_wp2_with fail
          refine (narrow_int _ u bits 4 L H hup (unhide HUB) hb (by omega)).mono ?_
          rintro r w5 ⟨rfl, hb5⟩
          rw [show narB L H (Q bits) ((4 : Nat) : Int) = false from hn]
          replace R := R.below hb5
          replace hB := bthen hB hb5
          go_wp2_with fail
          go_roundw
          case rel => exact ⟨m + l.toNat + 32, t + 1, by congr 1; omega, by congr 1, ⟨by omega, by omega, by omega, Or.inr (by have := (unhide HL2).1; omega)⟩, R, hB⟩
          case measure => simp [intOf]; omega
        · go_wp2_with fail
          refine (narrow_int _ u bits 4 L H hup (unhide HUB) hb (by omega)).mono ?_
          rintro r w5 ⟨rfl, hb5⟩
          rw [show narB L H (Q bits) ((4 : Nat) : Int) = true from hn]
          replace R := R.below hb5
          replace hB := bthen hB hb5
          replace hup := hup.below hb5
          obtain ⟨y0, y1, y2, y3, y4⟩ := (unhide HU).below hb5
          obtain ⟨q0, q1, q2, q3, q4, q5⟩ := R
          have lU2 := Nat.lt_of_lt_of_le lU hb5.size
          have lR3 := Nat.lt_of_lt_of_le lR2 hb5.size
          clear hb5 x0 x1 x2 x3 x4
          go_wp2_with fail
          refine bodyPost_ret (v := .agg #[.bool u.ln, .slice u.la u.lN u.lc, .bool u.hn, .slice u.ha u.hN u.hc, .int .i64 u.bits]) (by simp [results, Try.results109, go_sem, q0, q1, q2, q3, q4]) rfl ⟨L, H, ⟨m, lo, hi, unhide HPr, hm, unhide HL, unhide HH, Or.inr hn⟩, u, rfl, unhide HUB, ?_, ?_⟩
          · exact SpAt.put5 hup q0 q1 q2 q3 q4 _ _ _ _ _
          · exact set5 hB (Nat.le_refl _) _ _ _ _ _
      · have ht3' : ¬ (3 : Int) ≤ (t : Int) := by omega
        go_wp2_with fail
        go_roundw
        case rel => exact ⟨m + l.toNat + 32, t + 1, by congr 1; omega, by congr 1, ⟨by omega, by omega, by omega, by
          have g1 := (unhide HL2).1
          have g2 := (unhide HL2).2
          have g3 := unhide HI
          rcases Nat.le_total m Kw with h | h
          · have := g1 h; exact Or.inr (by omega)
          · have := g2 h; exact Or.inl ⟨by omega, by omega⟩⟩, R, hB⟩
        case measure => simp [intOf]; omega
end Go.Proofs.Ytgmnknmjainabaa

namespace Go.Proofs.Ytgmnknmjainabaa
set_option linter.unusedVariables false
set_option linter.unusedSimpArgs false
set_option linter.unnecessarySimpa false
open Go.RowKit
attribute [local go_sem ↓] Go.wp_at_zero Go.wp_at_succ

theorem within_t {p q n : Int} (h1 : -(n * q) ≤ p) (h2 : p ≤ n * q) : withinB p q n = true := by simp [withinB, h1, h2]
theorem of_reach {p q : Int} {n b e : Nat} (hq : 0 < q) (h1 : -((n : Int) * q) ≤ p) (h2 : p ≤ (n : Int) * q) (he : (n : Int) < Q e) : reachI (ofI p q b) < Q (b + e) := by
  have qb := Q_pos b
  have g1 := Int.mul_le_mul_of_nonneg_right h1 (show 0 ≤ Q b by omega)
  have g2 := Int.mul_le_mul_of_nonneg_right h2 (show 0 ≤ Q b by omega)
  have e1 : (n : Int) * q * Q b = (n : Int) * Q b * q := by grind
  have e2 : -((n : Int) * q) * Q b = -((n : Int) * Q b * q) := by grind
  have := abs_reach (ofI_abs (n := p) (m := (n : Int) * Q b) hq b (by omega) (by omega))
  have h3 := Int.mul_lt_mul_of_pos_right he (show 0 < Q b by omega)
  rw [Q_add, Int.mul_comm (Q b)]
  omega

set_option maxRecDepth 100000 in
set_option maxHeartbeats 2000000 in
theorem powerExp_ok (p q : Int) (b : Nat) (w : World) (hr : rok p q) (h5 : 8 ≤ b) (h6 : b ≤ 120) (n e : Nat) (h7 : -((n : Int) * q) ≤ p) (h8 : p ≤ (n : Int) * q) (hn : n ≤ 500) (hne : (n : Int) < Q e) (he : e ≤ 9) :
    Calls Try.prog 54 #[.agg #[.int .i64 p, .int .i64 q], .int .i64 b] w (fun r w' => ∃ L H, SureOf b (ExpPr (fun _ => (p : Rat) / (q : Rat)) 1700 (eb (e + 8))) L H ∧ PairAns w b 250 L H 0 r w') := by
  have d1 : ratE p q b = 0 := by unfold ratE; rw [if_pos]; exact ⟨hr, by omega, by omega⟩
  have hq : 0 < q := by have := hr.2.2.1; omega
  have hnq := Int.mul_le_mul_of_nonneg_right (show (n : Int) ≤ 500 by omega) (show 0 ≤ q by omega)
  have d2 := within_t (p := p) (q := q) (n := 500) (by omega) (by omega)
  have H7 := hide h7
  have H8 := hide h8
  clear h7 h8 hnq
  have HR := hide hr
  obtain ⟨r1, r2, r3, r4⟩ := hr
  go_enter Try.func54, Try.ntmps54
  go_wp2_with (go_at_call 70; refine (ratioFault1 _ _ _ (by simp) _ _ _ _).mono ?_; rintro r w1 ⟨rfl, hb1⟩; rw [d1]; obtain ⟨hsz1, hcell1, hfz1⟩ := near (w.heap.size + 1 + 1) (by simp) hb1)
  have A : RaC w1 w.heap.size p q := ⟨by simp [hcell1, go_sem], by simp [hcell1, go_sem]⟩
  have R : NoC w1 (w.heap.size + 1) := ⟨by simp [hcell1, go_sem], by simp [hcell1, go_sem], by simp [hcell1, go_sem], by simp [hcell1, go_sem], by simp [hcell1, go_sem], fun o => by simp [hfz1, go_sem]⟩
  have hBw : Below w.heap.size w w1 := bthen (bl2 _ _ _) hb1
  clear hcell1 hfz1 hb1
  have lA := A.lt
  have lR := R.lt
  obtain ⟨x0, x1⟩ := A
  refine (within_any p q 500 _ (by omega) (by omega) r3 r4).mono ?_
  rintro r' w2 ⟨rfl, hb2⟩
  rw [d2]
  have A : RaC w2 w.heap.size p q := RaC.below ⟨x0, x1⟩ hb2
  replace R := R.below hb2
  replace hBw := bthen hBw hb2
  have lA2 := A.lt
  have lR2 := R.lt
  clear x0 x1 hb2
  go_wp2_with fail
  refine (sure_pexp _ b 1700 500 (ExpPr (fun _ => (p : Rat) / (q : Rat)) 1700 (eb (e + 8))) _ h6 (by omega) (by omega) (exp_ends _ _ _ _ (by have := eb_mono (show e + 8 ≤ 17 by omega); rw [eb_17] at this; omega)) (fun m w' hm hm2 hbw => ?_)).mono ?_
  · have hle := ofI_le (n := p) hq (b + m)
    obtain ⟨l, t, N, e1, e2, e3, e4, e5⟩ := exp_set (B := b + m) (e := e) (by omega) hle (of_reach (n := n) hq (unhide H7) (unhide H8) hne)
    have eB : ((b : Int) + (m : Int)) = ((b + m : Nat) : Int) := by omega
    rw [eB]
    refine (pexp1_iv w' w.heap.size p q (b + m) t N 500 l (unhide HR) (A.below hbw) (by omega) (by omega) e1 e2 (by omega) e4 e5 ?_ (by omega) (by omega)).mono ?_
    · rw [← Q_P]
      have := eb_mono (show t ≤ 17 by omega)
      rw [eb_17] at this
      have h1 := Q_mono (show b + m + eb t + 1 ≤ 16 * 500 by omega)
      have h2 : Q (b + m + eb t + 1) = 2 * Q (b + m + eb t) := rfl
      have := Q_pos (b + m + eb t)
      omega
    · intro r' w'' h
      exact ⟨_, _, exp_pr h6 hm (by omega) hle (ofI_wide hq _) (Iv.of _ hq) e3 (by omega) e4 e5, h⟩
  rintro r' w3 ⟨L, H, hLH, u, rfl, hub, hup, hb3⟩
  obtain ⟨q0, q1, q2, q3, q4, q5⟩ := R.below hb3
  replace hBw := bthen hBw hb3
  have HU := hide hub
  have HLH := hide hLH
  clear hub hLH
  go_wp2_with fail
  refine bodyPost_ret (v := .tuple #[.agg #[.bool u.ln, .slice u.la u.lN u.lc, .bool u.hn, .slice u.ha u.hN u.hc, .int .i64 u.bits], .int .i64 0]) (by simp [results, Try.results54, go_sem, q0, q1, q2, q3, q4]) rfl ⟨L, H, unhide HLH, u, rfl, unhide HU, ?_, ?_⟩
  · exact SpAt.put5 hup q0 q1 q2 q3 q4 _ _ _ _ _
  · exact set5 hBw (Nat.le_succ _) _ _ _ _ _

end Go.Proofs.Ytgmnknmjainabaa

namespace Go.Proofs.Ytgmnknmjainabaa
set_option linter.unusedVariables false
set_option linter.unusedSimpArgs false
set_option linter.unnecessarySimpa false
open Go.RowKit
attribute [local go_sem ↓] Go.wp_at_zero Go.wp_at_succ

theorem put_nm2 {w : World} {B : Nat} {z : Nm} (h : NmC w B z) (x : Nm) : NmC ((w.setCell ⟨B, 0, none⟩ (.bool x.neg)).setCell ⟨B, 1, none⟩ (.slice x.a x.n x.cap)) B x := by
  obtain ⟨q0, q1⟩ := h
  constructor <;> simp [go_sem, q0, q1]
theorem put_fz2 {w : World} {B B' : Nat} (h : ∀ o, w.frozen? ⟨B, o, none⟩ = false) (u0 u1 : Value) : ∀ o, ((w.setCell ⟨B', 0, none⟩ u0).setCell ⟨B', 1, none⟩ u1).frozen? ⟨B, o, none⟩ = false := fun o => by rw [frozen_set', frozen_set']; exact h o
theorem NmC.off {w : World} {B B' : Nat} {x : Nm} (h : NmC w B x) (hne : B ≠ B') (u0 u1 : Value) : NmC ((w.setCell ⟨B', 0, none⟩ u0).setCell ⟨B', 1, none⟩ u1) B x := by
  obtain ⟨q0, q1⟩ := h
  constructor <;> simp [go_sem, q0, q1, hne, Ne.symm hne]
theorem NoI.off {w : World} {B B' : Nat} (h : NoI w B) (hne : B ≠ B') (u0 u1 : Value) : NoI ((w.setCell ⟨B', 0, none⟩ u0).setCell ⟨B', 1, none⟩ u1) B := by
  obtain ⟨q0, q1, q2⟩ := h
  exact ⟨by simp [go_sem, q0, hne, Ne.symm hne], by simp [go_sem, q1, hne, Ne.symm hne], put_fz2 q2 _ _⟩

/-- Where wide.Raised is behind some rounds. -/
structure RaiSt (w wr : World) (B : Nat) (a : Int) (k j e : Nat) (X Y : Nm) : Prop where
  je : j * e ≤ k
  e1 : 1 ≤ e
  e2 : e ≤ 2 * k + 1
  x : NmC wr B X
  y : NmC wr (B + 1) Y
  fx : ∀ o, wr.frozen? ⟨B, o, none⟩ = false
  fy : ∀ o, wr.frozen? ⟨B + 1, o, none⟩ = false
  ix : IntAt wr X.neg X.a X.n X.cap (4 * (k - j * e) + 4) (a ^ (k - j * e))
  iy : IntAt wr Y.neg Y.a Y.n Y.cap (4 * e) (a ^ e)
  no : NoI wr w.heap.size
  be : Below w.heap.size w wr
  lo : w.heap.size < B

theorem RaiSt.below {w wr wr' : World} {B : Nat} {a : Int} {k j e : Nat} {X Y : Nm} (h : RaiSt w wr B a k j e X Y) (hb : Below wr.heap.size wr wr') : RaiSt w wr' B a k j e X Y :=
  ⟨h.je, h.e1, h.e2, h.x.below hb, h.y.below hb, fun o => (hb.frozen (p := ⟨B, o, none⟩) h.x.lt).trans (h.fx o), fun o => (hb.frozen (p := ⟨B + 1, o, none⟩) h.y.lt).trans (h.fy o), h.ix.below hb, h.iy.below hb, h.no.below hb, bthen h.be hb, h.lo⟩

end Go.Proofs.Ytgmnknmjainabaa

namespace Go.Proofs.Ytgmnknmjainabaa
set_option linter.unusedVariables false
set_option linter.unusedSimpArgs false
set_option linter.unnecessarySimpa false
open Go.RowKit
attribute [local go_sem ↓] Go.wp_at_zero Go.wp_at_succ

/-- What wide.balanced answers. -/
def BalAns (w : World) (k : Nat) (n d : Int) (r : Ending) (w' : World) : Prop :=
  ∃ (X Y : Nm) (n' d' c : Int), r = .returned (.tuple #[.agg #[.bool X.neg, .slice X.a X.n X.cap], .agg #[.bool Y.neg, .slice Y.a Y.n Y.cap], .int .i64 c]) ∧ Bal n d n' d' c ∧ -(16 * k + 1) ≤ c ∧ c ≤ 16 * k + 1 ∧ IntAt w' X.neg X.a X.n X.cap (k + k + 20) n' ∧ IntAt w' Y.neg Y.a Y.n Y.cap (k + k + 20) d' ∧ Below w.heap.size w w'
theorem bal_near {n d : Int} {L L' : Nat} (h1 : Q L ≤ n) (h2 : n < Q (L + 1)) (h3 : Q L' ≤ d) (h4 : d < Q (L' + 1)) (a b : Nat) (hab : L + a = L' + b) : n * Q a < 2 * (d * Q b) ∧ d * Q b < 2 * (n * Q a) := by
  have qa := Q_pos a
  have qb := Q_pos b
  have e1 : Q L * Q a = Q L' * Q b := by rw [← Q_add, ← Q_add, hab]
  have e2 : Q (L + 1) = 2 * Q L := rfl
  have e3 : Q (L' + 1) = 2 * Q L' := rfl
  have g1 := Int.mul_le_mul_of_nonneg_right h1 (show 0 ≤ Q a by omega)
  have g2 := Int.mul_lt_mul_of_pos_right h2 (show 0 < Q a by omega)
  have g3 := Int.mul_le_mul_of_nonneg_right h3 (show 0 ≤ Q b by omega)
  have g4 := Int.mul_lt_mul_of_pos_right h4 (show 0 < Q b by omega)
  rw [e2, Int.mul_assoc] at g2
  rw [e3, Int.mul_assoc] at g4
  omega
/-- The three ways. -/
theorem bal_a {n d n1 d1 c : Int} (hn : 0 < n1) (hd : 0 < d1) (h1 : 0 ≤ c → n * d1 = n1 * d * Q c.toNat) (h2 : c < 0 → n * d1 * Q (-c).toNat = n1 * d) (g1 : n1 < 2 * d1) (g2 : d1 < 2 * n1) (hc : d1 * 3 < n1 * 2) : Bal n d n1 (d1 * 2) (c + 1) := by
  refine ⟨⟨hn, by omega, by omega, by omega⟩, fun h => ?_, fun h => ?_⟩
  · by_cases h0 : 0 ≤ c
    · have e := h1 h0
      have : (c + 1).toNat = c.toNat + 1 := by omega
      rw [this]
      have e2 : Q (c.toNat + 1) = 2 * Q c.toNat := rfl
      rw [e2]
      have : n * (d1 * 2) = 2 * (n * d1) := by grind
      rw [this, e]; grind
    · have hc : c = -1 := by omega
      have e := h2 (by omega)
      subst hc
      have e3 : Q (-(-1 : Int)).toNat = 2 := rfl
      rw [e3] at e
      have e4 : Q ((-1 : Int) + 1).toNat = 1 := rfl
      rw [e4]
      have : n * (d1 * 2) = n * d1 * 2 := by grind
      rw [this, e]; grind
  · have e := h2 (by omega)
    have : (-c).toNat = (-(c + 1)).toNat + 1 := by omega
    rw [this] at e
    have e2 : Q ((-(c + 1)).toNat + 1) = 2 * Q (-(c + 1)).toNat := rfl
    rw [e2] at e
    rw [← e]; grind
theorem bal_b {n d n1 d1 c : Int} (hn : 0 < n1) (hd : 0 < d1) (h1 : 0 ≤ c → n * d1 = n1 * d * Q c.toNat) (h2 : c < 0 → n * d1 * Q (-c).toNat = n1 * d) (g1 : n1 < 2 * d1) (g2 : d1 < 2 * n1) (hc : n1 * 4 < d1 * 3) : Bal n d (n1 * 2) d1 (c - 1) := by
  refine ⟨⟨by omega, hd, by omega, by omega⟩, fun h => ?_, fun h => ?_⟩
  · have e := h1 (by omega)
    have : c.toNat = (c - 1).toNat + 1 := by omega
    rw [this] at e
    have e2 : Q ((c - 1).toNat + 1) = 2 * Q (c - 1).toNat := rfl
    rw [e2] at e
    rw [e]; grind
  · by_cases h0 : 0 ≤ c
    · have hc : c = 0 := by omega
      have e := h1 h0
      subst hc
      have e3 : Q ((0 : Int)).toNat = 1 := rfl
      rw [e3] at e
      have e4 : Q (-((0 : Int) - 1)).toNat = 2 := rfl
      rw [e4, e]; grind
    · have e := h2 (by omega)
      have : (-(c - 1)).toNat = (-c).toNat + 1 := by omega
      rw [this]
      have e2 : Q ((-c).toNat + 1) = 2 * Q (-c).toNat := rfl
      rw [e2]
      have : n * d1 * (2 * Q (-c).toNat) = 2 * (n * d1 * Q (-c).toNat) := by grind
      rw [this, e]; grind
theorem bal_c {n d n1 d1 c : Int} (hn : 0 < n1) (hd : 0 < d1) (h1 : 0 ≤ c → n * d1 = n1 * d * Q c.toNat) (h2 : c < 0 → n * d1 * Q (-c).toNat = n1 * d) (hc : ¬ d1 * 3 < n1 * 2) (hc2 : ¬ n1 * 4 < d1 * 3) : Bal n d n1 d1 c :=
  ⟨⟨hn, hd, by omega, by omega⟩, h1, h2⟩
/-- A number of so many digits is so long at most. -/
theorem len_dig {w : World} {neg : Bool} {a : Option Addr} {n cap k : Nat} {z : Int} {L : Nat} (h : IntAt w neg a n cap k z) (hL : Q L ≤ z) (hz : 0 ≤ z) : L < 16 * k + 1 := by
  obtain ⟨d, h1, h2, h3, h4, h5⟩ := h
  have hV := V_lt h1.dgs n
  have hV0 := V_nonneg h1.dgs n
  have hP := P_mono h4
  have eP := Q_P k
  have hz2 : z < Q (16 * k) := by
    cases neg
    · simp [sgn] at h5; omega
    · simp [sgn] at h5; have := Q_pos (16 * k); omega
  refine Nat.lt_of_not_le fun h => ?_
  have := Q_mono (show 16 * k ≤ L by omega)
  omega

theorem up_at (neg : Bool) (a : Option Addr) (n cap : Nat) (κ : Int) (A k1 : Nat) (x : Int) (w : World) (hκ : κ = (A : Int)) (h1 : IntAt w neg a n cap k1 x) (hk1 : k1 ≤ 1000000000) (hk : A ≤ 1000000000) :
    Calls Try.prog 107 #[.agg #[.bool neg, .slice a n cap], .int .i64 κ] w (IntAns w (A / 16 + k1 + 1) (x * Q A)) := by
  subst hκ; exact up_int neg a n cap A k1 x w h1 hk1 hk

theorem bal_put {w wc w2 : World} {x y : Nm} {K : Nat} {z1 z2 : Int} (hD : Below wc.heap.size wc w2) (hx : NmC w2 w.heap.size x) (hy : NmC w2 (w.heap.size + 1) y) (X Y : Nm) (iX : IntAt w2 X.neg X.a X.n X.cap K z1) (iY : IntAt w2 Y.neg Y.a Y.n Y.cap K z2) (R : NoI wc (w.heap.size + 1 + 1)) (R2 : NoI wc (w.heap.size + 1 + 1 + 1)) (hB : Below w.heap.size w wc) :
    ∃ X' Y' : Nm, NmC ((((w2.setCell ⟨w.heap.size, 0, none⟩ (.bool X.neg)).setCell ⟨w.heap.size, 1, none⟩ (.slice X.a X.n X.cap)).setCell ⟨w.heap.size + 1, 0, none⟩ (.bool Y.neg)).setCell ⟨w.heap.size + 1, 1, none⟩ (.slice Y.a Y.n Y.cap)) w.heap.size X' ∧ NmC ((((w2.setCell ⟨w.heap.size, 0, none⟩ (.bool X.neg)).setCell ⟨w.heap.size, 1, none⟩ (.slice X.a X.n X.cap)).setCell ⟨w.heap.size + 1, 0, none⟩ (.bool Y.neg)).setCell ⟨w.heap.size + 1, 1, none⟩ (.slice Y.a Y.n Y.cap)) (w.heap.size + 1) Y' ∧ IntAt ((((w2.setCell ⟨w.heap.size, 0, none⟩ (.bool X.neg)).setCell ⟨w.heap.size, 1, none⟩ (.slice X.a X.n X.cap)).setCell ⟨w.heap.size + 1, 0, none⟩ (.bool Y.neg)).setCell ⟨w.heap.size + 1, 1, none⟩ (.slice Y.a Y.n Y.cap)) X'.neg X'.a X'.n X'.cap K z1 ∧ IntAt ((((w2.setCell ⟨w.heap.size, 0, none⟩ (.bool X.neg)).setCell ⟨w.heap.size, 1, none⟩ (.slice X.a X.n X.cap)).setCell ⟨w.heap.size + 1, 0, none⟩ (.bool Y.neg)).setCell ⟨w.heap.size + 1, 1, none⟩ (.slice Y.a Y.n Y.cap)) Y'.neg Y'.a Y'.n Y'.cap K z2 ∧ NoI ((((w2.setCell ⟨w.heap.size, 0, none⟩ (.bool X.neg)).setCell ⟨w.heap.size, 1, none⟩ (.slice X.a X.n X.cap)).setCell ⟨w.heap.size + 1, 0, none⟩ (.bool Y.neg)).setCell ⟨w.heap.size + 1, 1, none⟩ (.slice Y.a Y.n Y.cap)) (w.heap.size + 1 + 1) ∧ NoI ((((w2.setCell ⟨w.heap.size, 0, none⟩ (.bool X.neg)).setCell ⟨w.heap.size, 1, none⟩ (.slice X.a X.n X.cap)).setCell ⟨w.heap.size + 1, 0, none⟩ (.bool Y.neg)).setCell ⟨w.heap.size + 1, 1, none⟩ (.slice Y.a Y.n Y.cap)) (w.heap.size + 1 + 1 + 1) ∧ Below w.heap.size w ((((w2.setCell ⟨w.heap.size, 0, none⟩ (.bool X.neg)).setCell ⟨w.heap.size, 1, none⟩ (.slice X.a X.n X.cap)).setCell ⟨w.heap.size + 1, 0, none⟩ (.bool Y.neg)).setCell ⟨w.heap.size + 1, 1, none⟩ (.slice Y.a Y.n Y.cap)) := by
  have hy1 := hy.off (B' := w.heap.size) (by omega) (.bool X.neg) (.slice X.a X.n X.cap)
  have hx1 := put_nm2 hx X
  have i1 := iX.put2 hx.c0 hx.c1 (.bool X.neg) (.slice X.a X.n X.cap)
  have i2 := iY.put2 hx.c0 hx.c1 (.bool X.neg) (.slice X.a X.n X.cap)
  have r1 := (R.below hD).off (B' := w.heap.size) (by omega) (.bool X.neg) (.slice X.a X.n X.cap)
  have r2 := (R2.below hD).off (B' := w.heap.size) (by omega) (.bool X.neg) (.slice X.a X.n X.cap)
  have b1 := set2 (bthen hB hD) (Nat.le_refl _) (.bool X.neg) (.slice X.a X.n X.cap)
  generalize (w2.setCell ⟨w.heap.size, 0, none⟩ (.bool X.neg)).setCell ⟨w.heap.size, 1, none⟩ (.slice X.a X.n X.cap) = V at *
  exact ⟨X, Y, hx1.off (by omega) _ _, put_nm2 hy1 Y, i1.put2 hy1.c0 hy1.c1 _ _, i2.put2 hy1.c0 hy1.c1 _ _, r1.off (by omega) _ _, r2.off (by omega) _ _, set2 b1 (Nat.le_succ _) _ _⟩

theorem cmp_gtB (x y : Int) : decide (0 < cmpInt x y) = decide (y < x) := by
  unfold cmpInt
  by_cases h1 : x < y
  · have : ¬ y < x := by omega
    simp [h1, this]
  · by_cases h2 : y < x
    · simp [h1, h2]
    · simp [h1, h2]
theorem cmp_ltB (x y : Int) : decide (cmpInt x y < 0) = decide (x < y) := by
  unfold cmpInt
  by_cases h1 : x < y
  · simp [h1]
  · by_cases h2 : y < x
    · simp [h1, h2]
    · simp [h1, h2]

theorem bal_end {w w1 : World} {X Y : Nm} {K : Nat} {z1 z2 : Int} (R : NoI w1 (w.heap.size + 1 + 1)) (R2 : NoI w1 (w.heap.size + 1 + 1 + 1)) (iX : IntAt w1 X.neg X.a X.n X.cap K z1) (iY : IntAt w1 Y.neg Y.a Y.n Y.cap K z2) (hB : Below w.heap.size w w1) :
    IntAt ((((w1.setCell ⟨w.heap.size + 1 + 1, 0, none⟩ (.bool X.neg)).setCell ⟨w.heap.size + 1 + 1, 1, none⟩ (.slice X.a X.n X.cap)).setCell ⟨w.heap.size + 1 + 1 + 1, 0, none⟩ (.bool Y.neg)).setCell ⟨w.heap.size + 1 + 1 + 1, 1, none⟩ (.slice Y.a Y.n Y.cap)) X.neg X.a X.n X.cap K z1 ∧ IntAt ((((w1.setCell ⟨w.heap.size + 1 + 1, 0, none⟩ (.bool X.neg)).setCell ⟨w.heap.size + 1 + 1, 1, none⟩ (.slice X.a X.n X.cap)).setCell ⟨w.heap.size + 1 + 1 + 1, 0, none⟩ (.bool Y.neg)).setCell ⟨w.heap.size + 1 + 1 + 1, 1, none⟩ (.slice Y.a Y.n Y.cap)) Y.neg Y.a Y.n Y.cap K z2 ∧ Below w.heap.size w ((((w1.setCell ⟨w.heap.size + 1 + 1, 0, none⟩ (.bool X.neg)).setCell ⟨w.heap.size + 1 + 1, 1, none⟩ (.slice X.a X.n X.cap)).setCell ⟨w.heap.size + 1 + 1 + 1, 0, none⟩ (.bool Y.neg)).setCell ⟨w.heap.size + 1 + 1 + 1, 1, none⟩ (.slice Y.a Y.n Y.cap)) := by
  have r2 := R2.off (B' := w.heap.size + 1 + 1) (by omega) (.bool X.neg) (.slice X.a X.n X.cap)
  have i1 := iX.put2 R.c0 R.c1 (.bool X.neg) (.slice X.a X.n X.cap)
  have i2 := iY.put2 R.c0 R.c1 (.bool X.neg) (.slice X.a X.n X.cap)
  have b1 := set2 hB (show w.heap.size ≤ w.heap.size + 1 + 1 by omega) (.bool X.neg) (.slice X.a X.n X.cap)
  generalize (w1.setCell ⟨w.heap.size + 1 + 1, 0, none⟩ (.bool X.neg)).setCell ⟨w.heap.size + 1 + 1, 1, none⟩ (.slice X.a X.n X.cap) = V at *
  exact ⟨i1.put2 r2.c0 r2.c1 _ _, i2.put2 r2.c0 r2.c1 _ _, set2 b1 (by omega) _ _⟩

set_option maxRecDepth 100000 in
set_option maxHeartbeats 4000000 in
theorem balanced_int (w : World) (x y : Nm) (k : Nat) (n d : Int) (hx : IntAt w x.neg x.a x.n x.cap k n) (hy : IntAt w y.neg y.a y.n y.cap k d) (hn : 0 < n) (hd : 0 < d) (hk : k ≤ 1000000) :
    Calls Try.prog 152 #[.agg #[.bool x.neg, .slice x.a x.n x.cap], .agg #[.bool y.neg, .slice y.a y.n y.cap]] w (BalAns w k n d) := by
  obtain ⟨W, hW⟩ : ∃ W, W = (((w.alloc (.cells #[.bool x.neg, .slice x.a x.n x.cap] 24)).alloc (.cells #[.bool y.neg, .slice y.a y.n y.cap] 24)).alloc (.cells #[.bool false, .slice none 0 0] 24)).alloc (.cells #[.bool false, .slice none 0 0] 24) := ⟨_, rfl⟩
  have hBW : Below w.heap.size w W := by rw [hW]; exact bl4 _ _ _ _ _
  have X : NmC W w.heap.size x := by rw [hW]; exact ⟨by simp [go_sem], by simp [go_sem]⟩
  have FX : ∀ o, W.frozen? ⟨w.heap.size, o, none⟩ = false := by rw [hW]; intro o; simp [go_sem]
  have Y : NmC W (w.heap.size + 1) y := by rw [hW]; exact ⟨by simp [go_sem], by simp [go_sem]⟩
  have FY : ∀ o, W.frozen? ⟨w.heap.size + 1, o, none⟩ = false := by rw [hW]; intro o; simp [go_sem]
  have R : NoI W (w.heap.size + 1 + 1) := by rw [hW]; exact ⟨by simp [go_sem], by simp [go_sem], fun o => by simp [go_sem]⟩
  have R2 : NoI W (w.heap.size + 1 + 1 + 1) := by rw [hW]; exact ⟨by simp [go_sem], by simp [go_sem], fun o => by simp [go_sem]⟩
  have HX := hide (hx.below hBW)
  have HY := hide (hy.below hBW)
  have lX := X.lt
  have lY := Y.lt
  have lR := R.lt
  have lR2 := R2.lt
  have HK := hide (show ∀ w', Below W.heap.size W w' → (w'.cell? ⟨w.heap.size, 0, none⟩ = some (.bool x.neg) ∧ w'.cell? ⟨w.heap.size, 1, none⟩ = some (.slice x.a x.n x.cap) ∧ w'.cell? ⟨w.heap.size + 1, 0, none⟩ = some (.bool y.neg) ∧ w'.cell? ⟨w.heap.size + 1, 1, none⟩ = some (.slice y.a y.n y.cap)) from fun w' hB => ⟨(X.below hB).c0, (X.below hB).c1, (Y.below hB).c0, (Y.below hB).c1⟩)
  go_enter Try.func152, Try.ntmps152
  go_wp2
  rw [← hW]
  clear hW hx hy
  obtain ⟨x0, x1, x2, x3⟩ := unhide HK _ (Below.refl _ _)
  have hD0 : Below W.heap.size W W.drew := (Below.refl _ _).drew
  go_cut [7] (fun p wx => ∃ (L L' : Nat) (D : Int), p = .int .i64 D ∧ D = (L : Int) - (L' : Int) ∧ Q L ≤ n ∧ n < Q (L + 1) ∧ Q L' ≤ d ∧ d < Q (L' + 1) ∧ L < 16 * k + 1 ∧ L' < 16 * k + 1 ∧ Below W.heap.size W wx)
  case first =>
    go_region_held3 (fun w' => w'.cell? ⟨w.heap.size, 0, none⟩ = some (.bool x.neg) ∧ w'.cell? ⟨w.heap.size, 1, none⟩ = some (.slice x.a x.n x.cap) ∧ w'.cell? ⟨w.heap.size + 1, 0, none⟩ = some (.bool y.neg) ∧ w'.cell? ⟨w.heap.size + 1, 1, none⟩ = some (.slice y.a y.n y.cap)) (first | exact unhide HK _ (by first | with_reducible exact hD0 | with_reducible exact hD2 | with_reducible exact hD1) | go_keep)
      (first
        | (go_at_call 77; have hq := hD1; refine (len_int _ _ _ _ _ d _ ((unhide HY).below hD1) (by omega)).mono ?_; rintro r' w2 ⟨l2, hlen2, rfl, hb2⟩; have hD2 := bthen hD1 hb2)
        | (go_at_call 77; refine (len_int _ _ _ _ _ n _ ((unhide HX).below hD0) (by omega)).mono ?_; rintro r' w1 ⟨l1, hlen1, rfl, hb1⟩; have hD1 := bthen hD0 hb1))
    all_goals
      obtain ⟨L, e1, e2, e3⟩ := hlen1.2.2 hn
      obtain ⟨L', f1, f2, f3⟩ := hlen2.2.2 hd
      have hL := len_dig (unhide HX) e2 (by omega)
      have hL' := len_dig (unhide HY) f2 (by omega)
      have HE := hide e1
      have HF := hide f1
      clear e1 f1
      go_wp2_with fail
      go_meet
      exact ⟨L, L', _, rfl, (by rw [i64_id _ (by have := unhide HE; have := unhide HF; omega) (by have := unhide HE; have := unhide HF; omega)]; have := unhide HE; have := unhide HF; omega), e2, e3, f2, f3, hL, hL', hD2⟩
  case rest =>
  obtain ⟨L, L', D, rfl, hD, e2, e3, f2, f3, hL, hL', hb0⟩ := hcut
  have hbal := bal_near e2 e3 f2 f3
  have HBAL := hide hbal
  clear hbal e2 e3 f2 f3 x0 x1 x2 x3 hD0
  replace X := X.below hb0
  replace Y := Y.below hb0
  replace R := R.below hb0
  replace R2 := R2.below hb0
  have FX0 : ∀ o, wc.frozen? ⟨w.heap.size, o, none⟩ = false := fun o => (hb0.frozen (p := ⟨w.heap.size, o, none⟩) lX).trans (FX o)
  have FY0 : ∀ o, wc.frozen? ⟨w.heap.size + 1, o, none⟩ = false := fun o => (hb0.frozen (p := ⟨w.heap.size + 1, o, none⟩) lY).trans (FY o)
  replace HX := hide ((unhide HX).below hb0)
  replace HY := hide ((unhide HY).below hb0)
  replace hBW := bthen hBW hb0
  clear HK lX lY lR lR2 FX FY hb0
  have lX := X.lt
  have lY := Y.lt
  have lR := R.lt
  have lR2 := R2.lt
  obtain ⟨A, hA⟩ : ∃ A : Nat, (A : Int) = max 0 (-D) := ⟨(max 0 (-D)).toNat, by omega⟩
  obtain ⟨C, hC⟩ : ∃ C : Nat, (C : Int) = max 0 D := ⟨(max 0 D).toNat, by omega⟩
  have hwD : IntKind.i64.wrap (-D) = -D := i64_id _ (by omega) (by omega)
  have hDA : D ≤ 16 * k ∧ -(16 * k) ≤ D := by omega
  have hbal := unhide HBAL A C (by omega)
  have HA := hide hA
  have HC := hide hC
  have HD := hide hD
  have HW := hide hwD
  have HDA := hide hDA
  have hAk : A ≤ 16 * k := by omega
  have hCk : C ≤ 16 * k := by omega
  have HB2 := hide hbal
  clear hA hC hD hwD hDA HBAL hL hL' hbal
  go_wp2_with fail
  go_cut [7] (fun p wx => p = .int .i64 D ∧ ∃ X Y : Nm, NmC wx w.heap.size X ∧ NmC wx (w.heap.size + 1) Y ∧ IntAt wx X.neg X.a X.n X.cap (k + k + 10) (n * Q A) ∧ IntAt wx Y.neg Y.a Y.n Y.cap (k + k + 10) (d * Q C) ∧ NoI wx (w.heap.size + 1 + 1) ∧ NoI wx (w.heap.size + 1 + 1 + 1) ∧ Below w.heap.size w wx)
  case first =>
    have HXC := hide X
    have HYC := hide Y
    obtain ⟨x0, x1⟩ := X
    obtain ⟨y0, y1⟩ := Y
    have HZA := hide (show (if 0 < IntKind.i64.wrap (-D) then IntKind.i64.wrap (-D) else 0) = (A : Int) by rw [unhide HW]; have := unhide HA; split <;> omega)
    have HZC := hide (show (if 0 < D then D else 0) = (C : Int) by have := unhide HC; split <;> omega)
    by_cases d1 : 0 < D
    · have d2 : IntKind.i64.wrap (-D) ≤ 0 := by rw [unhide HW]; omega
      have HZA1 := hide (show (0 : Int) = (A : Int) by have := unhide HA; omega)
      have HZC1 := hide (show D = (C : Int) by have := unhide HC; omega)
      go_region_with
        (first
          | (go_at_call 107; have hq := hD1; (with_reducible refine (up_at _ _ _ _ _ C k d _ (by first | with_reducible exact unhide HZC1 | with_reducible exact unhide HZC) ((unhide HY).below hD1) (by omega) (by omega)).mono ?_); rintro r' w2 ⟨neg2, a2, n2, c2, rfl, hint2, hb2⟩; have hD2 := bthen hD1 hb2; have l2X := Nat.lt_of_lt_of_le lX hD2.size; have l2Y := Nat.lt_of_lt_of_le lY hD2.size; replace hint1 := hint1.below hb2; obtain ⟨x4, x5⟩ := (unhide HXC).below hD2; obtain ⟨y4, y5⟩ := (unhide HYC).below hD2; have F2 : ∀ o, w2.frozen? ⟨w.heap.size, o, none⟩ = false := (fun o => (hD2.frozen (p := ⟨w.heap.size, o, none⟩) lX).trans (FX0 o)); have G2 : ∀ o, w2.frozen? ⟨w.heap.size + 1, o, none⟩ = false := (fun o => (hD2.frozen (p := ⟨w.heap.size + 1, o, none⟩) lY).trans (FY0 o)))
          | (go_at_call 107; (with_reducible refine (up_at _ _ _ _ _ A k n _ (by first | with_reducible exact unhide HZA1 | with_reducible exact unhide HZA) ((unhide HX).below (Below.refl _ _).drew) (by omega) (by omega)).mono ?_); rintro r' w1 ⟨neg1, a1, n1, c1, rfl, hint1, hb1⟩; have hD1 : Below wc.heap.size wc w1 := bthen (Below.refl _ _).drew hb1; obtain ⟨y2, y3⟩ := (unhide HYC).below hD1; obtain ⟨x2, x3⟩ := (unhide HXC).below hD1; have l1X := Nat.lt_of_lt_of_le lX hD1.size; have l1Y := Nat.lt_of_lt_of_le lY hD1.size))
      all_goals
        go_wp2_with fail
        go_meet
        exact ⟨rfl, bal_put hD2 (NmC.mk x4 x5) (NmC.mk y4 y5) ⟨neg1, a1, n1, c1⟩ ⟨neg2, a2, n2, c2⟩ (hint1.mono (by omega)) (hint2.mono (by omega)) R R2 hBW⟩
    · by_cases d3 : D < 0
      · have d2 : 0 < IntKind.i64.wrap (-D) := by rw [unhide HW]; omega
        have d4 : D ≤ 0 := by omega
        have HZA1 := hide (show IntKind.i64.wrap (-D) = (A : Int) by rw [unhide HW]; have := unhide HA; omega)
        have HZC1 := hide (show (0 : Int) = (C : Int) by have := unhide HC; omega)
        go_region_with
          (first
            | (go_at_call 107; have hq := hD1; (with_reducible refine (up_at _ _ _ _ _ C k d _ (by first | with_reducible exact unhide HZC1 | with_reducible exact unhide HZC) ((unhide HY).below hD1) (by omega) (by omega)).mono ?_); rintro r' w2 ⟨neg2, a2, n2, c2, rfl, hint2, hb2⟩; have hD2 := bthen hD1 hb2; have l2X := Nat.lt_of_lt_of_le lX hD2.size; have l2Y := Nat.lt_of_lt_of_le lY hD2.size; replace hint1 := hint1.below hb2; obtain ⟨x4, x5⟩ := (unhide HXC).below hD2; obtain ⟨y4, y5⟩ := (unhide HYC).below hD2; have F2 : ∀ o, w2.frozen? ⟨w.heap.size, o, none⟩ = false := (fun o => (hD2.frozen (p := ⟨w.heap.size, o, none⟩) lX).trans (FX0 o)); have G2 : ∀ o, w2.frozen? ⟨w.heap.size + 1, o, none⟩ = false := (fun o => (hD2.frozen (p := ⟨w.heap.size + 1, o, none⟩) lY).trans (FY0 o)))
            | (go_at_call 107; (with_reducible refine (up_at _ _ _ _ _ A k n _ (by first | with_reducible exact unhide HZA1 | with_reducible exact unhide HZA) ((unhide HX).below (Below.refl _ _).drew) (by omega) (by omega)).mono ?_); rintro r' w1 ⟨neg1, a1, n1, c1, rfl, hint1, hb1⟩; have hD1 : Below wc.heap.size wc w1 := bthen (Below.refl _ _).drew hb1; obtain ⟨y2, y3⟩ := (unhide HYC).below hD1; obtain ⟨x2, x3⟩ := (unhide HXC).below hD1; have l1X := Nat.lt_of_lt_of_le lX hD1.size; have l1Y := Nat.lt_of_lt_of_le lY hD1.size))
        all_goals
          go_wp2_with fail
          go_meet
          exact ⟨rfl, bal_put hD2 (NmC.mk x4 x5) (NmC.mk y4 y5) ⟨neg1, a1, n1, c1⟩ ⟨neg2, a2, n2, c2⟩ (hint1.mono (by omega)) (hint2.mono (by omega)) R R2 hBW⟩
      · have d2 : IntKind.i64.wrap (-D) ≤ 0 := by rw [unhide HW]; omega
        have d4 : D ≤ 0 := by omega
        have HZA1 := hide (show (0 : Int) = (A : Int) by have := unhide HA; omega)
        have HZC1 := hide (show (0 : Int) = (C : Int) by have := unhide HC; omega)
        go_region_with
          (first
            | (go_at_call 107; have hq := hD1; (with_reducible refine (up_at _ _ _ _ _ C k d _ (by first | with_reducible exact unhide HZC1 | with_reducible exact unhide HZC) ((unhide HY).below hD1) (by omega) (by omega)).mono ?_); rintro r' w2 ⟨neg2, a2, n2, c2, rfl, hint2, hb2⟩; have hD2 := bthen hD1 hb2; have l2X := Nat.lt_of_lt_of_le lX hD2.size; have l2Y := Nat.lt_of_lt_of_le lY hD2.size; replace hint1 := hint1.below hb2; obtain ⟨x4, x5⟩ := (unhide HXC).below hD2; obtain ⟨y4, y5⟩ := (unhide HYC).below hD2; have F2 : ∀ o, w2.frozen? ⟨w.heap.size, o, none⟩ = false := (fun o => (hD2.frozen (p := ⟨w.heap.size, o, none⟩) lX).trans (FX0 o)); have G2 : ∀ o, w2.frozen? ⟨w.heap.size + 1, o, none⟩ = false := (fun o => (hD2.frozen (p := ⟨w.heap.size + 1, o, none⟩) lY).trans (FY0 o)))
            | (go_at_call 107; (with_reducible refine (up_at _ _ _ _ _ A k n _ (by first | with_reducible exact unhide HZA1 | with_reducible exact unhide HZA) ((unhide HX).below (Below.refl _ _).drew) (by omega) (by omega)).mono ?_); rintro r' w1 ⟨neg1, a1, n1, c1, rfl, hint1, hb1⟩; have hD1 : Below wc.heap.size wc w1 := bthen (Below.refl _ _).drew hb1; obtain ⟨y2, y3⟩ := (unhide HYC).below hD1; obtain ⟨x2, x3⟩ := (unhide HXC).below hD1; have l1X := Nat.lt_of_lt_of_le lX hD1.size; have l1Y := Nat.lt_of_lt_of_le lY hD1.size))
        all_goals
          go_wp2_with fail
          go_meet
          exact ⟨rfl, bal_put hD2 (NmC.mk x4 x5) (NmC.mk y4 y5) ⟨neg1, a1, n1, c1⟩ ⟨neg2, a2, n2, c2⟩ (hint1.mono (by omega)) (hint2.mono (by omega)) R R2 hBW⟩
  case rest =>
  obtain ⟨rfl, X, Y, hX, hY, iX, iY, R, R2, hBW⟩ := hcut
  have hQA := Q_pos A
  have hQC := Q_pos C
  have hnA : 0 < n * Q A := Int.mul_pos hn (by omega)
  have hdC : 0 < d * Q C := Int.mul_pos hd (by omega)
  obtain ⟨N1, hN1⟩ : ∃ N1, N1 = n * Q A := ⟨_, rfl⟩
  obtain ⟨D1, hD1⟩ : ∃ D1, D1 = d * Q C := ⟨_, rfl⟩
  have hm1 : 0 ≤ D → n * D1 = N1 * d * Q D.toNat := fun h => by
    have e1 : A = 0 := by have := unhide HA; omega
    have e2 : D.toNat = C := by have := unhide HC; omega
    rw [hN1, hD1, e1, e2]; simp only [Q]; grind
  have hm2 : D < 0 → n * D1 * Q (-D).toNat = N1 * d := fun h => by
    have e1 : C = 0 := by have := unhide HC; omega
    have e2 : (-D).toNat = A := by have := unhide HA; omega
    rw [hN1, hD1, e1, e2]; simp only [Q]; grind
  have HM1 := hide hm1
  have HM2 := hide hm2
  have HDA2 := unhide HDA
  have HB3 : Hid (N1 < 2 * D1 ∧ D1 < 2 * N1) := hide (by rw [hN1, hD1]; exact unhide HB2)
  rw [← hN1] at iX hnA
  rw [← hD1] at iY hdC
  clear hm1 hm2 HA HC HD HW HDA hQA hQC hN1 hD1 HB2
  have HIX := hide iX
  have HIY := hide iY
  have HXC := hide hX
  have HYC := hide hY
  have lX := hX.lt
  have lY := hY.lt
  have lR := R.lt
  have lR2 := R2.lt
  have HK := hide (show ∀ w', Below wc.heap.size wc w' → (w'.cell? ⟨w.heap.size, 0, none⟩ = some (.bool X.neg) ∧ w'.cell? ⟨w.heap.size, 1, none⟩ = some (.slice X.a X.n X.cap) ∧ w'.cell? ⟨w.heap.size + 1, 0, none⟩ = some (.bool Y.neg) ∧ w'.cell? ⟨w.heap.size + 1, 1, none⟩ = some (.slice Y.a Y.n Y.cap)) from fun w' hB => ⟨(hX.below hB).c0, (hX.below hB).c1, (hY.below hB).c0, (hY.below hB).c1⟩)
  clear iX iY hX hY
  obtain ⟨x0, x1, y0, y1⟩ := unhide HK _ (Below.refl _ _)
  have hD0 : Below wc.heap.size wc wc.drew := (Below.refl _ _).drew
  go_wp2_with fail
  go_cut [22] (fun p wx => p = .bool (decide (D1 * 3 < N1 * 2)) ∧ Below wc.heap.size wc wx)
  case first =>
    go_region_held3 (fun w' => w'.cell? ⟨w.heap.size, 0, none⟩ = some (.bool X.neg) ∧ w'.cell? ⟨w.heap.size, 1, none⟩ = some (.slice X.a X.n X.cap) ∧ w'.cell? ⟨w.heap.size + 1, 0, none⟩ = some (.bool Y.neg) ∧ w'.cell? ⟨w.heap.size + 1, 1, none⟩ = some (.slice Y.a Y.n Y.cap)) (first | exact unhide HK _ (by first | with_reducible exact hD0 | with_reducible exact hD4 | with_reducible exact hD3 | with_reducible exact hD2 | with_reducible exact hD1) | go_keep)
      (first
        | (go_at_call 33; have hq := hD3; refine (cmp_int _ _ _ _ _ _ _ _ _ _ (N1 * 2) (D1 * 3) _ ((hint1.below hb2).below hb3) hint3).mono ?_; rintro r' w4 ⟨rfl, hb4⟩; have hD4 := bthen hD3 hb4)
        | (go_at_call 52; have hq := hD2; refine (mul_int _ _ _ _ _ _ _ _ (k + k + 10) 4 D1 3 _ ((unhide HIY).below hD2) hint2 (by omega) (by omega)).mono ?_; rintro r' w3 ⟨neg3, a3, n3, c3, rfl, hint3, hb3⟩; have hD3 := bthen hD2 hb3)
        | (go_at_call 62; have hq := hD1; refine (numOf_int 3 _ (by decide) (by decide)).mono ?_; rintro r' w2 ⟨neg2, a2, n2, c2, rfl, hint2, hb2⟩; have hD2 := bthen hD1 hb2)
        | (go_at_call 107; refine (up_at _ _ _ _ _ 1 (k + k + 10) N1 _ rfl ((unhide HIX).below hD0) (by omega) (by omega)).mono ?_; rintro r' w1 ⟨neg1, a1, n1, c1, rfl, hint1, hb1⟩; have hD1 := bthen hD0 hb1))
    all_goals
      go_wp2_with fail
      go_meet
      exact ⟨congrArg _ (cmp_gtB _ _), hD4⟩
  case rest =>
  obtain ⟨rfl, hb1⟩ := hcut
  have HXC := hide ((unhide HXC).below hb1)
  have HYC := hide ((unhide HYC).below hb1)
  have HIX := hide ((unhide HIX).below hb1)
  have HIY := hide ((unhide HIY).below hb1)
  replace R := R.below hb1
  replace R2 := R2.below hb1
  replace hBW := bthen hBW hb1
  have lX := (unhide HXC).lt
  have lY := (unhide HYC).lt
  have lR := R.lt
  have lR2 := R2.lt
  have HK := hide (show ∀ w', Below wc.heap.size wc w' → (w'.cell? ⟨w.heap.size, 0, none⟩ = some (.bool X.neg) ∧ w'.cell? ⟨w.heap.size, 1, none⟩ = some (.slice X.a X.n X.cap) ∧ w'.cell? ⟨w.heap.size + 1, 0, none⟩ = some (.bool Y.neg) ∧ w'.cell? ⟨w.heap.size + 1, 1, none⟩ = some (.slice Y.a Y.n Y.cap)) from fun w' hB => ⟨((unhide HXC).below hB).c0, ((unhide HXC).below hB).c1, ((unhide HYC).below hB).c0, ((unhide HYC).below hB).c1⟩)
  clear x0 x1 y0 y1 hD0
  obtain ⟨x0, x1, y0, y1⟩ := unhide HK _ (Below.refl _ _)
  have hD0 : Below wc.heap.size wc wc.drew := (Below.refl _ _).drew
  have n1 : w.heap.size ≠ w.heap.size + 1 + 1 := by omega
  have n2 : w.heap.size ≠ w.heap.size + 1 + 1 + 1 := by omega
  have n3 : w.heap.size + 1 ≠ w.heap.size + 1 + 1 := by omega
  have n4 : w.heap.size + 1 ≠ w.heap.size + 1 + 1 + 1 := by omega
  have n5 : w.heap.size + 1 + 1 ≠ w.heap.size + 1 + 1 + 1 := by omega
  have n6 : w.heap.size + 1 + 1 + 1 ≠ w.heap.size + 1 + 1 := by omega
  have n7 : w.heap.size + 1 + 1 ≠ w.heap.size := by omega
  have n8 : w.heap.size + 1 + 1 + 1 ≠ w.heap.size := by omega
  have n9 : w.heap.size + 1 + 1 ≠ w.heap.size + 1 := by omega
  have n10 : w.heap.size + 1 + 1 + 1 ≠ w.heap.size + 1 := by omega
  by_cases hc : D1 * 3 < N1 * 2
  · have HR : Hid (Bal n d N1 (D1 * 2) (D + 1)) := hide (by
      exact bal_a hnA hdC (unhide HM1) (unhide HM2) (unhide HB3).1 (unhide HB3).2 hc)
    have HW1 := hide (show IntKind.i64.wrap (D + 1) = D + 1 from i64_id _ (by omega) (by omega))
    have Hc := hide hc
    go_wp2_with fail
    go_region_held3 (fun w' => w'.cell? ⟨w.heap.size, 0, none⟩ = some (.bool X.neg) ∧ w'.cell? ⟨w.heap.size, 1, none⟩ = some (.slice X.a X.n X.cap) ∧ w'.cell? ⟨w.heap.size + 1, 0, none⟩ = some (.bool Y.neg) ∧ w'.cell? ⟨w.heap.size + 1, 1, none⟩ = some (.slice Y.a Y.n Y.cap)) (first | exact unhide HK _ (by first | with_reducible exact hD0 | with_reducible exact hD1) | go_keep)
      (first
        | (go_at_call 107; refine (up_at _ _ _ _ _ 1 (k + k + 10) D1 _ rfl ((unhide HIY).below hD0) (by omega) (by omega)).mono ?_; rintro r' w1 ⟨neg1, a1, n1', c1, rfl, hint1, hb1⟩; have hD1 := bthen hD0 hb1; obtain ⟨q0, q1, q2⟩ := R.below hD1; obtain ⟨p0, p1, p2⟩ := R2.below hD1; obtain ⟨z0, z1, z2, z3⟩ := unhide HK _ hD1))
    all_goals
      have HE := bal_end (w := w) (K := k + k + 20) (R.below hD1) (R2.below hD1) (X := X) (Y := ⟨neg1, a1, n1', c1⟩) (((unhide HIX).below hD1).mono (by omega)) (hint1.mono (by omega)) (bthen hBW hD1)
      go_wp2_with fail
      refine bodyPost_ret (v := .tuple #[.agg #[.bool X.neg, .slice X.a X.n X.cap], .agg #[.bool neg1, .slice a1 n1' c1], .int .i64 (IntKind.i64.wrap (D + 1))]) (by simp [results, Try.results152, go_sem, q0, q1, p0, p1, n5, n6]) rfl ⟨X, ⟨neg1, a1, n1', c1⟩, N1, (D1 * 2), _, rfl, by rw [unhide HW1]; exact unhide HR, by rw [unhide HW1]; omega, by rw [unhide HW1]; omega, HE.1, HE.2.1, HE.2.2⟩
  · have Hc := hide hc
    go_wp2_with fail
    go_cut [35] (fun p wx => p = .bool (decide (N1 * 4 < D1 * 3)) ∧ Below wc.heap.size wc wx)
    case first =>
      go_region_held3 (fun w' => w'.cell? ⟨w.heap.size, 0, none⟩ = some (.bool X.neg) ∧ w'.cell? ⟨w.heap.size, 1, none⟩ = some (.slice X.a X.n X.cap) ∧ w'.cell? ⟨w.heap.size + 1, 0, none⟩ = some (.bool Y.neg) ∧ w'.cell? ⟨w.heap.size + 1, 1, none⟩ = some (.slice Y.a Y.n Y.cap)) (first | exact unhide HK _ (by first | with_reducible exact hD0 | with_reducible exact hD4 | with_reducible exact hD3 | with_reducible exact hD2 | with_reducible exact hD1) | go_keep)
        (first
          | (go_at_call 33; have hq := hD3; refine (cmp_int _ _ _ _ _ _ _ _ _ _ (N1 * 4) (D1 * 3) _ ((hint1.below hb2).below hb3) hint3).mono ?_; rintro r' w4 ⟨rfl, hb4⟩; have hD4 := bthen hD3 hb4)
          | (go_at_call 52; have hq := hD2; refine (mul_int _ _ _ _ _ _ _ _ (k + k + 10) 4 D1 3 _ ((unhide HIY).below hD2) hint2 (by omega) (by omega)).mono ?_; rintro r' w3 ⟨neg3, a3, n3, c3, rfl, hint3, hb3⟩; have hD3 := bthen hD2 hb3)
          | (go_at_call 62; have hq := hD1; refine (numOf_int 3 _ (by decide) (by decide)).mono ?_; rintro r' w2 ⟨neg2, a2, n2, c2, rfl, hint2, hb2⟩; have hD2 := bthen hD1 hb2)
          | (go_at_call 107; refine (up_at _ _ _ _ _ 2 (k + k + 10) N1 _ rfl ((unhide HIX).below hD0) (by omega) (by omega)).mono ?_; rintro r' w1 ⟨neg1, a1, n1, c1, rfl, hint1, hb1⟩; have hD1 := bthen hD0 hb1))
      all_goals
        go_wp2_with fail
        go_meet
        exact ⟨congrArg _ (cmp_ltB _ _), hD4⟩
    case rest =>
    obtain ⟨rfl, hb1⟩ := hcut
    have HXC := hide ((unhide HXC).below hb1)
    have HYC := hide ((unhide HYC).below hb1)
    have HIX := hide ((unhide HIX).below hb1)
    have HIY := hide ((unhide HIY).below hb1)
    replace R := R.below hb1
    replace R2 := R2.below hb1
    replace hBW := bthen hBW hb1
    have lX := (unhide HXC).lt
    have lY := (unhide HYC).lt
    have lR := R.lt
    have lR2 := R2.lt
    have HK := hide (show ∀ w', Below wc.heap.size wc w' → (w'.cell? ⟨w.heap.size, 0, none⟩ = some (.bool X.neg) ∧ w'.cell? ⟨w.heap.size, 1, none⟩ = some (.slice X.a X.n X.cap) ∧ w'.cell? ⟨w.heap.size + 1, 0, none⟩ = some (.bool Y.neg) ∧ w'.cell? ⟨w.heap.size + 1, 1, none⟩ = some (.slice Y.a Y.n Y.cap)) from fun w' hB => ⟨((unhide HXC).below hB).c0, ((unhide HXC).below hB).c1, ((unhide HYC).below hB).c0, ((unhide HYC).below hB).c1⟩)
    clear x0 x1 y0 y1 hD0
    obtain ⟨x0, x1, y0, y1⟩ := unhide HK _ (Below.refl _ _)
    have hD0 : Below wc.heap.size wc wc.drew := (Below.refl _ _).drew
    by_cases hc2 : N1 * 4 < D1 * 3
    · have HR : Hid (Bal n d (N1 * 2) D1 (D - 1)) := hide (by
          exact bal_b hnA hdC (unhide HM1) (unhide HM2) (unhide HB3).1 (unhide HB3).2 hc2)
      have HW1 := hide (show IntKind.i64.wrap (D - 1) = D - 1 from i64_id _ (by omega) (by omega))
      have Hc2 := hide hc2
      go_wp2_with fail
      go_region_held3 (fun w' => w'.cell? ⟨w.heap.size, 0, none⟩ = some (.bool X.neg) ∧ w'.cell? ⟨w.heap.size, 1, none⟩ = some (.slice X.a X.n X.cap) ∧ w'.cell? ⟨w.heap.size + 1, 0, none⟩ = some (.bool Y.neg) ∧ w'.cell? ⟨w.heap.size + 1, 1, none⟩ = some (.slice Y.a Y.n Y.cap)) (first | exact unhide HK _ (by first | with_reducible exact hD0 | with_reducible exact hD1) | go_keep)
        (first
          | (go_at_call 107; refine (up_at _ _ _ _ _ 1 (k + k + 10) N1 _ rfl ((unhide HIX).below hD0) (by omega) (by omega)).mono ?_; rintro r' w1 ⟨neg1, a1, n1', c1, rfl, hint1, hb1⟩; have hD1 := bthen hD0 hb1; obtain ⟨q0, q1, q2⟩ := R.below hD1; obtain ⟨p0, p1, p2⟩ := R2.below hD1; obtain ⟨z0, z1, z2, z3⟩ := unhide HK _ hD1))
      all_goals
        have HE := bal_end (w := w) (K := k + k + 20) (R.below hD1) (R2.below hD1) (X := ⟨neg1, a1, n1', c1⟩) (Y := Y) (hint1.mono (by omega)) (((unhide HIY).below hD1).mono (by omega)) (bthen hBW hD1)
        go_wp2_with fail
        refine bodyPost_ret (v := .tuple #[.agg #[.bool neg1, .slice a1 n1' c1], .agg #[.bool Y.neg, .slice Y.a Y.n Y.cap], .int .i64 (IntKind.i64.wrap (D - 1))]) (by simp [results, Try.results152, go_sem, q0, q1, p0, p1, n5, n6]) rfl ⟨⟨neg1, a1, n1', c1⟩, Y, (N1 * 2), D1, _, rfl, by rw [unhide HW1]; exact unhide HR, by rw [unhide HW1]; omega, by rw [unhide HW1]; omega, HE.1, HE.2.1, HE.2.2⟩
    · have HR : Hid (Bal n d N1 D1 D) := hide (by
          exact bal_c hnA hdC (unhide HM1) (unhide HM2) (by have := unhide Hc; omega) hc2)
      have Hc2 := hide hc2
      go_wp2_with fail
      have HR1 := R
      have HR2 := R2
      obtain ⟨q0, q1, q2⟩ := R
      obtain ⟨p0, p1, p2⟩ := R2
      go_region
      all_goals
        have HE := bal_end (w := w) (K := k + k + 20) (HR1.below (Below.refl _ _).drew) (HR2.below (Below.refl _ _).drew) (X := X) (Y := Y) (((unhide HIX).below (Below.refl _ _).drew).mono (by omega)) (((unhide HIY).below (Below.refl _ _).drew).mono (by omega)) (bthen hBW (Below.refl _ _).drew)
        go_wp2_with fail
        refine bodyPost_ret (v := .tuple #[.agg #[.bool X.neg, .slice X.a X.n X.cap], .agg #[.bool Y.neg, .slice Y.a Y.n Y.cap], .int .i64 (D)]) (by simp [results, Try.results152, go_sem, q0, q1, p0, p1, n5, n6]) rfl ⟨X, Y, N1, D1, _, rfl, by exact unhide HR, by omega, by omega, HE.1, HE.2.1, HE.2.2⟩
end Go.Proofs.Ytgmnknmjainabaa
