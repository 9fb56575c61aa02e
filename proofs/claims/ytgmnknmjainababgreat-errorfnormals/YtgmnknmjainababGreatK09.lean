/-
  What wide.Exp answers, and that it leaves old memory alone.
  The numbers that make up a logarithm, that what is made has it, and how wide it is. Plain arithmetic: no statement of the seat is proved here.
  What power.Exp answers, and that it leaves old memory alone.
  What power.Exp answers, errors too, and that it leaves old memory alone.
  What wide.Raised answers of a whole number and of how often it is taken, and that it leaves old memory alone.
  What wide.logNear answers, and that it leaves old memory alone.
  The numbers that make up a power of e of a number from 0 to 1, as package tailsureref takes them. Plain arithmetic: no statement of the seat is proved here.
  Roots of a power of e; the logarithm of what is near 1, by its alternating sum. Plain arithmetic: no statement of the seat is proved here.
  What Whole, tail, small of package tailsureref answer, and that they leave old memory alone.
  What By of package tailsureref answers, and that it leaves old memory alone.
  How far the sums of the logarithm near 1 reach; spans times a ratio of either sign; how a quotient is brought between 1 and 2. Plain arithmetic: no statement of the seat is proved here.
  In how many ways a number comes (law.ways), and that it leaves old memory alone.
  Least and most of quotients of numbers between ends, and roots of whole numbers, down and up: plain arithmetic.
-/
import Derived.Test.YtgmnknmjainababGreatK08
namespace Go.Proofs.YtgmnknmjainababGreat
set_option linter.unusedVariables false
set_option linter.unusedSimpArgs false
set_option linter.unnecessarySimpa false
open Go.RowKit
attribute [local go_sem ↓] Go.wp_at_zero Go.wp_at_succ

theorem len_uniq {z l l' : Int} (h : LenIs z l) (h' : LenIs z l') (hz : 0 ≤ z) : l = l' := by
  obtain ⟨a1, a2, a3⟩ := h
  obtain ⟨b1, b2, b3⟩ := h'
  by_cases hp : 0 < z
  · obtain ⟨L, e1, e2, e3⟩ := a3 hp
    obtain ⟨L', f1, f2, f3⟩ := b3 hp
    have : L = L' := by
      rcases Nat.lt_trichotomy L L' with h | h | h
      · have := Q_mono (show L + 1 ≤ L' by omega); omega
      · exact h
      · have := Q_mono (show L' + 1 ≤ L by omega); omega
    omega
  · have := a2 (by omega); have := b2 (by omega); omega
theorem exp_one {b N : Nat} {sm : Int × Int} (hb : 16 ≤ b) (hN : IsStop (expT b sm) N) : 1 ≤ N := by
  refine Nat.pos_of_ne_zero fun e => ?_
  have := hN.1
  rw [e] at this
  have h2 : reachI (expT b sm 0) = Q b := by
    show maxZ (Q b) (-Q b) = Q b
    have := Q_pos b
    unfold maxZ; rw [if_neg (by omega)]
  rw [h2] at this
  have := Q_mono hb
  have : Q 16 = 65536 := rfl
  omega
theorem exp_times {z l l' bt : Int} {b t : Nat} (h' : LenIs z l') (h : LenIs z l) (ht : (t : Int) = max 0 (l - b + 8)) (hb : bt = (b : Int)) (hbm : b ≤ 1000000) (ht2 : t ≤ 1000000) (hz : 0 ≤ z) :
    (if 0 < IntKind.i64.wrap (IntKind.i64.wrap (l' - bt) + 8) then IntKind.i64.wrap (IntKind.i64.wrap (l' - bt) + 8) else 0) = (t : Int) := by
  have e := len_uniq h' h hz
  have l0 := h.1
  have l1 : l ≤ 3000000 := by omega
  subst e
  rw [hb, i64_id (l' - b) (by omega) (by omega), i64_id (l' - b + 8) (by omega) (by omega)]
  split <;> omega

set_option maxRecDepth 100000 in
set_option maxHeartbeats 4000000 in
theorem wideExp_iv (w : World) (s : Sp) (K b t N : Nat) (a : Int × Int) (l : Int) (hs : SpAt w s K a.1 a.2) (hbits : s.bits = (b : Int)) (hle : a.1 ≤ a.2) (hb16 : 16 ≤ b) (hb : b ≤ 1000000) (hl : LenIs (reachI a) l) (ht : (t : Int) = max 0 (l - b + 8)) (ht2 : t ≤ 1000000)
    (hsm : Abs (downI a t) (Q (b - 8))) (hN : IsStop (expT b (downI a t)) N) (hK : Q (b + eb t) < P K) (hK2 : K ≤ 10000000) :
    Calls Tryz.prog 147 #[.agg #[.bool s.ln, .slice s.la s.lN s.lc, .bool s.hn, .slice s.ha s.hN s.hc, .int .i64 s.bits]] w (SpanAns w b K (sqI b (doneI (expT b (downI a t)) N) t).1 (sqI b (doneI (expT b (downI a t)) N) t).2) := by
  obtain ⟨W, hW⟩ : ∃ W, W = (w.alloc (.cells #[.bool s.ln, .slice s.la s.lN s.lc, .bool s.hn, .slice s.ha s.hN s.hc, .int .i64 s.bits] 28)).alloc (.cells #[.bool false, .slice none 0 0, .bool false, .slice none 0 0, .int .i64 0] 28) := ⟨_, rfl⟩
  have hBW : Below w.heap.size w W := by rw [hW]; exact bl2 _ _ _
  have A : SpC W w.heap.size s := by rw [hW]; exact ⟨by simp [go_sem], by simp [go_sem], by simp [go_sem], by simp [go_sem], by simp [go_sem]⟩
  have R : NoC W (w.heap.size + 1) := by rw [hW]; exact ⟨by simp [go_sem], by simp [go_sem], by simp [go_sem], by simp [go_sem], by simp [go_sem], fun o => by simp [go_sem]⟩
  have HS := hide (hs.below hBW)
  have lA := A.lt
  have lR := R.lt
  have HB := hide hbits
  have HT := hide ht
  have hr0 := reach_pair hle
  have HK := hide (show ∀ w', Below W.heap.size W w' → (w'.cell? ⟨w.heap.size, 0, none⟩ = some (.bool s.ln) ∧ w'.cell? ⟨w.heap.size, 1, none⟩ = some (.slice s.la s.lN s.lc) ∧ w'.cell? ⟨w.heap.size, 2, none⟩ = some (.bool s.hn) ∧ w'.cell? ⟨w.heap.size, 3, none⟩ = some (.slice s.ha s.hN s.hc) ∧ w'.cell? ⟨w.heap.size, 4, none⟩ = some (.int .i64 s.bits)) from fun w' hB => ⟨(A.below hB).c0, (A.below hB).c1, (A.below hB).c2, (A.below hB).c3, (A.below hB).c4⟩)
  clear hs hbits ht
  go_enter Tryz.func147, Tryz.ntmps147
  go_wp2
  rw [← hW]
  clear hW
  obtain ⟨x0, x1, x2, x3, x4⟩ := unhide HK _ (Below.refl _ _)
  have hD0 : Below W.heap.size W W.drew := (Below.refl _ _).drew
  go_cut [3] (fun p wx => p = .int .i64 (t : Int) ∧ Below W.heap.size W wx)
  case first =>
    go_region_held3 (fun w' => w'.cell? ⟨w.heap.size, 0, none⟩ = some (.bool s.ln) ∧ w'.cell? ⟨w.heap.size, 1, none⟩ = some (.slice s.la s.lN s.lc) ∧ w'.cell? ⟨w.heap.size, 2, none⟩ = some (.bool s.hn) ∧ w'.cell? ⟨w.heap.size, 3, none⟩ = some (.slice s.ha s.hN s.hc) ∧ w'.cell? ⟨w.heap.size, 4, none⟩ = some (.int .i64 s.bits)) (first | exact unhide HK _ (by first | with_reducible exact hD0 | with_reducible exact hD2 | with_reducible exact hD1) | go_keep)
      (first
        | (go_at_call 120; have hq := hD1; refine (len_int _ _ _ _ _ (reachI a) _ hint1 hr0).mono ?_; rintro r' w2 ⟨l', hlen, rfl, hb2⟩; have hD2 := bthen hD1 hb2)
        | (go_at_call 175; refine (reach_int _ s K _ _ ((unhide HS).below hD0) (by omega)).mono ?_; rintro r' w1 ⟨neg1, a1, n1, c1, rfl, hint1, hb1⟩; have hD1 := bthen hD0 hb1))
    all_goals go_wp2_with fail
    all_goals
      go_meet
      refine ⟨congrArg _ ?_, hD2⟩
      have e := exp_times hlen hl (unhide HT) (unhide HB) hb ht2 hr0
      split at e <;> omega
  case rest =>
  obtain ⟨rfl, hb0⟩ := hcut
  replace A := A.below hb0
  replace R := R.below hb0
  replace hBW := bthen hBW hb0
  replace HS := hide ((unhide HS).below hb0)
  have lA := A.lt
  have lR := R.lt
  have HK := hide (show ∀ w', Below wc.heap.size wc w' → (w'.cell? ⟨w.heap.size, 0, none⟩ = some (.bool s.ln) ∧ w'.cell? ⟨w.heap.size, 1, none⟩ = some (.slice s.la s.lN s.lc) ∧ w'.cell? ⟨w.heap.size, 2, none⟩ = some (.bool s.hn) ∧ w'.cell? ⟨w.heap.size, 3, none⟩ = some (.slice s.ha s.hN s.hc) ∧ w'.cell? ⟨w.heap.size, 4, none⟩ = some (.int .i64 s.bits)) from fun w' hB => ⟨(A.below hB).c0, (A.below hB).c1, (A.below hB).c2, (A.below hB).c3, (A.below hB).c4⟩)
  clear x0 x1 x2 x3 x4 hD0 hb0
  obtain ⟨x0, x1, x2, x3, x4⟩ := unhide HK _ (Below.refl _ _)
  go_wp2_with fail
  go_cut [4] (fun p wx => ∃ (B : Nat) (u : Sp), p = .pointer (some ⟨B, 0, none⟩) ∧ wc.heap.size ≤ B ∧ VrC wx B u ∧ SpAt wx u (K + 5) (downI a t).1 (downI a t).2 ∧ u.bits = (b : Int) ∧ Below wc.heap.size wc wx)
  case first =>
    go_region_held3 (fun w' => w'.cell? ⟨w.heap.size, 0, none⟩ = some (.bool s.ln) ∧ w'.cell? ⟨w.heap.size, 1, none⟩ = some (.slice s.la s.lN s.lc) ∧ w'.cell? ⟨w.heap.size, 2, none⟩ = some (.bool s.hn) ∧ w'.cell? ⟨w.heap.size, 3, none⟩ = some (.slice s.ha s.hN s.hc) ∧ w'.cell? ⟨w.heap.size, 4, none⟩ = some (.int .i64 s.bits)) (exact unhide HK _ (by repeat' (first | with_reducible exact hBU2 | with_reducible exact hBU1 | with_reducible exact Below.refl _ _ | with_reducible refine Below.drew ?_ | with_reducible refine balloc ?_ _ | with_reducible refine Below.setCell ?_ (by first | exact Nat.le_refl _ | exact hlU1 | exact hlU2) _)))
      (first
        | (go_at_call 174; have hq := hBU1; refine (ceilDown_z _ _ _ _ K (t : Int) a.2 _ ((unhide HS).hi.below (by first | with_reducible exact hBU1 | with_reducible exact balloc hBU1 _)) (by omega) (by omega) (by omega)).mono ?_; rintro r wU2 ⟨negU2, aU2, nU2, cU2, rfl, hintU2, hbU2⟩; have hCU2 : Below wU1.heap.size wU1 wU2 := (by first | with_reducible exact hbU2 | with_reducible exact bthen (bl1 _ _) hbU2); have hBU2 := bthen hBU1 hCU2; (try with_reducible have gU2 := (noc_new wU1 28).below hbU2); replace hintU1 := hintU1.below hCU2; (try replace gU1 := gU1.below hCU2); have hlU2 := hBU2.size; (try have mU1 := gU1.lt); (try have eU1 := Nat.ne_of_lt mU1); (try have eU1' := Nat.ne_of_gt mU1); (try obtain ⟨zU10, zU11, zU12, zU13, zU14, zU15⟩ := gU1); (try have mU2 := gU2.lt); (try have eU2 := Nat.ne_of_lt mU2); (try have eU2' := Nat.ne_of_gt mU2); (try obtain ⟨zU20, zU21, zU22, zU23, zU24, zU25⟩ := gU2))
        | (go_at_call 105; refine (down_z _ _ _ _ K (t : Int) a.1 _ ((unhide HS).lo.below (by first | with_reducible exact (Below.refl _ _).drew | with_reducible exact (bl1 _ _).drew)) (by omega) (by omega) (by omega)).mono ?_; rintro r wU1 ⟨negU1, aU1, nU1, cU1, rfl, hintU1, hbU1⟩; have hBU1 : Below wc.heap.size wc wU1 := (by first | with_reducible exact bthen (Below.refl _ _).drew hbU1 | with_reducible exact bthen (bl1 _ _).drew hbU1); (try with_reducible have gU1 := ((noc_new wc 28).below (Below.refl _ _).drew).below hbU1); have hlU1 := hBU1.size))
    all_goals
      have hfinU : SpAt wU2 ⟨negU1, aU1, nU1, cU1, negU2, aU2, nU2, cU2, s.bits⟩ (K + 5) (downI a t).1 (downI a t).2 := ⟨by rw [downZ_nat] at hintU1; exact hintU1.mono (by omega), by rw [downZ_nat] at hintU2; exact hintU2.mono (by omega)⟩
      go_wp2_with fail
      go_meet
      refine ⟨_, ⟨negU1, aU1, nU1, cU1, negU2, aU2, nU2, cU2, s.bits⟩, rfl, ?_, ⟨⟨?_, ?_, ?_, ?_, ?_⟩, ?_⟩, ?_, unhide HB, ?_⟩
      · first | exact Nat.le_refl _ | exact hlU1 | exact hlU2
      · simp [go_sem, *]
      · simp [go_sem, *]
      · simp [go_sem, *]
      · simp [go_sem, *]
      · simp [go_sem, *]
      · intro o; simp [go_sem, *]
      · first | with_reducible exact hfinU.below (bl1 _ _) | with_reducible exact SpAt.put5 hfinU (by assumption) (by assumption) (by assumption) (by assumption) (by assumption) _ _ _ _ _
      · repeat' (first | with_reducible exact hBU2 | with_reducible exact hBU1 | with_reducible exact Below.refl _ _ | with_reducible refine Below.drew ?_ | with_reducible refine balloc ?_ _ | with_reducible refine Below.setCell ?_ (by first | exact Nat.le_refl _ | exact hlU1 | exact hlU2) _)
  case rest =>
  obtain ⟨BU, xU, rfl, hHU, XU, hpU, hxbU, hblU⟩ := hcut
  replace A := A.below hblU
  replace R := R.below hblU
  replace hBW := bthen hBW hblU
  have lU := XU.lt
  have nRU : w.heap.size + 1 < BU := by omega
  have lA2 := A.lt
  have lR2 := R.lt
  have HXB := hide hxbU
  have HHU := hide hpU
  clear hxbU hpU HS HK x0 x1 x2 x3 x4 hblU
  have x4 := A.c4
  rw [unhide HB] at x4
  go_wp2_with fail
  refine (one_int _ b hb).mono ?_
  rintro r w1 ⟨v1, rfl, hvb1, hvp1, hb1⟩
  have hQb := Q_pos b
  have hv0 : (expT b (downI a t) 0).1 = 1 * Q b / 1 ∧ (expT b (downI a t) 0).2 = -(-(1 * Q b) / 1) := by
    constructor
    · show Q b = _; omega
    · show Q b = _; omega
  rw [← hv0.1, ← hv0.2] at hvp1
  have hQK : Q b * 2 < P K ∧ 2 * Q b + Q b < P K := by
    have h12 : 12 ≤ eb t := by have := eb_mono (show 0 ≤ t by omega); simpa [eb] using this
    have := Q_mono (show b + 2 ≤ b + eb t by omega)
    have e : Q (b + 2) = 2 * (2 * Q b) := rfl
    omega
  have hT := expT_abs (by omega) hsm
  have hlT := expT_le b (downI a t)
  have hfit : ∀ n, n ≤ N → -P K < (expT b (downI a t) n).1 ∧ (expT b (downI a t) n).2 < P K := fun n _ => by
    obtain ⟨g1, g2, g3, g4⟩ := hT n
    have := Q_mono (show b - 8 * n ≤ b by omega)
    omega
  have hfitS : ∀ n, n ≤ N → -P K < (sumI (expT b (downI a t)) n).1 ∧ (sumI (expT b (downI a t)) n).2 < P K := fun n hn => by
    obtain ⟨g1, g2, g3, g4⟩ := sum_abs2 (s := 8) (by omega) hT hN n hn
    have := Q_pos (b - 8 * n)
    omega
  have hNb : N ≤ 1000000000 := by
    obtain ⟨N', n1, n2⟩ := stop_ex (s := 8) (by omega) hT
    have : N ≤ N' := Nat.not_lt.1 fun hlt => by have := hN.2 N' hlt; have := n2.1; omega
    omega
  replace hvp1 := hvp1.fits (K := K) (hlT 0) (hfit 0 (by omega)).1 (hfit 0 (by omega)).2
  have HT0 := hide hT
  have HLT := hide hlT
  have HFIT := hide hfit
  have HFITS := hide hfitS
  have HVP1 := hide hvp1
  have HVB1 := hide hvb1
  have HQK := hide hQK
  clear hT hlT hfit hfitS hv0 hvp1 hvb1 hQK
  replace XU := XU.below hb1
  replace HHU := hide ((unhide HHU).below hb1)
  replace R := R.below hb1
  replace hBW := bthen hBW hb1
  have lU3 := XU.lt
  have lR3 := R.lt
  clear hb1 x4 A lA2
  go_wp2_with fail
  refine (sum_exp _ (expT b (downI a t)) N b K (K + 5 + (K + 5) + 22) v1 _ (unhide HVP1) (unhide HVB1) hb (by omega) (by omega) hN hNb (unhide HLT) (unhide HFIT) (unhide HFITS) (fun n u w' hn hub hup hbw => ?_)).mono ?_
  · exact exp1_iv w' BU u xU (K + 5) b ((n : Int) + 1) (expT b (downI a t) n) (downI a t) (hup.mono (by omega)) ((unhide HHU).below hbw) (XU.c.below hbw) (by omega) hub hb (by omega) (by omega)
  rintro r w2 ⟨v2, rfl, hvb2, hvp2, hb2⟩
  replace XU := XU.below hb2
  replace R := R.below hb2
  replace hBW := bthen hBW hb2
  have hdl := done_le (unhide HLT) N
  have hda := done_abs2 (s := 8) (by omega) (unhide HLT) (unhide HT0) hN
  replace hvp2 := hvp2.fits (K := K) hdl (by have := hda.1; have := unhide HQK; omega) (by have := hda.2.2.2; have := unhide HQK; omega)
  have HV2 := hide hvb2
  clear hvb2 hb2 HVP1 HVB1 hdl hda
  have lR4 := R.lt
  go_wp2_with fail
  go_loopw [31] (fun ii wr => ∃ (i : Nat) (X : Sp), ii = .int .i64 (i : Int) ∧ i ≤ t ∧ VrC wr w2.heap.size X ∧ SpAt wr X K (sqI b (doneI (expT b (downI a t)) N) i).1 (sqI b (doneI (expT b (downI a t)) N) i).2 ∧ X.bits = (b : Int) ∧ NoC wr (w.heap.size + 1) ∧ Below w.heap.size w wr) (fun ii _ => t - (intOf ii).toNat)
  case atStart =>
    refine ⟨0, v2, rfl, Nat.zero_le _, ⟨⟨by simp [go_sem], by simp [go_sem], by simp [go_sem], by simp [go_sem], by simp [go_sem]⟩, fun o => by simp [go_sem]⟩, hvp2.below (bl1 _ _), unhide HV2, R.below (bl1 _ _), balloc hBW _⟩
  case round =>
    obtain ⟨i, X, rfl, hi, hX, hp, hxb, hR, hB⟩ := hrel
    have HXB := hide hxb
    clear hxb
    have lX := hX.lt
    by_cases hin : i < t
    · have hin' : (i : Int) < (t : Int) := by omega
      obtain ⟨⟨x0, x1, x2, x3, x4⟩, x5⟩ := hX
      go_wp2_with fail
      refine (mul_iv _ X X K b _ _ hp hp (by omega) (unhide HXB) hb).mono ?_
      rintro r w3 ⟨v, rfl, hvb, hvp, hb3⟩
      have X3 := VrC.below ⟨⟨x0, x1, x2, x3, x4⟩, x5⟩ hb3
      have R3 := hR.below hb3
      have B3 := bthen hB hb3
      have e : mulI b (sqI b (doneI (expT b (downI a t)) N) i) (sqI b (doneI (expT b (downI a t)) N) i) = sqI b (doneI (expT b (downI a t)) N) (i + 1) := rfl
      rw [e] at hvp
      have h1N : 1 ≤ N := exp_one hb16 hN
      have ha := sq_abs hb16 (done_abs1 (s := 8) (by omega) (unhide HLT) (unhide HT0) hN h1N) (i + 1)
      have hm := Q_mono (show b + eb (i + 1) ≤ b + eb t by have := eb_mono (show i + 1 ≤ t by omega); omega)
      replace hvp := hvp.fits (K := K) (mulI_le b) (by have := ha.1; omega) (by have := ha.2.2.2; omega)
      have HV := hide hvb
      have nB : w.heap.size + 1 ≠ w2.heap.size := by omega
      have stn : VrC (put5w w3 w2.heap.size v) w2.heap.size v ∧ SpAt (put5w w3 w2.heap.size v) v K (sqI b (doneI (expT b (downI a t)) N) (i + 1)).1 (sqI b (doneI (expT b (downI a t)) N) (i + 1)).2 ∧ NoC (put5w w3 w2.heap.size v) (w.heap.size + 1) ∧ Below w.heap.size w (put5w w3 w2.heap.size v) := ⟨X3.put v, hvp.put X3.c v, R3.off nB v, below_put B3 (by omega) v⟩
      unfold put5w at stn
      clear hvb hb3 x0 x1 x2 x3 x4 x5 hvp ha hm
      obtain ⟨⟨x0, x1, x2, x3, x4⟩, x5⟩ := X3
      go_wp2_with fail
      go_roundw
      case rel => exact ⟨i + 1, v, by go_num, by omega, stn.1, stn.2.1, unhide HV, stn.2.2.1, stn.2.2.2⟩
      case measure => simp [intOf]; omega
    · have hie : i = t := by omega
      subst hie
      have hin' : ¬ (i : Int) < (i : Int) := by omega
      obtain ⟨⟨x0, x1, x2, x3, x4⟩, x5⟩ := hX
      obtain ⟨q0, q1, q2, q3, q4, q5⟩ := hR
      go_wp2_with fail
      refine bodyPost_ret (v := .agg #[.bool X.ln, .slice X.la X.lN X.lc, .bool X.hn, .slice X.ha X.hN X.hc, .int .i64 X.bits]) (by simp [results, Tryz.results147, go_sem, q0, q1, q2, q3, q4]) rfl ⟨X, rfl, unhide HXB, ?_, ?_⟩
      · exact SpAt.put5 hp q0 q1 q2 q3 q4 _ _ _ _ _
      · exact set5 hB (Nat.le_succ _) _ _ _ _ _
end Go.Proofs.YtgmnknmjainababGreat

namespace Go.Proofs.YtgmnknmjainababGreat
set_option linter.unusedVariables false
open Ex

theorem ofI_le {n d : Int} (hd : 0 < d) (B : Nat) : (ofI n d B).1 ≤ (ofI n d B).2 := by
  have := scaleI_le (a := (n * Q B, n * Q B)) (n := 1) (Int.le_refl _) hd (by omega)
  simpa [scaleI, ofI] using this
theorem ofI_wide {n d : Int} (hd : 0 < d) (B : Nat) : (ofI n d B).2 - (ofI n d B).1 ≤ 1 := by
  have := div_wide (x := n * Q B) (y := n * Q B) (c := 0) hd (by omega)
  simpa [ofI] using this
theorem ofI_abs {n d m : Int} (hd : 0 < d) (B : Nat) (h1 : -(m * d) ≤ n * Q B) (h2 : n * Q B ≤ m * d) : Abs (ofI n d B) m := by
  have := round_abs hd h1 h2
  exact ⟨this.1, this.2.1, this.2.2.1, this.2.2.2⟩
end Go.Proofs.YtgmnknmjainababGreat

namespace Go.Proofs.YtgmnknmjainababGreat
set_option linter.unusedVariables false
set_option linter.unusedSimpArgs false
set_option linter.unnecessarySimpa false
open Go.RowKit
attribute [local go_sem ↓] Go.wp_at_zero Go.wp_at_succ

/-- Each number from 0 on has a length. -/
theorem len_ex {z : Int} (hz : 0 ≤ z) {e : Nat} (he : z < Q e) : ∃ l, LenIs z l ∧ l ≤ e ∧ z < Q l.toNat := by
  by_cases hp : 0 < z
  · have key : ∀ e : Nat, z < Q e → ∃ L : Nat, L + 1 ≤ e ∧ Q L ≤ z ∧ z < Q (L + 1) := fun e => by
      induction e with
      | zero => intro h; simp [Q] at h; omega
      | succ e ih =>
        intro h
        by_cases hq : Q e ≤ z
        · exact ⟨e, Nat.le_refl _, hq, h⟩
        · obtain ⟨L, h1, h2⟩ := ih (by omega)
          exact ⟨L, by omega, h2⟩
    obtain ⟨L, h1, h2, h3⟩ := key e he
    exact ⟨(L : Int) + 1, ⟨by omega, fun h => by omega, fun _ => ⟨L, rfl, h2, h3⟩⟩, by omega, by rw [show ((L : Int) + 1).toNat = L + 1 by omega]; exact h3⟩
  · have : z = 0 := by omega
    subst this
    exact ⟨0, ⟨by omega, fun _ => rfl, fun h => by omega⟩, by omega, by simp [Q]⟩
/-- How wide.Exp goes about it. -/
theorem exp_set {B e : Nat} {a : Int × Int} (hB : 16 ≤ B) (ha : a.1 ≤ a.2) (h : reachI a < Q (B + e)) :
    ∃ (l : Int) (t N : Nat), LenIs (reachI a) l ∧ (t : Int) = max 0 (l - B + 8) ∧ t ≤ e + 8 ∧ Abs (downI a t) (Q (B - 8)) ∧ IsStop (expT B (downI a t)) N := by
  obtain ⟨l, h1, h2, h3⟩ := len_ex (reach_pair ha) h
  obtain ⟨t, ht⟩ : ∃ t : Nat, (t : Int) = max 0 (l - B + 8) := ⟨(max 0 (l - (B : Int) + 8)).toNat, by omega⟩
  have hA : Abs (downI a t) (Q (B - 8)) := by
    obtain ⟨g1, g2, g3, g4⟩ := reach_abs ha
    have q := Q_pos t
    have hm := Q_mono (show l.toNat ≤ B - 8 + t by omega)
    rw [Q_add] at hm
    have r1 := round_abs (x := a.1) (m := Q (B - 8)) (q := Q t) (by omega) (by omega) (by omega)
    have r2 := round_abs (x := a.2) (m := Q (B - 8)) (q := Q t) (by omega) (by omega) (by omega)
    exact ⟨r1.1, r1.2.1, r2.2.2.1, r2.2.2.2⟩
  obtain ⟨N, n1, n2⟩ := stop_ex (s := 8) (by omega) (expT_abs (by omega) hA)
  exact ⟨l, t, N, h1, ht, by omega, hA, n2⟩
theorem wb_17 : wb 17 = 1678 := by decide
theorem eb_17 : eb 17 = 1536 := by decide
/-- A ratio in a block. -/
structure RaC (w : World) (B : Nat) (p q : Int) : Prop where
  c0 : w.cell? ⟨B, 0, none⟩ = some (.int .i64 p)
  c1 : w.cell? ⟨B, 1, none⟩ = some (.int .i64 q)
theorem RaC.lt {w : World} {B : Nat} {p q : Int} (h : RaC w B p q) : B < w.heap.size := World.block_lt_of_cell? w ⟨B, 0, none⟩ h.c0
theorem RaC.below {w w' : World} {B : Nat} {p q : Int} (h : RaC w B p q) (hb : Below w.heap.size w w') : RaC w' B p q :=
  ⟨(hb.cell (p := ⟨B, 0, none⟩) h.lt).trans h.c0, (hb.cell (p := ⟨B, 1, none⟩) h.lt).trans h.c1⟩
theorem rac_new (w : World) (p q : Int) (T : TypeId) : RaC (w.alloc (.cells #[.int .i64 p, .int .i64 q] T)) w.heap.size p q := ⟨by simp, by simp⟩

end Go.Proofs.YtgmnknmjainababGreat

namespace Go.Proofs.YtgmnknmjainababGreat
set_option linter.unusedVariables false
set_option linter.unusedSimpArgs false
set_option linter.unnecessarySimpa false
open Go.RowKit
attribute [local go_sem ↓] Go.wp_at_zero Go.wp_at_succ

theorem of_reach {p q : Int} {n b e : Nat} (hq : 0 < q) (h1 : -((n : Int) * q) ≤ p) (h2 : p ≤ (n : Int) * q) (he : (n : Int) < Q e) : reachI (ofI p q b) < Q (b + e) := by
  have qb := Q_pos b
  have g1 := Int.mul_le_mul_of_nonneg_right h1 (show 0 ≤ Q b by omega)
  have g2 := Int.mul_le_mul_of_nonneg_right h2 (show 0 ≤ Q b by omega)
  have e1 : (n : Int) * q * Q b = (n : Int) * Q b * q := by grind
  have e2 : -((n : Int) * q) * Q b = -((n : Int) * Q b * q) := by grind
  have := abs_reach (ofI_abs (n := p) (m := (n : Int) * Q b) hq b (by omega) (by omega))
  have h3 := Int.mul_lt_mul_of_pos_right he (show 0 < Q b by omega)
  rw [Q_add, Int.mul_comm (Q b)]
  omega

end Go.Proofs.YtgmnknmjainababGreat

namespace Go.Proofs.YtgmnknmjainababGreat
set_option linter.unusedVariables false
set_option linter.unusedSimpArgs false
set_option linter.unnecessarySimpa false
open Go.RowKit
attribute [local go_sem ↓] Go.wp_at_zero Go.wp_at_succ

theorem put_nm2 {w : World} {B : Nat} {z : Nm} (h : NmC w B z) (x : Nm) : NmC ((w.setCell ⟨B, 0, none⟩ (.bool x.neg)).setCell ⟨B, 1, none⟩ (.slice x.a x.n x.cap)) B x := by
  obtain ⟨q0, q1⟩ := h
  constructor <;> simp [go_sem, q0, q1]
theorem put_fz2 {w : World} {B B' : Nat} (h : ∀ o, w.frozen? ⟨B, o, none⟩ = false) (u0 u1 : Value) : ∀ o, ((w.setCell ⟨B', 0, none⟩ u0).setCell ⟨B', 1, none⟩ u1).frozen? ⟨B, o, none⟩ = false := fun o => by rw [frozen_set', frozen_set']; exact h o
theorem NmC.off {w : World} {B B' : Nat} {x : Nm} (h : NmC w B x) (hne : B ≠ B') (u0 u1 : Value) : NmC ((w.setCell ⟨B', 0, none⟩ u0).setCell ⟨B', 1, none⟩ u1) B x := by
  obtain ⟨q0, q1⟩ := h
  constructor <;> simp [go_sem, q0, q1, hne, Ne.symm hne]
theorem NoI.off {w : World} {B B' : Nat} (h : NoI w B) (hne : B ≠ B') (u0 u1 : Value) : NoI ((w.setCell ⟨B', 0, none⟩ u0).setCell ⟨B', 1, none⟩ u1) B := by
  obtain ⟨q0, q1, q2⟩ := h
  exact ⟨by simp [go_sem, q0, hne, Ne.symm hne], by simp [go_sem, q1, hne, Ne.symm hne], put_fz2 q2 _ _⟩

/-- Where wide.Raised is behind some rounds. -/
structure RaiSt (w wr : World) (B : Nat) (a : Int) (k j e : Nat) (X Y : Nm) : Prop where
  je : j * e ≤ k
  e1 : 1 ≤ e
  e2 : e ≤ 2 * k + 1
  x : NmC wr B X
  y : NmC wr (B + 1) Y
  fx : ∀ o, wr.frozen? ⟨B, o, none⟩ = false
  fy : ∀ o, wr.frozen? ⟨B + 1, o, none⟩ = false
  ix : IntAt wr X.neg X.a X.n X.cap (4 * (k - j * e) + 4) (a ^ (k - j * e))
  iy : IntAt wr Y.neg Y.a Y.n Y.cap (4 * e) (a ^ e)
  no : NoI wr w.heap.size
  be : Below w.heap.size w wr
  lo : w.heap.size < B

theorem RaiSt.below {w wr wr' : World} {B : Nat} {a : Int} {k j e : Nat} {X Y : Nm} (h : RaiSt w wr B a k j e X Y) (hb : Below wr.heap.size wr wr') : RaiSt w wr' B a k j e X Y :=
  ⟨h.je, h.e1, h.e2, h.x.below hb, h.y.below hb, fun o => (hb.frozen (p := ⟨B, o, none⟩) h.x.lt).trans (h.fx o), fun o => (hb.frozen (p := ⟨B + 1, o, none⟩) h.y.lt).trans (h.fy o), h.ix.below hb, h.iy.below hb, h.no.below hb, bthen h.be hb, h.lo⟩

end Go.Proofs.YtgmnknmjainababGreat

namespace Go.Proofs.YtgmnknmjainababGreat
set_option linter.unusedVariables false
set_option linter.unusedSimpArgs false
set_option linter.unnecessarySimpa false
open Go.RowKit
attribute [local go_sem ↓] Go.wp_at_zero Go.wp_at_succ

theorem scale_iv (w : World) (s : Sp) (x y : Nm) (k k1 k2 b : Nat) (a : Int × Int) (n d : Int) (hs : SpAt w s k a.1 a.2) (h1 : IntAt w x.neg x.a x.n x.cap k1 n) (h2 : IntAt w y.neg y.a y.n y.cap k2 d) (hk : k ≤ 300000000) (hk1 : k1 ≤ 300000000) (hd : 0 < d) (hb : s.bits = (b : Int)) :
    Calls Tryz.prog 143 #[.agg #[.bool s.ln, .slice s.la s.lN s.lc, .bool s.hn, .slice s.ha s.hN s.hc, .int .i64 s.bits], .agg #[.bool x.neg, .slice x.a x.n x.cap], .agg #[.bool y.neg, .slice y.a y.n y.cap]] w (SpanAns w b (k + k1 + 10) (scaleI a n d).1 (scaleI a n d).2) :=
  (scale_int w s _ _ _ _ _ _ _ _ k k1 k2 a.1 a.2 n d hs h1 h2 hk hk1 hd).mono fun r w' h => by rw [hb] at h; exact h

end Go.Proofs.YtgmnknmjainababGreat

namespace Go.Proofs.YtgmnknmjainababGreat
set_option linter.unusedVariables false
open Ex

/-- What is left out is at most 1. -/
def doneT (f : Nat → Int × Int) (N : Nat) : Int × Int := addI (sumI f N) (-1, 1)
theorem Iv.mono {B : Nat} {a b : Int × Int} {x : Nat → Rat} (h : Iv B a x) (h1 : b.1 ≤ a.1) (h2 : a.2 ≤ b.2) : Iv B b x := by
  have q := Qr_pos B
  exact Has.mono h (rdiv_le q (by rw [rdm q]; exact cast_le h1)) (rdiv_le q (by rw [rdm q]; exact cast_le h2))
theorem doneT_has {B N : Nat} {f : Nat → Int × Int} {x : Nat → Rat} (h : Iv B (doneI f N) x) (hr : reachI (f N) ≤ 1) : Iv B (doneT f N) x := by
  refine h.mono ?_ ?_ <;> simp only [doneT, doneI, addI] <;> omega
end Go.Proofs.YtgmnknmjainababGreat

namespace Go.Proofs.YtgmnknmjainababGreat
set_option linter.unusedVariables false
open Ex

namespace Ex
theorem Bdd.half {l : Nat → Rat} (h : Bdd l) : Bdd (fun M => l M / 2) := by
  obtain ⟨K, N, k0, hk⟩ := h
  exact ⟨K, N, k0, fun M hM => by obtain ⟨h1, h2⟩ := hk M hM; constructor <;> grind⟩
end Ex
/-- Where the roots of tailsureref.rootLog are behind i rounds. -/
structure RInv (B : Nat) (l : Nat → Rat) (i : Nat) (a : Int × Int) : Prop where
  has : Iv B a (Ev (fun M => l M / (Q i : Rat)))
  lo : Q B ≤ a.1
  le : a.1 ≤ a.2
  hi : (a.2 - Q B - 2) * Q i ≤ Q B
theorem Bdd.over {l : Nat → Rat} (h : Bdd l) (i : Nat) : Bdd (fun M => l M / (Q i : Rat)) := by
  obtain ⟨K, N, k0, hk⟩ := h
  have q := Qr_pos i
  refine ⟨K, N, k0, fun M hM => rdiv_AB q ((hk M hM).mono ?_)⟩
  have h1 : ((1 : Int) : Rat) ≤ (Q i : Rat) := cast_le (by have := Q_pos i; omega)
  have e1 : ((1 : Int) : Rat) = 1 := rfl
  rw [e1] at h1
  have := Rat.mul_nonneg (show 0 ≤ (Q i : Rat) - 1 by grind) k0
  grind
end Go.Proofs.YtgmnknmjainababGreat

namespace Go.Proofs.YtgmnknmjainababGreat
set_option linter.unusedVariables false
set_option linter.unusedSimpArgs false
set_option linter.unnecessarySimpa false
open Go.RowKit
attribute [local go_sem ↓] Go.wp_at_zero Go.wp_at_succ

set_option maxRecDepth 100000 in
set_option maxHeartbeats 2000000 in
theorem refWhole (w : World) (n : Int) (b : Nat) (hb : b ≤ 100000) (h0 : -9223372036854775808 ≤ n) (h1 : n ≤ 9223372036854775807) :
    Calls Tryz.prog 27 #[.int .i64 n, .int .i64 b] w (SpanAns w b (b / 16 + 18) (n * Q b) (n * Q b)) := by
  have R := noc_new w 36
  go_enter Tryz.func27, Tryz.ntmps27
  go_wp2_with fail
  refine (numOf_int n _ h0 h1).mono ?_
  rintro r' w1 ⟨neg1, a1, n1, c1, rfl, hint1, hb1⟩
  replace R := R.below hb1
  have hB : Below w.heap.size w w1 := bthen (bl1 _ _) hb1
  clear hb1
  go_wp2_with fail
  refine (numOf_int 1 _ (by decide) (by decide)).mono ?_
  rintro r' w2 ⟨neg2, a2, n2, c2, rfl, hint2, hb2⟩
  replace R := R.below hb2
  replace hB := bthen hB hb2
  replace hint1 := hint1.below hb2
  clear hb2
  go_wp2_with fail
  refine (refRatio_core _ _ _ _ _ _ _ _ 4 4 b n 1 _ hint1 hint2 (by omega) (by omega) hb (by decide) (fun neg' a' n' cap' w' p1 p2 => floor_any _ _ _ _ _ _ _ _ _ 4 _ _ w' p1 p2 (by omega) (by decide))).mono ?_
  rintro r' w3 ⟨u, rfl, hub, hup, hb3⟩
  have e1 : n * Q b / 1 = n * Q b := Int.ediv_one _
  have e2 : -(-(n * Q b) / 1) = n * Q b := by rw [Int.ediv_one]; omega
  rw [e1, e2] at hup
  obtain ⟨q0, q1, q2, q3, q4, q5⟩ := R.below hb3
  replace hB := bthen hB hb3
  have HU := hide hub
  clear hub e1 e2
  go_wp2_with fail
  refine bodyPost_ret (v := .agg #[.bool u.ln, .slice u.la u.lN u.lc, .bool u.hn, .slice u.ha u.hN u.hc, .int .i64 u.bits]) (by simp [results, Tryz.results27, go_sem, q0, q1, q2, q3, q4]) rfl ⟨u, rfl, unhide HU, ?_, ?_⟩
  · exact SpAt.put5 (hup.mono (by omega)) q0 q1 q2 q3 q4 _ _ _ _ _
  · exact set5 hB (Nat.le_refl _) _ _ _ _ _

set_option maxRecDepth 100000 in
set_option maxHeartbeats 2000000 in
theorem refTail (w : World) (s : Sp) (k : Nat) (n lo hi : Int) (hs : SpAt w s k lo hi) (hk : k ≤ 300000000) (hk4 : 4 ≤ k) (h0 : -9223372036854775808 ≤ n) (h1 : n ≤ 9223372036854775807) :
    Calls Tryz.prog 123 #[.agg #[.bool s.ln, .slice s.la s.lN s.lc, .bool s.hn, .slice s.ha s.hN s.hc, .int .i64 s.bits], .int .i64 n] w (SpanAns w s.bits (k + 1) (lo - n) (hi + n)) := by
  obtain ⟨W, hW⟩ : ∃ W, W = (w.alloc (.cells #[.bool s.ln, .slice s.la s.lN s.lc, .bool s.hn, .slice s.ha s.hN s.hc, .int .i64 s.bits] 36)).alloc (.cells #[.bool false, .slice none 0 0, .bool false, .slice none 0 0, .int .i64 0] 36) := ⟨_, rfl⟩
  have hBW : Below w.heap.size w W := by rw [hW]; exact bl2 _ _ _
  have A : SpC W w.heap.size s := by rw [hW]; exact ⟨by simp [go_sem], by simp [go_sem], by simp [go_sem], by simp [go_sem], by simp [go_sem]⟩
  have R : NoC W (w.heap.size + 1) := by rw [hW]; exact ⟨by simp [go_sem], by simp [go_sem], by simp [go_sem], by simp [go_sem], by simp [go_sem], fun o => by simp [go_sem]⟩
  have HS := hide (hs.below hBW)
  have lR := R.lt
  have HK := hide (show ∀ w', Below W.heap.size W w' → (w'.cell? ⟨w.heap.size, 0, none⟩ = some (.bool s.ln) ∧ w'.cell? ⟨w.heap.size, 1, none⟩ = some (.slice s.la s.lN s.lc) ∧ w'.cell? ⟨w.heap.size, 2, none⟩ = some (.bool s.hn) ∧ w'.cell? ⟨w.heap.size, 3, none⟩ = some (.slice s.ha s.hN s.hc) ∧ w'.cell? ⟨w.heap.size, 4, none⟩ = some (.int .i64 s.bits)) from fun w' hB => ⟨(A.below hB).c0, (A.below hB).c1, (A.below hB).c2, (A.below hB).c3, (A.below hB).c4⟩)
  clear A hs
  go_enter Tryz.func123, Tryz.ntmps123
  go_wp2
  rw [← hW]
  clear hW
  have n01 : w.heap.size ≠ w.heap.size + 1 := by omega
  have n10 : w.heap.size + 1 ≠ w.heap.size := by omega
  obtain ⟨x0, x1, x2, x3, x4⟩ := unhide HK _ (Below.refl _ _)
  have hD0 : Below W.heap.size W W.drew := (Below.refl _ _).drew
  go_region_held3 (fun w' => w'.cell? ⟨w.heap.size, 0, none⟩ = some (.bool s.ln) ∧ w'.cell? ⟨w.heap.size, 1, none⟩ = some (.slice s.la s.lN s.lc) ∧ w'.cell? ⟨w.heap.size, 2, none⟩ = some (.bool s.hn) ∧ w'.cell? ⟨w.heap.size, 3, none⟩ = some (.slice s.ha s.hN s.hc) ∧ w'.cell? ⟨w.heap.size, 4, none⟩ = some (.int .i64 s.bits)) (first | exact unhide HK _ (by first | with_reducible exact hD0 | with_reducible exact hD4 | with_reducible exact hD3 | with_reducible exact hD2 | with_reducible exact hD1) | go_keep)
    (first
      | (go_at_call 65; have hq := hD3; refine (add_int _ _ _ _ _ _ _ _ k 4 hi n _ ((unhide HS).hi.below hD3) hint3 (by omega) (by omega)).mono ?_; rintro r' w4 ⟨neg4, a4, n4, c4, rfl, hint4, hb4⟩; have hD4 := bthen hD3 hb4; replace hint2 := (hint2.below hb3).below hb4; obtain ⟨q0, q1, q2, q3, q4, q5⟩ := R.below hD4; obtain ⟨y0, y1, y2, y3, y4⟩ := unhide HK _ hD4)
      | (go_at_call 43; have hq := hD2; refine (numOf_int n _ h0 h1).mono ?_; rintro r' w3 ⟨neg3, a3, n3, c3, rfl, hint3, hb3⟩; have hD3 := bthen hD2 hb3)
      | (go_at_call 72; have hq := hD1; refine (sub_int _ _ _ _ _ _ _ _ k 4 lo n _ ((unhide HS).lo.below hD1) hint1 (by omega) (by omega)).mono ?_; rintro r' w2 ⟨neg2, a2, n2, c2, rfl, hint2, hb2⟩; have hD2 := bthen hD1 hb2)
      | (go_at_call 43; refine (numOf_int n _ h0 h1).mono ?_; rintro r' w1 ⟨neg1, a1, n1, c1, rfl, hint1, hb1⟩; have hD1 := bthen hD0 hb1))
  all_goals
    go_wp2_with fail
    refine bodyPost_ret (v := .agg #[.bool neg2, .slice a2 n2 c2, .bool neg4, .slice a4 n4 c4, .int .i64 s.bits]) (by simp [results, Tryz.results123, go_sem, q0, q1, q2, q3, q4]) rfl ⟨⟨neg2, a2, n2, c2, neg4, a4, n4, c4, s.bits⟩, rfl, rfl, ?_, ?_⟩
    · exact SpAt.put5 ⟨hint2.mono (by omega), hint4.mono (by omega)⟩ q0 q1 q2 q3 q4 _ _ _ _ _
    · exact set5 (bthen hBW hD4) (Nat.le_succ _) _ _ _ _ _

/-- Within so much of 0? -/
def smallB (lo hi n : Int) : Bool := decide (hi ≤ n) && decide (-n ≤ lo)

theorem cmp3 (x y : Int) : (cmpInt x y = -1 ∧ x < y) ∨ (cmpInt x y = 0 ∧ x = y) ∨ (cmpInt x y = 1 ∧ y < x) := by
  unfold cmpInt; split
  · exact Or.inl ⟨rfl, by assumption⟩
  · split
    · exact Or.inr (Or.inr ⟨rfl, by assumption⟩)
    · exact Or.inr (Or.inl ⟨rfl, by omega⟩)

set_option maxRecDepth 100000 in
set_option maxHeartbeats 2000000 in
theorem refSmall_a (w : World) (s : Sp) (k : Nat) (n lo hi : Int) (hs : SpAt w s k lo hi) (h0 : -1000000000 ≤ n) (h1 : n ≤ 1000000000) (hc : cmpInt hi n = -1) (hh : hi ≤ n) :
    Calls Tryz.prog 122 #[.agg #[.bool s.ln, .slice s.la s.lN s.lc, .bool s.hn, .slice s.ha s.hN s.hc, .int .i64 s.bits], .int .i64 n] w fun r w' => r = .returned (.bool (smallB lo hi n)) ∧ Below w.heap.size w w' := by
  obtain ⟨W, hW⟩ : ∃ W, W = w.alloc (.cells #[.bool s.ln, .slice s.la s.lN s.lc, .bool s.hn, .slice s.ha s.hN s.hc, .int .i64 s.bits] 36) := ⟨_, rfl⟩
  have hBW : Below w.heap.size w W := by rw [hW]; exact bl1 _ _
  have A : SpC W w.heap.size s := by rw [hW]; exact spc_new w s _
  have HS := hide (hs.below hBW)
  have HK := hide (show ∀ w', Below W.heap.size W w' → (w'.cell? ⟨w.heap.size, 0, none⟩ = some (.bool s.ln) ∧ w'.cell? ⟨w.heap.size, 1, none⟩ = some (.slice s.la s.lN s.lc) ∧ w'.cell? ⟨w.heap.size, 2, none⟩ = some (.bool s.hn) ∧ w'.cell? ⟨w.heap.size, 3, none⟩ = some (.slice s.ha s.hN s.hc) ∧ w'.cell? ⟨w.heap.size, 4, none⟩ = some (.int .i64 s.bits)) from fun w' hB => ⟨(A.below hB).c0, (A.below hB).c1, (A.below hB).c2, (A.below hB).c3, (A.below hB).c4⟩)
  clear A hs
  have HE := hide (show decide (0 ≤ cmpInt lo (-n)) = smallB lo hi n by
    unfold smallB
    rw [Bool.eq_iff_iff, Bool.and_eq_true, decide_eq_true_iff, decide_eq_true_iff, decide_eq_true_iff]
    unfold cmpInt
    constructor
    · intro h; refine ⟨hh, ?_⟩; split at h <;> omega
    · intro h; rw [if_neg (by omega)]; split <;> omega)
  have HW := hide (show IntKind.i64.wrap (-n) = -n from i64_id _ (by omega) (by omega))
  have HC := hide hc
  clear hh hc
  go_enter Tryz.func122, Tryz.ntmps122
  go_wp2
  rw [← hW]
  clear hW
  obtain ⟨x0, x1, x2, x3, x4⟩ := unhide HK _ (Below.refl _ _)
  have hD0 : Below W.heap.size W W.drew := (Below.refl _ _).drew
  go_region_held3 (fun w' => w'.cell? ⟨w.heap.size, 0, none⟩ = some (.bool s.ln) ∧ w'.cell? ⟨w.heap.size, 1, none⟩ = some (.slice s.la s.lN s.lc) ∧ w'.cell? ⟨w.heap.size, 2, none⟩ = some (.bool s.hn) ∧ w'.cell? ⟨w.heap.size, 3, none⟩ = some (.slice s.ha s.hN s.hc) ∧ w'.cell? ⟨w.heap.size, 4, none⟩ = some (.int .i64 s.bits)) (first | exact unhide HK _ (by first | with_reducible exact hD0 | with_reducible exact hD4 | with_reducible exact hD3 | with_reducible exact hD2 | with_reducible exact hD1) | go_keep)
    (first
      | (go_at_call 46; have hq := hD3; refine (cmp_int _ _ _ _ _ _ _ _ _ _ lo (-n) _ ((unhide HS).lo.below hD3) hint3).mono ?_; rintro r' w4 ⟨rfl, hb4⟩; have hD4 := bthen hD3 hb4)
      | (go_at_call 43; have hq := hD2; rw [unhide HW]; refine (numOf_int (-n) _ (by omega) (by omega)).mono ?_; rintro r' w3 ⟨neg3, a3, n3, c3, rfl, hint3, hb3⟩; have hD3 := bthen hD2 hb3)
      | (go_at_call 46; have hq := hD1; refine (cmp_int _ _ _ _ _ _ _ _ _ _ hi n _ ((unhide HS).hi.below hD1) hint1).mono ?_; rintro r' w2 ⟨rfl, hb2⟩; rw [unhide HC]; have hD2 := bthen hD1 hb2)
      | (go_at_call 43; refine (numOf_int n _ (by omega) (by omega)).mono ?_; rintro r' w1 ⟨neg1, a1, n1, c1, rfl, hint1, hb1⟩; have hD1 := bthen hD0 hb1))
  all_goals
    go_wp2_with fail
    go_ret
    exact ⟨by rw [← unhide HE]; rfl, bthen hBW hD4⟩

set_option maxRecDepth 100000 in
set_option maxHeartbeats 2000000 in
theorem refSmall_b (w : World) (s : Sp) (k : Nat) (n lo hi : Int) (hs : SpAt w s k lo hi) (h0 : -1000000000 ≤ n) (h1 : n ≤ 1000000000) (hc : cmpInt hi n = 0) (hh : hi ≤ n) :
    Calls Tryz.prog 122 #[.agg #[.bool s.ln, .slice s.la s.lN s.lc, .bool s.hn, .slice s.ha s.hN s.hc, .int .i64 s.bits], .int .i64 n] w fun r w' => r = .returned (.bool (smallB lo hi n)) ∧ Below w.heap.size w w' := by
  obtain ⟨W, hW⟩ : ∃ W, W = w.alloc (.cells #[.bool s.ln, .slice s.la s.lN s.lc, .bool s.hn, .slice s.ha s.hN s.hc, .int .i64 s.bits] 36) := ⟨_, rfl⟩
  have hBW : Below w.heap.size w W := by rw [hW]; exact bl1 _ _
  have A : SpC W w.heap.size s := by rw [hW]; exact spc_new w s _
  have HS := hide (hs.below hBW)
  have HK := hide (show ∀ w', Below W.heap.size W w' → (w'.cell? ⟨w.heap.size, 0, none⟩ = some (.bool s.ln) ∧ w'.cell? ⟨w.heap.size, 1, none⟩ = some (.slice s.la s.lN s.lc) ∧ w'.cell? ⟨w.heap.size, 2, none⟩ = some (.bool s.hn) ∧ w'.cell? ⟨w.heap.size, 3, none⟩ = some (.slice s.ha s.hN s.hc) ∧ w'.cell? ⟨w.heap.size, 4, none⟩ = some (.int .i64 s.bits)) from fun w' hB => ⟨(A.below hB).c0, (A.below hB).c1, (A.below hB).c2, (A.below hB).c3, (A.below hB).c4⟩)
  clear A hs
  have HE := hide (show decide (0 ≤ cmpInt lo (-n)) = smallB lo hi n by
    unfold smallB
    rw [Bool.eq_iff_iff, Bool.and_eq_true, decide_eq_true_iff, decide_eq_true_iff, decide_eq_true_iff]
    unfold cmpInt
    constructor
    · intro h; refine ⟨hh, ?_⟩; split at h <;> omega
    · intro h; rw [if_neg (by omega)]; split <;> omega)
  have HW := hide (show IntKind.i64.wrap (-n) = -n from i64_id _ (by omega) (by omega))
  have HC := hide hc
  clear hh hc
  go_enter Tryz.func122, Tryz.ntmps122
  go_wp2
  rw [← hW]
  clear hW
  obtain ⟨x0, x1, x2, x3, x4⟩ := unhide HK _ (Below.refl _ _)
  have hD0 : Below W.heap.size W W.drew := (Below.refl _ _).drew
  go_region_held3 (fun w' => w'.cell? ⟨w.heap.size, 0, none⟩ = some (.bool s.ln) ∧ w'.cell? ⟨w.heap.size, 1, none⟩ = some (.slice s.la s.lN s.lc) ∧ w'.cell? ⟨w.heap.size, 2, none⟩ = some (.bool s.hn) ∧ w'.cell? ⟨w.heap.size, 3, none⟩ = some (.slice s.ha s.hN s.hc) ∧ w'.cell? ⟨w.heap.size, 4, none⟩ = some (.int .i64 s.bits)) (first | exact unhide HK _ (by first | with_reducible exact hD0 | with_reducible exact hD4 | with_reducible exact hD3 | with_reducible exact hD2 | with_reducible exact hD1) | go_keep)
    (first
      | (go_at_call 46; have hq := hD3; refine (cmp_int _ _ _ _ _ _ _ _ _ _ lo (-n) _ ((unhide HS).lo.below hD3) hint3).mono ?_; rintro r' w4 ⟨rfl, hb4⟩; have hD4 := bthen hD3 hb4)
      | (go_at_call 43; have hq := hD2; rw [unhide HW]; refine (numOf_int (-n) _ (by omega) (by omega)).mono ?_; rintro r' w3 ⟨neg3, a3, n3, c3, rfl, hint3, hb3⟩; have hD3 := bthen hD2 hb3)
      | (go_at_call 46; have hq := hD1; refine (cmp_int _ _ _ _ _ _ _ _ _ _ hi n _ ((unhide HS).hi.below hD1) hint1).mono ?_; rintro r' w2 ⟨rfl, hb2⟩; rw [unhide HC]; have hD2 := bthen hD1 hb2)
      | (go_at_call 43; refine (numOf_int n _ (by omega) (by omega)).mono ?_; rintro r' w1 ⟨neg1, a1, n1, c1, rfl, hint1, hb1⟩; have hD1 := bthen hD0 hb1))
  all_goals
    go_wp2_with fail
    go_ret
    exact ⟨by rw [← unhide HE]; rfl, bthen hBW hD4⟩

set_option maxRecDepth 100000 in
set_option maxHeartbeats 2000000 in
theorem refSmall_c (w : World) (s : Sp) (k : Nat) (n lo hi : Int) (hs : SpAt w s k lo hi) (h0 : -1000000000 ≤ n) (h1 : n ≤ 1000000000) (hc : cmpInt hi n = 1) (hh : ¬ hi ≤ n) :
    Calls Tryz.prog 122 #[.agg #[.bool s.ln, .slice s.la s.lN s.lc, .bool s.hn, .slice s.ha s.hN s.hc, .int .i64 s.bits], .int .i64 n] w fun r w' => r = .returned (.bool (smallB lo hi n)) ∧ Below w.heap.size w w' := by
  obtain ⟨W, hW⟩ : ∃ W, W = w.alloc (.cells #[.bool s.ln, .slice s.la s.lN s.lc, .bool s.hn, .slice s.ha s.hN s.hc, .int .i64 s.bits] 36) := ⟨_, rfl⟩
  have hBW : Below w.heap.size w W := by rw [hW]; exact bl1 _ _
  have A : SpC W w.heap.size s := by rw [hW]; exact spc_new w s _
  have HS := hide (hs.below hBW)
  have HK := hide (show ∀ w', Below W.heap.size W w' → (w'.cell? ⟨w.heap.size, 0, none⟩ = some (.bool s.ln) ∧ w'.cell? ⟨w.heap.size, 1, none⟩ = some (.slice s.la s.lN s.lc) ∧ w'.cell? ⟨w.heap.size, 2, none⟩ = some (.bool s.hn) ∧ w'.cell? ⟨w.heap.size, 3, none⟩ = some (.slice s.ha s.hN s.hc) ∧ w'.cell? ⟨w.heap.size, 4, none⟩ = some (.int .i64 s.bits)) from fun w' hB => ⟨(A.below hB).c0, (A.below hB).c1, (A.below hB).c2, (A.below hB).c3, (A.below hB).c4⟩)
  clear A hs
  have HE := hide (show smallB lo hi n = false by unfold smallB; rw [decide_eq_false hh]; rfl)
  have HC := hide hc
  clear hh hc
  go_enter Tryz.func122, Tryz.ntmps122
  go_wp2
  rw [← hW]
  clear hW
  obtain ⟨x0, x1, x2, x3, x4⟩ := unhide HK _ (Below.refl _ _)
  have hD0 : Below W.heap.size W W.drew := (Below.refl _ _).drew
  refine wp_region_held_drew (S := fun w' => w'.cell? ⟨w.heap.size, 0, none⟩ = some (.bool s.ln) ∧ w'.cell? ⟨w.heap.size, 1, none⟩ = some (.slice s.la s.lN s.lc) ∧ w'.cell? ⟨w.heap.size, 2, none⟩ = some (.bool s.hn) ∧ w'.cell? ⟨w.heap.size, 3, none⟩ = some (.slice s.ha s.hN s.hc) ∧ w'.cell? ⟨w.heap.size, 4, none⟩ = some (.int .i64 s.bits)) (by kernel_rfl) ⟨(unhide HK _ hD0).1, (unhide HK _ hD0).2.1, (unhide HK _ hD0).2.2.1, (unhide HK _ hD0).2.2.2.1, (unhide HK _ hD0).2.2.2.2⟩ (fun hHeld => ?_)
  refine wpAnyH_take (i := 0) (oi := { dst := some 5, op := Go.Op.fieldAddr 36 (Go.Operand.tmp 2) 1, type := 0, pos := "func.go:26", after := #[], guard := none }) (v := .pointer (some ⟨w.heap.size, 2, none⟩)) rfl (by kernel_rfl) (by kernel_rfl) (by kernel_rfl) (fun _ _ _ h => h) (Or.inl ⟨by rfl, fun w hSw => ?_⟩) hHeld ?_
  · obtain ⟨s0, s1, s2, s3, s4⟩ := hSw; go_simp
  try simp only [Act.put, List.setIfInBounds_toArray, List.set_cons_zero, List.set_cons_succ]
  refine wpAnyH_take (i := 1) (oi := { dst := some 6, op := Go.Op.load 26 (Go.Operand.tmp 5), type := 26, pos := "func.go:26", after := #[{ on := 0, ground := Go.Ground.data }], guard := none }) (v := .agg #[.bool s.hn, .slice s.ha s.hN s.hc]) rfl (by kernel_rfl) (by kernel_rfl) (by kernel_rfl) (fun _ _ _ h => h) (Or.inl ⟨by rfl, fun w hSw => ?_⟩) hHeld ?_
  · obtain ⟨s0, s1, s2, s3, s4⟩ := hSw; go_simp
  try simp only [Act.put, List.setIfInBounds_toArray, List.set_cons_zero, List.set_cons_succ]
  refine wpAnyH_take (i := 2) (oi := { dst := some 7, op := Go.Op.move (Go.Operand.tmp 1), type := 3, pos := "func.go:26", after := #[], guard := none }) (v := .int .i64 n) rfl (by kernel_rfl) (by kernel_rfl) (by kernel_rfl) (fun _ _ _ h => h) (Or.inl ⟨by rfl, fun w hSw => ?_⟩) hHeld ?_
  · obtain ⟨s0, s1, s2, s3, s4⟩ := hSw; go_simp
  try simp only [Act.put, List.setIfInBounds_toArray, List.set_cons_zero, List.set_cons_succ]
  refine wpAnyH_ready (rs := [3]) (by kernel_rfl) (by simp) ?_
  refine AllReadyH.cons (o := { dst := some 8, op := Go.Op.call { callee := Go.Callee.value (Go.Operand.func 43), args := #[Go.Operand.tmp 7], argTypes := #[3] }, type := 26, pos := "func.go:26", after := #[{ on := 2, ground := Go.Ground.data }], guard := none }) rfl (fun K hK => ?_) AllReadyH.nil
  go_simp
  refine (numOf_int n _ (by omega) (by omega)).mono ?_
  rintro r' w1 ⟨neg1, a1, n1, c1, rfl, hint1, hb1⟩
  have hD1 : Below W.heap.size W w1 := bthen hD0 hb1
  go_wp2_with fail
  refine hK.out _ _ ⟨(unhide HK _ hD1).1, (unhide HK _ hD1).2.1, (unhide HK _ hD1).2.2.1, (unhide HK _ hD1).2.2.2.1, (unhide HK _ hD1).2.2.2.2⟩ (fun hHeld => ?_)
  clear hK K
  try simp only [Act.put, List.setIfInBounds_toArray, List.set_cons_zero, List.set_cons_succ]
  refine wpAnyH_ready (rs := [4]) (by kernel_rfl) (by simp) ?_
  refine AllReadyH.cons (o := { dst := some 9, op := Go.Op.call { callee := Go.Callee.value (Go.Operand.func 46), args := #[Go.Operand.tmp 6, Go.Operand.tmp 8], argTypes := #[26, 26] }, type := 3, pos := "func.go:26", after := #[{ on := 1, ground := Go.Ground.data }, { on := 3, ground := Go.Ground.data }, { on := 3, ground := Go.Ground.chain }], guard := none }) rfl (fun K hK => ?_) AllReadyH.nil
  go_simp
  refine (cmp_int _ _ _ _ _ _ _ _ _ _ hi n _ ((unhide HS).hi.below hD1) hint1).mono ?_
  rintro r' w2 ⟨rfl, hb2⟩
  rw [unhide HC]
  have hD2 := bthen hD1 hb2
  go_wp2_with fail
  refine hK.out _ _ ⟨(unhide HK _ hD2).1, (unhide HK _ hD2).2.1, (unhide HK _ hD2).2.2.1, (unhide HK _ hD2).2.2.2.1, (unhide HK _ hD2).2.2.2.2⟩ (fun hHeld => ?_)
  clear hK K
  try simp only [Act.put, List.setIfInBounds_toArray, List.set_cons_zero, List.set_cons_succ]
  refine wpAnyH_take (i := 5) (oi := { dst := some 10, op := Go.Op.binOp Go.BinOp.leq 3 (Go.Operand.tmp 9) (Go.Operand.const (Go.Value.int Go.IntKind.i64 0)) 3, type := 4, pos := "func.go:26", after := #[{ on := 4, ground := Go.Ground.data }], guard := none }) (v := .bool false) rfl (by kernel_rfl) (by kernel_rfl) (by kernel_rfl) (fun _ _ _ h => h) (Or.inl ⟨by rfl, fun w hSw => ?_⟩) hHeld ?_
  · obtain ⟨s0, s1, s2, s3, s4⟩ := hSw; go_simp
  try simp only [Act.put, List.setIfInBounds_toArray, List.set_cons_zero, List.set_cons_succ]
  refine wpAnyH_take (i := 6) (oi := { dst := some 11, op := Go.Op.move (Go.Operand.tmp 10), type := 4, pos := "func.go:26", after := #[{ on := 5, ground := Go.Ground.data }, { on := 4, ground := Go.Ground.chain }], guard := none }) (v := .bool false) rfl (by kernel_rfl) (by kernel_rfl) (by kernel_rfl) (fun _ _ _ h => h) (Or.inl ⟨by rfl, fun w hSw => ?_⟩) hHeld ?_
  · obtain ⟨s0, s1, s2, s3, s4⟩ := hSw; go_simp
  try simp only [Act.put, List.setIfInBounds_toArray, List.set_cons_zero, List.set_cons_succ]
  refine wpAnyH_take (i := 7) (oi := { dst := some 12, op := Go.Op.fieldAddr 36 (Go.Operand.tmp 2) 0, type := 0, pos := "func.go:26", after := #[{ on := 6, ground := Go.Ground.guard }], guard := some (6, true) }) (v := undef) rfl (by kernel_rfl) (by kernel_rfl) (by kernel_rfl) (fun _ _ _ h => h) (Or.inr ⟨by rfl, rfl⟩) hHeld ?_
  try simp only [Act.put, List.setIfInBounds_toArray, List.set_cons_zero, List.set_cons_succ]
  refine wpAnyH_take (i := 8) (oi := { dst := some 13, op := Go.Op.load 26 (Go.Operand.tmp 12), type := 26, pos := "func.go:26", after := #[{ on := 7, ground := Go.Ground.data }, { on := 6, ground := Go.Ground.guard }], guard := some (6, true) }) (v := undef) rfl (by kernel_rfl) (by kernel_rfl) (by kernel_rfl) (fun _ _ _ h => h) (Or.inr ⟨by rfl, rfl⟩) hHeld ?_
  try simp only [Act.put, List.setIfInBounds_toArray, List.set_cons_zero, List.set_cons_succ]
  refine wpAnyH_take (i := 9) (oi := { dst := some 14, op := Go.Op.move (Go.Operand.tmp 1), type := 3, pos := "func.go:26", after := #[{ on := 6, ground := Go.Ground.guard }], guard := some (6, true) }) (v := undef) rfl (by kernel_rfl) (by kernel_rfl) (by kernel_rfl) (fun _ _ _ h => h) (Or.inr ⟨by rfl, rfl⟩) hHeld ?_
  try simp only [Act.put, List.setIfInBounds_toArray, List.set_cons_zero, List.set_cons_succ]
  refine wpAnyH_take (i := 10) (oi := { dst := some 15, op := Go.Op.unOp Go.UnOp.neg 3 (Go.Operand.tmp 14), type := 3, pos := "func.go:26", after := #[{ on := 9, ground := Go.Ground.data }, { on := 6, ground := Go.Ground.guard }], guard := some (6, true) }) (v := undef) rfl (by kernel_rfl) (by kernel_rfl) (by kernel_rfl) (fun _ _ _ h => h) (Or.inr ⟨by rfl, rfl⟩) hHeld ?_
  try simp only [Act.put, List.setIfInBounds_toArray, List.set_cons_zero, List.set_cons_succ]
  refine wpAnyH_take (i := 11) (oi := { dst := some 16, op := Go.Op.call { callee := Go.Callee.value (Go.Operand.func 43), args := #[Go.Operand.tmp 15], argTypes := #[3] }, type := 26, pos := "func.go:26", after := #[{ on := 10, ground := Go.Ground.data }, { on := 6, ground := Go.Ground.chain }, { on := 6, ground := Go.Ground.guard }], guard := some (6, true) }) (v := undef) rfl (by kernel_rfl) (by kernel_rfl) (by kernel_rfl) (fun _ _ _ h => h) (Or.inr ⟨by rfl, rfl⟩) hHeld ?_
  try simp only [Act.put, List.setIfInBounds_toArray, List.set_cons_zero, List.set_cons_succ]
  refine wpAnyH_take (i := 12) (oi := { dst := some 17, op := Go.Op.call { callee := Go.Callee.value (Go.Operand.func 46), args := #[Go.Operand.tmp 13, Go.Operand.tmp 16], argTypes := #[26, 26] }, type := 3, pos := "func.go:26", after := #[{ on := 8, ground := Go.Ground.data }, { on := 11, ground := Go.Ground.data }, { on := 11, ground := Go.Ground.chain }, { on := 6, ground := Go.Ground.guard }], guard := some (6, true) }) (v := undef) rfl (by kernel_rfl) (by kernel_rfl) (by kernel_rfl) (fun _ _ _ h => h) (Or.inr ⟨by rfl, rfl⟩) hHeld ?_
  try simp only [Act.put, List.setIfInBounds_toArray, List.set_cons_zero, List.set_cons_succ]
  refine wpAnyH_take (i := 13) (oi := { dst := some 18, op := Go.Op.binOp Go.BinOp.geq 3 (Go.Operand.tmp 17) (Go.Operand.const (Go.Value.int Go.IntKind.i64 0)) 3, type := 4, pos := "func.go:26", after := #[{ on := 12, ground := Go.Ground.data }, { on := 6, ground := Go.Ground.guard }], guard := some (6, true) }) (v := undef) rfl (by kernel_rfl) (by kernel_rfl) (by kernel_rfl) (fun _ _ _ h => h) (Or.inr ⟨by rfl, rfl⟩) hHeld ?_
  try simp only [Act.put, List.setIfInBounds_toArray, List.set_cons_zero, List.set_cons_succ]
  refine wpAnyH_take (i := 14) (oi := { dst := some 19, op := Go.Op.pick (Go.Operand.tmp 11) (Go.Operand.tmp 18) (Go.Operand.const (Go.Value.bool false)), type := 4, pos := "func.go:26", after := #[{ on := 6, ground := Go.Ground.data }, { on := 13, ground := Go.Ground.data }], guard := none }) (v := .bool false) rfl (by kernel_rfl) (by kernel_rfl) (by kernel_rfl) (fun _ _ _ h => h) (Or.inl ⟨by rfl, fun w hSw => ?_⟩) hHeld ?_
  · obtain ⟨s0, s1, s2, s3, s4⟩ := hSw; go_simp
  try simp only [Act.put, List.setIfInBounds_toArray, List.set_cons_zero, List.set_cons_succ]
  refine wpAnyH_take (i := 15) (oi := { dst := some 4, op := Go.Op.assign (Go.Operand.tmp 19), type := 4, pos := "func.go:26", after := #[{ on := 14, ground := Go.Ground.data }, { on := 12, ground := Go.Ground.chain }, { on := 0, ground := Go.Ground.phase }, { on := 1, ground := Go.Ground.phase }, { on := 2, ground := Go.Ground.phase }, { on := 3, ground := Go.Ground.phase }, { on := 4, ground := Go.Ground.phase }, { on := 5, ground := Go.Ground.phase }, { on := 6, ground := Go.Ground.phase }, { on := 7, ground := Go.Ground.phase }, { on := 8, ground := Go.Ground.phase }, { on := 9, ground := Go.Ground.phase }, { on := 10, ground := Go.Ground.phase }, { on := 11, ground := Go.Ground.phase }, { on := 12, ground := Go.Ground.phase }, { on := 13, ground := Go.Ground.phase }, { on := 14, ground := Go.Ground.phase }], guard := none }) (v := .bool false) rfl (by kernel_rfl) (by kernel_rfl) (by kernel_rfl) (fun _ _ _ h => h) (Or.inl ⟨by rfl, fun w hSw => ?_⟩) hHeld ?_
  · obtain ⟨s0, s1, s2, s3, s4⟩ := hSw; go_simp
  try simp only [Act.put, List.setIfInBounds_toArray, List.set_cons_zero, List.set_cons_succ]
  refine wpAnyH_done (by kernel_rfl) ?_ _
  go_wp2_with fail
  go_ret
  exact ⟨by rw [unhide HE]; rfl, bthen hBW hD2⟩
theorem refSmall (w : World) (s : Sp) (k : Nat) (n lo hi : Int) (hs : SpAt w s k lo hi) (h0 : -1000000000 ≤ n) (h1 : n ≤ 1000000000) :
    Calls Tryz.prog 122 #[.agg #[.bool s.ln, .slice s.la s.lN s.lc, .bool s.hn, .slice s.ha s.hN s.hc, .int .i64 s.bits], .int .i64 n] w fun r w' => r = .returned (.bool (smallB lo hi n)) ∧ Below w.heap.size w w' := by
  rcases cmp3 hi n with ⟨h2, h3⟩ | ⟨h2, h3⟩ | ⟨h2, h3⟩
  · exact refSmall_a w s k n lo hi hs h0 h1 h2 (by omega)
  · exact refSmall_b w s k n lo hi hs h0 h1 h2 (by omega)
  · exact refSmall_c w s k n lo hi hs h0 h1 h2 (by omega)
end Go.Proofs.YtgmnknmjainababGreat

namespace Go.Proofs.YtgmnknmjainababGreat
set_option linter.unusedVariables false
set_option linter.unusedSimpArgs false
set_option linter.unnecessarySimpa false
open Go.RowKit
attribute [local go_sem ↓] Go.wp_at_zero Go.wp_at_succ

/-- One times a number of any sign, over another one. -/
def byI (a : Int × Int) (n d : Int) : Int × Int := (leastZ (pr (a.1 * n) (a.2 * n)) 1 / d, -(-(mostZ (pr (a.1 * n) (a.2 * n)) 1) / d))
theorem byI_nonneg {a : Int × Int} {n d : Int} (ha : a.1 ≤ a.2) (hn : 0 ≤ n) : byI a n d = scaleI a n d := by
  have h := Int.mul_le_mul_of_nonneg_right ha hn
  have e1 : leastZ (pr (a.1 * n) (a.2 * n)) 1 = a.1 * n := by
    simp only [leastZ, pr]; simp; omega
  have e2 : mostZ (pr (a.1 * n) (a.2 * n)) 1 = a.2 * n := by
    simp only [mostZ, pr]; simp; omega
  unfold byI scaleI
  rw [e1, e2]

set_option maxRecDepth 100000 in
set_option maxHeartbeats 4000000 in
theorem refBy (w : World) (s : Sp) (x y : Nm) (k k1 k2 b : Nat) (a : Int × Int) (n d : Int) (hs : SpAt w s k a.1 a.2) (hx : IntAt w x.neg x.a x.n x.cap k1 n) (hy : IntAt w y.neg y.a y.n y.cap k2 d) (hk : k ≤ 100000000) (hk1 : k1 ≤ 100000000) (hk2 : k2 ≤ 100000000) (hd : 0 < d) (hbits : s.bits = (b : Int)) :
    Calls Tryz.prog 56 #[.agg #[.bool s.ln, .slice s.la s.lN s.lc, .bool s.hn, .slice s.ha s.hN s.hc, .int .i64 s.bits], .agg #[.bool x.neg, .slice x.a x.n x.cap], .agg #[.bool y.neg, .slice y.a y.n y.cap]] w (SpanAns w b (k + k1 + 9) (byI a n d).1 (byI a n d).2) := by
  obtain ⟨W, hW⟩ : ∃ W, W = (((w.alloc (.cells #[.bool s.ln, .slice s.la s.lN s.lc, .bool s.hn, .slice s.ha s.hN s.hc, .int .i64 s.bits] 36)).alloc (.cells #[.bool x.neg, .slice x.a x.n x.cap] 26)).alloc (.cells #[.bool y.neg, .slice y.a y.n y.cap] 26)).alloc (.cells #[.bool false, .slice none 0 0, .bool false, .slice none 0 0, .int .i64 0] 36) := ⟨_, rfl⟩
  have hBW : Below w.heap.size w W := by rw [hW]; exact bl4 _ _ _ _ _
  have A : SpC W w.heap.size s := by rw [hW]; exact ⟨by simp [go_sem], by simp [go_sem], by simp [go_sem], by simp [go_sem], by simp [go_sem]⟩
  have X : NmC W (w.heap.size + 1) x := by rw [hW]; exact ⟨by simp [go_sem], by simp [go_sem]⟩
  have Y : NmC W (w.heap.size + 1 + 1) y := by rw [hW]; exact ⟨by simp [go_sem], by simp [go_sem]⟩
  have R : NoC W (w.heap.size + 1 + 1 + 1) := by rw [hW]; exact ⟨by simp [go_sem], by simp [go_sem], by simp [go_sem], by simp [go_sem], by simp [go_sem], fun o => by simp [go_sem]⟩
  have HS := hide (hs.below hBW)
  have HX := hide (hx.below hBW)
  have HY := hide (hy.below hBW)
  have HB := hide hbits
  have HK := hide (show ∀ w', Below W.heap.size W w' → (w'.cell? ⟨w.heap.size, 0, none⟩ = some (.bool s.ln) ∧ w'.cell? ⟨w.heap.size, 1, none⟩ = some (.slice s.la s.lN s.lc) ∧ w'.cell? ⟨w.heap.size, 2, none⟩ = some (.bool s.hn) ∧ w'.cell? ⟨w.heap.size, 3, none⟩ = some (.slice s.ha s.hN s.hc) ∧ w'.cell? ⟨w.heap.size + 1, 0, none⟩ = some (.bool x.neg) ∧ w'.cell? ⟨w.heap.size + 1, 1, none⟩ = some (.slice x.a x.n x.cap)) from fun w' hB => ⟨(A.below hB).c0, (A.below hB).c1, (A.below hB).c2, (A.below hB).c3, (X.below hB).c0, (X.below hB).c1⟩)
  clear hs hx hy hbits
  go_enter Tryz.func56, Tryz.ntmps56
  go_wp2
  rw [← hW]
  clear hW
  obtain ⟨x0, x1, x2, x3, x4, x5⟩ := unhide HK _ (Below.refl _ _)
  have hB0 : Below W.heap.size W W.drew := (Below.refl _ _).drew
  go_region_held3 (fun w' => w'.cell? ⟨w.heap.size, 0, none⟩ = some (.bool s.ln) ∧ w'.cell? ⟨w.heap.size, 1, none⟩ = some (.slice s.la s.lN s.lc) ∧ w'.cell? ⟨w.heap.size, 2, none⟩ = some (.bool s.hn) ∧ w'.cell? ⟨w.heap.size, 3, none⟩ = some (.slice s.ha s.hN s.hc) ∧ w'.cell? ⟨w.heap.size + 1, 0, none⟩ = some (.bool x.neg) ∧ w'.cell? ⟨w.heap.size + 1, 1, none⟩ = some (.slice x.a x.n x.cap)) (exact unhide HK _ (by first | with_reducible exact hB0 | with_reducible exact balloc hB2 _ | with_reducible exact hB2 | with_reducible exact hB1))
    (first
      | (go_at_call 66; have hq := hB1; refine (mul_int _ _ _ _ _ _ _ _ k k1 a.2 n _ ((unhide HS).hi.below hB1) ((unhide HX).below hB1) (by omega) (by omega)).mono ?_; rintro r w2 ⟨neg2, a2, n2, c2, rfl, hint2, hb2⟩; have hint1 := hint1.below hb2; have hB2 := bthen hB1 hb2)
      | (go_at_call 66; refine (mul_int _ _ _ _ _ _ _ _ k k1 a.1 n _ ((unhide HS).lo.below hB0) ((unhide HX).below hB0) (by omega) (by omega)).mono ?_; rintro r w1 ⟨neg1, a1, n1, c1, rfl, hint1, hb1⟩; have hB1 := bthen hB0 hb1))
  obtain ⟨w5, hw5⟩ : ∃ w5, w5 = w2.alloc (.cells #[.bool neg1, .slice a1 n1 c1, .bool neg2, .slice a2 n2 c2] 26) := ⟨_, rfl⟩
  have hB5 : Below W.heap.size W w5 := by rw [hw5]; exact balloc hB2 _
  have hN : Nums w5 w2.heap.size 2 (k + k1) (pr ⟨neg1, a1, n1, c1⟩ ⟨neg2, a2, n2, c2⟩) (pr (a.1 * n) (a.2 * n)) := by rw [hw5]; exact nums2' w2 _ rfl ⟨neg1, a1, n1, c1⟩ ⟨neg2, a2, n2, c2⟩ _ _ _ _ hint1 hint2
  have R5 := R.below hB5
  have hl1 := R5.lt
  have A5 := A.below hB5
  have Y5 := Y.below hB5
  have HY5 := hide ((unhide HY).below hB5)
  have lA := A5.lt
  have lY := Y5.lt
  have HK1 := hide (show ∀ w', Below w5.heap.size w5 w' → (w'.cell? ⟨w.heap.size + 1 + 1, 0, none⟩ = some (.bool y.neg) ∧ w'.cell? ⟨w.heap.size + 1 + 1, 1, none⟩ = some (.slice y.a y.n y.cap) ∧ w'.cell? ⟨w.heap.size, 4, none⟩ = some (.int .i64 s.bits)) from fun w' hB => ⟨(Y5.below hB).c0, (Y5.below hB).c1, (A5.below hB).c4⟩)
  have hD0 : Below w5.heap.size w5 w5.drew := (Below.refl _ _).drew
  clear x0 x1 x2 x3 x4 x5 hb1 hb2 hint1 hint2 hB1 hB2 hB0 HK HS HX HY A X Y R
  go_wp2
  rw [← hw5]
  clear hw5
  obtain ⟨x0, x1, x2⟩ := unhide HK1 _ (Below.refl _ _)
  have n1 : w.heap.size + 1 + 1 + 1 ≠ w.heap.size + 1 + 1 := by omega
  have n2 : w.heap.size + 1 + 1 ≠ w.heap.size + 1 + 1 + 1 := by omega
  have n3 : w.heap.size + 1 + 1 + 1 ≠ w.heap.size := by omega
  have n4 : w.heap.size ≠ w.heap.size + 1 + 1 + 1 := by omega
  go_region_held3 (fun w' => w'.cell? ⟨w.heap.size + 1 + 1, 0, none⟩ = some (.bool y.neg) ∧ w'.cell? ⟨w.heap.size + 1 + 1, 1, none⟩ = some (.slice y.a y.n y.cap) ∧ w'.cell? ⟨w.heap.size, 4, none⟩ = some (.int .i64 s.bits)) (first | exact unhide HK1 _ (by first | with_reducible exact hD0 | with_reducible exact hD4 | with_reducible exact hD3 | with_reducible exact hD2 | with_reducible exact hD1) | go_keep)
    (first
      | (go_at_call 109; have hq := hD3; refine (refUp_any _ _ _ _ _ _ _ _ (k + k1) k2 _ d _ hint8 ((unhide HY5).below hD3) (by omega) (by omega) hd).mono ?_; rintro r w9 ⟨neg9, a9, n9, c9, rfl, hint9, hb9⟩; have hint7 := (hint7.below hb8).below hb9; have hD4 := bthen hD3 hb9; obtain ⟨q0, q1, q2, q3, q4, q5⟩ := R5.below hD4; obtain ⟨y0, y1, y2⟩ := unhide HK1 _ hD4)
      | (go_at_call 102; have hq := hD2; refine (greatest_int _ 1 _ (k + k1) _ _ _ (hN.below hD2) (by omega)).mono ?_; rintro r w8 ⟨neg8, a8, n8, c8, rfl, hint8, hb8⟩; have hD3 := bthen hD2 hb8)
      | (go_at_call 108; have hq := hD1; refine (refDown_any _ _ _ _ _ _ _ _ (k + k1) k2 _ d _ hint6 ((unhide HY5).below hD1) (by omega) (by omega) hd).mono ?_; rintro r w7 ⟨neg7, a7, n7, c7, rfl, hint7, hb7⟩; have hD2 := bthen hD1 hb7)
      | (go_at_call 106; refine (least_int _ 1 _ (k + k1) _ _ _ (hN.below hD0) (by omega)).mono ?_; rintro r w6 ⟨neg6, a6, n6, c6, rfl, hint6, hb6⟩; have hD1 := bthen hD0 hb6))
  all_goals
    go_wp2_with fail
    refine bodyPost_ret (v := .agg #[.bool neg7, .slice a7 n7 c7, .bool neg9, .slice a9 n9 c9, .int .i64 s.bits]) (by simp [results, Tryz.results56, go_sem, q0, q1, q2, q3, q4]) rfl ⟨⟨neg7, a7, n7, c7, neg9, a9, n9, c9, s.bits⟩, rfl, unhide HB, ?_, ?_⟩
    · exact SpAt.put5 ⟨hint7.mono (by omega), hint9.mono (by omega)⟩ q0 q1 q2 q3 q4 _ _ _ _ _
    · exact set5 (bthen (bthen hBW hB5) hD4) (by omega) _ _ _ _ _
end Go.Proofs.YtgmnknmjainababGreat

namespace Go.Proofs.YtgmnknmjainababGreat
set_option linter.unusedVariables false
open Ex

theorem Iv.le {B : Nat} {a : Int × Int} {x : Nat → Rat} (h : Iv B a x) : a.1 ≤ a.2 :=
  Int.le_of_mul_le_mul_right (h.touch h) (by have := Q_pos B; omega)
theorem Iv.neg {B : Nat} {a : Int × Int} {x : Nat → Rat} (h : Iv B a x) : Iv B (-a.2, -a.1) (fun M => -x M) := by
  have q := Qr_pos B
  intro e he
  obtain ⟨N, hN⟩ := h e he
  refine ⟨N, fun M hM => ?_⟩
  obtain ⟨g1, g2⟩ := hN M hM
  have e1 : ((-a.2 : Int) : Rat) / (Q B : Rat) = -((a.2 : Rat) / (Q B : Rat)) := by rw [Rat.intCast_neg, Rat.div_def, Rat.div_def, Rat.neg_mul]
  have e2 : ((-a.1 : Int) : Rat) / (Q B : Rat) = -((a.1 : Rat) / (Q B : Rat)) := by rw [Rat.intCast_neg, Rat.div_def, Rat.div_def, Rat.neg_mul]
  simp only []
  rw [e1, e2]
  constructor <;> grind
theorem byI_neg {a : Int × Int} {n d : Int} (ha : a.1 ≤ a.2) (hn : n < 0) : byI a n d = scaleI (-a.2, -a.1) (-n) d := by
  have h := Int.mul_le_mul_of_nonpos_right ha (show n ≤ 0 by omega)
  have e1 : leastZ (pr (a.1 * n) (a.2 * n)) 1 = a.2 * n := by
    simp only [leastZ, pr]; simp; omega
  have e2 : mostZ (pr (a.1 * n) (a.2 * n)) 1 = a.1 * n := by
    simp only [mostZ, pr]; simp; omega
  unfold byI scaleI
  rw [e1, e2]
  simp only []
  rw [show -a.2 * -n = a.2 * n by grind, show -a.1 * -n = a.1 * n by grind]
theorem Iv.by_ {B : Nat} {a : Int × Int} {x : Nat → Rat} (h : Iv B a x) (n : Int) {d : Int} (hd : 0 < d) : Iv B (byI a n d) (fun M => (n : Rat) / (d : Rat) * x M) := by
  by_cases hn : n < 0
  · rw [byI_neg h.le hn]
    refine (h.neg.scale (n := -n) (by omega) hd).congr (null_zero.of_eq fun M => ?_)
    have e : ((-n : Int) : Rat) / (d : Rat) = -((n : Rat) / (d : Rat)) := by rw [Rat.intCast_neg, Rat.div_def, Rat.div_def, Rat.neg_mul]
    rw [e]; grind
  · rw [byI_nonneg h.le (by omega)]
    exact h.scale (by omega) hd
theorem Abs.sub {a b : Int × Int} {m n : Int} (h : Abs a m) (k : Abs b n) : Abs (subI a b) (m + n) := by
  obtain ⟨h1, h2, h3, h4⟩ := h
  obtain ⟨k1, k2, k3, k4⟩ := k
  exact ⟨by unfold subI; simp only []; omega, by unfold subI; simp only []; omega, by unfold subI; simp only []; omega, by unfold subI; simp only []; omega⟩
end Go.Proofs.YtgmnknmjainababGreat

namespace Go.Proofs.YtgmnknmjainababGreat
set_option linter.unusedVariables false
set_option linter.unusedSimpArgs false
set_option linter.unnecessarySimpa false
open Go.RowKit
attribute [local go_sem ↓] Go.wp_at_zero Go.wp_at_succ

/-- A law in a block. -/
structure LwC (w : World) (B : Nat) (k p q r s : Int) : Prop where
  c0 : w.cell? ⟨B, 0, none⟩ = some (.int .i64 k)
  c1 : w.cell? ⟨B, 1, none⟩ = some (.int .i64 p)
  c2 : w.cell? ⟨B, 2, none⟩ = some (.int .i64 q)
  c3 : w.cell? ⟨B, 3, none⟩ = some (.int .i64 r)
  c4 : w.cell? ⟨B, 4, none⟩ = some (.int .i64 s)
theorem LwC.lt {w : World} {B : Nat} {k p q r s : Int} (h : LwC w B k p q r s) : B < w.heap.size := World.block_lt_of_cell? w ⟨B, 0, none⟩ h.c0
theorem LwC.below {w w' : World} {B : Nat} {k p q r s : Int} (h : LwC w B k p q r s) (hb : Below w.heap.size w w') : LwC w' B k p q r s :=
  ⟨(hb.cell (p := ⟨B, 0, none⟩) h.lt).trans h.c0, (hb.cell (p := ⟨B, 1, none⟩) h.lt).trans h.c1, (hb.cell (p := ⟨B, 2, none⟩) h.lt).trans h.c2, (hb.cell (p := ⟨B, 3, none⟩) h.lt).trans h.c3, (hb.cell (p := ⟨B, 4, none⟩) h.lt).trans h.c4⟩
theorem LwC.off {w : World} {B B' : Nat} {k p q r s : Int} (h : LwC w B k p q r s) (hne : B ≠ B') (u0 u1 : Value) : LwC ((w.setCell ⟨B', 0, none⟩ u0).setCell ⟨B', 1, none⟩ u1) B k p q r s := by
  obtain ⟨q0, q1, q2, q3, q4⟩ := h
  constructor <;> simp [go_sem, q0, q1, q2, q3, q4, hne, Ne.symm hne]
end Go.Proofs.YtgmnknmjainababGreat

namespace Go.Proofs.YtgmnknmjainababGreat
set_option linter.unusedVariables false
set_option linter.unusedSimpArgs false
set_option linter.unnecessarySimpa false
open Go.RowKit

theorem div_le_div_pos {a p q : Int} (hp : 0 < p) (hpq : p ≤ q) (ha : 0 ≤ a) : a / q ≤ a / p := by
  have hq : 0 < q := by omega
  have h0 : 0 ≤ a / q := Int.ediv_nonneg ha (by omega)
  rw [Int.le_ediv_iff_mul_le hp]
  have h1 := Int.ediv_mul_le a (show q ≠ 0 by omega)
  have h2 := Int.mul_le_mul_of_nonneg_left hpq h0
  omega
theorem div_le_div_neg {a p q : Int} (hp : 0 < p) (hpq : p ≤ q) (ha : a ≤ 0) : a / p ≤ a / q := by
  have hq : 0 < q := by omega
  have h0 : a / p ≤ 0 := by
    have := Int.ediv_le_ediv hp ha
    simpa using this
  rw [Int.le_ediv_iff_mul_le hq]
  have h1 := Int.ediv_mul_le a (show p ≠ 0 by omega)
  have h2 := Int.mul_le_mul_of_nonneg_left hpq (show 0 ≤ -(a / p) by omega)
  rw [Int.neg_mul, Int.neg_mul] at h2
  omega
theorem over_least {l h p q : Int} (hlh : l ≤ h) (hp : 0 < p) (hpq : p ≤ q) :
    leastZ (pr4 (l / p) (l / q) (h / p) (h / q)) 3 = if l < 0 then l / p else l / q := by
  have m1 : l / p ≤ h / p := Int.ediv_le_ediv hp hlh
  have m2 : l / q ≤ h / q := Int.ediv_le_ediv (by omega) hlh
  have d1 : 0 ≤ l → l / q ≤ l / p := div_le_div_pos hp hpq
  have d2 : l ≤ 0 → l / p ≤ l / q := div_le_div_neg hp hpq
  have d3 : 0 ≤ h → h / q ≤ h / p := div_le_div_pos hp hpq
  have d4 : h ≤ 0 → h / p ≤ h / q := div_le_div_neg hp hpq
  simp only [leastZ, pr4]
  simp
  generalize l / p = A at *
  generalize l / q = B at *
  generalize h / p = C at *
  generalize h / q = D at *
  split <;> split <;> split <;> split <;> omega
theorem over_most {l h p q : Int} (hlh : l ≤ h) (hp : 0 < p) (hpq : p ≤ q) :
    mostZ (pr4 (-(-l / p)) (-(-l / q)) (-(-h / p)) (-(-h / q))) 3 = if h < 0 then -(-h / q) else -(-h / p) := by
  have m1 : -h / p ≤ -l / p := Int.ediv_le_ediv hp (by omega)
  have m2 : -h / q ≤ -l / q := Int.ediv_le_ediv (by omega) (by omega)
  have d1 : 0 ≤ -l → -l / q ≤ -l / p := div_le_div_pos hp hpq
  have d2 : -l ≤ 0 → -l / p ≤ -l / q := div_le_div_neg hp hpq
  have d3 : 0 ≤ -h → -h / q ≤ -h / p := div_le_div_pos hp hpq
  have d4 : -h ≤ 0 → -h / p ≤ -h / q := div_le_div_neg hp hpq
  simp only [mostZ, pr4]
  simp
  generalize -l / p = A at *
  generalize -l / q = B at *
  generalize -h / p = C at *
  generalize -h / q = D at *
  split <;> split <;> split <;> split <;> omega
theorem sq_ltt {x y : Int} (hx : 0 ≤ x) (h : x * x < y * y) (hy : 0 ≤ y) : x < y := by
  rcases Int.lt_or_le x y with h5 | h5
  · exact h5
  · have := Int.mul_le_mul h5 h5 hy hx; omega
/-- The root of a whole number, down. -/
def rtN : Nat → Nat
  | 0 => 0
  | n + 1 => if (rtN n + 1) * (rtN n + 1) ≤ n + 1 then rtN n + 1 else rtN n
def rtZ (x : Int) : Int := (rtN x.toNat : Int)
theorem rtN_spec (n : Nat) : rtN n * rtN n ≤ n ∧ n < (rtN n + 1) * (rtN n + 1) := by
  induction n with
  | zero => simp [rtN]
  | succ n ih =>
    unfold rtN
    split
    · rename_i h
      refine ⟨h, ?_⟩
      have e : (rtN n + 1 + 1) * (rtN n + 1 + 1) = (rtN n + 1) * (rtN n + 1) + 2 * (rtN n + 1) + 1 := by
        rw [Nat.add_mul, Nat.mul_add]; omega
      omega
    · rename_i h
      exact ⟨by omega, by omega⟩
theorem rtZ_nonneg (x : Int) : 0 ≤ rtZ x := by unfold rtZ; omega
theorem rtZ_sq {x : Int} (h : 0 ≤ x) : rtZ x * rtZ x ≤ x ∧ x < (rtZ x + 1) * (rtZ x + 1) := by
  obtain ⟨h1, h2⟩ := rtN_spec x.toNat
  unfold rtZ
  have h3 : ((rtN x.toNat * rtN x.toNat : Nat) : Int) ≤ (x.toNat : Int) := by exact_mod_cast h1
  have h4 : (x.toNat : Int) < (((rtN x.toNat + 1) * (rtN x.toNat + 1) : Nat) : Int) := by exact_mod_cast h2
  rw [Int.toNat_of_nonneg h] at h3 h4
  push_cast at h3 h4
  exact ⟨h3, h4⟩
theorem RootOf.eq {x z : Int} (h : RootOf x z) : z = rtZ x := by
  obtain ⟨h1, h2, h3⟩ := h
  rcases Int.lt_or_le 0 x with hx | hx
  · obtain ⟨h4, h5⟩ := rtZ_sq (x := x) (by omega)
    exact root_uniq h1 (rtZ_nonneg x) (h3 hx).1 (h3 hx).2 h4 h5
  · rw [h2 hx]; unfold rtZ; rw [show x.toNat = 0 by omega]; rfl
/-- The root, up. -/
def rtU (x : Int) : Int := if rtZ x * rtZ x < x then rtZ x + 1 else rtZ x
theorem rtZ_le_rtU {x y : Int} (h : x ≤ y) (h0 : 0 ≤ x) : rtZ x ≤ rtU y := by
  obtain ⟨h1, h2⟩ := rtZ_sq h0
  obtain ⟨h3, h4⟩ := rtZ_sq (x := y) (by omega)
  have h5 : rtZ x < rtZ y + 1 := sq_ltt (rtZ_nonneg x) (by omega) (by have := rtZ_nonneg y; omega)
  unfold rtU
  split <;> omega
theorem rtU_sq {x : Int} (h : 0 ≤ x) : x ≤ rtU x * rtU x := by
  obtain ⟨h3, h4⟩ := rtZ_sq h
  unfold rtU
  split <;> omega

theorem root_rt (neg : Bool) (a : Option Addr) (n cap k : Nat) (x : Int) (w : World) (h1 : IntAt w neg a n cap k x) (hk : k ≤ 100000000) :
    Calls Tryz.prog 189 #[.agg #[.bool neg, .slice a n cap]] w (IntAns w (k + 10) (rtZ x)) :=
  (root_int neg a n cap k x w h1 hk).mono fun r w' ⟨z, hz, h⟩ => by rw [← hz.eq]; exact h
end Go.Proofs.YtgmnknmjainababGreat
