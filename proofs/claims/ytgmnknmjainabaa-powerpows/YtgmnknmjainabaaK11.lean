/-
  What wide.Exp answers, and that it leaves old memory alone.
  What law.Check and tailsureref.CheckLaw answer of whatever law, and that they leave old memory alone.
  What power.Exp answers, and that it leaves old memory alone.
  What power.Exp answers, errors too, and that it leaves old memory alone.
  What Whole, tail, small of package tailsureref answer, and that they leave old memory alone.
-/
import Derived.Test.YtgmnknmjainabaaK10
namespace Go.Proofs.Ytgmnknmjainabaa
set_option linter.unusedVariables false
set_option linter.unusedSimpArgs false
set_option linter.unnecessarySimpa false
open Go.RowKit
attribute [local go_sem ↓] Go.wp_at_zero Go.wp_at_succ

theorem len_uniq {z l l' : Int} (h : LenIs z l) (h' : LenIs z l') (hz : 0 ≤ z) : l = l' := by
  obtain ⟨a1, a2, a3⟩ := h
  obtain ⟨b1, b2, b3⟩ := h'
  by_cases hp : 0 < z
  · obtain ⟨L, e1, e2, e3⟩ := a3 hp
    obtain ⟨L', f1, f2, f3⟩ := b3 hp
    have : L = L' := by
      rcases Nat.lt_trichotomy L L' with h | h | h
      · have := Q_mono (show L + 1 ≤ L' by omega); omega
      · exact h
      · have := Q_mono (show L' + 1 ≤ L by omega); omega
    omega
  · have := a2 (by omega); have := b2 (by omega); omega
theorem exp_one {b N : Nat} {sm : Int × Int} (hb : 16 ≤ b) (hN : IsStop (expT b sm) N) : 1 ≤ N := by
  refine Nat.pos_of_ne_zero fun e => ?_
  have := hN.1
  rw [e] at this
  have h2 : reachI (expT b sm 0) = Q b := by
    show maxZ (Q b) (-Q b) = Q b
    have := Q_pos b
    unfold maxZ; rw [if_neg (by omega)]
  rw [h2] at this
  have := Q_mono hb
  have : Q 16 = 65536 := rfl
  omega
theorem exp_times {z l l' bt : Int} {b t : Nat} (h' : LenIs z l') (h : LenIs z l) (ht : (t : Int) = max 0 (l - b + 8)) (hb : bt = (b : Int)) (hbm : b ≤ 1000000) (ht2 : t ≤ 1000000) (hz : 0 ≤ z) :
    (if 0 < IntKind.i64.wrap (IntKind.i64.wrap (l' - bt) + 8) then IntKind.i64.wrap (IntKind.i64.wrap (l' - bt) + 8) else 0) = (t : Int) := by
  have e := len_uniq h' h hz
  have l0 := h.1
  have l1 : l ≤ 3000000 := by omega
  subst e
  rw [hb, i64_id (l' - b) (by omega) (by omega), i64_id (l' - b + 8) (by omega) (by omega)]
  split <;> omega

set_option maxRecDepth 100000 in
set_option maxHeartbeats 4000000 in
theorem wideExp_iv (w : World) (s : Sp) (K b t N : Nat) (a : Int × Int) (l : Int) (hs : SpAt w s K a.1 a.2) (hbits : s.bits = (b : Int)) (hle : a.1 ≤ a.2) (hb16 : 16 ≤ b) (hb : b ≤ 1000000) (hl : LenIs (reachI a) l) (ht : (t : Int) = max 0 (l - b + 8)) (ht2 : t ≤ 1000000)
    (hsm : Abs (downI a t) (Q (b - 8))) (hN : IsStop (expT b (downI a t)) N) (hK : Q (b + eb t) < P K) (hK2 : K ≤ 10000000) :
    Calls Try.prog 111 #[.agg #[.bool s.ln, .slice s.la s.lN s.lc, .bool s.hn, .slice s.ha s.hN s.hc, .int .i64 s.bits]] w (SpanAns w b K (sqI b (doneI (expT b (downI a t)) N) t).1 (sqI b (doneI (expT b (downI a t)) N) t).2) := by
  obtain ⟨W, hW⟩ : ∃ W, W = (w.alloc (.cells #[.bool s.ln, .slice s.la s.lN s.lc, .bool s.hn, .slice s.ha s.hN s.hc, .int .i64 s.bits] 26)).alloc (.cells #[.bool false, .slice none 0 0, .bool false, .slice none 0 0, .int .i64 0] 26) := ⟨_, rfl⟩
  have hBW : Below w.heap.size w W := by rw [hW]; exact bl2 _ _ _
  have A : SpC W w.heap.size s := by rw [hW]; exact ⟨by simp [go_sem], by simp [go_sem], by simp [go_sem], by simp [go_sem], by simp [go_sem]⟩
  have R : NoC W (w.heap.size + 1) := by rw [hW]; exact ⟨by simp [go_sem], by simp [go_sem], by simp [go_sem], by simp [go_sem], by simp [go_sem], fun o => by simp [go_sem]⟩
  have HS := hide (hs.below hBW)
  have lA := A.lt
  have lR := R.lt
  have HB := hide hbits
  have HT := hide ht
  have hr0 := reach_pair hle
  have HK := hide (show ∀ w', Below W.heap.size W w' → (w'.cell? ⟨w.heap.size, 0, none⟩ = some (.bool s.ln) ∧ w'.cell? ⟨w.heap.size, 1, none⟩ = some (.slice s.la s.lN s.lc) ∧ w'.cell? ⟨w.heap.size, 2, none⟩ = some (.bool s.hn) ∧ w'.cell? ⟨w.heap.size, 3, none⟩ = some (.slice s.ha s.hN s.hc) ∧ w'.cell? ⟨w.heap.size, 4, none⟩ = some (.int .i64 s.bits)) from fun w' hB => ⟨(A.below hB).c0, (A.below hB).c1, (A.below hB).c2, (A.below hB).c3, (A.below hB).c4⟩)
  clear hs hbits ht
  go_enter Try.func111, Try.ntmps111
  go_wp2
  rw [← hW]
  clear hW
  obtain ⟨x0, x1, x2, x3, x4⟩ := unhide HK _ (Below.refl _ _)
  have hD0 : Below W.heap.size W W.drew := (Below.refl _ _).drew
  go_cut [3] (fun p wx => p = .int .i64 (t : Int) ∧ Below W.heap.size W wx)
  case first =>
    go_region_held3 (fun w' => w'.cell? ⟨w.heap.size, 0, none⟩ = some (.bool s.ln) ∧ w'.cell? ⟨w.heap.size, 1, none⟩ = some (.slice s.la s.lN s.lc) ∧ w'.cell? ⟨w.heap.size, 2, none⟩ = some (.bool s.hn) ∧ w'.cell? ⟨w.heap.size, 3, none⟩ = some (.slice s.ha s.hN s.hc) ∧ w'.cell? ⟨w.heap.size, 4, none⟩ = some (.int .i64 s.bits)) (first | exact unhide HK _ (by first | with_reducible exact hD0 | with_reducible exact hD2 | with_reducible exact hD1) | go_keep)
      (first
        | (go_at_call 77; have hq := hD1; refine (len_int _ _ _ _ _ (reachI a) _ hint1 hr0).mono ?_; rintro r' w2 ⟨l', hlen, rfl, hb2⟩; have hD2 := bthen hD1 hb2)
        | (go_at_call 132; refine (reach_int _ s K _ _ ((unhide HS).below hD0) (by omega)).mono ?_; rintro r' w1 ⟨neg1, a1, n1, c1, rfl, hint1, hb1⟩; have hD1 := bthen hD0 hb1))
    all_goals go_wp2_with fail
    all_goals
      go_meet
      refine ⟨congrArg _ ?_, hD2⟩
      have e := exp_times hlen hl (unhide HT) (unhide HB) hb ht2 hr0
      split at e <;> omega
  case rest =>
  obtain ⟨rfl, hb0⟩ := hcut
  replace A := A.below hb0
  replace R := R.below hb0
  replace hBW := bthen hBW hb0
  replace HS := hide ((unhide HS).below hb0)
  have lA := A.lt
  have lR := R.lt
  have HK := hide (show ∀ w', Below wc.heap.size wc w' → (w'.cell? ⟨w.heap.size, 0, none⟩ = some (.bool s.ln) ∧ w'.cell? ⟨w.heap.size, 1, none⟩ = some (.slice s.la s.lN s.lc) ∧ w'.cell? ⟨w.heap.size, 2, none⟩ = some (.bool s.hn) ∧ w'.cell? ⟨w.heap.size, 3, none⟩ = some (.slice s.ha s.hN s.hc) ∧ w'.cell? ⟨w.heap.size, 4, none⟩ = some (.int .i64 s.bits)) from fun w' hB => ⟨(A.below hB).c0, (A.below hB).c1, (A.below hB).c2, (A.below hB).c3, (A.below hB).c4⟩)
  clear x0 x1 x2 x3 x4 hD0 hb0
  obtain ⟨x0, x1, x2, x3, x4⟩ := unhide HK _ (Below.refl _ _)
  go_wp2_with fail
  go_cut [4] (fun p wx => ∃ (B : Nat) (u : Sp), p = .pointer (some ⟨B, 0, none⟩) ∧ wc.heap.size ≤ B ∧ VrC wx B u ∧ SpAt wx u (K + 5) (downI a t).1 (downI a t).2 ∧ u.bits = (b : Int) ∧ Below wc.heap.size wc wx)
  case first =>
    go_region_held3 (fun w' => w'.cell? ⟨w.heap.size, 0, none⟩ = some (.bool s.ln) ∧ w'.cell? ⟨w.heap.size, 1, none⟩ = some (.slice s.la s.lN s.lc) ∧ w'.cell? ⟨w.heap.size, 2, none⟩ = some (.bool s.hn) ∧ w'.cell? ⟨w.heap.size, 3, none⟩ = some (.slice s.ha s.hN s.hc) ∧ w'.cell? ⟨w.heap.size, 4, none⟩ = some (.int .i64 s.bits)) (exact unhide HK _ (by repeat' (first | with_reducible exact hBU2 | with_reducible exact hBU1 | with_reducible exact Below.refl _ _ | with_reducible refine Below.drew ?_ | with_reducible refine balloc ?_ _ | with_reducible refine Below.setCell ?_ (by first | exact Nat.le_refl _ | exact hlU1 | exact hlU2) _)))
      (first
        | (go_at_call 125; have hq := hBU1; refine (ceilDown_z _ _ _ _ K (t : Int) a.2 _ ((unhide HS).hi.below (by first | with_reducible exact hBU1 | with_reducible exact balloc hBU1 _)) (by omega) (by omega) (by omega)).mono ?_; rintro r wU2 ⟨negU2, aU2, nU2, cU2, rfl, hintU2, hbU2⟩; have hCU2 : Below wU1.heap.size wU1 wU2 := (by first | with_reducible exact hbU2 | with_reducible exact bthen (bl1 _ _) hbU2); have hBU2 := bthen hBU1 hCU2; (try with_reducible have gU2 := (noc_new wU1 26).below hbU2); replace hintU1 := hintU1.below hCU2; (try replace gU1 := gU1.below hCU2); have hlU2 := hBU2.size; (try have mU1 := gU1.lt); (try have eU1 := Nat.ne_of_lt mU1); (try have eU1' := Nat.ne_of_gt mU1); (try obtain ⟨zU10, zU11, zU12, zU13, zU14, zU15⟩ := gU1); (try have mU2 := gU2.lt); (try have eU2 := Nat.ne_of_lt mU2); (try have eU2' := Nat.ne_of_gt mU2); (try obtain ⟨zU20, zU21, zU22, zU23, zU24, zU25⟩ := gU2))
        | (go_at_call 79; refine (down_z _ _ _ _ K (t : Int) a.1 _ ((unhide HS).lo.below (by first | with_reducible exact (Below.refl _ _).drew | with_reducible exact (bl1 _ _).drew)) (by omega) (by omega) (by omega)).mono ?_; rintro r wU1 ⟨negU1, aU1, nU1, cU1, rfl, hintU1, hbU1⟩; have hBU1 : Below wc.heap.size wc wU1 := (by first | with_reducible exact bthen (Below.refl _ _).drew hbU1 | with_reducible exact bthen (bl1 _ _).drew hbU1); (try with_reducible have gU1 := ((noc_new wc 26).below (Below.refl _ _).drew).below hbU1); have hlU1 := hBU1.size))
    all_goals
      have hfinU : SpAt wU2 ⟨negU1, aU1, nU1, cU1, negU2, aU2, nU2, cU2, s.bits⟩ (K + 5) (downI a t).1 (downI a t).2 := ⟨by rw [downZ_nat] at hintU1; exact hintU1.mono (by omega), by rw [downZ_nat] at hintU2; exact hintU2.mono (by omega)⟩
      go_wp2_with fail
      go_meet
      refine ⟨_, ⟨negU1, aU1, nU1, cU1, negU2, aU2, nU2, cU2, s.bits⟩, rfl, ?_, ⟨⟨?_, ?_, ?_, ?_, ?_⟩, ?_⟩, ?_, unhide HB, ?_⟩
      · first | exact Nat.le_refl _ | exact hlU1 | exact hlU2
      · simp [go_sem, *]
      · simp [go_sem, *]
      · simp [go_sem, *]
      · simp [go_sem, *]
      · simp [go_sem, *]
      · intro o; simp [go_sem, *]
      · first | with_reducible exact hfinU.below (bl1 _ _) | with_reducible exact SpAt.put5 hfinU (by assumption) (by assumption) (by assumption) (by assumption) (by assumption) _ _ _ _ _
      · repeat' (first | with_reducible exact hBU2 | with_reducible exact hBU1 | with_reducible exact Below.refl _ _ | with_reducible refine Below.drew ?_ | with_reducible refine balloc ?_ _ | with_reducible refine Below.setCell ?_ (by first | exact Nat.le_refl _ | exact hlU1 | exact hlU2) _)
  case rest =>
  obtain ⟨BU, xU, rfl, hHU, XU, hpU, hxbU, hblU⟩ := hcut
  replace A := A.below hblU
  replace R := R.below hblU
  replace hBW := bthen hBW hblU
  have lU := XU.lt
  have nRU : w.heap.size + 1 < BU := by omega
  have lA2 := A.lt
  have lR2 := R.lt
  have HXB := hide hxbU
  have HHU := hide hpU
  clear hxbU hpU HS HK x0 x1 x2 x3 x4 hblU
  have x4 := A.c4
  rw [unhide HB] at x4
  go_wp2_with fail
  refine (one_int _ b hb).mono ?_
  rintro r w1 ⟨v1, rfl, hvb1, hvp1, hb1⟩
  have hQb := Q_pos b
  have hv0 : (expT b (downI a t) 0).1 = 1 * Q b / 1 ∧ (expT b (downI a t) 0).2 = -(-(1 * Q b) / 1) := by
    constructor
    · show Q b = _; omega
    · show Q b = _; omega
  rw [← hv0.1, ← hv0.2] at hvp1
  have hQK : Q b * 2 < P K ∧ 2 * Q b + Q b < P K := by
    have h12 : 12 ≤ eb t := by have := eb_mono (show 0 ≤ t by omega); simpa [eb] using this
    have := Q_mono (show b + 2 ≤ b + eb t by omega)
    have e : Q (b + 2) = 2 * (2 * Q b) := rfl
    omega
  have hT := expT_abs (by omega) hsm
  have hlT := expT_le b (downI a t)
  have hfit : ∀ n, n ≤ N → -P K < (expT b (downI a t) n).1 ∧ (expT b (downI a t) n).2 < P K := fun n _ => by
    obtain ⟨g1, g2, g3, g4⟩ := hT n
    have := Q_mono (show b - 8 * n ≤ b by omega)
    omega
  have hfitS : ∀ n, n ≤ N → -P K < (sumI (expT b (downI a t)) n).1 ∧ (sumI (expT b (downI a t)) n).2 < P K := fun n hn => by
    obtain ⟨g1, g2, g3, g4⟩ := sum_abs2 (s := 8) (by omega) hT hN n hn
    have := Q_pos (b - 8 * n)
    omega
  have hNb : N ≤ 1000000000 := by
    obtain ⟨N', n1, n2⟩ := stop_ex (s := 8) (by omega) hT
    have : N ≤ N' := Nat.not_lt.1 fun hlt => by have := hN.2 N' hlt; have := n2.1; omega
    omega
  replace hvp1 := hvp1.fits (K := K) (hlT 0) (hfit 0 (by omega)).1 (hfit 0 (by omega)).2
  have HT0 := hide hT
  have HLT := hide hlT
  have HFIT := hide hfit
  have HFITS := hide hfitS
  have HVP1 := hide hvp1
  have HVB1 := hide hvb1
  have HQK := hide hQK
  clear hT hlT hfit hfitS hv0 hvp1 hvb1 hQK
  replace XU := XU.below hb1
  replace HHU := hide ((unhide HHU).below hb1)
  replace R := R.below hb1
  replace hBW := bthen hBW hb1
  have lU3 := XU.lt
  have lR3 := R.lt
  clear hb1 x4 A lA2
  go_wp2_with fail
  refine (sum_exp _ (expT b (downI a t)) N b K (K + 5 + (K + 5) + 22) v1 _ (unhide HVP1) (unhide HVB1) hb (by omega) (by omega) hN hNb (unhide HLT) (unhide HFIT) (unhide HFITS) (fun n u w' hn hub hup hbw => ?_)).mono ?_
  · exact exp1_iv w' BU u xU (K + 5) b ((n : Int) + 1) (expT b (downI a t) n) (downI a t) (hup.mono (by omega)) ((unhide HHU).below hbw) (XU.c.below hbw) (by omega) hub hb (by omega) (by omega)
  rintro r w2 ⟨v2, rfl, hvb2, hvp2, hb2⟩
  replace XU := XU.below hb2
  replace R := R.below hb2
  replace hBW := bthen hBW hb2
  have hdl := done_le (unhide HLT) N
  have hda := done_abs2 (s := 8) (by omega) (unhide HLT) (unhide HT0) hN
  replace hvp2 := hvp2.fits (K := K) hdl (by have := hda.1; have := unhide HQK; omega) (by have := hda.2.2.2; have := unhide HQK; omega)
  have HV2 := hide hvb2
  clear hvb2 hb2 HVP1 HVB1 hdl hda
  have lR4 := R.lt
  go_wp2_with fail
  go_loopw [31] (fun ii wr => ∃ (i : Nat) (X : Sp), ii = .int .i64 (i : Int) ∧ i ≤ t ∧ VrC wr w2.heap.size X ∧ SpAt wr X K (sqI b (doneI (expT b (downI a t)) N) i).1 (sqI b (doneI (expT b (downI a t)) N) i).2 ∧ X.bits = (b : Int) ∧ NoC wr (w.heap.size + 1) ∧ Below w.heap.size w wr) (fun ii _ => t - (intOf ii).toNat)
  case atStart =>
    refine ⟨0, v2, rfl, Nat.zero_le _, ⟨⟨by simp [go_sem], by simp [go_sem], by simp [go_sem], by simp [go_sem], by simp [go_sem]⟩, fun o => by simp [go_sem]⟩, hvp2.below (bl1 _ _), unhide HV2, R.below (bl1 _ _), balloc hBW _⟩
  case round =>
    obtain ⟨i, X, rfl, hi, hX, hp, hxb, hR, hB⟩ := hrel
    have HXB := hide hxb
    clear hxb
    have lX := hX.lt
    by_cases hin : i < t
    · have hin' : (i : Int) < (t : Int) := by omega
      obtain ⟨⟨x0, x1, x2, x3, x4⟩, x5⟩ := hX
      go_wp2_with fail
      refine (mul_iv _ X X K b _ _ hp hp (by omega) (unhide HXB) hb).mono ?_
      rintro r w3 ⟨v, rfl, hvb, hvp, hb3⟩
      have X3 := VrC.below ⟨⟨x0, x1, x2, x3, x4⟩, x5⟩ hb3
      have R3 := hR.below hb3
      have B3 := bthen hB hb3
      have e : mulI b (sqI b (doneI (expT b (downI a t)) N) i) (sqI b (doneI (expT b (downI a t)) N) i) = sqI b (doneI (expT b (downI a t)) N) (i + 1) := rfl
      rw [e] at hvp
      have h1N : 1 ≤ N := exp_one hb16 hN
      have ha := sq_abs hb16 (done_abs1 (s := 8) (by omega) (unhide HLT) (unhide HT0) hN h1N) (i + 1)
      have hm := Q_mono (show b + eb (i + 1) ≤ b + eb t by have := eb_mono (show i + 1 ≤ t by omega); omega)
      replace hvp := hvp.fits (K := K) (mulI_le b) (by have := ha.1; omega) (by have := ha.2.2.2; omega)
      have HV := hide hvb
      have nB : w.heap.size + 1 ≠ w2.heap.size := by omega
      have stn : VrC (put5w w3 w2.heap.size v) w2.heap.size v ∧ SpAt (put5w w3 w2.heap.size v) v K (sqI b (doneI (expT b (downI a t)) N) (i + 1)).1 (sqI b (doneI (expT b (downI a t)) N) (i + 1)).2 ∧ NoC (put5w w3 w2.heap.size v) (w.heap.size + 1) ∧ Below w.heap.size w (put5w w3 w2.heap.size v) := ⟨X3.put v, hvp.put X3.c v, R3.off nB v, below_put B3 (by omega) v⟩
      unfold put5w at stn
      clear hvb hb3 x0 x1 x2 x3 x4 x5 hvp ha hm
      obtain ⟨⟨x0, x1, x2, x3, x4⟩, x5⟩ := X3
      go_wp2_with fail
      go_roundw
      case rel => exact ⟨i + 1, v, by go_num, by omega, stn.1, stn.2.1, unhide HV, stn.2.2.1, stn.2.2.2⟩
      case measure => simp [intOf]; omega
    · have hie : i = t := by omega
      subst hie
      have hin' : ¬ (i : Int) < (i : Int) := by omega
      obtain ⟨⟨x0, x1, x2, x3, x4⟩, x5⟩ := hX
      obtain ⟨q0, q1, q2, q3, q4, q5⟩ := hR
      go_wp2_with fail
      refine bodyPost_ret (v := .agg #[.bool X.ln, .slice X.la X.lN X.lc, .bool X.hn, .slice X.ha X.hN X.hc, .int .i64 X.bits]) (by simp [results, Try.results111, go_sem, q0, q1, q2, q3, q4]) rfl ⟨X, rfl, unhide HXB, ?_, ?_⟩
      · exact SpAt.put5 hp q0 q1 q2 q3 q4 _ _ _ _ _
      · exact set5 hB (Nat.le_succ _) _ _ _ _ _
end Go.Proofs.Ytgmnknmjainabaa

namespace Go.Proofs.Ytgmnknmjainabaa
set_option linter.unusedVariables false
set_option linter.unusedSimpArgs false
set_option linter.unnecessarySimpa false
open Go.RowKit
attribute [local go_sem ↓] Go.wp_at_zero Go.wp_at_succ

/-- Is a ratio from -n to n? -/
def withinB (p q n : Int) : Bool := decide (-(n * q) ≤ p) && decide (p ≤ n * q)

set_option maxHeartbeats 400000 in
theorem within_any (p q n : Int) (w : World) (hn0 : 0 ≤ n) (hn : n ≤ 100000) (hq0 : 1 ≤ q) (hq : q ≤ 1024) :
    Calls Try.prog 108 #[.agg #[.int .i64 p, .int .i64 q], .int .i64 n] w fun r w' => r = .returned (.bool (withinB p q n)) ∧ Below w.heap.size w w' := by
  have e : -n * q = -(n * q) := Int.neg_mul _ _
  have b1 : 0 ≤ n * q := Int.mul_nonneg hn0 (by omega)
  have b2 : n * q ≤ 102400000 := Int.le_trans (Int.mul_le_mul hn hq (by omega) (by omega)) (by decide)
  by_cases h1 : -(n * q) ≤ p
  · go_enter Try.func108, Try.ntmps108
    go_wp2
    go_ret
    exact ⟨by simp [withinB, h1]; try omega, bl1 _ _⟩
  · go_enter Try.func108, Try.ntmps108
    go_wp2
    go_ret
    exact ⟨by simp [withinB, h1]; try omega, bl1 _ _⟩

end Go.Proofs.Ytgmnknmjainabaa

namespace Go.Proofs.Ytgmnknmjainabaa
set_option linter.unusedVariables false
set_option linter.unusedSimpArgs false
set_option linter.unnecessarySimpa false
open Go.RowKit
attribute [local go_sem ↓] Go.wp_at_zero Go.wp_at_succ

/-- Each number from 0 on has a length. -/
theorem len_ex {z : Int} (hz : 0 ≤ z) {e : Nat} (he : z < Q e) : ∃ l, LenIs z l ∧ l ≤ e ∧ z < Q l.toNat := by
  by_cases hp : 0 < z
  · have key : ∀ e : Nat, z < Q e → ∃ L : Nat, L + 1 ≤ e ∧ Q L ≤ z ∧ z < Q (L + 1) := fun e => by
      induction e with
      | zero => intro h; simp [Q] at h; omega
      | succ e ih =>
        intro h
        by_cases hq : Q e ≤ z
        · exact ⟨e, Nat.le_refl _, hq, h⟩
        · obtain ⟨L, h1, h2⟩ := ih (by omega)
          exact ⟨L, by omega, h2⟩
    obtain ⟨L, h1, h2, h3⟩ := key e he
    exact ⟨(L : Int) + 1, ⟨by omega, fun h => by omega, fun _ => ⟨L, rfl, h2, h3⟩⟩, by omega, by rw [show ((L : Int) + 1).toNat = L + 1 by omega]; exact h3⟩
  · have : z = 0 := by omega
    subst this
    exact ⟨0, ⟨by omega, fun _ => rfl, fun h => by omega⟩, by omega, by simp [Q]⟩
/-- How wide.Exp goes about it. -/
theorem exp_set {B e : Nat} {a : Int × Int} (hB : 16 ≤ B) (ha : a.1 ≤ a.2) (h : reachI a < Q (B + e)) :
    ∃ (l : Int) (t N : Nat), LenIs (reachI a) l ∧ (t : Int) = max 0 (l - B + 8) ∧ t ≤ e + 8 ∧ Abs (downI a t) (Q (B - 8)) ∧ IsStop (expT B (downI a t)) N := by
  obtain ⟨l, h1, h2, h3⟩ := len_ex (reach_pair ha) h
  obtain ⟨t, ht⟩ : ∃ t : Nat, (t : Int) = max 0 (l - B + 8) := ⟨(max 0 (l - (B : Int) + 8)).toNat, by omega⟩
  have hA : Abs (downI a t) (Q (B - 8)) := by
    obtain ⟨g1, g2, g3, g4⟩ := reach_abs ha
    have q := Q_pos t
    have hm := Q_mono (show l.toNat ≤ B - 8 + t by omega)
    rw [Q_add] at hm
    have r1 := round_abs (x := a.1) (m := Q (B - 8)) (q := Q t) (by omega) (by omega) (by omega)
    have r2 := round_abs (x := a.2) (m := Q (B - 8)) (q := Q t) (by omega) (by omega) (by omega)
    exact ⟨r1.1, r1.2.1, r2.2.2.1, r2.2.2.2⟩
  obtain ⟨N, n1, n2⟩ := stop_ex (s := 8) (by omega) (expT_abs (by omega) hA)
  exact ⟨l, t, N, h1, ht, by omega, hA, n2⟩
theorem P200 (m : Nat) : P 200 * Q m = Q (3200 + m) := by rw [Q_add, ← Q_P]
/-- What is made of a power of e. -/
def ExpPr (x : Nat → Rat) (Kw ee B : Nat) (lo hi : Int) : Prop :=
  Iv B (lo, hi) (Ex.Ev x) ∧ lo ≤ hi ∧ hi - lo ≤ Q Kw ∧ -Q (B + ee) ≤ lo ∧ hi ≤ Q (B + ee)
theorem exp_ends (bits : Nat) (x : Nat → Rat) (Kw ee : Nat) (h : bits + ee ≤ 3200) : SureEnds bits Kw (ExpPr x Kw ee) := fun m lo hi ⟨h1, h2, h3, h4, h5⟩ => by
  have := Q_mono (show bits + m + ee ≤ 3200 + m by omega)
  rw [P200]
  exact ⟨h2, h3, by omega, by omega⟩
theorem wb_17 : wb 17 = 1678 := by decide
theorem eb_17 : eb 17 = 1536 := by decide
theorem exp_pr {bits m t N T : Nat} {a : Int × Int} {x : Nat → Rat} (hb : bits ≤ 120) (hm : 32 ≤ m) (hm2 : m ≤ 1820) (ha : a.1 ≤ a.2) (hw : a.2 - a.1 ≤ 1) (hx : Iv (bits + m) a x) (ht : t ≤ T) (hT : T ≤ 17) (hA : Abs (downI a t) (Q (bits + m - 8))) (hN : IsStop (expT (bits + m) (downI a t)) N) :
    ExpPr x 1700 (eb T) (bits + m) (sqI (bits + m) (doneI (expT (bits + m) (downI a t)) N) t).1 (sqI (bits + m) (doneI (expT (bits + m) (downI a t)) N) t).2 := by
  have q := Q_pos t
  obtain ⟨g1, g2, g3, g4⟩ := exp_bound (ws := 1) (by omega) hA ha (by omega) hN
  have hwb := Q_mono (wb_mono (show t ≤ 17 by omega))
  rw [wb_17] at hwb
  have heb : Q (bits + m + eb t) ≤ Q (bits + m + eb T) := Q_mono (by have := eb_mono ht; omega)
  refine ⟨exp_has (by omega) hx hA, g1, ?_, ?_, ?_⟩
  · refine Int.le_trans g4 ?_
    have e : Q 1700 = 4194304 * Q 1678 := by
      have := Q_add 22 1678
      rw [show 22 + 1678 = 1700 by omega] at this
      rw [this]; rfl
    rw [e]
    have q2 := Q_pos (wb t)
    exact Int.mul_le_mul (by omega) hwb (by omega) (by omega)
  · have := g2.1; omega
  · have := g2.2.2.2; omega

/-- A ratio in a block. -/
structure RaC (w : World) (B : Nat) (p q : Int) : Prop where
  c0 : w.cell? ⟨B, 0, none⟩ = some (.int .i64 p)
  c1 : w.cell? ⟨B, 1, none⟩ = some (.int .i64 q)
theorem RaC.lt {w : World} {B : Nat} {p q : Int} (h : RaC w B p q) : B < w.heap.size := World.block_lt_of_cell? w ⟨B, 0, none⟩ h.c0
theorem RaC.below {w w' : World} {B : Nat} {p q : Int} (h : RaC w B p q) (hb : Below w.heap.size w w') : RaC w' B p q :=
  ⟨(hb.cell (p := ⟨B, 0, none⟩) h.lt).trans h.c0, (hb.cell (p := ⟨B, 1, none⟩) h.lt).trans h.c1⟩
set_option maxRecDepth 100000 in
set_option maxHeartbeats 4000000 in
theorem powOf_iv (w : World) (p q : Int) (b : Nat) (hr : rok p q) (hb : b ≤ 1000000) :
    Calls Try.prog 112 #[.agg #[.int .i64 p, .int .i64 q], .int .i64 b] w (SpanAns w b (4 + b / 16 + 20) (ofI p q b).1 (ofI p q b).2) := by
  obtain ⟨r1, r2, r3, r4⟩ := hr
  obtain ⟨W, hW⟩ : ∃ W, W = (w.alloc (.cells #[.int .i64 p, .int .i64 q] 28)).alloc (.cells #[.bool false, .slice none 0 0, .bool false, .slice none 0 0, .int .i64 0] 26) := ⟨_, rfl⟩
  have hBW : Below w.heap.size w W := by rw [hW]; exact bl2 _ _ _
  have A : RaC W w.heap.size p q := by rw [hW]; exact ⟨by simp [go_sem], by simp [go_sem]⟩
  have R : NoC W (w.heap.size + 1) := by rw [hW]; exact ⟨by simp [go_sem], by simp [go_sem], by simp [go_sem], by simp [go_sem], by simp [go_sem], fun o => by simp [go_sem]⟩
  have lA := A.lt
  have lR := R.lt
  have HK := hide (show ∀ w', Below W.heap.size W w' → (w'.cell? ⟨w.heap.size, 0, none⟩ = some (.int .i64 p) ∧ w'.cell? ⟨w.heap.size, 1, none⟩ = some (.int .i64 q)) from fun w' hB => ⟨(A.below hB).c0, (A.below hB).c1⟩)
  go_enter Try.func112, Try.ntmps112
  go_wp2
  rw [← hW]
  clear hW
  obtain ⟨x0, x1⟩ := unhide HK _ (Below.refl _ _)
  have hD0 : Below W.heap.size W W.drew := (Below.refl _ _).drew
  have n01 : w.heap.size ≠ w.heap.size + 1 := by omega
  have n10 : w.heap.size + 1 ≠ w.heap.size := by omega
  go_region_held3 (fun w' => w'.cell? ⟨w.heap.size, 0, none⟩ = some (.int .i64 p) ∧ w'.cell? ⟨w.heap.size, 1, none⟩ = some (.int .i64 q)) (first | exact unhide HK _ (by first | with_reducible exact hD0 | with_reducible exact hD3 | with_reducible exact hD2 | with_reducible exact hD1) | go_keep)
    (first
      | (go_at_call 71; have hq := hD2; refine (wideOf_any _ _ _ _ _ _ _ _ 4 4 b p q _ (hint1.below hb2) hint2 (by omega) hb (by omega)).mono ?_; rintro r' w3 ⟨u, rfl, hub, hup, hb3⟩; have hD3 := bthen hD2 hb3; have HU := hide hub; clear hub; obtain ⟨q0, q1, q2, q3, q4, q5⟩ := R.below hD3; obtain ⟨y0, y1⟩ := unhide HK _ hD3)
      | (go_at_call 62; have hq := hD1; refine (numOf_int q _ (by omega) (by omega)).mono ?_; rintro r' w2 ⟨neg2, a2, n2, c2, rfl, hint2, hb2⟩; have hD2 := bthen hD1 hb2)
      | (go_at_call 62; refine (numOf_int p _ (by omega) (by omega)).mono ?_; rintro r' w1 ⟨neg1, a1, n1, c1, rfl, hint1, hb1⟩; have hD1 := bthen hD0 hb1))
  all_goals
    go_wp2_with fail
    refine bodyPost_ret (v := .agg #[.bool u.ln, .slice u.la u.lN u.lc, .bool u.hn, .slice u.ha u.hN u.hc, .int .i64 u.bits]) (by simp [results, Try.results112, go_sem, q0, q1, q2, q3, q4]) rfl ⟨u, rfl, unhide HU, ?_, ?_⟩
    · exact SpAt.put5 hup q0 q1 q2 q3 q4 _ _ _ _ _
    · exact set5 (bthen hBW hD3) (Nat.le_succ _) _ _ _ _ _

set_option maxRecDepth 100000 in
set_option maxHeartbeats 2000000 in
theorem pexp1_iv (w : World) (B0 : Nat) (p q : Int) (b t N K : Nat) (l : Int) (hr : rok p q) (hB0 : RaC w B0 p q) (hb16 : 16 ≤ b) (hb : b ≤ 100000) (hl : LenIs (reachI (ofI p q b)) l) (ht : (t : Int) = max 0 (l - b + 8)) (ht2 : t ≤ 1000000)
    (hsm : Abs (downI (ofI p q b) t) (Q (b - 8))) (hN : IsStop (expT b (downI (ofI p q b) t)) N) (hK : Q (b + eb t) < P K) (hK2 : K ≤ 10000000) (hK3 : 4 + b / 16 + 20 ≤ K) :
    Calls Try.prog 110 #[.int .i64 b, .pointer (some ⟨B0, 0, none⟩)] w (SpanAns w b K (sqI b (doneI (expT b (downI (ofI p q b) t)) N) t).1 (sqI b (doneI (expT b (downI (ofI p q b) t)) N) t).2) := by
  have l0 := hB0.lt
  obtain ⟨y0, y1⟩ := hB0
  have hd : 0 < q := by have := hr.2.2.1; omega
  have HL := hide hl
  have HT := hide ht
  have HS := hide hsm
  have HN := hide hN
  have HR := hide hr
  have R := noc_new w 26
  clear hl ht hsm hN hr
  go_enter Try.func110, Try.ntmps110
  go_wp2_with fail
  refine (powOf_iv _ p q b (unhide HR) (by omega)).mono ?_
  rintro r' w1 ⟨u, rfl, hub, hup, hb1⟩
  replace R := R.below hb1
  have hBW : Below w.heap.size w w1 := bthen (bl1 _ _) hb1
  have HU := hide hub
  clear hub y0 y1 hb1
  go_wp2_with fail
  refine (wideExp_iv _ u K b t N (ofI p q b) l (hup.mono hK3) (unhide HU) (ofI_le hd b) hb16 (by omega) (unhide HL) (unhide HT) ht2 (unhide HS) (unhide HN) hK hK2).mono ?_
  rintro r' w2 ⟨v, rfl, hvb, hvp, hb2⟩
  obtain ⟨q0, q1, q2, q3, q4, q5⟩ := R.below hb2
  replace hBW := bthen hBW hb2
  have HV := hide hvb
  clear hvb
  go_wp2_with fail
  refine bodyPost_ret (v := .agg #[.bool v.ln, .slice v.la v.lN v.lc, .bool v.hn, .slice v.ha v.hN v.hc, .int .i64 v.bits]) (by simp [results, Try.results110, go_sem, q0, q1, q2, q3, q4]) rfl ⟨v, rfl, unhide HV, ?_, ?_⟩
  · exact SpAt.put5 hvp q0 q1 q2 q3 q4 _ _ _ _ _
  · exact set5 hBW (Nat.le_refl _) _ _ _ _ _

set_option maxRecDepth 100000 in
set_option maxHeartbeats 4000000 in
theorem sure_pexp (p1 : Value) (bits Kw KD : Nat) (Pr : Nat → Int → Int → Prop) (W : World) (hb : bits ≤ 120) (hKw : Kw ≤ 900000) (hKD : KD ≤ 100000000) (hE : SureEnds bits Kw Pr)
    (hF : ∀ (m : Nat) w', 32 ≤ m → m ≤ Kw + 120 → Below W.heap.size W w' → Calls Try.prog 110 #[.int .i64 ((bits : Int) + m), p1] w' (fun r w'' => ∃ lo hi, Pr (bits + m) lo hi ∧ SpanAns w' ((bits : Int) + m) KD lo hi r w'')) :
    Calls Try.prog 109 #[.int .i64 bits, .func (.func 110) #[] #[p1]] W (fun r w' => ∃ L H, SureOf bits Pr L H ∧ SpanAns W bits 250 L H r w') := by
  have HF := hide hF
  have HE := hide hE
  clear hF hE
  have hR0 := noc_new W 26
  go_enter Try.func109, Try.ntmps109
  go_wp2_with fail
  go_loopw [5, 6] (fun mm tt wr => ∃ m t : Nat, mm = .int .i64 (m : Int) ∧ tt = .int .i64 (t : Int) ∧ SureInv Kw m t ∧ NoC wr W.heap.size ∧ Below W.heap.size W wr) (fun mm _ _ => Kw + 200 - (intOf mm).toNat)
  case atStart => exact ⟨32, 1, rfl, rfl, ⟨Nat.le_refl _, Nat.le_refl _, by omega, Or.inl ⟨by omega, by omega⟩⟩, hR0, bl1 _ _⟩
  case round =>
    obtain ⟨m, t, rfl, rfl, hinv, R, hB⟩ := hrel
    obtain ⟨hm, ht, htm, hmt⟩ := hinv
    have hmK : m ≤ Kw + 120 := by omega
    have HI := hide hmt
    clear hmt
    go_wp2_with fail
    refine (unhide HF m _ hm hmK hB).mono ?_
    rintro r w1 ⟨lo, hi, hPr, s, rfl, hsb, hsp, hb1⟩
    replace R := R.below hb1
    replace hB := bthen hB hb1
    clear hb1
    obtain ⟨e1, e2, e3, e4⟩ := unhide HE m lo hi hPr
    obtain ⟨v1, v2, v3⟩ := to_width (m := m) e1 e2
    obtain ⟨f1, f2⟩ := to_fit e3 e4
    have HPr := hide hPr
    have HV := hide (And.intro v2 v3)
    have hs0 : 0 ≤ s.bits := by omega
    have hs1 : s.bits ≤ 1000000 := by omega
    have d1 : downZ lo (s.bits - bits) = lo / Q m := by unfold downZ; rw [hsb, if_pos (by omega)]; congr 2; omega
    have d2 : downZ (-hi) (s.bits - bits) = -hi / Q m := by unfold downZ; rw [hsb, if_pos (by omega)]; congr 2; omega
    have HD1 := hide d1
    have HD2 := hide d2
    clear hPr e1 e2 e3 e4 v2 v3 d1 d2 hsb
    go_wp2_with fail
    refine (wideTo_int _ s KD bits lo hi hsp (by omega) hs0 hs1 (by omega) (by omega)).mono ?_
    rintro r w2 ⟨u, rfl, hub, hup, hb2⟩
    rw [unhide HD1, unhide HD2] at hup
    obtain ⟨L, hL⟩ : ∃ L, L = lo / Q m := ⟨_, rfl⟩
    obtain ⟨H, hH⟩ : ∃ H, H = -(-hi / Q m) := ⟨_, rfl⟩
    rw [← hL, ← hH] at hup v1
    rw [← hL] at f1
    rw [← hH] at f2
    have HV2 := hide (show (Kw ≤ m → H - L ≤ 2) ∧ (m ≤ Kw → H - L ≤ Q (Kw - m) + 1) by rw [hL, hH]; exact unhide HV)
    have HL := hide hL
    have HH := hide hH
    replace hup := hup.fits (K := 250) (by omega) f1 f2
    replace R := R.below hb2
    replace hB := bthen hB hb2
    have HUB := hide hub
    clear hb2 hL hH hub hs0 hs1 HD1 HD2 HV hsp
    have lR := R.lt
    obtain ⟨V, hV⟩ : ∃ V, V = w2.alloc (.cells #[.bool u.ln, .slice u.la u.lN u.lc, .bool u.hn, .slice u.ha u.hN u.hc, .int .i64 u.bits] 26) := ⟨_, rfl⟩
    have bV : Below w2.heap.size w2 V := by rw [hV]; exact bl1 _ _
    have U : SpC V w2.heap.size u := by rw [hV]; exact ⟨by simp, by simp, by simp, by simp, by simp⟩
    replace R := R.below bV
    replace hB := bthen hB bV
    replace hup := hup.below bV
    clear bV
    go_wp2_with fail
    rw [← hV]
    clear hV
    refine (sub_int _ _ _ _ _ _ _ _ 250 250 H L _ hup.hi hup.lo (by omega) (by omega)).mono ?_
    rintro r w3 ⟨neg3, a3, n3, c3, rfl, hint3, hb3⟩
    replace U := U.below hb3
    replace R := R.below hb3
    replace hB := bthen hB hb3
    replace hup := hup.below hb3
    clear hb3
    go_wp2_with fail
    refine (len_int _ _ _ _ _ (H - L) _ hint3 v1).mono ?_
    rintro r w4 ⟨l, hlen, rfl, hb4⟩
    replace U := U.below hb4
    replace R := R.below hb4
    replace hB := bthen hB hb4
    replace hup := hup.below hb4
    clear hb4 hint3
    have hlb : 0 ≤ l ∧ l ≤ Kw + 2 ∧ (m ≤ Kw → l ≤ Kw - m + 2) ∧ (Kw ≤ m → l ≤ 2) := by
      obtain ⟨g1, g2⟩ := unhide HV2
      refine ⟨hlen.1, ?_, fun h => ?_, fun h => ?_⟩
      · rcases Nat.le_total m Kw with h | h
        · have := len_bd (K := Kw - m) hlen (g2 h) v1; omega
        · have := len_two hlen (g1 h) v1; omega
      · have := len_bd (K := Kw - m) hlen (g2 h) v1; omega
      · exact len_two hlen (g1 h) v1
    obtain ⟨hl0, hl1, hl2, hl3⟩ := hlb
    have HL2 := hide (And.intro hl2 hl3)
    have HLen := hide hlen
    clear hl2 hl3 hlen
    have lU := U.lt
    have lR2 := R.lt
    have nRU : W.heap.size ≠ w2.heap.size := by omega
    have nRU' : w2.heap.size ≠ W.heap.size := by omega
    have HU := hide U
    obtain ⟨x0, x1, x2, x3, x4⟩ := U
    by_cases hc : l ≤ 1
    · have hN := R
      obtain ⟨q0, q1, q2, q3, q4, q5⟩ := R
      have Hc := hide hc
      go_wp2_with fail
      refine bodyPost_ret (v := .agg #[.bool u.ln, .slice u.la u.lN u.lc, .bool u.hn, .slice u.ha u.hN u.hc, .int .i64 u.bits]) (by simp [results, Try.results109, go_sem, q0, q1, q2, q3, q4]) rfl ⟨L, H, ⟨m, lo, hi, unhide HPr, hm, unhide HL, unhide HH, Or.inl (len_one (unhide HLen) (unhide Hc) v1)⟩, u, rfl, unhide HUB, ?_, ?_⟩
      · exact SpAt.put5 hup q0 q1 q2 q3 q4 _ _ _ _ _
      · exact set5 hB (Nat.le_refl _) _ _ _ _ _
    · by_cases ht3 : 3 ≤ t
      · have ht3' : (3 : Int) ≤ (t : Int) := by omega
        cases hn : narB L H (Q bits) 4
        · have hmK2 : m < Kw := by
            refine Nat.lt_of_not_le fun h => ?_
            have h5 := (unhide HV2).1 h
            rw [narB_small (by omega) (by omega)] at hn
            cases hn
          go_wp2_with fail
          refine (narrow_int _ u bits 4 L H hup (unhide HUB) hb (by omega)).mono ?_
          rintro r w5 ⟨rfl, hb5⟩
          rw [show narB L H (Q bits) ((4 : Nat) : Int) = false from hn]
          replace R := R.below hb5
          replace hB := bthen hB hb5
          go_wp2_with fail
          go_roundw
          case rel => exact ⟨m + l.toNat + 32, t + 1, by congr 1; omega, by congr 1, ⟨by omega, by omega, by omega, Or.inr (by have := (unhide HL2).1; omega)⟩, R, hB⟩
          case measure => simp [intOf]; omega
        · go_wp2_with fail
          refine (narrow_int _ u bits 4 L H hup (unhide HUB) hb (by omega)).mono ?_
          rintro r w5 ⟨rfl, hb5⟩
          rw [show narB L H (Q bits) ((4 : Nat) : Int) = true from hn]
          replace R := R.below hb5
          replace hB := bthen hB hb5
          replace hup := hup.below hb5
          obtain ⟨y0, y1, y2, y3, y4⟩ := (unhide HU).below hb5
          obtain ⟨q0, q1, q2, q3, q4, q5⟩ := R
          have lU2 := Nat.lt_of_lt_of_le lU hb5.size
          have lR3 := Nat.lt_of_lt_of_le lR2 hb5.size
          clear hb5 x0 x1 x2 x3 x4
          go_wp2_with fail
          refine bodyPost_ret (v := .agg #[.bool u.ln, .slice u.la u.lN u.lc, .bool u.hn, .slice u.ha u.hN u.hc, .int .i64 u.bits]) (by simp [results, Try.results109, go_sem, q0, q1, q2, q3, q4]) rfl ⟨L, H, ⟨m, lo, hi, unhide HPr, hm, unhide HL, unhide HH, Or.inr hn⟩, u, rfl, unhide HUB, ?_, ?_⟩
          · exact SpAt.put5 hup q0 q1 q2 q3 q4 _ _ _ _ _
          · exact set5 hB (Nat.le_refl _) _ _ _ _ _
      · have ht3' : ¬ (3 : Int) ≤ (t : Int) := by omega
        go_wp2_with fail
        go_roundw
        case rel => exact ⟨m + l.toNat + 32, t + 1, by congr 1; omega, by congr 1, ⟨by omega, by omega, by omega, by
          have g1 := (unhide HL2).1
          have g2 := (unhide HL2).2
          have g3 := unhide HI
          rcases Nat.le_total m Kw with h | h
          · have := g1 h; exact Or.inr (by omega)
          · have := g2 h; exact Or.inl ⟨by omega, by omega⟩⟩, R, hB⟩
        case measure => simp [intOf]; omega
end Go.Proofs.Ytgmnknmjainabaa

namespace Go.Proofs.Ytgmnknmjainabaa
set_option linter.unusedVariables false
set_option linter.unusedSimpArgs false
set_option linter.unnecessarySimpa false
open Go.RowKit
attribute [local go_sem ↓] Go.wp_at_zero Go.wp_at_succ

theorem within_t {p q n : Int} (h1 : -(n * q) ≤ p) (h2 : p ≤ n * q) : withinB p q n = true := by simp [withinB, h1, h2]
theorem within_f {p q n : Int} (h : ¬ (-(n * q) ≤ p ∧ p ≤ n * q)) : withinB p q n = false := by
  unfold withinB
  by_cases h1 : -(n * q) ≤ p
  · have : ¬ p ≤ n * q := fun h2 => h ⟨h1, h2⟩
    simp [this]
  · simp [h1]
theorem of_reach {p q : Int} {n b e : Nat} (hq : 0 < q) (h1 : -((n : Int) * q) ≤ p) (h2 : p ≤ (n : Int) * q) (he : (n : Int) < Q e) : reachI (ofI p q b) < Q (b + e) := by
  have qb := Q_pos b
  have g1 := Int.mul_le_mul_of_nonneg_right h1 (show 0 ≤ Q b by omega)
  have g2 := Int.mul_le_mul_of_nonneg_right h2 (show 0 ≤ Q b by omega)
  have e1 : (n : Int) * q * Q b = (n : Int) * Q b * q := by grind
  have e2 : -((n : Int) * q) * Q b = -((n : Int) * Q b * q) := by grind
  have := abs_reach (ofI_abs (n := p) (m := (n : Int) * Q b) hq b (by omega) (by omega))
  have h3 := Int.mul_lt_mul_of_pos_right he (show 0 < Q b by omega)
  rw [Q_add, Int.mul_comm (Q b)]
  omega

set_option maxRecDepth 100000 in
set_option maxHeartbeats 2000000 in
theorem powerExp_ok (p q : Int) (b : Nat) (w : World) (hr : rok p q) (h5 : 8 ≤ b) (h6 : b ≤ 120) (n e : Nat) (h7 : -((n : Int) * q) ≤ p) (h8 : p ≤ (n : Int) * q) (hn : n ≤ 500) (hne : (n : Int) < Q e) (he : e ≤ 9) :
    Calls Try.prog 54 #[.agg #[.int .i64 p, .int .i64 q], .int .i64 b] w (fun r w' => ∃ L H, SureOf b (ExpPr (fun _ => (p : Rat) / (q : Rat)) 1700 (eb (e + 8))) L H ∧ PairAns w b 250 L H 0 r w') := by
  have d1 : ratE p q b = 0 := by unfold ratE; rw [if_pos]; exact ⟨hr, by omega, by omega⟩
  have hq : 0 < q := by have := hr.2.2.1; omega
  have hnq := Int.mul_le_mul_of_nonneg_right (show (n : Int) ≤ 500 by omega) (show 0 ≤ q by omega)
  have d2 := within_t (p := p) (q := q) (n := 500) (by omega) (by omega)
  have H7 := hide h7
  have H8 := hide h8
  clear h7 h8 hnq
  have HR := hide hr
  obtain ⟨r1, r2, r3, r4⟩ := hr
  go_enter Try.func54, Try.ntmps54
  go_wp2_with (go_at_call 70; refine (ratioFault1 _ _ _ (by simp) _ _ _ _).mono ?_; rintro r w1 ⟨rfl, hb1⟩; rw [d1]; obtain ⟨hsz1, hcell1, hfz1⟩ := near (w.heap.size + 1 + 1) (by simp) hb1)
  have A : RaC w1 w.heap.size p q := ⟨by simp [hcell1, go_sem], by simp [hcell1, go_sem]⟩
  have R : NoC w1 (w.heap.size + 1) := ⟨by simp [hcell1, go_sem], by simp [hcell1, go_sem], by simp [hcell1, go_sem], by simp [hcell1, go_sem], by simp [hcell1, go_sem], fun o => by simp [hfz1, go_sem]⟩
  have hBw : Below w.heap.size w w1 := bthen (bl2 _ _ _) hb1
  clear hcell1 hfz1 hb1
  have lA := A.lt
  have lR := R.lt
  obtain ⟨x0, x1⟩ := A
  refine (within_any p q 500 _ (by omega) (by omega) r3 r4).mono ?_
  rintro r' w2 ⟨rfl, hb2⟩
  rw [d2]
  have A : RaC w2 w.heap.size p q := RaC.below ⟨x0, x1⟩ hb2
  replace R := R.below hb2
  replace hBw := bthen hBw hb2
  have lA2 := A.lt
  have lR2 := R.lt
  clear x0 x1 hb2
  go_wp2_with fail
  refine (sure_pexp _ b 1700 500 (ExpPr (fun _ => (p : Rat) / (q : Rat)) 1700 (eb (e + 8))) _ h6 (by omega) (by omega) (exp_ends _ _ _ _ (by have := eb_mono (show e + 8 ≤ 17 by omega); rw [eb_17] at this; omega)) (fun m w' hm hm2 hbw => ?_)).mono ?_
  · have hle := ofI_le (n := p) hq (b + m)
    obtain ⟨l, t, N, e1, e2, e3, e4, e5⟩ := exp_set (B := b + m) (e := e) (by omega) hle (of_reach (n := n) hq (unhide H7) (unhide H8) hne)
    have eB : ((b : Int) + (m : Int)) = ((b + m : Nat) : Int) := by omega
    rw [eB]
    refine (pexp1_iv w' w.heap.size p q (b + m) t N 500 l (unhide HR) (A.below hbw) (by omega) (by omega) e1 e2 (by omega) e4 e5 ?_ (by omega) (by omega)).mono ?_
    · rw [← Q_P]
      have := eb_mono (show t ≤ 17 by omega)
      rw [eb_17] at this
      have h1 := Q_mono (show b + m + eb t + 1 ≤ 16 * 500 by omega)
      have h2 : Q (b + m + eb t + 1) = 2 * Q (b + m + eb t) := rfl
      have := Q_pos (b + m + eb t)
      omega
    · intro r' w'' h
      exact ⟨_, _, exp_pr h6 hm (by omega) hle (ofI_wide hq _) (Iv.of _ hq) e3 (by omega) e4 e5, h⟩
  rintro r' w3 ⟨L, H, hLH, u, rfl, hub, hup, hb3⟩
  obtain ⟨q0, q1, q2, q3, q4, q5⟩ := R.below hb3
  replace hBw := bthen hBw hb3
  have HU := hide hub
  have HLH := hide hLH
  clear hub hLH
  go_wp2_with fail
  refine bodyPost_ret (v := .tuple #[.agg #[.bool u.ln, .slice u.la u.lN u.lc, .bool u.hn, .slice u.ha u.hN u.hc, .int .i64 u.bits], .int .i64 0]) (by simp [results, Try.results54, go_sem, q0, q1, q2, q3, q4]) rfl ⟨L, H, unhide HLH, u, rfl, unhide HU, ?_, ?_⟩
  · exact SpAt.put5 hup q0 q1 q2 q3 q4 _ _ _ _ _
  · exact set5 hBw (Nat.le_succ _) _ _ _ _ _

end Go.Proofs.Ytgmnknmjainabaa

namespace Go.Proofs.Ytgmnknmjainabaa
set_option linter.unusedVariables false
set_option linter.unusedSimpArgs false
set_option linter.unnecessarySimpa false
open Go.RowKit
attribute [local go_sem ↓] Go.wp_at_zero Go.wp_at_succ

set_option maxRecDepth 100000 in
set_option maxHeartbeats 2000000 in
theorem refWhole (w : World) (n : Int) (b : Nat) (hb : b ≤ 100000) (h0 : -9223372036854775808 ≤ n) (h1 : n ≤ 9223372036854775807) :
    Calls Try.prog 118 #[.int .i64 n, .int .i64 b] w (SpanAns w b (b / 16 + 18) (n * Q b) (n * Q b)) := by
  have R := noc_new w 38
  go_enter Try.func118, Try.ntmps118
  go_wp2_with fail
  refine (numOf_int n _ h0 h1).mono ?_
  rintro r' w1 ⟨neg1, a1, n1, c1, rfl, hint1, hb1⟩
  replace R := R.below hb1
  have hB : Below w.heap.size w w1 := bthen (bl1 _ _) hb1
  clear hb1
  go_wp2_with fail
  refine (numOf_int 1 _ (by decide) (by decide)).mono ?_
  rintro r' w2 ⟨neg2, a2, n2, c2, rfl, hint2, hb2⟩
  replace R := R.below hb2
  replace hB := bthen hB hb2
  replace hint1 := hint1.below hb2
  clear hb2
  go_wp2_with fail
  refine (refRatio_core _ _ _ _ _ _ _ _ 4 4 b n 1 _ hint1 hint2 (by omega) (by omega) hb (by decide) (fun neg' a' n' cap' w' p1 p2 => floor_any _ _ _ _ _ _ _ _ _ 4 _ _ w' p1 p2 (by omega) (by decide))).mono ?_
  rintro r' w3 ⟨u, rfl, hub, hup, hb3⟩
  have e1 : n * Q b / 1 = n * Q b := Int.ediv_one _
  have e2 : -(-(n * Q b) / 1) = n * Q b := by rw [Int.ediv_one]; omega
  rw [e1, e2] at hup
  obtain ⟨q0, q1, q2, q3, q4, q5⟩ := R.below hb3
  replace hB := bthen hB hb3
  have HU := hide hub
  clear hub e1 e2
  go_wp2_with fail
  refine bodyPost_ret (v := .agg #[.bool u.ln, .slice u.la u.lN u.lc, .bool u.hn, .slice u.ha u.hN u.hc, .int .i64 u.bits]) (by simp [results, Try.results118, go_sem, q0, q1, q2, q3, q4]) rfl ⟨u, rfl, unhide HU, ?_, ?_⟩
  · exact SpAt.put5 (hup.mono (by omega)) q0 q1 q2 q3 q4 _ _ _ _ _
  · exact set5 hB (Nat.le_refl _) _ _ _ _ _

set_option maxRecDepth 100000 in
set_option maxHeartbeats 2000000 in
theorem refTail (w : World) (s : Sp) (k : Nat) (n lo hi : Int) (hs : SpAt w s k lo hi) (hk : k ≤ 300000000) (hk4 : 4 ≤ k) (h0 : -9223372036854775808 ≤ n) (h1 : n ≤ 9223372036854775807) :
    Calls Try.prog 151 #[.agg #[.bool s.ln, .slice s.la s.lN s.lc, .bool s.hn, .slice s.ha s.hN s.hc, .int .i64 s.bits], .int .i64 n] w (SpanAns w s.bits (k + 1) (lo - n) (hi + n)) := by
  obtain ⟨W, hW⟩ : ∃ W, W = (w.alloc (.cells #[.bool s.ln, .slice s.la s.lN s.lc, .bool s.hn, .slice s.ha s.hN s.hc, .int .i64 s.bits] 38)).alloc (.cells #[.bool false, .slice none 0 0, .bool false, .slice none 0 0, .int .i64 0] 38) := ⟨_, rfl⟩
  have hBW : Below w.heap.size w W := by rw [hW]; exact bl2 _ _ _
  have A : SpC W w.heap.size s := by rw [hW]; exact ⟨by simp [go_sem], by simp [go_sem], by simp [go_sem], by simp [go_sem], by simp [go_sem]⟩
  have R : NoC W (w.heap.size + 1) := by rw [hW]; exact ⟨by simp [go_sem], by simp [go_sem], by simp [go_sem], by simp [go_sem], by simp [go_sem], fun o => by simp [go_sem]⟩
  have HS := hide (hs.below hBW)
  have lR := R.lt
  have HK := hide (show ∀ w', Below W.heap.size W w' → (w'.cell? ⟨w.heap.size, 0, none⟩ = some (.bool s.ln) ∧ w'.cell? ⟨w.heap.size, 1, none⟩ = some (.slice s.la s.lN s.lc) ∧ w'.cell? ⟨w.heap.size, 2, none⟩ = some (.bool s.hn) ∧ w'.cell? ⟨w.heap.size, 3, none⟩ = some (.slice s.ha s.hN s.hc) ∧ w'.cell? ⟨w.heap.size, 4, none⟩ = some (.int .i64 s.bits)) from fun w' hB => ⟨(A.below hB).c0, (A.below hB).c1, (A.below hB).c2, (A.below hB).c3, (A.below hB).c4⟩)
  clear A hs
  go_enter Try.func151, Try.ntmps151
  go_wp2
  rw [← hW]
  clear hW
  have n01 : w.heap.size ≠ w.heap.size + 1 := by omega
  have n10 : w.heap.size + 1 ≠ w.heap.size := by omega
  obtain ⟨x0, x1, x2, x3, x4⟩ := unhide HK _ (Below.refl _ _)
  have hD0 : Below W.heap.size W W.drew := (Below.refl _ _).drew
  go_region_held3 (fun w' => w'.cell? ⟨w.heap.size, 0, none⟩ = some (.bool s.ln) ∧ w'.cell? ⟨w.heap.size, 1, none⟩ = some (.slice s.la s.lN s.lc) ∧ w'.cell? ⟨w.heap.size, 2, none⟩ = some (.bool s.hn) ∧ w'.cell? ⟨w.heap.size, 3, none⟩ = some (.slice s.ha s.hN s.hc) ∧ w'.cell? ⟨w.heap.size, 4, none⟩ = some (.int .i64 s.bits)) (first | exact unhide HK _ (by first | with_reducible exact hD0 | with_reducible exact hD4 | with_reducible exact hD3 | with_reducible exact hD2 | with_reducible exact hD1) | go_keep)
    (first
      | (go_at_call 49; have hq := hD3; refine (add_int _ _ _ _ _ _ _ _ k 4 hi n _ ((unhide HS).hi.below hD3) hint3 (by omega) (by omega)).mono ?_; rintro r' w4 ⟨neg4, a4, n4, c4, rfl, hint4, hb4⟩; have hD4 := bthen hD3 hb4; replace hint2 := (hint2.below hb3).below hb4; obtain ⟨q0, q1, q2, q3, q4, q5⟩ := R.below hD4; obtain ⟨y0, y1, y2, y3, y4⟩ := unhide HK _ hD4)
      | (go_at_call 62; have hq := hD2; refine (numOf_int n _ h0 h1).mono ?_; rintro r' w3 ⟨neg3, a3, n3, c3, rfl, hint3, hb3⟩; have hD3 := bthen hD2 hb3)
      | (go_at_call 50; have hq := hD1; refine (sub_int _ _ _ _ _ _ _ _ k 4 lo n _ ((unhide HS).lo.below hD1) hint1 (by omega) (by omega)).mono ?_; rintro r' w2 ⟨neg2, a2, n2, c2, rfl, hint2, hb2⟩; have hD2 := bthen hD1 hb2)
      | (go_at_call 62; refine (numOf_int n _ h0 h1).mono ?_; rintro r' w1 ⟨neg1, a1, n1, c1, rfl, hint1, hb1⟩; have hD1 := bthen hD0 hb1))
  all_goals
    go_wp2_with fail
    refine bodyPost_ret (v := .agg #[.bool neg2, .slice a2 n2 c2, .bool neg4, .slice a4 n4 c4, .int .i64 s.bits]) (by simp [results, Try.results151, go_sem, q0, q1, q2, q3, q4]) rfl ⟨⟨neg2, a2, n2, c2, neg4, a4, n4, c4, s.bits⟩, rfl, rfl, ?_, ?_⟩
    · exact SpAt.put5 ⟨hint2.mono (by omega), hint4.mono (by omega)⟩ q0 q1 q2 q3 q4 _ _ _ _ _
    · exact set5 (bthen hBW hD4) (Nat.le_succ _) _ _ _ _ _

/-- Within so much of 0? -/
def smallB (lo hi n : Int) : Bool := decide (hi ≤ n) && decide (-n ≤ lo)

theorem cmp3 (x y : Int) : (cmpInt x y = -1 ∧ x < y) ∨ (cmpInt x y = 0 ∧ x = y) ∨ (cmpInt x y = 1 ∧ y < x) := by
  unfold cmpInt; split
  · exact Or.inl ⟨rfl, by assumption⟩
  · split
    · exact Or.inr (Or.inr ⟨rfl, by assumption⟩)
    · exact Or.inr (Or.inl ⟨rfl, by omega⟩)

set_option maxRecDepth 100000 in
set_option maxHeartbeats 2000000 in
theorem refSmall_a (w : World) (s : Sp) (k : Nat) (n lo hi : Int) (hs : SpAt w s k lo hi) (h0 : -1000000000 ≤ n) (h1 : n ≤ 1000000000) (hc : cmpInt hi n = -1) (hh : hi ≤ n) :
    Calls Try.prog 150 #[.agg #[.bool s.ln, .slice s.la s.lN s.lc, .bool s.hn, .slice s.ha s.hN s.hc, .int .i64 s.bits], .int .i64 n] w fun r w' => r = .returned (.bool (smallB lo hi n)) ∧ Below w.heap.size w w' := by
  obtain ⟨W, hW⟩ : ∃ W, W = w.alloc (.cells #[.bool s.ln, .slice s.la s.lN s.lc, .bool s.hn, .slice s.ha s.hN s.hc, .int .i64 s.bits] 38) := ⟨_, rfl⟩
  have hBW : Below w.heap.size w W := by rw [hW]; exact bl1 _ _
  have A : SpC W w.heap.size s := by rw [hW]; exact spc_new w s _
  have HS := hide (hs.below hBW)
  have HK := hide (show ∀ w', Below W.heap.size W w' → (w'.cell? ⟨w.heap.size, 0, none⟩ = some (.bool s.ln) ∧ w'.cell? ⟨w.heap.size, 1, none⟩ = some (.slice s.la s.lN s.lc) ∧ w'.cell? ⟨w.heap.size, 2, none⟩ = some (.bool s.hn) ∧ w'.cell? ⟨w.heap.size, 3, none⟩ = some (.slice s.ha s.hN s.hc) ∧ w'.cell? ⟨w.heap.size, 4, none⟩ = some (.int .i64 s.bits)) from fun w' hB => ⟨(A.below hB).c0, (A.below hB).c1, (A.below hB).c2, (A.below hB).c3, (A.below hB).c4⟩)
  clear A hs
  have HE := hide (show decide (0 ≤ cmpInt lo (-n)) = smallB lo hi n by
    unfold smallB
    rw [Bool.eq_iff_iff, Bool.and_eq_true, decide_eq_true_iff, decide_eq_true_iff, decide_eq_true_iff]
    unfold cmpInt
    constructor
    · intro h; refine ⟨hh, ?_⟩; split at h <;> omega
    · intro h; rw [if_neg (by omega)]; split <;> omega)
  have HW := hide (show IntKind.i64.wrap (-n) = -n from i64_id _ (by omega) (by omega))
  have HC := hide hc
  clear hh hc
  go_enter Try.func150, Try.ntmps150
  go_wp2
  rw [← hW]
  clear hW
  obtain ⟨x0, x1, x2, x3, x4⟩ := unhide HK _ (Below.refl _ _)
  have hD0 : Below W.heap.size W W.drew := (Below.refl _ _).drew
  go_region_held3 (fun w' => w'.cell? ⟨w.heap.size, 0, none⟩ = some (.bool s.ln) ∧ w'.cell? ⟨w.heap.size, 1, none⟩ = some (.slice s.la s.lN s.lc) ∧ w'.cell? ⟨w.heap.size, 2, none⟩ = some (.bool s.hn) ∧ w'.cell? ⟨w.heap.size, 3, none⟩ = some (.slice s.ha s.hN s.hc) ∧ w'.cell? ⟨w.heap.size, 4, none⟩ = some (.int .i64 s.bits)) (first | exact unhide HK _ (by first | with_reducible exact hD0 | with_reducible exact hD4 | with_reducible exact hD3 | with_reducible exact hD2 | with_reducible exact hD1) | go_keep)
    (first
      | (go_at_call 33; have hq := hD3; refine (cmp_int _ _ _ _ _ _ _ _ _ _ lo (-n) _ ((unhide HS).lo.below hD3) hint3).mono ?_; rintro r' w4 ⟨rfl, hb4⟩; have hD4 := bthen hD3 hb4)
      | (go_at_call 62; have hq := hD2; rw [unhide HW]; refine (numOf_int (-n) _ (by omega) (by omega)).mono ?_; rintro r' w3 ⟨neg3, a3, n3, c3, rfl, hint3, hb3⟩; have hD3 := bthen hD2 hb3)
      | (go_at_call 33; have hq := hD1; refine (cmp_int _ _ _ _ _ _ _ _ _ _ hi n _ ((unhide HS).hi.below hD1) hint1).mono ?_; rintro r' w2 ⟨rfl, hb2⟩; rw [unhide HC]; have hD2 := bthen hD1 hb2)
      | (go_at_call 62; refine (numOf_int n _ (by omega) (by omega)).mono ?_; rintro r' w1 ⟨neg1, a1, n1, c1, rfl, hint1, hb1⟩; have hD1 := bthen hD0 hb1))
  all_goals
    go_wp2_with fail
    go_ret
    exact ⟨by rw [← unhide HE]; rfl, bthen hBW hD4⟩

set_option maxRecDepth 100000 in
set_option maxHeartbeats 2000000 in
theorem refSmall_b (w : World) (s : Sp) (k : Nat) (n lo hi : Int) (hs : SpAt w s k lo hi) (h0 : -1000000000 ≤ n) (h1 : n ≤ 1000000000) (hc : cmpInt hi n = 0) (hh : hi ≤ n) :
    Calls Try.prog 150 #[.agg #[.bool s.ln, .slice s.la s.lN s.lc, .bool s.hn, .slice s.ha s.hN s.hc, .int .i64 s.bits], .int .i64 n] w fun r w' => r = .returned (.bool (smallB lo hi n)) ∧ Below w.heap.size w w' := by
  obtain ⟨W, hW⟩ : ∃ W, W = w.alloc (.cells #[.bool s.ln, .slice s.la s.lN s.lc, .bool s.hn, .slice s.ha s.hN s.hc, .int .i64 s.bits] 38) := ⟨_, rfl⟩
  have hBW : Below w.heap.size w W := by rw [hW]; exact bl1 _ _
  have A : SpC W w.heap.size s := by rw [hW]; exact spc_new w s _
  have HS := hide (hs.below hBW)
  have HK := hide (show ∀ w', Below W.heap.size W w' → (w'.cell? ⟨w.heap.size, 0, none⟩ = some (.bool s.ln) ∧ w'.cell? ⟨w.heap.size, 1, none⟩ = some (.slice s.la s.lN s.lc) ∧ w'.cell? ⟨w.heap.size, 2, none⟩ = some (.bool s.hn) ∧ w'.cell? ⟨w.heap.size, 3, none⟩ = some (.slice s.ha s.hN s.hc) ∧ w'.cell? ⟨w.heap.size, 4, none⟩ = some (.int .i64 s.bits)) from fun w' hB => ⟨(A.below hB).c0, (A.below hB).c1, (A.below hB).c2, (A.below hB).c3, (A.below hB).c4⟩)
  clear A hs
  have HE := hide (show decide (0 ≤ cmpInt lo (-n)) = smallB lo hi n by
    unfold smallB
    rw [Bool.eq_iff_iff, Bool.and_eq_true, decide_eq_true_iff, decide_eq_true_iff, decide_eq_true_iff]
    unfold cmpInt
    constructor
    · intro h; refine ⟨hh, ?_⟩; split at h <;> omega
    · intro h; rw [if_neg (by omega)]; split <;> omega)
  have HW := hide (show IntKind.i64.wrap (-n) = -n from i64_id _ (by omega) (by omega))
  have HC := hide hc
  clear hh hc
  go_enter Try.func150, Try.ntmps150
  go_wp2
  rw [← hW]
  clear hW
  obtain ⟨x0, x1, x2, x3, x4⟩ := unhide HK _ (Below.refl _ _)
  have hD0 : Below W.heap.size W W.drew := (Below.refl _ _).drew
  go_region_held3 (fun w' => w'.cell? ⟨w.heap.size, 0, none⟩ = some (.bool s.ln) ∧ w'.cell? ⟨w.heap.size, 1, none⟩ = some (.slice s.la s.lN s.lc) ∧ w'.cell? ⟨w.heap.size, 2, none⟩ = some (.bool s.hn) ∧ w'.cell? ⟨w.heap.size, 3, none⟩ = some (.slice s.ha s.hN s.hc) ∧ w'.cell? ⟨w.heap.size, 4, none⟩ = some (.int .i64 s.bits)) (first | exact unhide HK _ (by first | with_reducible exact hD0 | with_reducible exact hD4 | with_reducible exact hD3 | with_reducible exact hD2 | with_reducible exact hD1) | go_keep)
    (first
      | (go_at_call 33; have hq := hD3; refine (cmp_int _ _ _ _ _ _ _ _ _ _ lo (-n) _ ((unhide HS).lo.below hD3) hint3).mono ?_; rintro r' w4 ⟨rfl, hb4⟩; have hD4 := bthen hD3 hb4)
      | (go_at_call 62; have hq := hD2; rw [unhide HW]; refine (numOf_int (-n) _ (by omega) (by omega)).mono ?_; rintro r' w3 ⟨neg3, a3, n3, c3, rfl, hint3, hb3⟩; have hD3 := bthen hD2 hb3)
      | (go_at_call 33; have hq := hD1; refine (cmp_int _ _ _ _ _ _ _ _ _ _ hi n _ ((unhide HS).hi.below hD1) hint1).mono ?_; rintro r' w2 ⟨rfl, hb2⟩; rw [unhide HC]; have hD2 := bthen hD1 hb2)
      | (go_at_call 62; refine (numOf_int n _ (by omega) (by omega)).mono ?_; rintro r' w1 ⟨neg1, a1, n1, c1, rfl, hint1, hb1⟩; have hD1 := bthen hD0 hb1))
  all_goals
    go_wp2_with fail
    go_ret
    exact ⟨by rw [← unhide HE]; rfl, bthen hBW hD4⟩

set_option maxRecDepth 100000 in
set_option maxHeartbeats 2000000 in
theorem refSmall_c (w : World) (s : Sp) (k : Nat) (n lo hi : Int) (hs : SpAt w s k lo hi) (h0 : -1000000000 ≤ n) (h1 : n ≤ 1000000000) (hc : cmpInt hi n = 1) (hh : ¬ hi ≤ n) :
    Calls Try.prog 150 #[.agg #[.bool s.ln, .slice s.la s.lN s.lc, .bool s.hn, .slice s.ha s.hN s.hc, .int .i64 s.bits], .int .i64 n] w fun r w' => r = .returned (.bool (smallB lo hi n)) ∧ Below w.heap.size w w' := by
  obtain ⟨W, hW⟩ : ∃ W, W = w.alloc (.cells #[.bool s.ln, .slice s.la s.lN s.lc, .bool s.hn, .slice s.ha s.hN s.hc, .int .i64 s.bits] 38) := ⟨_, rfl⟩
  have hBW : Below w.heap.size w W := by rw [hW]; exact bl1 _ _
  have A : SpC W w.heap.size s := by rw [hW]; exact spc_new w s _
  have HS := hide (hs.below hBW)
  have HK := hide (show ∀ w', Below W.heap.size W w' → (w'.cell? ⟨w.heap.size, 0, none⟩ = some (.bool s.ln) ∧ w'.cell? ⟨w.heap.size, 1, none⟩ = some (.slice s.la s.lN s.lc) ∧ w'.cell? ⟨w.heap.size, 2, none⟩ = some (.bool s.hn) ∧ w'.cell? ⟨w.heap.size, 3, none⟩ = some (.slice s.ha s.hN s.hc) ∧ w'.cell? ⟨w.heap.size, 4, none⟩ = some (.int .i64 s.bits)) from fun w' hB => ⟨(A.below hB).c0, (A.below hB).c1, (A.below hB).c2, (A.below hB).c3, (A.below hB).c4⟩)
  clear A hs
  have HE := hide (show smallB lo hi n = false by unfold smallB; rw [decide_eq_false hh]; rfl)
  have HC := hide hc
  clear hh hc
  go_enter Try.func150, Try.ntmps150
  go_wp2
  rw [← hW]
  clear hW
  obtain ⟨x0, x1, x2, x3, x4⟩ := unhide HK _ (Below.refl _ _)
  have hD0 : Below W.heap.size W W.drew := (Below.refl _ _).drew
  refine wp_region_held_drew (S := fun w' => w'.cell? ⟨w.heap.size, 0, none⟩ = some (.bool s.ln) ∧ w'.cell? ⟨w.heap.size, 1, none⟩ = some (.slice s.la s.lN s.lc) ∧ w'.cell? ⟨w.heap.size, 2, none⟩ = some (.bool s.hn) ∧ w'.cell? ⟨w.heap.size, 3, none⟩ = some (.slice s.ha s.hN s.hc) ∧ w'.cell? ⟨w.heap.size, 4, none⟩ = some (.int .i64 s.bits)) (by kernel_rfl) ⟨(unhide HK _ hD0).1, (unhide HK _ hD0).2.1, (unhide HK _ hD0).2.2.1, (unhide HK _ hD0).2.2.2.1, (unhide HK _ hD0).2.2.2.2⟩ (fun hHeld => ?_)
  refine wpAnyH_take (i := 0) (oi := { dst := some 5, op := Go.Op.fieldAddr 38 (Go.Operand.tmp 2) 1, type := 0, pos := "func.go:26", after := #[], guard := none }) (v := .pointer (some ⟨w.heap.size, 2, none⟩)) rfl (by kernel_rfl) (by kernel_rfl) (by kernel_rfl) (fun _ _ _ h => h) (Or.inl ⟨by rfl, fun w hSw => ?_⟩) hHeld ?_
  · obtain ⟨s0, s1, s2, s3, s4⟩ := hSw; go_simp
  try simp only [Act.put, List.setIfInBounds_toArray, List.set_cons_zero, List.set_cons_succ]
  refine wpAnyH_take (i := 1) (oi := { dst := some 6, op := Go.Op.load 24 (Go.Operand.tmp 5), type := 24, pos := "func.go:26", after := #[{ on := 0, ground := Go.Ground.data }], guard := none }) (v := .agg #[.bool s.hn, .slice s.ha s.hN s.hc]) rfl (by kernel_rfl) (by kernel_rfl) (by kernel_rfl) (fun _ _ _ h => h) (Or.inl ⟨by rfl, fun w hSw => ?_⟩) hHeld ?_
  · obtain ⟨s0, s1, s2, s3, s4⟩ := hSw; go_simp
  try simp only [Act.put, List.setIfInBounds_toArray, List.set_cons_zero, List.set_cons_succ]
  refine wpAnyH_take (i := 2) (oi := { dst := some 7, op := Go.Op.move (Go.Operand.tmp 1), type := 3, pos := "func.go:26", after := #[], guard := none }) (v := .int .i64 n) rfl (by kernel_rfl) (by kernel_rfl) (by kernel_rfl) (fun _ _ _ h => h) (Or.inl ⟨by rfl, fun w hSw => ?_⟩) hHeld ?_
  · obtain ⟨s0, s1, s2, s3, s4⟩ := hSw; go_simp
  try simp only [Act.put, List.setIfInBounds_toArray, List.set_cons_zero, List.set_cons_succ]
  refine wpAnyH_ready (rs := [3]) (by kernel_rfl) (by simp) ?_
  refine AllReadyH.cons (o := { dst := some 8, op := Go.Op.call { callee := Go.Callee.value (Go.Operand.func 62), args := #[Go.Operand.tmp 7], argTypes := #[3] }, type := 24, pos := "func.go:26", after := #[{ on := 2, ground := Go.Ground.data }], guard := none }) rfl (fun K hK => ?_) AllReadyH.nil
  go_simp
  refine (numOf_int n _ (by omega) (by omega)).mono ?_
  rintro r' w1 ⟨neg1, a1, n1, c1, rfl, hint1, hb1⟩
  have hD1 : Below W.heap.size W w1 := bthen hD0 hb1
  go_wp2_with fail
  refine hK.out _ _ ⟨(unhide HK _ hD1).1, (unhide HK _ hD1).2.1, (unhide HK _ hD1).2.2.1, (unhide HK _ hD1).2.2.2.1, (unhide HK _ hD1).2.2.2.2⟩ (fun hHeld => ?_)
  clear hK K
  try simp only [Act.put, List.setIfInBounds_toArray, List.set_cons_zero, List.set_cons_succ]
  refine wpAnyH_ready (rs := [4]) (by kernel_rfl) (by simp) ?_
  refine AllReadyH.cons (o := { dst := some 9, op := Go.Op.call { callee := Go.Callee.value (Go.Operand.func 33), args := #[Go.Operand.tmp 6, Go.Operand.tmp 8], argTypes := #[24, 24] }, type := 3, pos := "func.go:26", after := #[{ on := 1, ground := Go.Ground.data }, { on := 3, ground := Go.Ground.data }, { on := 3, ground := Go.Ground.chain }], guard := none }) rfl (fun K hK => ?_) AllReadyH.nil
  go_simp
  refine (cmp_int _ _ _ _ _ _ _ _ _ _ hi n _ ((unhide HS).hi.below hD1) hint1).mono ?_
  rintro r' w2 ⟨rfl, hb2⟩
  rw [unhide HC]
  have hD2 := bthen hD1 hb2
  go_wp2_with fail
  refine hK.out _ _ ⟨(unhide HK _ hD2).1, (unhide HK _ hD2).2.1, (unhide HK _ hD2).2.2.1, (unhide HK _ hD2).2.2.2.1, (unhide HK _ hD2).2.2.2.2⟩ (fun hHeld => ?_)
  clear hK K
  try simp only [Act.put, List.setIfInBounds_toArray, List.set_cons_zero, List.set_cons_succ]
  refine wpAnyH_take (i := 5) (oi := { dst := some 10, op := Go.Op.binOp Go.BinOp.leq 3 (Go.Operand.tmp 9) (Go.Operand.const (Go.Value.int Go.IntKind.i64 0)) 3, type := 4, pos := "func.go:26", after := #[{ on := 4, ground := Go.Ground.data }], guard := none }) (v := .bool false) rfl (by kernel_rfl) (by kernel_rfl) (by kernel_rfl) (fun _ _ _ h => h) (Or.inl ⟨by rfl, fun w hSw => ?_⟩) hHeld ?_
  · obtain ⟨s0, s1, s2, s3, s4⟩ := hSw; go_simp
  try simp only [Act.put, List.setIfInBounds_toArray, List.set_cons_zero, List.set_cons_succ]
  refine wpAnyH_take (i := 6) (oi := { dst := some 11, op := Go.Op.move (Go.Operand.tmp 10), type := 4, pos := "func.go:26", after := #[{ on := 5, ground := Go.Ground.data }, { on := 4, ground := Go.Ground.chain }], guard := none }) (v := .bool false) rfl (by kernel_rfl) (by kernel_rfl) (by kernel_rfl) (fun _ _ _ h => h) (Or.inl ⟨by rfl, fun w hSw => ?_⟩) hHeld ?_
  · obtain ⟨s0, s1, s2, s3, s4⟩ := hSw; go_simp
  try simp only [Act.put, List.setIfInBounds_toArray, List.set_cons_zero, List.set_cons_succ]
  refine wpAnyH_take (i := 7) (oi := { dst := some 12, op := Go.Op.fieldAddr 38 (Go.Operand.tmp 2) 0, type := 0, pos := "func.go:26", after := #[{ on := 6, ground := Go.Ground.guard }], guard := some (6, true) }) (v := undef) rfl (by kernel_rfl) (by kernel_rfl) (by kernel_rfl) (fun _ _ _ h => h) (Or.inr ⟨by rfl, rfl⟩) hHeld ?_
  try simp only [Act.put, List.setIfInBounds_toArray, List.set_cons_zero, List.set_cons_succ]
  refine wpAnyH_take (i := 8) (oi := { dst := some 13, op := Go.Op.load 24 (Go.Operand.tmp 12), type := 24, pos := "func.go:26", after := #[{ on := 7, ground := Go.Ground.data }, { on := 6, ground := Go.Ground.guard }], guard := some (6, true) }) (v := undef) rfl (by kernel_rfl) (by kernel_rfl) (by kernel_rfl) (fun _ _ _ h => h) (Or.inr ⟨by rfl, rfl⟩) hHeld ?_
  try simp only [Act.put, List.setIfInBounds_toArray, List.set_cons_zero, List.set_cons_succ]
  refine wpAnyH_take (i := 9) (oi := { dst := some 14, op := Go.Op.move (Go.Operand.tmp 1), type := 3, pos := "func.go:26", after := #[{ on := 6, ground := Go.Ground.guard }], guard := some (6, true) }) (v := undef) rfl (by kernel_rfl) (by kernel_rfl) (by kernel_rfl) (fun _ _ _ h => h) (Or.inr ⟨by rfl, rfl⟩) hHeld ?_
  try simp only [Act.put, List.setIfInBounds_toArray, List.set_cons_zero, List.set_cons_succ]
  refine wpAnyH_take (i := 10) (oi := { dst := some 15, op := Go.Op.unOp Go.UnOp.neg 3 (Go.Operand.tmp 14), type := 3, pos := "func.go:26", after := #[{ on := 9, ground := Go.Ground.data }, { on := 6, ground := Go.Ground.guard }], guard := some (6, true) }) (v := undef) rfl (by kernel_rfl) (by kernel_rfl) (by kernel_rfl) (fun _ _ _ h => h) (Or.inr ⟨by rfl, rfl⟩) hHeld ?_
  try simp only [Act.put, List.setIfInBounds_toArray, List.set_cons_zero, List.set_cons_succ]
  refine wpAnyH_take (i := 11) (oi := { dst := some 16, op := Go.Op.call { callee := Go.Callee.value (Go.Operand.func 62), args := #[Go.Operand.tmp 15], argTypes := #[3] }, type := 24, pos := "func.go:26", after := #[{ on := 10, ground := Go.Ground.data }, { on := 6, ground := Go.Ground.chain }, { on := 6, ground := Go.Ground.guard }], guard := some (6, true) }) (v := undef) rfl (by kernel_rfl) (by kernel_rfl) (by kernel_rfl) (fun _ _ _ h => h) (Or.inr ⟨by rfl, rfl⟩) hHeld ?_
  try simp only [Act.put, List.setIfInBounds_toArray, List.set_cons_zero, List.set_cons_succ]
  refine wpAnyH_take (i := 12) (oi := { dst := some 17, op := Go.Op.call { callee := Go.Callee.value (Go.Operand.func 33), args := #[Go.Operand.tmp 13, Go.Operand.tmp 16], argTypes := #[24, 24] }, type := 3, pos := "func.go:26", after := #[{ on := 8, ground := Go.Ground.data }, { on := 11, ground := Go.Ground.data }, { on := 11, ground := Go.Ground.chain }, { on := 6, ground := Go.Ground.guard }], guard := some (6, true) }) (v := undef) rfl (by kernel_rfl) (by kernel_rfl) (by kernel_rfl) (fun _ _ _ h => h) (Or.inr ⟨by rfl, rfl⟩) hHeld ?_
  try simp only [Act.put, List.setIfInBounds_toArray, List.set_cons_zero, List.set_cons_succ]
  refine wpAnyH_take (i := 13) (oi := { dst := some 18, op := Go.Op.binOp Go.BinOp.geq 3 (Go.Operand.tmp 17) (Go.Operand.const (Go.Value.int Go.IntKind.i64 0)) 3, type := 4, pos := "func.go:26", after := #[{ on := 12, ground := Go.Ground.data }, { on := 6, ground := Go.Ground.guard }], guard := some (6, true) }) (v := undef) rfl (by kernel_rfl) (by kernel_rfl) (by kernel_rfl) (fun _ _ _ h => h) (Or.inr ⟨by rfl, rfl⟩) hHeld ?_
  try simp only [Act.put, List.setIfInBounds_toArray, List.set_cons_zero, List.set_cons_succ]
  refine wpAnyH_take (i := 14) (oi := { dst := some 19, op := Go.Op.pick (Go.Operand.tmp 11) (Go.Operand.tmp 18) (Go.Operand.const (Go.Value.bool false)), type := 4, pos := "func.go:26", after := #[{ on := 6, ground := Go.Ground.data }, { on := 13, ground := Go.Ground.data }], guard := none }) (v := .bool false) rfl (by kernel_rfl) (by kernel_rfl) (by kernel_rfl) (fun _ _ _ h => h) (Or.inl ⟨by rfl, fun w hSw => ?_⟩) hHeld ?_
  · obtain ⟨s0, s1, s2, s3, s4⟩ := hSw; go_simp
  try simp only [Act.put, List.setIfInBounds_toArray, List.set_cons_zero, List.set_cons_succ]
  refine wpAnyH_take (i := 15) (oi := { dst := some 4, op := Go.Op.assign (Go.Operand.tmp 19), type := 4, pos := "func.go:26", after := #[{ on := 14, ground := Go.Ground.data }, { on := 12, ground := Go.Ground.chain }, { on := 0, ground := Go.Ground.phase }, { on := 1, ground := Go.Ground.phase }, { on := 2, ground := Go.Ground.phase }, { on := 3, ground := Go.Ground.phase }, { on := 4, ground := Go.Ground.phase }, { on := 5, ground := Go.Ground.phase }, { on := 6, ground := Go.Ground.phase }, { on := 7, ground := Go.Ground.phase }, { on := 8, ground := Go.Ground.phase }, { on := 9, ground := Go.Ground.phase }, { on := 10, ground := Go.Ground.phase }, { on := 11, ground := Go.Ground.phase }, { on := 12, ground := Go.Ground.phase }, { on := 13, ground := Go.Ground.phase }, { on := 14, ground := Go.Ground.phase }], guard := none }) (v := .bool false) rfl (by kernel_rfl) (by kernel_rfl) (by kernel_rfl) (fun _ _ _ h => h) (Or.inl ⟨by rfl, fun w hSw => ?_⟩) hHeld ?_
  · obtain ⟨s0, s1, s2, s3, s4⟩ := hSw; go_simp
  try simp only [Act.put, List.setIfInBounds_toArray, List.set_cons_zero, List.set_cons_succ]
  refine wpAnyH_done (by kernel_rfl) ?_ _
  go_wp2_with fail
  go_ret
  exact ⟨by rw [unhide HE]; rfl, bthen hBW hD2⟩
theorem refSmall (w : World) (s : Sp) (k : Nat) (n lo hi : Int) (hs : SpAt w s k lo hi) (h0 : -1000000000 ≤ n) (h1 : n ≤ 1000000000) :
    Calls Try.prog 150 #[.agg #[.bool s.ln, .slice s.la s.lN s.lc, .bool s.hn, .slice s.ha s.hN s.hc, .int .i64 s.bits], .int .i64 n] w fun r w' => r = .returned (.bool (smallB lo hi n)) ∧ Below w.heap.size w w' := by
  rcases cmp3 hi n with ⟨h2, h3⟩ | ⟨h2, h3⟩ | ⟨h2, h3⟩
  · exact refSmall_a w s k n lo hi hs h0 h1 h2 (by omega)
  · exact refSmall_b w s k n lo hi hs h0 h1 h2 (by omega)
  · exact refSmall_c w s k n lo hi hs h0 h1 h2 (by omega)
end Go.Proofs.Ytgmnknmjainabaa
