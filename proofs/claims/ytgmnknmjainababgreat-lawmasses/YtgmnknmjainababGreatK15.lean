/-
  What tailsureref.lowExp answers, and that it leaves old memory alone.
  What tailsureref.Raised answers, and that it leaves old memory alone.
  What tailsureref.Exp answers of a number from 0 on, and that it leaves old memory alone.
  What tailsureref.Exp answers of whatever number, and tailsureref.ExpOf of a span; that they leave old memory alone.
-/
import Derived.Test.YtgmnknmjainababGreatK14
namespace Go.Proofs.YtgmnknmjainababGreat
set_option linter.unusedVariables false
set_option linter.unusedSimpArgs false
set_option linter.unnecessarySimpa false
open Go.RowKit
attribute [local go_sem ↓] Go.wp_at_zero Go.wp_at_succ

theorem refTimes_iv (w : World) (s t : Sp) (k b : Nat) (a c : Int × Int) (hs : SpAt w s k a.1 a.2) (ht : SpAt w t k c.1 c.2) (hk : k ≤ 300000000) (hb : s.bits = (b : Int)) (hbm : b ≤ 1000000) :
    Calls Tryz.prog 52 #[.agg #[.bool s.ln, .slice s.la s.lN s.lc, .bool s.hn, .slice s.ha s.hN s.hc, .int .i64 s.bits], .agg #[.bool t.ln, .slice t.la t.lN t.lc, .bool t.hn, .slice t.ha t.hN t.hc, .int .i64 t.bits]] w (SpanAns w b (k + k + 8) (mulI b a c).1 (mulI b a c).2) :=
  (refTimes_int w s t k a.1 a.2 c.1 c.2 hs ht hk (by omega) (by omega)).mono fun r w' h => by
    rw [hb, downZ_nat, downZ_nat] at h; exact h
theorem refPlus_iv (w : World) (s t : Sp) (k b : Nat) (a c : Int × Int) (hs : SpAt w s k a.1 a.2) (ht : SpAt w t k c.1 c.2) (hk : k ≤ 700000000) (hb : s.bits = (b : Int)) :
    Calls Tryz.prog 57 #[.agg #[.bool s.ln, .slice s.la s.lN s.lc, .bool s.hn, .slice s.ha s.hN s.hc, .int .i64 s.bits], .agg #[.bool t.ln, .slice t.la t.lN t.lc, .bool t.hn, .slice t.ha t.hN t.hc, .int .i64 t.bits]] w (SpanAns w b (k + 1) (addI a c).1 (addI a c).2) :=
  (refPlus_int w s t k a.1 a.2 c.1 c.2 hs ht hk).mono fun r w' h => by rw [hb] at h; exact h
theorem small_reach {lo hi : Int} : smallB lo hi 1 = decide (reachI (lo, hi) ≤ 1) := by
  unfold smallB reachI maxZ
  rw [Bool.eq_iff_iff, Bool.and_eq_true, decide_eq_true_iff, decide_eq_true_iff, decide_eq_true_iff]
  simp only []
  split <;> omega
/-- Where tailsureref.lowExp is behind some rounds. -/
structure LowSt (w wr : World) (B5 B6 B7 b K : Nat) (U Pp Sm : Sp) (f : Nat → Int × Int) (X : Int) (i : Nat) : Prop where
  u : VrC wr B5 U
  p : VrC wr B6 Pp
  s : VrC wr B7 Sm
  up : SpAt wr U K (f i).1 (f i).2
  pp : SpAt wr Pp K X X
  sp : SpAt wr Sm K (sumI f i).1 (sumI f i).2
  ub : U.bits = (b : Int)
  pb : Pp.bits = (b : Int)
  sb : Sm.bits = (b : Int)
  no : NoC wr (w.heap.size + 1)
  be : Below w.heap.size w wr
  l5 : w.heap.size + 1 < B5
  l6 : w.heap.size + 1 < B6
  l7 : w.heap.size + 1 < B7
  n56 : B5 ≠ B6
  n57 : B5 ≠ B7
  n67 : B6 ≠ B7
theorem LowSt.below {w wr wr' : World} {B5 B6 B7 b K : Nat} {U Pp Sm : Sp} {f : Nat → Int × Int} {X : Int} {i : Nat} (h : LowSt w wr B5 B6 B7 b K U Pp Sm f X i) (hb : Below wr.heap.size wr wr') : LowSt w wr' B5 B6 B7 b K U Pp Sm f X i :=
  ⟨h.u.below hb, h.p.below hb, h.s.below hb, h.up.below hb, h.pp.below hb, h.sp.below hb, h.ub, h.pb, h.sb, h.no.below hb, bthen h.be hb, h.l5, h.l6, h.l7, h.n56, h.n57, h.n67⟩

set_option maxRecDepth 100000 in
set_option maxHeartbeats 4000000 in
theorem lowExp_iv (w : World) (x : Nm) (k b N K : Nat) (X : Int) (hx : IntAt w x.neg x.a x.n x.cap k X) (hkK : k ≤ K) (h0 : 0 ≤ X) (h1 : X ≤ Q b) (hb : b ≤ 100000) (hN : LowStop (expT b (X, X)) N) (hNb : N ≤ b + 4) (hK : Q (b + 20) < P K) (hK2 : K ≤ 10000000) (hK3 : b / 16 + 18 ≤ K) :
    Calls Tryz.prog 188 #[.agg #[.bool x.neg, .slice x.a x.n x.cap], .int .i64 b] w (SpanAns w b (K + 1) (doneT (expT b (X, X)) N).1 (doneT (expT b (X, X)) N).2) := by
  obtain ⟨W, hW⟩ : ∃ W, W = (w.alloc (.cells #[.bool x.neg, .slice x.a x.n x.cap] 26)).alloc (.cells #[.bool false, .slice none 0 0, .bool false, .slice none 0 0, .int .i64 0] 36) := ⟨_, rfl⟩
  have hBW : Below w.heap.size w W := by rw [hW]; exact bl2 _ _ _
  have A : NmC W w.heap.size x := by rw [hW]; exact ⟨by simp [go_sem], by simp [go_sem]⟩
  have R : NoC W (w.heap.size + 1) := by rw [hW]; exact ⟨by simp [go_sem], by simp [go_sem], by simp [go_sem], by simp [go_sem], by simp [go_sem], fun o => by simp [go_sem]⟩
  have HX := hide ((hx.below hBW).mono hkK)
  have lR := R.lt
  have hQb := Q_pos b
  have hQK : Q b * 1048576 < P K := by
    have e : Q (b + 20) = Q b * Q 20 := Q_add b 20
    have e2 : Q 20 = 1048576 := rfl
    rw [e, e2] at hK; exact hK
  have HFIT : Hid (∀ j, j ≤ N → -P K < (expT b (X, X) j).1 ∧ (expT b (X, X) j).2 < P K) := hide (fun j _ => by
    obtain ⟨g1, g2, g3, g4⟩ := low_absB h0 h1 j
    omega)
  have HFITS : Hid (∀ j, j ≤ N → -P K < (sumI (expT b (X, X)) j).1 ∧ (sumI (expT b (X, X)) j).2 < P K) := hide (fun j hj => by
    obtain ⟨g1, g2, g3, g4⟩ := low_sumabs h0 h1 j
    have := Int.mul_le_mul_of_nonneg_right (show (j : Int) + 1 ≤ 1048575 by omega) (show 0 ≤ Q b by omega)
    omega)
  have HN := hide hN
  have HK := hide (show ∀ w', Below W.heap.size W w' → (w'.cell? ⟨w.heap.size, 0, none⟩ = some (.bool x.neg) ∧ w'.cell? ⟨w.heap.size, 1, none⟩ = some (.slice x.a x.n x.cap)) from fun w' hB => ⟨(A.below hB).c0, (A.below hB).c1⟩)
  clear hx hN hQK
  go_enter Tryz.func188, Tryz.ntmps188
  go_wp2
  rw [← hW]
  clear hW
  obtain ⟨x0, x1⟩ := unhide HK _ (Below.refl _ _)
  go_cut [5, 6] (fun p q wx => TwoP W wx b K K (expT b (X, X) 0) (X, X) p q)
  case first =>
    go_region_held3 (fun w' => w'.cell? ⟨w.heap.size, 0, none⟩ = some (.bool x.neg) ∧ w'.cell? ⟨w.heap.size, 1, none⟩ = some (.slice x.a x.n x.cap)) (exact unhide HK _ (by repeat' (first | with_reducible exact hBU1 | with_reducible exact Below.refl _ _ | with_reducible refine Below.drew ?_ | with_reducible refine balloc ?_ _ | with_reducible refine Below.setCell ?_ (by first | with_reducible exact Nat.le_refl _ | with_reducible exact Nat.le_succ _ | with_reducible exact hlU1 | with_reducible exact Nat.le_succ_of_le hlU1) _)))
      (first
        | (go_at_call 27; refine (refWhole _ 1 b hb (by decide) (by decide)).mono ?_; rintro r wU1 ⟨vU1, rfl, hvbU1, hintU1, hbU1⟩; have HVBU1 := hide hvbU1; clear hvbU1; have hBU1 : Below W.heap.size W wU1 := (by first | with_reducible exact bthen (Below.refl _ _).drew hbU1 | with_reducible exact bthen (bl1 _ _).drew hbU1 | with_reducible exact bthen (bl2 _ _ _).drew hbU1); (first | with_reducible have gaU1 := ((noc_new W 36).below (Below.refl _ _).drew).below hbU1 | with_reducible have gaU1 := ((noc_new W 36).below (bl1 _ _).drew).below hbU1 | skip); (try with_reducible have gbU1 := ((noc_new' (W.alloc _) (W.heap.size + 1) (hs1 _ _) 36).below (Below.refl _ _).drew).below hbU1); have hlU1 := hBU1.size; (try have eaU1 := gaU1); (try obtain ⟨zaU10, zaU11, zaU12, zaU13, zaU14, zaU15⟩ := eaU1); (try have yaU1 := gaU1.lt); (try have ebU1 := gbU1); (try obtain ⟨zbU10, zbU11, zbU12, zbU13, zbU14, zbU15⟩ := ebU1); (try have ybU1 := gbU1.lt)))
    all_goals
      have hiXU := (show SpAt wU1 vU1 K (expT b (X, X) 0).1 (expT b (X, X) 0).2 by rw [show (expT b (X, X) 0).1 = 1 * Q b from (Int.one_mul _).symm, show (expT b (X, X) 0).2 = 1 * Q b from (Int.one_mul _).symm]; exact hintU1.mono hK3)
      have hiYU := (show SpAt wU1 ⟨x.neg, x.a, x.n, x.cap, x.neg, x.a, x.n, x.cap, (b : Int)⟩ K X X from ⟨(unhide HX).below hBU1, (unhide HX).below hBU1⟩)
      go_wp2_with fail
      go_meet
      first
        | with_reducible exact twoP_aa (x := vU1) (y := ⟨x.neg, x.a, x.n, x.cap, x.neg, x.a, x.n, x.cap, (b : Int)⟩) hBU1 hiXU hiYU (unhide HVBU1) rfl
        | with_reducible exact twoP_aa' (x := vU1) (y := ⟨x.neg, x.a, x.n, x.cap, x.neg, x.a, x.n, x.cap, (b : Int)⟩) hBU1 hiXU hiYU (unhide HVBU1) rfl
        | with_reducible exact twoP_sa (x := vU1) (y := ⟨x.neg, x.a, x.n, x.cap, x.neg, x.a, x.n, x.cap, (b : Int)⟩) hBU1 hiXU hiYU (unhide HVBU1) rfl (by assumption) (by first | with_reducible exact Nat.le_refl _ | with_reducible exact Nat.le_succ _ | with_reducible exact hlU1 | with_reducible exact Nat.le_succ_of_le hlU1)
        | with_reducible exact twoP_as (x := vU1) (y := ⟨x.neg, x.a, x.n, x.cap, x.neg, x.a, x.n, x.cap, (b : Int)⟩) hBU1 hiXU hiYU (unhide HVBU1) rfl (by assumption) (by first | with_reducible exact Nat.le_refl _ | with_reducible exact Nat.le_succ _ | with_reducible exact hlU1 | with_reducible exact Nat.le_succ_of_le hlU1)
        | with_reducible exact twoP_ss (x := vU1) (y := ⟨x.neg, x.a, x.n, x.cap, x.neg, x.a, x.n, x.cap, (b : Int)⟩) hBU1 hiXU hiYU (unhide HVBU1) rfl (by assumption) (by assumption) (by first | with_reducible exact Nat.le_refl _ | with_reducible exact Nat.le_succ _ | with_reducible exact hlU1 | with_reducible exact Nat.le_succ_of_le hlU1) (by first | with_reducible exact Nat.le_refl _ | with_reducible exact Nat.le_succ _ | with_reducible exact hlU1 | with_reducible exact Nat.le_succ_of_le hlU1) (by omega)
  case rest =>
  obtain ⟨BU, CU, xU, yU, rfl, rfl, hHU, hJU, hneU, XU, YU, hxU, hyU, bxU, byU, hblU⟩ := hcut
  replace R := R.below hblU
  replace hBW := bthen hBW hblU
  have lx := XU.lt
  have ly := YU.lt
  have lR2 := R.lt
  obtain ⟨⟨y0, y1, y2, y3, y4⟩, y5⟩ := XU
  have XU : VrC wc BU xU := ⟨⟨y0, y1, y2, y3, y4⟩, y5⟩
  have st0 : LowSt w (wc.alloc (.cells #[.bool xU.ln, .slice xU.la xU.lN xU.lc, .bool xU.hn, .slice xU.ha xU.hN xU.hc, .int .i64 xU.bits] 36)) BU CU wc.heap.size b K xU yU xU (expT b (X, X)) X 0 := ⟨XU.below (bl1 _ _), YU.below (bl1 _ _), vr_new wc xU _, hxU.below (bl1 _ _), hyU.below (bl1 _ _), hxU.below (bl1 _ _), bxU, byU, bxU, R.below (bl1 _ _), balloc hBW _, by omega, by omega, by omega, hneU, by omega, by omega⟩
  have HBX := hide bxU
  clear bxU byU hxU hyU HX HK A x0 x1
  go_wp2_with fail
  go_loopw [8] (fun nn wr => ∃ (i : Nat) (U Pp Sm : Sp), nn = .int .i64 ((i : Int) + 1) ∧ i < N ∧ LowSt w wr BU CU wc.heap.size b K U Pp Sm (expT b (X, X)) X i) (fun nn _ => N + 1 - (intOf nn).toNat)
  case atStart => exact ⟨0, xU, yU, xU, rfl, by have := (unhide HN).1; omega, st0⟩
  case round =>
    obtain ⟨i, U, Pp, Sm, rfl, hi, st⟩ := hrel
    have hlim : (i : Int) + 1 < 3 * (b : Int) + 20 := by omega
    clear y0 y1 y2 y3 y4 y5 XU
    obtain ⟨⟨y0, y1, y2, y3, y4⟩, y5⟩ := st.u
    obtain ⟨⟨z0, z1, z2, z3, z4⟩, z5⟩ := st.p
    go_wp2_with fail
    refine (refTimes_iv _ U Pp K b (expT b (X, X) i) (X, X) st.up st.pp (by omega) st.ub (by omega)).mono ?_
    rintro r w1 ⟨v1, rfl, hvb1, hvp1, hb1⟩
    replace st := st.below hb1
    have HV1 := hide hvb1
    clear hb1 hvb1 y0 y1 y2 y3 y4 y5 z0 z1 z2 z3 z4 z5
    go_wp2_with fail
    refine (numOf_int 1 _ (by decide) (by decide)).mono ?_
    rintro r w2 ⟨neg2, a2, n2, c2, rfl, hint2, hb2⟩
    replace st := st.below hb2
    replace hvp1 := hvp1.below hb2
    clear hb2
    go_wp2_with fail
    refine (numOf_int ((i : Int) + 1) _ (by omega) (by omega)).mono ?_
    rintro r w3 ⟨neg3, a3, n3, c3, rfl, hint3, hb3⟩
    replace st := st.below hb3
    replace hvp1 := hvp1.below hb3
    replace hint2 := hint2.below hb3
    clear hb3
    go_wp2_with fail
    refine (refBy _ v1 ⟨neg2, a2, n2, c2⟩ ⟨neg3, a3, n3, c3⟩ _ _ _ b _ 1 ((i : Int) + 1) hvp1 hint2 hint3 (by omega) (by omega) (by omega) (by omega) (unhide HV1)).mono ?_
    rintro r w4 ⟨v4, rfl, hvb4, hvp4, hb4⟩
    rw [byI_nonneg (mulI_le b) (by omega)] at hvp4
    have e4 : scaleI (mulI b (expT b (X, X) i) (X, X)) 1 ((i : Int) + 1) = expT b (X, X) (i + 1) := rfl
    rw [e4] at hvp4
    replace hvp4 := hvp4.fits (K := K) (expT_le b (X, X) _) (unhide HFIT _ (by omega)).1 (unhide HFIT _ (by omega)).2
    replace st := st.below hb4
    have HV4 := hide hvb4
    clear hb4 hvb4 hvp1 hint2 hint3 e4
    obtain ⟨V4, hV4⟩ : ∃ V4, V4 = put5w w4 BU v4 := ⟨_, rfl⟩
    have U4 : VrC V4 BU v4 := by rw [hV4]; exact st.u.put v4
    have P4 : VrC V4 CU Pp := by rw [hV4]; exact st.p.off (Ne.symm st.n56) v4
    have S4 : VrC V4 wc.heap.size Sm := by rw [hV4]; exact st.s.off (Ne.symm st.n57) v4
    have up4 : SpAt V4 v4 K (expT b (X, X) (i + 1)).1 (expT b (X, X) (i + 1)).2 := by rw [hV4]; exact hvp4.put st.u.c v4
    have pp4 : SpAt V4 Pp K X X := by rw [hV4]; exact st.pp.put st.u.c v4
    have sp4 : SpAt V4 Sm K (sumI (expT b (X, X)) i).1 (sumI (expT b (X, X)) i).2 := by rw [hV4]; exact st.sp.put st.u.c v4
    have R4 : NoC V4 (w.heap.size + 1) := by rw [hV4]; exact st.no.off (by have := st.l5; omega) v4
    have B4 : Below w.heap.size w V4 := by rw [hV4]; exact below_put st.be (by have := st.l5; omega) v4
    have hpb := hide st.pb
    have hsb := hide st.sb
    have l5 := st.l5
    have l6 := st.l6
    have l7 := st.l7
    have n56 := st.n56
    have n57 := st.n57
    have n67 := st.n67
    have lu := st.u.lt
    have ls := st.s.lt
    obtain ⟨⟨y0, y1, y2, y3, y4⟩, y5⟩ := st.u
    obtain ⟨⟨z0, z1, z2, z3, z4⟩, z5⟩ := st.s
    clear st hvp4
    go_wp2_with fail
    have hV4' : V4 = put5w w4 BU v4 := hV4
    unfold put5w at hV4'
    rw [← hV4']
    clear hV4' hV4 y0 y1 y2 y3 y4 y5 z0 z1 z2 z3 z4 z5
    refine (refPlus_iv _ Sm v4 K b (sumI (expT b (X, X)) i) (expT b (X, X) (i + 1)) sp4 up4 (by omega) (unhide hsb)).mono ?_
    rintro r w5 ⟨v5, rfl, hvb5, hvp5, hb5⟩
    have e5 : addI (sumI (expT b (X, X)) i) (expT b (X, X) (i + 1)) = sumI (expT b (X, X)) (i + 1) := rfl
    rw [e5] at hvp5
    replace hvp5 := hvp5.fits (K := K) (sum_le (expT_le b (X, X)) _) (unhide HFITS _ (by omega)).1 (unhide HFITS _ (by omega)).2
    have U5 := U4.below hb5
    have P5 := P4.below hb5
    have S5 := S4.below hb5
    have up5 := up4.below hb5
    have pp5 := pp4.below hb5
    have R5 := R4.below hb5
    have B5 := bthen B4 hb5
    have HV5 := hide hvb5
    clear hb5 hvb5 U4 P4 S4 up4 pp4 sp4 R4 B4 e5
    have stn : LowSt w (put5w w5 wc.heap.size v5) BU CU wc.heap.size b K v4 Pp v5 (expT b (X, X)) X (i + 1) := ⟨U5.off n57 v5, P5.off n67 v5, S5.put v5, up5.put S5.c v5, pp5.put S5.c v5, hvp5.put S5.c v5, unhide HV4, unhide hpb, unhide HV5, R5.off (by omega) v5, below_put B5 (by omega) v5, l5, l6, l7, n56, n57, n67⟩
    have lu5 := U5.lt
    have ls5 := S5.lt
    obtain ⟨⟨y0, y1, y2, y3, y4⟩, y5⟩ := U5
    obtain ⟨⟨z0, z1, z2, z3, z4⟩, z5⟩ := S5
    clear P5 up5 pp5 R5 B5 hvp5
    obtain ⟨V5, hV5⟩ : ∃ V5, V5 = put5w w5 wc.heap.size v5 := ⟨_, rfl⟩
    rw [← hV5] at stn
    unfold put5w at hV5
    go_wp2_with fail
    rw [← hV5]
    clear hV5 y0 y1 y2 y3 y4 y5 z0 z1 z2 z3 z4 z5
    refine (refSmall _ v4 K 1 _ _ stn.up (by omega) (by omega)).mono ?_
    rintro r w6 ⟨rfl, hb6⟩
    rw [small_reach]
    replace stn := stn.below hb6
    clear hb6
    have er : reachI ((expT b (X, X) (i + 1)).1, (expT b (X, X) (i + 1)).2) = reachI (expT b (X, X) (i + 1)) := rfl
    rw [er]
    clear er
    by_cases hin : i + 1 < N
    · by_cases hr : reachI (expT b (X, X) (i + 1)) ≤ 1
      · have h3 : ¬ (2 : Int) < (i : Int) + 1 := by
          intro h3
          have := (unhide HN).2.2 (i + 1) (by omega) hin
          omega
        rw [decide_eq_true hr]
        clear hr
        go_wp2_with fail
        go_roundw
        case rel => exact ⟨i + 1, v4, Pp, v5, by go_num, hin, stn⟩
        case measure => simp [intOf]; omega
      · rw [decide_eq_false hr]
        clear hr
        go_wp2_with fail
        go_roundw
        case rel => exact ⟨i + 1, v4, Pp, v5, by go_num, hin, stn⟩
        case measure => simp [intOf]; omega
    · have hie : i + 1 = N := by omega
      have hr : reachI (expT b (X, X) (i + 1)) ≤ 1 := by rw [hie]; exact (unhide HN).2.1
      have h3 : (2 : Int) < (i : Int) + 1 := by have := (unhide HN).1; omega
      rw [decide_eq_true hr]
      have HIE := hide hie
      clear hr hie
      have ls6 := stn.s.lt
      obtain ⟨⟨z0, z1, z2, z3, z4⟩, z5⟩ := stn.s
      go_wp2_with fail
      refine (refTail _ v5 K 1 _ _ stn.sp (by omega) (by omega) (by omega) (by omega)).mono ?_
      rintro r w7 ⟨v7, rfl, hvb7, hvp7, hb7⟩
      obtain ⟨q0, q1, q2, q3, q4, q5⟩ := stn.no.below hb7
      have hBf := bthen stn.be hb7
      have HV7 := hide (hvb7.trans stn.sb)
      rw [unhide HIE] at hvp7
      clear hvb7 hb7
      go_wp2_with fail
      refine bodyPost_ret (v := .agg #[.bool v7.ln, .slice v7.la v7.lN v7.lc, .bool v7.hn, .slice v7.ha v7.hN v7.hc, .int .i64 v7.bits]) (by simp [results, Tryz.results188, go_sem, q0, q1, q2, q3, q4]) rfl ⟨v7, rfl, unhide HV7, ?_, ?_⟩
      · exact SpAt.put5 hvp7 q0 q1 q2 q3 q4 _ _ _ _ _
      · exact set5 hBf (Nat.le_succ _) _ _ _ _ _
end Go.Proofs.YtgmnknmjainababGreat

namespace Go.Proofs.YtgmnknmjainababGreat
set_option linter.unusedVariables false
set_option linter.unusedSimpArgs false
set_option linter.unnecessarySimpa false
open Go.RowKit
attribute [local go_sem ↓] Go.wp_at_zero Go.wp_at_succ

structure RaiSt2 (w wr : World) (B5 b K : Nat) (O S : Sp) (o s : Int × Int) : Prop where
  u : VrC wr B5 O
  v : VrC wr w.heap.size S
  up : SpAt wr O K o.1 o.2
  vp : SpAt wr S K s.1 s.2
  ub : O.bits = (b : Int)
  vb : S.bits = (b : Int)
  no : NoC wr (w.heap.size + 1)
  be : Below w.heap.size w wr
  l5 : w.heap.size + 1 < B5
theorem RaiSt2.below {w wr wr' : World} {B5 b K : Nat} {O S : Sp} {o s : Int × Int} (h : RaiSt2 w wr B5 b K O S o s) (hb : Below wr.heap.size wr wr') : RaiSt2 w wr' B5 b K O S o s :=
  ⟨h.u.below hb, h.v.below hb, h.up.below hb, h.vp.below hb, h.ub, h.vb, h.no.below hb, bthen h.be hb, h.l5⟩

set_option maxRecDepth 100000 in
set_option maxHeartbeats 4000000 in
theorem refRaised_iv (w : World) (s : Sp) (b K n : Nat) (a : Int × Int) (Inv : Nat → Int × Int → Int × Int → Prop) (hs : SpAt w s K a.1 a.2) (hbits : s.bits = (b : Int)) (hb : b ≤ 100000) (hn : n ≤ 1000000) (hK2 : K ≤ 10000000) (hK3 : b / 16 + 18 ≤ K)
    (hI0 : Inv n (Q b, Q b) a)
    (hI1 : ∀ m o c, 0 < m → Inv m o c → Inv (m / 2) (if m % 2 = 1 then mulI b o c else o) (mulI b c c) ∧ (-P K < (mulI b o c).1 ∧ (mulI b o c).2 < P K ∨ m % 2 ≠ 1) ∧ -P K < (mulI b c c).1 ∧ (mulI b c c).2 < P K) :
    Calls Tryz.prog 187 #[.agg #[.bool s.ln, .slice s.la s.lN s.lc, .bool s.hn, .slice s.ha s.hN s.hc, .int .i64 s.bits], .int .i64 n] w (fun r w' => ∃ o c, Inv 0 o c ∧ SpanAns w b K o.1 o.2 r w') := by
  obtain ⟨W, hW⟩ : ∃ W, W = (w.alloc (.cells #[.bool s.ln, .slice s.la s.lN s.lc, .bool s.hn, .slice s.ha s.hN s.hc, .int .i64 s.bits] 36)).alloc (.cells #[.bool false, .slice none 0 0, .bool false, .slice none 0 0, .int .i64 0] 36) := ⟨_, rfl⟩
  have hBW : Below w.heap.size w W := by rw [hW]; exact bl2 _ _ _
  have A : VrC W w.heap.size s := by rw [hW]; exact ⟨⟨by simp [go_sem], by simp [go_sem], by simp [go_sem], by simp [go_sem], by simp [go_sem]⟩, fun o => by simp [go_sem]⟩
  have R : NoC W (w.heap.size + 1) := by rw [hW]; exact ⟨by simp [go_sem], by simp [go_sem], by simp [go_sem], by simp [go_sem], by simp [go_sem], fun o => by simp [go_sem]⟩
  have HS := hide (hs.below hBW)
  have HI0 := hide hI0
  have HI1 := hide hI1
  have HB := hide hbits
  clear hs hI0 hI1 hbits
  go_enter Tryz.func187, Tryz.ntmps187
  go_wp2_with fail
  rw [← hW, unhide HB]
  clear hW
  refine (refWhole _ 1 b hb (by decide) (by decide)).mono ?_
  rintro r w1 ⟨v1, rfl, hvb1, hvp1, hb1⟩
  rw [Int.one_mul] at hvp1
  replace hvp1 := hvp1.mono hK3
  replace A := A.below hb1
  replace R := R.below hb1
  replace hBW := bthen hBW hb1
  replace HS := hide ((unhide HS).below hb1)
  have lR := R.lt
  have st0 : RaiSt2 w (w1.alloc (.cells #[.bool v1.ln, .slice v1.la v1.lN v1.lc, .bool v1.hn, .slice v1.ha v1.hN v1.hc, .int .i64 v1.bits] 36)) w1.heap.size b K v1 s (Q b, Q b) a := ⟨vr_new w1 v1 _, A.below (bl1 _ _), hvp1.below (bl1 _ _), (unhide HS).below (bl1 _ _), hvb1, unhide HB, R.below (bl1 _ _), balloc hBW _, by omega⟩
  have HV1 := hide hvb1
  clear hvb1 hvp1 A R hBW HS hb1
  go_wp2_with fail
  go_loopw [1] (fun mm wr => ∃ (m : Nat) (O S : Sp) (o c : Int × Int), mm = .int .i64 (m : Int) ∧ m ≤ n ∧ Inv m o c ∧ RaiSt2 w wr w1.heap.size b K O S o c) (fun mm _ => (intOf mm).toNat)
  case atStart => exact ⟨n, v1, s, (Q b, Q b), a, rfl, Nat.le_refl _, unhide HI0, st0⟩
  case round =>
    obtain ⟨m, O, S, o, c, rfl, hmn, hInv, st⟩ := hrel
    have HInv := hide hInv
    clear hInv
    by_cases hm : 0 < m
    · have hm' : (0 : Int) < (m : Int) := by omega
      have q1 : ((m : Int)).tdiv 2 = ((m / 2 : Nat) : Int) := by rw [Int.tdiv_eq_ediv_of_nonneg (by omega)]; omega
      have HQ := hide q1
      obtain ⟨k1, k2, k3⟩ := unhide HI1 m o c hm (unhide HInv)
      have HN := hide k1
      have HF := hide k2
      have HG := hide k3
      clear k1 k2 k3 q1
      have lv := st.v.lt
      have lu := st.u.lt
      by_cases hodd : m % 2 = 1
      · have q2 : ((m : Int)).tmod 2 = 1 := by rw [Int.tmod_eq_emod_of_nonneg (by omega)]; omega
        have q3 : (m : Int) % 2 = 1 := by omega
        have HO := hide hodd
        obtain ⟨⟨y0, y1, y2, y3, y4⟩, y5⟩ := st.u
        obtain ⟨⟨z0, z1, z2, z3, z4⟩, z5⟩ := st.v
        clear hodd
        go_wp2_with fail
        refine (refTimes_iv _ O S K b o c st.up st.vp (by omega) st.ub (by omega)).mono ?_
        rintro r w2 ⟨v2, rfl, hvb2, hvp2, hb2⟩
        have hf := (unhide HF).resolve_right (fun h => h (unhide HO))
        replace hvp2 := hvp2.fits (K := K) (mulI_le b) hf.1 hf.2
        replace st := st.below hb2
        have HV2 := hide hvb2
        clear hvb2 hb2 hf y0 y1 y2 y3 y4 y5 z0 z1 z2 z3 z4 z5
        have ne5 : w.heap.size ≠ w1.heap.size := by have := st.l5; omega
        have st2 : RaiSt2 w (put5w w2 w1.heap.size v2) w1.heap.size b K v2 S (mulI b o c) c := ⟨st.u.put v2, st.v.off ne5 v2, hvp2.put st.u.c v2, st.vp.put st.u.c v2, unhide HV2, st.vb, st.no.off (by have := st.l5; omega) v2, below_put st.be (by have := st.l5; omega) v2, st.l5⟩
        have lv2 := st.v.lt
        have lu2 := st.u.lt
        obtain ⟨⟨y0, y1, y2, y3, y4⟩, y5⟩ := st.u
        obtain ⟨⟨z0, z1, z2, z3, z4⟩, z5⟩ := st.v
        obtain ⟨V2, hV2⟩ : ∃ V2, V2 = put5w w2 w1.heap.size v2 := ⟨_, rfl⟩
        rw [← hV2] at st2
        unfold put5w at hV2
        clear st hvp2
        go_wp2_with fail
        rw [← hV2]
        clear hV2 y0 y1 y2 y3 y4 y5 z0 z1 z2 z3 z4 z5
        refine (refTimes_iv _ S S K b c c st2.vp st2.vp (by omega) st2.vb (by omega)).mono ?_
        rintro r w3 ⟨v3, rfl, hvb3, hvp3, hb3⟩
        replace hvp3 := hvp3.fits (K := K) (mulI_le b) (unhide HG).1 (unhide HG).2
        replace st2 := st2.below hb3
        have HV3 := hide hvb3
        clear hvb3 hb3
        have st3 : RaiSt2 w (put5w w3 w.heap.size v3) w1.heap.size b K v2 v3 (mulI b o c) (mulI b c c) := ⟨st2.u.off (Ne.symm ne5) v3, st2.v.put v3, st2.up.put st2.v.c v3, hvp3.put st2.v.c v3, st2.ub, unhide HV3, st2.no.off (by omega) v3, below_put st2.be (Nat.le_refl _) v3, st2.l5⟩
        unfold put5w at st3
        have lv3 := st2.v.lt
        obtain ⟨⟨z0, z1, z2, z3, z4⟩, z5⟩ := st2.v
        clear st2 hvp3
        go_wp2_with fail
        go_roundw
        case rel =>
          refine ⟨m / 2, v2, v3, mulI b o c, mulI b c c, ?_, by omega, ?_, st3⟩
          · first | exact congrArg _ (unhide HQ) | (congr 1; omega)
          · have := unhide HN
            rw [if_pos (unhide HO)] at this
            exact this
        case measure => have := unhide HQ; simp [intOf]; omega
      · have q2 : ((m : Int)).tmod 2 = 0 := by rw [Int.tmod_eq_emod_of_nonneg (by omega)]; omega
        have q3 : (m : Int) % 2 = 0 := by omega
        have HO := hide hodd
        obtain ⟨⟨z0, z1, z2, z3, z4⟩, z5⟩ := st.v
        clear hodd
        go_wp2_with fail
        refine (refTimes_iv _ S S K b c c st.vp st.vp (by omega) st.vb (by omega)).mono ?_
        rintro r w3 ⟨v3, rfl, hvb3, hvp3, hb3⟩
        replace hvp3 := hvp3.fits (K := K) (mulI_le b) (unhide HG).1 (unhide HG).2
        replace st := st.below hb3
        have HV3 := hide hvb3
        clear hvb3 hb3 z0 z1 z2 z3 z4 z5
        have ne5 : w.heap.size ≠ w1.heap.size := by have := st.l5; omega
        have st3 : RaiSt2 w (put5w w3 w.heap.size v3) w1.heap.size b K O v3 o (mulI b c c) := ⟨st.u.off (Ne.symm ne5) v3, st.v.put v3, st.up.put st.v.c v3, hvp3.put st.v.c v3, st.ub, unhide HV3, st.no.off (by omega) v3, below_put st.be (Nat.le_refl _) v3, st.l5⟩
        unfold put5w at st3
        have lv3 := st.v.lt
        obtain ⟨⟨z0, z1, z2, z3, z4⟩, z5⟩ := st.v
        clear st hvp3
        go_wp2_with fail
        go_roundw
        case rel =>
          refine ⟨m / 2, O, v3, o, mulI b c c, ?_, by omega, ?_, st3⟩
          · first | exact congrArg _ (unhide HQ) | (congr 1; omega)
          · have := unhide HN
            rw [if_neg (unhide HO)] at this
            exact this
        case measure => have := unhide HQ; simp [intOf]; omega
    · have hm0 : m = 0 := by omega
      subst hm0
      have lu := st.u.lt
      obtain ⟨⟨y0, y1, y2, y3, y4⟩, y5⟩ := st.u
      obtain ⟨q0, q1, q2, q3, q4, q5⟩ := st.no
      have hub := hide st.ub
      go_wp2_with fail
      refine bodyPost_ret (v := .agg #[.bool O.ln, .slice O.la O.lN O.lc, .bool O.hn, .slice O.ha O.hN O.hc, .int .i64 O.bits]) (by simp [results, Tryz.results187, go_sem, q0, q1, q2, q3, q4]) rfl ⟨o, c, unhide HInv, O, rfl, unhide hub, ?_, ?_⟩
      · exact SpAt.put5 st.up q0 q1 q2 q3 q4 _ _ _ _ _
      · exact set5 st.be (Nat.le_succ _) _ _ _ _ _
end Go.Proofs.YtgmnknmjainababGreat

namespace Go.Proofs.YtgmnknmjainababGreat
set_option linter.unusedVariables false
set_option linter.unusedSimpArgs false
set_option linter.unnecessarySimpa false
open Go.RowKit
attribute [local go_sem ↓] Go.wp_at_zero Go.wp_at_succ

theorem Tp_le {d : Nat → Int} (hd : Dgs d) (j n : Nat) (h : j ≤ n) : Tp d j n ≤ V d n := by
  have e := V_split d j (n - j)
  rw [show j + (n - j) = n by omega] at e
  have h1 := V_nonneg hd j
  have h2 := Tp_nonneg hd j n
  have h3 := P_pos j
  have h4 : Tp d j n ≤ P j * Tp d j n := by
    have := Int.mul_le_mul_of_nonneg_right h3 h2
    omega
  unfold Tp at *
  omega

set_option maxRecDepth 100000 in
set_option maxHeartbeats 4000000 in
theorem refExp_pos (w : World) (x : Nm) (k B K n : Nat) (X : Int) (hx : IntAt w x.neg x.a x.n x.cap k X) (h0 : 0 ≤ X) (hXn : X / Q B = (n : Int)) (hn : n ≤ 2000) (hB : 20 ≤ B) (hB2 : B ≤ 50000) (hK : Q (B + 40 + 4 * (2 * n + 1) + 20) < P K) (hK2 : K ≤ 1000000) (hkK : k ≤ K) (hK3 : (B + 40) / 16 + 30 ≤ K) :
    Calls Tryz.prog 156 #[.agg #[.bool x.neg, .slice x.a x.n x.cap], .int .i64 B] w (fun r w' => ∃ o : Int × Int, Iv B o (Ex.Ev (fun _ => (X : Rat) / (Q B : Rat))) ∧ o.1 ≤ o.2 ∧ Q B - 1 ≤ o.1 ∧ o.2 < P K ∧ SpanAns w B K o.1 o.2 r w') := by
  obtain ⟨W, hW⟩ : ∃ W, W = (w.alloc (.cells #[.bool x.neg, .slice x.a x.n x.cap] 26)).alloc (.cells #[.bool false, .slice none 0 0, .bool false, .slice none 0 0, .int .i64 0] 36) := ⟨_, rfl⟩
  have hBW : Below w.heap.size w W := by rw [hW]; exact bl2 _ _ _
  have A : NmC W w.heap.size x := by rw [hW]; exact ⟨by simp [go_sem], by simp [go_sem]⟩
  have R : NoC W (w.heap.size + 1) := by rw [hW]; exact ⟨by simp [go_sem], by simp [go_sem], by simp [go_sem], by simp [go_sem], by simp [go_sem], fun o => by simp [go_sem]⟩
  have HX := hide ((hx.below hBW).mono hkK)
  have lA := A.lt
  have lR := R.lt
  have hs0 : ¬ cmpInt X 0 < 0 := by unfold cmpInt; rw [if_neg (by omega)]; split <;> omega
  have HXN := hide hXn
  clear hx hXn
  go_enter Tryz.func156, Tryz.ntmps156
  go_wp2_with fail
  rw [← hW]
  clear hW
  refine (sign_int _ _ _ _ _ X _ (unhide HX)).mono ?_
  rintro r w1 ⟨rfl, hb1⟩
  replace A := A.below hb1
  replace R := R.below hb1
  replace hBW := bthen hBW hb1
  replace HX := hide ((unhide HX).below hb1)
  have lA1 := A.lt
  clear hb1
  have x0 := A.c0
  have x1 := A.c1
  go_wp2_with fail
  refine (down_int _ _ _ _ B K X _ (unhide HX) (by omega) (by omega)).mono ?_
  rintro r w2 ⟨neg2, a2, n2, c2, rfl, hint2, hb2⟩
  rw [unhide HXN] at hint2
  replace A := A.below hb2
  replace R := R.below hb2
  replace hBW := bthen hBW hb2
  replace HX := hide ((unhide HX).below hb2)
  have lR2 := R.lt
  clear hb2 x0 x1 hs0
  have HI2 := hide hint2
  obtain ⟨d, dg, dtop, dneg, dk, dz⟩ := hint2
  have hV : V d n2 = (n : Int) := by
    have hv := V_nonneg dg.dgs n2
    cases neg2
    · simp [sgn] at dz; omega
    · simp [sgn] at dz; omega
  obtain ⟨V2, hV2⟩ : ∃ V2, V2 = w2.alloc (.cells #[.bool neg2, .slice a2 n2 c2] 26) := ⟨_, rfl⟩
  have bV2 : Below w2.heap.size w2 V2 := by rw [hV2]; exact bl1 _ _
  have D2 : NmC V2 w2.heap.size ⟨neg2, a2, n2, c2⟩ := by rw [hV2]; exact nmc_new w2 ⟨neg2, a2, n2, c2⟩ _
  have dg2 := dg.below bV2
  have HDG := hide dg2
  replace A := A.below bV2
  replace R := R.below bV2
  replace hBW := bthen hBW bV2
  replace HX := hide ((unhide HX).below bV2)
  replace HI2 := hide ((unhide HI2).below bV2)
  have hdgs := hide dg.dgs
  have hroom := dg.room
  have HV := hide hV
  have lD := D2.lt
  have HD2 := hide D2
  have d0' := D2.c0
  have d1' := D2.c1
  clear dg dg2 dtop dneg dk dz hV bV2 D2
  go_wp2_with fail
  rw [← hV2]
  clear hV2
  go_loop [6, 7] (fun nn ii => ∃ j : Nat, nn = .int .i64 (Tp d j n2) ∧ ii = .int .i64 ((j : Int) - 1) ∧ j ≤ n2) (fun _ ii => (intOf ii + 1).toNat)
  case atStart => exact ⟨n2, by rw [Tp_top], rfl, Nat.le_refl _⟩
  case round =>
    obtain ⟨j, rfl, rfl, hj⟩ := hrel
    by_cases hj0 : 0 < j
    · obtain ⟨m, rfl⟩ : ∃ m, j = m + 1 := ⟨j - 1, by omega⟩
      have em : (((m + 1 : Nat) : Int) - 1) = (m : Int) := by omega
      rw [em]
      obtain ⟨bb, off, ha, hlt, hcell⟩ := (unhide HDG).at_ (by omega)
      have hc := hcell m (by omega)
      have hm2 : (m : Int) < (n2 : Int) := by omega
      have t1 := Tp_nonneg (unhide hdgs) (m + 1) n2
      have t2 := Tp_le (unhide hdgs) (m + 1) n2 (by omega)
      have t3 := unhide HV
      obtain ⟨g1, g2⟩ := unhide hdgs m
      have t4 := Tp_step d m n2 (by omega)
      have HT4 := hide t4
      have t5 : Tp d (m + 1) n2 ≤ 2000 := by omega
      subst ha
      clear hcell em t2 t3 t4
      go_wp2_with fail
      go_round
      case rel =>
        refine ⟨m, ?_, ?_, by omega⟩
        · rw [unhide HT4, Int.add_comm]
        · rfl
      case measure => simp [intOf]
    · have hj1 : j = 0 := by omega
      subst hj1
      rw [Tp_zero, unhide HV]
      have lA3 := A.lt
      have lR3 := R.lt
      clear d0' d1' hj hj0
      have hQK : Q (B + 40 + 20) < P K := Int.lt_of_le_of_lt (Q_mono (by omega)) hK
      have hq40 := Q_pos (B + 40)
      obtain ⟨N1, n11, n12⟩ := low_stop (b := B + 40) (X := Q (B + 40)) (by omega) (Int.le_refl _)
      have hE0 := einv_start (n := n) (by omega) n12
      have hbox := low_box (by omega) (by omega) (Int.le_refl _) n12
      have hfit1 : -P K < (doneT (expT (B + 40) (Q (B + 40), Q (B + 40))) N1).1 ∧ (doneT (expT (B + 40) (Q (B + 40), Q (B + 40))) N1).2 < P K := by
        have h2 := Q_mono (show B + 40 + 2 ≤ B + 40 + 20 by omega)
        have := hbox.1
        have := hbox.2.2.2
        omega
      have HST := hide n12
      have HE0 := hide hE0
      have HF1 := hide hfit1
      have HLE1 := hide (doneT_le (expT_le (B + 40) (Q (B + 40), Q (B + 40))) N1)
      clear n12 hE0 hbox hfit1
      go_wp2_with fail
      rw [show ((B : Int) + 40) = ((B + 40 : Nat) : Int) by omega]
      refine (power2_int (B + 40) _ (by omega)).mono ?_
      rintro r w3 ⟨neg3, a3, n3, c3, rfl, hint3, hb3⟩
      replace A := A.below hb3
      replace R := R.below hb3
      replace hBW := bthen hBW hb3
      replace HX := hide ((unhide HX).below hb3)
      replace HI2 := hide ((unhide HI2).below hb3)
      replace HD2 := hide ((unhide HD2).below hb3)
      clear hb3
      go_wp2_with fail
      refine (lowExp_iv _ ⟨neg3, a3, n3, c3⟩ _ (B + 40) N1 K (Q (B + 40)) hint3 (by omega) (by omega) (Int.le_refl _) (by omega) (unhide HST) n11 hQK (by omega) (by omega)).mono ?_
      rintro r w4 ⟨v4, rfl, hvb4, hvp4, hb4⟩
      replace hvp4 := hvp4.fits (K := K) (unhide HLE1) (unhide HF1).1 (unhide HF1).2
      replace A := A.below hb4
      replace R := R.below hb4
      replace hBW := bthen hBW hb4
      replace HX := hide ((unhide HX).below hb4)
      replace HI2 := hide ((unhide HI2).below hb4)
      replace HD2 := hide ((unhide HD2).below hb4)
      have HV4 := hide hvb4
      clear hb4 hvb4 hint3
      go_wp2_with fail
      refine (refRaised_iv _ v4 (B + 40) K n _ (EInv (B + 40) n) hvp4 (unhide HV4) (by omega) (by omega) (by omega) (by omega) (unhide HE0) (fun m o c hm hI => ?_)).mono ?_
      · obtain ⟨g1, g2, g3⟩ := einv_step (by omega) hn hm hI
        have h2 := Q_mono (show B + 40 + 4 * (2 * n + 1) ≤ B + 40 + 4 * (2 * n + 1) + 20 by omega)
        have h3 := Q_mono (show B + 40 + 2 * n ≤ B + 40 + 4 * (2 * n + 1) + 20 by omega)
        have := g2.1
        have := g2.2.2.2
        refine ⟨g1, ?_, by omega, by omega⟩
        by_cases hodd : m % 2 = 1
        · have g4 := g3 hodd
          have := g4.1
          have := g4.2.2.2
          exact Or.inl ⟨by omega, by omega⟩
        · exact Or.inr hodd
      rintro r we ⟨oe, ce, hEI, ve, rfl, hveb, hvep, hb5⟩
      obtain ⟨i1, i2, i3, i4⟩ := einv_end hEI
      have HI := hide (And.intro i1 (And.intro i2 (And.intro i3 i4)))
      have HVE := hide hveb
      replace A := A.below hb5
      replace R := R.below hb5
      replace hBW := bthen hBW hb5
      replace HX := hide ((unhide HX).below hb5)
      replace HI2 := hide ((unhide HI2).below hb5)
      replace HD2 := hide ((unhide HD2).below hb5)
      have lA5 := A.lt
      have lR5 := R.lt
      have lD5 := (unhide HD2).lt
      clear hb5 hveb hEI i1 i2 i3 i4 hvp4
      obtain ⟨Ve, hVe⟩ : ∃ Ve, Ve = we.alloc (.cells #[.bool ve.ln, .slice ve.la ve.lN ve.lc, .bool ve.hn, .slice ve.ha ve.hN ve.hc, .int .i64 ve.bits] 36) := ⟨_, rfl⟩
      have bVe : Below we.heap.size we Ve := by rw [hVe]; exact bl1 _ _
      have E5 : SpC Ve we.heap.size ve := by rw [hVe]; exact spc_new we ve _
      replace A := A.below bVe
      replace R := R.below bVe
      replace hBW := bthen hBW bVe
      replace HX := hide ((unhide HX).below bVe)
      replace HI2 := hide ((unhide HI2).below bVe)
      have D5 := (unhide HD2).below bVe
      have HVEP := hide (hvep.below bVe)
      clear bVe HD2 hvep
      have HK := hide (show ∀ w', Below Ve.heap.size Ve w' → (w'.cell? ⟨we.heap.size, 0, none⟩ = some (.bool ve.ln) ∧ w'.cell? ⟨we.heap.size, 1, none⟩ = some (.slice ve.la ve.lN ve.lc) ∧ w'.cell? ⟨we.heap.size, 2, none⟩ = some (.bool ve.hn) ∧ w'.cell? ⟨we.heap.size, 3, none⟩ = some (.slice ve.ha ve.hN ve.hc) ∧ w'.cell? ⟨we.heap.size, 4, none⟩ = some (.int .i64 ve.bits) ∧ w'.cell? ⟨w.heap.size, 0, none⟩ = some (.bool x.neg) ∧ w'.cell? ⟨w.heap.size, 1, none⟩ = some (.slice x.a x.n x.cap) ∧ w'.cell? ⟨w2.heap.size, 0, none⟩ = some (.bool neg2) ∧ w'.cell? ⟨w2.heap.size, 1, none⟩ = some (.slice a2 n2 c2)) from fun w' hB => ⟨(E5.below hB).c0, (E5.below hB).c1, (E5.below hB).c2, (E5.below hB).c3, (E5.below hB).c4, (A.below hB).c0, (A.below hB).c1, (D5.below hB).c0, (D5.below hB).c1⟩)
      have lE := E5.lt
      -- the rest
      have hQB := Q_pos B
      have hmod : X - n * Q B = X % Q B := by
        have h1 := Int.emod_add_mul_ediv X (Q B)
        rw [unhide HXN] at h1
        rw [Int.mul_comm (n : Int)]
        omega
      have hY0 : 0 ≤ (X - n * Q B) * Q 40 := by
        rw [hmod]; exact Int.mul_nonneg (Int.emod_nonneg _ (by omega)) (by have := Q_pos 40; omega)
      have hY1 : (X - n * Q B) * Q 40 ≤ Q (B + 40) := by
        rw [hmod, Q_add]
        exact Int.mul_le_mul_of_nonneg_right (by have := Int.emod_lt_of_pos X (show 0 < Q B by omega); omega) (by have := Q_pos 40; omega)
      obtain ⟨N2, n21, n22⟩ := low_stop hY0 hY1
      have hR := expR_has hB (unhide HXN) h0 hn (unhide HI).1 (unhide HI).2.1 (unhide HI).2.2.1 (unhide HI).2.2.2 n22 hY0 hY1
      have hbox2 := low_box (by omega) hY0 hY1 n22
      have hle2 := doneT_le (expT_le (B + 40) ((X - n * Q B) * Q 40, (X - n * Q B) * Q 40)) N2
      have HST2 := hide n22
      have HR := hide hR
      have HF2 := hide (show -P K < (doneT (expT (B + 40) ((X - n * Q B) * Q 40, (X - n * Q B) * Q 40)) N2).1 ∧ (doneT (expT (B + 40) ((X - n * Q B) * Q 40, (X - n * Q B) * Q 40)) N2).2 < P K by
        have h2 := Q_mono (show B + 40 + 2 ≤ B + 40 + 20 by omega)
        have := hbox2.1
        have := hbox2.2.2.2
        omega)
      have HLE2 := hide hle2
      have HY := hide (And.intro hY0 hY1)
      clear n22 hR hbox2 hle2 hmod hY0 hY1
      obtain ⟨p, hp⟩ : ∃ p, p = mulI (B + 40) oe (doneT (expT (B + 40) ((X - n * Q B) * Q 40, (X - n * Q B) * Q 40)) N2) := ⟨_, rfl⟩
      have HP := hide hp
      have HRP : Hid (Iv B (downI p 40) (Ex.Ev (fun _ => (X : Rat) / (Q B : Rat))) ∧ Abs p (Q (B + 40 + 2 * (n + 1))) ∧ p.1 ≤ p.2 ∧ Q B - 1 ≤ (downI p 40).1) := hide (by rw [hp]; exact unhide HR)
      clear hp HR
      go_wp2_with fail
      rw [← hVe]
      clear hVe
      obtain ⟨x0, x1, x2, x3, x4, x5, x6, x7, x8⟩ := unhide HK _ (Below.refl _ _)
      have hD0 : Below Ve.heap.size Ve Ve.drew := (Below.refl _ _).drew
      have m1 : w.heap.size + 1 ≠ we.heap.size := by omega
      have m2 : w.heap.size + 1 ≠ w.heap.size := by omega
      have m3 : w.heap.size + 1 ≠ w2.heap.size := by omega
      have m4 : we.heap.size ≠ w.heap.size + 1 := by omega
      have m5 : w.heap.size ≠ w.heap.size + 1 := by omega
      have m6 : w2.heap.size ≠ w.heap.size + 1 := by omega
      have eBB : ((B + 40 : Nat) : Int) - (B : Int) = ((40 : Nat) : Int) := by omega
      have HBB := hide eBB
      clear eBB
      go_region_held3 (fun w' => w'.cell? ⟨we.heap.size, 0, none⟩ = some (.bool ve.ln) ∧ w'.cell? ⟨we.heap.size, 1, none⟩ = some (.slice ve.la ve.lN ve.lc) ∧ w'.cell? ⟨we.heap.size, 2, none⟩ = some (.bool ve.hn) ∧ w'.cell? ⟨we.heap.size, 3, none⟩ = some (.slice ve.ha ve.hN ve.hc) ∧ w'.cell? ⟨we.heap.size, 4, none⟩ = some (.int .i64 ve.bits) ∧ w'.cell? ⟨w.heap.size, 0, none⟩ = some (.bool x.neg) ∧ w'.cell? ⟨w.heap.size, 1, none⟩ = some (.slice x.a x.n x.cap) ∧ w'.cell? ⟨w2.heap.size, 0, none⟩ = some (.bool neg2) ∧ w'.cell? ⟨w2.heap.size, 1, none⟩ = some (.slice a2 n2 c2)) (first | exact unhide HK _ (by first | with_reducible exact hD0 | with_reducible exact hD8 | with_reducible exact hD7 | with_reducible exact hD6 | with_reducible exact hD5 | with_reducible exact hD4 | with_reducible exact hD3 | with_reducible exact hD2 | with_reducible exact hD1) | go_keep)
        (first
          | (go_at_call 90; have hq := hD7; refine (refTurn_int _ v17 (K + K + 8) B p.1 p.2 (by rw [unhide HP]; exact hvp17) (by omega) (by have := unhide HV17; omega) (by have := unhide HV17; omega) (by omega) (by omega)).mono ?_; rintro r' w18 ⟨v18, rfl, hvb18, hvp18, hb18⟩; have hD8 := bthen hD7 hb18; rw [unhide HV17, unhide HBB, downZ_nat, downZ_nat] at hvp18; have HV18 := hide hvb18; clear hvb18; obtain ⟨q0, q1, q2, q3, q4, q5⟩ := R.below hD8; obtain ⟨y0, y1, y2, y3, y4, y5, y6, y7, y8⟩ := unhide HK _ hD8)
          | (go_at_call 52; have hq := hD6; refine (refTimes_iv _ ve v16 K (B + 40) oe _ ((unhide HVEP).below hD6) hvp16 (by omega) (unhide HVE) (by omega)).mono ?_; rintro r' w17 ⟨v17, rfl, hvb17, hvp17, hb17⟩; have hD7 := bthen hD6 hb17; have HV17 := hide hvb17; clear hvb17)
          | (go_at_call 188; have hq := hD5; refine (lowExp_iv _ ⟨neg15, a15, n15, c15⟩ _ (B + 40) N2 K ((X - n * Q B) * Q 40) (hint15.fits (K := K) (by have := (unhide HY).1; have := P_pos K; omega) (Int.lt_of_le_of_lt (unhide HY).2 (Int.lt_of_le_of_lt (Q_mono (by omega)) hQK))) (Nat.le_refl _) (unhide HY).1 (unhide HY).2 (by omega) (unhide HST2) n21 hQK (by omega) (by omega)).mono ?_; rintro r' w16 ⟨v16, rfl, hvb16, hvp16, hb16⟩; replace hvp16 := hvp16.fits (K := K) (unhide HLE2) (unhide HF2).1 (unhide HF2).2; have hD6 := bthen hD5 hb16; have HV16 := hide hvb16; clear hvb16)
          | (go_at_call 66; have hq := hD4; refine (mul_int _ _ _ _ _ _ _ _ (K + (K + 5 + (B / 16 + 5)) + 5) 7 (X - n * Q B) (Q 40) _ ((hint13.below hb14).mono (by omega)) hint14 (by omega) (by omega)).mono ?_; rintro r' w15 ⟨neg15, a15, n15, c15, rfl, hint15, hb15⟩; have hD5 := bthen hD4 hb15)
          | (go_at_call 104; have hq := hD3; refine (power2_int 40 _ (by omega)).mono ?_; rintro r' w14 ⟨neg14, a14, n14, c14, rfl, hint14, hb14⟩; have hD4 := bthen hD3 hb14)
          | (go_at_call 72; have hq := hD2; refine (sub_int _ _ _ _ _ _ _ _ K (K + 5 + (B / 16 + 5)) X (n * Q B) _ ((unhide HX).below hD2) hint12 (by omega) (by omega)).mono ?_; rintro r' w13 ⟨neg13, a13, n13, c13, rfl, hint13, hb13⟩; have hD3 := bthen hD2 hb13)
          | (go_at_call 66; have hq := hD1; refine (mul_int _ _ _ _ _ _ _ _ (K + 5) (B / 16 + 5) n (Q B) _ ((unhide HI2).below hD1) hint11 (by omega) (by omega)).mono ?_; rintro r' w12 ⟨neg12, a12, n12, c12, rfl, hint12, hb12⟩; have hD2 := bthen hD1 hb12)
          | (go_at_call 104; refine (power2_int B _ (by omega)).mono ?_; rintro r' w11 ⟨neg11, a11, n11', c11, rfl, hint11, hb11⟩; have hD1 := bthen hD0 hb11))
      all_goals
        obtain ⟨z1, z2, z3, z4⟩ := unhide HRP
        have hzd : Abs (downI p 40) (Q (B + 2 * (n + 1))) := by
          obtain ⟨k1, k2, k3, k4⟩ := z2
          have e : Q (B + 40 + 2 * (n + 1)) = Q (B + 2 * (n + 1)) * Q 40 := by rw [← Q_add]; congr 1; omega
          rw [e] at k1 k2 k3 k4
          have r1 := round_abs (q := Q 40) (by have := Q_pos 40; omega) k1 k2
          have r2 := round_abs (q := Q 40) (by have := Q_pos 40; omega) k3 k4
          exact ⟨r1.1, r1.2.1, r2.2.2.1, r2.2.2.2⟩
        have hzP : Q (B + 2 * (n + 1)) < P K := Int.lt_of_le_of_lt (Q_mono (by omega)) hK
        have hzle : (downI p 40).1 ≤ (downI p 40).2 := by
          have := scaleI_le (a := p) (n := 1) (d := Q 40) z3 (by have := Q_pos 40; omega) (by omega)
          simpa [scaleI, downI] using this
        have e1 : p.1 / Q 40 = (downI p 40).1 := rfl
        have e2 : -(-p.2 / Q 40) = (downI p 40).2 := rfl
        rw [e1, e2] at hvp18
        replace hvp18 := hvp18.fits (K := K) hzle (by have := hzd.1; omega) (by have := hzd.2.2.2; omega)
        have HZ := hide (And.intro z1 (And.intro hzle (And.intro z4 (show (downI p 40).2 < P K by have := hzd.2.2.2; omega))))
        clear z1 z2 z3 z4 hzd hzP hzle e1 e2
        go_wp2_with fail
        refine bodyPost_ret (v := .agg #[.bool v18.ln, .slice v18.la v18.lN v18.lc, .bool v18.hn, .slice v18.ha v18.hN v18.hc, .int .i64 v18.bits]) (by simp [results, Tryz.results156, go_sem, q0, q1, q2, q3, q4]) rfl ⟨downI p 40, (unhide HZ).1, (unhide HZ).2.1, (unhide HZ).2.2.1, (unhide HZ).2.2.2, v18, rfl, unhide HV18, ?_, ?_⟩
        · exact SpAt.put5 hvp18 q0 q1 q2 q3 q4 _ _ _ _ _
        · exact set5 (bthen hBW hD8) (Nat.le_succ _) _ _ _ _ _
end Go.Proofs.YtgmnknmjainababGreat

namespace Go.Proofs.YtgmnknmjainababGreat
set_option linter.unusedVariables false
set_option linter.unusedSimpArgs false
set_option linter.unnecessarySimpa false
open Go.RowKit
attribute [local go_sem ↓] Go.wp_at_zero Go.wp_at_succ

theorem over_one {B : Nat} {o : Int × Int} (h1 : 0 < o.1) (h2 : o.1 ≤ o.2) : dvLo (Q B) (Q B) o.1 o.2 B = Q B * Q B / o.2 ∧ dvHi (Q B) (Q B) o.1 o.2 B = -(-(Q B * Q B) / o.1) := by
  have q := Q_pos B
  have p := Int.mul_nonneg (show 0 ≤ Q B by omega) (show 0 ≤ Q B by omega)
  unfold dvLo dvHi ovLo ovHi
  rw [if_neg (by omega), if_neg (by omega), if_neg (by omega), if_neg (by omega)]
  exact ⟨rfl, rfl⟩
theorem over_fit {B : Nat} {o : Int × Int} (hB : 20 ≤ B) (h1 : Q B - 1 ≤ o.1) (h2 : o.1 ≤ o.2) : 0 ≤ Q B * Q B / o.2 ∧ Q B * Q B / o.2 ≤ -(-(Q B * Q B) / o.1) ∧ -(-(Q B * Q B) / o.1) ≤ Q B + 2 ∧ Q B * Q B / o.2 * o.2 ≤ Q B * Q B ∧ Q B * Q B ≤ -(-(Q B * Q B) / o.1) * o.1 := by
  have q : 1048576 ≤ Q B := by have := Q_mono hB; have e : Q 20 = 1048576 := rfl; omega
  have p := Int.mul_nonneg (show 0 ≤ Q B by omega) (show 0 ≤ Q B by omega)
  have a1 := flo_le (Q B * Q B) o.2 (by omega)
  have a2 := ceil_ge (Q B * Q B) o.1 (by omega)
  have a3 : 0 ≤ Q B * Q B / o.2 := Int.ediv_nonneg p (by omega)
  have a4 := (round_abs (x := Q B * Q B) (m := Q B + 2) (q := o.1) (by omega) (by have := Int.mul_nonneg (show 0 ≤ Q B + 2 by omega) (show 0 ≤ o.1 by omega); omega) (by
    have := Int.mul_le_mul_of_nonneg_left h1 (show 0 ≤ Q B + 2 by omega)
    grind)).2.2.2
  refine ⟨a3, ?_, a4, a1, a2⟩
  refine Int.not_lt.1 fun hn => ?_
  have h3 := Int.mul_lt_mul_of_pos_right hn (show 0 < o.1 by omega)
  have h4 := Int.mul_le_mul_of_nonneg_left h2 a3
  omega
theorem neg_div_q (X : Int) (B : Nat) : ((-X : Int) : Rat) / (Q B : Rat) = -((X : Rat) / (Q B : Rat)) := by rw [Rat.intCast_neg, Rat.div_def, Rat.div_def, Rat.neg_mul]

set_option maxRecDepth 100000 in
set_option maxHeartbeats 4000000 in
theorem refExp_neg (w : World) (x : Nm) (k B K n : Nat) (X : Int) (hx : IntAt w x.neg x.a x.n x.cap k X) (h0 : X < 0) (hXn : -X / Q B = (n : Int)) (hn : n ≤ 2000) (hB : 20 ≤ B) (hB2 : B ≤ 50000) (hK : Q (B + 40 + 4 * (2 * n + 1) + 20) < P K) (hK2 : K ≤ 1000000) (hkK : k ≤ K) (hK3 : (B + 40) / 16 + 30 ≤ K) :
    Calls Tryz.prog 156 #[.agg #[.bool x.neg, .slice x.a x.n x.cap], .int .i64 B] w (fun r w' => ∃ o : Int × Int, Iv B o (Ex.Ev (fun _ => (X : Rat) / (Q B : Rat))) ∧ o.1 ≤ o.2 ∧ SpanAns w B K o.1 o.2 r w') := by
  obtain ⟨W, hW⟩ : ∃ W, W = (w.alloc (.cells #[.bool x.neg, .slice x.a x.n x.cap] 26)).alloc (.cells #[.bool false, .slice none 0 0, .bool false, .slice none 0 0, .int .i64 0] 36) := ⟨_, rfl⟩
  have hBW : Below w.heap.size w W := by rw [hW]; exact bl2 _ _ _
  have A : NmC W w.heap.size x := by rw [hW]; exact ⟨by simp [go_sem], by simp [go_sem]⟩
  have R : NoC W (w.heap.size + 1) := by rw [hW]; exact ⟨by simp [go_sem], by simp [go_sem], by simp [go_sem], by simp [go_sem], by simp [go_sem], fun o => by simp [go_sem]⟩
  have HX := hide ((hx.below hBW).mono hkK)
  have hs0 : cmpInt X 0 < 0 := by unfold cmpInt; rw [if_pos h0]; omega
  have HXN := hide hXn
  clear hx hXn
  go_enter Tryz.func156, Tryz.ntmps156
  go_wp2_with fail
  rw [← hW]
  clear hW
  refine (sign_int _ _ _ _ _ X _ (unhide HX)).mono ?_
  rintro r w1 ⟨rfl, hb1⟩
  replace A := A.below hb1
  replace R := R.below hb1
  replace hBW := bthen hBW hb1
  replace HX := hide ((unhide HX).below hb1)
  have lA := A.lt
  have lR := R.lt
  have HK := hide (show ∀ w', Below w1.heap.size w1 w' → (w'.cell? ⟨w.heap.size, 0, none⟩ = some (.bool x.neg) ∧ w'.cell? ⟨w.heap.size, 1, none⟩ = some (.slice x.a x.n x.cap)) from fun w' hB => ⟨(A.below hB).c0, (A.below hB).c1⟩)
  clear hb1
  obtain ⟨x0, x1⟩ := unhide HK _ (Below.refl _ _)
  have hD0 : Below w1.heap.size w1 w1.drew := (Below.refl _ _).drew
  have m1 : w.heap.size + 1 ≠ w.heap.size := by omega
  have m2 : w.heap.size ≠ w.heap.size + 1 := by omega
  have hq : 1048576 ≤ Q B := by have := Q_mono hB; have e : Q 20 = 1048576 := rfl; omega
  go_wp2_with fail
  go_region_held3 (fun w' => w'.cell? ⟨w.heap.size, 0, none⟩ = some (.bool x.neg) ∧ w'.cell? ⟨w.heap.size, 1, none⟩ = some (.slice x.a x.n x.cap)) (first | exact unhide HK _ (by first | with_reducible exact hD0 | with_reducible exact hD4 | with_reducible exact hD3 | with_reducible exact hD2 | with_reducible exact hD1) | go_keep)
    (first
      | (go_at_call 91; have hqq := hD3; refine (refOver_any _ v2 v4 K B (Q B) (Q B) o4.1 o4.2 ((((hint2.mono (by omega)).below hb3).below hb4)) hint4 (by omega) (by omega) (unhide HVB2) (by have := (unhide HI4).2.2.1; omega) (unhide HI4).2.1).mono ?_; rintro r' w5 ⟨v5, rfl, hvb5, hvp5, hb5⟩; have hD4 := bthen hD3 hb5; have HV5 := hide hvb5; clear hvb5; obtain ⟨q0, q1, q2, q3, q4, q5⟩ := R.below hD4; obtain ⟨y0, y1⟩ := unhide HK _ hD4)
      | (go_at_call 156; have hqq := hD2; refine (refExp_pos _ ⟨neg3, a3, n3, c3⟩ K B K n (-X) hint3 (by omega) (unhide HXN) hn hB hB2 hK hK2 (Nat.le_refl _) hK3).mono ?_; rintro r' w4 ⟨o4, i1, i2, i3, i4, v4, rfl, hvb4, hint4, hb4⟩; have hD3 := bthen hD2 hb4; have HI4 := hide (And.intro i1 (And.intro i2 (And.intro i3 i4))); have HVB4 := hide hvb4; clear hvb4 i1 i2 i3 i4)
      | (go_at_call 103; have hqq := hD1; refine (neg_int _ _ _ _ K X _ ((unhide HX).below hD1) (by omega)).mono ?_; rintro r' w3 ⟨neg3, a3, n3, c3, rfl, hint3, hb3⟩; have hD2 := bthen hD1 hb3)
      | (go_at_call 27; refine (refWhole _ 1 B (by omega) (by decide) (by decide)).mono ?_; rintro r' w2 ⟨v2, rfl, hvb2, hint2, hb2⟩; rw [Int.one_mul] at hint2; have hD1 := bthen hD0 hb2; have HVB2 := hide hvb2; clear hvb2))
  all_goals
    obtain ⟨i1, i2, i3, i4⟩ := unhide HI4
    obtain ⟨e1, e2⟩ := over_one (B := B) (o := o4) (by omega) i2
    obtain ⟨f1, f2, f3, f4, f5⟩ := over_fit hB i3 i2
    rw [e1, e2] at hvp5
    have hPK : Q B + 2 < P K := by
      have h1 := Q_mono (show B + 1 ≤ B + 40 + 4 * (2 * n + 1) + 20 by omega)
      have h2 : Q (B + 1) = 2 * Q B := rfl
      omega
    replace hvp5 := hvp5.fits (K := K) f2 (by have := P_pos K; omega) (by omega)
    rw [neg_div_q] at i1
    have HO := hide (And.intro (inv_has (x := (X : Rat) / (Q B : Rat)) (by omega) i1 f4 f5) f2)
    clear i1 i2 i3 i4 e1 e2 f1 f2 f3 f4 f5 hPK
    go_wp2_with fail
    refine bodyPost_ret (v := .agg #[.bool v5.ln, .slice v5.la v5.lN v5.lc, .bool v5.hn, .slice v5.ha v5.hN v5.hc, .int .i64 v5.bits]) (by simp [results, Tryz.results156, go_sem, q0, q1, q2, q3, q4]) rfl ⟨(Q B * Q B / o4.2, -(-(Q B * Q B) / o4.1)), (unhide HO).1, (unhide HO).2, v5, rfl, unhide HV5, ?_, ?_⟩
    · exact SpAt.put5 hvp5 q0 q1 q2 q3 q4 _ _ _ _ _
    · exact set5 (bthen hBW hD4) (Nat.le_succ _) _ _ _ _ _

/-- Its whole part, without its sign. -/
def wh (X : Int) (B : Nat) : Int := (if 0 ≤ X then X else -X) / Q B
theorem refExp_any (w : World) (x : Nm) (k B K n : Nat) (X : Int) (hx : IntAt w x.neg x.a x.n x.cap k X) (hXn : wh X B ≤ (n : Int)) (hn : n ≤ 2000) (hB : 20 ≤ B) (hB2 : B ≤ 50000) (hK : Q (B + 40 + 4 * (2 * n + 1) + 20) < P K) (hK2 : K ≤ 1000000) (hkK : k ≤ K) (hK3 : (B + 40) / 16 + 30 ≤ K) :
    Calls Tryz.prog 156 #[.agg #[.bool x.neg, .slice x.a x.n x.cap], .int .i64 B] w (fun r w' => ∃ o : Int × Int, Iv B o (Ex.Ev (fun _ => (X : Rat) / (Q B : Rat))) ∧ o.1 ≤ o.2 ∧ (0 ≤ X → Q B - 1 ≤ o.1) ∧ SpanAns w B K o.1 o.2 r w') := by
  have q := Q_pos B
  have h0 : 0 ≤ wh X B := by unfold wh; split <;> exact Int.ediv_nonneg (by omega) (by omega)
  obtain ⟨m, hm⟩ : ∃ m : Nat, wh X B = (m : Int) := ⟨(wh X B).toNat, by omega⟩
  have hK' : Q (B + 40 + 4 * (2 * m + 1) + 20) < P K := Int.lt_of_le_of_lt (Q_mono (by omega)) hK
  have hmn : m ≤ n := by omega
  by_cases hX : 0 ≤ X
  · unfold wh at hm
    rw [if_pos hX] at hm
    refine (refExp_pos w x k B K m X hx hX hm (by omega) hB hB2 hK' hK2 hkK hK3).mono ?_
    rintro r w' ⟨o, g1, g2, g3, g4, h⟩
    exact ⟨o, g1, g2, fun _ => g3, h⟩
  · unfold wh at hm
    rw [if_neg hX] at hm
    exact (refExp_neg w x k B K m X hx (by omega) hm (by omega) hB hB2 hK' hK2 hkK hK3).mono fun r w' ⟨o, g1, g2, h⟩ => ⟨o, g1, g2, fun h0 => absurd h0 hX, h⟩

theorem fieldS0 (x y : Bool) (a a' : Option Addr) (n c n' c' : Nat) (b : Int) (w : World) : (Instr.field 36 (.agg #[.bool x, .slice a n c, .bool y, .slice a' n' c', .int .i64 b]) 0).run Tryz.prog w = .ok (.agg #[.bool x, .slice a n c]) w := by kernel_rfl
theorem fieldS1 (x y : Bool) (a a' : Option Addr) (n c n' c' : Nat) (b : Int) (w : World) : (Instr.field 36 (.agg #[.bool x, .slice a n c, .bool y, .slice a' n' c', .int .i64 b]) 1).run Tryz.prog w = .ok (.agg #[.bool y, .slice a' n' c']) w := by kernel_rfl

set_option maxRecDepth 100000 in
set_option maxHeartbeats 4000000 in
theorem refExpOf_iv (w : World) (s : Sp) (k B K n : Nat) (a : Int × Int) (x : Nat → Rat) (hbx : Ex.Bdd x) (hs : SpAt w s k a.1 a.2) (hbits : s.bits = (B : Int)) (hx : Iv B a x) (h1 : wh a.1 B ≤ (n : Int)) (h2 : wh a.2 B ≤ (n : Int)) (hn : n ≤ 2000) (hB : 20 ≤ B) (hB2 : B ≤ 50000) (hK : Q (B + 40 + 4 * (2 * n + 1) + 20) < P K) (hK2 : K ≤ 1000000) (hkK : k ≤ K) (hK3 : (B + 40) / 16 + 30 ≤ K) :
    Calls Tryz.prog 92 #[.agg #[.bool s.ln, .slice s.la s.lN s.lc, .bool s.hn, .slice s.ha s.hN s.hc, .int .i64 s.bits]] w (fun r w' => ∃ o : Int × Int, Iv B o (Ex.Ev x) ∧ (0 ≤ a.1 → Q B - 1 ≤ o.1) ∧ SpanAns w B K o.1 o.2 r w') := by
  obtain ⟨W, hW⟩ : ∃ W, W = (w.alloc (.cells #[.bool s.ln, .slice s.la s.lN s.lc, .bool s.hn, .slice s.ha s.hN s.hc, .int .i64 s.bits] 36)).alloc (.cells #[.bool false, .slice none 0 0, .bool false, .slice none 0 0, .int .i64 0] 36) := ⟨_, rfl⟩
  have hBW : Below w.heap.size w W := by rw [hW]; exact bl2 _ _ _
  have A : SpC W w.heap.size s := by rw [hW]; exact ⟨by simp [go_sem], by simp [go_sem], by simp [go_sem], by simp [go_sem], by simp [go_sem]⟩
  have R : NoC W (w.heap.size + 1) := by rw [hW]; exact ⟨by simp [go_sem], by simp [go_sem], by simp [go_sem], by simp [go_sem], by simp [go_sem], fun o => by simp [go_sem]⟩
  have HS := hide (hs.below hBW)
  have HB := hide hbits
  have HXX := hide hx
  have lR := R.lt
  have HK := hide (show ∀ w', Below W.heap.size W w' → (w'.cell? ⟨w.heap.size, 0, none⟩ = some (.bool s.ln) ∧ w'.cell? ⟨w.heap.size, 1, none⟩ = some (.slice s.la s.lN s.lc) ∧ w'.cell? ⟨w.heap.size, 2, none⟩ = some (.bool s.hn) ∧ w'.cell? ⟨w.heap.size, 3, none⟩ = some (.slice s.ha s.hN s.hc) ∧ w'.cell? ⟨w.heap.size, 4, none⟩ = some (.int .i64 s.bits)) from fun w' hB => ⟨(A.below hB).c0, (A.below hB).c1, (A.below hB).c2, (A.below hB).c3, (A.below hB).c4⟩)
  clear A hs hbits hx
  have hf0 := fieldS0
  have hf1 := fieldS1
  go_enter Tryz.func92, Tryz.ntmps92
  go_wp2
  rw [← hW]
  clear hW
  have n01 : w.heap.size ≠ w.heap.size + 1 := by omega
  have n10 : w.heap.size + 1 ≠ w.heap.size := by omega
  obtain ⟨x0, x1, x2, x3, x4⟩ := unhide HK _ (Below.refl _ _)
  have hD0 : Below W.heap.size W W.drew := (Below.refl _ _).drew
  go_region_held3 (fun w' => w'.cell? ⟨w.heap.size, 0, none⟩ = some (.bool s.ln) ∧ w'.cell? ⟨w.heap.size, 1, none⟩ = some (.slice s.la s.lN s.lc) ∧ w'.cell? ⟨w.heap.size, 2, none⟩ = some (.bool s.hn) ∧ w'.cell? ⟨w.heap.size, 3, none⟩ = some (.slice s.ha s.hN s.hc) ∧ w'.cell? ⟨w.heap.size, 4, none⟩ = some (.int .i64 s.bits)) (first | exact unhide HK _ (by first | with_reducible exact hD0 | with_reducible exact hD2 | with_reducible exact hD1) | go_keep)
    (first
      | (go_at_call 156; have hqq := hD1; (try rw [unhide HB]); refine (refExp_any _ ⟨s.hn, s.ha, s.hN, s.hc⟩ k B K n a.2 ((unhide HS).hi.below hD1) h2 hn hB hB2 hK hK2 hkK hK3).mono ?_; rintro r' w2 ⟨o2, i2, j2, _, v2, rfl, hvb2, hint2, hb2⟩; have hD2 := bthen hD1 hb2; have HI2 := hide i2; clear i2 hvb2; replace hint1 := hint1.below hb2; obtain ⟨q0, q1, q2, q3, q4, q5⟩ := R.below hD2; obtain ⟨y0, y1, y2, y3, y4⟩ := unhide HK _ hD2)
      | (go_at_call 156; rw [unhide HB]; refine (refExp_any _ ⟨s.ln, s.la, s.lN, s.lc⟩ k B K n a.1 ((unhide HS).lo.below hD0) h1 hn hB hB2 hK hK2 hkK hK3).mono ?_; rintro r' w1 ⟨o1, i1, j1, k1, v1, rfl, hvb1, hint1, hb1⟩; have hD1 := bthen hD0 hb1; have HI1 := hide i1; have HK1 := hide k1; clear k1; clear i1 hvb1))
  all_goals
    have HO := hide (expOf_has2 hbx (unhide HXX) (unhide HI1) (unhide HI2))
    go_wp2_with fail
    refine bodyPost_ret (v := .agg #[.bool v1.ln, .slice v1.la v1.lN v1.lc, .bool v2.hn, .slice v2.ha v2.hN v2.hc, .int .i64 (B : Int)]) (by simp [results, Tryz.results92, go_sem, q0, q1, q2, q3, q4]) rfl ⟨(o1.1, o2.2), unhide HO, unhide HK1, ⟨v1.ln, v1.la, v1.lN, v1.lc, v2.hn, v2.ha, v2.hN, v2.hc, (B : Int)⟩, rfl, rfl, ?_, ?_⟩
    · exact SpAt.put5 (show SpAt _ (⟨v1.ln, v1.la, v1.lN, v1.lc, v2.hn, v2.ha, v2.hN, v2.hc, (B : Int)⟩ : Sp) K o1.1 o2.2 from ⟨hint1.lo, hint2.hi⟩) q0 q1 q2 q3 q4 _ _ _ _ _
    · exact set5 (bthen hBW hD2) (Nat.le_succ _) _ _ _ _ _
end Go.Proofs.YtgmnknmjainababGreat
