/-
  Texts Nrl, Lgr, Rfe, Rfo, ErfT, Rtl: what they hold is told in the last text.
-/
import Derived.Test.YtgmnknmjainababK21
set_option linter.unnecessarySimpa false
set_option linter.unusedSimpArgs false
set_option linter.unusedVariables false
namespace Go.Proofs.Ytgmnknmjainabab
open Go.RowKit
attribute [local go_sem ↓] Go.wp_at_zero Go.wp_at_succ
theorem refLess_iv (w : World) (s t : Sp) (k b : Nat) (a c : Int × Int) (hs : SpAt w s k a.1 a.2) (ht : SpAt w t k c.1 c.2) (hk : k ≤ 700000000) (hb : s.bits = (b : Int)) :
    Calls Try.prog 16 #[.agg #[.bool s.ln, .slice s.la s.lN s.lc, .bool s.hn, .slice s.ha s.hN s.hc, .int .i64 s.bits], .agg #[.bool t.ln, .slice t.la t.lN t.lc, .bool t.hn, .slice t.ha t.hN t.hc, .int .i64 t.bits]] w (SpanAns w b (k + 1) (subI a c).1 (subI a c).2) :=
  (refLess_int w s t k a.1 a.2 c.1 c.2 hs ht hk).mono fun r w' h => by rw [hb] at h; exact h
theorem TwoP.drew {W wx : World} {b k1 k2 : Nat} {a c : Int × Int} {p q : Value} (h : TwoP W wx b k1 k2 a c p q) : TwoP W wx.drew b k1 k2 a c p q := by
  obtain ⟨B, B', x, y, h1, h2, h3, h4, h5, h6, h7, h8, h9, h10, h11, h12⟩ := h
  have hd : Below wx.heap.size wx wx.drew := (Below.refl _ _).drew
  exact ⟨B, B', x, y, h1, h2, h3, h4, h5, h6.below hd, h7.below hd, h8.below hd, h9.below hd, h10, h11, bthen h12 hd⟩
structure NearSt (w wr : World) (B5 B6 b K : Nat) (zz Pp Sm : Sp) (a pv sv : Int × Int) : Prop where
  z : SpC wr w.heap.size zz
  p : VrC wr B5 Pp
  s : VrC wr B6 Sm
  zp : SpAt wr zz K a.1 a.2
  pp : SpAt wr Pp K pv.1 pv.2
  sp : SpAt wr Sm K sv.1 sv.2
  pb : Pp.bits = (b : Int)
  sb : Sm.bits = (b : Int)
  no : NoC wr (w.heap.size + 1)
  be : Below w.heap.size w wr
  l1 : B5 ≠ w.heap.size + 1
  l2 : B6 ≠ w.heap.size + 1
  m1 : B5 ≠ w.heap.size
  m2 : B6 ≠ w.heap.size
  k1 : w.heap.size ≤ B5
  k2 : w.heap.size ≤ B6
  n : B5 ≠ B6
theorem NearSt.below {w wr wr' : World} {B5 B6 b K : Nat} {z Pp Sm : Sp} {a p s : Int × Int} (h : NearSt w wr B5 B6 b K z Pp Sm a p s) (hb : Below wr.heap.size wr wr') : NearSt w wr' B5 B6 b K z Pp Sm a p s :=
  ⟨h.z.below hb, h.p.below hb, h.s.below hb, h.zp.below hb, h.pp.below hb, h.sp.below hb, h.pb, h.sb, h.no.below hb, bthen h.be hb, h.l1, h.l2, h.m1, h.m2, h.k1, h.k2, h.n⟩
set_option maxRecDepth 100000 in
set_option maxHeartbeats 8000000 in
theorem nearLog_iv (w : World) (z : Sp) (k b K : Nat) (a : Int × Int) (hz : SpAt w z k a.1 a.2) (hbits : z.bits = (b : Int)) (hkK : k ≤ K) (hle : a.1 ≤ a.2) (ha : Abs a (Q b)) (hb : b ≤ 100000) (hb2 : 10 ≤ b) (hK : Q (b + 20) < P K) (hK2 : K ≤ 10000000) (hK4 : 4 ≤ K) :
    Calls Try.prog 167 #[.agg #[.bool z.ln, .slice z.la z.lN z.lc, .bool z.hn, .slice z.ha z.hN z.hc, .int .i64 z.bits]] w (fun r w' => ∃ N, N ≤ b + 20 ∧ (reachI (npT b a N) ≤ 1 ∨ b ≤ N + 1) ∧ SpanAns w b (K + 1) (addI (nsT b a N) (-2, 2)).1 (addI (nsT b a N) (-2, 2)).2 r w') := by
  obtain ⟨W, hW⟩ : ∃ W, W = (w.alloc (.cells #[.bool z.ln, .slice z.la z.lN z.lc, .bool z.hn, .slice z.ha z.hN z.hc, .int .i64 z.bits] 36)).alloc (.cells #[.bool false, .slice none 0 0, .bool false, .slice none 0 0, .int .i64 0] 36) := ⟨_, rfl⟩
  have hBW : Below w.heap.size w W := by rw [hW]; exact bl2 _ _ _
  have A : SpC W w.heap.size z := by rw [hW]; exact ⟨by simp [go_sem], by simp [go_sem], by simp [go_sem], by simp [go_sem], by simp [go_sem]⟩
  have R : NoC W (w.heap.size + 1) := by rw [hW]; exact ⟨by simp [go_sem], by simp [go_sem], by simp [go_sem], by simp [go_sem], by simp [go_sem], fun o => by simp [go_sem]⟩
  have HX := hide ((hz.below hBW).mono hkK)
  have HB := hide hbits
  have hQb := Q_pos b
  have hQK : Q b * 1048576 < P K := by
    have e : Q (b + 20) = Q b * Q 20 := Q_add b 20
    have e2 : Q 20 = 1048576 := rfl
    rw [e, e2] at hK; exact hK
  have lR := R.lt
  have lA := A.lt
  clear hz hbits
  go_enter Try.func167, Try.ntmps167
  go_wp2
  rw [← hW]
  clear hW
  have HK := hide (show ∀ w', Below W.heap.size W w' → (w'.cell? ⟨w.heap.size, 0, none⟩ = some (.bool z.ln) ∧ w'.cell? ⟨w.heap.size, 1, none⟩ = some (.slice z.la z.lN z.lc) ∧ w'.cell? ⟨w.heap.size, 2, none⟩ = some (.bool z.hn) ∧ w'.cell? ⟨w.heap.size, 3, none⟩ = some (.slice z.ha z.hN z.hc) ∧ w'.cell? ⟨w.heap.size, 4, none⟩ = some (.int .i64 z.bits)) from fun w' hB => ⟨(A.below hB).c0, (A.below hB).c1, (A.below hB).c2, (A.below hB).c3, (A.below hB).c4⟩)
  obtain ⟨x0, x1, x2, x3, x4⟩ := unhide HK _ (Below.refl _ _)
  have hD0 : Below W.heap.size W W.drew := (Below.refl _ _).drew
  have HX0 := hide ((unhide HX).below hD0)
  go_cut [3, 4] (fun p q wx => TwoP W wx b K K a a p q)
  case first =>
    go_region_held3 (fun w' => w'.cell? ⟨w.heap.size, 0, none⟩ = some (.bool z.ln) ∧ w'.cell? ⟨w.heap.size, 1, none⟩ = some (.slice z.la z.lN z.lc) ∧ w'.cell? ⟨w.heap.size, 2, none⟩ = some (.bool z.hn) ∧ w'.cell? ⟨w.heap.size, 3, none⟩ = some (.slice z.ha z.hN z.hc) ∧ w'.cell? ⟨w.heap.size, 4, none⟩ = some (.int .i64 z.bits)) (exact unhide HK _ (by repeat' (first | with_reducible exact hD0 | with_reducible exact Below.refl _ _ | with_reducible refine Below.drew ?_ | with_reducible refine balloc ?_ _ | with_reducible refine Below.setCell ?_ (by first | with_reducible exact Nat.le_refl _ | with_reducible exact Nat.le_succ _) _)))
      (fail)
    all_goals
      go_wp2_with fail
      go_meet
      first
        | with_reducible exact (twoP_aa (x := z) (y := z) (Below.refl _ _) (unhide HX) (unhide HX) (unhide HB) (unhide HB)).drew
        | with_reducible exact (twoP_aa' (x := z) (y := z) (Below.refl _ _) (unhide HX) (unhide HX) (unhide HB) (unhide HB)).drew
  case rest =>
  obtain ⟨BU, CU, xU, yU, rfl, rfl, hHU, hJU, hneU, XU, YU, hxU, hyU, bxU, byU, hblU⟩ := hcut
  have hz1 : 0 ≤ z.bits := by have := unhide HB; omega
  have hz2 : z.bits ≤ 100000 := by have := unhide HB; omega
  have st0 : NearSt w wc BU CU b K z xU yU a (npT b a 0) (nsT b a 0) := ⟨A.below hblU, XU, YU, (unhide HX).below hblU, hxU, hyU, bxU, byU, R.below hblU, bthen hBW hblU, by omega, by omega, by omega, by omega, by omega, by omega, hneU⟩
  have HFIT : Hid (∀ j, -P K < (npT b a j).1 ∧ (npT b a j).2 < P K) := hide (fun j => by
    obtain ⟨g1, g2, g3, g4⟩ := npT_abs ha j
    omega)
  have HFITC : Hid (∀ j, -P K < (scaleI (npT b a (j + 1)) 1 ((j : Int) + 2)).1 ∧ (scaleI (npT b a (j + 1)) 1 ((j : Int) + 2)).2 < P K) := hide (fun j => by
    obtain ⟨g1, g2, g3, g4⟩ := scaleI_abs (n := 1) (d := (j : Int) + 2) (npT_abs ha (j + 1)) (by omega) (by omega) (by omega)
    omega)
  have HFITS : Hid (∀ j, j ≤ b + 20 → -P K < (nsT b a j).1 ∧ (nsT b a j).2 < P K) := hide (fun j hj => by
    obtain ⟨g1, g2, g3, g4⟩ := nsT_abs ha j
    have := Int.mul_le_mul_of_nonneg_right (show (j : Int) + 1 ≤ 1048575 by omega) (show 0 ≤ Q b by omega)
    omega)
  have HZB := hide (And.intro hz1 hz2)
  clear bxU byU hxU hyU HX HX0 HK A x0 x1 x2 x3 x4 XU YU R hD0 hQK
  go_wp2_with fail
  go_loopw [5] (fun nn wr => ∃ (i : Nat) (Pp Sm : Sp), nn = .int .i64 ((i : Int) + 2) ∧ i ≤ b + 18 ∧ NearSt w wr BU CU b K z Pp Sm a (npT b a i) (nsT b a i)) (fun nn _ => b + 30 - (intOf nn).toNat)
  case atStart => exact ⟨0, xU, yU, rfl, by omega, st0⟩
  case round =>
    obtain ⟨i, Pp, Sm, rfl, hi, st⟩ := hrel
    clear st0
    have lz := st.z.lt
    have lp := st.p.lt
    by_cases hlim : (i : Int) + 2 < z.bits + 20
    · have hi2 : i + 1 ≤ b + 18 := by have := unhide HB; omega
      obtain ⟨x0, x1, x2, x3, x4⟩ := st.z
      obtain ⟨⟨y0, y1, y2, y3, y4⟩, y5⟩ := st.p
      go_wp2_with fail
      refine (refSmall _ Pp K 1 _ _ st.pp (by omega) (by omega)).mono ?_
      rintro r w1 ⟨rfl, hb1⟩
      rw [small_reach]
      have er : reachI ((npT b a i).1, (npT b a i).2) = reachI (npT b a i) := rfl
      rw [er]
      replace st := st.below hb1
      clear hb1 er x0 x1 x2 x3 x4 y0 y1 y2 y3 y4 y5 lz lp
      by_cases hr : reachI (npT b a i) ≤ 1
      · have HE : Hid (reachI (npT b a i) ≤ 1 ∨ b ≤ i + 1) := hide (Or.inl hr)
        rw [decide_eq_true hr]
        clear hr
        have ls6 := st.s.lt
        obtain ⟨⟨z0, z1, z2, z3, z4⟩, z5⟩ := st.s
        go_wp2_with fail
        refine (refTail _ Sm K 2 _ _ st.sp (by omega) (by omega) (by omega) (by omega)).mono ?_
        rintro r w7 ⟨v7, rfl, hvb7, hvp7, hb7⟩
        obtain ⟨q0, q1, q2, q3, q4, q5⟩ := st.no.below hb7
        have hBf := bthen st.be hb7
        have HV7 := hide (hvb7.trans st.sb)
        clear hvb7 hb7
        go_wp2_with fail
        refine bodyPost_ret (v := .agg #[.bool v7.ln, .slice v7.la v7.lN v7.lc, .bool v7.hn, .slice v7.ha v7.hN v7.hc, .int .i64 v7.bits]) (by simp [results, Try.results167, go_sem, q0, q1, q2, q3, q4]) rfl ⟨i, by omega, unhide HE, v7, rfl, unhide HV7, ?_, ?_⟩
        · exact SpAt.put5 hvp7 q0 q1 q2 q3 q4 _ _ _ _ _
        · exact set5 hBf (Nat.le_succ _) _ _ _ _ _
      · rw [decide_eq_false hr]
        clear hr
        have lz := st.z.lt
        have lp := st.p.lt
        obtain ⟨x0, x1, x2, x3, x4⟩ := st.z
        obtain ⟨⟨y0, y1, y2, y3, y4⟩, y5⟩ := st.p
        go_wp2_with fail
        refine (refTimes_iv _ Pp z K b (npT b a i) a st.pp st.zp (by omega) st.pb (by omega)).mono ?_
        rintro r w2 ⟨v1, rfl, hvb1, hvp1, hb2⟩
        have e1 : mulI b (npT b a i) a = npT b a (i + 1) := rfl
        rw [e1] at hvp1
        replace hvp1 := hvp1.fits (K := K) (npT_le hle (i + 1)) (unhide HFIT _).1 (unhide HFIT _).2
        replace st := st.below hb2
        have HV1 := hide hvb1
        clear hb2 hvb1 e1 x0 x1 x2 x3 x4 y0 y1 y2 y3 y4 y5 lz lp
        have stn : NearSt w (put5w w2 BU v1) BU CU b K z v1 Sm a (npT b a (i + 1)) (nsT b a i) := ⟨st.z.off (Ne.symm st.m1) v1, st.p.put v1, st.s.off (Ne.symm st.n) v1, st.zp.put st.p.c v1, hvp1.put st.p.c v1, st.sp.put st.p.c v1, unhide HV1, st.sb, st.no.off (Ne.symm st.l1) v1, below_put st.be st.k1 v1, st.l1, st.l2, st.m1, st.m2, st.k1, st.k2, st.n⟩
        have lp := st.p.lt
        obtain ⟨⟨y0, y1, y2, y3, y4⟩, y5⟩ := st.p
        clear st hvp1
        obtain ⟨V1, hV1⟩ : ∃ V1, V1 = put5w w2 BU v1 := ⟨_, rfl⟩
        rw [← hV1] at stn
        unfold put5w at hV1
        go_wp2_with fail
        rw [← hV1]
        clear hV1 y0 y1 y2 y3 y4 y5 lp
        have st := stn
        clear stn
        have lp := st.p.lt
        have HPP := hide st.pp
        have HPB := hide st.pb
        have HKT := hide (show ∀ w', Below V1.heap.size V1 w' → (w'.cell? ⟨BU, 0, none⟩ = some (.bool v1.ln) ∧ w'.cell? ⟨BU, 1, none⟩ = some (.slice v1.la v1.lN v1.lc) ∧ w'.cell? ⟨BU, 2, none⟩ = some (.bool v1.hn) ∧ w'.cell? ⟨BU, 3, none⟩ = some (.slice v1.ha v1.hN v1.hc) ∧ w'.cell? ⟨BU, 4, none⟩ = some (.int .i64 v1.bits)) from fun w' hB => ⟨(st.p.below hB).c.c0, (st.p.below hB).c.c1, (st.p.below hB).c.c2, (st.p.below hB).c.c3, (st.p.below hB).c.c4⟩)
        obtain ⟨y0, y1, y2, y3, y4⟩ := unhide HKT _ (Below.refl _ _)
        go_cut [6] (fun p wx => ∃ (B : Nat) (u : Sp), p = .pointer (some ⟨B, 0, none⟩) ∧ V1.heap.size ≤ B ∧ VrC wx B u ∧ SpAt wx u K (scaleI (npT b a (i + 1)) 1 ((i : Int) + 2)).1 (scaleI (npT b a (i + 1)) 1 ((i : Int) + 2)).2 ∧ u.bits = (b : Int) ∧ Below V1.heap.size V1 wx)
        case first =>
          go_region_held3 (fun w' => w'.cell? ⟨BU, 0, none⟩ = some (.bool v1.ln) ∧ w'.cell? ⟨BU, 1, none⟩ = some (.slice v1.la v1.lN v1.lc) ∧ w'.cell? ⟨BU, 2, none⟩ = some (.bool v1.hn) ∧ w'.cell? ⟨BU, 3, none⟩ = some (.slice v1.ha v1.hN v1.hc) ∧ w'.cell? ⟨BU, 4, none⟩ = some (.int .i64 v1.bits)) (exact unhide HKT _ (by repeat' (first | with_reducible exact hBT3 | with_reducible exact hBT2 | with_reducible exact hBT1 | with_reducible exact Below.refl _ _ | with_reducible refine Below.drew ?_ | with_reducible refine balloc ?_ _ | with_reducible refine Below.setCell ?_ (by first | exact Nat.le_refl _ | exact hlT1 | exact hlT2 | exact hlT3) _)))
            (first
              | (go_at_call 106; have hq := hBT2; refine (refBy _ v1 ⟨negT1, aT1, nT1, cT1⟩ ⟨negT2, aT2, nT2, cT2⟩ K _ _ b (npT b a (i + 1)) 1 ((i : Int) + 2) ((unhide HPP).below (by first | with_reducible exact hBT2 | with_reducible exact balloc hBT2 _)) (hintT1.below (by first | with_reducible exact Below.refl _ _ | with_reducible exact bl1 _ _)) (hintT2.below (by first | with_reducible exact Below.refl _ _ | with_reducible exact bl1 _ _)) (by omega) (by omega) (by omega) (by omega) (unhide HPB)).mono ?_; rintro r wT3 ⟨vT3, rfl, hvbT3, hintT3, hbT3⟩; have HVBT3 := hide hvbT3; clear hvbT3; have hCT3 : Below wT2.heap.size wT2 wT3 := (by first | with_reducible exact hbT3 | with_reducible exact bthen (bl1 _ _) hbT3); have hBT3 := bthen hBT2 hCT3; (try with_reducible have gT3 := (noc_new wT2 36).below hbT3); replace hintT1 := hintT1.below hCT3; (try replace gT1 := gT1.below hCT3); replace hintT2 := hintT2.below hCT3; (try replace gT2 := gT2.below hCT3); have hlT3 := hBT3.size; (try have mT1 := gT1.lt); (try have eT1 := Nat.ne_of_lt mT1); (try have eT1' := Nat.ne_of_gt mT1); (try obtain ⟨zT10, zT11, zT12, zT13, zT14, zT15⟩ := gT1); (try have mT2 := gT2.lt); (try have eT2 := Nat.ne_of_lt mT2); (try have eT2' := Nat.ne_of_gt mT2); (try obtain ⟨zT20, zT21, zT22, zT23, zT24, zT25⟩ := gT2); (try have mT3 := gT3.lt); (try have eT3 := Nat.ne_of_lt mT3); (try have eT3' := Nat.ne_of_gt mT3); (try obtain ⟨zT30, zT31, zT32, zT33, zT34, zT35⟩ := gT3))
              | (go_at_call 48; have hq := hBT1; refine (numOf_int ((i : Int) + 2) _ (by omega) (by omega)).mono ?_; rintro r wT2 ⟨negT2, aT2, nT2, cT2, rfl, hintT2, hbT2⟩; have hCT2 : Below wT1.heap.size wT1 wT2 := (by first | with_reducible exact hbT2 | with_reducible exact bthen (bl1 _ _) hbT2); have hBT2 := bthen hBT1 hCT2; (try with_reducible have gT2 := (noc_new wT1 36).below hbT2); replace hintT1 := hintT1.below hCT2; (try replace gT1 := gT1.below hCT2); have hlT2 := hBT2.size)
              | (go_at_call 48; refine (numOf_int 1 _ (by decide) (by decide)).mono ?_; rintro r wT1 ⟨negT1, aT1, nT1, cT1, rfl, hintT1, hbT1⟩; have hBT1 : Below V1.heap.size V1 wT1 := (by first | with_reducible exact bthen (Below.refl _ _).drew hbT1 | with_reducible exact bthen (bl1 _ _).drew hbT1); (try with_reducible have gT1 := ((noc_new V1 36).below (Below.refl _ _).drew).below hbT1); have hlT1 := hBT1.size))
          all_goals
            have hfinT : SpAt wT3 vT3 K (scaleI (npT b a (i + 1)) 1 ((i : Int) + 2)).1 (scaleI (npT b a (i + 1)) 1 ((i : Int) + 2)).2 := (by rw [byI_nonneg (npT_le hle (i + 1)) (by omega)] at hintT3; exact hintT3.fits (K := K) (scaleI_le (npT_le hle (i + 1)) (by omega) (by omega)) (unhide HFITC i).1 (unhide HFITC i).2)
            go_wp2_with fail
            go_meet
            refine ⟨_, vT3, rfl, ?_, ⟨⟨?_, ?_, ?_, ?_, ?_⟩, ?_⟩, ?_, unhide HVBT3, ?_⟩
            · first | exact Nat.le_refl _ | exact hlT1 | exact hlT2 | exact hlT3
            · simp [go_sem, *]
            · simp [go_sem, *]
            · simp [go_sem, *]
            · simp [go_sem, *]
            · simp [go_sem, *]
            · intro o; simp [go_sem, *]
            · first | with_reducible exact hfinT.below (bl1 _ _) | with_reducible exact SpAt.put5 hfinT (by assumption) (by assumption) (by assumption) (by assumption) (by assumption) _ _ _ _ _
            · repeat' (first | with_reducible exact hBT3 | with_reducible exact hBT2 | with_reducible exact hBT1 | with_reducible exact Below.refl _ _ | with_reducible refine Below.drew ?_ | with_reducible refine balloc ?_ _ | with_reducible refine Below.setCell ?_ (by first | exact Nat.le_refl _ | exact hlT1 | exact hlT2 | exact hlT3) _)
        case rest =>
        obtain ⟨BT, xT, rfl, hHT, XT, hpT, hxbT, hblT⟩ := hcut
        replace st := st.below hblT
        clear y0 y1 y2 y3 y4 HKT HPP HPB lp
        have HXB := hide hxbT
        clear hxbT
        have lT := XT.lt
        have ls := st.s.lt
        obtain ⟨⟨y0, y1, y2, y3, y4⟩, y5⟩ := st.s
        obtain ⟨⟨t0, t1, t2, t3, t4⟩, t5⟩ := XT
        by_cases hpar : (i + 2) % 2 = 0
        · have HE5 := hide (show subI (nsT b a i) (scaleI (npT b a (i + 1)) 1 ((i : Int) + 2)) = nsT b a (i + 1) by rw [nsT, if_pos hpar])
          have hm1 : ((i : Int) + 2) % 2 = 0 := by omega
          have hm2 : ((i : Int) + 2).tmod 2 = 0 := by rw [Int.tmod_eq_emod_of_nonneg (by omega)]; omega
          clear hpar
          go_wp2_with fail
          clear y0 y1 y2 y3 y4 y5 t0 t1 t2 t3 t4 t5 hm1 hm2
          refine (refLess_iv _ Sm xT K b (nsT b a i) (scaleI (npT b a (i + 1)) 1 ((i : Int) + 2)) st.sp hpT (by omega) st.sb).mono ?_
          rintro r w5 ⟨v5, rfl, hvb5, hvp5, hb5⟩
          rw [unhide HE5] at hvp5
          replace hvp5 := hvp5.fits (K := K) (nsT_le hle (i + 1)) (unhide HFITS (i + 1) (by omega)).1 (unhide HFITS (i + 1) (by omega)).2
          replace st := st.below hb5
          have HV5 := hide hvb5
          clear hb5 hvb5 hpT
          have stn : NearSt w (put5w w5 CU v5) BU CU b K z v1 v5 a (npT b a (i + 1)) (nsT b a (i + 1)) := ⟨st.z.off (Ne.symm st.m2) v5, st.p.off st.n v5, st.s.put v5, st.zp.put st.s.c v5, st.pp.put st.s.c v5, hvp5.put st.s.c v5, st.pb, unhide HV5, st.no.off (Ne.symm st.l2) v5, below_put st.be st.k2 v5, st.l1, st.l2, st.m1, st.m2, st.k1, st.k2, st.n⟩
          have ls5 := st.s.lt
          obtain ⟨⟨y0, y1, y2, y3, y4⟩, y5⟩ := st.s
          clear st hvp5
          obtain ⟨V6, hV6⟩ : ∃ V6, V6 = put5w w5 CU v5 := ⟨_, rfl⟩
          rw [← hV6] at stn
          unfold put5w at hV6
          go_wp2_with fail
          rw [← hV6]
          clear hV6 y0 y1 y2 y3 y4 y5
          go_roundw
          case rel => exact ⟨i + 1, v1, v5, by go_num, by omega, stn⟩
          case measure => simp [intOf]; omega
        · have HE5 := hide (show addI (nsT b a i) (scaleI (npT b a (i + 1)) 1 ((i : Int) + 2)) = nsT b a (i + 1) by rw [nsT, if_neg hpar])
          have hm1 : ((i : Int) + 2) % 2 = 1 := by omega
          have hm2 : ((i : Int) + 2).tmod 2 = 1 := by rw [Int.tmod_eq_emod_of_nonneg (by omega)]; omega
          clear hpar
          go_wp2_with fail
          clear y0 y1 y2 y3 y4 y5 t0 t1 t2 t3 t4 t5 hm1 hm2
          refine (refPlus_iv _ Sm xT K b (nsT b a i) (scaleI (npT b a (i + 1)) 1 ((i : Int) + 2)) st.sp hpT (by omega) st.sb).mono ?_
          rintro r w5 ⟨v5, rfl, hvb5, hvp5, hb5⟩
          rw [unhide HE5] at hvp5
          replace hvp5 := hvp5.fits (K := K) (nsT_le hle (i + 1)) (unhide HFITS (i + 1) (by omega)).1 (unhide HFITS (i + 1) (by omega)).2
          replace st := st.below hb5
          have HV5 := hide hvb5
          clear hb5 hvb5 hpT
          have stn : NearSt w (put5w w5 CU v5) BU CU b K z v1 v5 a (npT b a (i + 1)) (nsT b a (i + 1)) := ⟨st.z.off (Ne.symm st.m2) v5, st.p.off st.n v5, st.s.put v5, st.zp.put st.s.c v5, st.pp.put st.s.c v5, hvp5.put st.s.c v5, st.pb, unhide HV5, st.no.off (Ne.symm st.l2) v5, below_put st.be st.k2 v5, st.l1, st.l2, st.m1, st.m2, st.k1, st.k2, st.n⟩
          have ls5 := st.s.lt
          obtain ⟨⟨y0, y1, y2, y3, y4⟩, y5⟩ := st.s
          clear st hvp5
          obtain ⟨V6, hV6⟩ : ∃ V6, V6 = put5w w5 CU v5 := ⟨_, rfl⟩
          rw [← hV6] at stn
          unfold put5w at hV6
          go_wp2_with fail
          rw [← hV6]
          clear hV6 y0 y1 y2 y3 y4 y5
          go_roundw
          case rel => exact ⟨i + 1, v1, v5, by go_num, by omega, stn⟩
          case measure => simp [intOf]; omega
    · have HE : Hid (reachI (npT b a i) ≤ 1 ∨ b ≤ i + 1) := hide (Or.inr (by have := unhide HB; omega))
      obtain ⟨x0, x1, x2, x3, x4⟩ := st.z
      have ls6 := st.s.lt
      obtain ⟨⟨z0, z1, z2, z3, z4⟩, z5⟩ := st.s
      go_wp2_with fail
      refine (refTail _ Sm K 2 _ _ st.sp (by omega) (by omega) (by omega) (by omega)).mono ?_
      rintro r w7 ⟨v7, rfl, hvb7, hvp7, hb7⟩
      obtain ⟨q0, q1, q2, q3, q4, q5⟩ := st.no.below hb7
      have hBf := bthen st.be hb7
      have HV7 := hide (hvb7.trans st.sb)
      clear hvb7 hb7
      go_wp2_with fail
      refine bodyPost_ret (v := .agg #[.bool v7.ln, .slice v7.la v7.lN v7.lc, .bool v7.hn, .slice v7.ha v7.hN v7.hc, .int .i64 v7.bits]) (by simp [results, Try.results167, go_sem, q0, q1, q2, q3, q4]) rfl ⟨i, by omega, unhide HE, v7, rfl, unhide HV7, ?_, ?_⟩
      · exact SpAt.put5 hvp7 q0 q1 q2 q3 q4 _ _ _ _ _
      · exact set5 hBf (Nat.le_succ _) _ _ _ _ _
end Go.Proofs.Ytgmnknmjainabab
namespace Go.Proofs.Ytgmnknmjainabab
open Go.RowKit
attribute [local go_sem ↓] Go.wp_at_zero Go.wp_at_succ
open Ex
structure LmW (w wr : World) (X Y : Nm) (n d : Int) (BT BU BA : Nat) (T U : Sp) (A : Nm) (m k K : Nat) (a c : Int × Int) : Prop where
  x : NmC wr w.heap.size X
  y : NmC wr (w.heap.size + 1) Y
  ix : IntAt wr X.neg X.a X.n X.cap 20 n
  iy : IntAt wr Y.neg Y.a Y.n Y.cap 20 d
  t : VrC wr BT T
  u : VrC wr BU U
  at_ : VnC wr BA A
  tb : T.bits = (m : Int)
  ub : U.bits = (m : Int)
  tp : SpAt wr T K a.1 a.2
  up : SpAt wr U K c.1 c.2
  ap : IntAt wr A.neg A.a A.n A.cap (k + 20) (n + (k : Int) * d)
  r : NoC wr (w.heap.size + 1 + 1)
  be : Below w.heap.size w wr
  l1 : w.heap.size + 1 + 1 < BT
  l2 : w.heap.size + 1 + 1 < BU
  l3 : w.heap.size + 1 + 1 < BA
  n1 : BT ≠ BU
  n2 : BT ≠ BA
  n3 : BU ≠ BA
theorem LmW.below {w wr : World} {X Y : Nm} {n d : Int} {BT BU BA : Nat} {T U : Sp} {A : Nm} {m k K : Nat} {a c : Int × Int} (h : LmW w wr X Y n d BT BU BA T U A m k K a c) {wr' : World} (hb : Below wr.heap.size wr wr') : LmW w wr' X Y n d BT BU BA T U A m k K a c :=
  ⟨h.x.below hb, h.y.below hb, h.ix.below hb, h.iy.below hb, h.t.below hb, h.u.below hb, h.at_.below hb, h.tb, h.ub, h.tp.below hb, h.up.below hb, h.ap.below hb, h.r.below hb, bthen h.be hb, h.l1, h.l2, h.l3, h.n1, h.n2, h.n3⟩
theorem LmW.putT {w wr : World} {X Y : Nm} {n d : Int} {BT BU BA : Nat} {T U : Sp} {A : Nm} {m k K : Nat} {a c : Int × Int} (h : LmW w wr X Y n d BT BU BA T U A m k K a c) {T' : Sp} {a' : Int × Int} (hb : T'.bits = (m : Int)) (hp : SpAt wr T' K a'.1 a'.2) : LmW w (put5w wr BT T') X Y n d BT BU BA T' U A m k K a' c :=
  have l1 := h.l1
  ⟨h.x.offP (by omega) _, h.y.offP (by omega) _, h.ix.put h.t.c _, h.iy.put h.t.c _, h.t.put _, h.u.off (Ne.symm h.n1) _, ⟨h.at_.c.offP (Ne.symm h.n2) _, fz_put5 h.at_.fz _⟩, hb, h.ub, hp.put h.t.c _, h.up.put h.t.c _, h.ap.put h.t.c _, h.r.off (by omega) _, set5 h.be (by omega) _ _ _ _ _, h.l1, h.l2, h.l3, h.n1, h.n2, h.n3⟩
theorem LmW.putU {w wr : World} {X Y : Nm} {n d : Int} {BT BU BA : Nat} {T U : Sp} {A : Nm} {m k K : Nat} {a c : Int × Int} (h : LmW w wr X Y n d BT BU BA T U A m k K a c) {U' : Sp} {c' : Int × Int} (hb : U'.bits = (m : Int)) (hp : SpAt wr U' K c'.1 c'.2) : LmW w (put5w wr BU U') X Y n d BT BU BA T U' A m k K a c' :=
  have l2 := h.l2
  ⟨h.x.offP (by omega) _, h.y.offP (by omega) _, h.ix.put h.u.c _, h.iy.put h.u.c _, h.t.off h.n1 _, h.u.put _, ⟨h.at_.c.offP (Ne.symm h.n3) _, fz_put5 h.at_.fz _⟩, h.tb, hb, h.tp.put h.u.c _, hp.put h.u.c _, h.ap.put h.u.c _, h.r.off (by omega) _, set5 h.be (by omega) _ _ _ _ _, h.l1, h.l2, h.l3, h.n1, h.n2, h.n3⟩
theorem LmW.putB {w wr : World} {X Y : Nm} {n d : Int} {BT BU BA : Nat} {T U : Sp} {A : Nm} {m k K : Nat} {a c : Int × Int} (h : LmW w wr X Y n d BT BU BA T U A m k K a c) {T' U' : Sp} {a' c' : Int × Int} (hb : T'.bits = (m : Int)) (hp : SpAt wr T' K a'.1 a'.2) (hb' : U'.bits = (m : Int)) (hp' : SpAt wr U' K c'.1 c'.2) : LmW w (put5w (put5w wr BT T') BU U') X Y n d BT BU BA T' U' A m k K a' c' :=
  (h.putT hb hp).putU hb' (hp'.put h.t.c _)
theorem LmW.putA {w wr : World} {X Y : Nm} {n d : Int} {BT BU BA : Nat} {T U : Sp} {A : Nm} {m k K : Nat} {a c : Int × Int} (h : LmW w wr X Y n d BT BU BA T U A m k K a c) {A' : Nm} (hp : IntAt wr A'.neg A'.a A'.n A'.cap (k + 1 + 20) (n + ((k + 1 : Nat) : Int) * d)) : LmW w (put2w wr BA A') X Y n d BT BU BA T U A' m (k + 1) K a c :=
  have l3 := h.l3
  ⟨h.x.off (by omega) _ _, h.y.off (by omega) _ _, h.ix.putv h.at_ _, h.iy.putv h.at_ _, h.t.offv h.n2 _, h.u.offv h.n3 _, h.at_.put _, h.tb, h.ub, h.tp.put2 h.at_.c.c0 h.at_.c.c1 _ _, h.up.put2 h.at_.c.c0 h.at_.c.c1 _ _, hp.putv h.at_ _, h.r.offv (by omega) _, set2 h.be (by omega) _ _, h.l1, h.l2, h.l3, h.n1, h.n2, h.n3⟩
theorem LmW.fits {w wr : World} {X Y : Nm} {n d : Int} {BT BU BA : Nat} {T U : Sp} {A : Nm} {m k K : Nat} {a c : Int × Int} (h : LmW w wr X Y n d BT BU BA T U A m k K a c) {K' : Nat} (e1 : a.1 ≤ a.2) (e2 : -P K' < a.1) (e3 : a.2 < P K') (f1 : c.1 ≤ c.2) (f2 : -P K' < c.1) (f3 : c.2 < P K') : LmW w wr X Y n d BT BU BA T U A m k K' a c :=
  ⟨h.x, h.y, h.ix, h.iy, h.t, h.u, h.at_, h.tb, h.ub, h.tp.fits e1 e2 e3, h.up.fits f1 f2 f3, h.ap, h.r, h.be, h.l1, h.l2, h.l3, h.n1, h.n2, h.n3⟩
theorem LmW.mono {w wr : World} {X Y : Nm} {n d : Int} {BT BU BA : Nat} {T U : Sp} {A : Nm} {m k K : Nat} {a c : Int × Int} (h : LmW w wr X Y n d BT BU BA T U A m k K a c) {K' : Nat} (e : K ≤ K') : LmW w wr X Y n d BT BU BA T U A m k K' a c :=
  ⟨h.x, h.y, h.ix, h.iy, h.t, h.u, h.at_, h.tb, h.ub, h.tp.mono e, h.up.mono e, h.ap, h.r, h.be, h.l1, h.l2, h.l3, h.n1, h.n2, h.n3⟩
theorem lm_at (n d : Int) (k : Nat) : n + (k : Int) * d + d = n + ((k + 1 : Nat) : Int) * d := by
  rw [show ((k + 1 : Nat) : Int) = (k : Int) + 1 by omega, Int.add_mul, Int.one_mul, Int.add_assoc]
theorem lm_pos {n d : Int} {b x : Nat} (h : LmIn n d b x) (k : Nat) : 0 < n + (k : Int) * d := by
  have h1 := h.n0
  have h2 := Int.mul_nonneg (show (0 : Int) ≤ (k : Int) by omega) (show 0 ≤ d by have := h.d0; omega)
  omega
theorem lm_by {n d zz : Int} {b x m k : Nat} {s : LmSt} (h : LmIn n d b x) (o : LmOk n d x m k s) (hz : (x : Int) = zz) : byI s.T (zz * d) (n + ((k + 1 : Nat) : Int) * d) = lmT n d x k s.T := by
  have h1 := h.d0
  have h2 := Int.mul_nonneg (show (0 : Int) ≤ zz by omega) (show 0 ≤ d by omega)
  rw [byI_nonneg o.tl h2, ← hz]
  rfl
theorem lm_fit {n d : Int} {x m k : Nat} {T U : Int × Int} (o : LmMid n d x m k T U) (hm : m ≤ 1000) : T.2 < P 100 ∧ U.2 < P 100 ∧ -P 100 < T.1 ∧ -P 100 < U.1 := by
  have h1 := Q_mono (show m + 140 + 1 ≤ 16 * 100 by omega)
  have h2 := Q_pos (m + 140)
  have h3 : Q (m + 140 + 1) = 2 * Q (m + 140) := rfl
  rw [Q_P] at h1
  have := o.us
  have := o.tu
  have := o.t0
  have := o.u1
  omega
theorem lm_len {z l : Int} {m : Nat} (h : LenIs z l) (hz : 0 < z) : (((m + 128 : Nat) : Int) < l) ↔ Q (m + 128) ≤ z := by
  obtain ⟨L, rfl, h1, h2⟩ := h.2.2 hz
  constructor
  · intro h3
    exact Int.le_trans (Q_mono (by omega)) h1
  · intro h3
    by_cases c : m + 128 ≤ L
    · omega
    · have := Q_mono (show L + 1 ≤ m + 128 by omega)
      omega
theorem lm_e (n d : Int) (x m : Nat) : ∀ k, (lmS n d x m k).e ≤ k
  | 0 => Nat.le_refl _
  | k + 1 => by
    have := lm_e n d x m k
    show (lmNext n d x m k (lmS n d x m k)).e ≤ k + 1
    unfold lmNext
    split
    · show (lmS n d x m k).e + 1 ≤ k + 1; omega
    · show (lmS n d x m k).e ≤ k + 1; omega
end Go.Proofs.Ytgmnknmjainabab
namespace Go.Proofs.Ytgmnknmjainabab
open Go.RowKit
attribute [local go_sem ↓] Go.wp_at_zero Go.wp_at_succ
def RefErf (X : Int) (B : Nat) (lo hi : Int) : Prop := ∀ (w' : World) (x : Nm), IntAt w' x.neg x.a x.n x.cap 100 X → Calls Try.prog 51 #[.agg #[.bool x.neg, .slice x.a x.n x.cap], .int .i64 B] w' (SpanAns w' B 200001 lo hi)
end Go.Proofs.Ytgmnknmjainabab
namespace Go.Proofs.Ytgmnknmjainabab
open Go.RowKit
attribute [local go_sem ↓] Go.wp_at_zero Go.wp_at_succ
def RefErf2 (X : Int) (B : Nat) (lo hi : Int) : Prop := ∀ (w' : World) (x : Nm), IntAt w' x.neg x.a x.n x.cap 100 X → Calls Try.prog 51 #[.agg #[.bool x.neg, .slice x.a x.n x.cap], .int .i64 B] w' (SpanAns w' B 200002 lo hi)
theorem RefErf.two {X : Int} {B : Nat} {lo hi : Int} (h : RefErf X B lo hi) : RefErf2 X B lo hi := fun w' x hx => (h w' x hx).mono fun r w'' ⟨s, e1, e2, e3, e4⟩ => ⟨s, e1, e2, e3.mono (by omega), e4⟩
end Go.Proofs.Ytgmnknmjainabab
namespace Go.Proofs.Ytgmnknmjainabab
open Ex
theorem Iv.nought {b : Nat} {a : Int × Int} (h : Iv b a (fun _ => 0)) : a.1 ≤ 0 ∧ 0 ≤ a.2 := by
  have q := Qr_pos b
  obtain ⟨h1, h2⟩ := Has.of_const h
  constructor
  · refine Int.not_lt.1 fun hlt => ?_
    have : (0 : Rat) < (a.1 : Rat) := by exact_mod_cast hlt
    have := rdiv_pos this q
    grind
  · refine Int.not_lt.1 fun hlt => ?_
    have h3 : (a.2 : Rat) < 0 := by exact_mod_cast hlt
    have h4 := rdiv_pos (show 0 < -(a.2 : Rat) by grind) q
    have e : -(a.2 : Rat) / (Q b : Rat) = -((a.2 : Rat) / (Q b : Rat)) := by rw [Rat.div_def, Rat.div_def, Rat.neg_mul]
    grind
end Go.Proofs.Ytgmnknmjainabab
namespace Go.Proofs.Ytgmnknmjainabab
open Go.RowKit
attribute [local go_sem ↓] Go.wp_at_zero Go.wp_at_succ
structure RootSt (w wr : World) (b K i : Nat) (l : Nat → Rat) (ss : Sp) (a : Int × Int) : Prop where
  s : VrC wr w.heap.size ss
  sp : SpAt wr ss K a.1 a.2
  sb : ss.bits = (b : Int)
  iv : RInv b l i a
  no : NoC wr (w.heap.size + 1)
  be : Below w.heap.size w wr
theorem RootSt.below {w wr wr' : World} {b K i : Nat} {l : Nat → Rat} {ss : Sp} {a : Int × Int} (h : RootSt w wr b K i l ss a) (hb : Below wr.heap.size wr wr') : RootSt w wr' b K i l ss a :=
  ⟨h.s.below hb, h.sp.below hb, h.sb, h.iv, h.no.below hb, bthen h.be hb⟩
theorem add_le2 {x : Int × Int} (h : x.1 ≤ x.2) : (addI x (-2, 2)).1 ≤ (addI x (-2, 2)).2 := by unfold addI; simp only []; omega
set_option maxRecDepth 100000 in
set_option maxHeartbeats 1000000 in
theorem rootLog_iv (w : World) (s : Sp) (k b K : Nat) (a : Int × Int) (l : Nat → Rat) (hs : SpAt w s k a.1 a.2) (hbits : s.bits = (b : Int)) (hkK : k ≤ K) (hl : Ex.Bdd l) (hx : Iv b a (Ex.Ev l)) (h1 : Q b ≤ a.1) (h2 : a.1 ≤ a.2) (h3 : a.2 ≤ 2 * Q b) (hb : b ≤ 100000) (hb2 : 20 ≤ b) (hK : Q (b + 20) < P K) (hK2 : K ≤ 1000000) (hK4 : b / 16 + 18 ≤ K) :
    Calls Try.prog 149 #[.agg #[.bool s.ln, .slice s.la s.lN s.lc, .bool s.hn, .slice s.ha s.hN s.hc, .int .i64 s.bits]] w (fun r w' => ∃ o : Int × Int, Iv b o l ∧ Abs o (3 * Q b) ∧ SpanAns w b (K + 30) o.1 o.2 r w') := by
  obtain ⟨W, hW⟩ : ∃ W, W = (w.alloc (.cells #[.bool s.ln, .slice s.la s.lN s.lc, .bool s.hn, .slice s.ha s.hN s.hc, .int .i64 s.bits] 36)).alloc (.cells #[.bool false, .slice none 0 0, .bool false, .slice none 0 0, .int .i64 0] 36) := ⟨_, rfl⟩
  have hBW : Below w.heap.size w W := by rw [hW]; exact bl2 _ _ _
  have A : VrC W w.heap.size s := by rw [hW]; exact ⟨⟨by simp [go_sem], by simp [go_sem], by simp [go_sem], by simp [go_sem], by simp [go_sem]⟩, fun o => by simp [go_sem]⟩
  have R : NoC W (w.heap.size + 1) := by rw [hW]; exact ⟨by simp [go_sem], by simp [go_sem], by simp [go_sem], by simp [go_sem], by simp [go_sem], fun o => by simp [go_sem]⟩
  have st0 : RootSt w W b K 0 l s a := ⟨A, (hs.below hBW).mono hkK, hbits, rinv_start hx h1 h2 h3, R, hBW⟩
  clear A R hs hbits hx h1 h2 h3
  go_enter Try.func149, Try.ntmps149
  go_wp2
  rw [← hW]
  clear hW
  go_loopw [3] (fun nn wr => ∃ (i : Nat) (ss : Sp) (c : Int × Int), nn = .int .i64 (i : Int) ∧ i ≤ 8 ∧ RootSt w wr b K i l ss c) (fun nn _ => 8 - (intOf nn).toNat)
  case atStart => exact ⟨0, s, a, rfl, by omega, st0⟩
  case round =>
    obtain ⟨i, ss, c, rfl, hi, st⟩ := hrel
    clear st0
    have ls := st.s.lt
    by_cases hi8 : i < 8
    · have hi1 : (i : Int) < 8 := by omega
      obtain ⟨g0, g1, g2, g3, g4, g5, g6, g7, g8⟩ := ss
      have hg : g8 = (b : Int) := st.sb
      subst hg
      obtain ⟨⟨y0, y1, y2, y3, y4⟩, y5⟩ := st.s
      go_wp2_with fail
      refine (power2_int b _ (by omega)).mono ?_
      rintro r' w1 ⟨neg1, a1, n1, c1, rfl, hint1, hb1⟩
      replace st := st.below hb1
      clear hb1 y0 y1 y2 y3 y4 y5 ls
      have l1 := st.s.lt
      obtain ⟨V1, hV1⟩ : ∃ V1, V1 = w1.alloc (.cells #[.bool neg1, .slice a1 n1 c1] 26) := ⟨_, rfl⟩
      have bV1 : Below w1.heap.size w1 V1 := by rw [hV1]; exact bl1 _ _
      have NP : NmC V1 w1.heap.size ⟨neg1, a1, n1, c1⟩ := by rw [hV1]; exact ⟨by simp [go_sem], by simp [go_sem]⟩
      replace st := st.below bV1
      replace hint1 := hint1.below bV1
      clear bV1
      go_wp2_with fail
      rw [← hV1]
      clear hV1
      have HST := hide st
      have HSP := hide st.sp
      have HP := hide hint1
      have hD0 : Below V1.heap.size V1 V1.drew := (Below.refl _ _).drew
      have HK := hide (show ∀ w', Below V1.heap.size V1 w' → (w'.cell? ⟨w.heap.size, 0, none⟩ = some (.bool g0) ∧ w'.cell? ⟨w.heap.size, 1, none⟩ = some (.slice g1 g2 g3) ∧ w'.cell? ⟨w.heap.size, 2, none⟩ = some (.bool g4) ∧ w'.cell? ⟨w.heap.size, 3, none⟩ = some (.slice g5 g6 g7) ∧ w'.cell? ⟨w.heap.size, 4, none⟩ = some (.int .i64 (b : Int)) ∧ w'.cell? ⟨w1.heap.size, 0, none⟩ = some (.bool neg1) ∧ w'.cell? ⟨w1.heap.size, 1, none⟩ = some (.slice a1 n1 c1)) from fun w' hB => ⟨(st.s.below hB).c.c0, (st.s.below hB).c.c1, (st.s.below hB).c.c2, (st.s.below hB).c.c3, (st.s.below hB).c.c4, (NP.below hB).c0, (NP.below hB).c1⟩)
      clear st hint1 NP
      refine AnyL.start (S := fun w' => w'.cell? ⟨w.heap.size, 0, none⟩ = some (.bool g0) ∧ w'.cell? ⟨w.heap.size, 1, none⟩ = some (.slice g1 g2 g3) ∧ w'.cell? ⟨w.heap.size, 2, none⟩ = some (.bool g4) ∧ w'.cell? ⟨w.heap.size, 3, none⟩ = some (.slice g5 g6 g7) ∧ w'.cell? ⟨w.heap.size, 4, none⟩ = some (.int .i64 (b : Int)) ∧ w'.cell? ⟨w1.heap.size, 0, none⟩ = some (.bool neg1) ∧ w'.cell? ⟨w1.heap.size, 1, none⟩ = some (.slice a1 n1 c1)) (l := 15) (by kernel_rfl) (unhide HK _ hD0) (fun hHeld => ?_)
      refine AnyL.take (i := 0) (oi := { dst := some 12, op := Go.Op.fieldAddr 36 (Go.Operand.tmp 1) 0, type := 0, pos := "func.go:93", after := #[], guard := none }) (v := .pointer (some ⟨w.heap.size, 0, none⟩)) rfl (by kernel_rfl) (by kernel_rfl) (by kernel_rfl) (by kernel_rfl) (fun _ _ _ h => h) (Or.inl ⟨by rfl, fun w hSw => ?_⟩) hHeld ?_
      · obtain ⟨s0, s1, s2, s3, s4, s5, s6⟩ := hSw; go_simp
      try simp only [Act.put, List.setIfInBounds_toArray, List.set_cons_zero, List.set_cons_succ]
      refine AnyL.take (i := 1) (oi := { dst := some 13, op := Go.Op.load 26 (Go.Operand.tmp 12), type := 26, pos := "func.go:93", after := #[{ on := 0, ground := Go.Ground.data }], guard := none }) (v := .agg #[.bool g0, .slice g1 g2 g3]) rfl (by kernel_rfl) (by kernel_rfl) (by kernel_rfl) (by kernel_rfl) (fun _ _ _ h => h) (Or.inl ⟨by rfl, fun w hSw => ?_⟩) hHeld ?_
      · obtain ⟨s0, s1, s2, s3, s4, s5, s6⟩ := hSw; go_simp
      try simp only [Act.put, List.setIfInBounds_toArray, List.set_cons_zero, List.set_cons_succ]
      refine AnyL.take (i := 2) (oi := { dst := some 14, op := Go.Op.load 26 (Go.Operand.tmp 4), type := 26, pos := "func.go:93", after := #[], guard := none }) (v := .agg #[.bool neg1, .slice a1 n1 c1]) rfl (by kernel_rfl) (by kernel_rfl) (by kernel_rfl) (by kernel_rfl) (fun _ _ _ h => h) (Or.inl ⟨by rfl, fun w hSw => ?_⟩) hHeld ?_
      · obtain ⟨s0, s1, s2, s3, s4, s5, s6⟩ := hSw; go_simp
      try simp only [Act.put, List.setIfInBounds_toArray, List.set_cons_zero, List.set_cons_succ]
      refine AnyL.take (i := 5) (oi := { dst := some 17, op := Go.Op.fieldAddr 36 (Go.Operand.tmp 1) 1, type := 0, pos := "func.go:93", after := #[], guard := none }) (v := .pointer (some ⟨w.heap.size, 2, none⟩)) rfl (by kernel_rfl) (by kernel_rfl) (by kernel_rfl) (by kernel_rfl) (fun _ _ _ h => h) (Or.inl ⟨by rfl, fun w hSw => ?_⟩) hHeld ?_
      · obtain ⟨s0, s1, s2, s3, s4, s5, s6⟩ := hSw; go_simp
      try simp only [Act.put, List.setIfInBounds_toArray, List.set_cons_zero, List.set_cons_succ]
      refine AnyL.take (i := 6) (oi := { dst := some 18, op := Go.Op.load 26 (Go.Operand.tmp 17), type := 26, pos := "func.go:93", after := #[{ on := 5, ground := Go.Ground.data }], guard := none }) (v := .agg #[.bool g4, .slice g5 g6 g7]) rfl (by kernel_rfl) (by kernel_rfl) (by kernel_rfl) (by kernel_rfl) (fun _ _ _ h => h) (Or.inl ⟨by rfl, fun w hSw => ?_⟩) hHeld ?_
      · obtain ⟨s0, s1, s2, s3, s4, s5, s6⟩ := hSw; go_simp
      try simp only [Act.put, List.setIfInBounds_toArray, List.set_cons_zero, List.set_cons_succ]
      refine AnyL.take (i := 7) (oi := { dst := some 19, op := Go.Op.load 26 (Go.Operand.tmp 4), type := 26, pos := "func.go:93", after := #[], guard := none }) (v := .agg #[.bool neg1, .slice a1 n1 c1]) rfl (by kernel_rfl) (by kernel_rfl) (by kernel_rfl) (by kernel_rfl) (fun _ _ _ h => h) (Or.inl ⟨by rfl, fun w hSw => ?_⟩) hHeld ?_
      · obtain ⟨s0, s1, s2, s3, s4, s5, s6⟩ := hSw; go_simp
      try simp only [Act.put, List.setIfInBounds_toArray, List.set_cons_zero, List.set_cons_succ]
      refine AnyL.take (i := 12) (oi := { dst := some 24, op := Go.Op.fieldAddr 36 (Go.Operand.tmp 1) 2, type := 0, pos := "func.go:93", after := #[], guard := none }) (v := .pointer (some ⟨w.heap.size, 4, none⟩)) rfl (by kernel_rfl) (by kernel_rfl) (by kernel_rfl) (by kernel_rfl) (fun _ _ _ h => h) (Or.inl ⟨by rfl, fun w hSw => ?_⟩) hHeld ?_
      · obtain ⟨s0, s1, s2, s3, s4, s5, s6⟩ := hSw; go_simp
      try simp only [Act.put, List.setIfInBounds_toArray, List.set_cons_zero, List.set_cons_succ]
      refine AnyL.take (i := 13) (oi := { dst := some 25, op := Go.Op.load 3 (Go.Operand.tmp 24), type := 3, pos := "func.go:93", after := #[{ on := 12, ground := Go.Ground.data }], guard := none }) (v := .int .i64 (b : Int)) rfl (by kernel_rfl) (by kernel_rfl) (by kernel_rfl) (by kernel_rfl) (fun _ _ _ h => h) (Or.inl ⟨by rfl, fun w hSw => ?_⟩) hHeld ?_
      · obtain ⟨s0, s1, s2, s3, s4, s5, s6⟩ := hSw; go_simp
      try simp only [Act.put, List.setIfInBounds_toArray, List.set_cons_zero, List.set_cons_succ]
      refine AnyL.one (i := 3) (o := { dst := some 15, op := Go.Op.call { callee := Go.Callee.value (Go.Operand.func 84), args := #[Go.Operand.tmp 13, Go.Operand.tmp 14], argTypes := #[26, 26] }, type := 26, pos := "func.go:93", after := #[{ on := 1, ground := Go.Ground.data }, { on := 2, ground := Go.Ground.data }], guard := none }) (by kernel_rfl) rfl (fun Kc hKc => ?_)
      go_simp
      refine (mul_int _ _ _ _ _ _ _ _ K (b / 16 + 5) c.1 (Q b) _ ((unhide HSP).lo.below hD0) ((unhide HP).below hD0) (by omega) (by omega)).mono ?_
      rintro r' v1 ⟨neg9, a9, n9, c9, rfl, h1, hb⟩
      have hD1 := bthen hD0 hb
      clear hb
      go_wp2_with fail
      refine hKc.out _ _ (unhide HK _ hD1) (fun hHeld => ?_)
      clear hKc Kc
      try simp only [Act.put, List.setIfInBounds_toArray, List.set_cons_zero, List.set_cons_succ]
      refine AnyL.one (i := 4) (o := { dst := some 16, op := Go.Op.call { callee := Go.Callee.value (Go.Operand.func 162), args := #[Go.Operand.tmp 15], argTypes := #[26] }, type := 26, pos := "func.go:93", after := #[{ on := 3, ground := Go.Ground.data }, { on := 3, ground := Go.Ground.chain }], guard := none }) (by kernel_rfl) rfl (fun Kc hKc => ?_)
      go_simp
      refine (root_int _ _ _ _ _ (c.1 * Q b) _ h1 (by omega)).mono ?_
      rintro r' v2 ⟨z, hz, neg2, a2, n2, c2, rfl, h2, hb⟩
      have hD2 := bthen hD1 hb
      clear hb
      have HZ := hide hz; clear hz h1
      go_wp2_with fail
      refine hKc.out _ _ (unhide HK _ hD2) (fun hHeld => ?_)
      clear hKc Kc
      try simp only [Act.put, List.setIfInBounds_toArray, List.set_cons_zero, List.set_cons_succ]
      refine AnyL.one (i := 8) (o := { dst := some 20, op := Go.Op.call { callee := Go.Callee.value (Go.Operand.func 84), args := #[Go.Operand.tmp 18, Go.Operand.tmp 19], argTypes := #[26, 26] }, type := 26, pos := "func.go:93", after := #[{ on := 6, ground := Go.Ground.data }, { on := 7, ground := Go.Ground.data }, { on := 4, ground := Go.Ground.chain }], guard := none }) (by kernel_rfl) rfl (fun Kc hKc => ?_)
      go_simp
      refine (mul_int _ _ _ _ _ _ _ _ K (b / 16 + 5) c.2 (Q b) _ ((unhide HSP).hi.below hD2) ((unhide HP).below hD2) (by omega) (by omega)).mono ?_
      rintro r' v3 ⟨neg3, a3, n3, c3, rfl, h3, hb⟩
      have hD3 := bthen hD2 hb
      replace h2 := h2.below hb
      clear hb
      go_wp2_with fail
      refine hKc.out _ _ (unhide HK _ hD3) (fun hHeld => ?_)
      clear hKc Kc
      try simp only [Act.put, List.setIfInBounds_toArray, List.set_cons_zero, List.set_cons_succ]
      refine AnyL.one (i := 9) (o := { dst := some 21, op := Go.Op.call { callee := Go.Callee.value (Go.Operand.func 162), args := #[Go.Operand.tmp 20], argTypes := #[26] }, type := 26, pos := "func.go:93", after := #[{ on := 8, ground := Go.Ground.data }, { on := 8, ground := Go.Ground.chain }], guard := none }) (by kernel_rfl) rfl (fun Kc hKc => ?_)
      go_simp
      refine (root_int _ _ _ _ _ (c.2 * Q b) _ h3 (by omega)).mono ?_
      rintro r' v4 ⟨t, ht, neg4, a4, n4, c4, rfl, h4, hb⟩
      have hD4 := bthen hD3 hb
      replace h2 := h2.below hb
      clear hb
      have HT := hide ht; clear ht h3
      go_wp2_with fail
      refine hKc.out _ _ (unhide HK _ hD4) (fun hHeld => ?_)
      clear hKc Kc
      try simp only [Act.put, List.setIfInBounds_toArray, List.set_cons_zero, List.set_cons_succ]
      refine AnyL.one (i := 10) (o := { dst := some 22, op := Go.Op.call { callee := Go.Callee.value (Go.Operand.func 48), args := #[Go.Operand.const (Go.Value.int Go.IntKind.i64 1)], argTypes := #[3] }, type := 26, pos := "func.go:93", after := #[{ on := 9, ground := Go.Ground.chain }], guard := none }) (by kernel_rfl) rfl (fun Kc hKc => ?_)
      go_simp
      refine (numOf_int 1 _ (by decide) (by decide)).mono ?_
      rintro r' v5 ⟨neg5, a5, n5, c5, rfl, h5, hb⟩
      have hD5 := bthen hD4 hb
      replace h2 := h2.below hb
      replace h4 := h4.below hb
      clear hb
      go_wp2_with fail
      refine hKc.out _ _ (unhide HK _ hD5) (fun hHeld => ?_)
      clear hKc Kc
      try simp only [Act.put, List.setIfInBounds_toArray, List.set_cons_zero, List.set_cons_succ]
      refine AnyL.one (i := 11) (o := { dst := some 23, op := Go.Op.call { callee := Go.Callee.value (Go.Operand.func 86), args := #[Go.Operand.tmp 21, Go.Operand.tmp 22], argTypes := #[26, 26] }, type := 26, pos := "func.go:93", after := #[{ on := 9, ground := Go.Ground.data }, { on := 10, ground := Go.Ground.data }, { on := 10, ground := Go.Ground.chain }], guard := none }) (by kernel_rfl) rfl (fun Kc hKc => ?_)
      go_simp
      refine (add_int _ _ _ _ _ _ _ _ _ _ t 1 _ h4 h5 (by omega) (by omega)).mono ?_
      rintro r' v6 ⟨neg6, a6, n6, c6, rfl, h6, hb⟩
      have hD6 := bthen hD5 hb
      replace h2 := h2.below hb
      clear hb
      clear h4 h5
      go_wp2_with fail
      refine hKc.out _ _ (unhide HK _ hD6) (fun hHeld => ?_)
      clear hKc Kc
      try simp only [Act.put, List.setIfInBounds_toArray, List.set_cons_zero, List.set_cons_succ]
      refine AnyL.take (i := 14) (oi := { dst := some 26, op := Go.Op.build 36 #[(0, Go.Operand.tmp 16), (1, Go.Operand.tmp 23), (2, Go.Operand.tmp 25)], type := 36, pos := "func.go:93", after := #[{ on := 4, ground := Go.Ground.data }, { on := 11, ground := Go.Ground.data }, { on := 13, ground := Go.Ground.data }], guard := none }) (v := .agg #[.bool neg2, .slice a2 n2 c2, .bool neg6, .slice a6 n6 c6, .int .i64 (b : Int)]) rfl (by kernel_rfl) (by kernel_rfl) (by kernel_rfl) (by kernel_rfl) (fun _ _ _ h => h) (Or.inl ⟨by rfl, fun w hSw => ?_⟩) hHeld ?_
      · obtain ⟨s0, s1, s2, s3, s4, s5, s6⟩ := hSw; go_simp
      try simp only [Act.put, List.setIfInBounds_toArray, List.set_cons_zero, List.set_cons_succ]
      refine AnyL.last (o := { dst := none, op := Go.Op.store 36 (Go.Operand.tmp 1) (Go.Operand.tmp 26), type := 0, pos := "func.go:93", after := #[{ on := 14, ground := Go.Ground.data }, { on := 11, ground := Go.Ground.chain }, { on := 0, ground := Go.Ground.phase }, { on := 1, ground := Go.Ground.phase }, { on := 2, ground := Go.Ground.phase }, { on := 3, ground := Go.Ground.phase }, { on := 4, ground := Go.Ground.phase }, { on := 5, ground := Go.Ground.phase }, { on := 6, ground := Go.Ground.phase }, { on := 7, ground := Go.Ground.phase }, { on := 8, ground := Go.Ground.phase }, { on := 9, ground := Go.Ground.phase }, { on := 10, ground := Go.Ground.phase }, { on := 11, ground := Go.Ground.phase }, { on := 12, ground := Go.Ground.phase }, { on := 13, ground := Go.Ground.phase }, { on := 14, ground := Go.Ground.phase }], guard := none }) (by kernel_rfl) rfl (by kernel_rfl) (fun Kc hKc => ?_)
      obtain ⟨y0, y1, y2, y3, y4, _, _⟩ := hHeld
      have y5 := ((unhide HST).s.below hD6).fz
      have lD := ((unhide HST).s.below hD6).lt
      go_simp
      refine hKc.out _ _ ?_
      clear hKc Kc
      have stn : RootSt w (put5w v6 w.heap.size ⟨neg2, a2, n2, c2, neg6, a6, n6, c6, (b : Int)⟩) b K (i + 1) l ⟨neg2, a2, n2, c2, neg6, a6, n6, c6, (b : Int)⟩ (z, t + 1) := by
        have st := (unhide HST).below hD6
        have hq := Q_pos b
        have cc1 := st.iv.lo
        have cc2 := st.iv.le
        have m1 := Int.mul_pos (show 0 < c.1 by omega) (show 0 < Q b by omega)
        have m2 := Int.mul_pos (show 0 < c.2 by omega) (show 0 < Q b by omega)
        obtain ⟨z0, _, z1⟩ := unhide HZ
        obtain ⟨t0, _, t1⟩ := unhide HT
        have iv := rinv_step hl st.iv z0 (z1 m1).1 (z1 m1).2 t0 (t1 m2).1 (t1 m2).2
        have sp0 : SpAt v6 ⟨neg2, a2, n2, c2, neg6, a6, n6, c6, (b : Int)⟩ (2 * K + b + 100) z (t + 1) := ⟨h2.mono (by omega), h6.mono (by omega)⟩
        have hh := iv.hi
        have qi := Q_pos (i + 1)
        have hhi : t + 1 ≤ 2 * Q b + 2 := by
          refine Int.not_lt.1 fun hn => ?_
          have := Int.mul_le_mul_of_nonneg_left (show 1 ≤ Q (i + 1) by omega) (show 0 ≤ t + 1 - Q b - 2 by omega)
          simp only [] at hh
          omega
        have q20 : Q (b + 20) = Q b * 1048576 := by rw [Q_add]; rfl
        have sp1 := sp0.fits (K := K) iv.le (by have := iv.lo; simp only [] at this; omega) (by omega)
        exact ⟨st.s.put _, sp1.put st.s.c _, rfl, iv, st.no.off (by omega) _, below_put st.be (Nat.le_refl _) _⟩
      unfold put5w at stn
      go_wp2_with fail
      go_roundw
      case rel => exact ⟨i + 1, _, _, by go_num, by omega, stn⟩
      case measure => simp [intOf]; omega
    · have HI := hide (show i = 8 by omega)
      have hi1 : ¬ (i : Int) < 8 := by omega
      clear hi hi8
      obtain ⟨g0, g1, g2, g3, g4, g5, g6, g7, g8⟩ := ss
      have hg : g8 = (b : Int) := st.sb
      subst hg
      have R := st.no
      have hBr := st.be
      have lR := R.lt
      have HSP := hide st.sp
      have HIV := hide (show RInv b l 8 c by have h := st.iv; rw [unhide HI] at h; exact h)
      have HF := hide (show -P K < c.1 - Q b ∧ c.2 - Q b < P K by
        obtain ⟨⟨f1, f2, f3, f4⟩, _, _, _⟩ := rinv_end (show 10 ≤ b by omega) (unhide HIV) (show Q 8 = 256 from rfl)
        have := Q_mono (show b - 6 ≤ b + 20 by omega)
        simp only [] at f1 f2 f3 f4
        omega)
      have HK := hide (show ∀ w', Below wr.heap.size wr w' → (w'.cell? ⟨w.heap.size, 0, none⟩ = some (.bool g0) ∧ w'.cell? ⟨w.heap.size, 1, none⟩ = some (.slice g1 g2 g3) ∧ w'.cell? ⟨w.heap.size, 2, none⟩ = some (.bool g4) ∧ w'.cell? ⟨w.heap.size, 3, none⟩ = some (.slice g5 g6 g7) ∧ w'.cell? ⟨w.heap.size, 4, none⟩ = some (.int .i64 (b : Int))) from fun w' hB => ⟨(st.s.below hB).c.c0, (st.s.below hB).c.c1, (st.s.below hB).c.c2, (st.s.below hB).c.c3, (st.s.below hB).c.c4⟩)
      have HE := hide (rinv_end (show 10 ≤ b by omega) (unhide HIV) (show Q 8 = 256 from rfl))
      clear st
      obtain ⟨y0, y1, y2, y3, y4⟩ := unhide HK _ (Below.refl _ _)
      have n01 : w.heap.size ≠ w.heap.size + 1 := by omega
      have n10 : w.heap.size + 1 ≠ w.heap.size := by omega
      have hD0 : Below wr.heap.size wr wr.drew := (Below.refl _ _).drew
      go_wp2_with fail
      go_region_held3 (fun w' => w'.cell? ⟨w.heap.size, 0, none⟩ = some (.bool g0) ∧ w'.cell? ⟨w.heap.size, 1, none⟩ = some (.slice g1 g2 g3) ∧ w'.cell? ⟨w.heap.size, 2, none⟩ = some (.bool g4) ∧ w'.cell? ⟨w.heap.size, 3, none⟩ = some (.slice g5 g6 g7) ∧ w'.cell? ⟨w.heap.size, 4, none⟩ = some (.int .i64 (b : Int))) (first | exact unhide HK _ (by first | with_reducible exact hD0 | with_reducible exact hD6 | with_reducible exact hD5 | with_reducible exact hD4 | with_reducible exact hD3 | with_reducible exact hD2 | with_reducible exact hD1) | go_keep)
        (first
          | (go_at_call 106; have hq := hD5; refine (refBy _ v3 ⟨neg4, a4, n4, c4⟩ ⟨neg5, a5, n5, c5⟩ (K + 1) _ _ b _ 256 1 hs3 hint4 hint5 (by omega) (by omega) (by omega) (by omega) (unhide HB3)).mono ?_; rintro r' w6 ⟨v6, rfl, hsb6, hs6, hb6⟩; have HB6 := hide hsb6; clear hsb6; have hD6 := bthen hD5 hb6; obtain ⟨q0, q1, q2, q3, q4, q5⟩ := R.below hD6)
          | (go_at_call 48; have hq := hD4; refine (numOf_int 1 _ (by decide) (by decide)).mono ?_; rintro r' w5 ⟨neg5, a5, n5, c5, rfl, hint5, hb5⟩; have hD5 := bthen hD4 hb5; replace hs3 := hs3.below hb5; replace hint4 := hint4.below hb5)
          | (go_at_call 48; have hq := hD3; refine (numOf_int 256 _ (by decide) (by decide)).mono ?_; rintro r' w4 ⟨neg4, a4, n4, c4, rfl, hint4, hb4⟩; have hD4 := bthen hD3 hb4; replace hs3 := hs3.below hb4)
          | (go_at_call 167; have hq := hD2; refine (nearLog_iv _ v2 K b K (c.1 - Q b, c.2 - Q b) hs2 (unhide HB2) (Nat.le_refl _) (unhide HE).2.1 ((unhide HE).1.mono (Q_mono (by omega))) hb (by omega) hK (by omega) (by omega)).mono ?_; rintro r' w3 ⟨N, hN0, hN, v3, rfl, hsb3, hs3, hb3⟩; have HN0 := hide hN0; have HB3 := hide hsb3; have HN := hide hN; clear hsb3 hN hN0; have hD3 := bthen hD2 hb3)
          | (go_at_call 16; have hq := hD1; refine (refLess_iv _ ⟨g0, g1, g2, g3, g4, g5, g6, g7, (b : Int)⟩ v1 K b c (1 * Q b, 1 * Q b) ((unhide HSP).below hD1) (hs1.mono (by omega)) (by omega) rfl).mono ?_; rintro r' w2 ⟨v2, rfl, hsb2, hs2, hb22⟩; have HB2 := hide hsb2; clear hsb2; have hD2 := bthen hD1 hb22; rw [show subI c (1 * Q b, 1 * Q b) = (c.1 - Q b, c.2 - Q b) by unfold subI; simp only [Int.one_mul]] at hs2; replace hs2 := hs2.fits (K := K) (unhide HE).2.1 (unhide HF).1 (unhide HF).2)
          | (go_at_call 17; refine (refWhole _ 1 b hb (by decide) (by decide)).mono ?_; rintro r' w1 ⟨v1, rfl, hsb1, hs1, hb1⟩; have HB1 := hide hsb1; clear hsb1; have hD1 := bthen hD0 hb1))
      all_goals
        have HAB := hide (rootLog_abs hb2 (unhide HIV) (show Q 8 = 256 from rfl) (unhide HN0))
        have HO := hide (rootLog_has hl (by omega) (unhide HIV) (show Q 8 = 256 from rfl) rfl (unhide HN))
        rw [byI_nonneg (add_le2 (nsT_le (unhide HE).2.1 N)) (by omega)] at hs6
        go_wp2_with fail
        refine bodyPost_ret (v := .agg #[.bool v6.ln, .slice v6.la v6.lN v6.lc, .bool v6.hn, .slice v6.ha v6.hN v6.hc, .int .i64 v6.bits]) (by simp [results, Try.results149, go_sem, q0, q1, q2, q3, q4]) rfl ⟨_, unhide HO, unhide HAB, v6, rfl, unhide HB6, ?_, ?_⟩
        · exact SpAt.put5 (hs6.mono (by omega)) q0 q1 q2 q3 q4 _ _ _ _ _
        · exact set5 (bthen hBr hD6) (Nat.le_succ _) _ _ _ _ _
end Go.Proofs.Ytgmnknmjainabab
