/-
  Texts Logs, GauN, ErfI, ErfG, Lst, Msa, Erx, ErfV, GamN, Logw: what they hold is told in the last text.
-/
import Derived.Deep.RegionHeld3
import Derived.Test.YtgmnknmjainababK15
set_option linter.unnecessarySimpa false
set_option linter.unusedSimpArgs false
set_option linter.unusedVariables false
namespace Go.Proofs.Ytgmnknmjainabab
open Go.RowKit
attribute [local go_sem ↓] Go.wp_at_zero Go.wp_at_succ
theorem scale_iv (w : World) (s : Sp) (x y : Nm) (k k1 k2 b : Nat) (a : Int × Int) (n d : Int) (hs : SpAt w s k a.1 a.2) (h1 : IntAt w x.neg x.a x.n x.cap k1 n) (h2 : IntAt w y.neg y.a y.n y.cap k2 d) (hk : k ≤ 300000000) (hk1 : k1 ≤ 300000000) (hd : 0 < d) (hb : s.bits = (b : Int)) :
    Calls Try.prog 99 #[.agg #[.bool s.ln, .slice s.la s.lN s.lc, .bool s.hn, .slice s.ha s.hN s.hc, .int .i64 s.bits], .agg #[.bool x.neg, .slice x.a x.n x.cap], .agg #[.bool y.neg, .slice y.a y.n y.cap]] w (SpanAns w b (k + k1 + 10) (scaleI a n d).1 (scaleI a n d).2) :=
  (scale_int w s _ _ _ _ _ _ _ _ k k1 k2 a.1 a.2 n d hs h1 h2 hk hk1 hd).mono fun r w' h => by rw [hb] at h; exact h
set_option maxRecDepth 100000 in
set_option maxHeartbeats 2000000 in
theorem ln1_iv (w : World) (B0 : Nat) (s u : Sp) (k b : Nat) (n : Int) (a c : Int × Int) (hs : SpAt w s k a.1 a.2) (hu : SpAt w u k c.1 c.2) (hU : SpC w B0 u) (hk : k ≤ 100000000) (hb : s.bits = (b : Int)) (hbm : b ≤ 1000000) (hn : 1 ≤ n) (hn2 : n ≤ 1000000000000) :
    Calls Try.prog 169 #[.agg #[.bool s.ln, .slice s.la s.lN s.lc, .bool s.hn, .slice s.ha s.hN s.hc, .int .i64 s.bits], .int .i64 n, .pointer (some ⟨B0, 0, none⟩)] w (SpanAns w b (k + k + 8 + 4 + 10) (scaleI (mulI b a c) (2 * n - 1) (2 * n + 1)).1 (scaleI (mulI b a c) (2 * n - 1) (2 * n + 1)).2) := by
  obtain ⟨W, hW⟩ : ∃ W, W = (w.alloc (.cells #[.bool s.ln, .slice s.la s.lN s.lc, .bool s.hn, .slice s.ha s.hN s.hc, .int .i64 s.bits] 28)).alloc (.cells #[.bool false, .slice none 0 0, .bool false, .slice none 0 0, .int .i64 0] 28) := ⟨_, rfl⟩
  have hBW : Below w.heap.size w W := by rw [hW]; exact bl2 _ _ _
  have R : NoC W (w.heap.size + 1) := by rw [hW]; exact ⟨by simp [go_sem], by simp [go_sem], by simp [go_sem], by simp [go_sem], by simp [go_sem], fun o => by simp [go_sem]⟩
  have HS := hide (hs.below hBW)
  have HU := hide (hu.below hBW)
  have l0 := hU.lt
  obtain ⟨y0, y1, y2, y3, y4⟩ := hU
  have HB := hide hb
  clear hs hu hb
  go_enter Try.func169, Try.ntmps169
  go_wp2_with fail
  rw [← hW]
  clear hW
  refine (mul_iv _ s u k b a c (unhide HS) (unhide HU) (by omega) (unhide HB) hbm).mono ?_
  rintro r' w1 ⟨v, rfl, hvb, hvp, hb1⟩
  have HV := hide hvb
  clear hvb y0 y1 y2 y3 y4
  replace R := R.below hb1
  replace hBW := bthen hBW hb1
  go_wp2_with fail
  refine (numOf_int (2 * n - 1) _ (by omega) (by omega)).mono ?_
  rintro r' w2 ⟨neg2, a2, n2, c2, rfl, hint2, hb2⟩
  replace R := R.below hb2
  replace hBW := bthen hBW hb2
  replace hvp := hvp.below hb2
  go_wp2_with fail
  refine (numOf_int (2 * n + 1) _ (by omega) (by omega)).mono ?_
  rintro r' w3 ⟨neg3, a3, n3, c3, rfl, hint3, hb3⟩
  replace R := R.below hb3
  replace hBW := bthen hBW hb3
  replace hvp := hvp.below hb3
  replace hint2 := hint2.below hb3
  go_wp2_with fail
  refine (scale_iv _ v ⟨neg2, a2, n2, c2⟩ ⟨neg3, a3, n3, c3⟩ _ _ _ b _ (2 * n - 1) (2 * n + 1) hvp hint2 hint3 (by omega) (by omega) (by omega) (unhide HV)).mono ?_
  rintro r' w4 ⟨t, rfl, htb, htp, hb4⟩
  obtain ⟨q0, q1, q2, q3, q4, q5⟩ := R.below hb4
  replace hBW := bthen hBW hb4
  have HT := hide htb
  clear htb
  go_wp2_with fail
  refine bodyPost_ret (v := .agg #[.bool t.ln, .slice t.la t.lN t.lc, .bool t.hn, .slice t.ha t.hN t.hc, .int .i64 t.bits]) (by simp [results, Try.results169, go_sem, q0, q1, q2, q3, q4]) rfl ⟨t, rfl, unhide HT, ?_, ?_⟩
  · exact SpAt.put5 (htp.mono (by omega)) q0 q1 q2 q3 q4 _ _ _ _ _
  · exact set5 hBW (Nat.le_succ _) _ _ _ _ _
set_option maxRecDepth 100000 in
set_option maxHeartbeats 4000000 in
theorem sum_ln (p1 : Value) (f : Nat → Int × Int) (N b K KF : Nat) (s : Sp) (W : World) (hs : SpAt W s K (f 0).1 (f 0).2) (hbits : s.bits = (b : Int)) (hb : b ≤ 1000000) (hK : K ≤ 100000000) (hKF : KF ≤ 900000000) (hN : IsStop f N) (hNb : N ≤ 1000000000)
    (hle : ∀ n, (f n).1 ≤ (f n).2) (hfit : ∀ n, n ≤ N → -P K < (f n).1 ∧ (f n).2 < P K) (hfitS : ∀ n, n ≤ N → -P K < (sumI f n).1 ∧ (sumI f n).2 < P K)
    (hF : ∀ (n : Nat) (u : Sp) w', n < N → u.bits = (b : Int) → SpAt w' u K (f n).1 (f n).2 → Below W.heap.size W w' → Calls Try.prog 169 #[.agg #[.bool u.ln, .slice u.la u.lN u.lc, .bool u.hn, .slice u.ha u.hN u.hc, .int .i64 u.bits], .int .i64 ((n : Int) + 1), p1] w' (SpanAns w' b KF (f (n + 1)).1 (f (n + 1)).2)) :
    Calls Try.prog 159 #[.agg #[.bool s.ln, .slice s.la s.lN s.lc, .bool s.hn, .slice s.ha s.hN s.hc, .int .i64 s.bits], .func (.func 169) #[] #[p1]] W (SpanAns W b (K + 3) (doneI f N).1 (doneI f N).2) := by
  have HF := hide hF
  have HN := hide hN
  have HBT := hide hbits
  clear hF hN hbits
  obtain ⟨V, hV⟩ : ∃ V, V = (W.alloc (.cells #[.bool s.ln, .slice s.la s.lN s.lc, .bool s.hn, .slice s.ha s.hN s.hc, .int .i64 s.bits] 28)).alloc (.cells #[.bool false, .slice none 0 0, .bool false, .slice none 0 0, .int .i64 0] 28) := ⟨_, rfl⟩
  have hBV : Below W.heap.size W V := by rw [hV]; exact bl2 _ _ _
  have A : SpC V W.heap.size s := by rw [hV]; exact ⟨by simp [go_sem], by simp [go_sem], by simp [go_sem], by simp [go_sem], by simp [go_sem]⟩
  have R : NoC V (W.heap.size + 1) := by rw [hV]; exact ⟨by simp [go_sem], by simp [go_sem], by simp [go_sem], by simp [go_sem], by simp [go_sem], fun o => by simp [go_sem]⟩
  have HS := hide (hs.below hBV)
  have lA := A.lt
  have lR := R.lt
  clear hs
  go_enter Try.func159, Try.ntmps159
  go_wp2
  rw [← hV]
  clear hV
  go_cut [5, 6] (fun p q wx => TwoS V wx s s p q)
  case first =>
    obtain ⟨x0, x1, x2, x3, x4⟩ := A
    go_region
    all_goals
      go_wp2_with fail
      go_meet
      first
        | with_reducible exact twoS_a _ _ _ _
        | with_reducible exact twoS_b _ _ _ _
  case rest =>
  obtain ⟨B5, B6, rfl, rfl, l5, l6, hne, X, Y, hB⟩ := hcut
  have n5 : W.heap.size + 1 < B5 := by omega
  have n6 : W.heap.size + 1 < B6 := by omega
  have st0 : SumSt W wc B5 B6 b K s s s f 0 := ⟨X, Y, (unhide HS).below hB, (unhide HS).below hB, unhide HBT, unhide HBT, A.below hB, R.below hB, bthen hBV hB, n5, n6, hne⟩
  clear X Y hB A R HS l5 l6 n5 n6 hne hBV lA lR
  go_wp2_with fail
  go_loopw [7] (fun nn wr => ∃ (i : Nat) (X Y : Sp), nn = .int .i64 ((i : Int) + 1) ∧ i ≤ N ∧ SumSt W wr B5 B6 b K s X Y f i) (fun nn _ => N + 1 - (intOf nn).toNat)
  case atStart => exact ⟨0, s, s, rfl, Nat.zero_le _, st0⟩
  case round =>
    obtain ⟨i, X, Y, rfl, hi, st⟩ := hrel
    have hr0 := reach_pair (hle i)
    obtain ⟨⟨y0, y1, y2, y3, y4⟩, y5⟩ := st.y
    go_wp2_with fail
    refine (reach_int _ Y K _ _ st.yp (by omega)).mono ?_
    rintro r w1 ⟨neg1, a1, n1, c1, rfl, hint1, hb1⟩
    replace st := st.below hb1
    clear hb1 y0 y1 y2 y3 y4 y5
    go_wp2_with fail
    refine (len_int _ _ _ _ _ (reachI (f i)) _ hint1 hr0).mono ?_
    rintro r w2 ⟨l, hlen, rfl, hb2⟩
    replace st := st.below hb2
    clear hb2 hint1
    by_cases hin : i < N
    · have hl : 1 < l := by
        refine Int.not_le.1 fun hl => ?_
        have := len_one hlen hl hr0
        have := (unhide HN).2 i hin
        omega
      clear hlen
      obtain ⟨⟨y0, y1, y2, y3, y4⟩, y5⟩ := st.y
      go_wp2_with fail
      refine (unhide HF i Y _ hin st.yb st.yp st.be).mono ?_
      rintro r w3 ⟨u, rfl, hub, hup, hb3⟩
      replace st := st.below hb3
      replace hup := hup.fits (K := K) (hle _) (hfit _ (by omega)).1 (hfit _ (by omega)).2
      have HU := hide hub
      clear hb3 y0 y1 y2 y3 y4 y5 hub
      obtain ⟨V3, hV3⟩ : ∃ V3, V3 = put5w w3 B6 u := ⟨_, rfl⟩
      have X3 : VrC V3 B5 X := by rw [hV3]; exact st.x.off st.ne u
      have Y3 : VrC V3 B6 u := by rw [hV3]; exact st.y.put u
      have P3 : SpAt V3 X K (sumI f i).1 (sumI f i).2 := by rw [hV3]; exact st.xp.put st.y.c u
      have U3 : SpAt V3 u K (f (i + 1)).1 (f (i + 1)).2 := by rw [hV3]; exact hup.put st.y.c u
      have F3 : SpC V3 W.heap.size s := by rw [hV3]; exact st.fs.off (by have := st.l6; omega) u
      have R3 : NoC V3 (W.heap.size + 1) := by rw [hV3]; exact st.no.off (by have := st.l6; omega) u
      have B3 : Below W.heap.size W V3 := by rw [hV3]; exact below_put st.be (by have := st.l6; omega) u
      have xb := hide st.xb
      have l5 := st.l5
      have l6 := st.l6
      have hne := st.ne
      have lY := st.y.lt
      have lX := st.x.lt
      obtain ⟨⟨y0, y1, y2, y3, y4⟩, y5⟩ := st.y
      obtain ⟨⟨x0, x1, x2, x3, x4⟩, x5⟩ := st.x
      clear st hup
      go_wp2_with fail
      have hV3' : V3 = put5w w3 B6 u := hV3
      unfold put5w at hV3'
      rw [← hV3']
      clear hV3' y0 y1 y2 y3 y4 y5 x0 x1 x2 x3 x4 x5
      have lX3 : B5 < V3.heap.size := X3.lt
      refine (add_iv _ X u K b (sumI f i) (f (i + 1)) P3 U3 (by omega) (unhide xb)).mono ?_
      rintro r w4 ⟨v, rfl, hvb, hvp, hb4⟩
      have X4 := X3.below hb4
      have Y4 := Y3.below hb4
      have U4 := U3.below hb4
      have F4 := F3.below hb4
      have R4 := R3.below hb4
      have B4 := bthen B3 hb4
      have e : addI (sumI f i) (f (i + 1)) = sumI f (i + 1) := rfl
      rw [e] at hvp
      replace hvp := hvp.fits (K := K) (sum_le hle _) (hfitS _ (by omega)).1 (hfitS _ (by omega)).2
      have HV := hide hvb
      clear hb4 hvb X3 Y3 P3 U3 F3 R3 B3 hV3
      have stn : SumSt W (put5w w4 B5 v) B5 B6 b K s v u f (i + 1) := ⟨X4.put v, Y4.off (Ne.symm hne) v, hvp.put X4.c v, U4.put X4.c v, unhide HV, unhide HU, F4.off (by omega) v, R4.off (by omega) v, below_put B4 (by omega) v, l5, l6, hne⟩
      unfold put5w at stn
      obtain ⟨⟨x0, x1, x2, x3, x4⟩, x5⟩ := X4
      go_wp2_with fail
      go_roundw
      case rel => exact ⟨i + 1, v, u, by go_num, by omega, stn⟩
      case measure => simp [intOf]; omega
    · have hie : i = N := by omega
      subst hie
      have hl : ¬ 1 < l := by
        have h1 := (unhide HN).1
        intro hl
        obtain ⟨g1, g2, g3⟩ := hlen
        by_cases hp : 0 < reachI (f i)
        · obtain ⟨L, e1, e2, e3⟩ := g3 hp
          have : 1 ≤ L := by omega
          have := Q_mono this
          have : Q 1 = 2 := rfl
          omega
        · have := g2 (by omega); omega
      clear hlen
      obtain ⟨⟨y0, y1, y2, y3, y4⟩, y5⟩ := st.y
      go_wp2_with fail
      refine (reach_int _ Y K _ _ st.yp (by omega)).mono ?_
      rintro r w3 ⟨neg3, a3, n3, c3, rfl, hint3, hb3⟩
      replace st := st.below hb3
      clear hb3 y0 y1 y2 y3 y4 y5
      obtain ⟨V3, hV3⟩ : ∃ V3, V3 = w3.alloc (.cells #[.bool neg3, .slice a3 n3 c3] 26) := ⟨_, rfl⟩
      have bV : Below w3.heap.size w3 V3 := by rw [hV3]; exact bl1 _ _
      have L3 : NmC V3 w3.heap.size ⟨neg3, a3, n3, c3⟩ := by rw [hV3]; exact nmc_new w3 ⟨neg3, a3, n3, c3⟩ _
      have st3 := st.below bV
      have HI := hide (hint3.below bV)
      have l5 := st.l5
      have lX := st.x.lt
      have HKr := hide (show ∀ w', Below V3.heap.size V3 w' → (w'.cell? ⟨B5, 0, none⟩ = some (.bool X.ln) ∧ w'.cell? ⟨B5, 1, none⟩ = some (.slice X.la X.lN X.lc) ∧ w'.cell? ⟨B5, 2, none⟩ = some (.bool X.hn) ∧ w'.cell? ⟨B5, 3, none⟩ = some (.slice X.ha X.hN X.hc) ∧ w'.cell? ⟨B5, 4, none⟩ = some (.int .i64 X.bits) ∧ w'.cell? ⟨w3.heap.size, 0, none⟩ = some (.bool neg3) ∧ w'.cell? ⟨w3.heap.size, 1, none⟩ = some (.slice a3 n3 c3) ∧ w'.cell? ⟨W.heap.size, 4, none⟩ = some (.int .i64 s.bits)) from fun w' hB => ⟨(st3.x.c.below hB).c0, (st3.x.c.below hB).c1, (st3.x.c.below hB).c2, (st3.x.c.below hB).c3, (st3.x.c.below hB).c4, (L3.below hB).c0, (L3.below hB).c1, (st3.fs.below hB).c4⟩)
      have lL := L3.lt
      have R3 := st3.no
      have lR3 := R3.lt
      clear st L3 hint3
      go_wp2_with fail
      rw [← hV3]
      clear hV3
      obtain ⟨x0, x1, x2, x3, x4, x5, x6, x7⟩ := unhide HKr _ (Below.refl _ _)
      have hD0 : Below V3.heap.size V3 V3.drew := (Below.refl _ _).drew
      have nR1 : W.heap.size + 1 ≠ B5 := by omega
      have nR2 : W.heap.size + 1 ≠ w3.heap.size := by omega
      have nR3 : W.heap.size + 1 ≠ W.heap.size := by omega
      go_region_held3 (fun w' => w'.cell? ⟨B5, 0, none⟩ = some (.bool X.ln) ∧ w'.cell? ⟨B5, 1, none⟩ = some (.slice X.la X.lN X.lc) ∧ w'.cell? ⟨B5, 2, none⟩ = some (.bool X.hn) ∧ w'.cell? ⟨B5, 3, none⟩ = some (.slice X.ha X.hN X.hc) ∧ w'.cell? ⟨B5, 4, none⟩ = some (.int .i64 X.bits) ∧ w'.cell? ⟨w3.heap.size, 0, none⟩ = some (.bool neg3) ∧ w'.cell? ⟨w3.heap.size, 1, none⟩ = some (.slice a3 n3 c3) ∧ w'.cell? ⟨W.heap.size, 4, none⟩ = some (.int .i64 s.bits)) (first | exact unhide HKr _ (by first | with_reducible exact hD0 | with_reducible exact hD2 | with_reducible exact hD1) | go_keep)
        (first
          | (go_at_call 56; have hq := hD1; refine (add_iv _ X ⟨neg4, a4, n4, c4, neg3, a3, n3, c3, s.bits⟩ (K + 1) b (sumI f i) (-reachI (f i), reachI (f i)) ((st3.xp.below hD1).mono (by omega)) ⟨hint4, (unhide HI).below hD1⟩ (by omega) st3.xb).mono ?_; rintro r' w5 ⟨v, rfl, hvb, hvp, hb5⟩; have hD2 := bthen hD1 hb5; have HV := hide hvb; clear hvb; obtain ⟨q0, q1, q2, q3, q4, q5⟩ := R3.below hD2; obtain ⟨y0, y1, y2, y3, y4, y5, y6, y7⟩ := unhide HKr _ hD2)
          | (go_at_call 83; refine (neg_int _ _ _ _ (K + 1) (reachI (f i)) _ ((unhide HI).below hD0) (by omega)).mono ?_; rintro r' w4 ⟨neg4, a4, n4, c4, rfl, hint4, hb4⟩; have hD1 := bthen hD0 hb4))
      all_goals
        go_wp2_with fail
        refine bodyPost_ret (v := .agg #[.bool v.ln, .slice v.la v.lN v.lc, .bool v.hn, .slice v.ha v.hN v.hc, .int .i64 v.bits]) (by simp [results, Try.results159, go_sem, q0, q1, q2, q3, q4]) rfl ⟨v, rfl, unhide HV, ?_, ?_⟩
        · exact SpAt.put5 (hvp.mono (by omega)) q0 q1 q2 q3 q4 _ _ _ _ _
        · exact set5 (bthen st3.be hD2) (Nat.le_succ _) _ _ _ _ _
set_option maxRecDepth 100000 in
set_option maxHeartbeats 4000000 in
theorem logNear_iv (w : World) (x y : Nm) (k b N K : Nat) (n d : Int) (hx : IntAt w x.neg x.a x.n x.cap k n) (hy : IntAt w y.neg y.a y.n y.cap k d) (hk : k ≤ 10000000) (h1 : NearOne n d) (hb16 : 16 ≤ b) (hb : b ≤ 1000000) (hN : IsStop (lnT n d b) N) (hK : Q (b + 4) < P K) (hK2 : K ≤ 10000000) :
    Calls Try.prog 156 #[.agg #[.bool x.neg, .slice x.a x.n x.cap], .agg #[.bool y.neg, .slice y.a y.n y.cap], .int .i64 b] w (SpanAns w b (K + 7) (timesI (doneI (lnT n d b) N) 2).1 (timesI (doneI (lnT n d b) N) 2).2) := by
  obtain ⟨W, hW⟩ : ∃ W, W = ((w.alloc (.cells #[.bool x.neg, .slice x.a x.n x.cap] 26)).alloc (.cells #[.bool y.neg, .slice y.a y.n y.cap] 26)).alloc (.cells #[.bool false, .slice none 0 0, .bool false, .slice none 0 0, .int .i64 0] 28) := ⟨_, rfl⟩
  have hBW : Below w.heap.size w W := by rw [hW]; exact bl3 _ _ _ _
  have X : NmC W w.heap.size x := by rw [hW]; exact ⟨by simp [go_sem], by simp [go_sem]⟩
  have Y : NmC W (w.heap.size + 1) y := by rw [hW]; exact ⟨by simp [go_sem], by simp [go_sem]⟩
  have R : NoC W (w.heap.size + 1 + 1) := by rw [hW]; exact ⟨by simp [go_sem], by simp [go_sem], by simp [go_sem], by simp [go_sem], by simp [go_sem], fun o => by simp [go_sem]⟩
  have HX := hide (hx.below hBW)
  have HY := hide (hy.below hBW)
  have lX := X.lt
  have lY := Y.lt
  have lR := R.lt
  have hnd : 0 < n + d := by have := h1.hn; have := h1.hd; omega
  have hQb := Q_pos b
  have hQK : Q b * 16 < P K := by
    have e : Q (b + 4) = 2 * (2 * (2 * (2 * Q b))) := rfl
    omega
  have hza := zI_absB h1 hb16
  have hfitz : -P K < (zI n d b).1 ∧ (zI n d b).2 < P K := by have := hza.1; have := hza.2.2.2; omega
  have hsa := sqI_abs h1 hb16
  have hfitq : -P K < (mulI b (zI n d b) (zI n d b)).1 ∧ (mulI b (zI n d b) (zI n d b)).2 < P K := by
    have := hsa.1; have := hsa.2.2.2; have := Q_mono (show b - 3 ≤ b by omega); omega
  have HFZ := hide hfitz
  have HFQ := hide hfitq
  have HZL := hide (ofI_le (n := n - d) hnd b)
  have H1 := hide h1
  have HN := hide hN
  have HK := hide (show ∀ w', Below W.heap.size W w' → (w'.cell? ⟨w.heap.size, 0, none⟩ = some (.bool x.neg) ∧ w'.cell? ⟨w.heap.size, 1, none⟩ = some (.slice x.a x.n x.cap) ∧ w'.cell? ⟨w.heap.size + 1, 0, none⟩ = some (.bool y.neg) ∧ w'.cell? ⟨w.heap.size + 1, 1, none⟩ = some (.slice y.a y.n y.cap)) from fun w' hB => ⟨(X.below hB).c0, (X.below hB).c1, (Y.below hB).c0, (Y.below hB).c1⟩)
  clear hx hy hza hfitz hsa hfitq h1 hN
  go_enter Try.func156, Try.ntmps156
  go_wp2
  rw [← hW]
  clear hW
  obtain ⟨x0, x1, x2, x3⟩ := unhide HK _ (Below.refl _ _)
  go_cut [7] (fun p wx => ∃ (B : Nat) (u : Sp), p = .pointer (some ⟨B, 0, none⟩) ∧ W.heap.size ≤ B ∧ VrC wx B u ∧ SpAt wx u K (zI n d b).1 (zI n d b).2 ∧ u.bits = (b : Int) ∧ Below W.heap.size W wx)
  case first =>
    go_region_held3 (fun w' => w'.cell? ⟨w.heap.size, 0, none⟩ = some (.bool x.neg) ∧ w'.cell? ⟨w.heap.size, 1, none⟩ = some (.slice x.a x.n x.cap) ∧ w'.cell? ⟨w.heap.size + 1, 0, none⟩ = some (.bool y.neg) ∧ w'.cell? ⟨w.heap.size + 1, 1, none⟩ = some (.slice y.a y.n y.cap)) (exact unhide HK _ (by repeat' (first | with_reducible exact hBU3 | with_reducible exact hBU2 | with_reducible exact hBU1 | with_reducible exact Below.refl _ _ | with_reducible refine Below.drew ?_ | with_reducible refine balloc ?_ _ | with_reducible refine Below.setCell ?_ (by first | exact Nat.le_refl _ | exact hlU1 | exact hlU2 | exact hlU3) _)))
      (first
        | (go_at_call 66; have hq := hBU2; refine (wideOf_any _ _ _ _ _ _ _ _ _ _ b (n - d) (n + d) _ (hintU1.below (by first | with_reducible exact Below.refl _ _ | with_reducible exact bl1 _ _)) (hintU2.below (by first | with_reducible exact Below.refl _ _ | with_reducible exact bl1 _ _)) (by omega) hb hnd).mono ?_; rintro r wU3 ⟨vU3, rfl, hvbU3, hintU3, hbU3⟩; have HVBU3 := hide hvbU3; clear hvbU3; have hCU3 : Below wU2.heap.size wU2 wU3 := (by first | with_reducible exact hbU3 | with_reducible exact bthen (bl1 _ _) hbU3); have hBU3 := bthen hBU2 hCU3; (try with_reducible have gU3 := (noc_new wU2 28).below hbU3); replace hintU1 := hintU1.below hCU3; (try replace gU1 := gU1.below hCU3); replace hintU2 := hintU2.below hCU3; (try replace gU2 := gU2.below hCU3); have hlU3 := hBU3.size; (try have mU1 := gU1.lt); (try have eU1 := Nat.ne_of_lt mU1); (try have eU1' := Nat.ne_of_gt mU1); (try obtain ⟨zU10, zU11, zU12, zU13, zU14, zU15⟩ := gU1); (try have mU2 := gU2.lt); (try have eU2 := Nat.ne_of_lt mU2); (try have eU2' := Nat.ne_of_gt mU2); (try obtain ⟨zU20, zU21, zU22, zU23, zU24, zU25⟩ := gU2); (try have mU3 := gU3.lt); (try have eU3 := Nat.ne_of_lt mU3); (try have eU3' := Nat.ne_of_gt mU3); (try obtain ⟨zU30, zU31, zU32, zU33, zU34, zU35⟩ := gU3))
        | (go_at_call 86; have hq := hBU1; refine (add_int _ _ _ _ _ _ _ _ k k n d _ ((unhide HX).below (by first | with_reducible exact hBU1 | with_reducible exact balloc hBU1 _)) ((unhide HY).below (by first | with_reducible exact hBU1 | with_reducible exact balloc hBU1 _)) (by omega) (by omega)).mono ?_; rintro r wU2 ⟨negU2, aU2, nU2, cU2, rfl, hintU2, hbU2⟩; have hCU2 : Below wU1.heap.size wU1 wU2 := (by first | with_reducible exact hbU2 | with_reducible exact bthen (bl1 _ _) hbU2); have hBU2 := bthen hBU1 hCU2; (try with_reducible have gU2 := (noc_new wU1 28).below hbU2); replace hintU1 := hintU1.below hCU2; (try replace gU1 := gU1.below hCU2); have hlU2 := hBU2.size)
        | (go_at_call 53; refine (sub_int _ _ _ _ _ _ _ _ k k n d _ ((unhide HX).below (by first | with_reducible exact (Below.refl _ _).drew | with_reducible exact (bl1 _ _).drew)) ((unhide HY).below (by first | with_reducible exact (Below.refl _ _).drew | with_reducible exact (bl1 _ _).drew)) (by omega) (by omega)).mono ?_; rintro r wU1 ⟨negU1, aU1, nU1, cU1, rfl, hintU1, hbU1⟩; have hBU1 : Below W.heap.size W wU1 := (by first | with_reducible exact bthen (Below.refl _ _).drew hbU1 | with_reducible exact bthen (bl1 _ _).drew hbU1); (try with_reducible have gU1 := ((noc_new W 28).below (Below.refl _ _).drew).below hbU1); have hlU1 := hBU1.size))
    all_goals
      have hfinU : SpAt wU3 vU3 K (zI n d b).1 (zI n d b).2 := (hintU3.fits (K := K) (unhide HZL) (unhide HFZ).1 (unhide HFZ).2)
      go_wp2_with fail
      go_meet
      refine ⟨_, vU3, rfl, ?_, ⟨⟨?_, ?_, ?_, ?_, ?_⟩, ?_⟩, ?_, unhide HVBU3, ?_⟩
      · first | exact Nat.le_refl _ | exact hlU1 | exact hlU2 | exact hlU3
      · simp [go_sem, *]
      · simp [go_sem, *]
      · simp [go_sem, *]
      · simp [go_sem, *]
      · simp [go_sem, *]
      · intro o; simp [go_sem, *]
      · first | with_reducible exact hfinU.below (bl1 _ _) | with_reducible exact SpAt.put5 hfinU (by assumption) (by assumption) (by assumption) (by assumption) (by assumption) _ _ _ _ _
      · repeat' (first | with_reducible exact hBU3 | with_reducible exact hBU2 | with_reducible exact hBU1 | with_reducible exact Below.refl _ _ | with_reducible refine Below.drew ?_ | with_reducible refine balloc ?_ _ | with_reducible refine Below.setCell ?_ (by first | exact Nat.le_refl _ | exact hlU1 | exact hlU2 | exact hlU3) _)
  case rest =>
  obtain ⟨BU, xU, rfl, hHU, XU, hpU, hxbU, hblU⟩ := hcut
  replace R := R.below hblU
  replace hBW := bthen hBW hblU
  have lU := XU.lt
  have nRU : w.heap.size + 1 + 1 < BU := by omega
  have lR2 := R.lt
  have HXB := hide hxbU
  have HHU := hide hpU
  have FU := XU.fz
  obtain ⟨z0, z1, z2, z3, z4⟩ := XU.c
  clear hxbU hpU HX HY HK x0 x1 x2 x3 hblU X Y
  go_wp2_with fail
  refine (mul_iv _ xU xU K b (zI n d b) (zI n d b) (unhide HHU) (unhide HHU) (by omega) (unhide HXB) hb).mono ?_
  rintro r w1 ⟨v1, rfl, hvb1, hvp1, hb1⟩
  replace hvp1 := hvp1.fits (K := K) (mulI_le b) (unhide HFQ).1 (unhide HFQ).2
  replace XU := XU.below hb1
  replace HHU := hide ((unhide HHU).below hb1)
  replace R := R.below hb1
  replace hBW := bthen hBW hb1
  have HVB1 := hide hvb1
  clear hb1 hvb1 z0 z1 z2 z3 z4 FU
  obtain ⟨V, hV⟩ : ∃ V, V = w1.alloc (.cells #[.bool v1.ln, .slice v1.la v1.lN v1.lc, .bool v1.hn, .slice v1.ha v1.hN v1.hc, .int .i64 v1.bits] 28) := ⟨_, rfl⟩
  have bV : Below w1.heap.size w1 V := by rw [hV]; exact bl1 _ _
  have S1 : SpC V w1.heap.size v1 := by rw [hV]; exact spc_new w1 v1 _
  have HVP1 := hide (hvp1.below bV)
  have lU3 := XU.lt
  have Z := hide (XU.c)
  obtain ⟨z0, z1, z2, z3, z4⟩ := XU.c
  replace XU := XU.below bV
  have lR3 := R.lt
  replace R := R.below bV
  replace HHU := hide ((unhide HHU).below bV)
  replace hBW := bthen hBW bV
  clear hvp1 bV
  have HT0 := hide (lnT_abs (unhide H1) hb16)
  have HLT := hide (lnT_le (unhide H1) b)
  have HFIT : Hid (∀ j, j ≤ N → -P K < (lnT n d b j).1 ∧ (lnT n d b j).2 < P K) := hide (fun j _ => by
    obtain ⟨g1, g2, g3, g4⟩ := unhide HT0 j
    have := Q_mono (show b - 3 * j ≤ b by omega)
    omega)
  have HFITS : Hid (∀ j, j ≤ N → -P K < (sumI (lnT n d b) j).1 ∧ (sumI (lnT n d b) j).2 < P K) := hide (fun j hj => by
    obtain ⟨g1, g2, g3, g4⟩ := sum_abs2 (s := 3) (by omega) (unhide HT0) (unhide HN) j hj
    have := Q_pos (b - 3 * j)
    omega)
  have hNb : N ≤ 1000000000 := by
    obtain ⟨N', n1, n2⟩ := stop_ex (s := 3) (by omega) (unhide HT0)
    have : N ≤ N' := Nat.not_lt.1 fun hlt => by have := (unhide HN).2 N' hlt; have := n2.1; omega
    omega
  go_wp2_with fail
  rw [← hV]
  clear hV
  refine (sum_ln _ (lnT n d b) N b K (K + K + 8 + 4 + 10) xU _ (unhide HHU) (unhide HXB) hb (by omega) (by omega) (unhide HN) hNb (unhide HLT) (unhide HFIT) (unhide HFITS) (fun j u w' hj hub hup hbw => ?_)).mono ?_
  · have e := ln1_iv w' w1.heap.size u v1 K b ((j : Int) + 1) (lnT n d b j) (mulI b (zI n d b) (zI n d b)) hup ((unhide HVP1).below hbw) (S1.below hbw) (by omega) hub hb (by omega) (by omega)
    have e1 : 2 * ((j : Int) + 1) - 1 = 2 * (j : Int) + 1 := by omega
    have e2 : 2 * ((j : Int) + 1) + 1 = 2 * (j : Int) + 3 := by omega
    rw [e1, e2] at e
    exact e
  rintro r w2 ⟨v2, rfl, hvb2, hvp2, hb2⟩
  replace R := R.below hb2
  replace hBW := bthen hBW hb2
  have HV2 := hide hvb2
  clear hvb2 hb2
  have lR4 := R.lt
  obtain ⟨V2, hV2⟩ : ∃ V2, V2 = w2.alloc (.cells #[.bool v2.ln, .slice v2.la v2.lN v2.lc, .bool v2.hn, .slice v2.ha v2.hN v2.hc, .int .i64 v2.bits] 28) := ⟨_, rfl⟩
  have bV2 : Below w2.heap.size w2 V2 := by rw [hV2]; exact bl1 _ _
  replace hvp2 := hvp2.below bV2
  replace R := R.below bV2
  replace hBW := bthen hBW bV2
  go_wp2_with fail
  rw [← hV2]
  clear hV2 bV2
  refine (times_iv _ v2 (K + 3) b 2 _ hvp2 (by omega) (unhide HV2) (by omega) (by omega)).mono ?_
  rintro r w3 ⟨v, rfl, hvb, hvp, hb3⟩
  obtain ⟨q0, q1, q2, q3, q4, q5⟩ := R.below hb3
  replace hBW := bthen hBW hb3
  have HV := hide hvb
  clear hvb
  go_wp2_with fail
  refine bodyPost_ret (v := .agg #[.bool v.ln, .slice v.la v.lN v.lc, .bool v.hn, .slice v.ha v.hN v.hc, .int .i64 v.bits]) (by simp [results, Try.results156, go_sem, q0, q1, q2, q3, q4]) rfl ⟨v, rfl, unhide HV, ?_, ?_⟩
  · exact SpAt.put5 (hvp.mono (by omega)) q0 q1 q2 q3 q4 _ _ _ _ _
  · exact set5 hBW (by omega) _ _ _ _ _
end Go.Proofs.Ytgmnknmjainabab
namespace Go.Proofs.Ytgmnknmjainabab.Ex
theorem LeN.scale {f g : Nat → Rat} (h : LeN f g) {c : Rat} (hc : 0 ≤ c) : LeN (fun M => c * f M) (fun M => c * g M) := by
  obtain ⟨z, hz, k⟩ := h.null
  exact LeN.of_null (hz.bmul (Bdd.const c)) 0 fun M _ => by have := Rat.mul_le_mul_of_nonneg_left (k M) hc; grind
end Go.Proofs.Ytgmnknmjainabab.Ex
namespace Go.Proofs.Ytgmnknmjainabab
open Ex
theorem Has.of_const {a b c : Rat} (h : Has a b (fun _ => c)) : a ≤ c ∧ c ≤ b := by
  constructor
  · refine Rat.not_lt.1 fun hlt => ?_
    obtain ⟨N, k⟩ := h ((a - c) / 2) (by grind)
    have := (k N (Nat.le_refl _)).1
    grind
  · refine Rat.not_lt.1 fun hlt => ?_
    obtain ⟨N, k⟩ := h ((c - b) / 2) (by grind)
    have := (k N (Nat.le_refl _)).2
    grind
end Go.Proofs.Ytgmnknmjainabab
namespace Go.Proofs.Ytgmnknmjainabab.Ex
structure RtOf (y : Rat) (r : Nat → Rat) : Prop where
  nn : ∀ M, 0 ≤ r M
  sq : Null (fun M => r M * r M - y)
theorem sq_lt {a b : Rat} (ha : 0 ≤ a) (h : a * a ≤ b * b) (hb : 0 ≤ b) : a ≤ b := by
  refine Rat.not_lt.1 fun hlt => ?_
  have m1 := Rat.mul_lt_mul_of_pos_left hlt (show 0 < a by grind)
  have m2 := Rat.mul_le_mul_of_nonneg_right (Rat.le_of_lt hlt) hb
  grind
theorem RtOf.ge {y : Rat} {r : Nat → Rat} (h : RtOf y r) {x : Rat} (hx : 0 ≤ x) (hxy : x * x ≤ y) : LeN (fun _ => x) r := fun e he => by
  obtain ⟨N, k⟩ := h.sq (e * e) (Rat.mul_pos he he)
  refine ⟨N, fun M hM => ?_⟩
  have a := (k M hM).1
  have n := h.nn M
  simp only [] at a ⊢
  have re := Rat.mul_nonneg n (Rat.le_of_lt he)
  exact sq_lt hx (by grind) (by grind)
theorem RtOf.le {y : Rat} {r : Nat → Rat} (h : RtOf y r) {x : Rat} (hx : 0 ≤ x) (hxy : y ≤ x * x) : LeN r (fun _ => x) := fun e he => by
  obtain ⟨N, k⟩ := h.sq (e * e) (Rat.mul_pos he he)
  refine ⟨N, fun M hM => ?_⟩
  have a := (k M hM).2
  have n := h.nn M
  simp only [] at a ⊢
  have re := Rat.mul_nonneg hx (Rat.le_of_lt he)
  exact sq_lt n (by grind) (by grind)
theorem RtOf.y0 {y : Rat} {r : Nat → Rat} (h : RtOf y r) : 0 ≤ y := by
  refine Rat.not_lt.1 fun hlt => ?_
  obtain ⟨N, k⟩ := h.sq (-y / 2) (by grind)
  have a := (k N (Nat.le_refl _)).2
  have n := Rat.mul_nonneg (h.nn N) (h.nn N)
  simp only [] at a
  grind
theorem RtOf.bd {y : Rat} {r : Nat → Rat} (h : RtOf y r) : ∃ N : Nat, ∀ M, N ≤ M → r M ≤ y + 2 := by
  have y0 := h.y0
  have q := Rat.mul_nonneg y0 y0
  obtain ⟨N, k⟩ := h.le (x := y + 1) (by grind) (by grind) 1 (by grind)
  exact ⟨N, fun M hM => by have := k M hM; simp only [] at this; grind⟩
end Go.Proofs.Ytgmnknmjainabab.Ex
namespace Go.Proofs.Ytgmnknmjainabab
open Go
section
variable {Pg : Program} {ops : Array Oper} {Q : Exit → Act → World → Prop} {md : Region.Mode} {S : World → Prop} {l : Nat}
def AnyL (Pg : Program) (md : Region.Mode) (ops : Array Oper) (Q : Exit → Act → World → Prop) (S : World → Prop) (l : Nat) : Nat → Array Bool → Act → World → Prop
  | 0, listed, a, w => Region.ready md ops listed = [] ∧ Q .normal a w
  | fuel + 1, listed, a, w =>
    (Region.ready md ops listed = [] → Q .normal a w) ∧
    ∀ i ∈ Region.ready md ops listed, wpOp Pg ops Q i (fun a' w' => (i ≠ l → S w') ∧ AnyL Pg md ops Q S l fuel (listed.setIfInBounds i true) a' w') a w
theorem AnyL.any : ∀ (fuel : Nat) (listed : Array Bool) (a : Act) (w : World), AnyL Pg md ops Q S l fuel listed a w → wpAny Pg md ops Q fuel listed a w
  | 0, _, _, _, h => h
  | fuel + 1, _, _, _, h => ⟨h.1, fun i hi => wpOp_mono (fun a' w' h' => AnyL.any fuel _ a' w' h'.2) (h.2 i hi)⟩
def waits (md : Region.Mode) (ops : Array Oper) (l i : Nat) : Bool :=
  match ops[l]? with
  | some o => o.after.any (fun e => Region.binds md e && e.on == i)
  | none => false
theorem waits_not {i : Nat} {listed : Array Bool} (hw : waits md ops l i = true) (hi : i ∈ Region.ready md ops listed) (hl : l ∈ Region.ready md ops listed) : False := by
  obtain ⟨_, ol, hol, hall⟩ := mem_ready.1 hl
  obtain ⟨h0, oi, hoi, _⟩ := mem_ready.1 hi
  unfold waits at hw
  rw [hol] at hw
  simp only [Array.any_eq_true'] at hw
  obtain ⟨e, he, h2⟩ := hw
  simp only [Bool.and_eq_true, beq_iff_eq] at h2
  have h1 := hall e he h2.1
  rw [h2.2] at h1
  rcases Nat.lt_or_ge i listed.size with h' | h'
  · simp [h'] at h0 h1; rw [h0] at h1; cases h1
  · simp [Array.getElem?_eq_none h'] at h1
theorem AnyL.first {i : Nat} {oi : Oper} {v : Value} (hi : ops[i]? = some oi) (hsel : ∀ (j : Nat) (o : Oper) cs b, ops[j]? = some o → o.op ≠ .select cs b)
    (hQ : ∀ c a w, Q (.panic c) (a.put oi.dst v) w → Q (.panic c) a w) (hwt : waits md ops l i = true) :
    ∀ (fuel : Nat) (listed : Array Bool) (a : Act) (w : World),
      (∀ j oj, ops[j]? = some oj → j ≠ i → listed.getD j true = false → (∀ e ∈ oj.after, Region.binds md e = true → e.on ≠ i) → oi.apart ops oj = true) →
      i ∈ Region.ready md ops listed → YieldsIf Pg ops S oi v a → S w →
      AnyL Pg md ops Q S l fuel (listed.setIfInBounds i true) (a.put oi.dst v) w → AnyL Pg md ops Q S l (fuel + 1) listed a w := by
  intro fuel
  induction fuel with
  | zero =>
    intro listed a w _ hr hy hS H
    refine ⟨fun h => (by rw [h] at hr; cases hr), fun j hj => ?_⟩
    by_cases hji : j = i
    · subst hji; exact hy.wpOp hi hS ⟨fun _ => hS, H⟩
    · have := ready_mono hj hji
      rw [H.1] at this
      cases this
  | succ fuel ih =>
    intro listed a w hfree hr hy hS H
    refine ⟨fun h => (by rw [h] at hr; cases hr), fun j hj => ?_⟩
    by_cases hji : j = i
    · subst hji; exact hy.wpOp hi hS ⟨fun _ => hS, H⟩
    · have hjl : j ≠ l := fun h => waits_not hwt hr (h ▸ hj)
      have h1 := H.2 j (ready_mono hj hji)
      obtain ⟨hjun, oj, hoj, hall⟩ := mem_ready.1 hj
      have hnot : ∀ e ∈ oj.after, Region.binds md e = true → e.on ≠ i := fun e he hb heq => by
        have h1 := hall e he hb
        have h0 := (mem_ready.1 hr).1
        rw [heq] at h1
        rcases Nat.lt_or_ge i listed.size with h' | h'
        · simp [h'] at h0 h1; rw [h0] at h1; cases h1
        · simp [Array.getElem?_eq_none h'] at h1
      have h2 := wpOp_putIf hoj (hfree j oj hoj hji hjun hnot) (fun cs b => hsel i oi cs b hi) (fun cs b => hsel j oj cs b hoj) hQ hy h1
      have hfree' : ∀ k ok, ops[k]? = some ok → k ≠ i → (listed.setIfInBounds j true).getD k true = false →
          (∀ e ∈ ok.after, Region.binds md e = true → e.on ≠ i) → oi.apart ops ok = true := fun k ok hk hki hun hno => by
        refine hfree k ok hk hki ?_ hno
        by_cases hjk : j = k
        · subst hjk; exact hjun
        · rw [getD_set_ne true hjk] at hun; exact hun
      refine wpOp_mono (fun a' w' h3 => ⟨fun _ => h3.2.1 hjl, ih (listed.setIfInBounds j true) a' w' hfree' (ready_mono hr (Ne.symm hji)) h3.1 (h3.2.1 hjl) ?_⟩) h2
      rw [Array.setIfInBounds_comm _ _ hji]
      exact h3.2.2
theorem AnyL.take {i : Nat} {oi : Oper} {v : Value} {fuel : Nat} {listed : Array Bool} {a : Act} {w : World} (hi : ops[i]? = some oi)
    (hs : Region.noSelect ops = true) (hf : Region.free md ops listed i = true) (hr : (Region.ready md ops listed).contains i = true) (hwt : waits md ops l i = true)
    (hQ : ∀ c a w, Q (.panic c) (a.put oi.dst v) w → Q (.panic c) a w) (hy : YieldsIf Pg ops S oi v a) (hS : S w)
    (h : AnyL Pg md ops Q S l fuel (listed.setIfInBounds i true) (a.put oi.dst v) w) : AnyL Pg md ops Q S l (fuel + 1) listed a w :=
  AnyL.first hi (Region.noSelect_spec hs) hQ hwt fuel listed a w (Region.free_spec hi hf) (by simpa using hr) hy hS h
theorem AnyL.one {i : Nat} {o : Oper} {fuel : Nat} {listed : Array Bool} {a : Act} {w : World} (hr : Region.ready md ops listed = [i]) (ho : ops[i]? = some o)
    (h : ∀ K' : Act → World → Prop, Shut (∀ a w, S w → (S w → AnyL Pg md ops Q S l fuel (listed.setIfInBounds i true) a w) → K' a w) → if Region.wanted o (yielded ops a.tmps) = true then Oper.wp Pg o a w K' Q else K' (a.put o.dst undef) w) :
    AnyL Pg md ops Q S l (fuel + 1) listed a w :=
  ⟨fun h0 => absurd (hr ▸ h0) (by simp), fun j hj => by
    rw [hr] at hj
    have hj' : j = i := by simpa using hj
    subst hj'
    exact wpOp_step ho (fun K' hK => h K' (fun a w hS hW => hK a w ⟨fun _ => hS, hW hS⟩))⟩
theorem AnyL.last {o : Oper} {fuel : Nat} {listed : Array Bool} {a : Act} {w : World} (hr : Region.ready md ops listed = [l]) (ho : ops[l]? = some o)
    (hd : Region.ready md ops (listed.setIfInBounds l true) = [])
    (h : ∀ K' : Act → World → Prop, Shut (∀ a w, Q .normal a w → K' a w) → if Region.wanted o (yielded ops a.tmps) = true then Oper.wp Pg o a w K' Q else K' (a.put o.dst undef) w) :
    AnyL Pg md ops Q S l (fuel + 1) listed a w :=
  ⟨fun h0 => absurd (hr ▸ h0) (by simp), fun j hj => by
    rw [hr] at hj
    have hj' : j = l := by simpa using hj
    subst hj'
    refine wpOp_step ho (fun K' hK => h K' (fun a w hW => hK a w ⟨fun h => absurd rfl h, ?_⟩))
    cases fuel with
    | zero => exact ⟨hd, hW⟩
    | succ fuel => exact ⟨fun _ => hW, by rw [hd]; simp⟩⟩
theorem AnyL.start {id : Nat} {a : Act} {w : World} (hm : Pg.follows .mixedOrders = true) (hS : S w.drew)
    (h : S w.drew → AnyL Pg .any ops Q S l ops.size (Array.replicate ops.size false) a w.drew) : (Code.region id ops true).wp Pg Q a w :=
  wp_region_any hm (AnyL.any _ _ _ _ (h hS))
end
end Go.Proofs.Ytgmnknmjainabab
namespace Go.Proofs.Ytgmnknmjainabab
open Go.RowKit
attribute [local go_sem ↓] Go.wp_at_zero Go.wp_at_succ
theorem minZ_cap (x q : Int) : minZ x q = if x ≤ q then x else q := by unfold minZ; split <;> split <;> omega
theorem fieldP1 (x y : Bool) (a a' : Option Addr) (n c n' c' : Nat) (b : Int) (w : World) : (Instr.field 28 (.agg #[.bool x, .slice a n c, .bool y, .slice a' n' c', .int .i64 b]) 1).run Try.prog w = .ok (.agg #[.bool y, .slice a' n' c']) w := by kernel_rfl
theorem sp_putHi {w : World} {B : Nat} {s : Sp} (h : VrC w B s) (x : Nm) : VrC ((w.setCell ⟨B, 2, none⟩ (.bool x.neg)).setCell ⟨B, 3, none⟩ (.slice x.a x.n x.cap)) B ⟨s.ln, s.la, s.lN, s.lc, x.neg, x.a, x.n, x.cap, s.bits⟩ := by
  obtain ⟨⟨q0, q1, q2, q3, q4⟩, q5⟩ := h
  exact ⟨⟨by simp [go_sem, q0], by simp [go_sem, q1], by simp [go_sem, q2], by simp [go_sem, q3], by simp [go_sem, q4]⟩, fun o => by rw [frozen_set', frozen_set']; exact q5 o⟩
theorem NoC.offH {w : World} {B B' : Nat} (h : NoC w B) (hne : B ≠ B') (u0 u1 : Value) : NoC ((w.setCell ⟨B', 2, none⟩ u0).setCell ⟨B', 3, none⟩ u1) B := by
  obtain ⟨q0, q1, q2, q3, q4, q5⟩ := h
  exact ⟨by simp [go_sem, q0, hne, Ne.symm hne], by simp [go_sem, q1, hne, Ne.symm hne], by simp [go_sem, q2, hne, Ne.symm hne], by simp [go_sem, q3, hne, Ne.symm hne], by simp [go_sem, q4, hne, Ne.symm hne], fun o => by rw [frozen_set', frozen_set']; exact q5 o⟩
theorem IntAt.putH {w : World} {neg : Bool} {a : Option Addr} {n cap k : Nat} {z : Int} (h : IntAt w neg a n cap k z) {B : Nat} {x0 : Bool} {y0 : Option Addr} {y1 y2 : Nat} (h0 : w.cell? ⟨B, 2, none⟩ = some (.bool x0))
    (h1 : w.cell? ⟨B, 3, none⟩ = some (.slice y0 y1 y2)) (u0 u1 : Value) : IntAt ((w.setCell ⟨B, 2, none⟩ u0).setCell ⟨B, 3, none⟩ u1) neg a n cap k z := by
  have hne : (⟨B, 2, none⟩ : Addr) ≠ ⟨B, 3, none⟩ := by simp
  have h2 : (w.setCell ⟨B, 2, none⟩ u0).cell? ⟨B, 3, none⟩ = some (.slice y0 y1 y2) := (World.cell?_setCell_other _ _ _ _ hne).trans h1
  exact (h.store h0 (fun _ e => by cases e) u0).store h2 (fun _ e => by cases e) u1
set_option maxRecDepth 100000 in
set_option maxHeartbeats 4000000 in
theorem upToOne_int (w : World) (s : Sp) (k b : Nat) (lo hi : Int) (hs : SpAt w s k lo hi) (hbits : s.bits = (b : Int)) (hb : b ≤ 100000) (hk0 : b / 16 + 24 ≤ k) (hk : k ≤ 100000000) :
    Calls Try.prog 129 #[.agg #[.bool s.ln, .slice s.la s.lN s.lc, .bool s.hn, .slice s.ha s.hN s.hc, .int .i64 s.bits]] w (SpanAns w b (k + 1) lo (minZ hi (Q b))) := by
  obtain ⟨W, hW⟩ : ∃ W, W = (w.alloc (.cells #[.bool s.ln, .slice s.la s.lN s.lc, .bool s.hn, .slice s.ha s.hN s.hc, .int .i64 s.bits] 28)).alloc (.cells #[.bool false, .slice none 0 0, .bool false, .slice none 0 0, .int .i64 0] 28) := ⟨_, rfl⟩
  have hBW : Below w.heap.size w W := by rw [hW]; exact bl2 _ _ _
  have A : VrC W w.heap.size s := by rw [hW]; exact ⟨⟨by simp [go_sem], by simp [go_sem], by simp [go_sem], by simp [go_sem], by simp [go_sem]⟩, fun o => by simp [go_sem]⟩
  have R : NoC W (w.heap.size + 1) := by rw [hW]; exact ⟨by simp [go_sem], by simp [go_sem], by simp [go_sem], by simp [go_sem], by simp [go_sem], fun o => by simp [go_sem]⟩
  have HBW := hide hBW
  have HS := hide (hs.below hBW)
  have HB := hide hbits
  have HA := hide A
  have HR := hide R
  have HO := hide (show -(-(1 * Q b) / 1) = Q b by rw [Int.ediv_one]; omega)
  have HK := hide (show ∀ w', Below W.heap.size W w' → (w'.cell? ⟨w.heap.size, 2, none⟩ = some (.bool s.hn) ∧ w'.cell? ⟨w.heap.size, 3, none⟩ = some (.slice s.ha s.hN s.hc) ∧ w'.cell? ⟨w.heap.size, 4, none⟩ = some (.int .i64 s.bits)) from fun w' hB => ⟨(A.below hB).c.c2, (A.below hB).c.c3, (A.below hB).c.c4⟩)
  have hD0 : Below W.heap.size W W.drew := (Below.refl _ _).drew
  clear hs hbits hBW A R
  go_enter Try.func129, Try.ntmps129
  go_wp2
  rw [← hW]
  clear hW
  refine AnyL.start (S := fun w' => w'.cell? ⟨w.heap.size, 2, none⟩ = some (.bool s.hn) ∧ w'.cell? ⟨w.heap.size, 3, none⟩ = some (.slice s.ha s.hN s.hc) ∧ w'.cell? ⟨w.heap.size, 4, none⟩ = some (.int .i64 s.bits)) (l := 9) (by kernel_rfl) (unhide HK _ hD0) (fun hHeld => ?_)
  refine AnyL.take (i := 0) (oi := { dst := some 3, op := Go.Op.fieldAddr 28 (Go.Operand.tmp 1) 1, type := 0, pos := "part.go:53", after := #[], guard := none }) (v := .pointer (some ⟨w.heap.size, 2, none⟩)) rfl (by kernel_rfl) (by kernel_rfl) (by kernel_rfl) (by kernel_rfl) (fun _ _ _ h => h) (Or.inl ⟨by rfl, fun w hSw => ?_⟩) hHeld ?_
  · obtain ⟨s0, s1, s2⟩ := hSw; go_simp
  try simp only [Act.put, List.setIfInBounds_toArray, List.set_cons_zero, List.set_cons_succ]
  refine AnyL.take (i := 1) (oi := { dst := some 4, op := Go.Op.load 26 (Go.Operand.tmp 3), type := 26, pos := "part.go:53", after := #[{ on := 0, ground := Go.Ground.data }], guard := none }) (v := .agg #[.bool s.hn, .slice s.ha s.hN s.hc]) rfl (by kernel_rfl) (by kernel_rfl) (by kernel_rfl) (by kernel_rfl) (fun _ _ _ h => h) (Or.inl ⟨by rfl, fun w hSw => ?_⟩) hHeld ?_
  · obtain ⟨s0, s1, s2⟩ := hSw; go_simp
  try simp only [Act.put, List.setIfInBounds_toArray, List.set_cons_zero, List.set_cons_succ]
  refine AnyL.take (i := 2) (oi := { dst := some 5, op := Go.Op.fieldAddr 28 (Go.Operand.tmp 1) 2, type := 0, pos := "part.go:53", after := #[], guard := none }) (v := .pointer (some ⟨w.heap.size, 4, none⟩)) rfl (by kernel_rfl) (by kernel_rfl) (by kernel_rfl) (by kernel_rfl) (fun _ _ _ h => h) (Or.inl ⟨by rfl, fun w hSw => ?_⟩) hHeld ?_
  · obtain ⟨s0, s1, s2⟩ := hSw; go_simp
  try simp only [Act.put, List.setIfInBounds_toArray, List.set_cons_zero, List.set_cons_succ]
  refine AnyL.take (i := 3) (oi := { dst := some 6, op := Go.Op.load 3 (Go.Operand.tmp 5), type := 3, pos := "part.go:53", after := #[{ on := 2, ground := Go.Ground.data }], guard := none }) (v := .int .i64 s.bits) rfl (by kernel_rfl) (by kernel_rfl) (by kernel_rfl) (by kernel_rfl) (fun _ _ _ h => h) (Or.inl ⟨by rfl, fun w hSw => ?_⟩) hHeld ?_
  · obtain ⟨s0, s1, s2⟩ := hSw; go_simp
  try simp only [Act.put, List.setIfInBounds_toArray, List.set_cons_zero, List.set_cons_succ]
  refine AnyL.one (i := 4) (o := { dst := some 7, op := Go.Op.call { callee := Go.Callee.value (Go.Operand.func 80), args := #[Go.Operand.tmp 6], argTypes := #[3] }, type := 28, pos := "part.go:53", after := #[{ on := 3, ground := Go.Ground.data }], guard := none }) (by kernel_rfl) rfl (fun Kc hKc => ?_)
  go_simp
  rw [unhide HB]
  refine (one_int _ b (by omega)).mono ?_
  rintro r' w1 ⟨v1, rfl, hvb1, hs1, hb⟩
  have hD1 := bthen hD0 hb
  clear hb hvb1
  go_wp2_with fail
  refine hKc.out _ _ (unhide HK _ hD1) (fun hHeld => ?_)
  clear hKc Kc
  try simp only [Act.put, List.setIfInBounds_toArray, List.set_cons_zero, List.set_cons_succ]
  refine AnyL.take (i := 5) (oi := { dst := some 8, op := Go.Op.field 28 (Go.Operand.tmp 7) 1, type := 26, pos := "part.go:53", after := #[{ on := 4, ground := Go.Ground.data }], guard := none }) (v := .agg #[.bool v1.hn, .slice v1.ha v1.hN v1.hc]) rfl (by kernel_rfl) (by kernel_rfl) (by kernel_rfl) (by kernel_rfl) (fun _ _ _ h => h) (Or.inl ⟨by rfl, fun w hSw => ?_⟩) hHeld ?_
  · obtain ⟨s0, s1, s2⟩ := hSw; (have hf1 := fieldP1; go_simp)
  try simp only [Act.put, List.setIfInBounds_toArray, List.set_cons_zero, List.set_cons_succ]
  refine AnyL.one (i := 6) (o := { dst := some 9, op := Go.Op.buildSlice 89 2 #[(0, Go.Operand.tmp 4), (1, Go.Operand.tmp 8)], type := 89, pos := "part.go:53", after := #[{ on := 1, ground := Go.Ground.data }, { on := 5, ground := Go.Ground.data }], guard := none }) (by kernel_rfl) rfl (fun Kc hKc => ?_)
  go_simp
  refine hKc.out _ _ (unhide HK _ (balloc hD1 _)) (fun hHeld => ?_)
  clear hKc Kc
  try simp only [Act.put, List.setIfInBounds_toArray, List.set_cons_zero, List.set_cons_succ]
  refine AnyL.one (i := 7) (o := { dst := some 10, op := Go.Op.call { callee := Go.Callee.value (Go.Operand.func 116), args := #[Go.Operand.tmp 9], argTypes := #[89] }, type := 26, pos := "part.go:53", after := #[{ on := 6, ground := Go.Ground.data }, { on := 4, ground := Go.Ground.chain }], guard := none }) (by kernel_rfl) rfl (fun Kc hKc => ?_)
  go_simp
  refine (least2 w1 _ rfl ⟨s.hn, s.ha, s.hN, s.hc⟩ ⟨v1.hn, v1.ha, v1.hN, v1.hc⟩ k hi (Q b) _ _ ((unhide HS).hi.below hD1) ((unhide HO ▸ hs1.hi).mono hk0) (by omega)).mono ?_
  rintro r' w2 ⟨neg2, a2, n2, c2, rfl, hint2, hb2⟩
  have hD2 := bthen hD1 hb2
  clear hb2
  go_wp2_with fail
  refine hKc.out _ _ (unhide HK _ hD2) (fun hHeld => ?_)
  clear hKc Kc
  try simp only [Act.put, List.setIfInBounds_toArray, List.set_cons_zero, List.set_cons_succ]
  refine AnyL.take (i := 8) (oi := { dst := some 11, op := Go.Op.fieldAddr 28 (Go.Operand.tmp 1) 1, type := 0, pos := "part.go:53", after := #[{ on := 0, ground := Go.Ground.phase }, { on := 1, ground := Go.Ground.phase }, { on := 2, ground := Go.Ground.phase }, { on := 3, ground := Go.Ground.phase }, { on := 4, ground := Go.Ground.phase }, { on := 5, ground := Go.Ground.phase }, { on := 6, ground := Go.Ground.phase }, { on := 7, ground := Go.Ground.phase }], guard := none }) (v := .pointer (some ⟨w.heap.size, 2, none⟩)) rfl (by kernel_rfl) (by kernel_rfl) (by kernel_rfl) (by kernel_rfl) (fun _ _ _ h => h) (Or.inl ⟨by rfl, fun w hSw => ?_⟩) hHeld ?_
  · obtain ⟨s0, s1, s2⟩ := hSw; go_simp
  try simp only [Act.put, List.setIfInBounds_toArray, List.set_cons_zero, List.set_cons_succ]
  have V2 := (unhide HA).below hD2
  have lA := V2.lt
  obtain ⟨⟨y0, y1, y2, y3, y4⟩, y5⟩ := V2
  refine AnyL.last (o := { dst := none, op := Go.Op.store 26 (Go.Operand.tmp 11) (Go.Operand.tmp 10), type := 0, pos := "part.go:53", after := #[{ on := 8, ground := Go.Ground.data }, { on := 7, ground := Go.Ground.data }, { on := 7, ground := Go.Ground.chain }, { on := 0, ground := Go.Ground.phase }, { on := 1, ground := Go.Ground.phase }, { on := 2, ground := Go.Ground.phase }, { on := 3, ground := Go.Ground.phase }, { on := 4, ground := Go.Ground.phase }, { on := 5, ground := Go.Ground.phase }, { on := 6, ground := Go.Ground.phase }, { on := 7, ground := Go.Ground.phase }], guard := none }) (by kernel_rfl) rfl (by kernel_rfl) (fun Kc hKc => ?_)
  go_simp
  refine hKc.out _ _ ?_
  clear hKc Kc
  have R2 := (unhide HR).below hD2
  obtain ⟨V, hV⟩ : ∃ V, V = ((w2.setCell ⟨w.heap.size, 2, none⟩ (.bool neg2)).setCell ⟨w.heap.size, 3, none⟩ (.slice a2 n2 c2)) := ⟨_, rfl⟩
  have R3 : NoC V (w.heap.size + 1) := by rw [hV]; exact R2.offH (by omega) _ _
  have A3 : VrC V w.heap.size ⟨s.ln, s.la, s.lN, s.lc, neg2, a2, n2, c2, s.bits⟩ := by rw [hV]; exact sp_putHi ((unhide HA).below hD2) ⟨neg2, a2, n2, c2⟩
  have i1 : IntAt V s.ln s.la s.lN s.lc k lo := by rw [hV]; exact ((unhide HS).lo.below hD2).putH y2 y3 _ _
  have i2 : IntAt V neg2 a2 n2 c2 (k + 1) (minZ hi (Q b)) := by rw [hV]; exact hint2.putH y2 y3 _ _
  have hB3 : Below w.heap.size w V := by rw [hV]; exact ((bthen (unhide HBW) hD2).setCell (p := ⟨w.heap.size, 2, none⟩) (Nat.le_refl _) _).setCell (p := ⟨w.heap.size, 3, none⟩) (Nat.le_refl _) _
  rw [← hV]
  clear hV y0 y1 y2 y3 y4 y5 lA
  have lA := A3.lt
  have lR := R3.lt
  obtain ⟨⟨y0, y1, y2, y3, y4⟩, y5⟩ := A3
  obtain ⟨q0, q1, q2, q3, q4, q5⟩ := R3
  go_wp2_with fail
  refine bodyPost_ret (v := .agg #[.bool s.ln, .slice s.la s.lN s.lc, .bool neg2, .slice a2 n2 c2, .int .i64 s.bits]) (by simp [results, Try.results129, go_sem, q0, q1, q2, q3, q4]) rfl ⟨⟨s.ln, s.la, s.lN, s.lc, neg2, a2, n2, c2, s.bits⟩, rfl, unhide HB, ?_, ?_⟩
  · exact SpAt.put5 (show SpAt V ⟨s.ln, s.la, s.lN, s.lc, neg2, a2, n2, c2, s.bits⟩ (k + 1) lo (minZ hi (Q b)) from ⟨i1.mono (by omega), i2⟩) q0 q1 q2 q3 q4 _ _ _ _ _
  · exact set5 hB3 (Nat.le_succ _) _ _ _ _ _
end Go.Proofs.Ytgmnknmjainabab
namespace Go.Proofs.Ytgmnknmjainabab
open Go.RowKit
attribute [local go_sem ↓] Go.wp_at_zero Go.wp_at_succ
def restI (B : Nat) (a : Int × Int) : Int × Int := (Q B - a.2, Q B - a.1)
theorem one_z {b : Nat} (z : Int) (hz : z = (b : Int)) (w : World) (hb : b ≤ 1000000) : Calls Try.prog 80 #[.int .i64 z] w (SpanAns w b (b / 16 + 24) (1 * Q b / 1) (-(-(1 * Q b) / 1))) := by
  subst hz
  exact one_int w b hb
set_option maxRecDepth 100000 in
set_option maxHeartbeats 2000000 in
theorem rest_iv (w : World) (s : Sp) (k b : Nat) (a : Int × Int) (hs : SpAt w s k a.1 a.2) (hbits : s.bits = (b : Int)) (hb : b ≤ 100000) (hk0 : b / 16 + 24 ≤ k) (hk : k ≤ 100000000) :
    Calls Try.prog 45 #[.agg #[.bool s.ln, .slice s.la s.lN s.lc, .bool s.hn, .slice s.ha s.hN s.hc, .int .i64 s.bits]] w (SpanAns w b (k + 1) (restI b a).1 (restI b a).2) := by
  obtain ⟨W, hW⟩ : ∃ W, W = (w.alloc (.cells #[.bool s.ln, .slice s.la s.lN s.lc, .bool s.hn, .slice s.ha s.hN s.hc, .int .i64 s.bits] 28)).alloc (.cells #[.bool false, .slice none 0 0, .bool false, .slice none 0 0, .int .i64 0] 28) := ⟨_, rfl⟩
  have hBW : Below w.heap.size w W := by rw [hW]; exact bl2 _ _ _
  have A : SpC W w.heap.size s := by rw [hW]; exact ⟨by simp [go_sem], by simp [go_sem], by simp [go_sem], by simp [go_sem], by simp [go_sem]⟩
  have R : NoC W (w.heap.size + 1) := by rw [hW]; exact ⟨by simp [go_sem], by simp [go_sem], by simp [go_sem], by simp [go_sem], by simp [go_sem], fun o => by simp [go_sem]⟩
  have HS := hide (hs.below hBW)
  have HB := hide hbits
  have lA := A.lt
  have lR := R.lt
  have HO := hide (show (1 * Q b / 1, -(-(1 * Q b) / 1)) = (Q b, Q b) by rw [Int.ediv_one, Int.ediv_one]; simp)
  have hB0 : Below W.heap.size W W.drew := (Below.refl _ _).drew
  have HK := hide (show ∀ w', Below W.heap.size W w' → (w'.cell? ⟨w.heap.size, 0, none⟩ = some (.bool s.ln) ∧ w'.cell? ⟨w.heap.size, 1, none⟩ = some (.slice s.la s.lN s.lc) ∧ w'.cell? ⟨w.heap.size, 2, none⟩ = some (.bool s.hn) ∧ w'.cell? ⟨w.heap.size, 3, none⟩ = some (.slice s.ha s.hN s.hc) ∧ w'.cell? ⟨w.heap.size, 4, none⟩ = some (.int .i64 s.bits)) from fun w' hB => ⟨(A.below hB).c0, (A.below hB).c1, (A.below hB).c2, (A.below hB).c3, (A.below hB).c4⟩)
  clear hs hbits
  go_enter Try.func45, Try.ntmps45
  go_wp2
  rw [← hW]
  clear hW
  obtain ⟨x0, x1, x2, x3, x4⟩ := A
  go_region_held3 (fun w' => w'.cell? ⟨w.heap.size, 0, none⟩ = some (.bool s.ln) ∧ w'.cell? ⟨w.heap.size, 1, none⟩ = some (.slice s.la s.lN s.lc) ∧ w'.cell? ⟨w.heap.size, 2, none⟩ = some (.bool s.hn) ∧ w'.cell? ⟨w.heap.size, 3, none⟩ = some (.slice s.ha s.hN s.hc) ∧ w'.cell? ⟨w.heap.size, 4, none⟩ = some (.int .i64 s.bits)) (first | exact unhide HK _ (by first | with_reducible exact hB0 | with_reducible exact hB2 | with_reducible exact hB1) | go_keep)
    (first
      | (go_at_call 79; have hq := hB1; refine (sub_iv _ v1 s k b (1 * Q b / 1, -(-(1 * Q b) / 1)) a (hvp1.mono hk0) ((unhide HS).below hB1) (by omega) (unhide HV)).mono ?_; rintro r w2 ⟨t, rfl, htb, htp, hb2⟩; have HT := hide htb; clear htb; have hB2 := bthen hB1 hb2; obtain ⟨q0, q1, q2, q3, q4, q5⟩ := R.below hB2; obtain ⟨i0, i1, i2, i3, i4⟩ := unhide HK _ hB2)
      | (go_at_call 80; refine (one_z _ (unhide HB) _ (by omega)).mono ?_; rintro r w1 ⟨v1, rfl, hvb1, hvp1, hb1⟩; have HV := hide hvb1; clear hvb1; have hB1 := bthen hB0 hb1))
  all_goals
    go_wp2
    refine bodyPost_ret (v := .agg #[.bool t.ln, .slice t.la t.lN t.lc, .bool t.hn, .slice t.ha t.hN t.hc, .int .i64 t.bits]) (by simp [results, Try.results45, go_sem, q0, q1, q2, q3, q4]) rfl ⟨t, rfl, unhide HT, ?_, ?_⟩
    · rw [unhide HO] at htp
      exact SpAt.put5 htp q0 q1 q2 q3 q4 _ _ _ _ _
    · exact set5 (bthen hBW hB2) (Nat.le_succ _) _ _ _ _ _
end Go.Proofs.Ytgmnknmjainabab
namespace Go.Proofs.Ytgmnknmjainabab
open Ex
theorem sure_nar {b m : Nat} {lo hi L H : Int} (hle : lo ≤ hi) (e1 : L = lo / Q m) (e2 : H = -(-hi / Q m)) (h6 : H - L ≤ 1 ∨ narB L H (Q b) 4 = true) : L ≤ H ∧ narB L H (Q b) 4 = true := by
  have h7 := to_width (m := m) (Kw := (hi - lo).toNat) hle (by
    have : ∀ k : Nat, (k : Int) ≤ Q k := fun k => by
      induction k with
      | zero => decide
      | succ k ih => have e : Q (k + 1) = 2 * Q k := rfl; have := Q_pos k; omega
    have := this (hi - lo).toNat
    omega)
  have h8 : L ≤ H := by rw [e1, e2]; omega
  refine ⟨h8, ?_⟩
  rcases h6 with h6 | h6
  · exact narB_small h8 (by omega)
  · exact h6
end Go.Proofs.Ytgmnknmjainabab
namespace Go.Proofs.Ytgmnknmjainabab
open Ex
theorem Lns_ex : ∃ L, Lns L := by
  have each : ∀ x : Rat, ∃ l : Nat → Rat, 0 < x → IsLog l (fun _ => x) := fun x => by
    by_cases h : 0 < x
    · have hn : 0 < x.num := by have := (Rat.lt_iff (0 : Rat) x).1 h; simpa using this
      have hd : (0 : Int) < (x.den : Int) := by exact_mod_cast x.den_pos
      obtain ⟨l, hl⟩ := log_ex hn hd
      have e : (x.num : Rat) / ((x.den : Int) : Rat) = x := (Rat.divInt_eq_div _ _).symm.trans (Rat.num_divInt_den x)
      rw [e] at hl
      exact ⟨l, fun _ => hl⟩
    · exact ⟨fun _ => 0, fun h' => absurd h' h⟩
  obtain ⟨L, hL⟩ := Classical.skolem.1 each
  exact ⟨L, fun x hx => hL x hx⟩
def gA (n d : Int) : Rat := ((n - (stN n d : Int) * d : Int) : Rat) / (d : Rat)
structure GEnv (L G : Rat → Nat → Rat) (X : Int → Int → Nat → Rat) : Prop where
  lns : Lns L
  gam : ∀ a, 0 < a → a ≤ 1 → Gam1 L a (G a)
  lg : ∀ n d, StIn n d → IsLog (X n d) (gmV n d (G (gA n d)))
theorem gA_ok {n d : Int} (h : StIn n d) : 0 < gA n d ∧ gA n d ≤ 1 := by
  obtain ⟨r1, r2, r3⟩ := h.rest
  have d0 : (0 : Rat) < (d : Rat) := by exact_mod_cast h.d0
  have a0 : (0 : Rat) < ((n - (stN n d : Int) * d : Int) : Rat) := by exact_mod_cast r1
  exact ⟨rdiv_pos a0 d0, rdiv_le d0 (by have := cast_le r2; grind)⟩
theorem gmV_log {L : Rat → Nat → Rat} (hL : Lns L) {n d : Int} (h : StIn n d) {g : Nat → Rat} (hg : Gam1 L (gA n d) g) : ∃ x, IsLog x (gmV n d g) := by
  have ig := hg.isGam hL (gA_ok h).1
  have p0 : (0 : Rat) < (stP n d (stN n d) : Rat) := by exact_mod_cast stP_pos h (Nat.le_refl _)
  have q0 : (0 : Rat) < (stQ d (stN n d) : Rat) := by exact_mod_cast stQ_pos h.d0 _
  have r0 := rdiv_pos p0 q0
  refine log_seq hL ((Bdd.const _).mul ig.bdd) ?_
  obtain ⟨c, c0, N, hc⟩ := ig.pos
  exact ⟨_, Rat.mul_pos r0 c0, N, fun M hM => Rat.mul_le_mul_of_nonneg_left (hc M hM) (Rat.le_of_lt r0)⟩
theorem genv_ex : ∃ L G X, GEnv L G X := by
  obtain ⟨L, hL⟩ := Lns_ex
  have e1 : ∀ a : Rat, ∃ g : Nat → Rat, 0 < a → a ≤ 1 → Gam1 L a g := fun a => by
    by_cases h : 0 < a ∧ a ≤ 1
    · obtain ⟨g, hg⟩ := gam1_ex hL h.1 h.2
      exact ⟨g, fun _ _ => hg⟩
    · exact ⟨fun _ => 0, fun h1 h2 => absurd ⟨h1, h2⟩ h⟩
  obtain ⟨G, hG⟩ := Classical.skolem.1 e1
  have e2 : ∀ z : Int × Int, ∃ x : Nat → Rat, StIn z.1 z.2 → IsLog x (gmV z.1 z.2 (G (gA z.1 z.2))) := fun z => by
    by_cases h : StIn z.1 z.2
    · obtain ⟨x, hx⟩ := gmV_log hL h (hG _ (gA_ok h).1 (gA_ok h).2)
      exact ⟨x, fun _ => hx⟩
    · exact ⟨fun _ => 0, fun h' => absurd h' h⟩
  obtain ⟨X, hX⟩ := Classical.skolem.1 e2
  exact ⟨L, G, fun n d => X (n, d), hL, hG, fun n d h => hX (n, d) h⟩
theorem Q_fit {b m k : Nat} (h : b + k ≤ 3200) : Q (b + m + k) ≤ P 200 * Q m := by
  rw [← Q_P, ← Q_add]
  exact Q_mono (by omega)
structure SuV (x : Nat → Rat) (b : Nat) (L H : Int) : Prop where
  le : L ≤ H
  nar : narB L H (Q b) 4 = true
  val : Iv b (L, H) x
theorem sure_su {x : Nat → Rat} {b : Nat} {Pr : Nat → Int → Int → Prop} {L H : Int} (h : SureOf b Pr L H) (hp : ∀ B lo hi, Pr B lo hi → lo ≤ hi ∧ Iv B (lo, hi) x) : SuV x b L H := by
  obtain ⟨m, lo, hi, pr, hm, e1, e2, h6⟩ := h
  obtain ⟨g1, iv⟩ := hp _ _ _ pr
  obtain ⟨n1, n2⟩ := sure_nar g1 e1 e2 h6
  refine ⟨n1, n2, ?_⟩
  have := Iv.to (B := b) (m := m) iv
  rw [e1, e2]; exact this
end Go.Proofs.Ytgmnknmjainabab
namespace Go.Proofs.Ytgmnknmjainabab
open Go.RowKit
attribute [local go_sem ↓] Go.wp_at_zero Go.wp_at_succ
theorem NoC.offI {w : World} {B B' : Nat} (h : NoC w B) (hne : B ≠ B') (u0 u1 : Value) : NoC ((w.setCell ⟨B', 0, none⟩ u0).setCell ⟨B', 1, none⟩ u1) B := by
  obtain ⟨q0, q1, q2, q3, q4, q5⟩ := h
  exact ⟨by simp [go_sem, q0, hne, Ne.symm hne], by simp [go_sem, q1, hne, Ne.symm hne], by simp [go_sem, q2, hne, Ne.symm hne], by simp [go_sem, q3, hne, Ne.symm hne], by simp [go_sem, q4, hne, Ne.symm hne], put_fz2 q5 _ _⟩
set_option maxRecDepth 100000 in
set_option maxHeartbeats 4000000 in
theorem wideLog_iv (w : World) (x y : Nm) (k b K : Nat) (n d : Int) (hx : IntAt w x.neg x.a x.n x.cap k n) (hy : IntAt w y.neg y.a y.n y.cap k d) (hk : k ≤ 100000) (hn : 0 < n) (hd : 0 < d) (hb16 : 16 ≤ b) (hb : b ≤ 1000000) (hK : Q (b + 4) < P K) (hK2 : K ≤ 10000000) :
    Calls Try.prog 128 #[.agg #[.bool x.neg, .slice x.a x.n x.cap], .agg #[.bool y.neg, .slice y.a y.n y.cap], .int .i64 b] w (fun r w' => ∃ (n' d' c : Int) (N N2 : Nat), Bal n d n' d' c ∧ -(16 * k + 1) ≤ c ∧ c ≤ 16 * k + 1 ∧ IsStop (lnT n' d' b) N ∧ IsStop (lnT 2 1 b) N2 ∧ SpanAns w b (K + 20) (lnOf (doneI (lnT n' d' b) N) (doneI (lnT 2 1 b) N2) c).1 (lnOf (doneI (lnT n' d' b) N) (doneI (lnT 2 1 b) N2) c).2 r w') := by
  obtain ⟨W, hW⟩ : ∃ W, W = ((w.alloc (.cells #[.bool x.neg, .slice x.a x.n x.cap] 26)).alloc (.cells #[.bool y.neg, .slice y.a y.n y.cap] 26)).alloc (.cells #[.bool false, .slice none 0 0, .bool false, .slice none 0 0, .int .i64 0] 28) := ⟨_, rfl⟩
  have hBW : Below w.heap.size w W := by rw [hW]; exact bl3 _ _ _ _
  have X : NmC W w.heap.size x := by rw [hW]; exact ⟨by simp [go_sem], by simp [go_sem]⟩
  have FX : ∀ o, W.frozen? ⟨w.heap.size, o, none⟩ = false := by rw [hW]; intro o; simp [go_sem]
  have Y : NmC W (w.heap.size + 1) y := by rw [hW]; exact ⟨by simp [go_sem], by simp [go_sem]⟩
  have FY : ∀ o, W.frozen? ⟨w.heap.size + 1, o, none⟩ = false := by rw [hW]; intro o; simp [go_sem]
  have R : NoC W (w.heap.size + 1 + 1) := by rw [hW]; exact ⟨by simp [go_sem], by simp [go_sem], by simp [go_sem], by simp [go_sem], by simp [go_sem], fun o => by simp [go_sem]⟩
  have HX := hide (hx.below hBW)
  have HY := hide (hy.below hBW)
  have lX := X.lt
  have lY := Y.lt
  clear hx hy
  go_enter Try.func128, Try.ntmps128
  go_wp2_with fail
  rw [← hW]
  clear hW
  refine (balanced_int _ x y k n d (unhide HX) (unhide HY) hn hd (by omega)).mono ?_
  rintro r w1 ⟨U, T, n', d', c, rfl, hbal, hc1, hc2, iU, iT, hb1⟩
  have FX1 : ∀ o, w1.frozen? ⟨w.heap.size, o, none⟩ = false := fun o => (hb1.frozen (p := ⟨w.heap.size, o, none⟩) lX).trans (FX o)
  have FY1 : ∀ o, w1.frozen? ⟨w.heap.size + 1, o, none⟩ = false := fun o => (hb1.frozen (p := ⟨w.heap.size + 1, o, none⟩) lY).trans (FY o)
  replace X := X.below hb1
  replace Y := Y.below hb1
  replace R := R.below hb1
  replace hBW := bthen hBW hb1
  have HBal := hide hbal
  clear hb1 FX FY HX HY hbal
  obtain ⟨V, hV⟩ : ∃ V, V = (((w1.setCell ⟨w.heap.size, 0, none⟩ (.bool U.neg)).setCell ⟨w.heap.size, 1, none⟩ (.slice U.a U.n U.cap)).setCell ⟨w.heap.size + 1, 0, none⟩ (.bool T.neg)).setCell ⟨w.heap.size + 1, 1, none⟩ (.slice T.a T.n T.cap) := ⟨_, rfl⟩
  have hE : IntAt V U.neg U.a U.n U.cap (k + k + 20) n' ∧ IntAt V T.neg T.a T.n T.cap (k + k + 20) d' ∧ NoC V (w.heap.size + 1 + 1) ∧ Below w.heap.size w V := by
    rw [hV]
    have hy1 := Y.off (B' := w.heap.size) (by omega) (.bool U.neg) (.slice U.a U.n U.cap)
    have i1 := iU.put2 X.c0 X.c1 (.bool U.neg) (.slice U.a U.n U.cap)
    have i2 := iT.put2 X.c0 X.c1 (.bool U.neg) (.slice U.a U.n U.cap)
    have r1 := R.offI (B' := w.heap.size) (by omega) (.bool U.neg) (.slice U.a U.n U.cap)
    have b1 := set2 hBW (Nat.le_refl _) (.bool U.neg) (.slice U.a U.n U.cap)
    generalize (w1.setCell ⟨w.heap.size, 0, none⟩ (.bool U.neg)).setCell ⟨w.heap.size, 1, none⟩ (.slice U.a U.n U.cap) = V0 at *
    exact ⟨i1.put2 hy1.c0 hy1.c1 _ _, i2.put2 hy1.c0 hy1.c1 _ _, r1.offI (by omega) _ _, set2 b1 (Nat.le_succ _) _ _⟩
  obtain ⟨jU, jT, R2, hB2⟩ := hE
  have HJU := hide jU
  have HJT := hide jT
  obtain ⟨x0, x1⟩ := X
  obtain ⟨y0, y1⟩ := Y
  have lX1 : w.heap.size < w1.heap.size := World.block_lt_of_cell? w1 ⟨w.heap.size, 0, none⟩ x0
  have lY1 : w.heap.size + 1 < w1.heap.size := World.block_lt_of_cell? w1 ⟨w.heap.size + 1, 0, none⟩ y0
  clear iU iT R hBW jU jT
  go_wp2_with fail
  rw [← hV]
  clear hV x0 x1 y0 y1 FX1 FY1
  obtain ⟨N, hN1, hN2⟩ := stop_ex (s := 3) (by omega) (lnT_abs (unhide HBal).1 hb16)
  obtain ⟨N2, hN3, hN4⟩ := stop_ex (s := 3) (by omega) (lnT_abs near2 hb16)
  have HS1 := hide hN2
  have HS2 := hide hN4
  clear hN1 hN2 hN3 hN4
  refine (logNear_iv _ U T (k + k + 20) b N K n' d' (unhide HJU) (unhide HJT) (by omega) (unhide HBal).1 hb16 hb (unhide HS1) hK hK2).mono ?_
  rintro r w3 ⟨v3, rfl, hvb3, hvp3, hb3⟩
  replace R2 := R2.below hb3
  have lw3 := R2.lt
  replace hB2 := bthen hB2 hb3
  have HV3 := hide hvb3
  clear hb3 hvb3 HJU HJT
  obtain ⟨V3, hV3⟩ : ∃ V3, V3 = w3.alloc (.cells #[.bool v3.ln, .slice v3.la v3.lN v3.lc, .bool v3.hn, .slice v3.ha v3.hN v3.hc, .int .i64 v3.bits] 28) := ⟨_, rfl⟩
  have bV3 : Below w3.heap.size w3 V3 := by rw [hV3]; exact bl1 _ _
  have C3 : SpC V3 w3.heap.size v3 := by rw [hV3]; exact spc_new w3 v3 _
  replace hvp3 := hvp3.below bV3
  replace R2 := R2.below bV3
  replace hB2 := bthen hB2 bV3
  clear bV3
  go_wp2_with fail
  rw [← hV3]
  clear hV3
  refine (numOf_int 2 _ (by decide) (by decide)).mono ?_
  rintro r w4 ⟨neg4, a4, n4, c4, rfl, hint4, hb4⟩
  replace C3 := C3.below hb4
  replace hvp3 := hvp3.below hb4
  replace R2 := R2.below hb4
  replace hB2 := bthen hB2 hb4
  clear hb4
  go_wp2_with fail
  refine (numOf_int 1 _ (by decide) (by decide)).mono ?_
  rintro r w5 ⟨neg5, a5, n5, c5, rfl, hint5, hb5⟩
  replace C3 := C3.below hb5
  replace hvp3 := hvp3.below hb5
  replace R2 := R2.below hb5
  replace hB2 := bthen hB2 hb5
  replace hint4 := hint4.below hb5
  clear hb5
  go_wp2_with fail
  refine (logNear_iv _ ⟨neg4, a4, n4, c4⟩ ⟨neg5, a5, n5, c5⟩ 4 b N2 K 2 1 hint4 hint5 (by omega) near2 hb16 hb (unhide HS2) hK hK2).mono ?_
  rintro r w6 ⟨v6, rfl, hvb6, hvp6, hb6⟩
  have lC3 := C3.lt
  have l36 : w3.heap.size < w6.heap.size := Nat.lt_of_lt_of_le lC3 hb6.size
  replace C3 := C3.below hb6
  replace hvp3 := hvp3.below hb6
  replace R2 := R2.below hb6
  replace hB2 := bthen hB2 hb6
  have HV6 := hide hvb6
  clear hb6 hvb6 hint4 hint5
  obtain ⟨V6, hV6⟩ : ∃ V6, V6 = w6.alloc (.cells #[.bool v6.ln, .slice v6.la v6.lN v6.lc, .bool v6.hn, .slice v6.ha v6.hN v6.hc, .int .i64 v6.bits] 28) := ⟨_, rfl⟩
  have bV6 : Below w6.heap.size w6 V6 := by rw [hV6]; exact bl1 _ _
  have C6 : SpC V6 w6.heap.size v6 := by rw [hV6]; exact spc_new w6 v6 _
  replace C3 := C3.below bV6
  have HP6 := hide (hvp6.below bV6)
  have HP3 := hide (hvp3.below bV6)
  replace R2 := R2.below bV6
  replace hB2 := bthen hB2 bV6
  have lR2 := R2.lt
  have HKr := hide (show ∀ w', Below V6.heap.size V6 w' → (w'.cell? ⟨w3.heap.size, 0, none⟩ = some (.bool v3.ln) ∧ w'.cell? ⟨w3.heap.size, 1, none⟩ = some (.slice v3.la v3.lN v3.lc) ∧ w'.cell? ⟨w3.heap.size, 2, none⟩ = some (.bool v3.hn) ∧ w'.cell? ⟨w3.heap.size, 3, none⟩ = some (.slice v3.ha v3.hN v3.hc) ∧ w'.cell? ⟨w3.heap.size, 4, none⟩ = some (.int .i64 v3.bits) ∧ w'.cell? ⟨w6.heap.size, 0, none⟩ = some (.bool v6.ln) ∧ w'.cell? ⟨w6.heap.size, 1, none⟩ = some (.slice v6.la v6.lN v6.lc) ∧ w'.cell? ⟨w6.heap.size, 2, none⟩ = some (.bool v6.hn) ∧ w'.cell? ⟨w6.heap.size, 3, none⟩ = some (.slice v6.ha v6.hN v6.hc) ∧ w'.cell? ⟨w6.heap.size, 4, none⟩ = some (.int .i64 v6.bits)) from fun w' hB => ⟨(C3.below hB).c0, (C3.below hB).c1, (C3.below hB).c2, (C3.below hB).c3, (C3.below hB).c4, (C6.below hB).c0, (C6.below hB).c1, (C6.below hB).c2, (C6.below hB).c3, (C6.below hB).c4⟩)
  have hD0 : Below V6.heap.size V6 V6.drew := (Below.refl _ _).drew
  have l3 := C3.lt
  have l6 := C6.lt
  have m1 : w.heap.size + 1 + 1 ≠ w3.heap.size := by omega
  have m2 : w.heap.size + 1 + 1 ≠ w6.heap.size := by omega
  have m3 : w3.heap.size ≠ w.heap.size + 1 + 1 := by omega
  have m4 : w6.heap.size ≠ w.heap.size + 1 + 1 := by omega
  clear hvp3 hvp6 bV6 C3 C6
  have hkk : k ≤ 100000 := hk
  by_cases hcz : c < 0
  · go_wp2_with fail
    rw [← hV6]
    clear hV6
    obtain ⟨e0, e1, e2, e3, e4, e5, e6, e7, e8, e9⟩ := unhide HKr _ (Below.refl _ _)
    have HWC := hide (show IntKind.i64.wrap (-c) = -c from i64_id _ (by omega) (by omega))
    go_region_held3 (fun w' => w'.cell? ⟨w3.heap.size, 0, none⟩ = some (.bool v3.ln) ∧ w'.cell? ⟨w3.heap.size, 1, none⟩ = some (.slice v3.la v3.lN v3.lc) ∧ w'.cell? ⟨w3.heap.size, 2, none⟩ = some (.bool v3.hn) ∧ w'.cell? ⟨w3.heap.size, 3, none⟩ = some (.slice v3.ha v3.hN v3.hc) ∧ w'.cell? ⟨w3.heap.size, 4, none⟩ = some (.int .i64 v3.bits) ∧ w'.cell? ⟨w6.heap.size, 0, none⟩ = some (.bool v6.ln) ∧ w'.cell? ⟨w6.heap.size, 1, none⟩ = some (.slice v6.la v6.lN v6.lc) ∧ w'.cell? ⟨w6.heap.size, 2, none⟩ = some (.bool v6.hn) ∧ w'.cell? ⟨w6.heap.size, 3, none⟩ = some (.slice v6.ha v6.hN v6.hc) ∧ w'.cell? ⟨w6.heap.size, 4, none⟩ = some (.int .i64 v6.bits)) (first | exact unhide HKr _ (by first | with_reducible exact hD0 | with_reducible exact hD2 | with_reducible exact hD1) | go_keep)
      (first
        | (go_at_call 79; have hq := hD1; refine (sub_iv _ v3 v7 (K + 11) b (timesI (doneI (lnT n' d' b) N) 2) (timesI (timesI (doneI (lnT 2 1 b) N2) 2) (-c)) (((unhide HP3).below hD1).mono (by omega)) (hvp7.mono (by omega)) (by omega) (unhide HV3)).mono ?_; rintro r' w8 ⟨v, rfl, hvb, hvp, hb8⟩; have hD2 := bthen hD1 hb8; have HV := hide hvb; clear hvb; obtain ⟨q0, q1, q2, q3, q4, q5⟩ := R2.below hD2; obtain ⟨z0, z1, z2, z3, z4, z5, z6, z7, z8, z9⟩ := unhide HKr _ hD2)
        | (go_at_call 136; rw [unhide HWC]; refine (times_iv _ v6 (K + 7) b (-c) (timesI (doneI (lnT 2 1 b) N2) 2) ((unhide HP6).below hD0) (by omega) (unhide HV6) (by omega) (by omega)).mono ?_; rintro r' w7 ⟨v7, rfl, hvb7, hvp7, hb7⟩; have HV7 := hide hvb7; clear hvb7; have hD1 := bthen hD0 hb7))
    all_goals
      go_wp2_with fail
      refine bodyPost_ret (v := .agg #[.bool v.ln, .slice v.la v.lN v.lc, .bool v.hn, .slice v.ha v.hN v.hc, .int .i64 v.bits]) (by simp [results, Try.results128, go_sem, q0, q1, q2, q3, q4]) rfl ⟨n', d', c, N, N2, unhide HBal, hc1, hc2, unhide HS1, unhide HS2, v, rfl, unhide HV, ?_, ?_⟩
      · refine SpAt.put5 ?_ q0 q1 q2 q3 q4 _ _ _ _ _
        unfold lnOf
        rw [if_pos hcz]
        exact hvp.mono (by omega)
      · exact set5 (bthen hB2 hD2) (by omega) _ _ _ _ _
  · go_wp2_with fail
    rw [← hV6]
    clear hV6
    obtain ⟨e0, e1, e2, e3, e4, e5, e6, e7, e8, e9⟩ := unhide HKr _ (Below.refl _ _)
    have hcz' : ¬ c < 0 := by omega
    go_region_held3 (fun w' => w'.cell? ⟨w3.heap.size, 0, none⟩ = some (.bool v3.ln) ∧ w'.cell? ⟨w3.heap.size, 1, none⟩ = some (.slice v3.la v3.lN v3.lc) ∧ w'.cell? ⟨w3.heap.size, 2, none⟩ = some (.bool v3.hn) ∧ w'.cell? ⟨w3.heap.size, 3, none⟩ = some (.slice v3.ha v3.hN v3.hc) ∧ w'.cell? ⟨w3.heap.size, 4, none⟩ = some (.int .i64 v3.bits) ∧ w'.cell? ⟨w6.heap.size, 0, none⟩ = some (.bool v6.ln) ∧ w'.cell? ⟨w6.heap.size, 1, none⟩ = some (.slice v6.la v6.lN v6.lc) ∧ w'.cell? ⟨w6.heap.size, 2, none⟩ = some (.bool v6.hn) ∧ w'.cell? ⟨w6.heap.size, 3, none⟩ = some (.slice v6.ha v6.hN v6.hc) ∧ w'.cell? ⟨w6.heap.size, 4, none⟩ = some (.int .i64 v6.bits)) (first | exact unhide HKr _ (by first | with_reducible exact hD0 | with_reducible exact hD2 | with_reducible exact hD1) | go_keep)
      (first
        | (go_at_call 56; have hq := hD1; refine (add_iv _ v3 v7 (K + 11) b (timesI (doneI (lnT n' d' b) N) 2) (timesI (timesI (doneI (lnT 2 1 b) N2) 2) c) (((unhide HP3).below hD1).mono (by omega)) (hvp7.mono (by omega)) (by omega) (unhide HV3)).mono ?_; rintro r' w8 ⟨v, rfl, hvb, hvp, hb8⟩; have hD2 := bthen hD1 hb8; have HV := hide hvb; clear hvb; obtain ⟨q0, q1, q2, q3, q4, q5⟩ := R2.below hD2; obtain ⟨z0, z1, z2, z3, z4, z5, z6, z7, z8, z9⟩ := unhide HKr _ hD2)
        | (go_at_call 136; refine (times_iv _ v6 (K + 7) b c (timesI (doneI (lnT 2 1 b) N2) 2) ((unhide HP6).below hD0) (by omega) (unhide HV6) (by omega) (by omega)).mono ?_; rintro r' w7 ⟨v7, rfl, hvb7, hvp7, hb7⟩; have HV7 := hide hvb7; clear hvb7; have hD1 := bthen hD0 hb7))
    all_goals
      go_wp2_with fail
      refine bodyPost_ret (v := .agg #[.bool v.ln, .slice v.la v.lN v.lc, .bool v.hn, .slice v.ha v.hN v.hc, .int .i64 v.bits]) (by simp [results, Try.results128, go_sem, q0, q1, q2, q3, q4]) rfl ⟨n', d', c, N, N2, unhide HBal, hc1, hc2, unhide HS1, unhide HS2, v, rfl, unhide HV, ?_, ?_⟩
      · refine SpAt.put5 ?_ q0 q1 q2 q3 q4 _ _ _ _ _
        unfold lnOf
        rw [if_neg (show ¬ c < 0 by omega)]
        exact hvp.mono (by omega)
      · exact set5 (bthen hB2 hD2) (by omega) _ _ _ _ _
end Go.Proofs.Ytgmnknmjainabab
