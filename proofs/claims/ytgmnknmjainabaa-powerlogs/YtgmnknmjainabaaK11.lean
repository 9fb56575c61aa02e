/-
  What wide.logNear answers, and that it leaves old memory alone.
  What wide.Log and power.Log answer, and that they leave old memory alone.
  What power.Log answers, errors too, and that it leaves old memory alone.
  What wide.Root answers of a right span that has nothing below 0, and that it leaves old memory alone.
  Two variables of numbers in memory that are made in one statement, wherever they came to lie.
  What tailsureref.Over answers of right spans, the second one more than 0, and that it leaves old memory alone.
  What wide.Div answers of right spans, the second one less than 0; and both ways together; and that it leaves old memory alone.
-/
import Derived.Test.YtgmnknmjainabaaK10
namespace Go.Proofs.Ytgmnknmjainabaa
set_option linter.unusedVariables false
set_option linter.unusedSimpArgs false
set_option linter.unnecessarySimpa false
open Go.RowKit
attribute [local go_sem ↓] Go.wp_at_zero Go.wp_at_succ

theorem scale_iv (w : World) (s : Sp) (x y : Nm) (k k1 k2 b : Nat) (a : Int × Int) (n d : Int) (hs : SpAt w s k a.1 a.2) (h1 : IntAt w x.neg x.a x.n x.cap k1 n) (h2 : IntAt w y.neg y.a y.n y.cap k2 d) (hk : k ≤ 300000000) (hk1 : k1 ≤ 300000000) (hd : 0 < d) (hb : s.bits = (b : Int)) :
    Calls Try.prog 149 #[.agg #[.bool s.ln, .slice s.la s.lN s.lc, .bool s.hn, .slice s.ha s.hN s.hc, .int .i64 s.bits], .agg #[.bool x.neg, .slice x.a x.n x.cap], .agg #[.bool y.neg, .slice y.a y.n y.cap]] w (SpanAns w b (k + k1 + 10) (scaleI a n d).1 (scaleI a n d).2) :=
  (scale_int w s _ _ _ _ _ _ _ _ k k1 k2 a.1 a.2 n d hs h1 h2 hk hk1 hd).mono fun r w' h => by rw [hb] at h; exact h

set_option maxRecDepth 100000 in
set_option maxHeartbeats 2000000 in
theorem ln1_iv (w : World) (B0 : Nat) (s u : Sp) (k b : Nat) (n : Int) (a c : Int × Int) (hs : SpAt w s k a.1 a.2) (hu : SpAt w u k c.1 c.2) (hU : SpC w B0 u) (hk : k ≤ 100000000) (hb : s.bits = (b : Int)) (hbm : b ≤ 1000000) (hn : 1 ≤ n) (hn2 : n ≤ 1000000000000) :
    Calls Try.prog 156 #[.agg #[.bool s.ln, .slice s.la s.lN s.lc, .bool s.hn, .slice s.ha s.hN s.hc, .int .i64 s.bits], .int .i64 n, .pointer (some ⟨B0, 0, none⟩)] w (SpanAns w b (k + k + 8 + 4 + 10) (scaleI (mulI b a c) (2 * n - 1) (2 * n + 1)).1 (scaleI (mulI b a c) (2 * n - 1) (2 * n + 1)).2) := by
  obtain ⟨W, hW⟩ : ∃ W, W = (w.alloc (.cells #[.bool s.ln, .slice s.la s.lN s.lc, .bool s.hn, .slice s.ha s.hN s.hc, .int .i64 s.bits] 26)).alloc (.cells #[.bool false, .slice none 0 0, .bool false, .slice none 0 0, .int .i64 0] 26) := ⟨_, rfl⟩
  have hBW : Below w.heap.size w W := by rw [hW]; exact bl2 _ _ _
  have R : NoC W (w.heap.size + 1) := by rw [hW]; exact ⟨by simp [go_sem], by simp [go_sem], by simp [go_sem], by simp [go_sem], by simp [go_sem], fun o => by simp [go_sem]⟩
  have HS := hide (hs.below hBW)
  have HU := hide (hu.below hBW)
  have l0 := hU.lt
  obtain ⟨y0, y1, y2, y3, y4⟩ := hU
  have HB := hide hb
  clear hs hu hb
  go_enter Try.func156, Try.ntmps156
  go_wp2_with fail
  rw [← hW]
  clear hW
  refine (mul_iv _ s u k b a c (unhide HS) (unhide HU) (by omega) (unhide HB) hbm).mono ?_
  rintro r' w1 ⟨v, rfl, hvb, hvp, hb1⟩
  have HV := hide hvb
  clear hvb y0 y1 y2 y3 y4
  replace R := R.below hb1
  replace hBW := bthen hBW hb1
  go_wp2_with fail
  refine (numOf_int (2 * n - 1) _ (by omega) (by omega)).mono ?_
  rintro r' w2 ⟨neg2, a2, n2, c2, rfl, hint2, hb2⟩
  replace R := R.below hb2
  replace hBW := bthen hBW hb2
  replace hvp := hvp.below hb2
  go_wp2_with fail
  refine (numOf_int (2 * n + 1) _ (by omega) (by omega)).mono ?_
  rintro r' w3 ⟨neg3, a3, n3, c3, rfl, hint3, hb3⟩
  replace R := R.below hb3
  replace hBW := bthen hBW hb3
  replace hvp := hvp.below hb3
  replace hint2 := hint2.below hb3
  go_wp2_with fail
  refine (scale_iv _ v ⟨neg2, a2, n2, c2⟩ ⟨neg3, a3, n3, c3⟩ _ _ _ b _ (2 * n - 1) (2 * n + 1) hvp hint2 hint3 (by omega) (by omega) (by omega) (unhide HV)).mono ?_
  rintro r' w4 ⟨t, rfl, htb, htp, hb4⟩
  obtain ⟨q0, q1, q2, q3, q4, q5⟩ := R.below hb4
  replace hBW := bthen hBW hb4
  have HT := hide htb
  clear htb
  go_wp2_with fail
  refine bodyPost_ret (v := .agg #[.bool t.ln, .slice t.la t.lN t.lc, .bool t.hn, .slice t.ha t.hN t.hc, .int .i64 t.bits]) (by simp [results, Try.results156, go_sem, q0, q1, q2, q3, q4]) rfl ⟨t, rfl, unhide HT, ?_, ?_⟩
  · exact SpAt.put5 (htp.mono (by omega)) q0 q1 q2 q3 q4 _ _ _ _ _
  · exact set5 hBW (Nat.le_succ _) _ _ _ _ _

set_option maxRecDepth 100000 in
set_option maxHeartbeats 4000000 in
theorem sum_ln (p1 : Value) (f : Nat → Int × Int) (N b K KF : Nat) (s : Sp) (W : World) (hs : SpAt W s K (f 0).1 (f 0).2) (hbits : s.bits = (b : Int)) (hb : b ≤ 1000000) (hK : K ≤ 100000000) (hKF : KF ≤ 900000000) (hN : IsStop f N) (hNb : N ≤ 1000000000)
    (hle : ∀ n, (f n).1 ≤ (f n).2) (hfit : ∀ n, n ≤ N → -P K < (f n).1 ∧ (f n).2 < P K) (hfitS : ∀ n, n ≤ N → -P K < (sumI f n).1 ∧ (sumI f n).2 < P K)
    (hF : ∀ (n : Nat) (u : Sp) w', n < N → u.bits = (b : Int) → SpAt w' u K (f n).1 (f n).2 → Below W.heap.size W w' → Calls Try.prog 156 #[.agg #[.bool u.ln, .slice u.la u.lN u.lc, .bool u.hn, .slice u.ha u.hN u.hc, .int .i64 u.bits], .int .i64 ((n : Int) + 1), p1] w' (SpanAns w' b KF (f (n + 1)).1 (f (n + 1)).2)) :
    Calls Try.prog 135 #[.agg #[.bool s.ln, .slice s.la s.lN s.lc, .bool s.hn, .slice s.ha s.hN s.hc, .int .i64 s.bits], .func (.func 156) #[] #[p1]] W (SpanAns W b (K + 3) (doneI f N).1 (doneI f N).2) := by
  have HF := hide hF
  have HN := hide hN
  have HBT := hide hbits
  clear hF hN hbits
  obtain ⟨V, hV⟩ : ∃ V, V = (W.alloc (.cells #[.bool s.ln, .slice s.la s.lN s.lc, .bool s.hn, .slice s.ha s.hN s.hc, .int .i64 s.bits] 26)).alloc (.cells #[.bool false, .slice none 0 0, .bool false, .slice none 0 0, .int .i64 0] 26) := ⟨_, rfl⟩
  have hBV : Below W.heap.size W V := by rw [hV]; exact bl2 _ _ _
  have A : SpC V W.heap.size s := by rw [hV]; exact ⟨by simp [go_sem], by simp [go_sem], by simp [go_sem], by simp [go_sem], by simp [go_sem]⟩
  have R : NoC V (W.heap.size + 1) := by rw [hV]; exact ⟨by simp [go_sem], by simp [go_sem], by simp [go_sem], by simp [go_sem], by simp [go_sem], fun o => by simp [go_sem]⟩
  have HS := hide (hs.below hBV)
  have lA := A.lt
  have lR := R.lt
  clear hs
  go_enter Try.func135, Try.ntmps135
  go_wp2
  rw [← hV]
  clear hV
  go_cut [5, 6] (fun p q wx => TwoS V wx s s p q)
  case first =>
    obtain ⟨x0, x1, x2, x3, x4⟩ := A
    go_region
    all_goals
      go_wp2_with fail
      go_meet
      first
        | with_reducible exact twoS_a _ _ _ _
        | with_reducible exact twoS_b _ _ _ _
  case rest =>
  obtain ⟨B5, B6, rfl, rfl, l5, l6, hne, X, Y, hB⟩ := hcut
  have n5 : W.heap.size + 1 < B5 := by omega
  have n6 : W.heap.size + 1 < B6 := by omega
  have st0 : SumSt W wc B5 B6 b K s s s f 0 := ⟨X, Y, (unhide HS).below hB, (unhide HS).below hB, unhide HBT, unhide HBT, A.below hB, R.below hB, bthen hBV hB, n5, n6, hne⟩
  clear X Y hB A R HS l5 l6 n5 n6 hne hBV lA lR
  go_wp2_with fail
  go_loopw [7] (fun nn wr => ∃ (i : Nat) (X Y : Sp), nn = .int .i64 ((i : Int) + 1) ∧ i ≤ N ∧ SumSt W wr B5 B6 b K s X Y f i) (fun nn _ => N + 1 - (intOf nn).toNat)
  case atStart => exact ⟨0, s, s, rfl, Nat.zero_le _, st0⟩
  case round =>
    obtain ⟨i, X, Y, rfl, hi, st⟩ := hrel
    have hr0 := reach_pair (hle i)
    obtain ⟨⟨y0, y1, y2, y3, y4⟩, y5⟩ := st.y
    go_wp2_with fail
    refine (reach_int _ Y K _ _ st.yp (by omega)).mono ?_
    rintro r w1 ⟨neg1, a1, n1, c1, rfl, hint1, hb1⟩
    replace st := st.below hb1
    clear hb1 y0 y1 y2 y3 y4 y5
    go_wp2_with fail
    refine (len_int _ _ _ _ _ (reachI (f i)) _ hint1 hr0).mono ?_
    rintro r w2 ⟨l, hlen, rfl, hb2⟩
    replace st := st.below hb2
    clear hb2 hint1
    by_cases hin : i < N
    · have hl : 1 < l := by
        refine Int.not_le.1 fun hl => ?_
        have := len_one hlen hl hr0
        have := (unhide HN).2 i hin
        omega
      clear hlen
      obtain ⟨⟨y0, y1, y2, y3, y4⟩, y5⟩ := st.y
      go_wp2_with fail
      refine (unhide HF i Y _ hin st.yb st.yp st.be).mono ?_
      rintro r w3 ⟨u, rfl, hub, hup, hb3⟩
      replace st := st.below hb3
      replace hup := hup.fits (K := K) (hle _) (hfit _ (by omega)).1 (hfit _ (by omega)).2
      have HU := hide hub
      clear hb3 y0 y1 y2 y3 y4 y5 hub
      obtain ⟨V3, hV3⟩ : ∃ V3, V3 = put5w w3 B6 u := ⟨_, rfl⟩
      have X3 : VrC V3 B5 X := by rw [hV3]; exact st.x.off st.ne u
      have Y3 : VrC V3 B6 u := by rw [hV3]; exact st.y.put u
      have P3 : SpAt V3 X K (sumI f i).1 (sumI f i).2 := by rw [hV3]; exact st.xp.put st.y.c u
      have U3 : SpAt V3 u K (f (i + 1)).1 (f (i + 1)).2 := by rw [hV3]; exact hup.put st.y.c u
      have F3 : SpC V3 W.heap.size s := by rw [hV3]; exact st.fs.off (by have := st.l6; omega) u
      have R3 : NoC V3 (W.heap.size + 1) := by rw [hV3]; exact st.no.off (by have := st.l6; omega) u
      have B3 : Below W.heap.size W V3 := by rw [hV3]; exact below_put st.be (by have := st.l6; omega) u
      have xb := hide st.xb
      have l5 := st.l5
      have l6 := st.l6
      have hne := st.ne
      have lY := st.y.lt
      have lX := st.x.lt
      obtain ⟨⟨y0, y1, y2, y3, y4⟩, y5⟩ := st.y
      obtain ⟨⟨x0, x1, x2, x3, x4⟩, x5⟩ := st.x
      clear st hup
      go_wp2_with fail
      have hV3' : V3 = put5w w3 B6 u := hV3
      unfold put5w at hV3'
      rw [← hV3']
      clear hV3' y0 y1 y2 y3 y4 y5 x0 x1 x2 x3 x4 x5
      have lX3 : B5 < V3.heap.size := X3.lt
      refine (add_iv _ X u K b (sumI f i) (f (i + 1)) P3 U3 (by omega) (unhide xb)).mono ?_
      rintro r w4 ⟨v, rfl, hvb, hvp, hb4⟩
      have X4 := X3.below hb4
      have Y4 := Y3.below hb4
      have U4 := U3.below hb4
      have F4 := F3.below hb4
      have R4 := R3.below hb4
      have B4 := bthen B3 hb4
      have e : addI (sumI f i) (f (i + 1)) = sumI f (i + 1) := rfl
      rw [e] at hvp
      replace hvp := hvp.fits (K := K) (sum_le hle _) (hfitS _ (by omega)).1 (hfitS _ (by omega)).2
      have HV := hide hvb
      clear hb4 hvb X3 Y3 P3 U3 F3 R3 B3 hV3
      have stn : SumSt W (put5w w4 B5 v) B5 B6 b K s v u f (i + 1) := ⟨X4.put v, Y4.off (Ne.symm hne) v, hvp.put X4.c v, U4.put X4.c v, unhide HV, unhide HU, F4.off (by omega) v, R4.off (by omega) v, below_put B4 (by omega) v, l5, l6, hne⟩
      unfold put5w at stn
      obtain ⟨⟨x0, x1, x2, x3, x4⟩, x5⟩ := X4
      go_wp2_with fail
      go_roundw
      case rel => exact ⟨i + 1, v, u, by go_num, by omega, stn⟩
      case measure => simp [intOf]; omega
    · have hie : i = N := by omega
      subst hie
      have hl : ¬ 1 < l := by
        have h1 := (unhide HN).1
        intro hl
        obtain ⟨g1, g2, g3⟩ := hlen
        by_cases hp : 0 < reachI (f i)
        · obtain ⟨L, e1, e2, e3⟩ := g3 hp
          have : 1 ≤ L := by omega
          have := Q_mono this
          have : Q 1 = 2 := rfl
          omega
        · have := g2 (by omega); omega
      clear hlen
      obtain ⟨⟨y0, y1, y2, y3, y4⟩, y5⟩ := st.y
      go_wp2_with fail
      refine (reach_int _ Y K _ _ st.yp (by omega)).mono ?_
      rintro r w3 ⟨neg3, a3, n3, c3, rfl, hint3, hb3⟩
      replace st := st.below hb3
      clear hb3 y0 y1 y2 y3 y4 y5
      obtain ⟨V3, hV3⟩ : ∃ V3, V3 = w3.alloc (.cells #[.bool neg3, .slice a3 n3 c3] 24) := ⟨_, rfl⟩
      have bV : Below w3.heap.size w3 V3 := by rw [hV3]; exact bl1 _ _
      have L3 : NmC V3 w3.heap.size ⟨neg3, a3, n3, c3⟩ := by rw [hV3]; exact nmc_new w3 ⟨neg3, a3, n3, c3⟩ _
      have st3 := st.below bV
      have HI := hide (hint3.below bV)
      have l5 := st.l5
      have lX := st.x.lt
      have HKr := hide (show ∀ w', Below V3.heap.size V3 w' → (w'.cell? ⟨B5, 0, none⟩ = some (.bool X.ln) ∧ w'.cell? ⟨B5, 1, none⟩ = some (.slice X.la X.lN X.lc) ∧ w'.cell? ⟨B5, 2, none⟩ = some (.bool X.hn) ∧ w'.cell? ⟨B5, 3, none⟩ = some (.slice X.ha X.hN X.hc) ∧ w'.cell? ⟨B5, 4, none⟩ = some (.int .i64 X.bits) ∧ w'.cell? ⟨w3.heap.size, 0, none⟩ = some (.bool neg3) ∧ w'.cell? ⟨w3.heap.size, 1, none⟩ = some (.slice a3 n3 c3) ∧ w'.cell? ⟨W.heap.size, 4, none⟩ = some (.int .i64 s.bits)) from fun w' hB => ⟨(st3.x.c.below hB).c0, (st3.x.c.below hB).c1, (st3.x.c.below hB).c2, (st3.x.c.below hB).c3, (st3.x.c.below hB).c4, (L3.below hB).c0, (L3.below hB).c1, (st3.fs.below hB).c4⟩)
      have lL := L3.lt
      have R3 := st3.no
      have lR3 := R3.lt
      clear st L3 hint3
      go_wp2_with fail
      rw [← hV3]
      clear hV3
      obtain ⟨x0, x1, x2, x3, x4, x5, x6, x7⟩ := unhide HKr _ (Below.refl _ _)
      have hD0 : Below V3.heap.size V3 V3.drew := (Below.refl _ _).drew
      have nR1 : W.heap.size + 1 ≠ B5 := by omega
      have nR2 : W.heap.size + 1 ≠ w3.heap.size := by omega
      have nR3 : W.heap.size + 1 ≠ W.heap.size := by omega
      go_region_held3 (fun w' => w'.cell? ⟨B5, 0, none⟩ = some (.bool X.ln) ∧ w'.cell? ⟨B5, 1, none⟩ = some (.slice X.la X.lN X.lc) ∧ w'.cell? ⟨B5, 2, none⟩ = some (.bool X.hn) ∧ w'.cell? ⟨B5, 3, none⟩ = some (.slice X.ha X.hN X.hc) ∧ w'.cell? ⟨B5, 4, none⟩ = some (.int .i64 X.bits) ∧ w'.cell? ⟨w3.heap.size, 0, none⟩ = some (.bool neg3) ∧ w'.cell? ⟨w3.heap.size, 1, none⟩ = some (.slice a3 n3 c3) ∧ w'.cell? ⟨W.heap.size, 4, none⟩ = some (.int .i64 s.bits)) (first | exact unhide HKr _ (by first | with_reducible exact hD0 | with_reducible exact hD2 | with_reducible exact hD1) | go_keep)
        (first
          | (go_at_call 82; have hq := hD1; refine (add_iv _ X ⟨neg4, a4, n4, c4, neg3, a3, n3, c3, s.bits⟩ (K + 1) b (sumI f i) (-reachI (f i), reachI (f i)) ((st3.xp.below hD1).mono (by omega)) ⟨hint4, (unhide HI).below hD1⟩ (by omega) st3.xb).mono ?_; rintro r' w5 ⟨v, rfl, hvb, hvp, hb5⟩; have hD2 := bthen hD1 hb5; have HV := hide hvb; clear hvb; obtain ⟨q0, q1, q2, q3, q4, q5⟩ := R3.below hD2; obtain ⟨y0, y1, y2, y3, y4, y5, y6, y7⟩ := unhide HKr _ hD2)
          | (go_at_call 80; refine (neg_int _ _ _ _ (K + 1) (reachI (f i)) _ ((unhide HI).below hD0) (by omega)).mono ?_; rintro r' w4 ⟨neg4, a4, n4, c4, rfl, hint4, hb4⟩; have hD1 := bthen hD0 hb4))
      all_goals
        go_wp2_with fail
        refine bodyPost_ret (v := .agg #[.bool v.ln, .slice v.la v.lN v.lc, .bool v.hn, .slice v.ha v.hN v.hc, .int .i64 v.bits]) (by simp [results, Try.results135, go_sem, q0, q1, q2, q3, q4]) rfl ⟨v, rfl, unhide HV, ?_, ?_⟩
        · exact SpAt.put5 (hvp.mono (by omega)) q0 q1 q2 q3 q4 _ _ _ _ _
        · exact set5 (bthen st3.be hD2) (Nat.le_succ _) _ _ _ _ _

set_option maxRecDepth 100000 in
set_option maxHeartbeats 4000000 in
theorem logNear_iv (w : World) (x y : Nm) (k b N K : Nat) (n d : Int) (hx : IntAt w x.neg x.a x.n x.cap k n) (hy : IntAt w y.neg y.a y.n y.cap k d) (hk : k ≤ 10000000) (h1 : NearOne n d) (hb16 : 16 ≤ b) (hb : b ≤ 1000000) (hN : IsStop (lnT n d b) N) (hK : Q (b + 4) < P K) (hK2 : K ≤ 10000000) :
    Calls Try.prog 153 #[.agg #[.bool x.neg, .slice x.a x.n x.cap], .agg #[.bool y.neg, .slice y.a y.n y.cap], .int .i64 b] w (SpanAns w b (K + 7) (timesI (doneI (lnT n d b) N) 2).1 (timesI (doneI (lnT n d b) N) 2).2) := by
  obtain ⟨W, hW⟩ : ∃ W, W = ((w.alloc (.cells #[.bool x.neg, .slice x.a x.n x.cap] 24)).alloc (.cells #[.bool y.neg, .slice y.a y.n y.cap] 24)).alloc (.cells #[.bool false, .slice none 0 0, .bool false, .slice none 0 0, .int .i64 0] 26) := ⟨_, rfl⟩
  have hBW : Below w.heap.size w W := by rw [hW]; exact bl3 _ _ _ _
  have X : NmC W w.heap.size x := by rw [hW]; exact ⟨by simp [go_sem], by simp [go_sem]⟩
  have Y : NmC W (w.heap.size + 1) y := by rw [hW]; exact ⟨by simp [go_sem], by simp [go_sem]⟩
  have R : NoC W (w.heap.size + 1 + 1) := by rw [hW]; exact ⟨by simp [go_sem], by simp [go_sem], by simp [go_sem], by simp [go_sem], by simp [go_sem], fun o => by simp [go_sem]⟩
  have HX := hide (hx.below hBW)
  have HY := hide (hy.below hBW)
  have lX := X.lt
  have lY := Y.lt
  have lR := R.lt
  have hnd : 0 < n + d := by have := h1.hn; have := h1.hd; omega
  have hQb := Q_pos b
  have hQK : Q b * 16 < P K := by
    have e : Q (b + 4) = 2 * (2 * (2 * (2 * Q b))) := rfl
    omega
  have hza := zI_absB h1 hb16
  have hfitz : -P K < (zI n d b).1 ∧ (zI n d b).2 < P K := by have := hza.1; have := hza.2.2.2; omega
  have hsa := sqI_abs h1 hb16
  have hfitq : -P K < (mulI b (zI n d b) (zI n d b)).1 ∧ (mulI b (zI n d b) (zI n d b)).2 < P K := by
    have := hsa.1; have := hsa.2.2.2; have := Q_mono (show b - 3 ≤ b by omega); omega
  have HFZ := hide hfitz
  have HFQ := hide hfitq
  have HZL := hide (ofI_le (n := n - d) hnd b)
  have H1 := hide h1
  have HN := hide hN
  have HK := hide (show ∀ w', Below W.heap.size W w' → (w'.cell? ⟨w.heap.size, 0, none⟩ = some (.bool x.neg) ∧ w'.cell? ⟨w.heap.size, 1, none⟩ = some (.slice x.a x.n x.cap) ∧ w'.cell? ⟨w.heap.size + 1, 0, none⟩ = some (.bool y.neg) ∧ w'.cell? ⟨w.heap.size + 1, 1, none⟩ = some (.slice y.a y.n y.cap)) from fun w' hB => ⟨(X.below hB).c0, (X.below hB).c1, (Y.below hB).c0, (Y.below hB).c1⟩)
  clear hx hy hza hfitz hsa hfitq h1 hN
  go_enter Try.func153, Try.ntmps153
  go_wp2
  rw [← hW]
  clear hW
  obtain ⟨x0, x1, x2, x3⟩ := unhide HK _ (Below.refl _ _)
  go_cut [7] (fun p wx => ∃ (B : Nat) (u : Sp), p = .pointer (some ⟨B, 0, none⟩) ∧ W.heap.size ≤ B ∧ VrC wx B u ∧ SpAt wx u K (zI n d b).1 (zI n d b).2 ∧ u.bits = (b : Int) ∧ Below W.heap.size W wx)
  case first =>
    go_region_held3 (fun w' => w'.cell? ⟨w.heap.size, 0, none⟩ = some (.bool x.neg) ∧ w'.cell? ⟨w.heap.size, 1, none⟩ = some (.slice x.a x.n x.cap) ∧ w'.cell? ⟨w.heap.size + 1, 0, none⟩ = some (.bool y.neg) ∧ w'.cell? ⟨w.heap.size + 1, 1, none⟩ = some (.slice y.a y.n y.cap)) (exact unhide HK _ (by repeat' (first | with_reducible exact hBU3 | with_reducible exact hBU2 | with_reducible exact hBU1 | with_reducible exact Below.refl _ _ | with_reducible refine Below.drew ?_ | with_reducible refine balloc ?_ _ | with_reducible refine Below.setCell ?_ (by first | exact Nat.le_refl _ | exact hlU1 | exact hlU2 | exact hlU3) _)))
      (first
        | (go_at_call 71; have hq := hBU2; refine (wideOf_any _ _ _ _ _ _ _ _ _ _ b (n - d) (n + d) _ (hintU1.below (by first | with_reducible exact Below.refl _ _ | with_reducible exact bl1 _ _)) (hintU2.below (by first | with_reducible exact Below.refl _ _ | with_reducible exact bl1 _ _)) (by omega) hb hnd).mono ?_; rintro r wU3 ⟨vU3, rfl, hvbU3, hintU3, hbU3⟩; have HVBU3 := hide hvbU3; clear hvbU3; have hCU3 : Below wU2.heap.size wU2 wU3 := (by first | with_reducible exact hbU3 | with_reducible exact bthen (bl1 _ _) hbU3); have hBU3 := bthen hBU2 hCU3; (try with_reducible have gU3 := (noc_new wU2 26).below hbU3); replace hintU1 := hintU1.below hCU3; (try replace gU1 := gU1.below hCU3); replace hintU2 := hintU2.below hCU3; (try replace gU2 := gU2.below hCU3); have hlU3 := hBU3.size; (try have mU1 := gU1.lt); (try have eU1 := Nat.ne_of_lt mU1); (try have eU1' := Nat.ne_of_gt mU1); (try obtain ⟨zU10, zU11, zU12, zU13, zU14, zU15⟩ := gU1); (try have mU2 := gU2.lt); (try have eU2 := Nat.ne_of_lt mU2); (try have eU2' := Nat.ne_of_gt mU2); (try obtain ⟨zU20, zU21, zU22, zU23, zU24, zU25⟩ := gU2); (try have mU3 := gU3.lt); (try have eU3 := Nat.ne_of_lt mU3); (try have eU3' := Nat.ne_of_gt mU3); (try obtain ⟨zU30, zU31, zU32, zU33, zU34, zU35⟩ := gU3))
        | (go_at_call 49; have hq := hBU1; refine (add_int _ _ _ _ _ _ _ _ k k n d _ ((unhide HX).below (by first | with_reducible exact hBU1 | with_reducible exact balloc hBU1 _)) ((unhide HY).below (by first | with_reducible exact hBU1 | with_reducible exact balloc hBU1 _)) (by omega) (by omega)).mono ?_; rintro r wU2 ⟨negU2, aU2, nU2, cU2, rfl, hintU2, hbU2⟩; have hCU2 : Below wU1.heap.size wU1 wU2 := (by first | with_reducible exact hbU2 | with_reducible exact bthen (bl1 _ _) hbU2); have hBU2 := bthen hBU1 hCU2; (try with_reducible have gU2 := (noc_new wU1 26).below hbU2); replace hintU1 := hintU1.below hCU2; (try replace gU1 := gU1.below hCU2); have hlU2 := hBU2.size)
        | (go_at_call 50; refine (sub_int _ _ _ _ _ _ _ _ k k n d _ ((unhide HX).below (by first | with_reducible exact (Below.refl _ _).drew | with_reducible exact (bl1 _ _).drew)) ((unhide HY).below (by first | with_reducible exact (Below.refl _ _).drew | with_reducible exact (bl1 _ _).drew)) (by omega) (by omega)).mono ?_; rintro r wU1 ⟨negU1, aU1, nU1, cU1, rfl, hintU1, hbU1⟩; have hBU1 : Below W.heap.size W wU1 := (by first | with_reducible exact bthen (Below.refl _ _).drew hbU1 | with_reducible exact bthen (bl1 _ _).drew hbU1); (try with_reducible have gU1 := ((noc_new W 26).below (Below.refl _ _).drew).below hbU1); have hlU1 := hBU1.size))
    all_goals
      have hfinU : SpAt wU3 vU3 K (zI n d b).1 (zI n d b).2 := (hintU3.fits (K := K) (unhide HZL) (unhide HFZ).1 (unhide HFZ).2)
      go_wp2_with fail
      go_meet
      refine ⟨_, vU3, rfl, ?_, ⟨⟨?_, ?_, ?_, ?_, ?_⟩, ?_⟩, ?_, unhide HVBU3, ?_⟩
      · first | exact Nat.le_refl _ | exact hlU1 | exact hlU2 | exact hlU3
      · simp [go_sem, *]
      · simp [go_sem, *]
      · simp [go_sem, *]
      · simp [go_sem, *]
      · simp [go_sem, *]
      · intro o; simp [go_sem, *]
      · first | with_reducible exact hfinU.below (bl1 _ _) | with_reducible exact SpAt.put5 hfinU (by assumption) (by assumption) (by assumption) (by assumption) (by assumption) _ _ _ _ _
      · repeat' (first | with_reducible exact hBU3 | with_reducible exact hBU2 | with_reducible exact hBU1 | with_reducible exact Below.refl _ _ | with_reducible refine Below.drew ?_ | with_reducible refine balloc ?_ _ | with_reducible refine Below.setCell ?_ (by first | exact Nat.le_refl _ | exact hlU1 | exact hlU2 | exact hlU3) _)
  case rest =>
  obtain ⟨BU, xU, rfl, hHU, XU, hpU, hxbU, hblU⟩ := hcut
  replace R := R.below hblU
  replace hBW := bthen hBW hblU
  have lU := XU.lt
  have nRU : w.heap.size + 1 + 1 < BU := by omega
  have lR2 := R.lt
  have HXB := hide hxbU
  have HHU := hide hpU
  have FU := XU.fz
  obtain ⟨z0, z1, z2, z3, z4⟩ := XU.c
  clear hxbU hpU HX HY HK x0 x1 x2 x3 hblU X Y
  go_wp2_with fail
  refine (mul_iv _ xU xU K b (zI n d b) (zI n d b) (unhide HHU) (unhide HHU) (by omega) (unhide HXB) hb).mono ?_
  rintro r w1 ⟨v1, rfl, hvb1, hvp1, hb1⟩
  replace hvp1 := hvp1.fits (K := K) (mulI_le b) (unhide HFQ).1 (unhide HFQ).2
  replace XU := XU.below hb1
  replace HHU := hide ((unhide HHU).below hb1)
  replace R := R.below hb1
  replace hBW := bthen hBW hb1
  have HVB1 := hide hvb1
  clear hb1 hvb1 z0 z1 z2 z3 z4 FU
  obtain ⟨V, hV⟩ : ∃ V, V = w1.alloc (.cells #[.bool v1.ln, .slice v1.la v1.lN v1.lc, .bool v1.hn, .slice v1.ha v1.hN v1.hc, .int .i64 v1.bits] 26) := ⟨_, rfl⟩
  have bV : Below w1.heap.size w1 V := by rw [hV]; exact bl1 _ _
  have S1 : SpC V w1.heap.size v1 := by rw [hV]; exact spc_new w1 v1 _
  have HVP1 := hide (hvp1.below bV)
  have lU3 := XU.lt
  have Z := hide (XU.c)
  obtain ⟨z0, z1, z2, z3, z4⟩ := XU.c
  replace XU := XU.below bV
  have lR3 := R.lt
  replace R := R.below bV
  replace HHU := hide ((unhide HHU).below bV)
  replace hBW := bthen hBW bV
  clear hvp1 bV
  have HT0 := hide (lnT_abs (unhide H1) hb16)
  have HLT := hide (lnT_le (unhide H1) b)
  have HFIT : Hid (∀ j, j ≤ N → -P K < (lnT n d b j).1 ∧ (lnT n d b j).2 < P K) := hide (fun j _ => by
    obtain ⟨g1, g2, g3, g4⟩ := unhide HT0 j
    have := Q_mono (show b - 3 * j ≤ b by omega)
    omega)
  have HFITS : Hid (∀ j, j ≤ N → -P K < (sumI (lnT n d b) j).1 ∧ (sumI (lnT n d b) j).2 < P K) := hide (fun j hj => by
    obtain ⟨g1, g2, g3, g4⟩ := sum_abs2 (s := 3) (by omega) (unhide HT0) (unhide HN) j hj
    have := Q_pos (b - 3 * j)
    omega)
  have hNb : N ≤ 1000000000 := by
    obtain ⟨N', n1, n2⟩ := stop_ex (s := 3) (by omega) (unhide HT0)
    have : N ≤ N' := Nat.not_lt.1 fun hlt => by have := (unhide HN).2 N' hlt; have := n2.1; omega
    omega
  go_wp2_with fail
  rw [← hV]
  clear hV
  refine (sum_ln _ (lnT n d b) N b K (K + K + 8 + 4 + 10) xU _ (unhide HHU) (unhide HXB) hb (by omega) (by omega) (unhide HN) hNb (unhide HLT) (unhide HFIT) (unhide HFITS) (fun j u w' hj hub hup hbw => ?_)).mono ?_
  · have e := ln1_iv w' w1.heap.size u v1 K b ((j : Int) + 1) (lnT n d b j) (mulI b (zI n d b) (zI n d b)) hup ((unhide HVP1).below hbw) (S1.below hbw) (by omega) hub hb (by omega) (by omega)
    have e1 : 2 * ((j : Int) + 1) - 1 = 2 * (j : Int) + 1 := by omega
    have e2 : 2 * ((j : Int) + 1) + 1 = 2 * (j : Int) + 3 := by omega
    rw [e1, e2] at e
    exact e
  rintro r w2 ⟨v2, rfl, hvb2, hvp2, hb2⟩
  replace R := R.below hb2
  replace hBW := bthen hBW hb2
  have HV2 := hide hvb2
  clear hvb2 hb2
  have lR4 := R.lt
  obtain ⟨V2, hV2⟩ : ∃ V2, V2 = w2.alloc (.cells #[.bool v2.ln, .slice v2.la v2.lN v2.lc, .bool v2.hn, .slice v2.ha v2.hN v2.hc, .int .i64 v2.bits] 26) := ⟨_, rfl⟩
  have bV2 : Below w2.heap.size w2 V2 := by rw [hV2]; exact bl1 _ _
  replace hvp2 := hvp2.below bV2
  replace R := R.below bV2
  replace hBW := bthen hBW bV2
  go_wp2_with fail
  rw [← hV2]
  clear hV2 bV2
  refine (times_iv _ v2 (K + 3) b 2 _ hvp2 (by omega) (unhide HV2) (by omega) (by omega)).mono ?_
  rintro r w3 ⟨v, rfl, hvb, hvp, hb3⟩
  obtain ⟨q0, q1, q2, q3, q4, q5⟩ := R.below hb3
  replace hBW := bthen hBW hb3
  have HV := hide hvb
  clear hvb
  go_wp2_with fail
  refine bodyPost_ret (v := .agg #[.bool v.ln, .slice v.la v.lN v.lc, .bool v.hn, .slice v.ha v.hN v.hc, .int .i64 v.bits]) (by simp [results, Try.results153, go_sem, q0, q1, q2, q3, q4]) rfl ⟨v, rfl, unhide HV, ?_, ?_⟩
  · exact SpAt.put5 (hvp.mono (by omega)) q0 q1 q2 q3 q4 _ _ _ _ _
  · exact set5 hBW (by omega) _ _ _ _ _
end Go.Proofs.Ytgmnknmjainabaa

namespace Go.Proofs.Ytgmnknmjainabaa
set_option linter.unusedVariables false
set_option linter.unusedSimpArgs false
set_option linter.unnecessarySimpa false
open Go.RowKit
attribute [local go_sem ↓] Go.wp_at_zero Go.wp_at_succ

theorem NoC.offI {w : World} {B B' : Nat} (h : NoC w B) (hne : B ≠ B') (u0 u1 : Value) : NoC ((w.setCell ⟨B', 0, none⟩ u0).setCell ⟨B', 1, none⟩ u1) B := by
  obtain ⟨q0, q1, q2, q3, q4, q5⟩ := h
  exact ⟨by simp [go_sem, q0, hne, Ne.symm hne], by simp [go_sem, q1, hne, Ne.symm hne], by simp [go_sem, q2, hne, Ne.symm hne], by simp [go_sem, q3, hne, Ne.symm hne], by simp [go_sem, q4, hne, Ne.symm hne], put_fz2 q5 _ _⟩

set_option maxRecDepth 100000 in
set_option maxHeartbeats 4000000 in
theorem wideLog_iv (w : World) (x y : Nm) (k b K : Nat) (n d : Int) (hx : IntAt w x.neg x.a x.n x.cap k n) (hy : IntAt w y.neg y.a y.n y.cap k d) (hk : k ≤ 100000) (hn : 0 < n) (hd : 0 < d) (hb16 : 16 ≤ b) (hb : b ≤ 1000000) (hK : Q (b + 4) < P K) (hK2 : K ≤ 10000000) :
    Calls Try.prog 141 #[.agg #[.bool x.neg, .slice x.a x.n x.cap], .agg #[.bool y.neg, .slice y.a y.n y.cap], .int .i64 b] w (fun r w' => ∃ (n' d' c : Int) (N N2 : Nat), Bal n d n' d' c ∧ -(16 * k + 1) ≤ c ∧ c ≤ 16 * k + 1 ∧ IsStop (lnT n' d' b) N ∧ IsStop (lnT 2 1 b) N2 ∧ SpanAns w b (K + 20) (lnOf (doneI (lnT n' d' b) N) (doneI (lnT 2 1 b) N2) c).1 (lnOf (doneI (lnT n' d' b) N) (doneI (lnT 2 1 b) N2) c).2 r w') := by
  obtain ⟨W, hW⟩ : ∃ W, W = ((w.alloc (.cells #[.bool x.neg, .slice x.a x.n x.cap] 24)).alloc (.cells #[.bool y.neg, .slice y.a y.n y.cap] 24)).alloc (.cells #[.bool false, .slice none 0 0, .bool false, .slice none 0 0, .int .i64 0] 26) := ⟨_, rfl⟩
  have hBW : Below w.heap.size w W := by rw [hW]; exact bl3 _ _ _ _
  have X : NmC W w.heap.size x := by rw [hW]; exact ⟨by simp [go_sem], by simp [go_sem]⟩
  have FX : ∀ o, W.frozen? ⟨w.heap.size, o, none⟩ = false := by rw [hW]; intro o; simp [go_sem]
  have Y : NmC W (w.heap.size + 1) y := by rw [hW]; exact ⟨by simp [go_sem], by simp [go_sem]⟩
  have FY : ∀ o, W.frozen? ⟨w.heap.size + 1, o, none⟩ = false := by rw [hW]; intro o; simp [go_sem]
  have R : NoC W (w.heap.size + 1 + 1) := by rw [hW]; exact ⟨by simp [go_sem], by simp [go_sem], by simp [go_sem], by simp [go_sem], by simp [go_sem], fun o => by simp [go_sem]⟩
  have HX := hide (hx.below hBW)
  have HY := hide (hy.below hBW)
  have lX := X.lt
  have lY := Y.lt
  clear hx hy
  go_enter Try.func141, Try.ntmps141
  go_wp2_with fail
  rw [← hW]
  clear hW
  refine (balanced_int _ x y k n d (unhide HX) (unhide HY) hn hd (by omega)).mono ?_
  rintro r w1 ⟨U, T, n', d', c, rfl, hbal, hc1, hc2, iU, iT, hb1⟩
  have FX1 : ∀ o, w1.frozen? ⟨w.heap.size, o, none⟩ = false := fun o => (hb1.frozen (p := ⟨w.heap.size, o, none⟩) lX).trans (FX o)
  have FY1 : ∀ o, w1.frozen? ⟨w.heap.size + 1, o, none⟩ = false := fun o => (hb1.frozen (p := ⟨w.heap.size + 1, o, none⟩) lY).trans (FY o)
  replace X := X.below hb1
  replace Y := Y.below hb1
  replace R := R.below hb1
  replace hBW := bthen hBW hb1
  have HBal := hide hbal
  clear hb1 FX FY HX HY hbal
  obtain ⟨V, hV⟩ : ∃ V, V = (((w1.setCell ⟨w.heap.size, 0, none⟩ (.bool U.neg)).setCell ⟨w.heap.size, 1, none⟩ (.slice U.a U.n U.cap)).setCell ⟨w.heap.size + 1, 0, none⟩ (.bool T.neg)).setCell ⟨w.heap.size + 1, 1, none⟩ (.slice T.a T.n T.cap) := ⟨_, rfl⟩
  have hE : IntAt V U.neg U.a U.n U.cap (k + k + 20) n' ∧ IntAt V T.neg T.a T.n T.cap (k + k + 20) d' ∧ NoC V (w.heap.size + 1 + 1) ∧ Below w.heap.size w V := by
    rw [hV]
    have hy1 := Y.off (B' := w.heap.size) (by omega) (.bool U.neg) (.slice U.a U.n U.cap)
    have i1 := iU.put2 X.c0 X.c1 (.bool U.neg) (.slice U.a U.n U.cap)
    have i2 := iT.put2 X.c0 X.c1 (.bool U.neg) (.slice U.a U.n U.cap)
    have r1 := R.offI (B' := w.heap.size) (by omega) (.bool U.neg) (.slice U.a U.n U.cap)
    have b1 := set2 hBW (Nat.le_refl _) (.bool U.neg) (.slice U.a U.n U.cap)
    generalize (w1.setCell ⟨w.heap.size, 0, none⟩ (.bool U.neg)).setCell ⟨w.heap.size, 1, none⟩ (.slice U.a U.n U.cap) = V0 at *
    exact ⟨i1.put2 hy1.c0 hy1.c1 _ _, i2.put2 hy1.c0 hy1.c1 _ _, r1.offI (by omega) _ _, set2 b1 (Nat.le_succ _) _ _⟩
  obtain ⟨jU, jT, R2, hB2⟩ := hE
  have HJU := hide jU
  have HJT := hide jT
  obtain ⟨x0, x1⟩ := X
  obtain ⟨y0, y1⟩ := Y
  have lX1 : w.heap.size < w1.heap.size := World.block_lt_of_cell? w1 ⟨w.heap.size, 0, none⟩ x0
  have lY1 : w.heap.size + 1 < w1.heap.size := World.block_lt_of_cell? w1 ⟨w.heap.size + 1, 0, none⟩ y0
  clear iU iT R hBW jU jT
  go_wp2_with fail
  rw [← hV]
  clear hV x0 x1 y0 y1 FX1 FY1
  obtain ⟨N, hN1, hN2⟩ := stop_ex (s := 3) (by omega) (lnT_abs (unhide HBal).1 hb16)
  obtain ⟨N2, hN3, hN4⟩ := stop_ex (s := 3) (by omega) (lnT_abs near2 hb16)
  have HS1 := hide hN2
  have HS2 := hide hN4
  clear hN1 hN2 hN3 hN4
  refine (logNear_iv _ U T (k + k + 20) b N K n' d' (unhide HJU) (unhide HJT) (by omega) (unhide HBal).1 hb16 hb (unhide HS1) hK hK2).mono ?_
  rintro r w3 ⟨v3, rfl, hvb3, hvp3, hb3⟩
  replace R2 := R2.below hb3
  have lw3 := R2.lt
  replace hB2 := bthen hB2 hb3
  have HV3 := hide hvb3
  clear hb3 hvb3 HJU HJT
  obtain ⟨V3, hV3⟩ : ∃ V3, V3 = w3.alloc (.cells #[.bool v3.ln, .slice v3.la v3.lN v3.lc, .bool v3.hn, .slice v3.ha v3.hN v3.hc, .int .i64 v3.bits] 26) := ⟨_, rfl⟩
  have bV3 : Below w3.heap.size w3 V3 := by rw [hV3]; exact bl1 _ _
  have C3 : SpC V3 w3.heap.size v3 := by rw [hV3]; exact spc_new w3 v3 _
  replace hvp3 := hvp3.below bV3
  replace R2 := R2.below bV3
  replace hB2 := bthen hB2 bV3
  clear bV3
  go_wp2_with fail
  rw [← hV3]
  clear hV3
  refine (numOf_int 2 _ (by decide) (by decide)).mono ?_
  rintro r w4 ⟨neg4, a4, n4, c4, rfl, hint4, hb4⟩
  replace C3 := C3.below hb4
  replace hvp3 := hvp3.below hb4
  replace R2 := R2.below hb4
  replace hB2 := bthen hB2 hb4
  clear hb4
  go_wp2_with fail
  refine (numOf_int 1 _ (by decide) (by decide)).mono ?_
  rintro r w5 ⟨neg5, a5, n5, c5, rfl, hint5, hb5⟩
  replace C3 := C3.below hb5
  replace hvp3 := hvp3.below hb5
  replace R2 := R2.below hb5
  replace hB2 := bthen hB2 hb5
  replace hint4 := hint4.below hb5
  clear hb5
  go_wp2_with fail
  refine (logNear_iv _ ⟨neg4, a4, n4, c4⟩ ⟨neg5, a5, n5, c5⟩ 4 b N2 K 2 1 hint4 hint5 (by omega) near2 hb16 hb (unhide HS2) hK hK2).mono ?_
  rintro r w6 ⟨v6, rfl, hvb6, hvp6, hb6⟩
  have lC3 := C3.lt
  have l36 : w3.heap.size < w6.heap.size := Nat.lt_of_lt_of_le lC3 hb6.size
  replace C3 := C3.below hb6
  replace hvp3 := hvp3.below hb6
  replace R2 := R2.below hb6
  replace hB2 := bthen hB2 hb6
  have HV6 := hide hvb6
  clear hb6 hvb6 hint4 hint5
  obtain ⟨V6, hV6⟩ : ∃ V6, V6 = w6.alloc (.cells #[.bool v6.ln, .slice v6.la v6.lN v6.lc, .bool v6.hn, .slice v6.ha v6.hN v6.hc, .int .i64 v6.bits] 26) := ⟨_, rfl⟩
  have bV6 : Below w6.heap.size w6 V6 := by rw [hV6]; exact bl1 _ _
  have C6 : SpC V6 w6.heap.size v6 := by rw [hV6]; exact spc_new w6 v6 _
  replace C3 := C3.below bV6
  have HP6 := hide (hvp6.below bV6)
  have HP3 := hide (hvp3.below bV6)
  replace R2 := R2.below bV6
  replace hB2 := bthen hB2 bV6
  have lR2 := R2.lt
  have HKr := hide (show ∀ w', Below V6.heap.size V6 w' → (w'.cell? ⟨w3.heap.size, 0, none⟩ = some (.bool v3.ln) ∧ w'.cell? ⟨w3.heap.size, 1, none⟩ = some (.slice v3.la v3.lN v3.lc) ∧ w'.cell? ⟨w3.heap.size, 2, none⟩ = some (.bool v3.hn) ∧ w'.cell? ⟨w3.heap.size, 3, none⟩ = some (.slice v3.ha v3.hN v3.hc) ∧ w'.cell? ⟨w3.heap.size, 4, none⟩ = some (.int .i64 v3.bits) ∧ w'.cell? ⟨w6.heap.size, 0, none⟩ = some (.bool v6.ln) ∧ w'.cell? ⟨w6.heap.size, 1, none⟩ = some (.slice v6.la v6.lN v6.lc) ∧ w'.cell? ⟨w6.heap.size, 2, none⟩ = some (.bool v6.hn) ∧ w'.cell? ⟨w6.heap.size, 3, none⟩ = some (.slice v6.ha v6.hN v6.hc) ∧ w'.cell? ⟨w6.heap.size, 4, none⟩ = some (.int .i64 v6.bits)) from fun w' hB => ⟨(C3.below hB).c0, (C3.below hB).c1, (C3.below hB).c2, (C3.below hB).c3, (C3.below hB).c4, (C6.below hB).c0, (C6.below hB).c1, (C6.below hB).c2, (C6.below hB).c3, (C6.below hB).c4⟩)
  have hD0 : Below V6.heap.size V6 V6.drew := (Below.refl _ _).drew
  have l3 := C3.lt
  have l6 := C6.lt
  have m1 : w.heap.size + 1 + 1 ≠ w3.heap.size := by omega
  have m2 : w.heap.size + 1 + 1 ≠ w6.heap.size := by omega
  have m3 : w3.heap.size ≠ w.heap.size + 1 + 1 := by omega
  have m4 : w6.heap.size ≠ w.heap.size + 1 + 1 := by omega
  clear hvp3 hvp6 bV6 C3 C6
  have hkk : k ≤ 100000 := hk
  by_cases hcz : c < 0
  · go_wp2_with fail
    rw [← hV6]
    clear hV6
    obtain ⟨e0, e1, e2, e3, e4, e5, e6, e7, e8, e9⟩ := unhide HKr _ (Below.refl _ _)
    have HWC := hide (show IntKind.i64.wrap (-c) = -c from i64_id _ (by omega) (by omega))
    go_region_held3 (fun w' => w'.cell? ⟨w3.heap.size, 0, none⟩ = some (.bool v3.ln) ∧ w'.cell? ⟨w3.heap.size, 1, none⟩ = some (.slice v3.la v3.lN v3.lc) ∧ w'.cell? ⟨w3.heap.size, 2, none⟩ = some (.bool v3.hn) ∧ w'.cell? ⟨w3.heap.size, 3, none⟩ = some (.slice v3.ha v3.hN v3.hc) ∧ w'.cell? ⟨w3.heap.size, 4, none⟩ = some (.int .i64 v3.bits) ∧ w'.cell? ⟨w6.heap.size, 0, none⟩ = some (.bool v6.ln) ∧ w'.cell? ⟨w6.heap.size, 1, none⟩ = some (.slice v6.la v6.lN v6.lc) ∧ w'.cell? ⟨w6.heap.size, 2, none⟩ = some (.bool v6.hn) ∧ w'.cell? ⟨w6.heap.size, 3, none⟩ = some (.slice v6.ha v6.hN v6.hc) ∧ w'.cell? ⟨w6.heap.size, 4, none⟩ = some (.int .i64 v6.bits)) (first | exact unhide HKr _ (by first | with_reducible exact hD0 | with_reducible exact hD2 | with_reducible exact hD1) | go_keep)
      (first
        | (go_at_call 84; have hq := hD1; refine (sub_iv _ v3 v7 (K + 11) b (timesI (doneI (lnT n' d' b) N) 2) (timesI (timesI (doneI (lnT 2 1 b) N2) 2) (-c)) (((unhide HP3).below hD1).mono (by omega)) (hvp7.mono (by omega)) (by omega) (unhide HV3)).mono ?_; rintro r' w8 ⟨v, rfl, hvb, hvp, hb8⟩; have hD2 := bthen hD1 hb8; have HV := hide hvb; clear hvb; obtain ⟨q0, q1, q2, q3, q4, q5⟩ := R2.below hD2; obtain ⟨z0, z1, z2, z3, z4, z5, z6, z7, z8, z9⟩ := unhide HKr _ hD2)
        | (go_at_call 154; rw [unhide HWC]; refine (times_iv _ v6 (K + 7) b (-c) (timesI (doneI (lnT 2 1 b) N2) 2) ((unhide HP6).below hD0) (by omega) (unhide HV6) (by omega) (by omega)).mono ?_; rintro r' w7 ⟨v7, rfl, hvb7, hvp7, hb7⟩; have HV7 := hide hvb7; clear hvb7; have hD1 := bthen hD0 hb7))
    all_goals
      go_wp2_with fail
      refine bodyPost_ret (v := .agg #[.bool v.ln, .slice v.la v.lN v.lc, .bool v.hn, .slice v.ha v.hN v.hc, .int .i64 v.bits]) (by simp [results, Try.results141, go_sem, q0, q1, q2, q3, q4]) rfl ⟨n', d', c, N, N2, unhide HBal, hc1, hc2, unhide HS1, unhide HS2, v, rfl, unhide HV, ?_, ?_⟩
      · refine SpAt.put5 ?_ q0 q1 q2 q3 q4 _ _ _ _ _
        unfold lnOf
        rw [if_pos hcz]
        exact hvp.mono (by omega)
      · exact set5 (bthen hB2 hD2) (by omega) _ _ _ _ _
  · go_wp2_with fail
    rw [← hV6]
    clear hV6
    obtain ⟨e0, e1, e2, e3, e4, e5, e6, e7, e8, e9⟩ := unhide HKr _ (Below.refl _ _)
    have hcz' : ¬ c < 0 := by omega
    go_region_held3 (fun w' => w'.cell? ⟨w3.heap.size, 0, none⟩ = some (.bool v3.ln) ∧ w'.cell? ⟨w3.heap.size, 1, none⟩ = some (.slice v3.la v3.lN v3.lc) ∧ w'.cell? ⟨w3.heap.size, 2, none⟩ = some (.bool v3.hn) ∧ w'.cell? ⟨w3.heap.size, 3, none⟩ = some (.slice v3.ha v3.hN v3.hc) ∧ w'.cell? ⟨w3.heap.size, 4, none⟩ = some (.int .i64 v3.bits) ∧ w'.cell? ⟨w6.heap.size, 0, none⟩ = some (.bool v6.ln) ∧ w'.cell? ⟨w6.heap.size, 1, none⟩ = some (.slice v6.la v6.lN v6.lc) ∧ w'.cell? ⟨w6.heap.size, 2, none⟩ = some (.bool v6.hn) ∧ w'.cell? ⟨w6.heap.size, 3, none⟩ = some (.slice v6.ha v6.hN v6.hc) ∧ w'.cell? ⟨w6.heap.size, 4, none⟩ = some (.int .i64 v6.bits)) (first | exact unhide HKr _ (by first | with_reducible exact hD0 | with_reducible exact hD2 | with_reducible exact hD1) | go_keep)
      (first
        | (go_at_call 82; have hq := hD1; refine (add_iv _ v3 v7 (K + 11) b (timesI (doneI (lnT n' d' b) N) 2) (timesI (timesI (doneI (lnT 2 1 b) N2) 2) c) (((unhide HP3).below hD1).mono (by omega)) (hvp7.mono (by omega)) (by omega) (unhide HV3)).mono ?_; rintro r' w8 ⟨v, rfl, hvb, hvp, hb8⟩; have hD2 := bthen hD1 hb8; have HV := hide hvb; clear hvb; obtain ⟨q0, q1, q2, q3, q4, q5⟩ := R2.below hD2; obtain ⟨z0, z1, z2, z3, z4, z5, z6, z7, z8, z9⟩ := unhide HKr _ hD2)
        | (go_at_call 154; refine (times_iv _ v6 (K + 7) b c (timesI (doneI (lnT 2 1 b) N2) 2) ((unhide HP6).below hD0) (by omega) (unhide HV6) (by omega) (by omega)).mono ?_; rintro r' w7 ⟨v7, rfl, hvb7, hvp7, hb7⟩; have HV7 := hide hvb7; clear hvb7; have hD1 := bthen hD0 hb7))
    all_goals
      go_wp2_with fail
      refine bodyPost_ret (v := .agg #[.bool v.ln, .slice v.la v.lN v.lc, .bool v.hn, .slice v.ha v.hN v.hc, .int .i64 v.bits]) (by simp [results, Try.results141, go_sem, q0, q1, q2, q3, q4]) rfl ⟨n', d', c, N, N2, unhide HBal, hc1, hc2, unhide HS1, unhide HS2, v, rfl, unhide HV, ?_, ?_⟩
      · refine SpAt.put5 ?_ q0 q1 q2 q3 q4 _ _ _ _ _
        unfold lnOf
        rw [if_neg (show ¬ c < 0 by omega)]
        exact hvp.mono (by omega)
      · exact set5 (bthen hB2 hD2) (by omega) _ _ _ _ _
end Go.Proofs.Ytgmnknmjainabaa

namespace Go.Proofs.Ytgmnknmjainabaa
set_option linter.unusedVariables false
set_option linter.unusedSimpArgs false
set_option linter.unnecessarySimpa false
open Go.RowKit
attribute [local go_sem ↓] Go.wp_at_zero Go.wp_at_succ

/-- What is made of a logarithm. -/
def LogPr (bits : Nat) (p q : Int) (B : Nat) (lo hi : Int) : Prop :=
  (∃ l, Ex.IsLog l (fun _ => (p : Rat) / (q : Rat)) ∧ Iv B (lo, hi) l) ∧ lo ≤ hi ∧ hi - lo ≤ Q 30 ∧ -(P 200 * Q (B - bits)) ≤ lo ∧ hi ≤ P 200 * Q (B - bits)
theorem log_ends (bits : Nat) (p q : Int) : SureEnds bits 30 (LogPr bits p q) := fun m lo hi ⟨h1, h2, h3, h4, h5⟩ => by
  rw [show bits + m - bits = m by omega] at h4 h5
  exact ⟨h2, h3, h4, h5⟩
theorem log_pr {bits m N N2 : Nat} {p q n' d' c : Int} (hb : bits ≤ 120) (hm : 32 ≤ m) (hm2 : m ≤ 150) (hp : 0 < p) (hq : 0 < q) (h : Bal p q n' d' c) (hc1 : -65 ≤ c) (hc2 : c ≤ 65) (hN : IsStop (lnT n' d' (bits + m)) N) (hN2 : IsStop (lnT 2 1 (bits + m)) N2) :
    LogPr bits p q (bits + m) (lnOf (doneI (lnT n' d' (bits + m)) N) (doneI (lnT 2 1 (bits + m)) N2) c).1 (lnOf (doneI (lnT n' d' (bits + m)) N) (doneI (lnT 2 1 (bits + m)) N2) c).2 := by
  obtain ⟨l, g1, g2⟩ := log_has hp hq h (bits + m) N N2
  obtain ⟨b1, b2, b3⟩ := log_bound h.1 (by omega) hN hN2 65 hc1 hc2
  have hQ : (65 + 1) * (4 * Q (bits + m)) ≤ P 200 * Q m := by
    rw [P200]
    have e : 1024 * Q (bits + m) = Q (10 + (bits + m)) := (Q_add 10 (bits + m)).symm
    have := Q_mono (show 10 + (bits + m) ≤ 3200 + m by omega)
    have := Q_pos (bits + m)
    omega
  refine ⟨⟨l, g1, g2⟩, b1, ?_, ?_, ?_⟩
  · refine Int.le_trans b3 ?_
    have : Q 30 = 1073741824 := rfl
    omega
  · rw [show bits + m - bits = m by omega]; have := b2.1; omega
  · rw [show bits + m - bits = m by omega]; have := b2.2.2.2; omega

set_option maxRecDepth 100000 in
set_option maxHeartbeats 4000000 in
theorem powLog_iv (w : World) (p q : Int) (b : Nat) (hr : rok p q) (K : Nat) (hp : 0 < p) (hb16 : 16 ≤ b) (hb : b ≤ 1000000) (hK : Q (b + 4) < P K) (hK2 : K ≤ 10000000) :
    Calls Try.prog 116 #[.agg #[.int .i64 p, .int .i64 q], .int .i64 b] w (fun r w' => ∃ (n' d' c : Int) (N N2 : Nat), Bal p q n' d' c ∧ -65 ≤ c ∧ c ≤ 65 ∧ IsStop (lnT n' d' b) N ∧ IsStop (lnT 2 1 b) N2 ∧ SpanAns w b (K + 20) (lnOf (doneI (lnT n' d' b) N) (doneI (lnT 2 1 b) N2) c).1 (lnOf (doneI (lnT n' d' b) N) (doneI (lnT 2 1 b) N2) c).2 r w') := by
  obtain ⟨r1, r2, r3, r4⟩ := hr
  obtain ⟨W, hW⟩ : ∃ W, W = (w.alloc (.cells #[.int .i64 p, .int .i64 q] 28)).alloc (.cells #[.bool false, .slice none 0 0, .bool false, .slice none 0 0, .int .i64 0] 26) := ⟨_, rfl⟩
  have hBW : Below w.heap.size w W := by rw [hW]; exact bl2 _ _ _
  have A : RaC W w.heap.size p q := by rw [hW]; exact ⟨by simp [go_sem], by simp [go_sem]⟩
  have R : NoC W (w.heap.size + 1) := by rw [hW]; exact ⟨by simp [go_sem], by simp [go_sem], by simp [go_sem], by simp [go_sem], by simp [go_sem], fun o => by simp [go_sem]⟩
  have lA := A.lt
  have lR := R.lt
  have HK := hide (show ∀ w', Below W.heap.size W w' → (w'.cell? ⟨w.heap.size, 0, none⟩ = some (.int .i64 p) ∧ w'.cell? ⟨w.heap.size, 1, none⟩ = some (.int .i64 q)) from fun w' hB => ⟨(A.below hB).c0, (A.below hB).c1⟩)
  go_enter Try.func116, Try.ntmps116
  go_wp2
  rw [← hW]
  clear hW
  obtain ⟨x0, x1⟩ := unhide HK _ (Below.refl _ _)
  have hD0 : Below W.heap.size W W.drew := (Below.refl _ _).drew
  have n01 : w.heap.size ≠ w.heap.size + 1 := by omega
  have n10 : w.heap.size + 1 ≠ w.heap.size := by omega
  go_region_held3 (fun w' => w'.cell? ⟨w.heap.size, 0, none⟩ = some (.int .i64 p) ∧ w'.cell? ⟨w.heap.size, 1, none⟩ = some (.int .i64 q)) (first | exact unhide HK _ (by first | with_reducible exact hD0 | with_reducible exact hD3 | with_reducible exact hD2 | with_reducible exact hD1) | go_keep)
    (first
      | (go_at_call 141; have hq := hD2; refine (wideLog_iv _ ⟨neg1, a1, n1, c1⟩ ⟨neg2, a2, n2, c2⟩ 4 b K p q (hint1.below hb2) hint2 (by omega) hp (by omega) hb16 hb hK hK2).mono ?_; rintro r' w3 ⟨n', d', cc, N, N2, hBal, hc1, hc2, hN, hN2, u, rfl, hub, hup, hb3⟩; have HBL := hide (And.intro hBal (And.intro hN hN2)); clear hBal hN hN2; have hD3 := bthen hD2 hb3; have HU := hide hub; clear hub; obtain ⟨q0, q1, q2, q3, q4, q5⟩ := R.below hD3; obtain ⟨y0, y1⟩ := unhide HK _ hD3)
      | (go_at_call 62; have hq := hD1; refine (numOf_int q _ (by omega) (by omega)).mono ?_; rintro r' w2 ⟨neg2, a2, n2, c2, rfl, hint2, hb2⟩; have hD2 := bthen hD1 hb2)
      | (go_at_call 62; refine (numOf_int p _ (by omega) (by omega)).mono ?_; rintro r' w1 ⟨neg1, a1, n1, c1, rfl, hint1, hb1⟩; have hD1 := bthen hD0 hb1))
  all_goals
    go_wp2_with fail
    refine bodyPost_ret (v := .agg #[.bool u.ln, .slice u.la u.lN u.lc, .bool u.hn, .slice u.ha u.hN u.hc, .int .i64 u.bits]) (by simp [results, Try.results116, go_sem, q0, q1, q2, q3, q4]) rfl ⟨n', d', cc, N, N2, (unhide HBL).1, by omega, by omega, (unhide HBL).2.1, (unhide HBL).2.2, u, rfl, unhide HU, ?_, ?_⟩
    · exact SpAt.put5 hup q0 q1 q2 q3 q4 _ _ _ _ _
    · exact set5 (bthen hBW hD3) (Nat.le_succ _) _ _ _ _ _

set_option maxRecDepth 100000 in
set_option maxHeartbeats 2000000 in
theorem plog1_iv (w : World) (B0 : Nat) (p q : Int) (b K : Nat) (hr : rok p q) (hp : 0 < p) (hB0 : RaC w B0 p q) (hb16 : 16 ≤ b) (hb : b ≤ 1000000) (hK : Q (b + 4) < P K) (hK2 : K ≤ 10000000) :
    Calls Try.prog 115 #[.int .i64 b, .pointer (some ⟨B0, 0, none⟩)] w (fun r w' => ∃ (n' d' c : Int) (N N2 : Nat), Bal p q n' d' c ∧ -65 ≤ c ∧ c ≤ 65 ∧ IsStop (lnT n' d' b) N ∧ IsStop (lnT 2 1 b) N2 ∧ SpanAns w b (K + 20) (lnOf (doneI (lnT n' d' b) N) (doneI (lnT 2 1 b) N2) c).1 (lnOf (doneI (lnT n' d' b) N) (doneI (lnT 2 1 b) N2) c).2 r w') := by
  have l0 := hB0.lt
  obtain ⟨y0, y1⟩ := hB0
  have R := noc_new w 26
  have HR := hide hr
  clear hr
  go_enter Try.func115, Try.ntmps115
  go_wp2_with fail
  refine (powLog_iv _ p q b (unhide HR) K hp hb16 hb hK hK2).mono ?_
  rintro r' w1 ⟨n', d', cc, N, N2, hBal, hc1, hc2, hN, hN2, u, rfl, hub, hup, hb1⟩
  have HBL := hide (And.intro hBal (And.intro hN hN2))
  obtain ⟨q0, q1, q2, q3, q4, q5⟩ := R.below hb1
  have hBW : Below w.heap.size w w1 := bthen (bl1 _ _) hb1
  have HU := hide hub
  clear hub y0 y1 hb1 hBal hN hN2
  go_wp2_with fail
  refine bodyPost_ret (v := .agg #[.bool u.ln, .slice u.la u.lN u.lc, .bool u.hn, .slice u.ha u.hN u.hc, .int .i64 u.bits]) (by simp [results, Try.results115, go_sem, q0, q1, q2, q3, q4]) rfl ⟨n', d', cc, N, N2, (unhide HBL).1, hc1, hc2, (unhide HBL).2.1, (unhide HBL).2.2, u, rfl, unhide HU, ?_, ?_⟩
  · exact SpAt.put5 hup q0 q1 q2 q3 q4 _ _ _ _ _
  · exact set5 hBW (Nat.le_refl _) _ _ _ _ _

set_option maxRecDepth 100000 in
set_option maxHeartbeats 4000000 in
theorem sure_plog (p1 : Value) (bits Kw KD : Nat) (Pr : Nat → Int → Int → Prop) (W : World) (hb : bits ≤ 120) (hKw : Kw ≤ 900000) (hKD : KD ≤ 100000000) (hE : SureEnds bits Kw Pr)
    (hF : ∀ (m : Nat) w', 32 ≤ m → m ≤ Kw + 120 → Below W.heap.size W w' → Calls Try.prog 115 #[.int .i64 ((bits : Int) + m), p1] w' (fun r w'' => ∃ lo hi, Pr (bits + m) lo hi ∧ SpanAns w' ((bits : Int) + m) KD lo hi r w'')) :
    Calls Try.prog 109 #[.int .i64 bits, .func (.func 115) #[] #[p1]] W (fun r w' => ∃ L H, SureOf bits Pr L H ∧ SpanAns W bits 250 L H r w') := by
  have HF := hide hF
  have HE := hide hE
  clear hF hE
  have hR0 := noc_new W 26
  go_enter Try.func109, Try.ntmps109
  go_wp2_with fail
  go_loopw [5, 6] (fun mm tt wr => ∃ m t : Nat, mm = .int .i64 (m : Int) ∧ tt = .int .i64 (t : Int) ∧ SureInv Kw m t ∧ NoC wr W.heap.size ∧ Below W.heap.size W wr) (fun mm _ _ => Kw + 200 - (intOf mm).toNat)
  case atStart => exact ⟨32, 1, rfl, rfl, ⟨Nat.le_refl _, Nat.le_refl _, by omega, Or.inl ⟨by omega, by omega⟩⟩, hR0, bl1 _ _⟩
  case round =>
    obtain ⟨m, t, rfl, rfl, hinv, R, hB⟩ := hrel
    obtain ⟨hm, ht, htm, hmt⟩ := hinv
    have hmK : m ≤ Kw + 120 := by omega
    have HI := hide hmt
    clear hmt
    go_wp2_with fail
    refine (unhide HF m _ hm hmK hB).mono ?_
    rintro r w1 ⟨lo, hi, hPr, s, rfl, hsb, hsp, hb1⟩
    replace R := R.below hb1
    replace hB := bthen hB hb1
    clear hb1
    obtain ⟨e1, e2, e3, e4⟩ := unhide HE m lo hi hPr
    obtain ⟨v1, v2, v3⟩ := to_width (m := m) e1 e2
    obtain ⟨f1, f2⟩ := to_fit e3 e4
    have HPr := hide hPr
    have HV := hide (And.intro v2 v3)
    have hs0 : 0 ≤ s.bits := by omega
    have hs1 : s.bits ≤ 1000000 := by omega
    have d1 : downZ lo (s.bits - bits) = lo / Q m := by unfold downZ; rw [hsb, if_pos (by omega)]; congr 2; omega
    have d2 : downZ (-hi) (s.bits - bits) = -hi / Q m := by unfold downZ; rw [hsb, if_pos (by omega)]; congr 2; omega
    have HD1 := hide d1
    have HD2 := hide d2
    clear hPr e1 e2 e3 e4 v2 v3 d1 d2 hsb
    go_wp2_with fail
    refine (wideTo_int _ s KD bits lo hi hsp (by omega) hs0 hs1 (by omega) (by omega)).mono ?_
    rintro r w2 ⟨u, rfl, hub, hup, hb2⟩
    rw [unhide HD1, unhide HD2] at hup
    obtain ⟨L, hL⟩ : ∃ L, L = lo / Q m := ⟨_, rfl⟩
    obtain ⟨H, hH⟩ : ∃ H, H = -(-hi / Q m) := ⟨_, rfl⟩
    rw [← hL, ← hH] at hup v1
    rw [← hL] at f1
    rw [← hH] at f2
    have HV2 := hide (show (Kw ≤ m → H - L ≤ 2) ∧ (m ≤ Kw → H - L ≤ Q (Kw - m) + 1) by rw [hL, hH]; exact unhide HV)
    have HL := hide hL
    have HH := hide hH
    replace hup := hup.fits (K := 250) (by omega) f1 f2
    replace R := R.below hb2
    replace hB := bthen hB hb2
    have HUB := hide hub
    clear hb2 hL hH hub hs0 hs1 HD1 HD2 HV hsp
    have lR := R.lt
    obtain ⟨V, hV⟩ : ∃ V, V = w2.alloc (.cells #[.bool u.ln, .slice u.la u.lN u.lc, .bool u.hn, .slice u.ha u.hN u.hc, .int .i64 u.bits] 26) := ⟨_, rfl⟩
    have bV : Below w2.heap.size w2 V := by rw [hV]; exact bl1 _ _
    have U : SpC V w2.heap.size u := by rw [hV]; exact ⟨by simp, by simp, by simp, by simp, by simp⟩
    replace R := R.below bV
    replace hB := bthen hB bV
    replace hup := hup.below bV
    clear bV
    go_wp2_with fail
    rw [← hV]
    clear hV
    refine (sub_int _ _ _ _ _ _ _ _ 250 250 H L _ hup.hi hup.lo (by omega) (by omega)).mono ?_
    rintro r w3 ⟨neg3, a3, n3, c3, rfl, hint3, hb3⟩
    replace U := U.below hb3
    replace R := R.below hb3
    replace hB := bthen hB hb3
    replace hup := hup.below hb3
    clear hb3
    go_wp2_with fail
    refine (len_int _ _ _ _ _ (H - L) _ hint3 v1).mono ?_
    rintro r w4 ⟨l, hlen, rfl, hb4⟩
    replace U := U.below hb4
    replace R := R.below hb4
    replace hB := bthen hB hb4
    replace hup := hup.below hb4
    clear hb4 hint3
    have hlb : 0 ≤ l ∧ l ≤ Kw + 2 ∧ (m ≤ Kw → l ≤ Kw - m + 2) ∧ (Kw ≤ m → l ≤ 2) := by
      obtain ⟨g1, g2⟩ := unhide HV2
      refine ⟨hlen.1, ?_, fun h => ?_, fun h => ?_⟩
      · rcases Nat.le_total m Kw with h | h
        · have := len_bd (K := Kw - m) hlen (g2 h) v1; omega
        · have := len_two hlen (g1 h) v1; omega
      · have := len_bd (K := Kw - m) hlen (g2 h) v1; omega
      · exact len_two hlen (g1 h) v1
    obtain ⟨hl0, hl1, hl2, hl3⟩ := hlb
    have HL2 := hide (And.intro hl2 hl3)
    have HLen := hide hlen
    clear hl2 hl3 hlen
    have lU := U.lt
    have lR2 := R.lt
    have nRU : W.heap.size ≠ w2.heap.size := by omega
    have nRU' : w2.heap.size ≠ W.heap.size := by omega
    have HU := hide U
    obtain ⟨x0, x1, x2, x3, x4⟩ := U
    by_cases hc : l ≤ 1
    · have hN := R
      obtain ⟨q0, q1, q2, q3, q4, q5⟩ := R
      have Hc := hide hc
      go_wp2_with fail
      refine bodyPost_ret (v := .agg #[.bool u.ln, .slice u.la u.lN u.lc, .bool u.hn, .slice u.ha u.hN u.hc, .int .i64 u.bits]) (by simp [results, Try.results109, go_sem, q0, q1, q2, q3, q4]) rfl ⟨L, H, ⟨m, lo, hi, unhide HPr, hm, unhide HL, unhide HH, Or.inl (len_one (unhide HLen) (unhide Hc) v1)⟩, u, rfl, unhide HUB, ?_, ?_⟩
      · exact SpAt.put5 hup q0 q1 q2 q3 q4 _ _ _ _ _
      · exact set5 hB (Nat.le_refl _) _ _ _ _ _
    · by_cases ht3 : 3 ≤ t
      · have ht3' : (3 : Int) ≤ (t : Int) := by omega
        cases hn : narB L H (Q bits) 4
        · have hmK2 : m < Kw := by
            refine Nat.lt_of_not_le fun h => ?_
            have h5 := (unhide HV2).1 h
            rw [narB_small (by omega) (by omega)] at hn
            cases hn
          go_wp2_with fail
          refine (narrow_int _ u bits 4 L H hup (unhide HUB) hb (by omega)).mono ?_
          rintro r w5 ⟨rfl, hb5⟩
          rw [show narB L H (Q bits) ((4 : Nat) : Int) = false from hn]
          replace R := R.below hb5
          replace hB := bthen hB hb5
          go_wp2_with fail
          go_roundw
          case rel => exact ⟨m + l.toNat + 32, t + 1, by congr 1; omega, by congr 1, ⟨by omega, by omega, by omega, Or.inr (by have := (unhide HL2).1; omega)⟩, R, hB⟩
          case measure => simp [intOf]; omega
        · go_wp2_with fail
          refine (narrow_int _ u bits 4 L H hup (unhide HUB) hb (by omega)).mono ?_
          rintro r w5 ⟨rfl, hb5⟩
          rw [show narB L H (Q bits) ((4 : Nat) : Int) = true from hn]
          replace R := R.below hb5
          replace hB := bthen hB hb5
          replace hup := hup.below hb5
          obtain ⟨y0, y1, y2, y3, y4⟩ := (unhide HU).below hb5
          obtain ⟨q0, q1, q2, q3, q4, q5⟩ := R
          have lU2 := Nat.lt_of_lt_of_le lU hb5.size
          have lR3 := Nat.lt_of_lt_of_le lR2 hb5.size
          clear hb5 x0 x1 x2 x3 x4
          go_wp2_with fail
          refine bodyPost_ret (v := .agg #[.bool u.ln, .slice u.la u.lN u.lc, .bool u.hn, .slice u.ha u.hN u.hc, .int .i64 u.bits]) (by simp [results, Try.results109, go_sem, q0, q1, q2, q3, q4]) rfl ⟨L, H, ⟨m, lo, hi, unhide HPr, hm, unhide HL, unhide HH, Or.inr hn⟩, u, rfl, unhide HUB, ?_, ?_⟩
          · exact SpAt.put5 hup q0 q1 q2 q3 q4 _ _ _ _ _
          · exact set5 hB (Nat.le_refl _) _ _ _ _ _
      · have ht3' : ¬ (3 : Int) ≤ (t : Int) := by omega
        go_wp2_with fail
        go_roundw
        case rel => exact ⟨m + l.toNat + 32, t + 1, by congr 1; omega, by congr 1, ⟨by omega, by omega, by omega, by
          have g1 := (unhide HL2).1
          have g2 := (unhide HL2).2
          have g3 := unhide HI
          rcases Nat.le_total m Kw with h | h
          · have := g1 h; exact Or.inr (by omega)
          · have := g2 h; exact Or.inl ⟨by omega, by omega⟩⟩, R, hB⟩
        case measure => simp [intOf]; omega

set_option maxRecDepth 100000 in
set_option maxHeartbeats 2000000 in
theorem powerLog_ok (p q : Int) (b : Nat) (w : World) (hr : rok p q) (h5 : 8 ≤ b) (h6 : b ≤ 120) (hp : 0 < p) :
    Calls Try.prog 60 #[.agg #[.int .i64 p, .int .i64 q], .int .i64 b] w (fun r w' => ∃ L H, SureOf b (LogPr b p q) L H ∧ PairAns w b 250 L H 0 r w') := by
  have d1 : ratE p q b = 0 := by unfold ratE; rw [if_pos]; exact ⟨hr, by omega, by omega⟩
  have hq : 0 < q := by have := hr.2.2.1; omega
  have HR := hide hr
  obtain ⟨r1, r2, r3, r4⟩ := hr
  have hp' : ¬ p ≤ 0 := by omega
  go_enter Try.func60, Try.ntmps60
  go_wp2_with (go_at_call 70; refine (ratioFault1 _ _ _ (by simp) _ _ _ _).mono ?_; rintro r w1 ⟨rfl, hb1⟩; rw [d1]; obtain ⟨hsz1, hcell1, hfz1⟩ := near (w.heap.size + 1 + 1) (by simp) hb1)
  have A : RaC w1 w.heap.size p q := ⟨by simp [hcell1, go_sem], by simp [hcell1, go_sem]⟩
  have R : NoC w1 (w.heap.size + 1) := ⟨by simp [hcell1, go_sem], by simp [hcell1, go_sem], by simp [hcell1, go_sem], by simp [hcell1, go_sem], by simp [hcell1, go_sem], fun o => by simp [hfz1, go_sem]⟩
  have hBw : Below w.heap.size w w1 := bthen (bl2 _ _ _) hb1
  clear hcell1 hfz1 hb1
  have lA := A.lt
  have lR := R.lt
  obtain ⟨x0, x1⟩ := A
  go_wp2_with fail
  refine (sure_plog _ b 30 100 (LogPr b p q) _ h6 (by omega) (by omega) (log_ends _ _ _) (fun m w' hm hm2 hbw => ?_)).mono ?_
  · have eB : ((b : Int) + (m : Int)) = ((b + m : Nat) : Int) := by omega
    rw [eB]
    refine (plog1_iv w' w.heap.size p q (b + m) 80 (unhide HR) hp (RaC.below ⟨x0, x1⟩ hbw) (by omega) (by omega) ?_ (by omega)).mono ?_
    · rw [← Q_P]
      have h1 := Q_mono (show b + m + 4 + 1 ≤ 16 * 80 by omega)
      have h2 : Q (b + m + 4 + 1) = 2 * Q (b + m + 4) := rfl
      have := Q_pos (b + m + 4)
      omega
    · rintro r' w'' ⟨n', d', cc, N, N2, hBal, hc1, hc2, hN, hN2, h⟩
      exact ⟨_, _, log_pr h6 hm (by omega) hp hq hBal hc1 hc2 hN hN2, h⟩
  rintro r' w3 ⟨L, H, hLH, u, rfl, hub, hup, hb3⟩
  obtain ⟨q0, q1, q2, q3, q4, q5⟩ := R.below hb3
  replace hBw := bthen hBw hb3
  have HU := hide hub
  have HLH := hide hLH
  clear hub hLH
  go_wp2_with fail
  refine bodyPost_ret (v := .tuple #[.agg #[.bool u.ln, .slice u.la u.lN u.lc, .bool u.hn, .slice u.ha u.hN u.hc, .int .i64 u.bits], .int .i64 0]) (by simp [results, Try.results60, go_sem, q0, q1, q2, q3, q4]) rfl ⟨L, H, unhide HLH, u, rfl, unhide HU, ?_, ?_⟩
  · exact SpAt.put5 hup q0 q1 q2 q3 q4 _ _ _ _ _
  · exact set5 hBw (Nat.le_succ _) _ _ _ _ _

set_option maxRecDepth 100000 in
set_option maxHeartbeats 2000000 in
theorem powerLog_bad (p q b : Int) (w : World) (h : ¬ (rok p q ∧ 8 ≤ b ∧ b ≤ 120)) :
    Calls Try.prog 60 #[.agg #[.int .i64 p, .int .i64 q], .int .i64 b] w (PairAns w 0 250 0 0 3) := by
  have d1 : ratE p q b = 3 := by unfold ratE; rw [if_neg h]
  clear h
  go_enter Try.func60, Try.ntmps60
  go_wp2_with (go_at_call 70; refine (ratioFault1 _ _ _ (by simp) _ _ _ _).mono ?_; rintro r w1 ⟨rfl, hb1⟩; rw [d1]; obtain ⟨hsz1, hcell1, hfz1⟩ := near (w.heap.size + 1 + 1) (by simp) hb1)
  refine bodyPost_ret (v := .tuple #[.agg #[.bool false, .slice none 0 0, .bool false, .slice none 0 0, .int .i64 0], .int .i64 3]) (by simp [results, Try.results60, go_sem, hcell1]) rfl ⟨⟨false, none, 0, 0, false, none, 0, 0, 0⟩, rfl, rfl, zeroSp _ _, ?_⟩
  exact set5 (bthen (bl2 _ _ _) hb1) (Nat.le_succ _) _ _ _ _ _

set_option maxRecDepth 100000 in
set_option maxHeartbeats 2000000 in
theorem powerLog_none (p q b : Int) (w : World) (hr : rok p q) (h5 : 8 ≤ b) (h6 : b ≤ 120) (h : p ≤ 0) :
    Calls Try.prog 60 #[.agg #[.int .i64 p, .int .i64 q], .int .i64 b] w (PairAns w 0 250 0 0 5) := by
  have d1 : ratE p q b = 0 := by unfold ratE; rw [if_pos]; exact ⟨hr, by omega, by omega⟩
  obtain ⟨r1, r2, r3, r4⟩ := hr
  go_enter Try.func60, Try.ntmps60
  go_wp2_with (go_at_call 70; refine (ratioFault1 _ _ _ (by simp) _ _ _ _).mono ?_; rintro r w1 ⟨rfl, hb1⟩; rw [d1]; obtain ⟨hsz1, hcell1, hfz1⟩ := near (w.heap.size + 1 + 1) (by simp) hb1)
  have A : RaC w1 w.heap.size p q := ⟨by simp [hcell1, go_sem], by simp [hcell1, go_sem]⟩
  have R : NoC w1 (w.heap.size + 1) := ⟨by simp [hcell1, go_sem], by simp [hcell1, go_sem], by simp [hcell1, go_sem], by simp [hcell1, go_sem], by simp [hcell1, go_sem], fun o => by simp [hfz1, go_sem]⟩
  have hBw : Below w.heap.size w w1 := bthen (bl2 _ _ _) hb1
  clear hcell1 hfz1 hb1
  have lA := A.lt
  have lR := R.lt
  obtain ⟨x0, x1⟩ := A
  obtain ⟨q0, q1, q2, q3, q4, q5⟩ := R
  go_wp2_with fail
  refine bodyPost_ret (v := .tuple #[.agg #[.bool false, .slice none 0 0, .bool false, .slice none 0 0, .int .i64 0], .int .i64 5]) (by simp [results, Try.results60, go_sem, q0, q1, q2, q3, q4]) rfl ⟨⟨false, none, 0, 0, false, none, 0, 0, 0⟩, rfl, rfl, zeroSp _ _, ?_⟩
  exact set5 hBw (Nat.le_succ _) _ _ _ _ _
end Go.Proofs.Ytgmnknmjainabaa

namespace Go.Proofs.Ytgmnknmjainabaa
set_option linter.unusedVariables false
set_option linter.unusedSimpArgs false
set_option linter.unnecessarySimpa false
open Go.RowKit
attribute [local go_sem ↓] Go.wp_at_zero Go.wp_at_succ

theorem cell_put2 {w : World} {B B' o : Nat} {v : Option Value} (h : w.cell? ⟨B, o, none⟩ = v) (hne : B ≠ B') (u0 u1 : Value) : ((w.setCell ⟨B', 0, none⟩ u0).setCell ⟨B', 1, none⟩ u1).cell? ⟨B, o, none⟩ = v := by
  have ne : ∀ i : Nat, (⟨B', i, none⟩ : Addr) ≠ ⟨B, o, none⟩ := fun i e => hne (by injection e with e1; exact e1.symm)
  rw [World.cell?_setCell_other _ _ _ _ (ne 1), World.cell?_setCell_other _ _ _ _ (ne 0)]
  exact h
theorem cell_put5' {w : World} {B B' o : Nat} {v : Option Value} (h : w.cell? ⟨B, o, none⟩ = v) (hne : B ≠ B') (u0 u1 u2 u3 u4 : Value) :
    (((((w.setCell ⟨B', 0, none⟩ u0).setCell ⟨B', 1, none⟩ u1).setCell ⟨B', 2, none⟩ u2).setCell ⟨B', 3, none⟩ u3).setCell ⟨B', 4, none⟩ u4).cell? ⟨B, o, none⟩ = v := by
  have ne : ∀ i : Nat, (⟨B', i, none⟩ : Addr) ≠ ⟨B, o, none⟩ := fun i e => hne (by injection e with e1; exact e1.symm)
  rw [World.cell?_setCell_other _ _ _ _ (ne 4), World.cell?_setCell_other _ _ _ _ (ne 3), World.cell?_setCell_other _ _ _ _ (ne 2), World.cell?_setCell_other _ _ _ _ (ne 1), World.cell?_setCell_other _ _ _ _ (ne 0)]
  exact h
theorem SpC.put2 {w : World} {B B' : Nat} {s : Sp} (h : SpC w B s) (hne : B ≠ B') (u0 u1 : Value) : SpC ((w.setCell ⟨B', 0, none⟩ u0).setCell ⟨B', 1, none⟩ u1) B s :=
  ⟨cell_put2 h.c0 hne _ _, cell_put2 h.c1 hne _ _, cell_put2 h.c2 hne _ _, cell_put2 h.c3 hne _ _, cell_put2 h.c4 hne _ _⟩
theorem NmC.put2 {w : World} {B B' : Nat} {x : Nm} (h : NmC w B x) (hne : B ≠ B') (u0 u1 : Value) : NmC ((w.setCell ⟨B', 0, none⟩ u0).setCell ⟨B', 1, none⟩ u1) B x :=
  ⟨cell_put2 h.c0 hne _ _, cell_put2 h.c1 hne _ _⟩
theorem NoC.put2 {w : World} {B B' : Nat} (h : NoC w B) (hne : B ≠ B') (u0 u1 : Value) : NoC ((w.setCell ⟨B', 0, none⟩ u0).setCell ⟨B', 1, none⟩ u1) B := by
  obtain ⟨q0, q1, q2, q3, q4, q5⟩ := h
  exact ⟨cell_put2 q0 hne _ _, cell_put2 q1 hne _ _, cell_put2 q2 hne _ _, cell_put2 q3 hne _ _, cell_put2 q4 hne _ _, fun o => by rw [frozen_set', frozen_set']; exact q5 o⟩
theorem SpAt.put2 {w : World} {s : Sp} {k : Nat} {lo hi : Int} (h : SpAt w s k lo hi) {B : Nat} {x0 : Bool} {y0 : Option Addr} {y1 y2 : Nat} (h0 : w.cell? ⟨B, 0, none⟩ = some (.bool x0)) (h1 : w.cell? ⟨B, 1, none⟩ = some (.slice y0 y1 y2)) (u0 u1 : Value) :
    SpAt ((w.setCell ⟨B, 0, none⟩ u0).setCell ⟨B, 1, none⟩ u1) s k lo hi := ⟨h.lo.put2 h0 h1 _ _, h.hi.put2 h0 h1 _ _⟩
end Go.Proofs.Ytgmnknmjainabaa

namespace Go.Proofs.Ytgmnknmjainabaa
set_option linter.unusedVariables false
set_option linter.unusedSimpArgs false
set_option linter.unnecessarySimpa false
open Go.RowKit

theorem hs1 (w : World) (o1 : Obj) : (w.alloc o1).heap.size = w.heap.size + 1 := by simp
variable {W w2 : World} {k1 k2 : Nat} {z1 z2 : Int} {x y : Nm} {T : TypeId}
end Go.Proofs.Ytgmnknmjainabaa

namespace Go.Proofs.Ytgmnknmjainabaa
set_option linter.unusedVariables false
set_option linter.unusedSimpArgs false
set_option linter.unnecessarySimpa false
open Go.RowKit
attribute [local go_sem ↓] Go.wp_at_zero Go.wp_at_succ

/-- What stands of tailsureref.Over behind its variables l, h (at BL, CL) and lo, hi (at BM, CM). -/
structure OVs (w wr : World) (s t : Sp) (k k1 k2 BL CL BM CM : Nat) (xL yL xM yM : Nm) (lo' hi' l h m n : Int) : Prop where
  A : SpC wr w.heap.size s
  G : SpC wr (w.heap.size + 1) t
  R : NoC wr (w.heap.size + 1 + 1)
  XL : NmC wr BL xL
  YL : NmC wr CL yL
  XM : NmC wr BM xM
  YM : NmC wr CM yM
  il : IntAt wr xL.neg xL.a xL.n xL.cap k1 l
  ih : IntAt wr yL.neg yL.a yL.n yL.cap k1 h
  im : IntAt wr xM.neg xM.a xM.n xM.cap k2 m
  jn : IntAt wr yM.neg yM.a yM.n yM.cap k2 n
  ht : SpAt wr t k lo' hi'
  fM : ∀ o, wr.frozen? ⟨BM, o, none⟩ = false
  fN : ∀ o, wr.frozen? ⟨CM, o, none⟩ = false
  hB : Below w.heap.size w wr
variable {w wr w' : World} {s t : Sp} {k k1 k2 BL CL BM CM : Nat} {xL yL xM yM : Nm} {lo' hi' l h m n : Int}
theorem OVs.below (D : OVs w wr s t k k1 k2 BL CL BM CM xL yL xM yM lo' hi' l h m n) (hb : Below wr.heap.size wr w') : OVs w w' s t k k1 k2 BL CL BM CM xL yL xM yM lo' hi' l h m n :=
  ⟨D.A.below hb, D.G.below hb, D.R.below hb, D.XL.below hb, D.YL.below hb, D.XM.below hb, D.YM.below hb, D.il.below hb, D.ih.below hb, D.im.below hb, D.jn.below hb, D.ht.below hb, fun o => (hb.frozen (p := ⟨BM, o, none⟩) D.XM.lt).trans (D.fM o), fun o => (hb.frozen (p := ⟨CM, o, none⟩) D.YM.lt).trans (D.fN o), bthen D.hB hb⟩
end Go.Proofs.Ytgmnknmjainabaa

namespace Go.Proofs.Ytgmnknmjainabaa
set_option linter.unusedVariables false
set_option linter.unusedSimpArgs false
set_option linter.unnecessarySimpa false
open Go.RowKit
attribute [local go_sem ↓] Go.wp_at_zero Go.wp_at_succ

theorem SpC.put5n {w : World} {B B' : Nat} {s : Sp} (h : SpC w B s) (hne : B ≠ B') (u0 u1 u2 u3 u4 : Value) :
    SpC (((((w.setCell ⟨B', 0, none⟩ u0).setCell ⟨B', 1, none⟩ u1).setCell ⟨B', 2, none⟩ u2).setCell ⟨B', 3, none⟩ u3).setCell ⟨B', 4, none⟩ u4) B s :=
  ⟨cell_put5' h.c0 hne _ _ _ _ _, cell_put5' h.c1 hne _ _ _ _ _, cell_put5' h.c2 hne _ _ _ _ _, cell_put5' h.c3 hne _ _ _ _ _, cell_put5' h.c4 hne _ _ _ _ _⟩
theorem NoC.put5n {w : World} {B B' : Nat} (h : NoC w B) (hne : B ≠ B') (u0 u1 u2 u3 u4 : Value) :
    NoC (((((w.setCell ⟨B', 0, none⟩ u0).setCell ⟨B', 1, none⟩ u1).setCell ⟨B', 2, none⟩ u2).setCell ⟨B', 3, none⟩ u3).setCell ⟨B', 4, none⟩ u4) B := by
  obtain ⟨q0, q1, q2, q3, q4, q5⟩ := h
  exact ⟨cell_put5' q0 hne _ _ _ _ _, cell_put5' q1 hne _ _ _ _ _, cell_put5' q2 hne _ _ _ _ _, cell_put5' q3 hne _ _ _ _ _, cell_put5' q4 hne _ _ _ _ _, fun o => by rw [frozen_set', frozen_set', frozen_set', frozen_set', frozen_set']; exact q5 o⟩
theorem sp_put {w : World} {B : Nat} {t : Sp} (h : SpC w B t) (s : Sp) : SpC (((((w.setCell ⟨B, 0, none⟩ (.bool s.ln)).setCell ⟨B, 1, none⟩ (.slice s.la s.lN s.lc)).setCell ⟨B, 2, none⟩ (.bool s.hn)).setCell ⟨B, 3, none⟩ (.slice s.ha s.hN s.hc)).setCell ⟨B, 4, none⟩ (.int .i64 s.bits)) B s := by
  obtain ⟨q0, q1, q2, q3, q4⟩ := h
  constructor <;> simp [go_sem, q0, q1, q2, q3, q4]
/-- Two spans that are written anew, one behind the other. -/
theorem two_sp {w : World} {B B' : Nat} {s t : Sp} (hA : SpC w B s) (hG : SpC w B' t) (hne : B ≠ B') (u v : Sp) :
    let w1 := ((((w.setCell ⟨B, 0, none⟩ (.bool u.ln)).setCell ⟨B, 1, none⟩ (.slice u.la u.lN u.lc)).setCell ⟨B, 2, none⟩ (.bool u.hn)).setCell ⟨B, 3, none⟩ (.slice u.ha u.hN u.hc)).setCell ⟨B, 4, none⟩ (.int .i64 u.bits)
    let w2 := ((((w1.setCell ⟨B', 0, none⟩ (.bool v.ln)).setCell ⟨B', 1, none⟩ (.slice v.la v.lN v.lc)).setCell ⟨B', 2, none⟩ (.bool v.hn)).setCell ⟨B', 3, none⟩ (.slice v.ha v.hN v.hc)).setCell ⟨B', 4, none⟩ (.int .i64 v.bits)
    SpC w2 B u ∧ SpC w2 B' v ∧ (∀ {x : Sp} {k : Nat} {lo hi : Int}, SpAt w x k lo hi → SpAt w2 x k lo hi) ∧ (∀ {C : Nat}, NoC w C → C ≠ B → C ≠ B' → NoC w2 C) := by
  intro w1 w2
  have h1 : SpC w1 B u := sp_put hA u
  have h2 : SpC w1 B' t := hG.put5n (fun e => hne e.symm) _ _ _ _ _
  exact ⟨h1.put5n hne _ _ _ _ _, sp_put h2 v, fun h => SpAt.put5 (SpAt.put5 h hA.c0 hA.c1 hA.c2 hA.c3 hA.c4 _ _ _ _ _) h2.c0 h2.c1 h2.c2 h2.c3 h2.c4 _ _ _ _ _, fun h n1 n2 => (h.put5n n1 _ _ _ _ _).put5n n2 _ _ _ _ _⟩

end Go.Proofs.Ytgmnknmjainabaa
