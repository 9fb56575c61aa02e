/-
  Texts Gma, Gmb, Gmc, Gmd: what they hold is told in the last text.
-/
import Derived.Test.YtgmnknmjainababK18
set_option linter.unnecessarySimpa false
set_option linter.unusedSimpArgs false
set_option linter.unusedVariables false
namespace Go.Proofs.Ytgmnknmjainabab
open Go.RowKit
attribute [local go_sem ↓] Go.wp_at_zero Go.wp_at_succ
open Ex
structure IcC (w : World) (B : Nat) (v : Int) : Prop where
  c0 : w.cell? ⟨B, 0, none⟩ = some (.int .i64 v)
theorem IcC.lt {w : World} {B : Nat} {v : Int} (h : IcC w B v) : B < w.heap.size := World.block_lt_of_cell? w ⟨B, 0, none⟩ h.c0
theorem IcC.below {w w' : World} {B : Nat} {v : Int} (h : IcC w B v) (hb : Below w.heap.size w w') : IcC w' B v := ⟨(hb.cell (p := ⟨B, 0, none⟩) h.lt).trans h.c0⟩
set_option maxRecDepth 100000 in
set_option maxHeartbeats 2000000 in
theorem ga1_iv (w : World) (B0 B1 B2 : Nat) (s : Sp) (x d n : Int) (k b : Nat) (j : Int) (a : Int × Int) (hs : SpAt w s k a.1 a.2) (X : IcC w B0 x) (D : IcC w B1 d) (Z : IcC w B2 n) (hk : k ≤ 100000000) (hb : s.bits = (b : Int)) (hx : 0 ≤ x * d) (hx2 : x * d ≤ 9223372036854775807) (hj : 0 ≤ j * d) (hj2 : j * d ≤ 4611686018427387904) (hn : 0 < n) (hn2 : n ≤ 4611686018427387903) :
    Calls Try.prog 146 #[.agg #[.bool s.ln, .slice s.la s.lN s.lc, .bool s.hn, .slice s.ha s.hN s.hc, .int .i64 s.bits], .int .i64 j, .pointer (some ⟨B0, 0, none⟩), .pointer (some ⟨B1, 0, none⟩), .pointer (some ⟨B2, 0, none⟩)] w (SpanAns w b (k + 4 + 10) (scaleI a (x * d) (n + j * d)).1 (scaleI a (x * d) (n + j * d)).2) := by
  obtain ⟨W, hW⟩ : ∃ W, W = (w.alloc (.cells #[.bool s.ln, .slice s.la s.lN s.lc, .bool s.hn, .slice s.ha s.hN s.hc, .int .i64 s.bits] 28)).alloc (.cells #[.bool false, .slice none 0 0, .bool false, .slice none 0 0, .int .i64 0] 28) := ⟨_, rfl⟩
  have hBW : Below w.heap.size w W := by rw [hW]; exact bl2 _ _ _
  have A : SpC W w.heap.size s := by rw [hW]; exact ⟨by simp [go_sem], by simp [go_sem], by simp [go_sem], by simp [go_sem], by simp [go_sem]⟩
  have R : NoC W (w.heap.size + 1) := by rw [hW]; exact ⟨by simp [go_sem], by simp [go_sem], by simp [go_sem], by simp [go_sem], by simp [go_sem], fun o => by simp [go_sem]⟩
  have HS := hide (hs.below hBW)
  have l0 := X.lt
  have l1 := D.lt
  have l2 := Z.lt
  replace X := X.below hBW
  replace D := D.below hBW
  replace Z := Z.below hBW
  have HB := hide hb
  have lR := R.lt
  have lA := A.lt
  have HE1 := hide (show IntKind.i64.wrap (x * d) = x * d from i64_id _ (by omega) (by omega))
  have HE2 := hide (show IntKind.i64.wrap (j * d) = j * d from i64_id _ (by omega) (by omega))
  have HE3 := hide (show IntKind.i64.wrap (n + j * d) = n + j * d from i64_id _ (by omega) (by omega))
  have HQ1 := hide (show -9223372036854775808 ≤ x * d ∧ x * d ≤ 9223372036854775807 from ⟨by omega, by omega⟩)
  have HQ2 := hide (show -9223372036854775808 ≤ n + j * d ∧ n + j * d ≤ 9223372036854775807 from ⟨by omega, by omega⟩)
  have HQ3 := hide (show 0 < n + j * d by omega)
  clear hs hb hx hx2 hj hj2 hn hn2
  have hB0 : Below W.heap.size W W.drew := (Below.refl _ _).drew
  have HK := hide (show ∀ w', Below W.heap.size W w' → (w'.cell? ⟨w.heap.size, 0, none⟩ = some (.bool s.ln) ∧ w'.cell? ⟨w.heap.size, 1, none⟩ = some (.slice s.la s.lN s.lc) ∧ w'.cell? ⟨w.heap.size, 2, none⟩ = some (.bool s.hn) ∧ w'.cell? ⟨w.heap.size, 3, none⟩ = some (.slice s.ha s.hN s.hc) ∧ w'.cell? ⟨w.heap.size, 4, none⟩ = some (.int .i64 s.bits) ∧ w'.cell? ⟨B0, 0, none⟩ = some (.int .i64 x) ∧ w'.cell? ⟨B1, 0, none⟩ = some (.int .i64 d) ∧ w'.cell? ⟨B2, 0, none⟩ = some (.int .i64 n)) from fun w' hB => ⟨(A.below hB).c0, (A.below hB).c1, (A.below hB).c2, (A.below hB).c3, (A.below hB).c4, (X.below hB).c0, (D.below hB).c0, (Z.below hB).c0⟩)
  clear X D Z
  go_enter Try.func146, Try.ntmps146
  go_wp2
  rw [← hW]
  clear hW
  have nB0 : w.heap.size + 1 ≠ B0 := by omega
  have nB1 : w.heap.size + 1 ≠ B1 := by omega
  have nB2 : w.heap.size + 1 ≠ B2 := by omega
  obtain ⟨x0, x1, x2, x3, x4, x5, x6, x7⟩ := unhide HK _ (Below.refl _ _)
  go_region_held3 (fun w' => w'.cell? ⟨w.heap.size, 0, none⟩ = some (.bool s.ln) ∧ w'.cell? ⟨w.heap.size, 1, none⟩ = some (.slice s.la s.lN s.lc) ∧ w'.cell? ⟨w.heap.size, 2, none⟩ = some (.bool s.hn) ∧ w'.cell? ⟨w.heap.size, 3, none⟩ = some (.slice s.ha s.hN s.hc) ∧ w'.cell? ⟨w.heap.size, 4, none⟩ = some (.int .i64 s.bits) ∧ w'.cell? ⟨B0, 0, none⟩ = some (.int .i64 x) ∧ w'.cell? ⟨B1, 0, none⟩ = some (.int .i64 d) ∧ w'.cell? ⟨B2, 0, none⟩ = some (.int .i64 n)) (first | exact unhide HK _ (by first | with_reducible exact hB0 | with_reducible exact hB3 | with_reducible exact hB2 | with_reducible exact hB1) | go_keep)
    (first
      | (go_at_call 99; have hq := hB2; refine (scale_iv _ s ⟨neg1, a1, n1, c1⟩ ⟨neg2, a2, n2, c2⟩ k 4 _ b a (x * d) (n + j * d) ((unhide HS).below hB2) (hint1.below hb2) hint2 (by omega) (by omega) (unhide HQ3) (unhide HB)).mono ?_; rintro r w3 ⟨t, rfl, htb, htp, hb3⟩; have HT := hide htb; clear htb; have hB3 := bthen hB2 hb3; obtain ⟨q0, q1, q2, q3, q4, q5⟩ := R.below hB3; obtain ⟨i0, i1, i2, i3, i4, i5, i6, i7⟩ := unhide HK _ hB3)
      | (go_at_call 48; have hq := hB1; (first | rw [unhide HE2, unhide HE3] | rw [unhide HE3]); refine (numOf_int (n + j * d) _ (unhide HQ2).1 (unhide HQ2).2).mono ?_; rintro r w2 ⟨neg2, a2, n2, c2, rfl, hint2, hb2⟩; have hB2 := bthen hB1 hb2)
      | (go_at_call 48; rw [unhide HE1]; refine (numOf_int (x * d) _ (unhide HQ1).1 (unhide HQ1).2).mono ?_; rintro r w1 ⟨neg1, a1, n1, c1, rfl, hint1, hb1⟩; have hB1 := bthen hB0 hb1))
  all_goals
    go_wp2
    refine bodyPost_ret (v := .agg #[.bool t.ln, .slice t.la t.lN t.lc, .bool t.hn, .slice t.ha t.hN t.hc, .int .i64 t.bits]) (by simp [results, Try.results146, go_sem, q0, q1, q2, q3, q4]) rfl ⟨t, rfl, unhide HT, ?_, ?_⟩
    · exact SpAt.put5 htp q0 q1 q2 q3 q4 _ _ _ _ _
    · exact set5 (bthen hBW hB3) (Nat.le_succ _) _ _ _ _ _
set_option maxRecDepth 100000 in
set_option maxHeartbeats 4000000 in
theorem rise_ga (p1 p2 p3 : Value) (f : Nat → Int × Int) (turn N b K KF : Nat) (s : Sp) (W : World) (hs : SpAt W s K (f 0).1 (f 0).2) (hbits : s.bits = (b : Int)) (hb : b ≤ 1000000) (hK : K ≤ 100000000) (hK4 : 4 ≤ K) (hKF : KF ≤ 900000000) (hN : IsRise f turn N) (hNb : N ≤ 1000000000) (htn : turn ≤ 1000000000)
    (hle : ∀ n, (f n).1 ≤ (f n).2) (h0 : ∀ n, 0 ≤ (f n).1) (hfit : ∀ n, n ≤ N → -P K < (f n).1 ∧ (f n).2 < P K) (hfitS : ∀ n, n ≤ N → -P K < (sumI f n).1 ∧ (sumI f n).2 < P K)
    (hF : ∀ (n : Nat) (u : Sp) w', n < N → u.bits = (b : Int) → SpAt w' u K (f n).1 (f n).2 → Below W.heap.size W w' → Calls Try.prog 146 #[.agg #[.bool u.ln, .slice u.la u.lN u.lc, .bool u.hn, .slice u.ha u.hN u.hc, .int .i64 u.bits], .int .i64 ((n : Int) + 1), p1, p2, p3] w' (SpanAns w' b KF (f (n + 1)).1 (f (n + 1)).2)) :
    Calls Try.prog 125 #[.agg #[.bool s.ln, .slice s.la s.lN s.lc, .bool s.hn, .slice s.ha s.hN s.hc, .int .i64 s.bits], .int .i64 turn, .func (.func 146) #[] #[p1, p2, p3]] W (SpanAns W b (K + 3) (riseI f N).1 (riseI f N).2) := by
  have HF := hide hF
  have HN := hide hN
  have HBT := hide hbits
  have H0 := hide h0
  clear hF hN hbits h0
  obtain ⟨V, hV⟩ : ∃ V, V = (W.alloc (.cells #[.bool s.ln, .slice s.la s.lN s.lc, .bool s.hn, .slice s.ha s.hN s.hc, .int .i64 s.bits] 28)).alloc (.cells #[.bool false, .slice none 0 0, .bool false, .slice none 0 0, .int .i64 0] 28) := ⟨_, rfl⟩
  have hBV : Below W.heap.size W V := by rw [hV]; exact bl2 _ _ _
  have A : SpC V W.heap.size s := by rw [hV]; exact ⟨by simp [go_sem], by simp [go_sem], by simp [go_sem], by simp [go_sem], by simp [go_sem]⟩
  have R : NoC V (W.heap.size + 1) := by rw [hV]; exact ⟨by simp [go_sem], by simp [go_sem], by simp [go_sem], by simp [go_sem], by simp [go_sem], fun o => by simp [go_sem]⟩
  have HS := hide (hs.below hBV)
  have lA := A.lt
  have lR := R.lt
  clear hs
  go_enter Try.func125, Try.ntmps125
  go_wp2
  rw [← hV]
  clear hV
  go_cut [7, 8] (fun p q wx => TwoS V wx s s p q)
  case first =>
    obtain ⟨x0, x1, x2, x3, x4⟩ := A
    go_region
    all_goals
      go_wp2_with fail
      go_meet
      first
        | with_reducible exact twoS_a _ _ _ _
        | with_reducible exact twoS_b _ _ _ _
  case rest =>
  obtain ⟨B5, B6, rfl, rfl, l5, l6, hne, X, Y, hB⟩ := hcut
  have n5 : W.heap.size + 1 < B5 := by omega
  have n6 : W.heap.size + 1 < B6 := by omega
  have st0 : SumSt W wc B5 B6 b K s s s f 0 := ⟨X, Y, (unhide HS).below hB, (unhide HS).below hB, unhide HBT, unhide HBT, A.below hB, R.below hB, bthen hBV hB, n5, n6, hne⟩
  clear X Y hB A R HS l5 l6 n5 n6 hne hBV lA lR
  go_wp2_with fail
  go_loopw [9] (fun nn wr => ∃ (i : Nat) (X Y : Sp), nn = .int .i64 ((i : Int) + 1) ∧ i ≤ N ∧ SumSt W wr B5 B6 b K s X Y f i) (fun nn _ => N + 1 - (intOf nn).toNat)
  case atStart => exact ⟨0, s, s, rfl, Nat.zero_le _, st0⟩
  case round =>
    obtain ⟨i, X, Y, rfl, hi, st⟩ := hrel
    by_cases hit : i < turn
    · have hin : i < N := by have := (unhide HN).1; omega
      have hit' : ((i : Int) + 1 ≤ (turn : Int)) := by omega
      obtain ⟨⟨y0, y1, y2, y3, y4⟩, y5⟩ := st.y
      go_wp2_with fail
      refine (unhide HF i Y _ hin st.yb st.yp st.be).mono ?_
      rintro r w3 ⟨u, rfl, hub, hup, hb3⟩
      replace st := st.below hb3
      replace hup := hup.fits (K := K) (hle _) (hfit _ (by omega)).1 (hfit _ (by omega)).2
      have HU := hide hub
      clear hb3 y0 y1 y2 y3 y4 y5 hub
      obtain ⟨V3, hV3⟩ : ∃ V3, V3 = put5w w3 B6 u := ⟨_, rfl⟩
      have X3 : VrC V3 B5 X := by rw [hV3]; exact st.x.off st.ne u
      have Y3 : VrC V3 B6 u := by rw [hV3]; exact st.y.put u
      have P3 : SpAt V3 X K (sumI f i).1 (sumI f i).2 := by rw [hV3]; exact st.xp.put st.y.c u
      have U3 : SpAt V3 u K (f (i + 1)).1 (f (i + 1)).2 := by rw [hV3]; exact hup.put st.y.c u
      have F3 : SpC V3 W.heap.size s := by rw [hV3]; exact st.fs.off (by have := st.l6; omega) u
      have R3 : NoC V3 (W.heap.size + 1) := by rw [hV3]; exact st.no.off (by have := st.l6; omega) u
      have B3 : Below W.heap.size W V3 := by rw [hV3]; exact below_put st.be (by have := st.l6; omega) u
      have xb := hide st.xb
      have l5 := st.l5
      have l6 := st.l6
      have hne := st.ne
      have lY := st.y.lt
      have lX := st.x.lt
      obtain ⟨⟨y0, y1, y2, y3, y4⟩, y5⟩ := st.y
      obtain ⟨⟨x0, x1, x2, x3, x4⟩, x5⟩ := st.x
      clear st hup
      go_wp2_with fail
      have hV3' : V3 = put5w w3 B6 u := hV3
      unfold put5w at hV3'
      rw [← hV3']
      clear hV3' y0 y1 y2 y3 y4 y5 x0 x1 x2 x3 x4 x5
      have lX3 : B5 < V3.heap.size := X3.lt
      refine (add_iv _ X u K b (sumI f i) (f (i + 1)) P3 U3 (by omega) (unhide xb)).mono ?_
      rintro r w4 ⟨v, rfl, hvb, hvp, hb4⟩
      have X4 := X3.below hb4
      have Y4 := Y3.below hb4
      have U4 := U3.below hb4
      have F4 := F3.below hb4
      have R4 := R3.below hb4
      have B4 := bthen B3 hb4
      have e : addI (sumI f i) (f (i + 1)) = sumI f (i + 1) := rfl
      rw [e] at hvp
      replace hvp := hvp.fits (K := K) (sum_le hle _) (hfitS _ (by omega)).1 (hfitS _ (by omega)).2
      have HV := hide hvb
      clear hb4 hvb X3 Y3 P3 U3 F3 R3 B3 hV3
      have stn : SumSt W (put5w w4 B5 v) B5 B6 b K s v u f (i + 1) := ⟨X4.put v, Y4.off (Ne.symm hne) v, hvp.put X4.c v, U4.put X4.c v, unhide HV, unhide HU, F4.off (by omega) v, R4.off (by omega) v, below_put B4 (by omega) v, l5, l6, hne⟩
      unfold put5w at stn
      obtain ⟨⟨x0, x1, x2, x3, x4⟩, x5⟩ := X4
      go_wp2_with fail
      go_roundw
      case rel => exact ⟨i + 1, v, u, by go_num, by omega, stn⟩
      case measure => simp [intOf]; omega
    · have hit' : ¬ ((i : Int) + 1 ≤ (turn : Int)) := by omega
      obtain ⟨⟨y0, y1, y2, y3, y4⟩, y5⟩ := st.y
      go_wp2_with fail
      have hr0 : 0 ≤ (f i).2 := by have := unhide H0 i; have := hle i; omega
      refine (len_int _ _ _ _ _ (f i).2 _ st.yp.hi hr0).mono ?_
      rintro r w2 ⟨l, hlen, rfl, hb2⟩
      replace st := st.below hb2
      clear hb2 y0 y1 y2 y3 y4 y5
      by_cases hin : i < N
      · have hl : 2 < l := by
          have h3 := (unhide HN).2.2 i hin
          refine Int.not_le.1 fun hl => ?_
          obtain ⟨g1, g2, g3⟩ := hlen
          obtain ⟨L, e1, e2, e3⟩ := g3 (by omega)
          have := Q_mono (show L + 1 ≤ 2 by omega)
          have : Q 2 = 4 := rfl
          omega
        clear hlen hr0
        obtain ⟨⟨y0, y1, y2, y3, y4⟩, y5⟩ := st.y
        go_wp2_with fail
        refine (unhide HF i Y _ hin st.yb st.yp st.be).mono ?_
        rintro r w3 ⟨u, rfl, hub, hup, hb3⟩
        replace st := st.below hb3
        replace hup := hup.fits (K := K) (hle _) (hfit _ (by omega)).1 (hfit _ (by omega)).2
        have HU := hide hub
        clear hb3 y0 y1 y2 y3 y4 y5 hub
        obtain ⟨V3, hV3⟩ : ∃ V3, V3 = put5w w3 B6 u := ⟨_, rfl⟩
        have X3 : VrC V3 B5 X := by rw [hV3]; exact st.x.off st.ne u
        have Y3 : VrC V3 B6 u := by rw [hV3]; exact st.y.put u
        have P3 : SpAt V3 X K (sumI f i).1 (sumI f i).2 := by rw [hV3]; exact st.xp.put st.y.c u
        have U3 : SpAt V3 u K (f (i + 1)).1 (f (i + 1)).2 := by rw [hV3]; exact hup.put st.y.c u
        have F3 : SpC V3 W.heap.size s := by rw [hV3]; exact st.fs.off (by have := st.l6; omega) u
        have R3 : NoC V3 (W.heap.size + 1) := by rw [hV3]; exact st.no.off (by have := st.l6; omega) u
        have B3 : Below W.heap.size W V3 := by rw [hV3]; exact below_put st.be (by have := st.l6; omega) u
        have xb := hide st.xb
        have l5 := st.l5
        have l6 := st.l6
        have hne := st.ne
        have lY := st.y.lt
        have lX := st.x.lt
        obtain ⟨⟨y0, y1, y2, y3, y4⟩, y5⟩ := st.y
        obtain ⟨⟨x0, x1, x2, x3, x4⟩, x5⟩ := st.x
        clear st hup
        go_wp2_with fail
        have hV3' : V3 = put5w w3 B6 u := hV3
        unfold put5w at hV3'
        rw [← hV3']
        clear hV3' y0 y1 y2 y3 y4 y5 x0 x1 x2 x3 x4 x5
        have lX3 : B5 < V3.heap.size := X3.lt
        refine (add_iv _ X u K b (sumI f i) (f (i + 1)) P3 U3 (by omega) (unhide xb)).mono ?_
        rintro r w4 ⟨v, rfl, hvb, hvp, hb4⟩
        have X4 := X3.below hb4
        have Y4 := Y3.below hb4
        have U4 := U3.below hb4
        have F4 := F3.below hb4
        have R4 := R3.below hb4
        have B4 := bthen B3 hb4
        have e : addI (sumI f i) (f (i + 1)) = sumI f (i + 1) := rfl
        rw [e] at hvp
        replace hvp := hvp.fits (K := K) (sum_le hle _) (hfitS _ (by omega)).1 (hfitS _ (by omega)).2
        have HV := hide hvb
        clear hb4 hvb X3 Y3 P3 U3 F3 R3 B3 hV3
        have stn : SumSt W (put5w w4 B5 v) B5 B6 b K s v u f (i + 1) := ⟨X4.put v, Y4.off (Ne.symm hne) v, hvp.put X4.c v, U4.put X4.c v, unhide HV, unhide HU, F4.off (by omega) v, R4.off (by omega) v, below_put B4 (by omega) v, l5, l6, hne⟩
        unfold put5w at stn
        obtain ⟨⟨x0, x1, x2, x3, x4⟩, x5⟩ := X4
        go_wp2_with fail
        go_roundw
        case rel => exact ⟨i + 1, v, u, by go_num, by omega, stn⟩
        case measure => simp [intOf]; omega
      · have hie : i = N := by omega
        subst hie
        have hl : ¬ 2 < l := by
          have h1 := (unhide HN).2.1
          intro hl
          obtain ⟨g1, g2, g3⟩ := hlen
          by_cases hp : 0 < (f i).2
          · obtain ⟨L, e1, e2, e3⟩ := g3 hp
            have := Q_mono (show 2 ≤ L by omega)
            have : Q 2 = 4 := rfl
            omega
          · have := g2 (by omega); omega
        clear hlen
        have l5 := st.l5
        have lX := st.x.lt
        have HKr := hide (show ∀ w', Below w2.heap.size w2 w' → (w'.cell? ⟨B5, 0, none⟩ = some (.bool X.ln) ∧ w'.cell? ⟨B5, 1, none⟩ = some (.slice X.la X.lN X.lc) ∧ w'.cell? ⟨B5, 2, none⟩ = some (.bool X.hn) ∧ w'.cell? ⟨B5, 3, none⟩ = some (.slice X.ha X.hN X.hc) ∧ w'.cell? ⟨B5, 4, none⟩ = some (.int .i64 X.bits) ∧ w'.cell? ⟨W.heap.size, 4, none⟩ = some (.int .i64 s.bits)) from fun w' hB => ⟨(st.x.c.below hB).c0, (st.x.c.below hB).c1, (st.x.c.below hB).c2, (st.x.c.below hB).c3, (st.x.c.below hB).c4, (st.fs.below hB).c4⟩)
        have R3 := st.no
        have lR3 := R3.lt
        have ST := hide st
        clear st
        go_wp2_with fail
        obtain ⟨x0, x1, x2, x3, x4, x5⟩ := unhide HKr _ (Below.refl _ _)
        have hD0 : Below w2.heap.size w2 w2.drew := (Below.refl _ _).drew
        have nR1 : W.heap.size + 1 ≠ B5 := by omega
        have nR3 : W.heap.size + 1 ≠ W.heap.size := by omega
        go_region_held3 (fun w' => w'.cell? ⟨B5, 0, none⟩ = some (.bool X.ln) ∧ w'.cell? ⟨B5, 1, none⟩ = some (.slice X.la X.lN X.lc) ∧ w'.cell? ⟨B5, 2, none⟩ = some (.bool X.hn) ∧ w'.cell? ⟨B5, 3, none⟩ = some (.slice X.ha X.hN X.hc) ∧ w'.cell? ⟨B5, 4, none⟩ = some (.int .i64 X.bits) ∧ w'.cell? ⟨W.heap.size, 4, none⟩ = some (.int .i64 s.bits)) (first | exact unhide HKr _ (by first | with_reducible exact hD0 | with_reducible exact hD2 | with_reducible exact hD1) | go_keep)
          (first
            | (go_at_call 56; have hq := hD1; refine (add_iv _ X ⟨false, none, 0, 0, neg4, a4, n4, c4, s.bits⟩ K b (sumI f i) (0, 9) ((unhide ST).xp.below hD1) ⟨zeroInt _ _, hint4.mono hK4⟩ (by omega) (unhide ST).xb).mono ?_; rintro r' w5 ⟨v, rfl, hvb, hvp, hb5⟩; have hD2 := bthen hD1 hb5; have HV := hide hvb; clear hvb; obtain ⟨q0, q1, q2, q3, q4, q5⟩ := R3.below hD2; obtain ⟨y0, y1, y2, y3, y4, y5⟩ := unhide HKr _ hD2)
            | (go_at_call 48; refine (numOf_int 9 _ (by omega) (by omega)).mono ?_; rintro r' w4 ⟨neg4, a4, n4, c4, rfl, hint4, hb4⟩; have hD1 := bthen hD0 hb4))
        all_goals
          go_wp2_with fail
          refine bodyPost_ret (v := .agg #[.bool v.ln, .slice v.la v.lN v.lc, .bool v.hn, .slice v.ha v.hN v.hc, .int .i64 v.bits]) (by simp [results, Try.results125, go_sem, q0, q1, q2, q3, q4]) rfl ⟨v, rfl, unhide HV, ?_, ?_⟩
          · exact SpAt.put5 (hvp.mono (by omega)) q0 q1 q2 q3 q4 _ _ _ _ _
          · exact set5 (bthen (unhide ST).be hD2) (Nat.le_succ _) _ _ _ _ _
end Go.Proofs.Ytgmnknmjainabab
namespace Go.Proofs.Ytgmnknmjainabab
open Go.RowKit
attribute [local go_sem ↓] Go.wp_at_zero Go.wp_at_succ
open Ex
set_option maxRecDepth 100000 in
set_option maxHeartbeats 8000000 in
theorem gammaBelow_iv (L : Rat → Nat → Rat) (hL : Lns L) (w : World) (n d : Int) (b : Nat) (g : Nat → Rat) (h : GaIn n d b) (hg : Gam1 L ((n : Rat) / (d : Rat)) g) :
    Calls Try.prog 100 #[.int .i64 n, .int .i64 d, .int .i64 b] w (fun r w' => ∃ lo hi : Int, GaV g b (lo, hi) ∧ SpanAns w b 70 lo hi r w') := by
  obtain ⟨W, hW⟩ : ∃ W, W = (((w.alloc (.cells #[.int .i64 n] 3)).alloc (.cells #[.int .i64 d] 3)).alloc (.cells #[.bool false, .slice none 0 0, .bool false, .slice none 0 0, .int .i64 0] 28)).alloc (.cells #[.int .i64 (b : Int)] 3) := ⟨_, rfl⟩
  have hBW : Below w.heap.size w W := by rw [hW]; exact bl4 _ _ _ _ _
  have N0 : IcC W (w.heap.size) n := by rw [hW]; exact ⟨by simp [go_sem]⟩
  have D0 : IcC W (w.heap.size + 1) d := by rw [hW]; exact ⟨by simp [go_sem]⟩
  have X0 : IcC W (w.heap.size + 1 + 1 + 1) (b : Int) := by rw [hW]; exact ⟨by simp [go_sem]⟩
  have R : NoC W (w.heap.size + 1 + 1) := by rw [hW]; exact ⟨by simp [go_sem], by simp [go_sem], by simp [go_sem], by simp [go_sem], by simp [go_sem], fun o => by simp [go_sem]⟩
  have n0 := h.n0
  have nd := h.nd
  have dd := h.dd
  have b0 := h.b0
  have b1 := h.b1
  have bd0 : 0 ≤ (b : Int) * d := Int.mul_nonneg (by omega) (by omega)
  have bd1 : (b : Int) * d ≤ 1000 * 2199023255552 := Int.mul_le_mul (by omega) dd (by omega) (by omega)
  have lX := X0.lt
  have H := hide h
  have HL := hide hL
  have HG := hide hg
  obtain ⟨NS, hNS, hNS2⟩ := ga_set h
  obtain ⟨f1, f2, f3, f4⟩ := ga_first h
  have PK : ∀ j : Nat, j ≤ 22000 → Q j < P 1400 := fun j hj => by
    rw [← Q_P]
    have h1 := Q_mono (show j + 1 ≤ 16 * 1400 by omega)
    have h2 : Q (j + 1) = 2 * Q j := rfl
    have := Q_pos j
    omega
  have HF0 := hide (show (ofI d n b).1 ≤ (ofI d n b).2 ∧ -P 1400 < (ofI d n b).1 ∧ (ofI d n b).2 < P 1400 by
    have := PK (b + 41) (by omega)
    have := Q_pos b
    exact ⟨f2, by omega, by omega⟩)
  have HTF := hide (show ∀ j, j ≤ NS → -P 1400 < (gaT n d b j).1 ∧ (gaT n d b j).2 < P 1400 from fun j _ => by
    have e := ga_each h j
    have u := ga_hi h j
    have := PK (21 * b + 41) (by omega)
    have := Q_pos (21 * b + 41)
    exact ⟨by omega, by omega⟩)
  have HTS := hide (show ∀ j, j ≤ NS → -P 1400 < (sumI (gaT n d b) j).1 ∧ (sumI (gaT n d b) j).2 < P 1400 from fun j hj => by
    have u := ga_fit h j (by omega)
    have l := (ga_wideS h j).2.2.2
    have := PK (21 * b + 60) (by omega)
    have := Q_pos b
    have := Q_pos (21 * b + 60)
    exact ⟨by omega, by omega⟩)
  have HTL := hide (fun j => (ga_each h j).2)
  have HT0 := hide (fun j => (ga_each h j).1)
  have HM := hide hNS2
  have HFN := hide (show ∀ (j : Nat) (u : Sp) w', j < NS → u.bits = (b : Int) → SpAt w' u 1400 (gaT n d b j).1 (gaT n d b j).2 → Below W.heap.size W w' → Calls Try.prog 146 #[.agg #[.bool u.ln, .slice u.la u.lN u.lc, .bool u.hn, .slice u.ha u.hN u.hc, .int .i64 u.bits], .int .i64 ((j : Int) + 1), .pointer (some ⟨w.heap.size + 1 + 1 + 1, 0, none⟩), .pointer (some ⟨w.heap.size + 1, 0, none⟩), .pointer (some ⟨w.heap.size, 0, none⟩)] w' (SpanAns w' b 1414 (gaT n d b (j + 1)).1 (gaT n d b (j + 1)).2) from fun j u w' hj hub hup hbw => by
    have e := ga1_iv w' (w.heap.size + 1 + 1 + 1) (w.heap.size + 1) (w.heap.size) u (b : Int) d n 1400 b ((j : Int) + 1) (gaT n d b j) hup (X0.below hbw) (D0.below hbw) (N0.below hbw) (by omega) hub bd0 (by omega) (Int.mul_nonneg (by omega) (by omega)) (by
      have := Int.mul_le_mul (show (j : Int) + 1 ≤ 70000 by omega) dd (by omega) (by omega)
      omega) n0 (by omega)
    have ec : ((j + 1 : Nat) : Int) = (j : Int) + 1 := by omega
    have e2 : gaT n d b (j + 1) = scaleI (gaT n d b j) ((b : Int) * d) (n + ((j + 1 : Nat) : Int) * d) := rfl
    rw [e2, ec]
    exact e)
  have HE1 := hide (show IntKind.i64.wrap (2 * (b : Int)) = ((2 * b : Nat) : Int) from (i64_id _ (by omega) (by omega)).trans (by omega))
  have HK := hide (show ∀ w', Below W.heap.size W w' → (w'.cell? ⟨w.heap.size, 0, none⟩ = some (.int .i64 n) ∧ w'.cell? ⟨w.heap.size + 1, 0, none⟩ = some (.int .i64 d) ∧ w'.cell? ⟨w.heap.size + 1 + 1 + 1, 0, none⟩ = some (.int .i64 (b : Int))) from fun w' hB => ⟨(N0.below hB).c0, (D0.below hB).c0, (X0.below hB).c0⟩)
  clear h hL hg hNS2 PK f1 f2 f3 f4
  have lR := R.lt
  go_enter Try.func100, Try.ntmps100
  go_wp2
  rw [← hW]
  clear hW
  go_cut [8] (fun p wx => ∃ (B : Nat) (u : Sp), p = .pointer (some ⟨B, 0, none⟩) ∧ W.heap.size ≤ B ∧ VrC wx B u ∧ SpAt wx u 1403 (gaSer n d b NS).1 (gaSer n d b NS).2 ∧ u.bits = (b : Int) ∧ Below W.heap.size W wx)
  case first =>
    go_region_held3 (fun w' => w'.cell? ⟨w.heap.size, 0, none⟩ = some (.int .i64 n) ∧ w'.cell? ⟨w.heap.size + 1, 0, none⟩ = some (.int .i64 d) ∧ w'.cell? ⟨w.heap.size + 1 + 1 + 1, 0, none⟩ = some (.int .i64 (b : Int))) (exact unhide HK _ (by repeat' (first | with_reducible exact hBS4 | with_reducible exact hBS3 | with_reducible exact hBS2 | with_reducible exact hBS1 | with_reducible exact Below.refl _ _ | with_reducible refine Below.drew ?_ | with_reducible refine balloc ?_ _ | with_reducible refine Below.setCell ?_ (by first | exact Nat.le_refl _ | exact hlS1 | exact hlS2 | exact hlS3 | exact hlS4) _)))
      (first
        | (go_at_call 125; have hq := hBS3; rw [unhide HE1]; refine (rise_ga _ _ _ (gaT n d b) (2 * b) NS b 1400 1414 vS3 _ ((hintS3.below (by first | with_reducible exact Below.refl _ _ | with_reducible exact bl1 _ _)).fits (K := 1400) (unhide HF0).1 (unhide HF0).2.1 (unhide HF0).2.2) (unhide HVBS3) (by omega) (by omega) (by omega) (by omega) (unhide HM) (by omega) (by omega) (unhide HTL) (unhide HT0) (unhide HTF) (unhide HTS) (fun j u w' hj hub hup hbw => unhide HFN j u w' hj hub hup (bthen (by first | with_reducible exact hBS3 | with_reducible exact balloc hBS3 _) hbw))).mono ?_; rintro r wS4 ⟨vS4, rfl, hvbS4, hintS4, hbS4⟩; have HVBS4 := hide hvbS4; clear hvbS4; have hCS4 : Below wS3.heap.size wS3 wS4 := (by first | with_reducible exact hbS4 | with_reducible exact bthen (bl1 _ _) hbS4); have hBS4 := bthen hBS3 hCS4; (try with_reducible have gS4 := (noc_new wS3 28).below hbS4); replace hintS1 := hintS1.below hCS4; (try replace gS1 := gS1.below hCS4); replace hintS2 := hintS2.below hCS4; (try replace gS2 := gS2.below hCS4); replace hintS3 := hintS3.below hCS4; (try replace gS3 := gS3.below hCS4); have hlS4 := hBS4.size; (try have mS1 := gS1.lt); (try have eS1 := Nat.ne_of_lt mS1); (try have eS1' := Nat.ne_of_gt mS1); (try obtain ⟨zS10, zS11, zS12, zS13, zS14, zS15⟩ := gS1); (try have mS2 := gS2.lt); (try have eS2 := Nat.ne_of_lt mS2); (try have eS2' := Nat.ne_of_gt mS2); (try obtain ⟨zS20, zS21, zS22, zS23, zS24, zS25⟩ := gS2); (try have mS3 := gS3.lt); (try have eS3 := Nat.ne_of_lt mS3); (try have eS3' := Nat.ne_of_gt mS3); (try obtain ⟨zS30, zS31, zS32, zS33, zS34, zS35⟩ := gS3); (try have mS4 := gS4.lt); (try have eS4 := Nat.ne_of_lt mS4); (try have eS4' := Nat.ne_of_gt mS4); (try obtain ⟨zS40, zS41, zS42, zS43, zS44, zS45⟩ := gS4))
        | (go_at_call 66; have hq := hBS2; refine (wideOf_any _ _ _ _ _ _ _ _ 4 4 b d n _ (hintS1.below (by first | with_reducible exact Below.refl _ _ | with_reducible exact bl1 _ _)) (hintS2.below (by first | with_reducible exact Below.refl _ _ | with_reducible exact bl1 _ _)) (by omega) (by omega) n0).mono ?_; rintro r wS3 ⟨vS3, rfl, hvbS3, hintS3, hbS3⟩; have HVBS3 := hide hvbS3; clear hvbS3; have hCS3 : Below wS2.heap.size wS2 wS3 := (by first | with_reducible exact hbS3 | with_reducible exact bthen (bl1 _ _) hbS3); have hBS3 := bthen hBS2 hCS3; (try with_reducible have gS3 := (noc_new wS2 28).below hbS3); replace hintS1 := hintS1.below hCS3; (try replace gS1 := gS1.below hCS3); replace hintS2 := hintS2.below hCS3; (try replace gS2 := gS2.below hCS3); have hlS3 := hBS3.size)
        | (go_at_call 48; have hq := hBS1; refine (numOf_int n _ (by omega) (by omega)).mono ?_; rintro r wS2 ⟨negS2, aS2, nS2, cS2, rfl, hintS2, hbS2⟩; have hCS2 : Below wS1.heap.size wS1 wS2 := (by first | with_reducible exact hbS2 | with_reducible exact bthen (bl1 _ _) hbS2); have hBS2 := bthen hBS1 hCS2; (try with_reducible have gS2 := (noc_new wS1 28).below hbS2); replace hintS1 := hintS1.below hCS2; (try replace gS1 := gS1.below hCS2); have hlS2 := hBS2.size)
        | (go_at_call 48; refine (numOf_int d _ (by omega) (by omega)).mono ?_; rintro r wS1 ⟨negS1, aS1, nS1, cS1, rfl, hintS1, hbS1⟩; have hBS1 : Below W.heap.size W wS1 := (by first | with_reducible exact bthen (Below.refl _ _).drew hbS1 | with_reducible exact bthen (bl1 _ _).drew hbS1); (try with_reducible have gS1 := ((noc_new W 28).below (Below.refl _ _).drew).below hbS1); have hlS1 := hBS1.size))
    all_goals
      have hfinS : SpAt wS4 vS4 1403 (gaSer n d b NS).1 (gaSer n d b NS).2 := hintS4
      go_wp2_with fail
      go_meet
      refine ⟨_, vS4, rfl, ?_, ⟨⟨?_, ?_, ?_, ?_, ?_⟩, ?_⟩, ?_, unhide HVBS4, ?_⟩
      · first | exact Nat.le_refl _ | exact hlS1 | exact hlS2 | exact hlS3 | exact hlS4
      · simp [go_sem, *]
      · simp [go_sem, *]
      · simp [go_sem, *]
      · simp [go_sem, *]
      · simp [go_sem, *]
      · intro o; simp [go_sem, *]
      · first | with_reducible exact SpAt.put5 hfinS zS40 zS41 zS42 zS43 zS44 _ _ _ _ _ | with_reducible exact SpAt.put5 hfinS zS30 zS31 zS32 zS33 zS34 _ _ _ _ _ | with_reducible exact SpAt.put5 hfinS zS20 zS21 zS22 zS23 zS24 _ _ _ _ _ | with_reducible exact SpAt.put5 hfinS zS10 zS11 zS12 zS13 zS14 _ _ _ _ _ | with_reducible exact hfinS.below (bl1 _ _)
      · repeat' (first | with_reducible exact hBS4 | with_reducible exact hBS3 | with_reducible exact hBS2 | with_reducible exact hBS1 | with_reducible exact Below.refl _ _ | with_reducible refine Below.drew ?_ | with_reducible refine balloc ?_ _ | with_reducible refine Below.setCell ?_ (by first | exact Nat.le_refl _ | exact hlS1 | exact hlS2 | exact hlS3 | exact hlS4) _)
  case rest =>
  obtain ⟨BS, xS, rfl, hHS, XS, hpS, hxbS, hblS⟩ := hcut
  obtain ⟨V1, hV1⟩ : ∃ V, V = wc := ⟨_, rfl⟩
  subst hV1
  replace N0 := N0.below hblS
  replace D0 := D0.below hblS
  replace X0 := X0.below hblS
  replace R := R.below hblS
  replace hBW := bthen hBW hblS
  have HSB := hide hxbS
  have HSP := hide hpS
  have lS := XS.lt
  clear hxbS hpS HK HTF HTS HTL HT0 HFN HF0 HE1
  have HK := hide (show ∀ w', Below V1.heap.size V1 w' → (w'.cell? ⟨w.heap.size, 0, none⟩ = some (.int .i64 n) ∧ w'.cell? ⟨w.heap.size + 1, 0, none⟩ = some (.int .i64 d) ∧ w'.cell? ⟨w.heap.size + 1 + 1 + 1, 0, none⟩ = some (.int .i64 (b : Int))) from fun w' hB => ⟨(N0.below hB).c0, (D0.below hB).c0, (X0.below hB).c0⟩)
  have HQ4 := hide (show Q (b + 4) < P 500 by
    rw [← Q_P]
    have h1 := Q_mono (show b + 4 + 1 ≤ 16 * 500 by omega)
    have h2 : Q (b + 4 + 1) = 2 * Q (b + 4) := rfl
    have := Q_pos (b + 4)
    omega)
  have d0 : 0 < d := by omega
  go_wp2_with fail
  go_cut [9] (fun p wx => ∃ (B : Nat) (u : Sp) (o : Int × Int), p = .pointer (some ⟨B, 0, none⟩) ∧ GaLog L b o ∧ V1.heap.size ≤ B ∧ VrC wx B u ∧ SpAt wx u 534 (scaleI o n d).1 (scaleI o n d).2 ∧ u.bits = (b : Int) ∧ Below V1.heap.size V1 wx)
  case first =>
    go_region_held3 (fun w' => w'.cell? ⟨w.heap.size, 0, none⟩ = some (.int .i64 n) ∧ w'.cell? ⟨w.heap.size + 1, 0, none⟩ = some (.int .i64 d) ∧ w'.cell? ⟨w.heap.size + 1 + 1 + 1, 0, none⟩ = some (.int .i64 (b : Int))) (exact unhide HK _ (by repeat' (first | with_reducible exact hBY6 | with_reducible exact hBY5 | with_reducible exact hBY4 | with_reducible exact hBY3 | with_reducible exact hBY2 | with_reducible exact hBY1 | with_reducible exact Below.refl _ _ | with_reducible refine Below.drew ?_ | with_reducible refine balloc ?_ _ | with_reducible refine Below.setCell ?_ (by first | exact Nat.le_refl _ | exact hlY1 | exact hlY2 | exact hlY3 | exact hlY4 | exact hlY5 | exact hlY6) _)))
      (first
        | (go_at_call 99; have hq := hBY5; refine (scale_iv _ vY3 ⟨negY4, aY4, nY4, cY4⟩ ⟨negY5, aY5, nY5, cY5⟩ 520 4 4 b (lnOf (doneI (lnT n' d' b) N1) (doneI (lnT 2 1 b) N2) cc) n d ((hintY3.below (bthen hCY4 hCY5)).below (by first | with_reducible exact Below.refl _ _ | with_reducible exact bl1 _ _)) (hintY4.below (by first | with_reducible exact Below.refl _ _ | with_reducible exact bl1 _ _)) (hintY5.below (by first | with_reducible exact Below.refl _ _ | with_reducible exact bl1 _ _)) (by omega) (by omega) d0 (unhide HVBY3)).mono ?_; rintro r wY6 ⟨vY6, rfl, hvbY6, hintY6, hbY6⟩; have HVBY6 := hide hvbY6; clear hvbY6; have hCY6 : Below wY5.heap.size wY5 wY6 := (by first | with_reducible exact hbY6 | with_reducible exact bthen (bl1 _ _) hbY6); have hBY6 := bthen hBY5 hCY6; (try with_reducible have gY6 := (noc_new wY5 28).below hbY6); replace hintY1 := hintY1.below hCY6; (try replace gY1 := gY1.below hCY6); replace hintY2 := hintY2.below hCY6; (try replace gY2 := gY2.below hCY6); (try replace gY3 := gY3.below hCY6); replace hintY4 := hintY4.below hCY6; (try replace gY4 := gY4.below hCY6); replace hintY5 := hintY5.below hCY6; (try replace gY5 := gY5.below hCY6); have hlY6 := hBY6.size; (try have mY1 := gY1.lt); (try have eY1 := Nat.ne_of_lt mY1); (try have eY1' := Nat.ne_of_gt mY1); (try obtain ⟨zY10, zY11, zY12, zY13, zY14, zY15⟩ := gY1); (try have mY2 := gY2.lt); (try have eY2 := Nat.ne_of_lt mY2); (try have eY2' := Nat.ne_of_gt mY2); (try obtain ⟨zY20, zY21, zY22, zY23, zY24, zY25⟩ := gY2); (try have mY3 := gY3.lt); (try have eY3 := Nat.ne_of_lt mY3); (try have eY3' := Nat.ne_of_gt mY3); (try obtain ⟨zY30, zY31, zY32, zY33, zY34, zY35⟩ := gY3); (try have mY4 := gY4.lt); (try have eY4 := Nat.ne_of_lt mY4); (try have eY4' := Nat.ne_of_gt mY4); (try obtain ⟨zY40, zY41, zY42, zY43, zY44, zY45⟩ := gY4); (try have mY5 := gY5.lt); (try have eY5 := Nat.ne_of_lt mY5); (try have eY5' := Nat.ne_of_gt mY5); (try obtain ⟨zY50, zY51, zY52, zY53, zY54, zY55⟩ := gY5); (try have mY6 := gY6.lt); (try have eY6 := Nat.ne_of_lt mY6); (try have eY6' := Nat.ne_of_gt mY6); (try obtain ⟨zY60, zY61, zY62, zY63, zY64, zY65⟩ := gY6))
        | (go_at_call 48; have hq := hBY4; refine (numOf_int d _ (by omega) (by omega)).mono ?_; rintro r wY5 ⟨negY5, aY5, nY5, cY5, rfl, hintY5, hbY5⟩; have hCY5 : Below wY4.heap.size wY4 wY5 := (by first | with_reducible exact hbY5 | with_reducible exact bthen (bl1 _ _) hbY5); have hBY5 := bthen hBY4 hCY5; (try with_reducible have gY5 := (noc_new wY4 28).below hbY5); replace hintY1 := hintY1.below hCY5; (try replace gY1 := gY1.below hCY5); replace hintY2 := hintY2.below hCY5; (try replace gY2 := gY2.below hCY5); (try replace gY3 := gY3.below hCY5); replace hintY4 := hintY4.below hCY5; (try replace gY4 := gY4.below hCY5); have hlY5 := hBY5.size)
        | (go_at_call 48; have hq := hBY3; refine (numOf_int n _ (by omega) (by omega)).mono ?_; rintro r wY4 ⟨negY4, aY4, nY4, cY4, rfl, hintY4, hbY4⟩; have hCY4 : Below wY3.heap.size wY3 wY4 := (by first | with_reducible exact hbY4 | with_reducible exact bthen (bl1 _ _) hbY4); have hBY4 := bthen hBY3 hCY4; (try with_reducible have gY4 := (noc_new wY3 28).below hbY4); replace hintY1 := hintY1.below hCY4; (try replace gY1 := gY1.below hCY4); replace hintY2 := hintY2.below hCY4; (try replace gY2 := gY2.below hCY4); (try replace gY3 := gY3.below hCY4); have hlY4 := hBY4.size)
        | (go_at_call 128; have hq := hBY2; refine (wideLog_iv _ ⟨negY1, aY1, nY1, cY1⟩ ⟨negY2, aY2, nY2, cY2⟩ 4 b 500 (b : Int) 1 (hintY1.below (by first | with_reducible exact Below.refl _ _ | with_reducible exact bl1 _ _)) (hintY2.below (by first | with_reducible exact Below.refl _ _ | with_reducible exact bl1 _ _)) (by omega) (by omega) (by omega) (by omega) (by omega) (unhide HQ4) (by omega)).mono ?_; rintro r wY3 ⟨n', d', cc, N1, N2, hbal, hc1, hc2, hN1, hN2, vY3, rfl, hvbY3, hintY3, hbY3⟩; have HVBY3 := hide hvbY3; clear hvbY3; have HGL := hide (gaLog_of (unhide HL) (by omega) (by omega) hbal hN1 hN2); clear hbal hc1 hc2 hN1 hN2; have hCY3 : Below wY2.heap.size wY2 wY3 := (by first | with_reducible exact hbY3 | with_reducible exact bthen (bl1 _ _) hbY3); have hBY3 := bthen hBY2 hCY3; (try with_reducible have gY3 := (noc_new wY2 28).below hbY3); replace hintY1 := hintY1.below hCY3; (try replace gY1 := gY1.below hCY3); replace hintY2 := hintY2.below hCY3; (try replace gY2 := gY2.below hCY3); have hlY3 := hBY3.size)
        | (go_at_call 48; have hq := hBY1; refine (numOf_int 1 _ (by omega) (by omega)).mono ?_; rintro r wY2 ⟨negY2, aY2, nY2, cY2, rfl, hintY2, hbY2⟩; have hCY2 : Below wY1.heap.size wY1 wY2 := (by first | with_reducible exact hbY2 | with_reducible exact bthen (bl1 _ _) hbY2); have hBY2 := bthen hBY1 hCY2; (try with_reducible have gY2 := (noc_new wY1 28).below hbY2); replace hintY1 := hintY1.below hCY2; (try replace gY1 := gY1.below hCY2); have hlY2 := hBY2.size)
        | (go_at_call 48; refine (numOf_int (b : Int) _ (by omega) (by omega)).mono ?_; rintro r wY1 ⟨negY1, aY1, nY1, cY1, rfl, hintY1, hbY1⟩; have hBY1 : Below V1.heap.size V1 wY1 := (by first | with_reducible exact bthen (Below.refl _ _).drew hbY1 | with_reducible exact bthen (bl1 _ _).drew hbY1); (try with_reducible have gY1 := ((noc_new V1 28).below (Below.refl _ _).drew).below hbY1); have hlY1 := hBY1.size))
    all_goals
      have hfinY : SpAt wY6 vY6 534 (scaleI (lnOf (doneI (lnT n' d' b) N1) (doneI (lnT 2 1 b) N2) cc) n d).1 (scaleI (lnOf (doneI (lnT n' d' b) N1) (doneI (lnT 2 1 b) N2) cc) n d).2 := hintY6
      go_wp2_with fail
      go_meet
      refine ⟨_, vY6, _, rfl, unhide HGL, ?_, ⟨⟨?_, ?_, ?_, ?_, ?_⟩, ?_⟩, ?_, unhide HVBY6, ?_⟩
      · first | exact Nat.le_refl _ | exact hlY1 | exact hlY2 | exact hlY3 | exact hlY4 | exact hlY5 | exact hlY6
      · simp [go_sem, *]
      · simp [go_sem, *]
      · simp [go_sem, *]
      · simp [go_sem, *]
      · simp [go_sem, *]
      · intro o; simp [go_sem, *]
      · first | with_reducible exact SpAt.put5 hfinY zY60 zY61 zY62 zY63 zY64 _ _ _ _ _ | with_reducible exact SpAt.put5 hfinY zY50 zY51 zY52 zY53 zY54 _ _ _ _ _ | with_reducible exact SpAt.put5 hfinY zY40 zY41 zY42 zY43 zY44 _ _ _ _ _ | with_reducible exact SpAt.put5 hfinY zY30 zY31 zY32 zY33 zY34 _ _ _ _ _ | with_reducible exact SpAt.put5 hfinY zY20 zY21 zY22 zY23 zY24 _ _ _ _ _ | with_reducible exact SpAt.put5 hfinY zY10 zY11 zY12 zY13 zY14 _ _ _ _ _ | with_reducible exact hfinY.below (bl1 _ _)
      · repeat' (first | with_reducible exact hBY6 | with_reducible exact hBY5 | with_reducible exact hBY4 | with_reducible exact hBY3 | with_reducible exact hBY2 | with_reducible exact hBY1 | with_reducible exact Below.refl _ _ | with_reducible refine Below.drew ?_ | with_reducible refine balloc ?_ _ | with_reducible refine Below.setCell ?_ (by first | exact Nat.le_refl _ | exact hlY1 | exact hlY2 | exact hlY3 | exact hlY4 | exact hlY5 | exact hlY6) _)
  case rest =>
  obtain ⟨BY, xY, oY, rfl, hGL, hHY, XY, hpY, hxbY, hblY⟩ := hcut
  obtain ⟨V2, hV2⟩ : ∃ V, V = wc := ⟨_, rfl⟩
  subst hV2
  have XS2 := XS.below hblY
  replace N0 := N0.below hblY
  replace D0 := D0.below hblY
  replace X0 := X0.below hblY
  replace R := R.below hblY
  replace hBW := bthen hBW hblY
  replace HSP := hide ((unhide HSP).below hblY)
  have HYB := hide hxbY
  have HYP := hide hpY
  clear hxbY hpY HK XS
  have lY := XY.lt
  have lS2 := XS2.lt
  have GE := gaY_ok (unhide H) hGL
  obtain ⟨l, t, NE, e1, e2, e3, e4, e5⟩ := exp_set (B := b) (e := 11) (by omega) GE.2.1 GE.2.2.2.1
  have GV := gaG_ok (unhide HL) (unhide H) (unhide HG) hGL (by omega) e4 e5 hNS (unhide HM)
  have EO := gaE_ok (unhide H) hGL (show t ≤ 19 by omega) e4 e5
  have SO := gaSer_ok (unhide H) hNS
  have HQE := hide (show Q (b + eb t) < P 500 by
    rw [← Q_P]
    have ebm := eb_mono (show t ≤ 19 by omega)
    have eb19 : eb 19 = 6144 := by decide
    rw [eb19] at ebm
    have h1 := Q_mono (show b + eb t + 1 ≤ 16 * 500 by omega)
    have h2 : Q (b + eb t + 1) = 2 * Q (b + eb t) := rfl
    have := Q_pos (b + eb t)
    omega)
  have HYF := hide (show (gaY n d b oY).1 ≤ (gaY n d b oY).2 ∧ -P 500 < (gaY n d b oY).1 ∧ (gaY n d b oY).2 < P 500 by
    have r := GE.2.2.2.1
    have ra := reach_abs GE.2.1
    obtain ⟨r1, r2, r3, r4⟩ := ra
    have h1 := Q_mono (show b + 11 ≤ 16 * 500 by omega)
    rw [Q_P] at h1
    exact ⟨GE.2.1, by omega, by omega⟩)
  have HGV := hide GV
  have HE5 := hide e1
  have HE6 := hide e2
  have HE7 := hide e4
  have HE8 := hide e5
  have ht : t ≤ 1000000 := by omega
  have HDN := hide (show ¬ ((gaE n d b oY t NE).1 ≤ 0 ∧ 0 ≤ (gaE n d b oY t NE).2) ∧ (gaE n d b oY t NE).1 ≤ (gaE n d b oY t NE).2 ∧ (gaSer n d b NS).1 ≤ (gaSer n d b NS).2 by
    have := Q_pos b
    exact ⟨by omega, EO.2.1, SO.2.1⟩)
  clear GE GV EO SO e1 e2 e3 e4 e5 hGL
  have HK := hide (show ∀ w', Below V2.heap.size V2 w' → (w'.cell? ⟨w.heap.size, 0, none⟩ = some (.int .i64 n) ∧ w'.cell? ⟨w.heap.size + 1, 0, none⟩ = some (.int .i64 d) ∧ w'.cell? ⟨w.heap.size + 1 + 1 + 1, 0, none⟩ = some (.int .i64 (b : Int)) ∧ w'.cell? ⟨BS, 0, none⟩ = some (.bool xS.ln) ∧ w'.cell? ⟨BS, 1, none⟩ = some (.slice xS.la xS.lN xS.lc) ∧ w'.cell? ⟨BS, 2, none⟩ = some (.bool xS.hn) ∧ w'.cell? ⟨BS, 3, none⟩ = some (.slice xS.ha xS.hN xS.hc) ∧ w'.cell? ⟨BS, 4, none⟩ = some (.int .i64 xS.bits) ∧ w'.cell? ⟨BY, 0, none⟩ = some (.bool xY.ln) ∧ w'.cell? ⟨BY, 1, none⟩ = some (.slice xY.la xY.lN xY.lc) ∧ w'.cell? ⟨BY, 2, none⟩ = some (.bool xY.hn) ∧ w'.cell? ⟨BY, 3, none⟩ = some (.slice xY.ha xY.hN xY.hc) ∧ w'.cell? ⟨BY, 4, none⟩ = some (.int .i64 xY.bits)) from fun w' hB => ⟨(N0.below hB).c0, (D0.below hB).c0, (X0.below hB).c0, (XS2.c.below hB).c0, (XS2.c.below hB).c1, (XS2.c.below hB).c2, (XS2.c.below hB).c3, (XS2.c.below hB).c4, (XY.c.below hB).c0, (XY.c.below hB).c1, (XY.c.below hB).c2, (XY.c.below hB).c3, (XY.c.below hB).c4⟩)
  go_wp2_with fail
  go_cut [10] (fun p wx => ∃ (B : Nat) (u : Sp), p = .pointer (some ⟨B, 0, none⟩) ∧ V2.heap.size ≤ B ∧ VrC wx B u ∧ SpAt wx u 1600 (((dvLo (gaSer n d b NS).1 (gaSer n d b NS).2 (gaE n d b oY t NE).1 (gaE n d b oY t NE).2 b, dvHi (gaSer n d b NS).1 (gaSer n d b NS).2 (gaE n d b oY t NE).1 (gaE n d b oY t NE).2 b) : Int × Int)).1 (((dvLo (gaSer n d b NS).1 (gaSer n d b NS).2 (gaE n d b oY t NE).1 (gaE n d b oY t NE).2 b, dvHi (gaSer n d b NS).1 (gaSer n d b NS).2 (gaE n d b oY t NE).1 (gaE n d b oY t NE).2 b) : Int × Int)).2 ∧ u.bits = (b : Int) ∧ Below V2.heap.size V2 wx)
  case first =>
    go_region_held3 (fun w' => w'.cell? ⟨w.heap.size, 0, none⟩ = some (.int .i64 n) ∧ w'.cell? ⟨w.heap.size + 1, 0, none⟩ = some (.int .i64 d) ∧ w'.cell? ⟨w.heap.size + 1 + 1 + 1, 0, none⟩ = some (.int .i64 (b : Int)) ∧ w'.cell? ⟨BS, 0, none⟩ = some (.bool xS.ln) ∧ w'.cell? ⟨BS, 1, none⟩ = some (.slice xS.la xS.lN xS.lc) ∧ w'.cell? ⟨BS, 2, none⟩ = some (.bool xS.hn) ∧ w'.cell? ⟨BS, 3, none⟩ = some (.slice xS.ha xS.hN xS.hc) ∧ w'.cell? ⟨BS, 4, none⟩ = some (.int .i64 xS.bits) ∧ w'.cell? ⟨BY, 0, none⟩ = some (.bool xY.ln) ∧ w'.cell? ⟨BY, 1, none⟩ = some (.slice xY.la xY.lN xY.lc) ∧ w'.cell? ⟨BY, 2, none⟩ = some (.bool xY.hn) ∧ w'.cell? ⟨BY, 3, none⟩ = some (.slice xY.ha xY.hN xY.hc) ∧ w'.cell? ⟨BY, 4, none⟩ = some (.int .i64 xY.bits)) (exact unhide HK _ (by repeat' (first | with_reducible exact hBO6 | with_reducible exact hBO5 | with_reducible exact hBO4 | with_reducible exact hBO3 | with_reducible exact hBO2 | with_reducible exact hBO1 | with_reducible exact Below.refl _ _ | with_reducible refine Below.drew ?_ | with_reducible refine balloc ?_ _ | with_reducible refine Below.setCell ?_ (by first | exact Nat.le_refl _ | exact hlO1 | exact hlO2 | exact hlO3 | exact hlO4 | exact hlO5 | exact hlO6) _)))
      (first
        | (go_at_call 130; have hq := hBO5; refine (wideDiv_any _ xS vO5 1403 b _ _ _ _ ((unhide HSP).below (by first | with_reducible exact hBO5 | with_reducible exact balloc hBO5 _)) ((show SpAt _ vO5 500 (gaE n d b oY t NE).1 (gaE n d b oY t NE).2 from (hintO5.below (by first | with_reducible exact Below.refl _ _ | with_reducible exact bl1 _ _))).mono (by omega)) (by omega) (by omega) (unhide HSB) (unhide HDN).2.2 (unhide HDN).1 (unhide HDN).2.1).mono ?_; rintro r wO6 ⟨vO6, rfl, hvbO6, hintO6, hbO6⟩; have HVBO6 := hide hvbO6; clear hvbO6; have hCO6 : Below wO5.heap.size wO5 wO6 := (by first | with_reducible exact hbO6 | with_reducible exact bthen (bl1 _ _) hbO6); have hBO6 := bthen hBO5 hCO6; (try with_reducible have gO6 := (noc_new wO5 28).below hbO6); replace hintO1 := hintO1.below hCO6; (try replace gO1 := gO1.below hCO6); replace hintO2 := hintO2.below hCO6; (try replace gO2 := gO2.below hCO6); replace hintO3 := hintO3.below hCO6; (try replace gO3 := gO3.below hCO6); replace hintO4 := hintO4.below hCO6; (try replace gO4 := gO4.below hCO6); replace hintO5 := hintO5.below hCO6; (try replace gO5 := gO5.below hCO6); have hlO6 := hBO6.size; (try have mO1 := gO1.lt); (try have eO1 := Nat.ne_of_lt mO1); (try have eO1' := Nat.ne_of_gt mO1); (try obtain ⟨zO10, zO11, zO12, zO13, zO14, zO15⟩ := gO1); (try have mO2 := gO2.lt); (try have eO2 := Nat.ne_of_lt mO2); (try have eO2' := Nat.ne_of_gt mO2); (try obtain ⟨zO20, zO21, zO22, zO23, zO24, zO25⟩ := gO2); (try have mO3 := gO3.lt); (try have eO3 := Nat.ne_of_lt mO3); (try have eO3' := Nat.ne_of_gt mO3); (try obtain ⟨zO30, zO31, zO32, zO33, zO34, zO35⟩ := gO3); (try have mO4 := gO4.lt); (try have eO4 := Nat.ne_of_lt mO4); (try have eO4' := Nat.ne_of_gt mO4); (try obtain ⟨zO40, zO41, zO42, zO43, zO44, zO45⟩ := gO4); (try have mO5 := gO5.lt); (try have eO5 := Nat.ne_of_lt mO5); (try have eO5' := Nat.ne_of_gt mO5); (try obtain ⟨zO50, zO51, zO52, zO53, zO54, zO55⟩ := gO5); (try have mO6 := gO6.lt); (try have eO6 := Nat.ne_of_lt mO6); (try have eO6' := Nat.ne_of_gt mO6); (try obtain ⟨zO60, zO61, zO62, zO63, zO64, zO65⟩ := gO6))
        | (go_at_call 131; have hq := hBO4; refine (wideExp_iv _ vO4 500 b t NE (gaY n d b oY) l (SpAt.fits (K := 500) (show SpAt _ vO4 541 (gaY n d b oY).1 (gaY n d b oY).2 from (hintO4.below (by first | with_reducible exact Below.refl _ _ | with_reducible exact bl1 _ _))) (unhide HYF).1 (unhide HYF).2.1 (unhide HYF).2.2) (unhide HVBO4) (unhide HYF).1 (by omega) (by omega) (unhide HE5) (unhide HE6) ht (unhide HE7) (unhide HE8) (unhide HQE) (by omega)).mono ?_; rintro r wO5 ⟨vO5, rfl, hvbO5, hintO5, hbO5⟩; have HVBO5 := hide hvbO5; clear hvbO5; have hCO5 : Below wO4.heap.size wO4 wO5 := (by first | with_reducible exact hbO5 | with_reducible exact bthen (bl1 _ _) hbO5); have hBO5 := bthen hBO4 hCO5; (try with_reducible have gO5 := (noc_new wO4 28).below hbO5); replace hintO1 := hintO1.below hCO5; (try replace gO1 := gO1.below hCO5); replace hintO2 := hintO2.below hCO5; (try replace gO2 := gO2.below hCO5); replace hintO3 := hintO3.below hCO5; (try replace gO3 := gO3.below hCO5); replace hintO4 := hintO4.below hCO5; (try replace gO4 := gO4.below hCO5); have hlO5 := hBO5.size)
        | (go_at_call 79; have hq := hBO3; refine (sub_iv _ vO3 xY 540 b (ofI (b : Int) 1 b) (scaleI oY n d) ((hintO3.below (by first | with_reducible exact Below.refl _ _ | with_reducible exact bl1 _ _)).mono (by omega)) (((unhide HYP).below (by first | with_reducible exact hBO3 | with_reducible exact balloc hBO3 _)).mono (by omega)) (by omega) (unhide HVBO3)).mono ?_; rintro r wO4 ⟨vO4, rfl, hvbO4, hintO4, hbO4⟩; have HVBO4 := hide hvbO4; clear hvbO4; have hCO4 : Below wO3.heap.size wO3 wO4 := (by first | with_reducible exact hbO4 | with_reducible exact bthen (bl1 _ _) hbO4); have hBO4 := bthen hBO3 hCO4; (try with_reducible have gO4 := (noc_new wO3 28).below hbO4); replace hintO1 := hintO1.below hCO4; (try replace gO1 := gO1.below hCO4); replace hintO2 := hintO2.below hCO4; (try replace gO2 := gO2.below hCO4); replace hintO3 := hintO3.below hCO4; (try replace gO3 := gO3.below hCO4); have hlO4 := hBO4.size)
        | (go_at_call 66; have hq := hBO2; refine (wideOf_any _ _ _ _ _ _ _ _ 4 4 b (b : Int) 1 _ (hintO1.below (by first | with_reducible exact Below.refl _ _ | with_reducible exact bl1 _ _)) (hintO2.below (by first | with_reducible exact Below.refl _ _ | with_reducible exact bl1 _ _)) (by omega) (by omega) (by omega)).mono ?_; rintro r wO3 ⟨vO3, rfl, hvbO3, hintO3, hbO3⟩; have HVBO3 := hide hvbO3; clear hvbO3; have hCO3 : Below wO2.heap.size wO2 wO3 := (by first | with_reducible exact hbO3 | with_reducible exact bthen (bl1 _ _) hbO3); have hBO3 := bthen hBO2 hCO3; (try with_reducible have gO3 := (noc_new wO2 28).below hbO3); replace hintO1 := hintO1.below hCO3; (try replace gO1 := gO1.below hCO3); replace hintO2 := hintO2.below hCO3; (try replace gO2 := gO2.below hCO3); have hlO3 := hBO3.size)
        | (go_at_call 48; have hq := hBO1; refine (numOf_int 1 _ (by omega) (by omega)).mono ?_; rintro r wO2 ⟨negO2, aO2, nO2, cO2, rfl, hintO2, hbO2⟩; have hCO2 : Below wO1.heap.size wO1 wO2 := (by first | with_reducible exact hbO2 | with_reducible exact bthen (bl1 _ _) hbO2); have hBO2 := bthen hBO1 hCO2; (try with_reducible have gO2 := (noc_new wO1 28).below hbO2); replace hintO1 := hintO1.below hCO2; (try replace gO1 := gO1.below hCO2); have hlO2 := hBO2.size)
        | (go_at_call 48; refine (numOf_int (b : Int) _ (by omega) (by omega)).mono ?_; rintro r wO1 ⟨negO1, aO1, nO1, cO1, rfl, hintO1, hbO1⟩; have hBO1 : Below V2.heap.size V2 wO1 := (by first | with_reducible exact bthen (Below.refl _ _).drew hbO1 | with_reducible exact bthen (bl1 _ _).drew hbO1); (try with_reducible have gO1 := ((noc_new V2 28).below (Below.refl _ _).drew).below hbO1); have hlO1 := hBO1.size))
    all_goals
      have hfinO : SpAt wO6 vO6 1600 (((dvLo (gaSer n d b NS).1 (gaSer n d b NS).2 (gaE n d b oY t NE).1 (gaE n d b oY t NE).2 b, dvHi (gaSer n d b NS).1 (gaSer n d b NS).2 (gaE n d b oY t NE).1 (gaE n d b oY t NE).2 b) : Int × Int)).1 (((dvLo (gaSer n d b NS).1 (gaSer n d b NS).2 (gaE n d b oY t NE).1 (gaE n d b oY t NE).2 b, dvHi (gaSer n d b NS).1 (gaSer n d b NS).2 (gaE n d b oY t NE).1 (gaE n d b oY t NE).2 b) : Int × Int)).2 := hintO6.mono (by omega)
      go_wp2_with fail
      go_meet
      refine ⟨_, vO6, rfl, ?_, ⟨⟨?_, ?_, ?_, ?_, ?_⟩, ?_⟩, ?_, unhide HVBO6, ?_⟩
      · first | exact Nat.le_refl _ | exact hlO1 | exact hlO2 | exact hlO3 | exact hlO4 | exact hlO5 | exact hlO6
      · simp [go_sem, *]
      · simp [go_sem, *]
      · simp [go_sem, *]
      · simp [go_sem, *]
      · simp [go_sem, *]
      · intro o; simp [go_sem, *]
      · first | with_reducible exact SpAt.put5 hfinO zO60 zO61 zO62 zO63 zO64 _ _ _ _ _ | with_reducible exact SpAt.put5 hfinO zO50 zO51 zO52 zO53 zO54 _ _ _ _ _ | with_reducible exact SpAt.put5 hfinO zO40 zO41 zO42 zO43 zO44 _ _ _ _ _ | with_reducible exact SpAt.put5 hfinO zO30 zO31 zO32 zO33 zO34 _ _ _ _ _ | with_reducible exact SpAt.put5 hfinO zO20 zO21 zO22 zO23 zO24 _ _ _ _ _ | with_reducible exact SpAt.put5 hfinO zO10 zO11 zO12 zO13 zO14 _ _ _ _ _ | with_reducible exact hfinO.below (bl1 _ _)
      · repeat' (first | with_reducible exact hBO6 | with_reducible exact hBO5 | with_reducible exact hBO4 | with_reducible exact hBO3 | with_reducible exact hBO2 | with_reducible exact hBO1 | with_reducible exact Below.refl _ _ | with_reducible refine Below.drew ?_ | with_reducible refine balloc ?_ _ | with_reducible refine Below.setCell ?_ (by first | exact Nat.le_refl _ | exact hlO1 | exact hlO2 | exact hlO3 | exact hlO4 | exact hlO5 | exact hlO6) _)
  case rest =>
  obtain ⟨BO, xO, rfl, hHO, XO, hpO, hxbO, hblO⟩ := hcut
  obtain ⟨V3, hV3⟩ : ∃ V, V = wc := ⟨_, rfl⟩
  subst hV3
  have lO := XO.lt
  replace R := R.below hblO
  replace hBW := bthen hBW hblO
  have HOB := hide hxbO
  have HOP := hide hpO
  have HXO := hide XO
  clear hxbO hpO HK X0 N0 D0 XS2 XY
  have lR2 := R.lt
  have nRO : w.heap.size + 1 + 1 < BO := by omega
  have HKO := hide (show ∀ w', Below V3.heap.size V3 w' → (w'.cell? ⟨BO, 2, none⟩ = some (.bool xO.hn) ∧ w'.cell? ⟨BO, 3, none⟩ = some (.slice xO.ha xO.hN xO.hc)) from fun w' hB => ⟨(XO.c.below hB).c2, (XO.c.below hB).c3⟩)
  have hD0 : Below V3.heap.size V3 V3.drew := (Below.refl _ _).drew
  clear XO
  go_wp2_with fail
  refine AnyL.start (S := fun w' => w'.cell? ⟨BO, 2, none⟩ = some (.bool xO.hn) ∧ w'.cell? ⟨BO, 3, none⟩ = some (.slice xO.ha xO.hN xO.hc)) (l := 5) (by kernel_rfl) (unhide HKO _ hD0) (fun hHeld => ?_)
  refine AnyL.take (i := 0) (oi := { dst := some 42, op := Go.Op.fieldAddr 28 (Go.Operand.tmp 10) 1, type := 0, pos := "gamma.go:50", after := #[], guard := none }) (v := .pointer (some ⟨BO, 2, none⟩)) rfl (by kernel_rfl) (by kernel_rfl) (by kernel_rfl) (by kernel_rfl) (fun _ _ _ h => h) (Or.inl ⟨by rfl, fun w hSw => ?_⟩) hHeld ?_
  · obtain ⟨s0, s1⟩ := hSw; go_simp
  try simp only [Act.put, List.setIfInBounds_toArray, List.set_cons_zero, List.set_cons_succ]
  refine AnyL.take (i := 1) (oi := { dst := some 43, op := Go.Op.load 26 (Go.Operand.tmp 42), type := 26, pos := "gamma.go:50", after := #[{ on := 0, ground := Go.Ground.data }], guard := none }) (v := .agg #[.bool xO.hn, .slice xO.ha xO.hN xO.hc]) rfl (by kernel_rfl) (by kernel_rfl) (by kernel_rfl) (by kernel_rfl) (fun _ _ _ h => h) (Or.inl ⟨by rfl, fun w hSw => ?_⟩) hHeld ?_
  · obtain ⟨s0, s1⟩ := hSw; go_simp
  try simp only [Act.put, List.setIfInBounds_toArray, List.set_cons_zero, List.set_cons_succ]
  refine AnyL.one (i := 2) (o := { dst := some 44, op := Go.Op.call { callee := Go.Callee.value (Go.Operand.func 48), args := #[Go.Operand.const (Go.Value.int Go.IntKind.i64 1)], argTypes := #[3] }, type := 26, pos := "gamma.go:50", after := #[], guard := none }) (by kernel_rfl) rfl (fun Kc hKc => ?_)
  go_simp
  refine (numOf_int 1 _ (by omega) (by omega)).mono ?_
  rintro r' w1 ⟨neg1, a1, n1, c1, rfl, hint1, hb1⟩
  have hD1 := bthen hD0 hb1
  clear hb1
  go_wp2_with fail
  refine hKc.out _ _ (unhide HKO _ hD1) (fun hHeld => ?_)
  clear hKc Kc
  try simp only [Act.put, List.setIfInBounds_toArray, List.set_cons_zero, List.set_cons_succ]
  refine AnyL.one (i := 3) (o := { dst := some 45, op := Go.Op.call { callee := Go.Callee.value (Go.Operand.func 86), args := #[Go.Operand.tmp 43, Go.Operand.tmp 44], argTypes := #[26, 26] }, type := 26, pos := "gamma.go:50", after := #[{ on := 1, ground := Go.Ground.data }, { on := 2, ground := Go.Ground.data }, { on := 2, ground := Go.Ground.chain }], guard := none }) (by kernel_rfl) rfl (fun Kc hKc => ?_)
  go_simp
  refine (add_int _ _ _ _ _ _ _ _ 1600 4 _ 1 _ ((unhide HOP).hi.below hD1) hint1 (by omega) (by omega)).mono ?_
  rintro r' w2 ⟨neg2, a2, n2, c2, rfl, hint2, hb2⟩
  have hD2 := bthen hD1 hb2
  clear hb2 hint1
  go_wp2_with fail
  refine hKc.out _ _ (unhide HKO _ hD2) (fun hHeld => ?_)
  clear hKc Kc
  try simp only [Act.put, List.setIfInBounds_toArray, List.set_cons_zero, List.set_cons_succ]
  refine AnyL.take (i := 4) (oi := { dst := some 46, op := Go.Op.fieldAddr 28 (Go.Operand.tmp 10) 1, type := 0, pos := "gamma.go:50", after := #[{ on := 0, ground := Go.Ground.phase }, { on := 1, ground := Go.Ground.phase }, { on := 2, ground := Go.Ground.phase }, { on := 3, ground := Go.Ground.phase }], guard := none }) (v := .pointer (some ⟨BO, 2, none⟩)) rfl (by kernel_rfl) (by kernel_rfl) (by kernel_rfl) (by kernel_rfl) (fun _ _ _ h => h) (Or.inl ⟨by rfl, fun w hSw => ?_⟩) hHeld ?_
  · obtain ⟨s0, s1⟩ := hSw; go_simp
  try simp only [Act.put, List.setIfInBounds_toArray, List.set_cons_zero, List.set_cons_succ]
  refine AnyL.last (o := { dst := none, op := Go.Op.store 26 (Go.Operand.tmp 46) (Go.Operand.tmp 45), type := 0, pos := "gamma.go:50", after := #[{ on := 4, ground := Go.Ground.data }, { on := 3, ground := Go.Ground.data }, { on := 3, ground := Go.Ground.chain }, { on := 0, ground := Go.Ground.phase }, { on := 1, ground := Go.Ground.phase }, { on := 2, ground := Go.Ground.phase }, { on := 3, ground := Go.Ground.phase }], guard := none }) (by kernel_rfl) rfl (by kernel_rfl) (fun Kc hKc => ?_)
  have V2 := (unhide HXO).below hD2
  have lA := V2.lt
  obtain ⟨⟨y0, y1, y2, y3, y4⟩, y5⟩ := V2
  go_simp
  refine hKc.out _ _ ?_
  clear hKc Kc
  have R2 := R.below hD2
  obtain ⟨V, hV⟩ : ∃ V, V = ((w2.setCell ⟨BO, 2, none⟩ (.bool neg2)).setCell ⟨BO, 3, none⟩ (.slice a2 n2 c2)) := ⟨_, rfl⟩
  have R3 : NoC V (w.heap.size + 1 + 1) := by rw [hV]; exact R2.offH (by omega) _ _
  have A3 : VrC V BO ⟨xO.ln, xO.la, xO.lN, xO.lc, neg2, a2, n2, c2, xO.bits⟩ := by rw [hV]; exact sp_putHi ((unhide HXO).below hD2) ⟨neg2, a2, n2, c2⟩
  have i1 : IntAt V xO.ln xO.la xO.lN xO.lc 1600 (gaG n d b oY t NE NS).1 := by rw [hV]; exact ((unhide HOP).lo.below hD2).putH y2 y3 _ _
  have i2 : IntAt V neg2 a2 n2 c2 1601 (gaG n d b oY t NE NS).2 := by rw [hV]; exact (show IntAt w2 neg2 a2 n2 c2 1601 (gaG n d b oY t NE NS).2 from hint2).putH y2 y3 _ _
  have hB3 : Below w.heap.size w V := by rw [hV]; exact ((bthen hBW hD2).setCell (p := ⟨BO, 2, none⟩) (by show w.heap.size ≤ BO; omega) _).setCell (p := ⟨BO, 3, none⟩) (by show w.heap.size ≤ BO; omega) _
  rw [← hV]
  clear hV y0 y1 y2 y3 y4 y5 lA
  have gv := unhide HGV
  have fit := SpAt.fits (K := 70) (show SpAt V ⟨xO.ln, xO.la, xO.lN, xO.lc, neg2, a2, n2, c2, xO.bits⟩ 1601 (gaG n d b oY t NE NS).1 (gaG n d b oY t NE NS).2 from ⟨i1.mono (by omega), i2⟩) gv.le (by
    have := gv.lo
    have := Q_pos b
    have : 0 < P 70 := P_pos 70
    omega) (by
    have h1 := Q_mono (show b + 43 + 1 ≤ 16 * 70 by omega)
    rw [Q_P] at h1
    have h2 : Q (b + 43 + 1) = 2 * Q (b + 43) := rfl
    have := Q_pos (b + 43)
    have := gv.hi
    omega)
  clear gv i1 i2
  have lA := A3.lt
  have lR3 := R3.lt
  obtain ⟨⟨y0, y1, y2, y3, y4⟩, y5⟩ := A3
  obtain ⟨q0, q1, q2, q3, q4, q5⟩ := R3
  go_wp2_with fail
  refine bodyPost_ret (v := .agg #[.bool xO.ln, .slice xO.la xO.lN xO.lc, .bool neg2, .slice a2 n2 c2, .int .i64 xO.bits]) (by simp [results, Try.results100, go_sem, q0, q1, q2, q3, q4]) rfl ⟨_, _, unhide HGV, ⟨xO.ln, xO.la, xO.lN, xO.lc, neg2, a2, n2, c2, xO.bits⟩, rfl, unhide HOB, ?_, ?_⟩
  · exact SpAt.put5 fit q0 q1 q2 q3 q4 _ _ _ _ _
  · exact set5 hB3 (by omega) _ _ _ _ _
end Go.Proofs.Ytgmnknmjainabab
namespace Go.Proofs.Ytgmnknmjainabab
open Go.RowKit
attribute [local go_sem ↓] Go.wp_at_zero Go.wp_at_succ
open Ex
theorem fieldG0 (x y : Bool) (a a' : Option Addr) (n c n' c' : Nat) (b : Int) (w : World) : (Instr.field 28 (.agg #[.bool x, .slice a n c, .bool y, .slice a' n' c', .int .i64 b]) 0).run Try.prog w = .ok (.agg #[.bool x, .slice a n c]) w := by kernel_rfl
theorem fieldG1 (x y : Bool) (a a' : Option Addr) (n c n' c' : Nat) (b : Int) (w : World) : (Instr.field 28 (.agg #[.bool x, .slice a n c, .bool y, .slice a' n' c', .int .i64 b]) 1).run Try.prog w = .ok (.agg #[.bool y, .slice a' n' c']) w := by kernel_rfl
set_option maxRecDepth 100000 in
set_option maxHeartbeats 4000000 in
theorem logSpan_iv (w : World) (s : Sp) (b : Nat) (a : Int × Int) (hs : SpAt w s 70 a.1 a.2) (hbits : s.bits = (b : Int)) (hb16 : 40 ≤ b) (hb : b ≤ 1000) (ha : 0 < a.1) (hal : a.1 ≤ a.2) :
    Calls Try.prog 151 #[.agg #[.bool s.ln, .slice s.la s.lN s.lc, .bool s.hn, .slice s.ha s.hN s.hc, .int .i64 s.bits]] w (fun r w' => ∃ (p1 p2 r1 r2 : Int) (l1 l2 : Nat → Rat), LsIn a b (p1, p2) (r1, r2) l1 l2 ∧ LbOk b (p1, p2) ∧ LbOk b (r1, r2) ∧ SpanAns w b 520 p1 r2 r w') := by
  obtain ⟨W, hW⟩ : ∃ W, W = (w.alloc (.cells #[.bool s.ln, .slice s.la s.lN s.lc, .bool s.hn, .slice s.ha s.hN s.hc, .int .i64 s.bits] 28)).alloc (.cells #[.bool false, .slice none 0 0, .bool false, .slice none 0 0, .int .i64 0] 28) := ⟨_, rfl⟩
  have hBW : Below w.heap.size w W := by rw [hW]; exact bl2 _ _ _
  have A : SpC W w.heap.size s := by rw [hW]; exact ⟨by simp [go_sem], by simp [go_sem], by simp [go_sem], by simp [go_sem], by simp [go_sem]⟩
  have R : NoC W (w.heap.size + 1) := by rw [hW]; exact ⟨by simp [go_sem], by simp [go_sem], by simp [go_sem], by simp [go_sem], by simp [go_sem], fun o => by simp [go_sem]⟩
  have HS := hide (hs.below hBW)
  have HB := hide hbits
  have lR := R.lt
  have lA := A.lt
  have HQ4 := hide (show Q (b + 4) < P 500 by
    rw [← Q_P]
    have h1 := Q_mono (show b + 4 + 1 ≤ 16 * 500 by omega)
    have h2 : Q (b + 4 + 1) = 2 * Q (b + 4) := rfl
    have := Q_pos (b + 4)
    omega)
  have HQ1 := hide (show 0 < Q b by have := Q_pos b; omega)
  have HO := hide (show 1 * Q b = Q b by omega)
  have HA := hide (show 0 < a.1 ∧ 0 < a.2 ∧ a.1 ≤ a.2 from ⟨ha, by omega, hal⟩)
  have HK := hide (show ∀ w', Below W.heap.size W w' → (w'.cell? ⟨w.heap.size, 0, none⟩ = some (.bool s.ln) ∧ w'.cell? ⟨w.heap.size, 1, none⟩ = some (.slice s.la s.lN s.lc) ∧ w'.cell? ⟨w.heap.size, 2, none⟩ = some (.bool s.hn) ∧ w'.cell? ⟨w.heap.size, 3, none⟩ = some (.slice s.ha s.hN s.hc) ∧ w'.cell? ⟨w.heap.size, 4, none⟩ = some (.int .i64 s.bits)) from fun w' hB => ⟨(A.below hB).c0, (A.below hB).c1, (A.below hB).c2, (A.below hB).c3, (A.below hB).c4⟩)
  clear hs hbits ha hal
  have hf0 := fieldG0
  have hf1 := fieldG1
  go_enter Try.func151, Try.ntmps151
  go_wp2
  rw [← hW]
  clear hW lR
  go_cut [3] (fun p wx => ∃ (B : Nat) (u : Nm), p = .pointer (some ⟨B, 0, none⟩) ∧ W.heap.size ≤ B ∧ NmC wx B u ∧ IntAt wx u.neg u.a u.n u.cap 70 (Q b) ∧ Below W.heap.size W wx)
  case first =>
    have hD0 : Below W.heap.size W W.drew := (Below.refl _ _).drew
    go_region_held3 (fun w' => w'.cell? ⟨w.heap.size, 0, none⟩ = some (.bool s.ln) ∧ w'.cell? ⟨w.heap.size, 1, none⟩ = some (.slice s.la s.lN s.lc) ∧ w'.cell? ⟨w.heap.size, 2, none⟩ = some (.bool s.hn) ∧ w'.cell? ⟨w.heap.size, 3, none⟩ = some (.slice s.ha s.hN s.hc) ∧ w'.cell? ⟨w.heap.size, 4, none⟩ = some (.int .i64 s.bits)) (exact unhide HK _ (by repeat' (first | with_reducible exact hB2 | with_reducible exact hB1 | with_reducible exact Below.refl _ _ | with_reducible refine Below.drew ?_ | with_reducible refine balloc ?_ _ | with_reducible refine Below.setCell ?_ (by first | exact Nat.le_refl _ | exact hl1 | exact hl2) _)))
      (first
        | (go_at_call 113; have hq := hB1; refine (up_at _ _ _ _ _ b 4 1 _ (unhide HB) (hint1.below (by first | with_reducible exact Below.refl _ _ | with_reducible exact bl1 _ _)) (by omega) (by omega)).mono ?_; rintro r w2 ⟨neg2, a2, n2, c2, rfl, hint2, hb2⟩; have hC2 : Below w1.heap.size w1 w2 := (by first | with_reducible exact hb2 | with_reducible exact bthen (bl1 _ _) hb2); have hB2 := bthen hB1 hC2; (try with_reducible have g2 := (noi_new w1 26).below hb2); (try replace g1 := g1.below hC2); have hl2 := hB2.size; (try have m1 := g1.lt); (try have m2 := g2.lt); (try obtain ⟨z10, z11, z1f⟩ := g1); (try obtain ⟨z20, z21, z2f⟩ := g2))
        | (go_at_call 48; refine (numOf_int 1 _ (by omega) (by omega)).mono ?_; rintro r w1 ⟨neg1, a1, n1, c1, rfl, hint1, hb1⟩; have hB1 : Below W.heap.size W w1 := (by first | with_reducible exact bthen (Below.refl _ _).drew hb1 | with_reducible exact bthen (bl1 _ _).drew hb1); (try with_reducible have g1 := ((noi_new W 26).below (Below.refl _ _).drew).below hb1); have hl1 := hB1.size))
    all_goals
      have hfin : IntAt w2 neg2 a2 n2 c2 70 (Q b) := by rw [unhide HO] at hint2; exact hint2.mono (by omega)
      go_wp2_with fail
      go_meet
      refine ⟨_, ⟨neg2, a2, n2, c2⟩, rfl, ?_, ⟨?_, ?_⟩, ?_, ?_⟩
      · first | exact Nat.le_refl _ | exact hl1 | exact hl2
      · simp [go_sem, *]
      · simp [go_sem, *]
      · first | with_reducible exact hfin.put2 z20 z21 _ _ | with_reducible exact hfin.put2 z10 z11 _ _ | with_reducible exact hfin.below (bl1 _ _)
      · repeat' (first | with_reducible exact hB2 | with_reducible exact hB1 | with_reducible exact Below.refl _ _ | with_reducible refine Below.drew ?_ | with_reducible refine balloc ?_ _ | with_reducible refine Below.setCell ?_ (by first | exact Nat.le_refl _ | exact hl1 | exact hl2) _)
  case rest =>
  obtain ⟨BU, U, rfl, hHU, CU, hU, hblU⟩ := hcut
  have lR := R.lt
  have A2 := A.below hblU
  replace R := R.below hblU
  replace HS := hide ((unhide HS).below hblU)
  replace hBW := bthen hBW hblU
  have nRU : w.heap.size + 1 < BU := by omega
  have HU := hide hU
  have HK2 := hide (show ∀ w', Below wc.heap.size wc w' → (w'.cell? ⟨w.heap.size, 0, none⟩ = some (.bool s.ln) ∧ w'.cell? ⟨w.heap.size, 1, none⟩ = some (.slice s.la s.lN s.lc) ∧ w'.cell? ⟨w.heap.size, 2, none⟩ = some (.bool s.hn) ∧ w'.cell? ⟨w.heap.size, 3, none⟩ = some (.slice s.ha s.hN s.hc) ∧ w'.cell? ⟨w.heap.size, 4, none⟩ = some (.int .i64 s.bits) ∧ w'.cell? ⟨BU, 0, none⟩ = some (.bool U.neg) ∧ w'.cell? ⟨BU, 1, none⟩ = some (.slice U.a U.n U.cap)) from fun w' hB => ⟨(A2.below hB).c0, (A2.below hB).c1, (A2.below hB).c2, (A2.below hB).c3, (A2.below hB).c4, (CU.below hB).c0, (CU.below hB).c1⟩)
  have lU := CU.lt
  clear hU HK hblU A2 CU
  have n1 : w.heap.size + 1 ≠ w.heap.size := by omega
  have n2 : w.heap.size + 1 ≠ BU := by omega
  have hD0 : Below wc.heap.size wc wc.drew := (Below.refl _ _).drew
  obtain ⟨x0, x1, x2, x3, x4, y0, y1⟩ := unhide HK2 _ (Below.refl _ _)
  go_wp2_with fail
  go_region_held3 (fun w' => w'.cell? ⟨w.heap.size, 0, none⟩ = some (.bool s.ln) ∧ w'.cell? ⟨w.heap.size, 1, none⟩ = some (.slice s.la s.lN s.lc) ∧ w'.cell? ⟨w.heap.size, 2, none⟩ = some (.bool s.hn) ∧ w'.cell? ⟨w.heap.size, 3, none⟩ = some (.slice s.ha s.hN s.hc) ∧ w'.cell? ⟨w.heap.size, 4, none⟩ = some (.int .i64 s.bits) ∧ w'.cell? ⟨BU, 0, none⟩ = some (.bool U.neg) ∧ w'.cell? ⟨BU, 1, none⟩ = some (.slice U.a U.n U.cap)) (first | exact unhide HK2 _ (by first | with_reducible exact hD0 | with_reducible exact hD2 | with_reducible exact hD1) | go_keep)
    (first
      | (go_at_call 128; have hqq := hD1; (try rw [unhide HB]); refine (wideLog_iv _ ⟨s.hn, s.ha, s.hN, s.hc⟩ U 70 b 500 a.2 (Q b) ((unhide HS).hi.below hD1) ((unhide HU).below hD1) (by omega) (unhide HA).2.1 (unhide HQ1) (by omega) (by omega) (unhide HQ4) (by omega)).mono ?_; rintro r' w2 ⟨n2', d2', cc2, N21, N22, hbal2, hc21, hc22, hN21, hN22, v2, rfl, hvb2, hint2, hb2⟩; have hD2 := bthen hD1 hb2; clear hvb2; replace hint1 := hint1.below hb2; have HX2 := hide (And.intro hbal2 (And.intro hc21 (And.intro hc22 (And.intro hN21 hN22)))); clear hbal2 hc21 hc22 hN21 hN22; obtain ⟨q0, q1, q2, q3, q4, q5⟩ := R.below hD2; obtain ⟨i0, i1, i2, i3, i4, j0, j1⟩ := unhide HK2 _ hD2)
      | (go_at_call 128; (try rw [unhide HB]); refine (wideLog_iv _ ⟨s.ln, s.la, s.lN, s.lc⟩ U 70 b 500 a.1 (Q b) ((unhide HS).lo.below hD0) ((unhide HU).below hD0) (by omega) (unhide HA).1 (unhide HQ1) (by omega) (by omega) (unhide HQ4) (by omega)).mono ?_; rintro r' w1 ⟨n1', d1', cc1, N11, N12, hbal1, hc11, hc12, hN11, hN12, v1, rfl, hvb1, hint1, hb1⟩; have hD1 := bthen hD0 hb1; clear hvb1; have HX1 := hide (And.intro hbal1 (And.intro hc11 (And.intro hc12 (And.intro hN11 hN12)))); clear hbal1 hc11 hc12 hN11 hN12))
  all_goals
    go_wp2_with fail
    have hbb := unhide HB
    obtain ⟨bal1, c11, c12, s11, s12⟩ := unhide HX1
    obtain ⟨bal2, c21, c22, s21, s22⟩ := unhide HX2
    obtain ⟨l1, g1, i1⟩ := log_has (unhide HA).1 (unhide HQ1) bal1 b N11 N12
    obtain ⟨l2, g2, i2⟩ := log_has (unhide HA).2.1 (unhide HQ1) bal2 b N21 N22
    refine bodyPost_ret (v := .agg #[.bool v1.ln, .slice v1.la v1.lN v1.lc, .bool v2.hn, .slice v2.ha v2.hN v2.hc, .int .i64 (b : Int)]) (by simp [results, Try.results151, go_sem, q0, q1, q2, q3, q4]) rfl ⟨_, _, _, _, l1, l2, ⟨(unhide HA).1, (unhide HA).2.2, g1, g2, i1, i2⟩, lb_of (by omega) hb bal1.1 s11 s12 70 (by omega) c11 c12, lb_of (by omega) hb bal2.1 s21 s22 70 (by omega) c21 c22, ⟨v1.ln, v1.la, v1.lN, v1.lc, v2.hn, v2.ha, v2.hN, v2.hc, (b : Int)⟩, rfl, rfl, ?_, ?_⟩
    · exact SpAt.put5 (show SpAt _ (⟨v1.ln, v1.la, v1.lN, v1.lc, v2.hn, v2.ha, v2.hN, v2.hc, (b : Int)⟩ : Sp) 520 _ _ from ⟨hint1.lo, hint2.hi⟩) q0 q1 q2 q3 q4 _ _ _ _ _
    · exact set5 (bthen hBW hD2) (Nat.le_succ _) _ _ _ _ _
end Go.Proofs.Ytgmnknmjainabab
namespace Go.Proofs.Ytgmnknmjainabab
open Go.RowKit
attribute [local go_sem ↓] Go.wp_at_zero Go.wp_at_succ
open Ex
theorem GaV.pos {g : Nat → Rat} {B : Nat} {a : Int × Int} (h : GaV g B a) : 0 < a.1 := by have := h.lo; have := Q_pos B; omega
end Go.Proofs.Ytgmnknmjainabab
