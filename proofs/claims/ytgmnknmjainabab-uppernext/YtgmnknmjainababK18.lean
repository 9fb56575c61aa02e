/-
  Texts Lwa, Lwc: what they hold is told in the last text.
-/
import Derived.Test.YtgmnknmjainababK17
set_option linter.unnecessarySimpa false
set_option linter.unusedSimpArgs false
set_option linter.unusedVariables false
namespace Go.Proofs.Ytgmnknmjainabab
open Go.RowKit
attribute [local go_sem ↓] Go.wp_at_zero Go.wp_at_succ
open Ex
set_option maxRecDepth 100000 in
set_option maxHeartbeats 2000000 in
theorem fromHere_int (w : World) (p q : Int) (b : Nat) (hp : 0 < p) (hq : 0 < q) (hp2 : p ≤ 1152921504606846976) (hb : b ≤ 1000000) :
    Calls Try.prog 152 #[.agg #[.int .i64 p, .int .i64 q], .int .i64 b] w (fun r w' => r = .returned (.int .i64 (2 * ((b : Int) + p / q + 1))) ∧ Below w.heap.size w w') := by
  obtain ⟨W, hW⟩ : ∃ W, W = w.alloc (.cells #[.int .i64 p, .int .i64 q] 23) := ⟨_, rfl⟩
  have hBW : Below w.heap.size w W := by rw [hW]; exact bl1 _ _
  have A : RaC W w.heap.size p q := by rw [hW]; exact rac_new w p q _
  have e : p.tdiv q = p / q := Int.tdiv_eq_ediv_of_nonneg (by omega)
  obtain ⟨f, hf⟩ : ∃ f, f = p / q := ⟨_, rfl⟩
  have f0 : 0 ≤ f := by rw [hf]; exact Int.ediv_nonneg (by omega) (by omega)
  have f1 : f ≤ p := by rw [hf]; exact Int.ediv_le_self _ (by omega)
  have e' : p.tdiv q = f := by rw [e, hf]
  rw [← hf]
  have hq1 : ¬ q = 0 := by omega
  have hq2 : ¬ q = -1 := by omega
  have lA := A.lt
  obtain ⟨a0, a1⟩ := A
  clear e hf
  go_enter Try.func152, Try.ntmps152
  go_wp2
  rw [← hW]
  clear hW
  go_wp2_with fail
  refine bodyPost_ret (v := .int .i64 (2 * ((b : Int) + f + 1))) (by simp [results, Try.results152, go_sem]) rfl ⟨rfl, hBW⟩
set_option maxRecDepth 100000 in
set_option maxHeartbeats 2000000 in
theorem timesRatio_iv (w : World) (s : Sp) (k b : Nat) (a : Int × Int) (p q : Int) (hs : SpAt w s k a.1 a.2) (hk : k ≤ 100000000) (hb : s.bits = (b : Int)) (hp0 : -9223372036854775808 ≤ p) (hp : p ≤ 9223372036854775807) (hq : 0 < q) (hq2 : q ≤ 9223372036854775807) :
    Calls Try.prog 127 #[.agg #[.bool s.ln, .slice s.la s.lN s.lc, .bool s.hn, .slice s.ha s.hN s.hc, .int .i64 s.bits], .agg #[.int .i64 p, .int .i64 q]] w (SpanAns w b (k + 4 + 10) (scaleI a p q).1 (scaleI a p q).2) := by
  obtain ⟨W, hW⟩ : ∃ W, W = ((w.alloc (.cells #[.bool s.ln, .slice s.la s.lN s.lc, .bool s.hn, .slice s.ha s.hN s.hc, .int .i64 s.bits] 28)).alloc (.cells #[.int .i64 p, .int .i64 q] 23)).alloc (.cells #[.bool false, .slice none 0 0, .bool false, .slice none 0 0, .int .i64 0] 28) := ⟨_, rfl⟩
  have hBW : Below w.heap.size w W := by rw [hW]; exact bl3 _ _ _ _
  have A : SpC W w.heap.size s := by rw [hW]; exact ⟨by simp [go_sem], by simp [go_sem], by simp [go_sem], by simp [go_sem], by simp [go_sem]⟩
  have D : RaC W (w.heap.size + 1) p q := by rw [hW]; exact ⟨by simp [go_sem], by simp [go_sem]⟩
  have R : NoC W (w.heap.size + 1 + 1) := by rw [hW]; exact ⟨by simp [go_sem], by simp [go_sem], by simp [go_sem], by simp [go_sem], by simp [go_sem], fun o => by simp [go_sem]⟩
  have HS := hide (hs.below hBW)
  have HB := hide hb
  have lR := R.lt
  have lA := A.lt
  have lD := D.lt
  clear hs hb
  have hB0 : Below W.heap.size W W.drew := (Below.refl _ _).drew
  have HK := hide (show ∀ w', Below W.heap.size W w' → (w'.cell? ⟨w.heap.size, 0, none⟩ = some (.bool s.ln) ∧ w'.cell? ⟨w.heap.size, 1, none⟩ = some (.slice s.la s.lN s.lc) ∧ w'.cell? ⟨w.heap.size, 2, none⟩ = some (.bool s.hn) ∧ w'.cell? ⟨w.heap.size, 3, none⟩ = some (.slice s.ha s.hN s.hc) ∧ w'.cell? ⟨w.heap.size, 4, none⟩ = some (.int .i64 s.bits) ∧ w'.cell? ⟨w.heap.size + 1, 0, none⟩ = some (.int .i64 p) ∧ w'.cell? ⟨w.heap.size + 1, 1, none⟩ = some (.int .i64 q)) from fun w' hB => ⟨(A.below hB).c0, (A.below hB).c1, (A.below hB).c2, (A.below hB).c3, (A.below hB).c4, (D.below hB).c0, (D.below hB).c1⟩)
  clear A D
  go_enter Try.func127, Try.ntmps127
  go_wp2
  rw [← hW]
  clear hW
  have n1 : w.heap.size + 1 + 1 ≠ w.heap.size := by omega
  have n2 : w.heap.size + 1 + 1 ≠ w.heap.size + 1 := by omega
  obtain ⟨x0, x1, x2, x3, x4, x5, x6⟩ := unhide HK _ (Below.refl _ _)
  go_region_held3 (fun w' => w'.cell? ⟨w.heap.size, 0, none⟩ = some (.bool s.ln) ∧ w'.cell? ⟨w.heap.size, 1, none⟩ = some (.slice s.la s.lN s.lc) ∧ w'.cell? ⟨w.heap.size, 2, none⟩ = some (.bool s.hn) ∧ w'.cell? ⟨w.heap.size, 3, none⟩ = some (.slice s.ha s.hN s.hc) ∧ w'.cell? ⟨w.heap.size, 4, none⟩ = some (.int .i64 s.bits) ∧ w'.cell? ⟨w.heap.size + 1, 0, none⟩ = some (.int .i64 p) ∧ w'.cell? ⟨w.heap.size + 1, 1, none⟩ = some (.int .i64 q)) (first | exact unhide HK _ (by first | with_reducible exact hB0 | with_reducible exact hB3 | with_reducible exact hB2 | with_reducible exact hB1) | go_keep)
    (first
      | (go_at_call 99; have hqq := hB2; refine (scale_iv _ s ⟨neg1, a1, n1', c1⟩ ⟨neg2, a2, n2', c2⟩ k 4 _ b a p q ((unhide HS).below hB2) (hint1.below hb2) hint2 (by omega) (by omega) hq (unhide HB)).mono ?_; rintro r w3 ⟨t, rfl, htb, htp, hb3⟩; have HT := hide htb; clear htb; have hB3 := bthen hB2 hb3; obtain ⟨q0, q1, q2, q3, q4, q5⟩ := R.below hB3; obtain ⟨i0, i1, i2, i3, i4, i5, i6⟩ := unhide HK _ hB3)
      | (go_at_call 48; have hqq := hB1; refine (numOf_int q _ (by omega) (by omega)).mono ?_; rintro r w2 ⟨neg2, a2, n2', c2, rfl, hint2, hb2⟩; have hB2 := bthen hB1 hb2)
      | (go_at_call 48; refine (numOf_int p _ (by omega) (by omega)).mono ?_; rintro r w1 ⟨neg1, a1, n1', c1, rfl, hint1, hb1⟩; have hB1 := bthen hB0 hb1))
  all_goals
    go_wp2
    refine bodyPost_ret (v := .agg #[.bool t.ln, .slice t.la t.lN t.lc, .bool t.hn, .slice t.ha t.hN t.hc, .int .i64 t.bits]) (by simp [results, Try.results127, go_sem, q0, q1, q2, q3, q4]) rfl ⟨t, rfl, unhide HT, ?_, ?_⟩
    · exact SpAt.put5 htp q0 q1 q2 q3 q4 _ _ _ _ _
    · exact set5 (bthen hBW hB3) (by omega) _ _ _ _ _
set_option maxRecDepth 100000 in
set_option maxHeartbeats 2000000 in
theorem lo1_iv (w : World) (B0 B1 B2 : Nat) (s : Sp) (u y : Nm) (k ku ky b : Nat) (j : Int) (a : Int × Int) (un d p q : Int) (hs : SpAt w s k a.1 a.2) (hu : IntAt w u.neg u.a u.n u.cap ku un) (hy : IntAt w y.neg y.a y.n y.cap ky d) (U : NmC w B0 u) (Y : NmC w B1 y) (Z : RaC w B2 p q) (hk : k ≤ 100000000) (hku : ku ≤ 100000000) (hky : ky ≤ 100000000) (hb : s.bits = (b : Int)) (hj : 0 ≤ j * q) (hj2 : j * q ≤ 4611686018427387904) (hp : 0 < p) (hp2 : p ≤ 4611686018427387903) (hd : 0 < d) :
    Calls Try.prog 153 #[.agg #[.bool s.ln, .slice s.la s.lN s.lc, .bool s.hn, .slice s.ha s.hN s.hc, .int .i64 s.bits], .int .i64 j, .pointer (some ⟨B0, 0, none⟩), .pointer (some ⟨B1, 0, none⟩), .pointer (some ⟨B2, 0, none⟩)] w (SpanAns w b (k + ku + 10) (scaleI a un (d * (p + j * q))).1 (scaleI a un (d * (p + j * q))).2) := by
  obtain ⟨W, hW⟩ : ∃ W, W = (w.alloc (.cells #[.bool s.ln, .slice s.la s.lN s.lc, .bool s.hn, .slice s.ha s.hN s.hc, .int .i64 s.bits] 28)).alloc (.cells #[.bool false, .slice none 0 0, .bool false, .slice none 0 0, .int .i64 0] 28) := ⟨_, rfl⟩
  have hBW : Below w.heap.size w W := by rw [hW]; exact bl2 _ _ _
  have A : SpC W w.heap.size s := by rw [hW]; exact ⟨by simp [go_sem], by simp [go_sem], by simp [go_sem], by simp [go_sem], by simp [go_sem]⟩
  have R : NoC W (w.heap.size + 1) := by rw [hW]; exact ⟨by simp [go_sem], by simp [go_sem], by simp [go_sem], by simp [go_sem], by simp [go_sem], fun o => by simp [go_sem]⟩
  have HS := hide (hs.below hBW)
  have HU := hide (hu.below hBW)
  have HY := hide (hy.below hBW)
  have l0 := U.lt
  have l1 := Y.lt
  have l2 := Z.lt
  replace U := U.below hBW
  replace Y := Y.below hBW
  replace Z := Z.below hBW
  have HB := hide hb
  have lR := R.lt
  have lA := A.lt
  have HE2 := hide (show IntKind.i64.wrap (j * q) = j * q from i64_id _ (by omega) (by omega))
  have HE3 := hide (show IntKind.i64.wrap (p + j * q) = p + j * q from i64_id _ (by omega) (by omega))
  have HQ2 := hide (show -9223372036854775808 ≤ p + j * q ∧ p + j * q ≤ 9223372036854775807 from ⟨by omega, by omega⟩)
  have HQ3 := hide (show 0 < d * (p + j * q) from Int.mul_pos hd (by omega))
  clear hs hu hy hb hj hj2 hp hp2
  have hB0 : Below W.heap.size W W.drew := (Below.refl _ _).drew
  have HK := hide (show ∀ w', Below W.heap.size W w' → (w'.cell? ⟨w.heap.size, 0, none⟩ = some (.bool s.ln) ∧ w'.cell? ⟨w.heap.size, 1, none⟩ = some (.slice s.la s.lN s.lc) ∧ w'.cell? ⟨w.heap.size, 2, none⟩ = some (.bool s.hn) ∧ w'.cell? ⟨w.heap.size, 3, none⟩ = some (.slice s.ha s.hN s.hc) ∧ w'.cell? ⟨w.heap.size, 4, none⟩ = some (.int .i64 s.bits) ∧ w'.cell? ⟨B0, 0, none⟩ = some (.bool u.neg) ∧ w'.cell? ⟨B0, 1, none⟩ = some (.slice u.a u.n u.cap) ∧ w'.cell? ⟨B1, 0, none⟩ = some (.bool y.neg) ∧ w'.cell? ⟨B1, 1, none⟩ = some (.slice y.a y.n y.cap) ∧ w'.cell? ⟨B2, 0, none⟩ = some (.int .i64 p) ∧ w'.cell? ⟨B2, 1, none⟩ = some (.int .i64 q)) from fun w' hB => ⟨(A.below hB).c0, (A.below hB).c1, (A.below hB).c2, (A.below hB).c3, (A.below hB).c4, (U.below hB).c0, (U.below hB).c1, (Y.below hB).c0, (Y.below hB).c1, (Z.below hB).c0, (Z.below hB).c1⟩)
  clear U Y Z A
  go_enter Try.func153, Try.ntmps153
  go_wp2
  rw [← hW]
  clear hW
  have nB0 : w.heap.size + 1 ≠ B0 := by omega
  have nB1 : w.heap.size + 1 ≠ B1 := by omega
  have nB2 : w.heap.size + 1 ≠ B2 := by omega
  obtain ⟨x0, x1, x2, x3, x4, x5, x6, x7, x8, x9, x10⟩ := unhide HK _ (Below.refl _ _)
  go_region_held3 (fun w' => w'.cell? ⟨w.heap.size, 0, none⟩ = some (.bool s.ln) ∧ w'.cell? ⟨w.heap.size, 1, none⟩ = some (.slice s.la s.lN s.lc) ∧ w'.cell? ⟨w.heap.size, 2, none⟩ = some (.bool s.hn) ∧ w'.cell? ⟨w.heap.size, 3, none⟩ = some (.slice s.ha s.hN s.hc) ∧ w'.cell? ⟨w.heap.size, 4, none⟩ = some (.int .i64 s.bits) ∧ w'.cell? ⟨B0, 0, none⟩ = some (.bool u.neg) ∧ w'.cell? ⟨B0, 1, none⟩ = some (.slice u.a u.n u.cap) ∧ w'.cell? ⟨B1, 0, none⟩ = some (.bool y.neg) ∧ w'.cell? ⟨B1, 1, none⟩ = some (.slice y.a y.n y.cap) ∧ w'.cell? ⟨B2, 0, none⟩ = some (.int .i64 p) ∧ w'.cell? ⟨B2, 1, none⟩ = some (.int .i64 q)) (first | exact unhide HK _ (by first | with_reducible exact hB0 | with_reducible exact hB3 | with_reducible exact hB2 | with_reducible exact hB1) | go_keep)
    (first
      | (go_at_call 99; have hqq := hB2; refine (scale_iv _ s u ⟨neg2, a2, n2, c2⟩ k ku _ b a un (d * (p + j * q)) ((unhide HS).below hB2) ((unhide HU).below hB2) hint2 (by omega) (by omega) (unhide HQ3) (unhide HB)).mono ?_; rintro r w3 ⟨t, rfl, htb, htp, hb3⟩; have HT := hide htb; clear htb; have hB3 := bthen hB2 hb3; obtain ⟨q0, q1, q2, q3, q4, q5⟩ := R.below hB3; obtain ⟨i0, i1, i2, i3, i4, i5, i6, i7, i8, i9, i10⟩ := unhide HK _ hB3)
      | (go_at_call 84; have hqq := hB1; refine (mul_int _ _ _ _ _ _ _ _ ky 4 d (p + j * q) _ ((unhide HY).below hB1) hint1 (by omega) (by omega)).mono ?_; rintro r w2 ⟨neg2, a2, n2, c2, rfl, hint2, hb2⟩; have hB2 := bthen hB1 hb2)
      | (go_at_call 48; (first | rw [unhide HE2, unhide HE3] | rw [unhide HE3]); refine (numOf_int (p + j * q) _ (unhide HQ2).1 (unhide HQ2).2).mono ?_; rintro r w1 ⟨neg1, a1, n1, c1, rfl, hint1, hb1⟩; have hB1 := bthen hB0 hb1))
  all_goals
    go_wp2
    refine bodyPost_ret (v := .agg #[.bool t.ln, .slice t.la t.lN t.lc, .bool t.hn, .slice t.ha t.hN t.hc, .int .i64 t.bits]) (by simp [results, Try.results153, go_sem, q0, q1, q2, q3, q4]) rfl ⟨t, rfl, unhide HT, ?_, ?_⟩
    · exact SpAt.put5 htp q0 q1 q2 q3 q4 _ _ _ _ _
    · exact set5 (bthen hBW hB3) (Nat.le_succ _) _ _ _ _ _
set_option maxRecDepth 100000 in
set_option maxHeartbeats 4000000 in
theorem rise_lo (p1 p2 p3 : Value) (f : Nat → Int × Int) (turn N b K KF : Nat) (s : Sp) (W : World) (hs : SpAt W s K (f 0).1 (f 0).2) (hbits : s.bits = (b : Int)) (hb : b ≤ 1000000) (hK : K ≤ 100000000) (hK4 : 4 ≤ K) (hKF : KF ≤ 900000000) (hN : IsRise f turn N) (hNb : N ≤ 1000000000) (htn : turn ≤ 1000000000)
    (hle : ∀ n, (f n).1 ≤ (f n).2) (h0 : ∀ n, 0 ≤ (f n).1) (hfit : ∀ n, n ≤ N → -P K < (f n).1 ∧ (f n).2 < P K) (hfitS : ∀ n, n ≤ N → -P K < (sumI f n).1 ∧ (sumI f n).2 < P K)
    (hF : ∀ (n : Nat) (u : Sp) w', n < N → u.bits = (b : Int) → SpAt w' u K (f n).1 (f n).2 → Below W.heap.size W w' → Calls Try.prog 153 #[.agg #[.bool u.ln, .slice u.la u.lN u.lc, .bool u.hn, .slice u.ha u.hN u.hc, .int .i64 u.bits], .int .i64 ((n : Int) + 1), p1, p2, p3] w' (SpanAns w' b KF (f (n + 1)).1 (f (n + 1)).2)) :
    Calls Try.prog 125 #[.agg #[.bool s.ln, .slice s.la s.lN s.lc, .bool s.hn, .slice s.ha s.hN s.hc, .int .i64 s.bits], .int .i64 turn, .func (.func 153) #[] #[p1, p2, p3]] W (SpanAns W b (K + 3) (riseI f N).1 (riseI f N).2) := by
  have HF := hide hF
  have HN := hide hN
  have HBT := hide hbits
  have H0 := hide h0
  clear hF hN hbits h0
  obtain ⟨V, hV⟩ : ∃ V, V = (W.alloc (.cells #[.bool s.ln, .slice s.la s.lN s.lc, .bool s.hn, .slice s.ha s.hN s.hc, .int .i64 s.bits] 28)).alloc (.cells #[.bool false, .slice none 0 0, .bool false, .slice none 0 0, .int .i64 0] 28) := ⟨_, rfl⟩
  have hBV : Below W.heap.size W V := by rw [hV]; exact bl2 _ _ _
  have A : SpC V W.heap.size s := by rw [hV]; exact ⟨by simp [go_sem], by simp [go_sem], by simp [go_sem], by simp [go_sem], by simp [go_sem]⟩
  have R : NoC V (W.heap.size + 1) := by rw [hV]; exact ⟨by simp [go_sem], by simp [go_sem], by simp [go_sem], by simp [go_sem], by simp [go_sem], fun o => by simp [go_sem]⟩
  have HS := hide (hs.below hBV)
  have lA := A.lt
  have lR := R.lt
  clear hs
  go_enter Try.func125, Try.ntmps125
  go_wp2
  rw [← hV]
  clear hV
  go_cut [7, 8] (fun p q wx => TwoS V wx s s p q)
  case first =>
    obtain ⟨x0, x1, x2, x3, x4⟩ := A
    go_region
    all_goals
      go_wp2_with fail
      go_meet
      first
        | with_reducible exact twoS_a _ _ _ _
        | with_reducible exact twoS_b _ _ _ _
  case rest =>
  obtain ⟨B5, B6, rfl, rfl, l5, l6, hne, X, Y, hB⟩ := hcut
  have n5 : W.heap.size + 1 < B5 := by omega
  have n6 : W.heap.size + 1 < B6 := by omega
  have st0 : SumSt W wc B5 B6 b K s s s f 0 := ⟨X, Y, (unhide HS).below hB, (unhide HS).below hB, unhide HBT, unhide HBT, A.below hB, R.below hB, bthen hBV hB, n5, n6, hne⟩
  clear X Y hB A R HS l5 l6 n5 n6 hne hBV lA lR
  go_wp2_with fail
  go_loopw [9] (fun nn wr => ∃ (i : Nat) (X Y : Sp), nn = .int .i64 ((i : Int) + 1) ∧ i ≤ N ∧ SumSt W wr B5 B6 b K s X Y f i) (fun nn _ => N + 1 - (intOf nn).toNat)
  case atStart => exact ⟨0, s, s, rfl, Nat.zero_le _, st0⟩
  case round =>
    obtain ⟨i, X, Y, rfl, hi, st⟩ := hrel
    by_cases hit : i < turn
    · have hin : i < N := by have := (unhide HN).1; omega
      have hit' : ((i : Int) + 1 ≤ (turn : Int)) := by omega
      obtain ⟨⟨y0, y1, y2, y3, y4⟩, y5⟩ := st.y
      go_wp2_with fail
      refine (unhide HF i Y _ hin st.yb st.yp st.be).mono ?_
      rintro r w3 ⟨u, rfl, hub, hup, hb3⟩
      replace st := st.below hb3
      replace hup := hup.fits (K := K) (hle _) (hfit _ (by omega)).1 (hfit _ (by omega)).2
      have HU := hide hub
      clear hb3 y0 y1 y2 y3 y4 y5 hub
      obtain ⟨V3, hV3⟩ : ∃ V3, V3 = put5w w3 B6 u := ⟨_, rfl⟩
      have X3 : VrC V3 B5 X := by rw [hV3]; exact st.x.off st.ne u
      have Y3 : VrC V3 B6 u := by rw [hV3]; exact st.y.put u
      have P3 : SpAt V3 X K (sumI f i).1 (sumI f i).2 := by rw [hV3]; exact st.xp.put st.y.c u
      have U3 : SpAt V3 u K (f (i + 1)).1 (f (i + 1)).2 := by rw [hV3]; exact hup.put st.y.c u
      have F3 : SpC V3 W.heap.size s := by rw [hV3]; exact st.fs.off (by have := st.l6; omega) u
      have R3 : NoC V3 (W.heap.size + 1) := by rw [hV3]; exact st.no.off (by have := st.l6; omega) u
      have B3 : Below W.heap.size W V3 := by rw [hV3]; exact below_put st.be (by have := st.l6; omega) u
      have xb := hide st.xb
      have l5 := st.l5
      have l6 := st.l6
      have hne := st.ne
      have lY := st.y.lt
      have lX := st.x.lt
      obtain ⟨⟨y0, y1, y2, y3, y4⟩, y5⟩ := st.y
      obtain ⟨⟨x0, x1, x2, x3, x4⟩, x5⟩ := st.x
      clear st hup
      go_wp2_with fail
      have hV3' : V3 = put5w w3 B6 u := hV3
      unfold put5w at hV3'
      rw [← hV3']
      clear hV3' y0 y1 y2 y3 y4 y5 x0 x1 x2 x3 x4 x5
      have lX3 : B5 < V3.heap.size := X3.lt
      refine (add_iv _ X u K b (sumI f i) (f (i + 1)) P3 U3 (by omega) (unhide xb)).mono ?_
      rintro r w4 ⟨v, rfl, hvb, hvp, hb4⟩
      have X4 := X3.below hb4
      have Y4 := Y3.below hb4
      have U4 := U3.below hb4
      have F4 := F3.below hb4
      have R4 := R3.below hb4
      have B4 := bthen B3 hb4
      have e : addI (sumI f i) (f (i + 1)) = sumI f (i + 1) := rfl
      rw [e] at hvp
      replace hvp := hvp.fits (K := K) (sum_le hle _) (hfitS _ (by omega)).1 (hfitS _ (by omega)).2
      have HV := hide hvb
      clear hb4 hvb X3 Y3 P3 U3 F3 R3 B3 hV3
      have stn : SumSt W (put5w w4 B5 v) B5 B6 b K s v u f (i + 1) := ⟨X4.put v, Y4.off (Ne.symm hne) v, hvp.put X4.c v, U4.put X4.c v, unhide HV, unhide HU, F4.off (by omega) v, R4.off (by omega) v, below_put B4 (by omega) v, l5, l6, hne⟩
      unfold put5w at stn
      obtain ⟨⟨x0, x1, x2, x3, x4⟩, x5⟩ := X4
      go_wp2_with fail
      go_roundw
      case rel => exact ⟨i + 1, v, u, by go_num, by omega, stn⟩
      case measure => simp [intOf]; omega
    · have hit' : ¬ ((i : Int) + 1 ≤ (turn : Int)) := by omega
      obtain ⟨⟨y0, y1, y2, y3, y4⟩, y5⟩ := st.y
      go_wp2_with fail
      have hr0 : 0 ≤ (f i).2 := by have := unhide H0 i; have := hle i; omega
      refine (len_int _ _ _ _ _ (f i).2 _ st.yp.hi hr0).mono ?_
      rintro r w2 ⟨l, hlen, rfl, hb2⟩
      replace st := st.below hb2
      clear hb2 y0 y1 y2 y3 y4 y5
      by_cases hin : i < N
      · have hl : 2 < l := by
          have h3 := (unhide HN).2.2 i hin
          refine Int.not_le.1 fun hl => ?_
          obtain ⟨g1, g2, g3⟩ := hlen
          obtain ⟨L, e1, e2, e3⟩ := g3 (by omega)
          have := Q_mono (show L + 1 ≤ 2 by omega)
          have : Q 2 = 4 := rfl
          omega
        clear hlen hr0
        obtain ⟨⟨y0, y1, y2, y3, y4⟩, y5⟩ := st.y
        go_wp2_with fail
        refine (unhide HF i Y _ hin st.yb st.yp st.be).mono ?_
        rintro r w3 ⟨u, rfl, hub, hup, hb3⟩
        replace st := st.below hb3
        replace hup := hup.fits (K := K) (hle _) (hfit _ (by omega)).1 (hfit _ (by omega)).2
        have HU := hide hub
        clear hb3 y0 y1 y2 y3 y4 y5 hub
        obtain ⟨V3, hV3⟩ : ∃ V3, V3 = put5w w3 B6 u := ⟨_, rfl⟩
        have X3 : VrC V3 B5 X := by rw [hV3]; exact st.x.off st.ne u
        have Y3 : VrC V3 B6 u := by rw [hV3]; exact st.y.put u
        have P3 : SpAt V3 X K (sumI f i).1 (sumI f i).2 := by rw [hV3]; exact st.xp.put st.y.c u
        have U3 : SpAt V3 u K (f (i + 1)).1 (f (i + 1)).2 := by rw [hV3]; exact hup.put st.y.c u
        have F3 : SpC V3 W.heap.size s := by rw [hV3]; exact st.fs.off (by have := st.l6; omega) u
        have R3 : NoC V3 (W.heap.size + 1) := by rw [hV3]; exact st.no.off (by have := st.l6; omega) u
        have B3 : Below W.heap.size W V3 := by rw [hV3]; exact below_put st.be (by have := st.l6; omega) u
        have xb := hide st.xb
        have l5 := st.l5
        have l6 := st.l6
        have hne := st.ne
        have lY := st.y.lt
        have lX := st.x.lt
        obtain ⟨⟨y0, y1, y2, y3, y4⟩, y5⟩ := st.y
        obtain ⟨⟨x0, x1, x2, x3, x4⟩, x5⟩ := st.x
        clear st hup
        go_wp2_with fail
        have hV3' : V3 = put5w w3 B6 u := hV3
        unfold put5w at hV3'
        rw [← hV3']
        clear hV3' y0 y1 y2 y3 y4 y5 x0 x1 x2 x3 x4 x5
        have lX3 : B5 < V3.heap.size := X3.lt
        refine (add_iv _ X u K b (sumI f i) (f (i + 1)) P3 U3 (by omega) (unhide xb)).mono ?_
        rintro r w4 ⟨v, rfl, hvb, hvp, hb4⟩
        have X4 := X3.below hb4
        have Y4 := Y3.below hb4
        have U4 := U3.below hb4
        have F4 := F3.below hb4
        have R4 := R3.below hb4
        have B4 := bthen B3 hb4
        have e : addI (sumI f i) (f (i + 1)) = sumI f (i + 1) := rfl
        rw [e] at hvp
        replace hvp := hvp.fits (K := K) (sum_le hle _) (hfitS _ (by omega)).1 (hfitS _ (by omega)).2
        have HV := hide hvb
        clear hb4 hvb X3 Y3 P3 U3 F3 R3 B3 hV3
        have stn : SumSt W (put5w w4 B5 v) B5 B6 b K s v u f (i + 1) := ⟨X4.put v, Y4.off (Ne.symm hne) v, hvp.put X4.c v, U4.put X4.c v, unhide HV, unhide HU, F4.off (by omega) v, R4.off (by omega) v, below_put B4 (by omega) v, l5, l6, hne⟩
        unfold put5w at stn
        obtain ⟨⟨x0, x1, x2, x3, x4⟩, x5⟩ := X4
        go_wp2_with fail
        go_roundw
        case rel => exact ⟨i + 1, v, u, by go_num, by omega, stn⟩
        case measure => simp [intOf]; omega
      · have hie : i = N := by omega
        subst hie
        have hl : ¬ 2 < l := by
          have h1 := (unhide HN).2.1
          intro hl
          obtain ⟨g1, g2, g3⟩ := hlen
          by_cases hp : 0 < (f i).2
          · obtain ⟨L, e1, e2, e3⟩ := g3 hp
            have := Q_mono (show 2 ≤ L by omega)
            have : Q 2 = 4 := rfl
            omega
          · have := g2 (by omega); omega
        clear hlen
        have l5 := st.l5
        have lX := st.x.lt
        have HKr := hide (show ∀ w', Below w2.heap.size w2 w' → (w'.cell? ⟨B5, 0, none⟩ = some (.bool X.ln) ∧ w'.cell? ⟨B5, 1, none⟩ = some (.slice X.la X.lN X.lc) ∧ w'.cell? ⟨B5, 2, none⟩ = some (.bool X.hn) ∧ w'.cell? ⟨B5, 3, none⟩ = some (.slice X.ha X.hN X.hc) ∧ w'.cell? ⟨B5, 4, none⟩ = some (.int .i64 X.bits) ∧ w'.cell? ⟨W.heap.size, 4, none⟩ = some (.int .i64 s.bits)) from fun w' hB => ⟨(st.x.c.below hB).c0, (st.x.c.below hB).c1, (st.x.c.below hB).c2, (st.x.c.below hB).c3, (st.x.c.below hB).c4, (st.fs.below hB).c4⟩)
        have R3 := st.no
        have lR3 := R3.lt
        have ST := hide st
        clear st
        go_wp2_with fail
        obtain ⟨x0, x1, x2, x3, x4, x5⟩ := unhide HKr _ (Below.refl _ _)
        have hD0 : Below w2.heap.size w2 w2.drew := (Below.refl _ _).drew
        have nR1 : W.heap.size + 1 ≠ B5 := by omega
        have nR3 : W.heap.size + 1 ≠ W.heap.size := by omega
        go_region_held3 (fun w' => w'.cell? ⟨B5, 0, none⟩ = some (.bool X.ln) ∧ w'.cell? ⟨B5, 1, none⟩ = some (.slice X.la X.lN X.lc) ∧ w'.cell? ⟨B5, 2, none⟩ = some (.bool X.hn) ∧ w'.cell? ⟨B5, 3, none⟩ = some (.slice X.ha X.hN X.hc) ∧ w'.cell? ⟨B5, 4, none⟩ = some (.int .i64 X.bits) ∧ w'.cell? ⟨W.heap.size, 4, none⟩ = some (.int .i64 s.bits)) (first | exact unhide HKr _ (by first | with_reducible exact hD0 | with_reducible exact hD2 | with_reducible exact hD1) | go_keep)
          (first
            | (go_at_call 56; have hq := hD1; refine (add_iv _ X ⟨false, none, 0, 0, neg4, a4, n4, c4, s.bits⟩ K b (sumI f i) (0, 9) ((unhide ST).xp.below hD1) ⟨zeroInt _ _, hint4.mono hK4⟩ (by omega) (unhide ST).xb).mono ?_; rintro r' w5 ⟨v, rfl, hvb, hvp, hb5⟩; have hD2 := bthen hD1 hb5; have HV := hide hvb; clear hvb; obtain ⟨q0, q1, q2, q3, q4, q5⟩ := R3.below hD2; obtain ⟨y0, y1, y2, y3, y4, y5⟩ := unhide HKr _ hD2)
            | (go_at_call 48; refine (numOf_int 9 _ (by omega) (by omega)).mono ?_; rintro r' w4 ⟨neg4, a4, n4, c4, rfl, hint4, hb4⟩; have hD1 := bthen hD0 hb4))
        all_goals
          go_wp2_with fail
          refine bodyPost_ret (v := .agg #[.bool v.ln, .slice v.la v.lN v.lc, .bool v.hn, .slice v.ha v.hN v.hc, .int .i64 v.bits]) (by simp [results, Try.results125, go_sem, q0, q1, q2, q3, q4]) rfl ⟨v, rfl, unhide HV, ?_, ?_⟩
          · exact SpAt.put5 (hvp.mono (by omega)) q0 q1 q2 q3 q4 _ _ _ _ _
          · exact set5 (bthen (unhide ST).be hD2) (Nat.le_succ _) _ _ _ _ _
end Go.Proofs.Ytgmnknmjainabab
namespace Go.Proofs.Ytgmnknmjainabab
open Go.RowKit
attribute [local go_sem ↓] Go.wp_at_zero Go.wp_at_succ
open Ex
def lwX (L : Rat → Nat → Rat) (p q n d : Int) (g : Nat → Rat) : Nat → Rat := if n = 0 then fun _ => 0 else lw L ((p : Rat) / (q : Rat)) ((n : Rat) / (d : Rat)) g
structure LwAr (p q n d : Int) (B : Nat) : Prop where
  p0 : 0 < p
  q0 : 0 < q
  pq : p ≤ 100 * q
  qq : q ≤ 1048576
  n0 : 0 ≤ n
  d0 : 0 < d
  nn : n ≤ 1099511627776
  dd : d ≤ 1048576
  b0 : 40 ≤ B
  b1 : B ≤ 400
theorem lw_fit {x : Nat → Rat} {B : Nat} {l u : Int} (h : LwPr x B l u) (hB : B ≤ 400) : l ≤ u ∧ -P 30 < l ∧ u < P 30 := by
  have h1 := Q_mono (show B + 1 ≤ 16 * 30 by omega)
  rw [Q_P] at h1
  have h2 : Q (B + 1) = 2 * Q B := rfl
  have := Q_pos B
  have := h.lo
  have := h.hi
  exact ⟨h.le, by omega, by omega⟩
theorem lu_exp {L : Rat → Nat → Rat} {p q n d : Int} {B NS : Nat} {o : Int × Int} {lg ug : Int} {X g : Nat → Rat} (h : LwIn p q n d B) (ho : LwLog L ((n : Rat) / (d : Rat)) B o) (hg : LgP2 X B lg ug) (hL : Lns L) (ig : IsGam L ((p : Rat) / (q : Rat)) g) (hX : IsLog X (fun M => (p : Rat) / (q : Rat) * g M)) (hS : NS ≤ 70000) (hS2 : IsRise (luT p q n d B) (luN n d) NS) :
    ∃ (l : Int) (t NE : Nat), LenIs (reachI (luY p q n d B o (lg, ug))) l ∧ (t : Int) = max 0 (l - B + 8) ∧ t ≤ 26 ∧ Abs (downI (luY p q n d B o (lg, ug)) t) (Q (B - 8)) ∧ IsStop (expT B (downI (luY p q n d B o (lg, ug)) t)) NE ∧ Q (B + eb t) < P 49300 ∧ (luY p q n d B o (lg, ug)).1 ≤ (luY p q n d B o (lg, ug)).2 ∧
      (0 < (luE p q n d B o (lg, ug) t NE).1 ∧ (luE p q n d B o (lg, ug) t NE).1 ≤ (luE p q n d B o (lg, ug) t NE).2 ∧ 0 ≤ (luSer p q n d B NS).1 ∧ (luSer p q n d B NS).1 ≤ (luSer p q n d B NS).2 ∧ LwPr (lw L ((p : Rat) / (q : Rat)) ((n : Rat) / (d : Rat)) g) B (dvLo (luSer p q n d B NS).1 (luSer p q n d B NS).2 (luE p q n d B o (lg, ug) t NE).1 (luE p q n d B o (lg, ug) t NE).2 B) (luHi (luSer p q n d B NS) (luE p q n d B o (lg, ug) t NE) B)) := by
  obtain ⟨y1, y2, y3, y4⟩ := luY_ok h ho hg
  have b0 := h.b0
  have b1 := h.b1
  have qB := Q_pos B
  have r : reachI (luY p q n d B o (lg, ug)) < Q (B + 18) := by
    have a := abs_reach y3
    have e : Q (B + 18) = Q B * Q 18 := Q_add B 18
    have e18 : Q 18 = 262144 := rfl
    rw [e18] at e
    omega
  obtain ⟨l, t, NE, e1, e2, e3, e4, e5⟩ := exp_set (B := B) (e := 18) (by omega) y1 r
  refine ⟨l, t, NE, e1, e2, by omega, e4, e5, ?_, y1, lw_ok hL h ig hX ho hg (by omega) e4 e5 hS hS2⟩
  rw [← Q_P]
  have ebm := eb_mono (show t ≤ 26 by omega)
  have eb26 : eb 26 = 786432 := by decide
  rw [eb26] at ebm
  have h1 := Q_mono (show B + eb t + 1 ≤ 16 * 49300 by omega)
  have h2 : ∀ j, Q (j + 1) = 2 * Q j := fun _ => rfl
  rw [h2] at h1
  have := Q_pos (B + eb t)
  generalize Q (B + eb t) = y at *
  generalize Q (16 * 49300) = z at *
  omega
end Go.Proofs.Ytgmnknmjainabab
