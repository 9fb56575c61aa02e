/-
  What wide.Rest, errorf.erf and the function literals of package errorf answer.
  What Erf and Erfc of a ratio are: told of their numbers. Plain arithmetic: no statement of the seat is proved here.
  What wide.Sure answers of what is made by the function literals of package errorf.
-/
import Derived.Test.YtgmnknmjainababK15
namespace Go.Proofs.Ytgmnknmjainabab
set_option linter.unusedVariables false
set_option linter.unusedSimpArgs false
set_option linter.unnecessarySimpa false
open Go.RowKit
attribute [local go_sem ↓] Go.wp_at_zero Go.wp_at_succ

/-- What every call of wide.Erf answers of the square of a ratio. -/
def ErfIs (p q : Int) (B : Nat) (s e : Int) : Prop := ∀ (w' : World) (x y : Nm), IntAt w' x.neg x.a x.n x.cap 8 (p * p) → IntAt w' y.neg y.a y.n y.cap 8 (q * q) →
  Calls Try.prog 77 #[.agg #[.bool x.neg, .slice x.a x.n x.cap], .agg #[.bool y.neg, .slice y.a y.n y.cap], .int .i64 B] w' (SpanAns w' B 3000 s e)
/-- The opposite, where the ratio is below 0. -/
def sgn2 (p : Int) (a : Int × Int) : Int × Int := if p < 0 then (-a.2, -a.1) else a
/-- What is left up to 1. -/
def restI (B : Nat) (a : Int × Int) : Int × Int := (Q B - a.2, Q B - a.1)
theorem sq_bd {p : Int} (h1 : -1048576 ≤ p) (h2 : p ≤ 1048576) : 0 ≤ p * p ∧ p * p ≤ 1099511627776 := by
  refine ⟨?_, ?_⟩
  · rcases Int.le_total 0 p with h | h
    · exact Int.mul_nonneg h h
    · have := Int.mul_nonneg (show 0 ≤ -p by omega) (show 0 ≤ -p by omega)
      have e : -p * -p = p * p := by grind
      omega
  · have := abs_mul h1 h2 h1 h2
    omega

theorem one_z {b : Nat} (z : Int) (hz : z = (b : Int)) (w : World) (hb : b ≤ 1000000) : Calls Try.prog 80 #[.int .i64 z] w (SpanAns w b (b / 16 + 24) (1 * Q b / 1) (-(-(1 * Q b) / 1))) := by
  subst hz
  exact one_int w b hb

set_option maxRecDepth 100000 in
set_option maxHeartbeats 2000000 in
theorem rest_iv (w : World) (s : Sp) (k b : Nat) (a : Int × Int) (hs : SpAt w s k a.1 a.2) (hbits : s.bits = (b : Int)) (hb : b ≤ 100000) (hk0 : b / 16 + 24 ≤ k) (hk : k ≤ 100000000) :
    Calls Try.prog 45 #[.agg #[.bool s.ln, .slice s.la s.lN s.lc, .bool s.hn, .slice s.ha s.hN s.hc, .int .i64 s.bits]] w (SpanAns w b (k + 1) (restI b a).1 (restI b a).2) := by
  obtain ⟨W, hW⟩ : ∃ W, W = (w.alloc (.cells #[.bool s.ln, .slice s.la s.lN s.lc, .bool s.hn, .slice s.ha s.hN s.hc, .int .i64 s.bits] 28)).alloc (.cells #[.bool false, .slice none 0 0, .bool false, .slice none 0 0, .int .i64 0] 28) := ⟨_, rfl⟩
  have hBW : Below w.heap.size w W := by rw [hW]; exact bl2 _ _ _
  have A : SpC W w.heap.size s := by rw [hW]; exact ⟨by simp [go_sem], by simp [go_sem], by simp [go_sem], by simp [go_sem], by simp [go_sem]⟩
  have R : NoC W (w.heap.size + 1) := by rw [hW]; exact ⟨by simp [go_sem], by simp [go_sem], by simp [go_sem], by simp [go_sem], by simp [go_sem], fun o => by simp [go_sem]⟩
  have HS := hide (hs.below hBW)
  have HB := hide hbits
  have lA := A.lt
  have lR := R.lt
  have HO := hide (show (1 * Q b / 1, -(-(1 * Q b) / 1)) = (Q b, Q b) by rw [Int.ediv_one, Int.ediv_one]; simp)
  have hB0 : Below W.heap.size W W.drew := (Below.refl _ _).drew
  have HK := hide (show ∀ w', Below W.heap.size W w' → (w'.cell? ⟨w.heap.size, 0, none⟩ = some (.bool s.ln) ∧ w'.cell? ⟨w.heap.size, 1, none⟩ = some (.slice s.la s.lN s.lc) ∧ w'.cell? ⟨w.heap.size, 2, none⟩ = some (.bool s.hn) ∧ w'.cell? ⟨w.heap.size, 3, none⟩ = some (.slice s.ha s.hN s.hc) ∧ w'.cell? ⟨w.heap.size, 4, none⟩ = some (.int .i64 s.bits)) from fun w' hB => ⟨(A.below hB).c0, (A.below hB).c1, (A.below hB).c2, (A.below hB).c3, (A.below hB).c4⟩)
  clear hs hbits
  go_enter Try.func45, Try.ntmps45
  go_wp2
  rw [← hW]
  clear hW
  obtain ⟨x0, x1, x2, x3, x4⟩ := A
  go_region_held3 (fun w' => w'.cell? ⟨w.heap.size, 0, none⟩ = some (.bool s.ln) ∧ w'.cell? ⟨w.heap.size, 1, none⟩ = some (.slice s.la s.lN s.lc) ∧ w'.cell? ⟨w.heap.size, 2, none⟩ = some (.bool s.hn) ∧ w'.cell? ⟨w.heap.size, 3, none⟩ = some (.slice s.ha s.hN s.hc) ∧ w'.cell? ⟨w.heap.size, 4, none⟩ = some (.int .i64 s.bits)) (first | exact unhide HK _ (by first | with_reducible exact hB0 | with_reducible exact hB2 | with_reducible exact hB1) | go_keep)
    (first
      | (go_at_call 79; have hq := hB1; refine (sub_iv _ v1 s k b (1 * Q b / 1, -(-(1 * Q b) / 1)) a (hvp1.mono hk0) ((unhide HS).below hB1) (by omega) (unhide HV)).mono ?_; rintro r w2 ⟨t, rfl, htb, htp, hb2⟩; have HT := hide htb; clear htb; have hB2 := bthen hB1 hb2; obtain ⟨q0, q1, q2, q3, q4, q5⟩ := R.below hB2; obtain ⟨i0, i1, i2, i3, i4⟩ := unhide HK _ hB2)
      | (go_at_call 80; refine (one_z _ (unhide HB) _ (by omega)).mono ?_; rintro r w1 ⟨v1, rfl, hvb1, hvp1, hb1⟩; have HV := hide hvb1; clear hvb1; have hB1 := bthen hB0 hb1))
  all_goals
    go_wp2
    refine bodyPost_ret (v := .agg #[.bool t.ln, .slice t.la t.lN t.lc, .bool t.hn, .slice t.ha t.hN t.hc, .int .i64 t.bits]) (by simp [results, Try.results45, go_sem, q0, q1, q2, q3, q4]) rfl ⟨t, rfl, unhide HT, ?_, ?_⟩
    · rw [unhide HO] at htp
      exact SpAt.put5 htp q0 q1 q2 q3 q4 _ _ _ _ _
    · exact set5 (bthen hBW hB2) (Nat.le_succ _) _ _ _ _ _

set_option maxRecDepth 100000 in
set_option maxHeartbeats 4000000 in
theorem eerf_neg (w : World) (p q : Int) (b : Nat) (s e : Int) (hr : rok p q) (hb : b ≤ 100000) (hp : p < 0) (hE : ErfIs p q b s e) :
    Calls Try.prog 43 #[.agg #[.int .i64 p, .int .i64 q], .int .i64 b] w (SpanAns w b 3001 (-e) (-s)) := by
  obtain ⟨W, hW⟩ : ∃ W, W = (w.alloc (.cells #[.int .i64 p, .int .i64 q] 23)).alloc (.cells #[.bool false, .slice none 0 0, .bool false, .slice none 0 0, .int .i64 0] 28) := ⟨_, rfl⟩
  have hBW : Below w.heap.size w W := by rw [hW]; exact bl2 _ _ _
  have A : RaC W w.heap.size p q := by rw [hW]; exact ⟨by simp [go_sem], by simp [go_sem]⟩
  have R : NoC W (w.heap.size + 1) := by rw [hW]; exact ⟨by simp [go_sem], by simp [go_sem], by simp [go_sem], by simp [go_sem], by simp [go_sem], fun o => by simp [go_sem]⟩
  obtain ⟨r1, r2, r3, r4⟩ := hr
  obtain ⟨a1, a2⟩ := sq_bd r1 r2
  obtain ⟨a3, a4⟩ := sq_bd (p := q) (by omega) (by omega)
  have HE1 := hide (show IntKind.i64.wrap (p * p) = p * p from i64_id _ (by omega) (by omega))
  have HE2 := hide (show IntKind.i64.wrap (q * q) = q * q from i64_id _ (by omega) (by omega))
  have HQ1 := hide (show -9223372036854775808 ≤ p * p ∧ p * p ≤ 9223372036854775807 from ⟨by omega, by omega⟩)
  have HQ2 := hide (show -9223372036854775808 ≤ q * q ∧ q * q ≤ 9223372036854775807 from ⟨by omega, by omega⟩)
  have HE := hide hE
  have lA := A.lt
  have lR := R.lt
  have HK := hide (show ∀ w', Below W.heap.size W w' → (w'.cell? ⟨w.heap.size, 0, none⟩ = some (.int .i64 p) ∧ w'.cell? ⟨w.heap.size, 1, none⟩ = some (.int .i64 q)) from fun w' hB => ⟨(A.below hB).c0, (A.below hB).c1⟩)
  have HP := hide hp
  clear hE a1 a2 a3 a4 r1 r2 r3 r4 hp
  go_enter Try.func43, Try.ntmps43
  go_wp2
  rw [← hW]
  clear hW A lR
  go_cut [5] (fun p wx => ∃ (B : Nat) (u : Sp), p = .pointer (some ⟨B, 0, none⟩) ∧ W.heap.size ≤ B ∧ VrC wx B u ∧ SpAt wx u 3000 (((s, e) : Int × Int)).1 (((s, e) : Int × Int)).2 ∧ u.bits = (b : Int) ∧ Below W.heap.size W wx)
  case first =>
    go_region_held3 (fun w' => w'.cell? ⟨w.heap.size, 0, none⟩ = some (.int .i64 p) ∧ w'.cell? ⟨w.heap.size, 1, none⟩ = some (.int .i64 q)) (exact unhide HK _ (by repeat' (first | with_reducible exact hBU3 | with_reducible exact hBU2 | with_reducible exact hBU1 | with_reducible exact Below.refl _ _ | with_reducible refine Below.drew ?_ | with_reducible refine balloc ?_ _ | with_reducible refine Below.setCell ?_ (by first | exact Nat.le_refl _ | exact hlU1 | exact hlU2 | exact hlU3) _)))
      (first
        | (go_at_call 77; have hq := hBU2; refine (unhide HE _ ⟨negU1, aU1, nU1, cU1⟩ ⟨negU2, aU2, nU2, cU2⟩ ((hintU1.below (by first | with_reducible exact Below.refl _ _ | with_reducible exact bl1 _ _)).mono (by omega)) ((hintU2.below (by first | with_reducible exact Below.refl _ _ | with_reducible exact bl1 _ _)).mono (by omega))).mono ?_; rintro r wU3 ⟨vU3, rfl, hvbU3, hintU3, hbU3⟩; have HVBU3 := hide hvbU3; clear hvbU3; have hCU3 : Below wU2.heap.size wU2 wU3 := (by first | with_reducible exact hbU3 | with_reducible exact bthen (bl1 _ _) hbU3); have hBU3 := bthen hBU2 hCU3; (try with_reducible have gU3 := (noc_new wU2 28).below hbU3); replace hintU1 := hintU1.below hCU3; (try replace gU1 := gU1.below hCU3); replace hintU2 := hintU2.below hCU3; (try replace gU2 := gU2.below hCU3); have hlU3 := hBU3.size; (try have mU1 := gU1.lt); (try have eU1 := Nat.ne_of_lt mU1); (try have eU1' := Nat.ne_of_gt mU1); (try obtain ⟨zU10, zU11, zU12, zU13, zU14, zU15⟩ := gU1); (try have mU2 := gU2.lt); (try have eU2 := Nat.ne_of_lt mU2); (try have eU2' := Nat.ne_of_gt mU2); (try obtain ⟨zU20, zU21, zU22, zU23, zU24, zU25⟩ := gU2); (try have mU3 := gU3.lt); (try have eU3 := Nat.ne_of_lt mU3); (try have eU3' := Nat.ne_of_gt mU3); (try obtain ⟨zU30, zU31, zU32, zU33, zU34, zU35⟩ := gU3))
        | (go_at_call 48; have hq := hBU1; rw [unhide HE2]; refine (numOf_int (q * q) _ (unhide HQ2).1 (unhide HQ2).2).mono ?_; rintro r wU2 ⟨negU2, aU2, nU2, cU2, rfl, hintU2, hbU2⟩; have hCU2 : Below wU1.heap.size wU1 wU2 := (by first | with_reducible exact hbU2 | with_reducible exact bthen (bl1 _ _) hbU2); have hBU2 := bthen hBU1 hCU2; (try with_reducible have gU2 := (noc_new wU1 28).below hbU2); replace hintU1 := hintU1.below hCU2; (try replace gU1 := gU1.below hCU2); have hlU2 := hBU2.size)
        | (go_at_call 48; rw [unhide HE1]; refine (numOf_int (p * p) _ (unhide HQ1).1 (unhide HQ1).2).mono ?_; rintro r wU1 ⟨negU1, aU1, nU1, cU1, rfl, hintU1, hbU1⟩; have hBU1 : Below W.heap.size W wU1 := (by first | with_reducible exact bthen (Below.refl _ _).drew hbU1 | with_reducible exact bthen (bl1 _ _).drew hbU1); (try with_reducible have gU1 := ((noc_new W 28).below (Below.refl _ _).drew).below hbU1); have hlU1 := hBU1.size))
    all_goals
      have hfinU : SpAt wU3 vU3 3000 (((s, e) : Int × Int)).1 (((s, e) : Int × Int)).2 := hintU3
      go_wp2_with fail
      go_meet
      refine ⟨_, vU3, rfl, ?_, ⟨⟨?_, ?_, ?_, ?_, ?_⟩, ?_⟩, ?_, unhide HVBU3, ?_⟩
      · first | exact Nat.le_refl _ | exact hlU1 | exact hlU2 | exact hlU3
      · simp [go_sem, *]
      · simp [go_sem, *]
      · simp [go_sem, *]
      · simp [go_sem, *]
      · simp [go_sem, *]
      · intro o; simp [go_sem, *]
      · first | with_reducible exact SpAt.put5 hfinU zU30 zU31 zU32 zU33 zU34 _ _ _ _ _ | with_reducible exact SpAt.put5 hfinU zU20 zU21 zU22 zU23 zU24 _ _ _ _ _ | with_reducible exact SpAt.put5 hfinU zU10 zU11 zU12 zU13 zU14 _ _ _ _ _ | with_reducible exact hfinU.below (bl1 _ _)
      · repeat' (first | with_reducible exact hBU3 | with_reducible exact hBU2 | with_reducible exact hBU1 | with_reducible exact Below.refl _ _ | with_reducible refine Below.drew ?_ | with_reducible refine balloc ?_ _ | with_reducible refine Below.setCell ?_ (by first | exact Nat.le_refl _ | exact hlU1 | exact hlU2 | exact hlU3) _)
  case rest =>
  obtain ⟨BU, xU, rfl, hHU, XU, hpU, hxbU, hblU⟩ := hcut
  have hp := unhide HP
  have lR := R.lt
  replace R := R.below hblU
  replace hBW := bthen hBW hblU
  obtain ⟨x0, x1⟩ := unhide HK _ hblU
  have lU := XU.lt
  have nRU : w.heap.size + 1 < BU := by omega
  have lR2 := R.lt
  have lA2 : w.heap.size < wc.heap.size := Nat.lt_of_lt_of_le lA hblU.size
  have HXB := hide hxbU
  have HHU := hide hpU
  obtain ⟨z0, z1, z2, z3, z4⟩ := XU.c
  clear hxbU hpU HK hblU
  go_wp2_with fail
  refine (opposite_int _ xU 3000 _ _ (unhide HHU) (by omega)).mono ?_
  rintro r w3 ⟨t, rfl, htb, htp, hb3⟩
  obtain ⟨q0, q1, q2, q3, q4, q5⟩ := R.below hb3
  replace hBW := bthen hBW hb3
  have HT := hide (htb.trans (unhide HXB))
  clear htb
  go_wp2_with fail
  refine bodyPost_ret (v := .agg #[.bool t.ln, .slice t.la t.lN t.lc, .bool t.hn, .slice t.ha t.hN t.hc, .int .i64 t.bits]) (by simp [results, Try.results43, go_sem, q0, q1, q2, q3, q4]) rfl ⟨t, rfl, unhide HT, ?_, ?_⟩
  · exact SpAt.put5 (htp.mono (by omega)) q0 q1 q2 q3 q4 _ _ _ _ _
  · exact set5 hBW (Nat.le_succ _) _ _ _ _ _

set_option maxRecDepth 100000 in
set_option maxHeartbeats 4000000 in
theorem eerf_pos (w : World) (p q : Int) (b : Nat) (s e : Int) (hr : rok p q) (hb : b ≤ 100000) (hp : ¬ p < 0) (hE : ErfIs p q b s e) :
    Calls Try.prog 43 #[.agg #[.int .i64 p, .int .i64 q], .int .i64 b] w (SpanAns w b 3001 s e) := by
  obtain ⟨W, hW⟩ : ∃ W, W = (w.alloc (.cells #[.int .i64 p, .int .i64 q] 23)).alloc (.cells #[.bool false, .slice none 0 0, .bool false, .slice none 0 0, .int .i64 0] 28) := ⟨_, rfl⟩
  have hBW : Below w.heap.size w W := by rw [hW]; exact bl2 _ _ _
  have A : RaC W w.heap.size p q := by rw [hW]; exact ⟨by simp [go_sem], by simp [go_sem]⟩
  have R : NoC W (w.heap.size + 1) := by rw [hW]; exact ⟨by simp [go_sem], by simp [go_sem], by simp [go_sem], by simp [go_sem], by simp [go_sem], fun o => by simp [go_sem]⟩
  obtain ⟨r1, r2, r3, r4⟩ := hr
  obtain ⟨a1, a2⟩ := sq_bd r1 r2
  obtain ⟨a3, a4⟩ := sq_bd (p := q) (by omega) (by omega)
  have HE1 := hide (show IntKind.i64.wrap (p * p) = p * p from i64_id _ (by omega) (by omega))
  have HE2 := hide (show IntKind.i64.wrap (q * q) = q * q from i64_id _ (by omega) (by omega))
  have HQ1 := hide (show -9223372036854775808 ≤ p * p ∧ p * p ≤ 9223372036854775807 from ⟨by omega, by omega⟩)
  have HQ2 := hide (show -9223372036854775808 ≤ q * q ∧ q * q ≤ 9223372036854775807 from ⟨by omega, by omega⟩)
  have HE := hide hE
  have lA := A.lt
  have lR := R.lt
  have HK := hide (show ∀ w', Below W.heap.size W w' → (w'.cell? ⟨w.heap.size, 0, none⟩ = some (.int .i64 p) ∧ w'.cell? ⟨w.heap.size, 1, none⟩ = some (.int .i64 q)) from fun w' hB => ⟨(A.below hB).c0, (A.below hB).c1⟩)
  have HP := hide hp
  clear hE a1 a2 a3 a4 r1 r2 r3 r4 hp
  go_enter Try.func43, Try.ntmps43
  go_wp2
  rw [← hW]
  clear hW A lR
  go_cut [5] (fun p wx => ∃ (B : Nat) (u : Sp), p = .pointer (some ⟨B, 0, none⟩) ∧ W.heap.size ≤ B ∧ VrC wx B u ∧ SpAt wx u 3000 (((s, e) : Int × Int)).1 (((s, e) : Int × Int)).2 ∧ u.bits = (b : Int) ∧ Below W.heap.size W wx)
  case first =>
    go_region_held3 (fun w' => w'.cell? ⟨w.heap.size, 0, none⟩ = some (.int .i64 p) ∧ w'.cell? ⟨w.heap.size, 1, none⟩ = some (.int .i64 q)) (exact unhide HK _ (by repeat' (first | with_reducible exact hBU3 | with_reducible exact hBU2 | with_reducible exact hBU1 | with_reducible exact Below.refl _ _ | with_reducible refine Below.drew ?_ | with_reducible refine balloc ?_ _ | with_reducible refine Below.setCell ?_ (by first | exact Nat.le_refl _ | exact hlU1 | exact hlU2 | exact hlU3) _)))
      (first
        | (go_at_call 77; have hq := hBU2; refine (unhide HE _ ⟨negU1, aU1, nU1, cU1⟩ ⟨negU2, aU2, nU2, cU2⟩ ((hintU1.below (by first | with_reducible exact Below.refl _ _ | with_reducible exact bl1 _ _)).mono (by omega)) ((hintU2.below (by first | with_reducible exact Below.refl _ _ | with_reducible exact bl1 _ _)).mono (by omega))).mono ?_; rintro r wU3 ⟨vU3, rfl, hvbU3, hintU3, hbU3⟩; have HVBU3 := hide hvbU3; clear hvbU3; have hCU3 : Below wU2.heap.size wU2 wU3 := (by first | with_reducible exact hbU3 | with_reducible exact bthen (bl1 _ _) hbU3); have hBU3 := bthen hBU2 hCU3; (try with_reducible have gU3 := (noc_new wU2 28).below hbU3); replace hintU1 := hintU1.below hCU3; (try replace gU1 := gU1.below hCU3); replace hintU2 := hintU2.below hCU3; (try replace gU2 := gU2.below hCU3); have hlU3 := hBU3.size; (try have mU1 := gU1.lt); (try have eU1 := Nat.ne_of_lt mU1); (try have eU1' := Nat.ne_of_gt mU1); (try obtain ⟨zU10, zU11, zU12, zU13, zU14, zU15⟩ := gU1); (try have mU2 := gU2.lt); (try have eU2 := Nat.ne_of_lt mU2); (try have eU2' := Nat.ne_of_gt mU2); (try obtain ⟨zU20, zU21, zU22, zU23, zU24, zU25⟩ := gU2); (try have mU3 := gU3.lt); (try have eU3 := Nat.ne_of_lt mU3); (try have eU3' := Nat.ne_of_gt mU3); (try obtain ⟨zU30, zU31, zU32, zU33, zU34, zU35⟩ := gU3))
        | (go_at_call 48; have hq := hBU1; rw [unhide HE2]; refine (numOf_int (q * q) _ (unhide HQ2).1 (unhide HQ2).2).mono ?_; rintro r wU2 ⟨negU2, aU2, nU2, cU2, rfl, hintU2, hbU2⟩; have hCU2 : Below wU1.heap.size wU1 wU2 := (by first | with_reducible exact hbU2 | with_reducible exact bthen (bl1 _ _) hbU2); have hBU2 := bthen hBU1 hCU2; (try with_reducible have gU2 := (noc_new wU1 28).below hbU2); replace hintU1 := hintU1.below hCU2; (try replace gU1 := gU1.below hCU2); have hlU2 := hBU2.size)
        | (go_at_call 48; rw [unhide HE1]; refine (numOf_int (p * p) _ (unhide HQ1).1 (unhide HQ1).2).mono ?_; rintro r wU1 ⟨negU1, aU1, nU1, cU1, rfl, hintU1, hbU1⟩; have hBU1 : Below W.heap.size W wU1 := (by first | with_reducible exact bthen (Below.refl _ _).drew hbU1 | with_reducible exact bthen (bl1 _ _).drew hbU1); (try with_reducible have gU1 := ((noc_new W 28).below (Below.refl _ _).drew).below hbU1); have hlU1 := hBU1.size))
    all_goals
      have hfinU : SpAt wU3 vU3 3000 (((s, e) : Int × Int)).1 (((s, e) : Int × Int)).2 := hintU3
      go_wp2_with fail
      go_meet
      refine ⟨_, vU3, rfl, ?_, ⟨⟨?_, ?_, ?_, ?_, ?_⟩, ?_⟩, ?_, unhide HVBU3, ?_⟩
      · first | exact Nat.le_refl _ | exact hlU1 | exact hlU2 | exact hlU3
      · simp [go_sem, *]
      · simp [go_sem, *]
      · simp [go_sem, *]
      · simp [go_sem, *]
      · simp [go_sem, *]
      · intro o; simp [go_sem, *]
      · first | with_reducible exact SpAt.put5 hfinU zU30 zU31 zU32 zU33 zU34 _ _ _ _ _ | with_reducible exact SpAt.put5 hfinU zU20 zU21 zU22 zU23 zU24 _ _ _ _ _ | with_reducible exact SpAt.put5 hfinU zU10 zU11 zU12 zU13 zU14 _ _ _ _ _ | with_reducible exact hfinU.below (bl1 _ _)
      · repeat' (first | with_reducible exact hBU3 | with_reducible exact hBU2 | with_reducible exact hBU1 | with_reducible exact Below.refl _ _ | with_reducible refine Below.drew ?_ | with_reducible refine balloc ?_ _ | with_reducible refine Below.setCell ?_ (by first | exact Nat.le_refl _ | exact hlU1 | exact hlU2 | exact hlU3) _)
  case rest =>
  obtain ⟨BU, xU, rfl, hHU, XU, hpU, hxbU, hblU⟩ := hcut
  have hp := unhide HP
  have lR := R.lt
  replace R := R.below hblU
  replace hBW := bthen hBW hblU
  obtain ⟨x0, x1⟩ := unhide HK _ hblU
  have lU := XU.lt
  have nRU : w.heap.size + 1 < BU := by omega
  have lR2 := R.lt
  have lA2 : w.heap.size < wc.heap.size := Nat.lt_of_lt_of_le lA hblU.size
  have HXB := hide hxbU
  have HHU := hide hpU
  obtain ⟨z0, z1, z2, z3, z4⟩ := XU.c
  clear hxbU hpU HK hblU
  obtain ⟨q0, q1, q2, q3, q4, q5⟩ := R
  go_wp2_with fail
  refine bodyPost_ret (v := .agg #[.bool xU.ln, .slice xU.la xU.lN xU.lc, .bool xU.hn, .slice xU.ha xU.hN xU.hc, .int .i64 xU.bits]) (by simp [results, Try.results43, go_sem, q0, q1, q2, q3, q4]) rfl ⟨xU, rfl, unhide HXB, ?_, ?_⟩
  · exact SpAt.put5 ((unhide HHU).mono (by omega)) q0 q1 q2 q3 q4 _ _ _ _ _
  · exact set5 hBW (Nat.le_succ _) _ _ _ _ _

theorem eerf_iv (w : World) (p q : Int) (b : Nat) (s e : Int) (hr : rok p q) (hb : b ≤ 100000) (hE : ErfIs p q b s e) :
    Calls Try.prog 43 #[.agg #[.int .i64 p, .int .i64 q], .int .i64 b] w (SpanAns w b 3001 (sgn2 p (s, e)).1 (sgn2 p (s, e)).2) := by
  unfold sgn2
  by_cases hp : p < 0
  · rw [if_pos hp]; exact eerf_neg w p q b s e hr hb hp hE
  · rw [if_neg hp]; exact eerf_pos w p q b s e hr hb hp hE

set_option maxRecDepth 100000 in
set_option maxHeartbeats 2000000 in
theorem erf1_iv (w : World) (B0 : Nat) (p q : Int) (b : Nat) (s e : Int) (hr : rok p q) (hB0 : RaC w B0 p q) (hb : b ≤ 40000) (hE : ErfIs p q b s e) :
    Calls Try.prog 42 #[.int .i64 b, .pointer (some ⟨B0, 0, none⟩)] w (SpanAns w b 3002 (sgn2 p (s, e)).1 (sgn2 p (s, e)).2) := by
  have l0 := hB0.lt
  obtain ⟨y0, y1⟩ := hB0
  have HR := hide hr
  have HE := hide hE
  have R := noc_new w 28
  clear hr hE
  go_enter Try.func42, Try.ntmps42
  go_wp2_with fail
  refine (eerf_iv _ p q b s e (unhide HR) (by omega) (unhide HE)).mono ?_
  rintro r' w1 ⟨u, rfl, hub, hup, hb1⟩
  replace R := R.below hb1
  have hBW : Below w.heap.size w w1 := bthen (bl1 _ _) hb1
  have HU := hide hub
  clear hub y0 y1 hb1
  obtain ⟨v, rfl⟩ : ∃ v : Sp, v = u := ⟨_, rfl⟩
  have hvp := hup
  have HV := HU
  obtain ⟨q0, q1, q2, q3, q4, q5⟩ := R
  go_wp2_with fail
  refine bodyPost_ret (v := .agg #[.bool v.ln, .slice v.la v.lN v.lc, .bool v.hn, .slice v.ha v.hN v.hc, .int .i64 v.bits]) (by simp [results, Try.results42, go_sem, q0, q1, q2, q3, q4]) rfl ⟨v, rfl, unhide HV, ?_, ?_⟩
  · exact SpAt.put5 (hvp.mono (by omega)) q0 q1 q2 q3 q4 _ _ _ _ _
  · exact set5 hBW (Nat.le_refl _) _ _ _ _ _

set_option maxRecDepth 100000 in
set_option maxHeartbeats 2000000 in
theorem erfc1_iv (w : World) (B0 : Nat) (p q : Int) (b : Nat) (s e : Int) (hr : rok p q) (hB0 : RaC w B0 p q) (hb : b ≤ 40000) (hE : ErfIs p q b s e) :
    Calls Try.prog 44 #[.int .i64 b, .pointer (some ⟨B0, 0, none⟩)] w (SpanAns w b 3002 (restI b (sgn2 p (s, e))).1 (restI b (sgn2 p (s, e))).2) := by
  have l0 := hB0.lt
  obtain ⟨y0, y1⟩ := hB0
  have HR := hide hr
  have HE := hide hE
  have R := noc_new w 28
  clear hr hE
  go_enter Try.func44, Try.ntmps44
  go_wp2_with fail
  refine (eerf_iv _ p q b s e (unhide HR) (by omega) (unhide HE)).mono ?_
  rintro r' w1 ⟨u, rfl, hub, hup, hb1⟩
  replace R := R.below hb1
  have hBW : Below w.heap.size w w1 := bthen (bl1 _ _) hb1
  have HU := hide hub
  clear hub y0 y1 hb1
  go_wp2_with fail
  refine (rest_iv _ u 3001 b (sgn2 p (s, e)) hup (unhide HU) (by omega) (by omega) (by omega)).mono ?_
  rintro r' w2 ⟨v, rfl, hvb, hvp, hb2⟩
  obtain ⟨q0, q1, q2, q3, q4, q5⟩ := R.below hb2
  replace hBW := bthen hBW hb2
  have HV := hide hvb
  clear hvb
  go_wp2_with fail
  refine bodyPost_ret (v := .agg #[.bool v.ln, .slice v.la v.lN v.lc, .bool v.hn, .slice v.ha v.hN v.hc, .int .i64 v.bits]) (by simp [results, Try.results44, go_sem, q0, q1, q2, q3, q4]) rfl ⟨v, rfl, unhide HV, ?_, ?_⟩
  · exact SpAt.put5 (hvp.mono (by omega)) q0 q1 q2 q3 q4 _ _ _ _ _
  · exact set5 hBW (Nat.le_refl _) _ _ _ _ _
end Go.Proofs.Ytgmnknmjainabab

namespace Go.Proofs.Ytgmnknmjainabab
set_option linter.unusedVariables false
open Ex

/-- How far a ratio is from 0. -/
def absR (p q : Int) : Rat := (if p < 0 then -(p : Rat) else (p : Rat)) / (q : Rat)
theorem absR_ok {p q : Int} (hq : 0 < q) : 0 ≤ absR p q ∧ absR p q * absR p q * ((q * q : Int) : Rat) = ((p * p : Int) : Rat) := by
  have q0 : (0 : Rat) < (q : Rat) := by exact_mod_cast hq
  unfold absR
  have e := rdm (a := (if p < 0 then -(p : Rat) else (p : Rat))) q0
  have hn : (0 : Rat) ≤ (if p < 0 then -(p : Rat) else (p : Rat)) := by
    split
    · rename_i h
      have : (p : Rat) ≤ 0 := by exact_mod_cast (show p ≤ 0 by omega)
      grind
    · rename_i h
      exact_mod_cast (show 0 ≤ p by omega)
  refine ⟨rle_div q0 (by grind), ?_⟩
  rw [Rat.intCast_mul, Rat.intCast_mul]
  generalize (if p < 0 then -(p : Rat) else (p : Rat)) / (q : Rat) = z at *
  have : z * z * ((q : Rat) * (q : Rat)) = (z * (q : Rat)) * (z * (q : Rat)) := by grind
  rw [this, e]
  split <;> grind
/-- The error function of a ratio. -/
def erR (R : Nat → Rat) (p q : Int) (M : Nat) : Rat := if p < 0 then -erfS R (absR p q) M else erfS R (absR p q) M
theorem er_in {p q : Int} (hr : rok p q) (h : p * p < 152 * (q * q)) : ErIn (p * p) (q * q) (absR p q) := by
  obtain ⟨r1, r2, r3, r4⟩ := hr
  have q0 : 0 < q * q := Int.mul_pos (by omega) (by omega)
  obtain ⟨a1, a2⟩ := absR_ok (p := p) (q := q) (by omega)
  have p0 := sq_bd r1 r2
  refine ⟨p0.1, q0, a1, a2, h, ?_⟩
  by_cases hp : p = 0
  · exact Or.inl (by rw [hp]; rfl)
  · refine Or.inr ?_
    have h1 : 1 ≤ p * p := by
      rcases Int.lt_or_gt_of_ne hp with h | h
      · have := Int.mul_pos (show 0 < -p by omega) (show 0 < -p by omega)
        have e : -p * -p = p * p := by grind
        omega
      · have := Int.mul_pos h h; omega
    have h2 := Int.mul_le_mul r4 r4 (by omega) (by omega)
    omega
/-- What is made of a ratio that is not far. -/
def ErCore (R : Nat → Rat) (p q : Int) (B : Nat) (s e : Int) : Prop := Iv B (s, e) (erfS R (absR p q)) ∧ 0 ≤ s ∧ s ≤ e ∧ e ≤ Q B ∧ e - s ≤ Q 4500
theorem er_near {R : Nat → Rat} (hR : RootS piS R) {p q : Int} (hr : rok p q) (h : p * p < 152 * (q * q)) {B : Nat} (hB : 40 ≤ B) (hB2 : B ≤ 10000) (hlt : p * p < q * q * (B : Int)) : ∃ s e, ErfIs p q B s e ∧ ErCore R p q B s e := by
  have hin := er_in hr h
  obtain ⟨M, hM, hM2⟩ := erT_set hin B
  obtain ⟨l, t, N, e1, e2, e3, e4, e5⟩ := erX_set hin hB
  obtain ⟨N5, h5⟩ := ag_stop (m := 5) (by omega) (show 2 ≤ B by omega)
  obtain ⟨N9, h9⟩ := ag_stop (m := 239) (by omega) (show 2 ≤ B by omega)
  refine ⟨_, _, fun w' x y hx hy => erf_iv w' x y (p * p) (q * q) B hx hy hB hB2 (absR p q) M t N N5 N9 l hin hlt hM hM2 e1 e2 e3 e4 e5 h5 h9, ?_⟩
  exact erf_ok hR hin hB hB2 hM hM2 e3 e4 e5 h5 h9
theorem er_far {p q : Int} {B : Nat} (hB : 40 ≤ B) (hB2 : B ≤ 10000) (h : q * q * (B : Int) ≤ p * p) : ErfIs p q B (Q B - 1) (Q B) := fun w' x y hx hy =>
  (erf_far w' x y (p * p) (q * q) B hx hy hB hB2 h).mono fun r w'' ⟨s, e1, e2, e3, e4⟩ => ⟨s, e1, e2, e3.mono (by omega), e4⟩
/-- What Sure is handed for Erf, and for Erfc. -/
def ErPr (R : Nat → Rat) (p q : Int) (B : Nat) (lo hi : Int) : Prop := ∃ s e, ErCore R p q B s e ∧ lo = (sgn2 p (s, e)).1 ∧ hi = (sgn2 p (s, e)).2
def EcPr (R : Nat → Rat) (p q : Int) (B : Nat) (lo hi : Int) : Prop := ∃ s e, ErCore R p q B s e ∧ lo = (restI B (sgn2 p (s, e))).1 ∧ hi = (restI B (sgn2 p (s, e))).2
theorem sgn2_ok {p : Int} {B : Nat} {s e : Int} (h0 : 0 ≤ s) (h1 : s ≤ e) (h2 : e ≤ Q B) : (sgn2 p (s, e)).1 ≤ (sgn2 p (s, e)).2 ∧ -Q B ≤ (sgn2 p (s, e)).1 ∧ (sgn2 p (s, e)).2 ≤ Q B ∧ (sgn2 p (s, e)).2 - (sgn2 p (s, e)).1 = e - s := by
  have := Q_pos B
  unfold sgn2
  by_cases hp : p < 0
  · rw [if_pos hp]; exact ⟨by simp only []; omega, by simp only []; omega, by simp only []; omega, by simp only []; omega⟩
  · rw [if_neg hp]; exact ⟨h1, by simp only []; omega, h2, rfl⟩
theorem sgn2_iv {R : Nat → Rat} {p q : Int} {B : Nat} {s e : Int} (h : Iv B (s, e) (erfS R (absR p q))) : Iv B (sgn2 p (s, e)) (erR R p q) := by
  unfold sgn2 erR
  split
  · exact h.opp
  · exact h
theorem rest_has {B : Nat} {a : Int × Int} {x : Nat → Rat} (h : Iv B a x) : Iv B (restI B a) (fun M => 1 - x M) := (one_iv B).sub h
theorem big_Q {z : Int} {B m : Nat} (hB : B ≤ 120) (h : z ≤ 2 * Q (B + m)) : z ≤ P 200 * Q m := by
  have e : Q (B + m) = Q B * Q m := Q_add B m
  have q := Q_pos m
  have h1 : 2 * Q B ≤ P 200 := by
    rw [← Q_P]
    have h2 : Q (B + 1) = 2 * Q B := rfl
    have := Q_mono (show B + 1 ≤ 16 * 200 by omega)
    omega
  have m1 := Int.mul_le_mul_of_nonneg_right h1 (show 0 ≤ Q m by omega)
  have e2 : 2 * Q B * Q m = 2 * (Q B * Q m) := by grind
  omega
theorem er_ends (R : Nat → Rat) (p q : Int) {bits : Nat} (hb : bits ≤ 120) : SureEnds bits 4500 (ErPr R p q) := fun m lo hi ⟨s, e, ⟨c1, c2, c3, c4, c5⟩, e1, e2⟩ => by
  obtain ⟨g1, g2, g3, g4⟩ := sgn2_ok (p := p) (B := bits + m) c2 c3 c4
  rw [← e1, ← e2] at g1 g4
  rw [← e1] at g2
  rw [← e2] at g3
  have q := Q_pos (bits + m)
  have b1 := big_Q (z := -lo) hb (show -lo ≤ 2 * Q (bits + m) by omega)
  have b2 := big_Q (z := hi) hb (show hi ≤ 2 * Q (bits + m) by omega)
  rw [← g4] at c5
  exact ⟨g1, c5, by omega, b2⟩
theorem ec_ends (R : Nat → Rat) (p q : Int) {bits : Nat} (hb : bits ≤ 120) : SureEnds bits 4500 (EcPr R p q) := fun m lo hi ⟨s, e, ⟨c1, c2, c3, c4, c5⟩, e1, e2⟩ => by
  obtain ⟨g1, g2, g3, g4⟩ := sgn2_ok (p := p) (B := bits + m) c2 c3 c4
  have q := Q_pos (bits + m)
  have f1 : lo = Q (bits + m) - (sgn2 p (s, e)).2 := e1
  have f2 : hi = Q (bits + m) - (sgn2 p (s, e)).1 := e2
  have b1 := big_Q (z := -lo) hb (show -lo ≤ 2 * Q (bits + m) by omega)
  have b2 := big_Q (z := hi) hb (show hi ≤ 2 * Q (bits + m) by omega)
  have w : hi - lo = e - s := by omega
  rw [← w] at c5
  exact ⟨by omega, c5, by omega, b2⟩
/-- What Erf answers. -/
structure ErV (R : Nat → Rat) (p q : Int) (b : Nat) (L H : Int) : Prop where
  le : L ≤ H
  lo : -Q b ≤ L
  hi : H ≤ Q b
  nar : narB L H (Q b) 4 = true
  val : (q * q * ((b : Int) + 32) ≤ p * p ∧ (L, H) = sgn2 p (Q b - 1, Q b)) ∨ (p * p < q * q * ((b : Int) + 32) ∧ Iv b (L, H) (erR R p q))
structure EcV (R : Nat → Rat) (p q : Int) (b : Nat) (L H : Int) : Prop where
  le : L ≤ H
  lo : 0 ≤ L
  hi : H ≤ 2 * Q b
  nar : narB L H (Q b) 4 = true
  val : (q * q * ((b : Int) + 32) ≤ p * p ∧ (L, H) = restI b (sgn2 p (Q b - 1, Q b))) ∨ (p * p < q * q * ((b : Int) + 32) ∧ Iv b (L, H) (fun M => 1 - erR R p q M))
theorem sure_nar {b m : Nat} {lo hi L H : Int} (hle : lo ≤ hi) (e1 : L = lo / Q m) (e2 : H = -(-hi / Q m)) (h6 : H - L ≤ 1 ∨ narB L H (Q b) 4 = true) : L ≤ H ∧ narB L H (Q b) 4 = true := by
  have h7 := to_width (m := m) (Kw := (hi - lo).toNat) hle (by
    have : ∀ k : Nat, (k : Int) ≤ Q k := fun k => by
      induction k with
      | zero => decide
      | succ k ih => have e : Q (k + 1) = 2 * Q k := rfl; have := Q_pos k; omega
    have := this (hi - lo).toNat
    omega)
  have h8 : L ≤ H := by rw [e1, e2]; omega
  refine ⟨h8, ?_⟩
  rcases h6 with h6 | h6
  · exact narB_small h8 (by omega)
  · exact h6
theorem sure_er {R : Nat → Rat} {p q : Int} {b : Nat} {L H : Int} (hn : p * p < q * q * ((b : Int) + 32)) (h : SureOf b (ErPr R p q) L H) : ErV R p q b L H := by
  obtain ⟨m, lo, hi, ⟨s, e, ⟨c1, c2, c3, c4, c5⟩, f1, f2⟩, hm, e1, e2, h6⟩ := h
  obtain ⟨g1, g2, g3, g4⟩ := sgn2_ok (p := p) (B := b + m) c2 c3 c4
  rw [← f1, ← f2] at g1
  rw [← f1] at g2
  rw [← f2] at g3
  obtain ⟨n1, n2⟩ := sure_nar g1 e1 e2 h6
  have iv := sgn2_iv (p := p) (q := q) c1
  rw [show sgn2 p (s, e) = (lo, hi) by rw [f1, f2]] at iv
  have q0 := Q_pos m
  have qb := Q_pos b
  have e3 : Q (b + m) = Q b * Q m := Q_add b m
  rw [e3] at g2 g3
  have le2 : -(Q b * Q m) ≤ hi := by omega
  have le3 : lo ≤ Q b * Q m := by omega
  have r1 := round_abs (x := lo) (m := Q b) (q := Q m) (by omega) g2 le3
  have r2 := round_abs (x := hi) (m := Q b) (q := Q m) (by omega) le2 g3
  refine ⟨n1, by rw [e1]; exact r1.1, by rw [e2]; exact r2.2.2.2, n2, Or.inr ⟨hn, ?_⟩⟩
  have := Iv.to (B := b) (m := m) iv
  rw [e1, e2]; exact this
theorem sure_ec {R : Nat → Rat} {p q : Int} {b : Nat} {L H : Int} (hn : p * p < q * q * ((b : Int) + 32)) (h : SureOf b (EcPr R p q) L H) : EcV R p q b L H := by
  obtain ⟨m, lo, hi, ⟨s, e, ⟨c1, c2, c3, c4, c5⟩, f1, f2⟩, hm, e1, e2, h6⟩ := h
  obtain ⟨g1, g2, g3, g4⟩ := sgn2_ok (p := p) (B := b + m) c2 c3 c4
  have k1 : lo = Q (b + m) - (sgn2 p (s, e)).2 := f1
  have k2 : hi = Q (b + m) - (sgn2 p (s, e)).1 := f2
  obtain ⟨n1, n2⟩ := sure_nar (show lo ≤ hi by omega) e1 e2 h6
  have iv := rest_has (sgn2_iv (p := p) (q := q) c1)
  rw [show restI (b + m) (sgn2 p (s, e)) = (lo, hi) by rw [f1, f2]] at iv
  have q0 := Q_pos m
  have qb := Q_pos b
  have e3 : Q (b + m) = Q b * Q m := Q_add b m
  have e4 : 2 * Q b * Q m = 2 * (Q b * Q m) := by grind
  have r2 := round_abs (x := hi) (m := 2 * Q b) (q := Q m) (by omega) (by omega) (by omega)
  refine ⟨n1, by rw [e1]; exact Int.ediv_nonneg (by omega) (by omega), by rw [e2]; exact r2.2.2.2, n2, Or.inr ⟨hn, ?_⟩⟩
  have := Iv.to (B := b) (m := m) iv
  rw [e1, e2]; exact this
end Go.Proofs.Ytgmnknmjainabab

namespace Go.Proofs.Ytgmnknmjainabab
set_option linter.unusedVariables false
set_option linter.unusedSimpArgs false
set_option linter.unnecessarySimpa false
open Go.RowKit
attribute [local go_sem ↓] Go.wp_at_zero Go.wp_at_succ

set_option maxRecDepth 100000 in
set_option maxHeartbeats 4000000 in
theorem sure_erf (p1 : Value) (bits Kw KD : Nat) (Pr : Nat → Int → Int → Prop) (W : World) (hb : bits ≤ 120) (hKw : Kw ≤ 900000) (hKD : KD ≤ 100000000) (hE : SureEnds bits Kw Pr)
    (hF : ∀ (m : Nat) w', 32 ≤ m → m ≤ Kw + 120 → Below W.heap.size W w' → Calls Try.prog 42 #[.int .i64 ((bits : Int) + m), p1] w' (fun r w'' => ∃ lo hi, Pr (bits + m) lo hi ∧ SpanAns w' ((bits : Int) + m) KD lo hi r w'')) :
    Calls Try.prog 74 #[.int .i64 bits, .func (.func 42) #[] #[p1]] W (fun r w' => ∃ L H, SureOf bits Pr L H ∧ SpanAns W bits 250 L H r w') := by
  have HF := hide hF
  have HE := hide hE
  clear hF hE
  have hR0 := noc_new W 28
  go_enter Try.func74, Try.ntmps74
  go_wp2_with fail
  go_loopw [5, 6] (fun mm tt wr => ∃ m t : Nat, mm = .int .i64 (m : Int) ∧ tt = .int .i64 (t : Int) ∧ SureInv Kw m t ∧ NoC wr W.heap.size ∧ Below W.heap.size W wr) (fun mm _ _ => Kw + 200 - (intOf mm).toNat)
  case atStart => exact ⟨32, 1, rfl, rfl, ⟨Nat.le_refl _, Nat.le_refl _, by omega, Or.inl ⟨by omega, by omega⟩⟩, hR0, bl1 _ _⟩
  case round =>
    obtain ⟨m, t, rfl, rfl, hinv, R, hB⟩ := hrel
    obtain ⟨hm, ht, htm, hmt⟩ := hinv
    have hmK : m ≤ Kw + 120 := by omega
    have HI := hide hmt
    clear hmt
    go_wp2_with fail
    refine (unhide HF m _ hm hmK hB).mono ?_
    rintro r w1 ⟨lo, hi, hPr, s, rfl, hsb, hsp, hb1⟩
    replace R := R.below hb1
    replace hB := bthen hB hb1
    clear hb1
    obtain ⟨e1, e2, e3, e4⟩ := unhide HE m lo hi hPr
    obtain ⟨v1, v2, v3⟩ := to_width (m := m) e1 e2
    obtain ⟨f1, f2⟩ := to_fit e3 e4
    have HPr := hide hPr
    have HV := hide (And.intro v2 v3)
    have hs0 : 0 ≤ s.bits := by omega
    have hs1 : s.bits ≤ 1000000 := by omega
    have d1 : downZ lo (s.bits - bits) = lo / Q m := by unfold downZ; rw [hsb, if_pos (by omega)]; congr 2; omega
    have d2 : downZ (-hi) (s.bits - bits) = -hi / Q m := by unfold downZ; rw [hsb, if_pos (by omega)]; congr 2; omega
    have HD1 := hide d1
    have HD2 := hide d2
    clear hPr e1 e2 e3 e4 v2 v3 d1 d2 hsb
    go_wp2_with fail
    refine (wideTo_int _ s KD bits lo hi hsp (by omega) hs0 hs1 (by omega) (by omega)).mono ?_
    rintro r w2 ⟨u, rfl, hub, hup, hb2⟩
    rw [unhide HD1, unhide HD2] at hup
    obtain ⟨L, hL⟩ : ∃ L, L = lo / Q m := ⟨_, rfl⟩
    obtain ⟨H, hH⟩ : ∃ H, H = -(-hi / Q m) := ⟨_, rfl⟩
    rw [← hL, ← hH] at hup v1
    rw [← hL] at f1
    rw [← hH] at f2
    have HV2 := hide (show (Kw ≤ m → H - L ≤ 2) ∧ (m ≤ Kw → H - L ≤ Q (Kw - m) + 1) by rw [hL, hH]; exact unhide HV)
    have HL := hide hL
    have HH := hide hH
    replace hup := hup.fits (K := 250) (by omega) f1 f2
    replace R := R.below hb2
    replace hB := bthen hB hb2
    have HUB := hide hub
    clear hb2 hL hH hub hs0 hs1 HD1 HD2 HV hsp
    have lR := R.lt
    obtain ⟨V, hV⟩ : ∃ V, V = w2.alloc (.cells #[.bool u.ln, .slice u.la u.lN u.lc, .bool u.hn, .slice u.ha u.hN u.hc, .int .i64 u.bits] 28) := ⟨_, rfl⟩
    have bV : Below w2.heap.size w2 V := by rw [hV]; exact bl1 _ _
    have U : SpC V w2.heap.size u := by rw [hV]; exact ⟨by simp, by simp, by simp, by simp, by simp⟩
    replace R := R.below bV
    replace hB := bthen hB bV
    replace hup := hup.below bV
    clear bV
    go_wp2_with fail
    rw [← hV]
    clear hV
    refine (sub_int _ _ _ _ _ _ _ _ 250 250 H L _ hup.hi hup.lo (by omega) (by omega)).mono ?_
    rintro r w3 ⟨neg3, a3, n3, c3, rfl, hint3, hb3⟩
    replace U := U.below hb3
    replace R := R.below hb3
    replace hB := bthen hB hb3
    replace hup := hup.below hb3
    clear hb3
    go_wp2_with fail
    refine (len_int _ _ _ _ _ (H - L) _ hint3 v1).mono ?_
    rintro r w4 ⟨l, hlen, rfl, hb4⟩
    replace U := U.below hb4
    replace R := R.below hb4
    replace hB := bthen hB hb4
    replace hup := hup.below hb4
    clear hb4 hint3
    have hlb : 0 ≤ l ∧ l ≤ Kw + 2 ∧ (m ≤ Kw → l ≤ Kw - m + 2) ∧ (Kw ≤ m → l ≤ 2) := by
      obtain ⟨g1, g2⟩ := unhide HV2
      refine ⟨hlen.1, ?_, fun h => ?_, fun h => ?_⟩
      · rcases Nat.le_total m Kw with h | h
        · have := len_bd (K := Kw - m) hlen (g2 h) v1; omega
        · have := len_two hlen (g1 h) v1; omega
      · have := len_bd (K := Kw - m) hlen (g2 h) v1; omega
      · exact len_two hlen (g1 h) v1
    obtain ⟨hl0, hl1, hl2, hl3⟩ := hlb
    have HL2 := hide (And.intro hl2 hl3)
    have HLen := hide hlen
    clear hl2 hl3 hlen
    have lU := U.lt
    have lR2 := R.lt
    have nRU : W.heap.size ≠ w2.heap.size := by omega
    have nRU' : w2.heap.size ≠ W.heap.size := by omega
    have HU := hide U
    obtain ⟨x0, x1, x2, x3, x4⟩ := U
    by_cases hc : l ≤ 1
    · have hN := R
      obtain ⟨q0, q1, q2, q3, q4, q5⟩ := R
      have Hc := hide hc
      go_wp2_with fail
      refine bodyPost_ret (v := .agg #[.bool u.ln, .slice u.la u.lN u.lc, .bool u.hn, .slice u.ha u.hN u.hc, .int .i64 u.bits]) (by simp [results, Try.results74, go_sem, q0, q1, q2, q3, q4]) rfl ⟨L, H, ⟨m, lo, hi, unhide HPr, hm, unhide HL, unhide HH, Or.inl (len_one (unhide HLen) (unhide Hc) v1)⟩, u, rfl, unhide HUB, ?_, ?_⟩
      · exact SpAt.put5 hup q0 q1 q2 q3 q4 _ _ _ _ _
      · exact set5 hB (Nat.le_refl _) _ _ _ _ _
    · by_cases ht3 : 3 ≤ t
      · have ht3' : (3 : Int) ≤ (t : Int) := by omega
        cases hn : narB L H (Q bits) 4
        · have hmK2 : m < Kw := by
            refine Nat.lt_of_not_le fun h => ?_
            have h5 := (unhide HV2).1 h
            rw [narB_small (by omega) (by omega)] at hn
            cases hn
          go_wp2_with fail
          refine (narrow_int _ u bits 4 L H hup (unhide HUB) hb (by omega)).mono ?_
          rintro r w5 ⟨rfl, hb5⟩
          rw [show narB L H (Q bits) ((4 : Nat) : Int) = false from hn]
          replace R := R.below hb5
          replace hB := bthen hB hb5
          go_wp2_with fail
          go_roundw
          case rel => exact ⟨m + l.toNat + 32, t + 1, by congr 1; omega, by congr 1, ⟨by omega, by omega, by omega, Or.inr (by have := (unhide HL2).1; omega)⟩, R, hB⟩
          case measure => simp [intOf]; omega
        · go_wp2_with fail
          refine (narrow_int _ u bits 4 L H hup (unhide HUB) hb (by omega)).mono ?_
          rintro r w5 ⟨rfl, hb5⟩
          rw [show narB L H (Q bits) ((4 : Nat) : Int) = true from hn]
          replace R := R.below hb5
          replace hB := bthen hB hb5
          replace hup := hup.below hb5
          obtain ⟨y0, y1, y2, y3, y4⟩ := (unhide HU).below hb5
          obtain ⟨q0, q1, q2, q3, q4, q5⟩ := R
          have lU2 := Nat.lt_of_lt_of_le lU hb5.size
          have lR3 := Nat.lt_of_lt_of_le lR2 hb5.size
          clear hb5 x0 x1 x2 x3 x4
          go_wp2_with fail
          refine bodyPost_ret (v := .agg #[.bool u.ln, .slice u.la u.lN u.lc, .bool u.hn, .slice u.ha u.hN u.hc, .int .i64 u.bits]) (by simp [results, Try.results74, go_sem, q0, q1, q2, q3, q4]) rfl ⟨L, H, ⟨m, lo, hi, unhide HPr, hm, unhide HL, unhide HH, Or.inr hn⟩, u, rfl, unhide HUB, ?_, ?_⟩
          · exact SpAt.put5 hup q0 q1 q2 q3 q4 _ _ _ _ _
          · exact set5 hB (Nat.le_refl _) _ _ _ _ _
      · have ht3' : ¬ (3 : Int) ≤ (t : Int) := by omega
        go_wp2_with fail
        go_roundw
        case rel => exact ⟨m + l.toNat + 32, t + 1, by congr 1; omega, by congr 1, ⟨by omega, by omega, by omega, by
          have g1 := (unhide HL2).1
          have g2 := (unhide HL2).2
          have g3 := unhide HI
          rcases Nat.le_total m Kw with h | h
          · have := g1 h; exact Or.inr (by omega)
          · have := g2 h; exact Or.inl ⟨by omega, by omega⟩⟩, R, hB⟩
        case measure => simp [intOf]; omega

set_option maxRecDepth 100000 in
set_option maxHeartbeats 4000000 in
theorem sure1_erf (p1 : Value) (bits KD : Nat) (lo hi L H : Int) (W : World) (hb : bits ≤ 120) (hKD : KD ≤ 100000000) (hL : L = lo / Q 32) (hH : H = -(-hi / Q 32)) (v1 : 0 ≤ H - L) (hw : H - L ≤ 1) (f1 : -P 250 < L) (f2 : H < P 250)
    (hF : ∀ w', Below W.heap.size W w' → Calls Try.prog 42 #[.int .i64 ((bits : Int) + 32), p1] w' (SpanAns w' ((bits : Int) + 32) KD lo hi)) :
    Calls Try.prog 74 #[.int .i64 bits, .func (.func 42) #[] #[p1]] W (SpanAns W bits 250 L H) := by
  have HF := hide hF
  have HLL := hide hL
  have HHH := hide hH
  clear hF hL hH
  have hR0 := noc_new W 28
  go_enter Try.func74, Try.ntmps74
  go_wp2_with fail
  go_loopw [5, 6] (fun mm tt wr => mm = .int .i64 32 ∧ tt = .int .i64 1 ∧ NoC wr W.heap.size ∧ Below W.heap.size W wr) (fun _ _ _ => 0)
  case atStart => exact ⟨rfl, rfl, hR0, bl1 _ _⟩
  case round =>
    obtain ⟨rfl, rfl, R, hB⟩ := hrel
    go_wp2_with fail
    refine (unhide HF _ hB).mono ?_
    rintro r w1 ⟨s, rfl, hsb, hsp, hb1⟩
    replace R := R.below hb1
    replace hB := bthen hB hb1
    clear hb1
    have hs0 : 0 ≤ s.bits := by omega
    have hs1 : s.bits ≤ 1000000 := by omega
    have d1 : downZ lo (s.bits - bits) = L := by rw [unhide HLL]; unfold downZ; rw [hsb, if_pos (by omega)]; congr 2; omega
    have d2 : -downZ (-hi) (s.bits - bits) = H := by rw [unhide HHH]; unfold downZ; rw [hsb, if_pos (by omega)]; congr 3; omega
    have HD1 := hide d1
    have HD2 := hide d2
    clear d1 d2 hsb
    go_wp2_with fail
    refine (wideTo_int _ s KD bits lo hi hsp (by omega) hs0 hs1 (by omega) (by omega)).mono ?_
    rintro r w2 ⟨u, rfl, hub, hup, hb2⟩
    rw [unhide HD1, unhide HD2] at hup
    replace hup := hup.fits (K := 250) (by omega) f1 f2
    replace R := R.below hb2
    replace hB := bthen hB hb2
    have HUB := hide hub
    clear hb2 hub hs0 hs1 HD1 HD2 hsp
    have lR := R.lt
    obtain ⟨V, hV⟩ : ∃ V, V = w2.alloc (.cells #[.bool u.ln, .slice u.la u.lN u.lc, .bool u.hn, .slice u.ha u.hN u.hc, .int .i64 u.bits] 28) := ⟨_, rfl⟩
    have bV : Below w2.heap.size w2 V := by rw [hV]; exact bl1 _ _
    have U : SpC V w2.heap.size u := by rw [hV]; exact ⟨by simp, by simp, by simp, by simp, by simp⟩
    replace R := R.below bV
    replace hB := bthen hB bV
    replace hup := hup.below bV
    clear bV
    go_wp2_with fail
    rw [← hV]
    clear hV
    refine (sub_int _ _ _ _ _ _ _ _ 250 250 H L _ hup.hi hup.lo (by omega) (by omega)).mono ?_
    rintro r w3 ⟨neg3, a3, n3, c3, rfl, hint3, hb3⟩
    replace U := U.below hb3
    replace R := R.below hb3
    replace hB := bthen hB hb3
    replace hup := hup.below hb3
    clear hb3
    go_wp2_with fail
    refine (len_int _ _ _ _ _ (H - L) _ hint3 v1).mono ?_
    rintro r w4 ⟨l, hlen, rfl, hb4⟩
    replace U := U.below hb4
    replace R := R.below hb4
    replace hB := bthen hB hb4
    replace hup := hup.below hb4
    have hc : l ≤ 1 := by
      obtain ⟨g1, g2, g3⟩ := hlen
      by_cases hp : 0 < H - L
      · obtain ⟨L', e1, e2, e3⟩ := g3 hp
        have : ¬ 1 ≤ L' := fun h => by
          have := Q_mono h
          have : Q 1 = 2 := rfl
          omega
        omega
      · have := g2 (by omega); omega
    clear hb4 hint3 hlen
    have lU := U.lt
    have lR2 := R.lt
    have nRU : W.heap.size ≠ w2.heap.size := by omega
    have nRU' : w2.heap.size ≠ W.heap.size := by omega
    obtain ⟨x0, x1, x2, x3, x4⟩ := U
    obtain ⟨q0, q1, q2, q3, q4, q5⟩ := R
    go_wp2_with fail
    refine bodyPost_ret (v := .agg #[.bool u.ln, .slice u.la u.lN u.lc, .bool u.hn, .slice u.ha u.hN u.hc, .int .i64 u.bits]) (by simp [results, Try.results74, go_sem, q0, q1, q2, q3, q4]) rfl ⟨u, rfl, unhide HUB, ?_, ?_⟩
    · exact SpAt.put5 hup q0 q1 q2 q3 q4 _ _ _ _ _
    · exact set5 hB (Nat.le_refl _) _ _ _ _ _

set_option maxRecDepth 100000 in
set_option maxHeartbeats 4000000 in
theorem sure_erfc (p1 : Value) (bits Kw KD : Nat) (Pr : Nat → Int → Int → Prop) (W : World) (hb : bits ≤ 120) (hKw : Kw ≤ 900000) (hKD : KD ≤ 100000000) (hE : SureEnds bits Kw Pr)
    (hF : ∀ (m : Nat) w', 32 ≤ m → m ≤ Kw + 120 → Below W.heap.size W w' → Calls Try.prog 44 #[.int .i64 ((bits : Int) + m), p1] w' (fun r w'' => ∃ lo hi, Pr (bits + m) lo hi ∧ SpanAns w' ((bits : Int) + m) KD lo hi r w'')) :
    Calls Try.prog 74 #[.int .i64 bits, .func (.func 44) #[] #[p1]] W (fun r w' => ∃ L H, SureOf bits Pr L H ∧ SpanAns W bits 250 L H r w') := by
  have HF := hide hF
  have HE := hide hE
  clear hF hE
  have hR0 := noc_new W 28
  go_enter Try.func74, Try.ntmps74
  go_wp2_with fail
  go_loopw [5, 6] (fun mm tt wr => ∃ m t : Nat, mm = .int .i64 (m : Int) ∧ tt = .int .i64 (t : Int) ∧ SureInv Kw m t ∧ NoC wr W.heap.size ∧ Below W.heap.size W wr) (fun mm _ _ => Kw + 200 - (intOf mm).toNat)
  case atStart => exact ⟨32, 1, rfl, rfl, ⟨Nat.le_refl _, Nat.le_refl _, by omega, Or.inl ⟨by omega, by omega⟩⟩, hR0, bl1 _ _⟩
  case round =>
    obtain ⟨m, t, rfl, rfl, hinv, R, hB⟩ := hrel
    obtain ⟨hm, ht, htm, hmt⟩ := hinv
    have hmK : m ≤ Kw + 120 := by omega
    have HI := hide hmt
    clear hmt
    go_wp2_with fail
    refine (unhide HF m _ hm hmK hB).mono ?_
    rintro r w1 ⟨lo, hi, hPr, s, rfl, hsb, hsp, hb1⟩
    replace R := R.below hb1
    replace hB := bthen hB hb1
    clear hb1
    obtain ⟨e1, e2, e3, e4⟩ := unhide HE m lo hi hPr
    obtain ⟨v1, v2, v3⟩ := to_width (m := m) e1 e2
    obtain ⟨f1, f2⟩ := to_fit e3 e4
    have HPr := hide hPr
    have HV := hide (And.intro v2 v3)
    have hs0 : 0 ≤ s.bits := by omega
    have hs1 : s.bits ≤ 1000000 := by omega
    have d1 : downZ lo (s.bits - bits) = lo / Q m := by unfold downZ; rw [hsb, if_pos (by omega)]; congr 2; omega
    have d2 : downZ (-hi) (s.bits - bits) = -hi / Q m := by unfold downZ; rw [hsb, if_pos (by omega)]; congr 2; omega
    have HD1 := hide d1
    have HD2 := hide d2
    clear hPr e1 e2 e3 e4 v2 v3 d1 d2 hsb
    go_wp2_with fail
    refine (wideTo_int _ s KD bits lo hi hsp (by omega) hs0 hs1 (by omega) (by omega)).mono ?_
    rintro r w2 ⟨u, rfl, hub, hup, hb2⟩
    rw [unhide HD1, unhide HD2] at hup
    obtain ⟨L, hL⟩ : ∃ L, L = lo / Q m := ⟨_, rfl⟩
    obtain ⟨H, hH⟩ : ∃ H, H = -(-hi / Q m) := ⟨_, rfl⟩
    rw [← hL, ← hH] at hup v1
    rw [← hL] at f1
    rw [← hH] at f2
    have HV2 := hide (show (Kw ≤ m → H - L ≤ 2) ∧ (m ≤ Kw → H - L ≤ Q (Kw - m) + 1) by rw [hL, hH]; exact unhide HV)
    have HL := hide hL
    have HH := hide hH
    replace hup := hup.fits (K := 250) (by omega) f1 f2
    replace R := R.below hb2
    replace hB := bthen hB hb2
    have HUB := hide hub
    clear hb2 hL hH hub hs0 hs1 HD1 HD2 HV hsp
    have lR := R.lt
    obtain ⟨V, hV⟩ : ∃ V, V = w2.alloc (.cells #[.bool u.ln, .slice u.la u.lN u.lc, .bool u.hn, .slice u.ha u.hN u.hc, .int .i64 u.bits] 28) := ⟨_, rfl⟩
    have bV : Below w2.heap.size w2 V := by rw [hV]; exact bl1 _ _
    have U : SpC V w2.heap.size u := by rw [hV]; exact ⟨by simp, by simp, by simp, by simp, by simp⟩
    replace R := R.below bV
    replace hB := bthen hB bV
    replace hup := hup.below bV
    clear bV
    go_wp2_with fail
    rw [← hV]
    clear hV
    refine (sub_int _ _ _ _ _ _ _ _ 250 250 H L _ hup.hi hup.lo (by omega) (by omega)).mono ?_
    rintro r w3 ⟨neg3, a3, n3, c3, rfl, hint3, hb3⟩
    replace U := U.below hb3
    replace R := R.below hb3
    replace hB := bthen hB hb3
    replace hup := hup.below hb3
    clear hb3
    go_wp2_with fail
    refine (len_int _ _ _ _ _ (H - L) _ hint3 v1).mono ?_
    rintro r w4 ⟨l, hlen, rfl, hb4⟩
    replace U := U.below hb4
    replace R := R.below hb4
    replace hB := bthen hB hb4
    replace hup := hup.below hb4
    clear hb4 hint3
    have hlb : 0 ≤ l ∧ l ≤ Kw + 2 ∧ (m ≤ Kw → l ≤ Kw - m + 2) ∧ (Kw ≤ m → l ≤ 2) := by
      obtain ⟨g1, g2⟩ := unhide HV2
      refine ⟨hlen.1, ?_, fun h => ?_, fun h => ?_⟩
      · rcases Nat.le_total m Kw with h | h
        · have := len_bd (K := Kw - m) hlen (g2 h) v1; omega
        · have := len_two hlen (g1 h) v1; omega
      · have := len_bd (K := Kw - m) hlen (g2 h) v1; omega
      · exact len_two hlen (g1 h) v1
    obtain ⟨hl0, hl1, hl2, hl3⟩ := hlb
    have HL2 := hide (And.intro hl2 hl3)
    have HLen := hide hlen
    clear hl2 hl3 hlen
    have lU := U.lt
    have lR2 := R.lt
    have nRU : W.heap.size ≠ w2.heap.size := by omega
    have nRU' : w2.heap.size ≠ W.heap.size := by omega
    have HU := hide U
    obtain ⟨x0, x1, x2, x3, x4⟩ := U
    by_cases hc : l ≤ 1
    · have hN := R
      obtain ⟨q0, q1, q2, q3, q4, q5⟩ := R
      have Hc := hide hc
      go_wp2_with fail
      refine bodyPost_ret (v := .agg #[.bool u.ln, .slice u.la u.lN u.lc, .bool u.hn, .slice u.ha u.hN u.hc, .int .i64 u.bits]) (by simp [results, Try.results74, go_sem, q0, q1, q2, q3, q4]) rfl ⟨L, H, ⟨m, lo, hi, unhide HPr, hm, unhide HL, unhide HH, Or.inl (len_one (unhide HLen) (unhide Hc) v1)⟩, u, rfl, unhide HUB, ?_, ?_⟩
      · exact SpAt.put5 hup q0 q1 q2 q3 q4 _ _ _ _ _
      · exact set5 hB (Nat.le_refl _) _ _ _ _ _
    · by_cases ht3 : 3 ≤ t
      · have ht3' : (3 : Int) ≤ (t : Int) := by omega
        cases hn : narB L H (Q bits) 4
        · have hmK2 : m < Kw := by
            refine Nat.lt_of_not_le fun h => ?_
            have h5 := (unhide HV2).1 h
            rw [narB_small (by omega) (by omega)] at hn
            cases hn
          go_wp2_with fail
          refine (narrow_int _ u bits 4 L H hup (unhide HUB) hb (by omega)).mono ?_
          rintro r w5 ⟨rfl, hb5⟩
          rw [show narB L H (Q bits) ((4 : Nat) : Int) = false from hn]
          replace R := R.below hb5
          replace hB := bthen hB hb5
          go_wp2_with fail
          go_roundw
          case rel => exact ⟨m + l.toNat + 32, t + 1, by congr 1; omega, by congr 1, ⟨by omega, by omega, by omega, Or.inr (by have := (unhide HL2).1; omega)⟩, R, hB⟩
          case measure => simp [intOf]; omega
        · go_wp2_with fail
          refine (narrow_int _ u bits 4 L H hup (unhide HUB) hb (by omega)).mono ?_
          rintro r w5 ⟨rfl, hb5⟩
          rw [show narB L H (Q bits) ((4 : Nat) : Int) = true from hn]
          replace R := R.below hb5
          replace hB := bthen hB hb5
          replace hup := hup.below hb5
          obtain ⟨y0, y1, y2, y3, y4⟩ := (unhide HU).below hb5
          obtain ⟨q0, q1, q2, q3, q4, q5⟩ := R
          have lU2 := Nat.lt_of_lt_of_le lU hb5.size
          have lR3 := Nat.lt_of_lt_of_le lR2 hb5.size
          clear hb5 x0 x1 x2 x3 x4
          go_wp2_with fail
          refine bodyPost_ret (v := .agg #[.bool u.ln, .slice u.la u.lN u.lc, .bool u.hn, .slice u.ha u.hN u.hc, .int .i64 u.bits]) (by simp [results, Try.results74, go_sem, q0, q1, q2, q3, q4]) rfl ⟨L, H, ⟨m, lo, hi, unhide HPr, hm, unhide HL, unhide HH, Or.inr hn⟩, u, rfl, unhide HUB, ?_, ?_⟩
          · exact SpAt.put5 hup q0 q1 q2 q3 q4 _ _ _ _ _
          · exact set5 hB (Nat.le_refl _) _ _ _ _ _
      · have ht3' : ¬ (3 : Int) ≤ (t : Int) := by omega
        go_wp2_with fail
        go_roundw
        case rel => exact ⟨m + l.toNat + 32, t + 1, by congr 1; omega, by congr 1, ⟨by omega, by omega, by omega, by
          have g1 := (unhide HL2).1
          have g2 := (unhide HL2).2
          have g3 := unhide HI
          rcases Nat.le_total m Kw with h | h
          · have := g1 h; exact Or.inr (by omega)
          · have := g2 h; exact Or.inl ⟨by omega, by omega⟩⟩, R, hB⟩
        case measure => simp [intOf]; omega

set_option maxRecDepth 100000 in
set_option maxHeartbeats 4000000 in
theorem sure1_erfc (p1 : Value) (bits KD : Nat) (lo hi L H : Int) (W : World) (hb : bits ≤ 120) (hKD : KD ≤ 100000000) (hL : L = lo / Q 32) (hH : H = -(-hi / Q 32)) (v1 : 0 ≤ H - L) (hw : H - L ≤ 1) (f1 : -P 250 < L) (f2 : H < P 250)
    (hF : ∀ w', Below W.heap.size W w' → Calls Try.prog 44 #[.int .i64 ((bits : Int) + 32), p1] w' (SpanAns w' ((bits : Int) + 32) KD lo hi)) :
    Calls Try.prog 74 #[.int .i64 bits, .func (.func 44) #[] #[p1]] W (SpanAns W bits 250 L H) := by
  have HF := hide hF
  have HLL := hide hL
  have HHH := hide hH
  clear hF hL hH
  have hR0 := noc_new W 28
  go_enter Try.func74, Try.ntmps74
  go_wp2_with fail
  go_loopw [5, 6] (fun mm tt wr => mm = .int .i64 32 ∧ tt = .int .i64 1 ∧ NoC wr W.heap.size ∧ Below W.heap.size W wr) (fun _ _ _ => 0)
  case atStart => exact ⟨rfl, rfl, hR0, bl1 _ _⟩
  case round =>
    obtain ⟨rfl, rfl, R, hB⟩ := hrel
    go_wp2_with fail
    refine (unhide HF _ hB).mono ?_
    rintro r w1 ⟨s, rfl, hsb, hsp, hb1⟩
    replace R := R.below hb1
    replace hB := bthen hB hb1
    clear hb1
    have hs0 : 0 ≤ s.bits := by omega
    have hs1 : s.bits ≤ 1000000 := by omega
    have d1 : downZ lo (s.bits - bits) = L := by rw [unhide HLL]; unfold downZ; rw [hsb, if_pos (by omega)]; congr 2; omega
    have d2 : -downZ (-hi) (s.bits - bits) = H := by rw [unhide HHH]; unfold downZ; rw [hsb, if_pos (by omega)]; congr 3; omega
    have HD1 := hide d1
    have HD2 := hide d2
    clear d1 d2 hsb
    go_wp2_with fail
    refine (wideTo_int _ s KD bits lo hi hsp (by omega) hs0 hs1 (by omega) (by omega)).mono ?_
    rintro r w2 ⟨u, rfl, hub, hup, hb2⟩
    rw [unhide HD1, unhide HD2] at hup
    replace hup := hup.fits (K := 250) (by omega) f1 f2
    replace R := R.below hb2
    replace hB := bthen hB hb2
    have HUB := hide hub
    clear hb2 hub hs0 hs1 HD1 HD2 hsp
    have lR := R.lt
    obtain ⟨V, hV⟩ : ∃ V, V = w2.alloc (.cells #[.bool u.ln, .slice u.la u.lN u.lc, .bool u.hn, .slice u.ha u.hN u.hc, .int .i64 u.bits] 28) := ⟨_, rfl⟩
    have bV : Below w2.heap.size w2 V := by rw [hV]; exact bl1 _ _
    have U : SpC V w2.heap.size u := by rw [hV]; exact ⟨by simp, by simp, by simp, by simp, by simp⟩
    replace R := R.below bV
    replace hB := bthen hB bV
    replace hup := hup.below bV
    clear bV
    go_wp2_with fail
    rw [← hV]
    clear hV
    refine (sub_int _ _ _ _ _ _ _ _ 250 250 H L _ hup.hi hup.lo (by omega) (by omega)).mono ?_
    rintro r w3 ⟨neg3, a3, n3, c3, rfl, hint3, hb3⟩
    replace U := U.below hb3
    replace R := R.below hb3
    replace hB := bthen hB hb3
    replace hup := hup.below hb3
    clear hb3
    go_wp2_with fail
    refine (len_int _ _ _ _ _ (H - L) _ hint3 v1).mono ?_
    rintro r w4 ⟨l, hlen, rfl, hb4⟩
    replace U := U.below hb4
    replace R := R.below hb4
    replace hB := bthen hB hb4
    replace hup := hup.below hb4
    have hc : l ≤ 1 := by
      obtain ⟨g1, g2, g3⟩ := hlen
      by_cases hp : 0 < H - L
      · obtain ⟨L', e1, e2, e3⟩ := g3 hp
        have : ¬ 1 ≤ L' := fun h => by
          have := Q_mono h
          have : Q 1 = 2 := rfl
          omega
        omega
      · have := g2 (by omega); omega
    clear hb4 hint3 hlen
    have lU := U.lt
    have lR2 := R.lt
    have nRU : W.heap.size ≠ w2.heap.size := by omega
    have nRU' : w2.heap.size ≠ W.heap.size := by omega
    obtain ⟨x0, x1, x2, x3, x4⟩ := U
    obtain ⟨q0, q1, q2, q3, q4, q5⟩ := R
    go_wp2_with fail
    refine bodyPost_ret (v := .agg #[.bool u.ln, .slice u.la u.lN u.lc, .bool u.hn, .slice u.ha u.hN u.hc, .int .i64 u.bits]) (by simp [results, Try.results74, go_sem, q0, q1, q2, q3, q4]) rfl ⟨u, rfl, unhide HUB, ?_, ?_⟩
    · exact SpAt.put5 hup q0 q1 q2 q3 q4 _ _ _ _ _
    · exact set5 hB (Nat.le_refl _) _ _ _ _ _
end Go.Proofs.Ytgmnknmjainabab
