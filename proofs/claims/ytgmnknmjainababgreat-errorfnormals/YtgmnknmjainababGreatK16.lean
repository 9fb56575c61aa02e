/-
  What wide.Rest, errorf.erf and the function literals of package errorf answer.
  What Erf and Erfc of a ratio are: told of their numbers. Plain arithmetic: no statement of the seat is proved here.
  What wide.Sure answers of what is made by the function literals of package errorf.
  What errorf.Erf and errorf.Erfc answer, errors too, and that they leave old memory alone.
  The error function of the opposite, of what is more; and what Erf and Erfc are together: told of their numbers. Plain arithmetic: no statement of the seat is proved here.
  Whether two spans touch (tailsureref.Touch), and that it leaves old memory alone.
  What comes of being sure of a power or of a logarithm; tailsurelaw.powerBegun is true; tailsurelaw.touch.
  Two variables of spans in memory that are made in one statement, wherever they came to lie.
  What tailsureref.lowExp answers, and that it leaves old memory alone.
  What tailsureref.Raised answers, and that it leaves old memory alone.
  What tailsureref.Exp answers of whatever number, and tailsureref.ExpOf of a span; that they leave old memory alone.
-/
import Derived.Test.YtgmnknmjainababGreatK15
namespace Go.Proofs.YtgmnknmjainababGreat
set_option linter.unusedVariables false
set_option linter.unusedSimpArgs false
set_option linter.unnecessarySimpa false
open Go.RowKit
attribute [local go_sem ↓] Go.wp_at_zero Go.wp_at_succ

/-- What every call of wide.Erf answers of the square of a ratio. -/
def ErfIs (p q : Int) (B : Nat) (s e : Int) : Prop := ∀ (w' : World) (x y : Nm), IntAt w' x.neg x.a x.n x.cap 8 (p * p) → IntAt w' y.neg y.a y.n y.cap 8 (q * q) →
  Calls Tryz.prog 94 #[.agg #[.bool x.neg, .slice x.a x.n x.cap], .agg #[.bool y.neg, .slice y.a y.n y.cap], .int .i64 B] w' (SpanAns w' B 3000 s e)
/-- The opposite, where the ratio is below 0. -/
def sgn2 (p : Int) (a : Int × Int) : Int × Int := if p < 0 then (-a.2, -a.1) else a
/-- What is left up to 1. -/
def restI (B : Nat) (a : Int × Int) : Int × Int := (Q B - a.2, Q B - a.1)
theorem sq_bd {p : Int} (h1 : -1048576 ≤ p) (h2 : p ≤ 1048576) : 0 ≤ p * p ∧ p * p ≤ 1099511627776 := by
  refine ⟨?_, ?_⟩
  · rcases Int.le_total 0 p with h | h
    · exact Int.mul_nonneg h h
    · have := Int.mul_nonneg (show 0 ≤ -p by omega) (show 0 ≤ -p by omega)
      have e : -p * -p = p * p := by grind
      omega
  · have := abs_mul h1 h2 h1 h2
    omega

theorem one_z {b : Nat} (z : Int) (hz : z = (b : Int)) (w : World) (hb : b ≤ 1000000) : Calls Tryz.prog 133 #[.int .i64 z] w (SpanAns w b (b / 16 + 24) (1 * Q b / 1) (-(-(1 * Q b) / 1))) := by
  subst hz
  exact one_int w b hb

set_option maxRecDepth 100000 in
set_option maxHeartbeats 2000000 in
theorem rest_iv (w : World) (s : Sp) (k b : Nat) (a : Int × Int) (hs : SpAt w s k a.1 a.2) (hbits : s.bits = (b : Int)) (hb : b ≤ 100000) (hk0 : b / 16 + 24 ≤ k) (hk : k ≤ 100000000) :
    Calls Tryz.prog 70 #[.agg #[.bool s.ln, .slice s.la s.lN s.lc, .bool s.hn, .slice s.ha s.hN s.hc, .int .i64 s.bits]] w (SpanAns w b (k + 1) (restI b a).1 (restI b a).2) := by
  obtain ⟨W, hW⟩ : ∃ W, W = (w.alloc (.cells #[.bool s.ln, .slice s.la s.lN s.lc, .bool s.hn, .slice s.ha s.hN s.hc, .int .i64 s.bits] 28)).alloc (.cells #[.bool false, .slice none 0 0, .bool false, .slice none 0 0, .int .i64 0] 28) := ⟨_, rfl⟩
  have hBW : Below w.heap.size w W := by rw [hW]; exact bl2 _ _ _
  have A : SpC W w.heap.size s := by rw [hW]; exact ⟨by simp [go_sem], by simp [go_sem], by simp [go_sem], by simp [go_sem], by simp [go_sem]⟩
  have R : NoC W (w.heap.size + 1) := by rw [hW]; exact ⟨by simp [go_sem], by simp [go_sem], by simp [go_sem], by simp [go_sem], by simp [go_sem], fun o => by simp [go_sem]⟩
  have HS := hide (hs.below hBW)
  have HB := hide hbits
  have lA := A.lt
  have lR := R.lt
  have HO := hide (show (1 * Q b / 1, -(-(1 * Q b) / 1)) = (Q b, Q b) by rw [Int.ediv_one, Int.ediv_one]; simp)
  have hB0 : Below W.heap.size W W.drew := (Below.refl _ _).drew
  have HK := hide (show ∀ w', Below W.heap.size W w' → (w'.cell? ⟨w.heap.size, 0, none⟩ = some (.bool s.ln) ∧ w'.cell? ⟨w.heap.size, 1, none⟩ = some (.slice s.la s.lN s.lc) ∧ w'.cell? ⟨w.heap.size, 2, none⟩ = some (.bool s.hn) ∧ w'.cell? ⟨w.heap.size, 3, none⟩ = some (.slice s.ha s.hN s.hc) ∧ w'.cell? ⟨w.heap.size, 4, none⟩ = some (.int .i64 s.bits)) from fun w' hB => ⟨(A.below hB).c0, (A.below hB).c1, (A.below hB).c2, (A.below hB).c3, (A.below hB).c4⟩)
  clear hs hbits
  go_enter Tryz.func70, Tryz.ntmps70
  go_wp2
  rw [← hW]
  clear hW
  obtain ⟨x0, x1, x2, x3, x4⟩ := A
  go_region_held3 (fun w' => w'.cell? ⟨w.heap.size, 0, none⟩ = some (.bool s.ln) ∧ w'.cell? ⟨w.heap.size, 1, none⟩ = some (.slice s.la s.lN s.lc) ∧ w'.cell? ⟨w.heap.size, 2, none⟩ = some (.bool s.hn) ∧ w'.cell? ⟨w.heap.size, 3, none⟩ = some (.slice s.ha s.hN s.hc) ∧ w'.cell? ⟨w.heap.size, 4, none⟩ = some (.int .i64 s.bits)) (first | exact unhide HK _ (by first | with_reducible exact hB0 | with_reducible exact hB2 | with_reducible exact hB1) | go_keep)
    (first
      | (go_at_call 118; have hq := hB1; refine (sub_iv _ v1 s k b (1 * Q b / 1, -(-(1 * Q b) / 1)) a (hvp1.mono hk0) ((unhide HS).below hB1) (by omega) (unhide HV)).mono ?_; rintro r w2 ⟨t, rfl, htb, htp, hb2⟩; have HT := hide htb; clear htb; have hB2 := bthen hB1 hb2; obtain ⟨q0, q1, q2, q3, q4, q5⟩ := R.below hB2; obtain ⟨i0, i1, i2, i3, i4⟩ := unhide HK _ hB2)
      | (go_at_call 133; refine (one_z _ (unhide HB) _ (by omega)).mono ?_; rintro r w1 ⟨v1, rfl, hvb1, hvp1, hb1⟩; have HV := hide hvb1; clear hvb1; have hB1 := bthen hB0 hb1))
  all_goals
    go_wp2
    refine bodyPost_ret (v := .agg #[.bool t.ln, .slice t.la t.lN t.lc, .bool t.hn, .slice t.ha t.hN t.hc, .int .i64 t.bits]) (by simp [results, Tryz.results70, go_sem, q0, q1, q2, q3, q4]) rfl ⟨t, rfl, unhide HT, ?_, ?_⟩
    · rw [unhide HO] at htp
      exact SpAt.put5 htp q0 q1 q2 q3 q4 _ _ _ _ _
    · exact set5 (bthen hBW hB2) (Nat.le_succ _) _ _ _ _ _

set_option maxRecDepth 100000 in
set_option maxHeartbeats 4000000 in
theorem eerf_neg (w : World) (p q : Int) (b : Nat) (s e : Int) (hr : rok p q) (hb : b ≤ 100000) (hp : p < 0) (hE : ErfIs p q b s e) :
    Calls Tryz.prog 100 #[.agg #[.int .i64 p, .int .i64 q], .int .i64 b] w (SpanAns w b 3001 (-e) (-s)) := by
  obtain ⟨W, hW⟩ : ∃ W, W = (w.alloc (.cells #[.int .i64 p, .int .i64 q] 23)).alloc (.cells #[.bool false, .slice none 0 0, .bool false, .slice none 0 0, .int .i64 0] 28) := ⟨_, rfl⟩
  have hBW : Below w.heap.size w W := by rw [hW]; exact bl2 _ _ _
  have A : RaC W w.heap.size p q := by rw [hW]; exact ⟨by simp [go_sem], by simp [go_sem]⟩
  have R : NoC W (w.heap.size + 1) := by rw [hW]; exact ⟨by simp [go_sem], by simp [go_sem], by simp [go_sem], by simp [go_sem], by simp [go_sem], fun o => by simp [go_sem]⟩
  obtain ⟨r1, r2, r3, r4⟩ := hr
  obtain ⟨a1, a2⟩ := sq_bd r1 r2
  obtain ⟨a3, a4⟩ := sq_bd (p := q) (by omega) (by omega)
  have HE1 := hide (show IntKind.i64.wrap (p * p) = p * p from i64_id _ (by omega) (by omega))
  have HE2 := hide (show IntKind.i64.wrap (q * q) = q * q from i64_id _ (by omega) (by omega))
  have HQ1 := hide (show -9223372036854775808 ≤ p * p ∧ p * p ≤ 9223372036854775807 from ⟨by omega, by omega⟩)
  have HQ2 := hide (show -9223372036854775808 ≤ q * q ∧ q * q ≤ 9223372036854775807 from ⟨by omega, by omega⟩)
  have HE := hide hE
  have lA := A.lt
  have lR := R.lt
  have HK := hide (show ∀ w', Below W.heap.size W w' → (w'.cell? ⟨w.heap.size, 0, none⟩ = some (.int .i64 p) ∧ w'.cell? ⟨w.heap.size, 1, none⟩ = some (.int .i64 q)) from fun w' hB => ⟨(A.below hB).c0, (A.below hB).c1⟩)
  have HP := hide hp
  clear hE a1 a2 a3 a4 r1 r2 r3 r4 hp
  go_enter Tryz.func100, Tryz.ntmps100
  go_wp2
  rw [← hW]
  clear hW A lR
  go_cut [5] (fun p wx => ∃ (B : Nat) (u : Sp), p = .pointer (some ⟨B, 0, none⟩) ∧ W.heap.size ≤ B ∧ VrC wx B u ∧ SpAt wx u 3000 (((s, e) : Int × Int)).1 (((s, e) : Int × Int)).2 ∧ u.bits = (b : Int) ∧ Below W.heap.size W wx)
  case first =>
    go_region_held3 (fun w' => w'.cell? ⟨w.heap.size, 0, none⟩ = some (.int .i64 p) ∧ w'.cell? ⟨w.heap.size, 1, none⟩ = some (.int .i64 q)) (exact unhide HK _ (by repeat' (first | with_reducible exact hBU3 | with_reducible exact hBU2 | with_reducible exact hBU1 | with_reducible exact Below.refl _ _ | with_reducible refine Below.drew ?_ | with_reducible refine balloc ?_ _ | with_reducible refine Below.setCell ?_ (by first | exact Nat.le_refl _ | exact hlU1 | exact hlU2 | exact hlU3) _)))
      (first
        | (go_at_call 94; have hq := hBU2; refine (unhide HE _ ⟨negU1, aU1, nU1, cU1⟩ ⟨negU2, aU2, nU2, cU2⟩ ((hintU1.below (by first | with_reducible exact Below.refl _ _ | with_reducible exact bl1 _ _)).mono (by omega)) ((hintU2.below (by first | with_reducible exact Below.refl _ _ | with_reducible exact bl1 _ _)).mono (by omega))).mono ?_; rintro r wU3 ⟨vU3, rfl, hvbU3, hintU3, hbU3⟩; have HVBU3 := hide hvbU3; clear hvbU3; have hCU3 : Below wU2.heap.size wU2 wU3 := (by first | with_reducible exact hbU3 | with_reducible exact bthen (bl1 _ _) hbU3); have hBU3 := bthen hBU2 hCU3; (try with_reducible have gU3 := (noc_new wU2 28).below hbU3); replace hintU1 := hintU1.below hCU3; (try replace gU1 := gU1.below hCU3); replace hintU2 := hintU2.below hCU3; (try replace gU2 := gU2.below hCU3); have hlU3 := hBU3.size; (try have mU1 := gU1.lt); (try have eU1 := Nat.ne_of_lt mU1); (try have eU1' := Nat.ne_of_gt mU1); (try obtain ⟨zU10, zU11, zU12, zU13, zU14, zU15⟩ := gU1); (try have mU2 := gU2.lt); (try have eU2 := Nat.ne_of_lt mU2); (try have eU2' := Nat.ne_of_gt mU2); (try obtain ⟨zU20, zU21, zU22, zU23, zU24, zU25⟩ := gU2); (try have mU3 := gU3.lt); (try have eU3 := Nat.ne_of_lt mU3); (try have eU3' := Nat.ne_of_gt mU3); (try obtain ⟨zU30, zU31, zU32, zU33, zU34, zU35⟩ := gU3))
        | (go_at_call 43; have hq := hBU1; rw [unhide HE2]; refine (numOf_int (q * q) _ (unhide HQ2).1 (unhide HQ2).2).mono ?_; rintro r wU2 ⟨negU2, aU2, nU2, cU2, rfl, hintU2, hbU2⟩; have hCU2 : Below wU1.heap.size wU1 wU2 := (by first | with_reducible exact hbU2 | with_reducible exact bthen (bl1 _ _) hbU2); have hBU2 := bthen hBU1 hCU2; (try with_reducible have gU2 := (noc_new wU1 28).below hbU2); replace hintU1 := hintU1.below hCU2; (try replace gU1 := gU1.below hCU2); have hlU2 := hBU2.size)
        | (go_at_call 43; rw [unhide HE1]; refine (numOf_int (p * p) _ (unhide HQ1).1 (unhide HQ1).2).mono ?_; rintro r wU1 ⟨negU1, aU1, nU1, cU1, rfl, hintU1, hbU1⟩; have hBU1 : Below W.heap.size W wU1 := (by first | with_reducible exact bthen (Below.refl _ _).drew hbU1 | with_reducible exact bthen (bl1 _ _).drew hbU1); (try with_reducible have gU1 := ((noc_new W 28).below (Below.refl _ _).drew).below hbU1); have hlU1 := hBU1.size))
    all_goals
      have hfinU : SpAt wU3 vU3 3000 (((s, e) : Int × Int)).1 (((s, e) : Int × Int)).2 := hintU3
      go_wp2_with fail
      go_meet
      refine ⟨_, vU3, rfl, ?_, ⟨⟨?_, ?_, ?_, ?_, ?_⟩, ?_⟩, ?_, unhide HVBU3, ?_⟩
      · first | exact Nat.le_refl _ | exact hlU1 | exact hlU2 | exact hlU3
      · simp [go_sem, *]
      · simp [go_sem, *]
      · simp [go_sem, *]
      · simp [go_sem, *]
      · simp [go_sem, *]
      · intro o; simp [go_sem, *]
      · first | with_reducible exact SpAt.put5 hfinU zU30 zU31 zU32 zU33 zU34 _ _ _ _ _ | with_reducible exact SpAt.put5 hfinU zU20 zU21 zU22 zU23 zU24 _ _ _ _ _ | with_reducible exact SpAt.put5 hfinU zU10 zU11 zU12 zU13 zU14 _ _ _ _ _ | with_reducible exact hfinU.below (bl1 _ _)
      · repeat' (first | with_reducible exact hBU3 | with_reducible exact hBU2 | with_reducible exact hBU1 | with_reducible exact Below.refl _ _ | with_reducible refine Below.drew ?_ | with_reducible refine balloc ?_ _ | with_reducible refine Below.setCell ?_ (by first | exact Nat.le_refl _ | exact hlU1 | exact hlU2 | exact hlU3) _)
  case rest =>
  obtain ⟨BU, xU, rfl, hHU, XU, hpU, hxbU, hblU⟩ := hcut
  have hp := unhide HP
  have lR := R.lt
  replace R := R.below hblU
  replace hBW := bthen hBW hblU
  obtain ⟨x0, x1⟩ := unhide HK _ hblU
  have lU := XU.lt
  have nRU : w.heap.size + 1 < BU := by omega
  have lR2 := R.lt
  have lA2 : w.heap.size < wc.heap.size := Nat.lt_of_lt_of_le lA hblU.size
  have HXB := hide hxbU
  have HHU := hide hpU
  obtain ⟨z0, z1, z2, z3, z4⟩ := XU.c
  clear hxbU hpU HK hblU
  go_wp2_with fail
  refine (opposite_int _ xU 3000 _ _ (unhide HHU) (by omega)).mono ?_
  rintro r w3 ⟨t, rfl, htb, htp, hb3⟩
  obtain ⟨q0, q1, q2, q3, q4, q5⟩ := R.below hb3
  replace hBW := bthen hBW hb3
  have HT := hide (htb.trans (unhide HXB))
  clear htb
  go_wp2_with fail
  refine bodyPost_ret (v := .agg #[.bool t.ln, .slice t.la t.lN t.lc, .bool t.hn, .slice t.ha t.hN t.hc, .int .i64 t.bits]) (by simp [results, Tryz.results100, go_sem, q0, q1, q2, q3, q4]) rfl ⟨t, rfl, unhide HT, ?_, ?_⟩
  · exact SpAt.put5 (htp.mono (by omega)) q0 q1 q2 q3 q4 _ _ _ _ _
  · exact set5 hBW (Nat.le_succ _) _ _ _ _ _

set_option maxRecDepth 100000 in
set_option maxHeartbeats 4000000 in
theorem eerf_pos (w : World) (p q : Int) (b : Nat) (s e : Int) (hr : rok p q) (hb : b ≤ 100000) (hp : ¬ p < 0) (hE : ErfIs p q b s e) :
    Calls Tryz.prog 100 #[.agg #[.int .i64 p, .int .i64 q], .int .i64 b] w (SpanAns w b 3001 s e) := by
  obtain ⟨W, hW⟩ : ∃ W, W = (w.alloc (.cells #[.int .i64 p, .int .i64 q] 23)).alloc (.cells #[.bool false, .slice none 0 0, .bool false, .slice none 0 0, .int .i64 0] 28) := ⟨_, rfl⟩
  have hBW : Below w.heap.size w W := by rw [hW]; exact bl2 _ _ _
  have A : RaC W w.heap.size p q := by rw [hW]; exact ⟨by simp [go_sem], by simp [go_sem]⟩
  have R : NoC W (w.heap.size + 1) := by rw [hW]; exact ⟨by simp [go_sem], by simp [go_sem], by simp [go_sem], by simp [go_sem], by simp [go_sem], fun o => by simp [go_sem]⟩
  obtain ⟨r1, r2, r3, r4⟩ := hr
  obtain ⟨a1, a2⟩ := sq_bd r1 r2
  obtain ⟨a3, a4⟩ := sq_bd (p := q) (by omega) (by omega)
  have HE1 := hide (show IntKind.i64.wrap (p * p) = p * p from i64_id _ (by omega) (by omega))
  have HE2 := hide (show IntKind.i64.wrap (q * q) = q * q from i64_id _ (by omega) (by omega))
  have HQ1 := hide (show -9223372036854775808 ≤ p * p ∧ p * p ≤ 9223372036854775807 from ⟨by omega, by omega⟩)
  have HQ2 := hide (show -9223372036854775808 ≤ q * q ∧ q * q ≤ 9223372036854775807 from ⟨by omega, by omega⟩)
  have HE := hide hE
  have lA := A.lt
  have lR := R.lt
  have HK := hide (show ∀ w', Below W.heap.size W w' → (w'.cell? ⟨w.heap.size, 0, none⟩ = some (.int .i64 p) ∧ w'.cell? ⟨w.heap.size, 1, none⟩ = some (.int .i64 q)) from fun w' hB => ⟨(A.below hB).c0, (A.below hB).c1⟩)
  have HP := hide hp
  clear hE a1 a2 a3 a4 r1 r2 r3 r4 hp
  go_enter Tryz.func100, Tryz.ntmps100
  go_wp2
  rw [← hW]
  clear hW A lR
  go_cut [5] (fun p wx => ∃ (B : Nat) (u : Sp), p = .pointer (some ⟨B, 0, none⟩) ∧ W.heap.size ≤ B ∧ VrC wx B u ∧ SpAt wx u 3000 (((s, e) : Int × Int)).1 (((s, e) : Int × Int)).2 ∧ u.bits = (b : Int) ∧ Below W.heap.size W wx)
  case first =>
    go_region_held3 (fun w' => w'.cell? ⟨w.heap.size, 0, none⟩ = some (.int .i64 p) ∧ w'.cell? ⟨w.heap.size, 1, none⟩ = some (.int .i64 q)) (exact unhide HK _ (by repeat' (first | with_reducible exact hBU3 | with_reducible exact hBU2 | with_reducible exact hBU1 | with_reducible exact Below.refl _ _ | with_reducible refine Below.drew ?_ | with_reducible refine balloc ?_ _ | with_reducible refine Below.setCell ?_ (by first | exact Nat.le_refl _ | exact hlU1 | exact hlU2 | exact hlU3) _)))
      (first
        | (go_at_call 94; have hq := hBU2; refine (unhide HE _ ⟨negU1, aU1, nU1, cU1⟩ ⟨negU2, aU2, nU2, cU2⟩ ((hintU1.below (by first | with_reducible exact Below.refl _ _ | with_reducible exact bl1 _ _)).mono (by omega)) ((hintU2.below (by first | with_reducible exact Below.refl _ _ | with_reducible exact bl1 _ _)).mono (by omega))).mono ?_; rintro r wU3 ⟨vU3, rfl, hvbU3, hintU3, hbU3⟩; have HVBU3 := hide hvbU3; clear hvbU3; have hCU3 : Below wU2.heap.size wU2 wU3 := (by first | with_reducible exact hbU3 | with_reducible exact bthen (bl1 _ _) hbU3); have hBU3 := bthen hBU2 hCU3; (try with_reducible have gU3 := (noc_new wU2 28).below hbU3); replace hintU1 := hintU1.below hCU3; (try replace gU1 := gU1.below hCU3); replace hintU2 := hintU2.below hCU3; (try replace gU2 := gU2.below hCU3); have hlU3 := hBU3.size; (try have mU1 := gU1.lt); (try have eU1 := Nat.ne_of_lt mU1); (try have eU1' := Nat.ne_of_gt mU1); (try obtain ⟨zU10, zU11, zU12, zU13, zU14, zU15⟩ := gU1); (try have mU2 := gU2.lt); (try have eU2 := Nat.ne_of_lt mU2); (try have eU2' := Nat.ne_of_gt mU2); (try obtain ⟨zU20, zU21, zU22, zU23, zU24, zU25⟩ := gU2); (try have mU3 := gU3.lt); (try have eU3 := Nat.ne_of_lt mU3); (try have eU3' := Nat.ne_of_gt mU3); (try obtain ⟨zU30, zU31, zU32, zU33, zU34, zU35⟩ := gU3))
        | (go_at_call 43; have hq := hBU1; rw [unhide HE2]; refine (numOf_int (q * q) _ (unhide HQ2).1 (unhide HQ2).2).mono ?_; rintro r wU2 ⟨negU2, aU2, nU2, cU2, rfl, hintU2, hbU2⟩; have hCU2 : Below wU1.heap.size wU1 wU2 := (by first | with_reducible exact hbU2 | with_reducible exact bthen (bl1 _ _) hbU2); have hBU2 := bthen hBU1 hCU2; (try with_reducible have gU2 := (noc_new wU1 28).below hbU2); replace hintU1 := hintU1.below hCU2; (try replace gU1 := gU1.below hCU2); have hlU2 := hBU2.size)
        | (go_at_call 43; rw [unhide HE1]; refine (numOf_int (p * p) _ (unhide HQ1).1 (unhide HQ1).2).mono ?_; rintro r wU1 ⟨negU1, aU1, nU1, cU1, rfl, hintU1, hbU1⟩; have hBU1 : Below W.heap.size W wU1 := (by first | with_reducible exact bthen (Below.refl _ _).drew hbU1 | with_reducible exact bthen (bl1 _ _).drew hbU1); (try with_reducible have gU1 := ((noc_new W 28).below (Below.refl _ _).drew).below hbU1); have hlU1 := hBU1.size))
    all_goals
      have hfinU : SpAt wU3 vU3 3000 (((s, e) : Int × Int)).1 (((s, e) : Int × Int)).2 := hintU3
      go_wp2_with fail
      go_meet
      refine ⟨_, vU3, rfl, ?_, ⟨⟨?_, ?_, ?_, ?_, ?_⟩, ?_⟩, ?_, unhide HVBU3, ?_⟩
      · first | exact Nat.le_refl _ | exact hlU1 | exact hlU2 | exact hlU3
      · simp [go_sem, *]
      · simp [go_sem, *]
      · simp [go_sem, *]
      · simp [go_sem, *]
      · simp [go_sem, *]
      · intro o; simp [go_sem, *]
      · first | with_reducible exact SpAt.put5 hfinU zU30 zU31 zU32 zU33 zU34 _ _ _ _ _ | with_reducible exact SpAt.put5 hfinU zU20 zU21 zU22 zU23 zU24 _ _ _ _ _ | with_reducible exact SpAt.put5 hfinU zU10 zU11 zU12 zU13 zU14 _ _ _ _ _ | with_reducible exact hfinU.below (bl1 _ _)
      · repeat' (first | with_reducible exact hBU3 | with_reducible exact hBU2 | with_reducible exact hBU1 | with_reducible exact Below.refl _ _ | with_reducible refine Below.drew ?_ | with_reducible refine balloc ?_ _ | with_reducible refine Below.setCell ?_ (by first | exact Nat.le_refl _ | exact hlU1 | exact hlU2 | exact hlU3) _)
  case rest =>
  obtain ⟨BU, xU, rfl, hHU, XU, hpU, hxbU, hblU⟩ := hcut
  have hp := unhide HP
  have lR := R.lt
  replace R := R.below hblU
  replace hBW := bthen hBW hblU
  obtain ⟨x0, x1⟩ := unhide HK _ hblU
  have lU := XU.lt
  have nRU : w.heap.size + 1 < BU := by omega
  have lR2 := R.lt
  have lA2 : w.heap.size < wc.heap.size := Nat.lt_of_lt_of_le lA hblU.size
  have HXB := hide hxbU
  have HHU := hide hpU
  obtain ⟨z0, z1, z2, z3, z4⟩ := XU.c
  clear hxbU hpU HK hblU
  obtain ⟨q0, q1, q2, q3, q4, q5⟩ := R
  go_wp2_with fail
  refine bodyPost_ret (v := .agg #[.bool xU.ln, .slice xU.la xU.lN xU.lc, .bool xU.hn, .slice xU.ha xU.hN xU.hc, .int .i64 xU.bits]) (by simp [results, Tryz.results100, go_sem, q0, q1, q2, q3, q4]) rfl ⟨xU, rfl, unhide HXB, ?_, ?_⟩
  · exact SpAt.put5 ((unhide HHU).mono (by omega)) q0 q1 q2 q3 q4 _ _ _ _ _
  · exact set5 hBW (Nat.le_succ _) _ _ _ _ _

theorem eerf_iv (w : World) (p q : Int) (b : Nat) (s e : Int) (hr : rok p q) (hb : b ≤ 100000) (hE : ErfIs p q b s e) :
    Calls Tryz.prog 100 #[.agg #[.int .i64 p, .int .i64 q], .int .i64 b] w (SpanAns w b 3001 (sgn2 p (s, e)).1 (sgn2 p (s, e)).2) := by
  unfold sgn2
  by_cases hp : p < 0
  · rw [if_pos hp]; exact eerf_neg w p q b s e hr hb hp hE
  · rw [if_neg hp]; exact eerf_pos w p q b s e hr hb hp hE

set_option maxRecDepth 100000 in
set_option maxHeartbeats 2000000 in
theorem erf1_iv (w : World) (B0 : Nat) (p q : Int) (b : Nat) (s e : Int) (hr : rok p q) (hB0 : RaC w B0 p q) (hb : b ≤ 40000) (hE : ErfIs p q b s e) :
    Calls Tryz.prog 99 #[.int .i64 b, .pointer (some ⟨B0, 0, none⟩)] w (SpanAns w b 3002 (sgn2 p (s, e)).1 (sgn2 p (s, e)).2) := by
  have l0 := hB0.lt
  obtain ⟨y0, y1⟩ := hB0
  have HR := hide hr
  have HE := hide hE
  have R := noc_new w 28
  clear hr hE
  go_enter Tryz.func99, Tryz.ntmps99
  go_wp2_with fail
  refine (eerf_iv _ p q b s e (unhide HR) (by omega) (unhide HE)).mono ?_
  rintro r' w1 ⟨u, rfl, hub, hup, hb1⟩
  replace R := R.below hb1
  have hBW : Below w.heap.size w w1 := bthen (bl1 _ _) hb1
  have HU := hide hub
  clear hub y0 y1 hb1
  obtain ⟨v, rfl⟩ : ∃ v : Sp, v = u := ⟨_, rfl⟩
  have hvp := hup
  have HV := HU
  obtain ⟨q0, q1, q2, q3, q4, q5⟩ := R
  go_wp2_with fail
  refine bodyPost_ret (v := .agg #[.bool v.ln, .slice v.la v.lN v.lc, .bool v.hn, .slice v.ha v.hN v.hc, .int .i64 v.bits]) (by simp [results, Tryz.results99, go_sem, q0, q1, q2, q3, q4]) rfl ⟨v, rfl, unhide HV, ?_, ?_⟩
  · exact SpAt.put5 (hvp.mono (by omega)) q0 q1 q2 q3 q4 _ _ _ _ _
  · exact set5 hBW (Nat.le_refl _) _ _ _ _ _

end Go.Proofs.YtgmnknmjainababGreat

namespace Go.Proofs.YtgmnknmjainababGreat
set_option linter.unusedVariables false
open Ex

/-- How far a ratio is from 0. -/
def absR (p q : Int) : Rat := (if p < 0 then -(p : Rat) else (p : Rat)) / (q : Rat)
theorem absR_ok {p q : Int} (hq : 0 < q) : 0 ≤ absR p q ∧ absR p q * absR p q * ((q * q : Int) : Rat) = ((p * p : Int) : Rat) := by
  have q0 : (0 : Rat) < (q : Rat) := by exact_mod_cast hq
  unfold absR
  have e := rdm (a := (if p < 0 then -(p : Rat) else (p : Rat))) q0
  have hn : (0 : Rat) ≤ (if p < 0 then -(p : Rat) else (p : Rat)) := by
    split
    · rename_i h
      have : (p : Rat) ≤ 0 := by exact_mod_cast (show p ≤ 0 by omega)
      grind
    · rename_i h
      exact_mod_cast (show 0 ≤ p by omega)
  refine ⟨rle_div q0 (by grind), ?_⟩
  rw [Rat.intCast_mul, Rat.intCast_mul]
  generalize (if p < 0 then -(p : Rat) else (p : Rat)) / (q : Rat) = z at *
  have : z * z * ((q : Rat) * (q : Rat)) = (z * (q : Rat)) * (z * (q : Rat)) := by grind
  rw [this, e]
  split <;> grind
/-- The error function of a ratio. -/
def erR (R : Nat → Rat) (p q : Int) (M : Nat) : Rat := if p < 0 then -erfS R (absR p q) M else erfS R (absR p q) M
theorem absR_rt {p q : Int} (hq : 0 < q) : ((p * p : Int) : Rat) / ((q * q : Int) : Rat) = absR p q * absR p q := by
  have q0 : (0 : Rat) < ((q * q : Int) : Rat) := by exact_mod_cast Int.mul_pos hq hq
  rw [← (absR_ok (p := p) hq).2, Rat.div_def, Rat.mul_assoc, Rat.mul_inv_cancel _ (by grind)]
  grind
theorem er_in {p q : Int} (hr : rok p q) (h : p * p < 152 * (q * q)) : ErIn (p * p) (q * q) (fun _ => absR p q) := by
  obtain ⟨r1, r2, r3, r4⟩ := hr
  have q0 : 0 < q * q := Int.mul_pos (by omega) (by omega)
  obtain ⟨a1, a2⟩ := absR_ok (p := p) (q := q) (by omega)
  have p0 := sq_bd r1 r2
  refine ⟨p0.1, q0, ⟨fun _ => a1, null_zero.of_eq fun M => by rw [absR_rt (by omega)]; grind⟩, h, ?_⟩
  by_cases hp : p = 0
  · exact Or.inl (by rw [hp]; rfl)
  · refine Or.inr ?_
    have h1 : 1 ≤ p * p := by
      rcases Int.lt_or_gt_of_ne hp with h | h
      · have := Int.mul_pos (show 0 < -p by omega) (show 0 < -p by omega)
        have e : -p * -p = p * p := by grind
        omega
      · have := Int.mul_pos h h; omega
    have h2 := Int.mul_le_mul r4 r4 (by omega) (by omega)
    omega
/-- What is made of a ratio that is not far. -/
def ErCore (R : Nat → Rat) (p q : Int) (B : Nat) (s e : Int) : Prop := Iv B (s, e) (erfS R (absR p q)) ∧ 0 ≤ s ∧ s ≤ e ∧ e ≤ Q B ∧ e - s ≤ Q 4500
theorem er_near {R : Nat → Rat} (hR : RootS piS R) {p q : Int} (hr : rok p q) (h : p * p < 152 * (q * q)) {B : Nat} (hB : 40 ≤ B) (hB2 : B ≤ 10000) (hlt : p * p < q * q * (B : Int)) : ∃ s e, ErfIs p q B s e ∧ ErCore R p q B s e := by
  have hin := er_in hr h
  obtain ⟨M, hM, hM2⟩ := erT_set hin B
  obtain ⟨l, t, N, e1, e2, e3, e4, e5⟩ := erX_set hin hB
  obtain ⟨N5, h5⟩ := ag_stop (m := 5) (by omega) (show 2 ≤ B by omega)
  obtain ⟨N9, h9⟩ := ag_stop (m := 239) (by omega) (show 2 ≤ B by omega)
  refine ⟨_, _, fun w' x y hx hy => erf_iv w' x y (p * p) (q * q) B hx hy hB hB2 (fun _ => absR p q) M t N N5 N9 l hin hlt hM hM2 e1 e2 e3 e4 e5 h5 h9, ?_⟩
  have k := erf_ok hR hin hB hB2 hM hM2 e3 e4 e5 h5 h9
  rw [absR_rt (by have := hr.2.2.1; omega), erfG_const] at k
  exact k
theorem er_far {p q : Int} {B : Nat} (hB : 40 ≤ B) (hB2 : B ≤ 10000) (h : q * q * (B : Int) ≤ p * p) : ErfIs p q B (Q B - 1) (Q B) := fun w' x y hx hy =>
  (erf_far w' x y (p * p) (q * q) B hx hy hB hB2 h).mono fun r w'' ⟨s, e1, e2, e3, e4⟩ => ⟨s, e1, e2, e3.mono (by omega), e4⟩
/-- What Sure is handed for Erf, and for Erfc. -/
def ErPr (R : Nat → Rat) (p q : Int) (B : Nat) (lo hi : Int) : Prop := ∃ s e, ErCore R p q B s e ∧ lo = (sgn2 p (s, e)).1 ∧ hi = (sgn2 p (s, e)).2
theorem sgn2_ok {p : Int} {B : Nat} {s e : Int} (h0 : 0 ≤ s) (h1 : s ≤ e) (h2 : e ≤ Q B) : (sgn2 p (s, e)).1 ≤ (sgn2 p (s, e)).2 ∧ -Q B ≤ (sgn2 p (s, e)).1 ∧ (sgn2 p (s, e)).2 ≤ Q B ∧ (sgn2 p (s, e)).2 - (sgn2 p (s, e)).1 = e - s := by
  have := Q_pos B
  unfold sgn2
  by_cases hp : p < 0
  · rw [if_pos hp]; exact ⟨by simp only []; omega, by simp only []; omega, by simp only []; omega, by simp only []; omega⟩
  · rw [if_neg hp]; exact ⟨h1, by simp only []; omega, h2, rfl⟩
theorem sgn2_iv {R : Nat → Rat} {p q : Int} {B : Nat} {s e : Int} (h : Iv B (s, e) (erfS R (absR p q))) : Iv B (sgn2 p (s, e)) (erR R p q) := by
  unfold sgn2 erR
  split
  · exact h.opp
  · exact h
theorem rest_has {B : Nat} {a : Int × Int} {x : Nat → Rat} (h : Iv B a x) : Iv B (restI B a) (fun M => 1 - x M) := (one_iv B).sub h
theorem big_Q {z : Int} {B m : Nat} (hB : B ≤ 120) (h : z ≤ 2 * Q (B + m)) : z ≤ P 200 * Q m := by
  have e : Q (B + m) = Q B * Q m := Q_add B m
  have q := Q_pos m
  have h1 : 2 * Q B ≤ P 200 := by
    rw [← Q_P]
    have h2 : Q (B + 1) = 2 * Q B := rfl
    have := Q_mono (show B + 1 ≤ 16 * 200 by omega)
    omega
  have m1 := Int.mul_le_mul_of_nonneg_right h1 (show 0 ≤ Q m by omega)
  have e2 : 2 * Q B * Q m = 2 * (Q B * Q m) := by grind
  omega
theorem er_ends (R : Nat → Rat) (p q : Int) {bits : Nat} (hb : bits ≤ 120) : SureEnds bits 4500 (ErPr R p q) := fun m lo hi ⟨s, e, ⟨c1, c2, c3, c4, c5⟩, e1, e2⟩ => by
  obtain ⟨g1, g2, g3, g4⟩ := sgn2_ok (p := p) (B := bits + m) c2 c3 c4
  rw [← e1, ← e2] at g1 g4
  rw [← e1] at g2
  rw [← e2] at g3
  have q := Q_pos (bits + m)
  have b1 := big_Q (z := -lo) hb (show -lo ≤ 2 * Q (bits + m) by omega)
  have b2 := big_Q (z := hi) hb (show hi ≤ 2 * Q (bits + m) by omega)
  rw [← g4] at c5
  exact ⟨g1, c5, by omega, b2⟩
/-- What Erf answers. -/
structure ErV (R : Nat → Rat) (p q : Int) (b : Nat) (L H : Int) : Prop where
  le : L ≤ H
  lo : -Q b ≤ L
  hi : H ≤ Q b
  nar : narB L H (Q b) 4 = true
  val : (q * q * ((b : Int) + 32) ≤ p * p ∧ (L, H) = sgn2 p (Q b - 1, Q b)) ∨ (p * p < q * q * ((b : Int) + 32) ∧ Iv b (L, H) (erR R p q))
theorem sure_nar {b m : Nat} {lo hi L H : Int} (hle : lo ≤ hi) (e1 : L = lo / Q m) (e2 : H = -(-hi / Q m)) (h6 : H - L ≤ 1 ∨ narB L H (Q b) 4 = true) : L ≤ H ∧ narB L H (Q b) 4 = true := by
  have h7 := to_width (m := m) (Kw := (hi - lo).toNat) hle (by
    have : ∀ k : Nat, (k : Int) ≤ Q k := fun k => by
      induction k with
      | zero => decide
      | succ k ih => have e : Q (k + 1) = 2 * Q k := rfl; have := Q_pos k; omega
    have := this (hi - lo).toNat
    omega)
  have h8 : L ≤ H := by rw [e1, e2]; omega
  refine ⟨h8, ?_⟩
  rcases h6 with h6 | h6
  · exact narB_small h8 (by omega)
  · exact h6
theorem sure_er {R : Nat → Rat} {p q : Int} {b : Nat} {L H : Int} (hn : p * p < q * q * ((b : Int) + 32)) (h : SureOf b (ErPr R p q) L H) : ErV R p q b L H := by
  obtain ⟨m, lo, hi, ⟨s, e, ⟨c1, c2, c3, c4, c5⟩, f1, f2⟩, hm, e1, e2, h6⟩ := h
  obtain ⟨g1, g2, g3, g4⟩ := sgn2_ok (p := p) (B := b + m) c2 c3 c4
  rw [← f1, ← f2] at g1
  rw [← f1] at g2
  rw [← f2] at g3
  obtain ⟨n1, n2⟩ := sure_nar g1 e1 e2 h6
  have iv := sgn2_iv (p := p) (q := q) c1
  rw [show sgn2 p (s, e) = (lo, hi) by rw [f1, f2]] at iv
  have q0 := Q_pos m
  have qb := Q_pos b
  have e3 : Q (b + m) = Q b * Q m := Q_add b m
  rw [e3] at g2 g3
  have le2 : -(Q b * Q m) ≤ hi := by omega
  have le3 : lo ≤ Q b * Q m := by omega
  have r1 := round_abs (x := lo) (m := Q b) (q := Q m) (by omega) g2 le3
  have r2 := round_abs (x := hi) (m := Q b) (q := Q m) (by omega) le2 g3
  refine ⟨n1, by rw [e1]; exact r1.1, by rw [e2]; exact r2.2.2.2, n2, Or.inr ⟨hn, ?_⟩⟩
  have := Iv.to (B := b) (m := m) iv
  rw [e1, e2]; exact this
end Go.Proofs.YtgmnknmjainababGreat

namespace Go.Proofs.YtgmnknmjainababGreat
set_option linter.unusedVariables false
set_option linter.unusedSimpArgs false
set_option linter.unnecessarySimpa false
open Go.RowKit
attribute [local go_sem ↓] Go.wp_at_zero Go.wp_at_succ

set_option maxRecDepth 100000 in
set_option maxHeartbeats 4000000 in
theorem sure_erf (p1 : Value) (bits Kw KD : Nat) (Pr : Nat → Int → Int → Prop) (W : World) (hb : bits ≤ 120) (hKw : Kw ≤ 900000) (hKD : KD ≤ 100000000) (hE : SureEnds bits Kw Pr)
    (hF : ∀ (m : Nat) w', 32 ≤ m → m ≤ Kw + 120 → Below W.heap.size W w' → Calls Tryz.prog 99 #[.int .i64 ((bits : Int) + m), p1] w' (fun r w'' => ∃ lo hi, Pr (bits + m) lo hi ∧ SpanAns w' ((bits : Int) + m) KD lo hi r w'')) :
    Calls Tryz.prog 74 #[.int .i64 bits, .func (.func 99) #[] #[p1]] W (fun r w' => ∃ L H, SureOf bits Pr L H ∧ SpanAns W bits 250 L H r w') := by
  have HF := hide hF
  have HE := hide hE
  clear hF hE
  have hR0 := noc_new W 28
  go_enter Tryz.func74, Tryz.ntmps74
  go_wp2_with fail
  go_loopw [5, 6] (fun mm tt wr => ∃ m t : Nat, mm = .int .i64 (m : Int) ∧ tt = .int .i64 (t : Int) ∧ SureInv Kw m t ∧ NoC wr W.heap.size ∧ Below W.heap.size W wr) (fun mm _ _ => Kw + 200 - (intOf mm).toNat)
  case atStart => exact ⟨32, 1, rfl, rfl, ⟨Nat.le_refl _, Nat.le_refl _, by omega, Or.inl ⟨by omega, by omega⟩⟩, hR0, bl1 _ _⟩
  case round =>
    obtain ⟨m, t, rfl, rfl, hinv, R, hB⟩ := hrel
    obtain ⟨hm, ht, htm, hmt⟩ := hinv
    have hmK : m ≤ Kw + 120 := by omega
    have HI := hide hmt
    clear hmt
    go_wp2_with fail
    refine (unhide HF m _ hm hmK hB).mono ?_
    rintro r w1 ⟨lo, hi, hPr, s, rfl, hsb, hsp, hb1⟩
    replace R := R.below hb1
    replace hB := bthen hB hb1
    clear hb1
    obtain ⟨e1, e2, e3, e4⟩ := unhide HE m lo hi hPr
    obtain ⟨v1, v2, v3⟩ := to_width (m := m) e1 e2
    obtain ⟨f1, f2⟩ := to_fit e3 e4
    have HPr := hide hPr
    have HV := hide (And.intro v2 v3)
    have hs0 : 0 ≤ s.bits := by omega
    have hs1 : s.bits ≤ 1000000 := by omega
    have d1 : downZ lo (s.bits - bits) = lo / Q m := by unfold downZ; rw [hsb, if_pos (by omega)]; congr 2; omega
    have d2 : downZ (-hi) (s.bits - bits) = -hi / Q m := by unfold downZ; rw [hsb, if_pos (by omega)]; congr 2; omega
    have HD1 := hide d1
    have HD2 := hide d2
    clear hPr e1 e2 e3 e4 v2 v3 d1 d2 hsb
    go_wp2_with fail
    refine (wideTo_int _ s KD bits lo hi hsp (by omega) hs0 hs1 (by omega) (by omega)).mono ?_
    rintro r w2 ⟨u, rfl, hub, hup, hb2⟩
    rw [unhide HD1, unhide HD2] at hup
    obtain ⟨L, hL⟩ : ∃ L, L = lo / Q m := ⟨_, rfl⟩
    obtain ⟨H, hH⟩ : ∃ H, H = -(-hi / Q m) := ⟨_, rfl⟩
    rw [← hL, ← hH] at hup v1
    rw [← hL] at f1
    rw [← hH] at f2
    have HV2 := hide (show (Kw ≤ m → H - L ≤ 2) ∧ (m ≤ Kw → H - L ≤ Q (Kw - m) + 1) by rw [hL, hH]; exact unhide HV)
    have HL := hide hL
    have HH := hide hH
    replace hup := hup.fits (K := 250) (by omega) f1 f2
    replace R := R.below hb2
    replace hB := bthen hB hb2
    have HUB := hide hub
    clear hb2 hL hH hub hs0 hs1 HD1 HD2 HV hsp
    have lR := R.lt
    obtain ⟨V, hV⟩ : ∃ V, V = w2.alloc (.cells #[.bool u.ln, .slice u.la u.lN u.lc, .bool u.hn, .slice u.ha u.hN u.hc, .int .i64 u.bits] 28) := ⟨_, rfl⟩
    have bV : Below w2.heap.size w2 V := by rw [hV]; exact bl1 _ _
    have U : SpC V w2.heap.size u := by rw [hV]; exact ⟨by simp, by simp, by simp, by simp, by simp⟩
    replace R := R.below bV
    replace hB := bthen hB bV
    replace hup := hup.below bV
    clear bV
    go_wp2_with fail
    rw [← hV]
    clear hV
    refine (sub_int _ _ _ _ _ _ _ _ 250 250 H L _ hup.hi hup.lo (by omega) (by omega)).mono ?_
    rintro r w3 ⟨neg3, a3, n3, c3, rfl, hint3, hb3⟩
    replace U := U.below hb3
    replace R := R.below hb3
    replace hB := bthen hB hb3
    replace hup := hup.below hb3
    clear hb3
    go_wp2_with fail
    refine (len_int _ _ _ _ _ (H - L) _ hint3 v1).mono ?_
    rintro r w4 ⟨l, hlen, rfl, hb4⟩
    replace U := U.below hb4
    replace R := R.below hb4
    replace hB := bthen hB hb4
    replace hup := hup.below hb4
    clear hb4 hint3
    have hlb : 0 ≤ l ∧ l ≤ Kw + 2 ∧ (m ≤ Kw → l ≤ Kw - m + 2) ∧ (Kw ≤ m → l ≤ 2) := by
      obtain ⟨g1, g2⟩ := unhide HV2
      refine ⟨hlen.1, ?_, fun h => ?_, fun h => ?_⟩
      · rcases Nat.le_total m Kw with h | h
        · have := len_bd (K := Kw - m) hlen (g2 h) v1; omega
        · have := len_two hlen (g1 h) v1; omega
      · have := len_bd (K := Kw - m) hlen (g2 h) v1; omega
      · exact len_two hlen (g1 h) v1
    obtain ⟨hl0, hl1, hl2, hl3⟩ := hlb
    have HL2 := hide (And.intro hl2 hl3)
    have HLen := hide hlen
    clear hl2 hl3 hlen
    have lU := U.lt
    have lR2 := R.lt
    have nRU : W.heap.size ≠ w2.heap.size := by omega
    have nRU' : w2.heap.size ≠ W.heap.size := by omega
    have HU := hide U
    obtain ⟨x0, x1, x2, x3, x4⟩ := U
    by_cases hc : l ≤ 1
    · have hN := R
      obtain ⟨q0, q1, q2, q3, q4, q5⟩ := R
      have Hc := hide hc
      go_wp2_with fail
      refine bodyPost_ret (v := .agg #[.bool u.ln, .slice u.la u.lN u.lc, .bool u.hn, .slice u.ha u.hN u.hc, .int .i64 u.bits]) (by simp [results, Tryz.results74, go_sem, q0, q1, q2, q3, q4]) rfl ⟨L, H, ⟨m, lo, hi, unhide HPr, hm, unhide HL, unhide HH, Or.inl (len_one (unhide HLen) (unhide Hc) v1)⟩, u, rfl, unhide HUB, ?_, ?_⟩
      · exact SpAt.put5 hup q0 q1 q2 q3 q4 _ _ _ _ _
      · exact set5 hB (Nat.le_refl _) _ _ _ _ _
    · by_cases ht3 : 3 ≤ t
      · have ht3' : (3 : Int) ≤ (t : Int) := by omega
        cases hn : narB L H (Q bits) 4
        · have hmK2 : m < Kw := by
            refine Nat.lt_of_not_le fun h => ?_
            have h5 := (unhide HV2).1 h
            rw [narB_small (by omega) (by omega)] at hn
            cases hn
          go_wp2_with fail
          refine (narrow_int _ u bits 4 L H hup (unhide HUB) hb (by omega)).mono ?_
          rintro r w5 ⟨rfl, hb5⟩
          rw [show narB L H (Q bits) ((4 : Nat) : Int) = false from hn]
          replace R := R.below hb5
          replace hB := bthen hB hb5
          go_wp2_with fail
          go_roundw
          case rel => exact ⟨m + l.toNat + 32, t + 1, by congr 1; omega, by congr 1, ⟨by omega, by omega, by omega, Or.inr (by have := (unhide HL2).1; omega)⟩, R, hB⟩
          case measure => simp [intOf]; omega
        · go_wp2_with fail
          refine (narrow_int _ u bits 4 L H hup (unhide HUB) hb (by omega)).mono ?_
          rintro r w5 ⟨rfl, hb5⟩
          rw [show narB L H (Q bits) ((4 : Nat) : Int) = true from hn]
          replace R := R.below hb5
          replace hB := bthen hB hb5
          replace hup := hup.below hb5
          obtain ⟨y0, y1, y2, y3, y4⟩ := (unhide HU).below hb5
          obtain ⟨q0, q1, q2, q3, q4, q5⟩ := R
          have lU2 := Nat.lt_of_lt_of_le lU hb5.size
          have lR3 := Nat.lt_of_lt_of_le lR2 hb5.size
          clear hb5 x0 x1 x2 x3 x4
          go_wp2_with fail
          refine bodyPost_ret (v := .agg #[.bool u.ln, .slice u.la u.lN u.lc, .bool u.hn, .slice u.ha u.hN u.hc, .int .i64 u.bits]) (by simp [results, Tryz.results74, go_sem, q0, q1, q2, q3, q4]) rfl ⟨L, H, ⟨m, lo, hi, unhide HPr, hm, unhide HL, unhide HH, Or.inr hn⟩, u, rfl, unhide HUB, ?_, ?_⟩
          · exact SpAt.put5 hup q0 q1 q2 q3 q4 _ _ _ _ _
          · exact set5 hB (Nat.le_refl _) _ _ _ _ _
      · have ht3' : ¬ (3 : Int) ≤ (t : Int) := by omega
        go_wp2_with fail
        go_roundw
        case rel => exact ⟨m + l.toNat + 32, t + 1, by congr 1; omega, by congr 1, ⟨by omega, by omega, by omega, by
          have g1 := (unhide HL2).1
          have g2 := (unhide HL2).2
          have g3 := unhide HI
          rcases Nat.le_total m Kw with h | h
          · have := g1 h; exact Or.inr (by omega)
          · have := g2 h; exact Or.inl ⟨by omega, by omega⟩⟩, R, hB⟩
        case measure => simp [intOf]; omega

set_option maxRecDepth 100000 in
set_option maxHeartbeats 4000000 in
theorem sure1_erf (p1 : Value) (bits KD : Nat) (lo hi L H : Int) (W : World) (hb : bits ≤ 120) (hKD : KD ≤ 100000000) (hL : L = lo / Q 32) (hH : H = -(-hi / Q 32)) (v1 : 0 ≤ H - L) (hw : H - L ≤ 1) (f1 : -P 250 < L) (f2 : H < P 250)
    (hF : ∀ w', Below W.heap.size W w' → Calls Tryz.prog 99 #[.int .i64 ((bits : Int) + 32), p1] w' (SpanAns w' ((bits : Int) + 32) KD lo hi)) :
    Calls Tryz.prog 74 #[.int .i64 bits, .func (.func 99) #[] #[p1]] W (SpanAns W bits 250 L H) := by
  have HF := hide hF
  have HLL := hide hL
  have HHH := hide hH
  clear hF hL hH
  have hR0 := noc_new W 28
  go_enter Tryz.func74, Tryz.ntmps74
  go_wp2_with fail
  go_loopw [5, 6] (fun mm tt wr => mm = .int .i64 32 ∧ tt = .int .i64 1 ∧ NoC wr W.heap.size ∧ Below W.heap.size W wr) (fun _ _ _ => 0)
  case atStart => exact ⟨rfl, rfl, hR0, bl1 _ _⟩
  case round =>
    obtain ⟨rfl, rfl, R, hB⟩ := hrel
    go_wp2_with fail
    refine (unhide HF _ hB).mono ?_
    rintro r w1 ⟨s, rfl, hsb, hsp, hb1⟩
    replace R := R.below hb1
    replace hB := bthen hB hb1
    clear hb1
    have hs0 : 0 ≤ s.bits := by omega
    have hs1 : s.bits ≤ 1000000 := by omega
    have d1 : downZ lo (s.bits - bits) = L := by rw [unhide HLL]; unfold downZ; rw [hsb, if_pos (by omega)]; congr 2; omega
    have d2 : -downZ (-hi) (s.bits - bits) = H := by rw [unhide HHH]; unfold downZ; rw [hsb, if_pos (by omega)]; congr 3; omega
    have HD1 := hide d1
    have HD2 := hide d2
    clear d1 d2 hsb
    go_wp2_with fail
    refine (wideTo_int _ s KD bits lo hi hsp (by omega) hs0 hs1 (by omega) (by omega)).mono ?_
    rintro r w2 ⟨u, rfl, hub, hup, hb2⟩
    rw [unhide HD1, unhide HD2] at hup
    replace hup := hup.fits (K := 250) (by omega) f1 f2
    replace R := R.below hb2
    replace hB := bthen hB hb2
    have HUB := hide hub
    clear hb2 hub hs0 hs1 HD1 HD2 hsp
    have lR := R.lt
    obtain ⟨V, hV⟩ : ∃ V, V = w2.alloc (.cells #[.bool u.ln, .slice u.la u.lN u.lc, .bool u.hn, .slice u.ha u.hN u.hc, .int .i64 u.bits] 28) := ⟨_, rfl⟩
    have bV : Below w2.heap.size w2 V := by rw [hV]; exact bl1 _ _
    have U : SpC V w2.heap.size u := by rw [hV]; exact ⟨by simp, by simp, by simp, by simp, by simp⟩
    replace R := R.below bV
    replace hB := bthen hB bV
    replace hup := hup.below bV
    clear bV
    go_wp2_with fail
    rw [← hV]
    clear hV
    refine (sub_int _ _ _ _ _ _ _ _ 250 250 H L _ hup.hi hup.lo (by omega) (by omega)).mono ?_
    rintro r w3 ⟨neg3, a3, n3, c3, rfl, hint3, hb3⟩
    replace U := U.below hb3
    replace R := R.below hb3
    replace hB := bthen hB hb3
    replace hup := hup.below hb3
    clear hb3
    go_wp2_with fail
    refine (len_int _ _ _ _ _ (H - L) _ hint3 v1).mono ?_
    rintro r w4 ⟨l, hlen, rfl, hb4⟩
    replace U := U.below hb4
    replace R := R.below hb4
    replace hB := bthen hB hb4
    replace hup := hup.below hb4
    have hc : l ≤ 1 := by
      obtain ⟨g1, g2, g3⟩ := hlen
      by_cases hp : 0 < H - L
      · obtain ⟨L', e1, e2, e3⟩ := g3 hp
        have : ¬ 1 ≤ L' := fun h => by
          have := Q_mono h
          have : Q 1 = 2 := rfl
          omega
        omega
      · have := g2 (by omega); omega
    clear hb4 hint3 hlen
    have lU := U.lt
    have lR2 := R.lt
    have nRU : W.heap.size ≠ w2.heap.size := by omega
    have nRU' : w2.heap.size ≠ W.heap.size := by omega
    obtain ⟨x0, x1, x2, x3, x4⟩ := U
    obtain ⟨q0, q1, q2, q3, q4, q5⟩ := R
    go_wp2_with fail
    refine bodyPost_ret (v := .agg #[.bool u.ln, .slice u.la u.lN u.lc, .bool u.hn, .slice u.ha u.hN u.hc, .int .i64 u.bits]) (by simp [results, Tryz.results74, go_sem, q0, q1, q2, q3, q4]) rfl ⟨u, rfl, unhide HUB, ?_, ?_⟩
    · exact SpAt.put5 hup q0 q1 q2 q3 q4 _ _ _ _ _
    · exact set5 hB (Nat.le_refl _) _ _ _ _ _

end Go.Proofs.YtgmnknmjainababGreat

namespace Go.Proofs.YtgmnknmjainababGreat
set_option linter.unusedVariables false
set_option linter.unusedSimpArgs false
set_option linter.unnecessarySimpa false
open Go.RowKit
attribute [local go_sem ↓] Go.wp_at_zero Go.wp_at_succ

theorem fl_one {c m : Int} (hm : 1 ≤ m) : (c * m - 1) / m = c - 1 := by
  have e1 : (c - 1) * m = c * m - m := by grind
  have e2 : (c - 1 + 1) * m = c * m := by grind
  have h1 : (c - 1) * m ≤ c * m - 1 := by omega
  have h2 : c * m - 1 < (c - 1 + 1) * m := by omega
  have a := Int.le_ediv_of_mul_le (show 0 < m by omega) h1
  have b := Int.ediv_lt_of_lt_mul (show 0 < m by omega) h2
  omega
theorem fl_all {c m : Int} (hm : 1 ≤ m) : (c * m) / m = c := Int.mul_ediv_cancel c (by omega)
/-- Far away, as it comes at the first try. -/
theorem far_er (p : Int) (b : Nat) : (sgn2 p (Q b - 1, Q b)).1 = (sgn2 p (Q (b + 32) - 1, Q (b + 32))).1 / Q 32 ∧ (sgn2 p (Q b - 1, Q b)).2 = -(-(sgn2 p (Q (b + 32) - 1, Q (b + 32))).2 / Q 32) := by
  have q := Q_pos 32
  have e : Q (b + 32) = Q b * Q 32 := Q_add b 32
  unfold sgn2
  by_cases hp : p < 0
  · rw [if_pos hp, if_pos hp]
    simp only []
    rw [e, Int.neg_neg]
    refine ⟨?_, ?_⟩
    · rw [← Int.neg_mul, fl_all q]
    · rw [fl_one q]
  · rw [if_neg hp, if_neg hp]
    simp only []
    rw [e]
    refine ⟨(fl_one q).symm, ?_⟩
    rw [← Int.neg_mul, fl_all q]; omega
theorem P250_big {b : Nat} (hb : b ≤ 120) : 2 * Q b < P 250 := by
  rw [← Q_P]
  have h2 : Q (b + 1) = 2 * Q b := rfl
  have h3 : Q (b + 2) = 2 * Q (b + 1) := rfl
  have := Q_mono (show b + 2 ≤ 16 * 250 by omega)
  have := Q_pos b
  omega

set_option maxRecDepth 100000 in
set_option maxHeartbeats 2000000 in
theorem sured_erf (R : Nat → Rat) (hR : RootS piS R) (p q : Int) (b : Nat) (B0 : Nat) (w : World) (hr : rok p q) (h5 : 8 ≤ b) (h6 : b ≤ 120) (A : RaC w B0 p q) :
    Calls Tryz.prog 74 #[.int .i64 b, .func (.func 99) #[] #[.pointer (some ⟨B0, 0, none⟩)]] w (fun r w' => ∃ L H, ErV R p q b L H ∧ SpanAns w b 250 L H r w') := by
  have q1 := hr.2.2.1
  have qq : 0 < q * q := Int.mul_pos (by omega) (by omega)
  by_cases hn : p * p < q * q * ((b : Int) + 32)
  · have h152 : p * p < 152 * (q * q) := by
      have := Int.mul_le_mul_of_nonneg_left (show (b : Int) + 32 ≤ 152 by omega) (show 0 ≤ q * q by omega)
      have e : q * q * 152 = 152 * (q * q) := by grind
      omega
    refine (sure_erf _ b 4500 3002 (ErPr R p q) w h6 (by omega) (by omega) (er_ends R p q h6) (fun m w' hm hm2 hbw => ?_)).mono fun r w' ⟨L, H, h1, h2⟩ => ⟨L, H, sure_er hn h1, h2⟩
    have hlt : p * p < q * q * ((b + m : Nat) : Int) := by
      have := Int.mul_le_mul_of_nonneg_left (show (b : Int) + 32 ≤ ((b + m : Nat) : Int) by omega) (show 0 ≤ q * q by omega)
      omega
    obtain ⟨s, e, c1, c2⟩ := er_near hR hr h152 (show 40 ≤ b + m by omega) (show b + m ≤ 10000 by omega) hlt
    have eB : ((b : Int) + (m : Int)) = ((b + m : Nat) : Int) := by omega
    rw [eB]
    exact (erf1_iv w' B0 p q (b + m) s e hr (A.below hbw) (by omega) c1).mono fun r w'' h => ⟨_, _, ⟨s, e, c2, rfl, rfl⟩, h⟩
  · have hf : q * q * ((b + 32 : Nat) : Int) ≤ p * p := by
      have e : ((b + 32 : Nat) : Int) = (b : Int) + 32 := by omega
      rw [e]; omega
    have c1 := er_far (show 40 ≤ b + 32 by omega) (show b + 32 ≤ 10000 by omega) hf
    obtain ⟨e1, e2⟩ := far_er p b
    have pb := P250_big h6
    have qb := Q_pos b
    have g : -P 250 < (sgn2 p (Q b - 1, Q b)).1 ∧ (sgn2 p (Q b - 1, Q b)).2 < P 250 ∧ (sgn2 p (Q b - 1, Q b)).2 - (sgn2 p (Q b - 1, Q b)).1 = 1 ∧ -Q b ≤ (sgn2 p (Q b - 1, Q b)).1 ∧ (sgn2 p (Q b - 1, Q b)).2 ≤ Q b := by
      unfold sgn2
      by_cases hp : p < 0
      · rw [if_pos hp]; refine ⟨?_, ?_, ?_, ?_, ?_⟩ <;> (simp only []; omega)
      · rw [if_neg hp]; refine ⟨?_, ?_, ?_, ?_, ?_⟩ <;> (simp only []; omega)
    refine (sure1_erf _ b 3002 _ _ _ _ w h6 (by omega) e1 e2 (by omega) (by omega) g.1 g.2.1 (fun w' hbw => ?_)).mono fun r w' h => ⟨_, _, ⟨by omega, g.2.2.2.1, g.2.2.2.2, narB_small (by omega) (by omega), Or.inl ⟨by omega, rfl⟩⟩, h⟩
    have eB : ((b : Int) + 32) = ((b + 32 : Nat) : Int) := by omega
    rw [eB]
    exact erf1_iv w' B0 p q (b + 32) _ _ hr (A.below hbw) (by omega) c1

set_option maxRecDepth 100000 in
set_option maxHeartbeats 2000000 in
theorem made_erf_ok (R : Nat → Rat) (hR : RootS piS R) (p q : Int) (b : Nat) (B0 : Nat) (w : World) (hr : rok p q) (h5 : 8 ≤ b) (h6 : b ≤ 120) (A0 : RaC w B0 p q) :
    Calls Tryz.prog 40 #[.agg #[.int .i64 p, .int .i64 q], .int .i64 b, .func (.func 99) #[] #[.pointer (some ⟨B0, 0, none⟩)]] w (fun r w' => ∃ L H, ErV R p q b L H ∧ PairAns w b 250 L H 0 r w') := by
  have d1 : ratE p q b = 0 := by unfold ratE; rw [if_pos]; exact ⟨hr, by omega, by omega⟩
  have HR := hide hr
  have HA := hide A0
  clear hr A0
  go_enter Tryz.func40, Tryz.ntmps40
  go_wp2_with (go_at_call 93; refine (ratioFault1 _ _ _ (by simp) _ _ _ _).mono ?_; rintro r w1 ⟨rfl, hb1⟩; rw [d1]; obtain ⟨hsz1, hcell1, hfz1⟩ := near (w.heap.size + 1 + 1) (by simp) hb1)
  have R' : NoC w1 (w.heap.size + 1) := ⟨by simp [hcell1, go_sem], by simp [hcell1, go_sem], by simp [hcell1, go_sem], by simp [hcell1, go_sem], by simp [hcell1, go_sem], fun o => by simp [hfz1, go_sem]⟩
  have hBw : Below w.heap.size w w1 := bthen (bl2 _ _ _) hb1
  clear hcell1 hfz1 hb1
  have lR := R'.lt
  refine (sured_erf R hR p q b B0 _ (unhide HR) h5 h6 ((unhide HA).below hBw)).mono ?_
  rintro r' w3 ⟨L, H, hLH, u, rfl, hub, hup, hb3⟩
  obtain ⟨q0, q1, q2, q3, q4, q5⟩ := R'.below hb3
  replace hBw := bthen hBw hb3
  have HU := hide hub
  have HLH := hide hLH
  clear hub hLH
  go_wp2_with fail
  refine bodyPost_ret (v := .tuple #[.agg #[.bool u.ln, .slice u.la u.lN u.lc, .bool u.hn, .slice u.ha u.hN u.hc, .int .i64 u.bits], .int .i64 0]) (by simp [results, Tryz.results40, go_sem, q0, q1, q2, q3, q4]) rfl ⟨L, H, unhide HLH, u, rfl, unhide HU, ?_, ?_⟩
  · exact SpAt.put5 hup q0 q1 q2 q3 q4 _ _ _ _ _
  · exact set5 hBw (Nat.le_succ _) _ _ _ _ _

set_option maxRecDepth 100000 in
set_option maxHeartbeats 2000000 in
theorem cerf_ok (R : Nat → Rat) (hR : RootS piS R) (p q : Int) (b : Nat) (w : World) (hr : rok p q) (h5 : 8 ≤ b) (h6 : b ≤ 120) :
    Calls Tryz.prog 45 #[.agg #[.int .i64 p, .int .i64 q], .int .i64 b] w (fun r w' => ∃ L H, ErV R p q b L H ∧ PairAns w b 250 L H 0 r w') := by
  obtain ⟨W, hW⟩ : ∃ W, W = (w.alloc (.cells #[.int .i64 p, .int .i64 q] 23)).alloc (.cells #[.bool false, .slice none 0 0, .bool false, .slice none 0 0, .int .i64 0] 28) := ⟨_, rfl⟩
  have hBW : Below w.heap.size w W := by rw [hW]; exact bl2 _ _ _
  have A : RaC W w.heap.size p q := by rw [hW]; exact ⟨by simp [go_sem], by simp [go_sem]⟩
  have R' : NoC W (w.heap.size + 1) := by rw [hW]; exact ⟨by simp [go_sem], by simp [go_sem], by simp [go_sem], by simp [go_sem], by simp [go_sem], fun o => by simp [go_sem]⟩
  have HR := hide hr
  clear hr
  go_enter Tryz.func45, Tryz.ntmps45
  go_wp2_with fail
  rw [← hW]
  clear hW
  refine (made_erf_ok R hR p q b w.heap.size _ (unhide HR) h5 h6 A).mono ?_
  rintro r' w3 ⟨L, H, hLH, u, rfl, hub, hup, hb3⟩
  obtain ⟨q0, q1, q2, q3, q4, q5⟩ := R'.below hb3
  have lR := (R'.below hb3).lt
  replace hBW := bthen hBW hb3
  have HU := hide hub
  have HLH := hide hLH
  clear hub hLH
  go_wp2_with fail
  refine bodyPost_ret (v := .tuple #[.agg #[.bool u.ln, .slice u.la u.lN u.lc, .bool u.hn, .slice u.ha u.hN u.hc, .int .i64 u.bits], .int .i64 0]) (by simp [results, Tryz.results45, go_sem, q0, q1, q2, q3, q4]) rfl ⟨L, H, unhide HLH, u, rfl, unhide HU, ?_, ?_⟩
  · exact SpAt.put5 hup q0 q1 q2 q3 q4 _ _ _ _ _
  · exact set5 hBW (Nat.le_succ _) _ _ _ _ _

end Go.Proofs.YtgmnknmjainababGreat

namespace Go.Proofs.YtgmnknmjainababGreat
set_option linter.unusedVariables false
open Ex

theorem absR_neg (p q : Int) : absR (-p) q = absR p q := by
  unfold absR
  congr 1
  rw [Rat.intCast_neg]
  by_cases h : p < 0
  · rw [if_pos h, if_neg (by omega)]
  · rw [if_neg h]
    by_cases h2 : 0 < p
    · rw [if_pos (by omega)]; grind
    · have : p = 0 := by omega
      subst this
      rw [if_neg (by omega)]
      decide +kernel
theorem erf_zero (R : Nat → Rat) (M : Nat) : erfS R 0 M = 0 := by
  have h : ∀ n, eT 0 n = 0 := fun n => by
    induction n with
    | zero => rfl
    | succ n ih => show _ * eT 0 n = 0; rw [ih]; grind
  have e : eS 0 M = 0 := by
    unfold eS
    induction M with
    | zero => rfl
    | succ n ih => show S (eT 0) n + eT 0 n = 0; rw [ih, h]; grind
  unfold erfS
  rw [e, Rat.div_def]
  grind
theorem absR_zero (q : Int) : absR 0 q = 0 := by unfold absR; rw [if_neg (by omega), Rat.div_def]; show (0 : Rat) * _ = 0; grind
theorem erR_neg (R : Nat → Rat) (p q : Int) (M : Nat) : erR R (-p) q M = -erR R p q M := by
  unfold erR
  rw [absR_neg]
  by_cases h : p < 0
  · rw [if_pos h, if_neg (by omega)]; grind
  · rw [if_neg h]
    by_cases h2 : 0 < p
    · rw [if_pos (by omega)]
    · have : p = 0 := by omega
      subst this
      rw [if_neg (by omega), absR_zero, erf_zero]
      grind
theorem Iv.nought {b : Nat} {a : Int × Int} (h : Iv b a (fun _ => 0)) : a.1 ≤ 0 ∧ 0 ≤ a.2 := by
  have q := Qr_pos b
  obtain ⟨h1, h2⟩ := Has.of_const h
  constructor
  · refine Int.not_lt.1 fun hlt => ?_
    have : (0 : Rat) < (a.1 : Rat) := by exact_mod_cast hlt
    have := rdiv_pos this q
    grind
  · refine Int.not_lt.1 fun hlt => ?_
    have h3 : (a.2 : Rat) < 0 := by exact_mod_cast hlt
    have h4 := rdiv_pos (show 0 < -(a.2 : Rat) by grind) q
    have e : -(a.2 : Rat) / (Q b : Rat) = -((a.2 : Rat) / (Q b : Rat)) := by rw [Rat.div_def, Rat.div_def, Rat.neg_mul]
    grind
theorem one_ser : riseI (riT (Q 40, Q 40) (erU 1) (erD 1)) 14 = (2232094882262, 2232094882285) := by decide +kernel
theorem one_rise : IsRise (riT (Q 40, Q 40) (erU 1) (erD 1)) (erTurn 1 1) 14 := ⟨by decide +kernel, by decide +kernel, by decide +kernel⟩
theorem one_exp : sqI 40 (doneI (expT 40 (downI (Q 40, Q 40) 8)) 8) 8 = (2988782476012, 2988782482163) := by decide +kernel
theorem one_pi : piI 40 9 3 = (3454217652248, 3454217652480) := by decide +kernel
theorem one_den : mulI 40 (1948833618736, 1948833618802) (2988782476012, 2988782482163) = (5297479009042, 5297479020124) := by decide +kernel
/-- The error function of 1. -/
theorem erf_of_one {R : Nat → Rat} (hR : RootS piS R) {L H : Int} (v : ErV R 1 1 20 L H) : L ≤ 883636 ∧ 883635 ≤ H := by
  have q40 : Q 40 = 1099511627776 := rfl
  have q20 : Q 20 = 1048576 := rfl
  have a1 : absR 1 1 = 1 := by decide +kernel
  have i1 : Iv 40 (2232094882262, 2232094882285) (eS 1) := by
    have := er_has (B := 40) (N := 14) (a := (Q 40, Q 40)) (n := 1) (d := 1) (x := 1) (by grind) (by omega) (by omega) (by decide +kernel) (one_iv 40) one_rise
    rw [one_ser] at this
    exact this
  have i2 : Iv 40 (2988782476012, 2988782482163) (ex (1 * 1)) := by
    have := exp_has (B := 40) (N := 8) (t := 8) (a := (Q 40, Q 40)) (by omega) (one_iv 40) (by
      have e : downI (Q 40, Q 40) 8 = (Q 32, Q 32) := by decide +kernel
      rw [e]
      have := Q_pos 32
      exact ⟨by show -Q 32 ≤ Q 32; omega, Int.le_refl _, by show -Q 32 ≤ Q 32; omega, Int.le_refl _⟩)
    rw [one_exp] at this
    rw [show (1 : Rat) * 1 = 1 by decide +kernel]
    exact this
  have i3 : Iv 40 (1948833618736, 1948833618802) R := by
    have h := pi_has 40 9 3
    rw [one_pi] at h
    exact root_iv h hR (by rw [q40]; decide +kernel) (by omega) (by rw [q40]; decide +kernel)
  have i4 := Iv.mul i3 i2
  rw [one_den] at i4
  have i5 : Iv 40 (926559319262, 926559321211) (erfS R 1) := by
    have := Iv.div (s := timesI (2232094882262, 2232094882285) 2) (i1.times 2) i4 (by decide) (lo := 926559319262) (hi := 926559321211) (by rw [q40]; decide +kernel) (by rw [q40]; decide +kernel) (by rw [q40]; decide +kernel) (by rw [q40]; decide +kernel)
    exact this
  rcases v.val with ⟨h1, _⟩ | ⟨_, h2⟩
  · exact absurd h1 (by decide)
  · have e : erR R 1 1 = erfS R 1 := by funext M; unfold erR; rw [if_neg (by decide), a1]
    rw [e] at h2
    have t1 := Iv.touch h2 i5
    have t2 := Iv.touch i5 h2
    rw [q40, q20] at t1 t2
    simp only [] at t1 t2
    omega
end Go.Proofs.YtgmnknmjainababGreat

namespace Go.Proofs.YtgmnknmjainababGreat
set_option linter.unusedVariables false
set_option linter.unusedSimpArgs false
set_option linter.unnecessarySimpa false
open Go.RowKit
attribute [local go_sem ↓] Go.wp_at_zero Go.wp_at_succ

/-- Do two spans touch? Of each the ends, and how many bits more it is told by. -/
def touB (lo hi : Int) (i : Nat) (lo' hi' : Int) (j : Nat) : Bool := decide (lo * Q i ≤ hi' * Q j) && decide (lo' * Q j ≤ hi * Q i)

theorem downZ_up (x : Int) (a b : Int) (i : Nat) (h : b - a = (i : Int)) : downZ x (a - b) = x * Q i := by
  unfold downZ
  by_cases h0 : i = 0
  · subst h0
    have e : a - b = 0 := by omega
    rw [e]; simp [Q]
  · rw [if_neg (by omega)]; congr 2; omega
theorem downZ_upn (x : Int) (a b : Int) (i : Nat) (h : b - a = (i : Int)) : -(downZ (-x) (a - b)) = x * Q i := by
  rw [downZ_up _ a b i h, Int.neg_mul, Int.neg_neg]

set_option maxRecDepth 100000 in
set_option maxHeartbeats 4000000 in
theorem touch_gt (w : World) (s t : Sp) (k i j : Nat) (lo hi lo' hi' : Int) (hs : SpAt w s k lo hi) (ht : SpAt w t k lo' hi') (hk : k ≤ 300000000) (s0 : 0 ≤ s.bits) (s1 : s.bits ≤ 1000000) (t0 : 0 ≤ t.bits) (t1 : t.bits ≤ 1000000) (hc : s.bits < t.bits) (hi1 : t.bits - s.bits = (i : Int)) (hj1 : t.bits - t.bits = (j : Int)) :
    Calls Tryz.prog 50 #[.agg #[.bool s.ln, .slice s.la s.lN s.lc, .bool s.hn, .slice s.ha s.hN s.hc, .int .i64 s.bits], .agg #[.bool t.ln, .slice t.la t.lN t.lc, .bool t.hn, .slice t.ha t.hN t.hc, .int .i64 t.bits]] w fun r w' => r = .returned (.bool (touB lo hi i lo' hi' j)) ∧ Below w.heap.size w w' := by
  obtain ⟨W, hW⟩ : ∃ W, W = (w.alloc (.cells #[.bool s.ln, .slice s.la s.lN s.lc, .bool s.hn, .slice s.ha s.hN s.hc, .int .i64 s.bits] 36)).alloc (.cells #[.bool t.ln, .slice t.la t.lN t.lc, .bool t.hn, .slice t.ha t.hN t.hc, .int .i64 t.bits] 36) := ⟨_, rfl⟩
  have hBW : Below w.heap.size w W := by rw [hW]; exact bl2 _ _ _
  have A : SpC W w.heap.size s := by rw [hW]; exact ⟨by simp [go_sem], by simp [go_sem], by simp [go_sem], by simp [go_sem], by simp [go_sem]⟩
  have G : SpC W (w.heap.size + 1) t := by rw [hW]; exact ⟨by simp [go_sem], by simp [go_sem], by simp [go_sem], by simp [go_sem], by simp [go_sem]⟩
  have FA : ∀ o, W.frozen? ⟨w.heap.size, o, none⟩ = false := by intro o; rw [hW]; simp [go_sem]
  have FG : ∀ o, W.frozen? ⟨w.heap.size + 1, o, none⟩ = false := by intro o; rw [hW]; simp [go_sem]
  have a1 := hide (downZ_up lo s.bits (t.bits) i hi1)
  have a2 := hide (downZ_upn hi s.bits (t.bits) i hi1)
  have a3 := hide (downZ_up lo' t.bits (t.bits) j hj1)
  have a4 := hide (downZ_upn hi' t.bits (t.bits) j hj1)
  have HS := hide (hs.below hBW)
  have HT := hide (ht.below hBW)
  have HA := hide A
  have HG := hide G
  have lA := A.lt
  have lG := G.lt
  have nAG : w.heap.size ≠ w.heap.size + 1 := by omega
  clear hi1 hj1 hs ht
  go_enter Tryz.func50, Tryz.ntmps50
  go_wp2_with fail
  rw [← hW]
  clear hW
  obtain ⟨x0, x1, x2, x3, x4⟩ := A
  obtain ⟨y0, y1, y2, y3, y4⟩ := G
  try go_wp2_with fail
  go_cut [] (fun wx => ∃ s2 t2 : Sp, SpC wx w.heap.size s2 ∧ SpC wx (w.heap.size + 1) t2 ∧ SpAt wx s2 (k + 62505) (lo * Q i) (hi * Q i) ∧ SpAt wx t2 (k + 62505) (lo' * Q j) (hi' * Q j) ∧ Below w.heap.size w wx)
  case first =>
    go_region_with
      (first
        | (go_at_call 90; have hq := hB1; refine (refTurn_int _ t k (t.bits) lo' hi' ((unhide HT).below hB1) hk t0 t1 (by omega) (by omega)).mono ?_; rintro r w2 ⟨u2, rfl, hub2, hup2, hb2⟩; rw [unhide a3, unhide a4] at hup2; clear hub2; have hB2 := bthen hB1 hb2; replace hup1 := hup1.below hb2; have l2A := Nat.lt_of_lt_of_le lA hB2.size; have l2G := Nat.lt_of_lt_of_le lG hB2.size; obtain ⟨a0, a1, a2, a3, a4⟩ := (unhide HA).below hB2; obtain ⟨g0, g1, g2, g3, g4⟩ := (unhide HG).below hB2; have fA2 : ∀ o, w2.frozen? ⟨w.heap.size, o, none⟩ = false := (fun o => (hB2.frozen (p := ⟨w.heap.size, o, none⟩) lA).trans (FA o)); have fG2 : ∀ o, w2.frozen? ⟨w.heap.size + 1, o, none⟩ = false := (fun o => (hB2.frozen (p := ⟨w.heap.size + 1, o, none⟩) lG).trans (FG o)))
        | (go_at_call 90; refine (refTurn_int _ s k (t.bits) lo hi ((unhide HS).below (by repeat' (first | with_reducible exact Below.refl _ _ | with_reducible refine Below.drew ?_))) hk s0 s1 (by omega) (by omega)).mono ?_; rintro r w1 ⟨u1, rfl, hub1, hup1, hb1⟩; rw [unhide a1, unhide a2] at hup1; clear hub1; have hB1 : Below W.heap.size W w1 := bthen (by repeat' (first | with_reducible exact Below.refl _ _ | with_reducible refine Below.drew ?_)) hb1; obtain ⟨b0, b1, b2, b3, b4⟩ := (unhide HA).below hB1; obtain ⟨d0, d1, d2, d3, d4⟩ := (unhide HG).below hB1; have l1A := Nat.lt_of_lt_of_le lA hB1.size; have l1G := Nat.lt_of_lt_of_le lG hB1.size))
    all_goals
      go_wp2_with fail
      go_meet
      have A2 : SpC w2 w.heap.size s := ⟨a0, a1, a2, a3, a4⟩
      have G2 : SpC w2 (w.heap.size + 1) t := ⟨g0, g1, g2, g3, g4⟩
      obtain ⟨p1, p2, p3, p4⟩ := two_sp A2 G2 nAG u1 u2
      exact ⟨u1, u2, p1, p2, p3 hup1, p3 hup2, set5 (set5 (bthen hBW hB2) (Nat.le_refl _) _ _ _ _ _) (Nat.le_succ _) _ _ _ _ _⟩
  case rest =>
  obtain ⟨s2, t2, A, G, hs, ht, hBW⟩ := hcut
  clear HA HG HS HT lA lG x0 x1 x2 x3 x4 y0 y1 y2 y3 y4 FA FG
  have lA := A.lt
  have lG := G.lt
  by_cases hq : lo * Q i ≤ hi' * Q j
  · have c1 : cmpInt (lo * Q i) (hi' * Q j) ≤ 0 := by unfold cmpInt; split; omega; rw [if_neg (by omega)]; omega
    have HE := hide (show decide (cmpInt (lo' * Q j) (hi * Q i) ≤ 0) = touB lo hi i lo' hi' j by rw [cmp_le0]; unfold touB; rw [decide_eq_true hq, Bool.true_and])
    obtain ⟨x0, x1, x2, x3, x4⟩ := A
    obtain ⟨y0, y1, y2, y3, y4⟩ := G
    clear hq
    go_wp2_with fail
    refine (cmp_int _ _ _ _ _ _ _ _ (k + 62505) (k + 62505) (lo * Q i) (hi' * Q j) _ hs.lo ht.hi).mono ?_
    rintro r w1 ⟨rfl, hb1⟩
    have A := (SpC.mk x0 x1 x2 x3 x4).below hb1
    have G := (SpC.mk y0 y1 y2 y3 y4).below hb1
    replace hs := hs.below hb1
    replace ht := ht.below hb1
    replace hBW := bthen hBW hb1
    clear x0 x1 x2 x3 x4 y0 y1 y2 y3 y4 hb1
    obtain ⟨x0, x1, x2, x3, x4⟩ := A
    obtain ⟨y0, y1, y2, y3, y4⟩ := G
    go_wp2_with fail
    refine (cmp_int _ _ _ _ _ _ _ _ (k + 62505) (k + 62505) (lo' * Q j) (hi * Q i) _ ht.lo hs.hi).mono ?_
    rintro r w2 ⟨rfl, hb2⟩
    replace hBW := bthen hBW hb2
    go_wp2_with fail
    go_ret
    exact ⟨by rw [← unhide HE]; rfl, hBW⟩
  · have c1 : ¬ cmpInt (lo * Q i) (hi' * Q j) ≤ 0 := by unfold cmpInt; rw [if_neg (by omega), if_pos (by omega)]; omega
    have HE := hide (show touB lo hi i lo' hi' j = false by unfold touB; rw [decide_eq_false hq, Bool.false_and])
    obtain ⟨x0, x1, x2, x3, x4⟩ := A
    obtain ⟨y0, y1, y2, y3, y4⟩ := G
    clear hq
    go_wp2_with fail
    refine (cmp_int _ _ _ _ _ _ _ _ (k + 62505) (k + 62505) (lo * Q i) (hi' * Q j) _ hs.lo ht.hi).mono ?_
    rintro r w1 ⟨rfl, hb1⟩
    replace hBW := bthen hBW hb1
    go_wp2_with fail
    go_ret
    exact ⟨by rw [unhide HE]; rfl, hBW⟩

end Go.Proofs.YtgmnknmjainababGreat

namespace Go.Proofs.YtgmnknmjainababGreat
set_option linter.unusedVariables false
set_option linter.unusedSimpArgs false
set_option linter.unnecessarySimpa false
open Go.RowKit
attribute [local go_sem ↓] Go.wp_at_zero Go.wp_at_succ

theorem cmp_nneg {x : Int} (h : 0 ≤ x) : 0 ≤ cmpInt x 0 := by unfold cmpInt; rw [if_neg (by omega)]; split <;> omega

end Go.Proofs.YtgmnknmjainababGreat

namespace Go.Proofs.YtgmnknmjainababGreat
set_option linter.unusedVariables false
set_option linter.unusedSimpArgs false
set_option linter.unnecessarySimpa false
open Go.RowKit
attribute [local go_sem ↓] Go.wp_at_zero Go.wp_at_succ

theorem NoC.vr {w : World} {B : Nat} (h : NoC w B) (u : Sp) : VrC (put5w w B u) B u := by
  refine ⟨?_, fz_put5 h.fz u⟩
  obtain ⟨q0, q1, q2, q3, q4, q5⟩ := h
  constructor <;> simp [go_sem, q0, q1, q2, q3, q4]
theorem NoC.spat {w : World} {B : Nat} (h : NoC w B) {s : Sp} {k : Nat} {lo hi : Int} (hs : SpAt w s k lo hi) (u : Sp) : SpAt (put5w w B u) s k lo hi := SpAt.put5 hs h.c0 h.c1 h.c2 h.c3 h.c4 _ _ _ _ _
/-- Two variables that were made behind world W. -/
def TwoP (W wx : World) (b k1 k2 : Nat) (a c : Int × Int) (p q : Value) : Prop :=
  ∃ (B B' : Nat) (x y : Sp), p = .pointer (some ⟨B, 0, none⟩) ∧ q = .pointer (some ⟨B', 0, none⟩) ∧ W.heap.size ≤ B ∧ W.heap.size ≤ B' ∧ B ≠ B' ∧ VrC wx B x ∧ VrC wx B' y ∧ SpAt wx x k1 a.1 a.2 ∧ SpAt wx y k2 c.1 c.2 ∧ x.bits = (b : Int) ∧ y.bits = (b : Int) ∧ Below W.heap.size W wx
theorem vr_new (w : World) (x : Sp) (T : TypeId) : VrC (w.alloc (.cells #[.bool x.ln, .slice x.la x.lN x.lc, .bool x.hn, .slice x.ha x.hN x.hc, .int .i64 x.bits] T)) w.heap.size x := ⟨spc_new w x T, fun o => by simp [go_sem]⟩
theorem vr_new' (w : World) (B : Nat) (hB : w.heap.size = B) (x : Sp) (T : TypeId) : VrC (w.alloc (.cells #[.bool x.ln, .slice x.la x.lN x.lc, .bool x.hn, .slice x.ha x.hN x.hc, .int .i64 x.bits] T)) B x := by subst hB; exact vr_new w x T
variable {W w2 : World} {b k1 k2 : Nat} {a c : Int × Int} {x y : Sp} {T : TypeId}
theorem twoP_aa (hb : Below W.heap.size W w2) (ix : SpAt w2 x k1 a.1 a.2) (iy : SpAt w2 y k2 c.1 c.2) (bx : x.bits = (b : Int)) (by_ : y.bits = (b : Int)) :
    TwoP W ((w2.alloc (.cells #[.bool x.ln, .slice x.la x.lN x.lc, .bool x.hn, .slice x.ha x.hN x.hc, .int .i64 x.bits] T)).alloc (.cells #[.bool y.ln, .slice y.la y.lN y.lc, .bool y.hn, .slice y.ha y.hN y.hc, .int .i64 y.bits] T)) b k1 k2 a c (.pointer (some ⟨w2.heap.size, 0, none⟩)) (.pointer (some ⟨w2.heap.size + 1, 0, none⟩)) :=
  ⟨_, _, x, y, rfl, rfl, hb.size, Nat.le_succ_of_le hb.size, Nat.ne_of_lt (Nat.lt_succ_self _), (vr_new w2 x T).below (bl1 _ _), vr_new' _ _ (by simp) y T, ix.below (bl2 _ _ _), iy.below (bl2 _ _ _), bx, by_, bthen hb (bl2 _ _ _)⟩
theorem TwoP.swap {wx : World} {p q : Value} (h : TwoP W wx b k1 k2 a c p q) : TwoP W wx b k2 k1 c a q p := by
  obtain ⟨B, B', x, y, h1, h2, h3, h4, h5, h6, h7, h8, h9, h10, h11, h12⟩ := h
  exact ⟨B', B, y, x, h2, h1, h4, h3, fun e => h5 e.symm, h7, h6, h9, h8, h11, h10, h12⟩
theorem twoP_aa' (hb : Below W.heap.size W w2) (ix : SpAt w2 x k1 a.1 a.2) (iy : SpAt w2 y k2 c.1 c.2) (bx : x.bits = (b : Int)) (by_ : y.bits = (b : Int)) :
    TwoP W ((w2.alloc (.cells #[.bool y.ln, .slice y.la y.lN y.lc, .bool y.hn, .slice y.ha y.hN y.hc, .int .i64 y.bits] T)).alloc (.cells #[.bool x.ln, .slice x.la x.lN x.lc, .bool x.hn, .slice x.ha x.hN x.hc, .int .i64 x.bits] T)) b k1 k2 a c (.pointer (some ⟨w2.heap.size + 1, 0, none⟩)) (.pointer (some ⟨w2.heap.size, 0, none⟩)) := (twoP_aa hb iy ix by_ bx).swap
theorem twoP_sa {B : Nat} (hb : Below W.heap.size W w2) (ix : SpAt w2 x k1 a.1 a.2) (iy : SpAt w2 y k2 c.1 c.2) (bx : x.bits = (b : Int)) (by_ : y.bits = (b : Int)) (g : NoC w2 B) (h1 : W.heap.size ≤ B) :
    TwoP W ((put5w w2 B x).alloc (.cells #[.bool y.ln, .slice y.la y.lN y.lc, .bool y.hn, .slice y.ha y.hN y.hc, .int .i64 y.bits] T)) b k1 k2 a c (.pointer (some ⟨B, 0, none⟩)) (.pointer (some ⟨w2.heap.size, 0, none⟩)) := by
  have hx := g.vr x
  have ix' := g.spat ix x
  have iy' := g.spat iy x
  have hl := g.lt
  have hs := size_put w2 B x
  have hb' := below_put hb h1 x
  generalize put5w w2 B x = V at *
  rw [← hs]
  exact ⟨_, _, x, y, rfl, rfl, h1, hb'.size, by omega, hx.below (bl1 _ _), vr_new V y T, ix'.below (bl1 _ _), iy'.below (bl1 _ _), bx, by_, bthen hb' (bl1 _ _)⟩
theorem twoP_as {B : Nat} (hb : Below W.heap.size W w2) (ix : SpAt w2 x k1 a.1 a.2) (iy : SpAt w2 y k2 c.1 c.2) (bx : x.bits = (b : Int)) (by_ : y.bits = (b : Int)) (g : NoC w2 B) (h1 : W.heap.size ≤ B) :
    TwoP W ((put5w w2 B y).alloc (.cells #[.bool x.ln, .slice x.la x.lN x.lc, .bool x.hn, .slice x.ha x.hN x.hc, .int .i64 x.bits] T)) b k1 k2 a c (.pointer (some ⟨w2.heap.size, 0, none⟩)) (.pointer (some ⟨B, 0, none⟩)) := (twoP_sa hb iy ix by_ bx g h1).swap
theorem twoP_ss {B B' : Nat} (hb : Below W.heap.size W w2) (ix : SpAt w2 x k1 a.1 a.2) (iy : SpAt w2 y k2 c.1 c.2) (bx : x.bits = (b : Int)) (by_ : y.bits = (b : Int)) (g : NoC w2 B) (g' : NoC w2 B') (h1 : W.heap.size ≤ B) (h2 : W.heap.size ≤ B') (hne : B ≠ B') :
    TwoP W (put5w (put5w w2 B x) B' y) b k1 k2 a c (.pointer (some ⟨B, 0, none⟩)) (.pointer (some ⟨B', 0, none⟩)) := by
  have hx := g.vr x
  have ix' := g.spat ix x
  have iy' := g.spat iy x
  have g2 := g'.off (Ne.symm hne) x
  have hb' := below_put hb h1 x
  generalize put5w w2 B x = V at *
  exact ⟨_, _, x, y, rfl, rfl, h1, h2, hne, hx.off hne y, g2.vr y, g2.spat ix' y, g2.spat iy' y, bx, by_, below_put hb' h2 y⟩
end Go.Proofs.YtgmnknmjainababGreat

namespace Go.Proofs.YtgmnknmjainababGreat
set_option linter.unusedVariables false
set_option linter.unusedSimpArgs false
set_option linter.unnecessarySimpa false
open Go.RowKit
attribute [local go_sem ↓] Go.wp_at_zero Go.wp_at_succ

theorem refTimes_iv (w : World) (s t : Sp) (k b : Nat) (a c : Int × Int) (hs : SpAt w s k a.1 a.2) (ht : SpAt w t k c.1 c.2) (hk : k ≤ 300000000) (hb : s.bits = (b : Int)) (hbm : b ≤ 1000000) :
    Calls Tryz.prog 52 #[.agg #[.bool s.ln, .slice s.la s.lN s.lc, .bool s.hn, .slice s.ha s.hN s.hc, .int .i64 s.bits], .agg #[.bool t.ln, .slice t.la t.lN t.lc, .bool t.hn, .slice t.ha t.hN t.hc, .int .i64 t.bits]] w (SpanAns w b (k + k + 8) (mulI b a c).1 (mulI b a c).2) :=
  (refTimes_int w s t k a.1 a.2 c.1 c.2 hs ht hk (by omega) (by omega)).mono fun r w' h => by
    rw [hb, downZ_nat, downZ_nat] at h; exact h
theorem refPlus_iv (w : World) (s t : Sp) (k b : Nat) (a c : Int × Int) (hs : SpAt w s k a.1 a.2) (ht : SpAt w t k c.1 c.2) (hk : k ≤ 700000000) (hb : s.bits = (b : Int)) :
    Calls Tryz.prog 57 #[.agg #[.bool s.ln, .slice s.la s.lN s.lc, .bool s.hn, .slice s.ha s.hN s.hc, .int .i64 s.bits], .agg #[.bool t.ln, .slice t.la t.lN t.lc, .bool t.hn, .slice t.ha t.hN t.hc, .int .i64 t.bits]] w (SpanAns w b (k + 1) (addI a c).1 (addI a c).2) :=
  (refPlus_int w s t k a.1 a.2 c.1 c.2 hs ht hk).mono fun r w' h => by rw [hb] at h; exact h
theorem small_reach {lo hi : Int} : smallB lo hi 1 = decide (reachI (lo, hi) ≤ 1) := by
  unfold smallB reachI maxZ
  rw [Bool.eq_iff_iff, Bool.and_eq_true, decide_eq_true_iff, decide_eq_true_iff, decide_eq_true_iff]
  simp only []
  split <;> omega
/-- Where tailsureref.lowExp is behind some rounds. -/
structure LowSt (w wr : World) (B5 B6 B7 b K : Nat) (U Pp Sm : Sp) (f : Nat → Int × Int) (X : Int) (i : Nat) : Prop where
  u : VrC wr B5 U
  p : VrC wr B6 Pp
  s : VrC wr B7 Sm
  up : SpAt wr U K (f i).1 (f i).2
  pp : SpAt wr Pp K X X
  sp : SpAt wr Sm K (sumI f i).1 (sumI f i).2
  ub : U.bits = (b : Int)
  pb : Pp.bits = (b : Int)
  sb : Sm.bits = (b : Int)
  no : NoC wr (w.heap.size + 1)
  be : Below w.heap.size w wr
  l5 : w.heap.size + 1 < B5
  l6 : w.heap.size + 1 < B6
  l7 : w.heap.size + 1 < B7
  n56 : B5 ≠ B6
  n57 : B5 ≠ B7
  n67 : B6 ≠ B7
theorem LowSt.below {w wr wr' : World} {B5 B6 B7 b K : Nat} {U Pp Sm : Sp} {f : Nat → Int × Int} {X : Int} {i : Nat} (h : LowSt w wr B5 B6 B7 b K U Pp Sm f X i) (hb : Below wr.heap.size wr wr') : LowSt w wr' B5 B6 B7 b K U Pp Sm f X i :=
  ⟨h.u.below hb, h.p.below hb, h.s.below hb, h.up.below hb, h.pp.below hb, h.sp.below hb, h.ub, h.pb, h.sb, h.no.below hb, bthen h.be hb, h.l5, h.l6, h.l7, h.n56, h.n57, h.n67⟩

end Go.Proofs.YtgmnknmjainababGreat

namespace Go.Proofs.YtgmnknmjainababGreat
set_option linter.unusedVariables false
set_option linter.unusedSimpArgs false
set_option linter.unnecessarySimpa false
open Go.RowKit
attribute [local go_sem ↓] Go.wp_at_zero Go.wp_at_succ

structure RaiSt2 (w wr : World) (B5 b K : Nat) (O S : Sp) (o s : Int × Int) : Prop where
  u : VrC wr B5 O
  v : VrC wr w.heap.size S
  up : SpAt wr O K o.1 o.2
  vp : SpAt wr S K s.1 s.2
  ub : O.bits = (b : Int)
  vb : S.bits = (b : Int)
  no : NoC wr (w.heap.size + 1)
  be : Below w.heap.size w wr
  l5 : w.heap.size + 1 < B5
theorem RaiSt2.below {w wr wr' : World} {B5 b K : Nat} {O S : Sp} {o s : Int × Int} (h : RaiSt2 w wr B5 b K O S o s) (hb : Below wr.heap.size wr wr') : RaiSt2 w wr' B5 b K O S o s :=
  ⟨h.u.below hb, h.v.below hb, h.up.below hb, h.vp.below hb, h.ub, h.vb, h.no.below hb, bthen h.be hb, h.l5⟩

end Go.Proofs.YtgmnknmjainababGreat

namespace Go.Proofs.YtgmnknmjainababGreat
set_option linter.unusedVariables false
set_option linter.unusedSimpArgs false
set_option linter.unnecessarySimpa false
open Go.RowKit
attribute [local go_sem ↓] Go.wp_at_zero Go.wp_at_succ

theorem fieldS0 (x y : Bool) (a a' : Option Addr) (n c n' c' : Nat) (b : Int) (w : World) : (Instr.field 36 (.agg #[.bool x, .slice a n c, .bool y, .slice a' n' c', .int .i64 b]) 0).run Tryz.prog w = .ok (.agg #[.bool x, .slice a n c]) w := by kernel_rfl
theorem fieldS1 (x y : Bool) (a a' : Option Addr) (n c n' c' : Nat) (b : Int) (w : World) : (Instr.field 36 (.agg #[.bool x, .slice a n c, .bool y, .slice a' n' c', .int .i64 b]) 1).run Tryz.prog w = .ok (.agg #[.bool y, .slice a' n' c']) w := by kernel_rfl

end Go.Proofs.YtgmnknmjainababGreat
