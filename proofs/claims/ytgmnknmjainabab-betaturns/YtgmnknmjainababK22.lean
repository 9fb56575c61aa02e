/-
  Texts Bpe, Bpf, Bpg, Msc, Mse, Rfp, GauQ, RootD, Rle, Lgo, Nrl, Lgr, Rfe, Rfo, ErfT, Rtl, Rlg, Nrf, Lgt, UppT: what they hold is told in the last text.
-/
import Derived.Deep.CutBlock
import Derived.Test.YtgmnknmjainababK21
set_option linter.unnecessarySimpa false
set_option linter.unusedSimpArgs false
set_option linter.unusedVariables false
namespace Go.Proofs.Ytgmnknmjainabab
open Go.RowKit
attribute [local go_sem ↓] Go.wp_at_zero Go.wp_at_succ
open Ex
structure BpAr (p q r s n d : Int) (B : Nat) : Prop where
  p0 : 0 < p
  q0 : 0 < q
  pq : p ≤ 100 * q
  qq : q ≤ 2048
  r0 : 0 < r
  s0 : 0 < s
  rs : r ≤ 100 * s
  ss : s ≤ 2048
  n0 : 0 ≤ n
  nd : n ≤ d
  d0 : 0 < d
  dd : d ≤ 4503599627370496
  b0 : 40 ≤ B
  b1 : B ≤ 400
theorem BpAr.turn {p q r s n d : Int} {B : Nat} (h : BpAr p q r s n d B) : BpAr r s p q (d - n) d B := ⟨h.r0, h.s0, h.rs, h.ss, h.p0, h.q0, h.pq, h.qq, by have := h.nd; omega, by have := h.n0; omega, h.d0, h.dd, h.b0, h.b1⟩
theorem bp_sum {p q r s : Int} (hq : 0 < q) (hs : 0 < s) : (((p * s + r * q) : Int) : Rat) / (((q * s) : Int) : Rat) = (p : Rat) / (q : Rat) + (r : Rat) / (s : Rat) := by
  have qr : (0 : Rat) < (q : Rat) := by exact_mod_cast hq
  have sr : (0 : Rat) < (s : Rat) := by exact_mod_cast hs
  rw [Rat.intCast_add, Rat.intCast_mul, Rat.intCast_mul, Rat.intCast_mul]
  have e1 := rdm (a := (p : Rat)) qr
  have e2 := rdm (a := (r : Rat)) sr
  have qs := Rat.mul_pos qr sr
  have e3 := rdm (a := (p : Rat) * (s : Rat) + (r : Rat) * (q : Rat)) qs
  generalize ((p : Rat) * (s : Rat) + (r : Rat) * (q : Rat)) / ((q : Rat) * (s : Rat)) = u at *
  generalize (p : Rat) / (q : Rat) = v at *
  generalize (r : Rat) / (s : Rat) = z at *
  refine rat_cancel (c := (q : Rat) * (s : Rat)) qs ?_
  rw [← e1, ← e2] at e3
  grind
theorem bp_st {p q r s : Int} (p0 : 0 < p) (q0 : 0 < q) (pq : p ≤ 100 * q) (qq : q ≤ 2048) (r0 : 0 < r) (s0 : 0 < s) (rs : r ≤ 100 * s) (ss : s ≤ 2048) : StIn p q ∧ StIn r s ∧ StIn (p * s + r * q) (q * s) ∧ (p * s + r * q) ≤ 4611686018427387904 := by
  have m1 := Int.mul_le_mul_of_nonneg_right pq (show 0 ≤ s by omega)
  have m2 := Int.mul_le_mul_of_nonneg_right rs (show 0 ≤ q by omega)
  have k1 := Int.mul_pos p0 s0
  have k2 := Int.mul_pos r0 q0
  have k3 := Int.mul_pos q0 s0
  have m3 := mulle qq ss (by omega) (by omega)
  have e1 : 100 * q * s = 100 * (q * s) := by grind
  have e2 : 100 * s * q = 100 * (q * s) := by grind
  exact ⟨⟨p0, q0, by omega, by omega⟩, ⟨r0, s0, by omega, by omega⟩, ⟨by omega, k3, by omega, by omega⟩, by omega⟩
theorem lgIs2_of {L G : Rat → Nat → Rat} {X : Int → Int → Nat → Rat} (hE : GEnv L G X) {n d : Int} {b : Nat} (st : StIn n d) (hn : n ≤ 4611686018427387904) (b0 : 40 ≤ b) (b1 : b ≤ 400) : LgIs2 n d b (X n d) := fun w' => by
  have g := hE.gam _ (gA_ok st).1 (gA_ok st).2
  exact logGamma_iv2 L hE.lns w' n d b (G (gA n d)) (X n d) st hn b0 (by omega) g (g.isGam hE.lns (gA_ok st).1).pos (hE.lg n d st)
theorem bj_log {L G : Rat → Nat → Rat} {X : Int → Int → Nat → Rat} (hE : GEnv L G X) {p q r s : Int} (s1 : StIn p q) (s2 : StIn r s) (s3 : StIn (p * s + r * q) (q * s)) : IsLog (fun M => X p q M + X r s M - X (p * s + r * q) (q * s) M) (bJ L ((p : Rat) / (q : Rat)) ((r : Rat) / (s : Rat))) := by
  have i3 := gam_ratio hE s3
  rw [bp_sum s1.d0 s2.d0] at i3
  have pr : (0 : Rat) < (p : Rat) := by exact_mod_cast s1.n0
  have qr : (0 : Rat) < (q : Rat) := by exact_mod_cast s1.d0
  have rr : (0 : Rat) < (r : Rat) := by exact_mod_cast s2.n0
  have sr : (0 : Rat) < (s : Rat) := by exact_mod_cast s2.d0
  exact bJ_log hE.lns (rdiv_pos pr qr) (rdiv_pos rr sr) (gam_ratio hE s1) (gam_ratio hE s2) i3 (hE.lg p q s1) (hE.lg r s s2) (hE.lg _ _ s3)
set_option maxRecDepth 100000 in
set_option maxHeartbeats 8000000 in
theorem part_zero (L : Rat → Nat → Rat) (hL : Lns L) (w : World) (x y : Nm) (p q r s n d : Int) (b : Nat) (hx : IntAt w x.neg x.a x.n x.cap 4 n) (hy : IntAt w y.neg y.a y.n y.cap 4 d) (h : BpAr p q r s n d b) (h0 : n = 0) :
    Calls Try.prog 76 #[.agg #[.bool x.neg, .slice x.a x.n x.cap], .agg #[.bool y.neg, .slice y.a y.n y.cap], .agg #[.int .i64 p, .int .i64 q], .agg #[.int .i64 r, .int .i64 s], .int .i64 b] w (fun z w' => ∃ lo hi, LwPr (bvX L p q r s n d) b lo hi ∧ SpanAns w b 30 lo hi z w') := by
  obtain ⟨W, hW⟩ : ∃ W, W = ((((w.alloc (.cells #[.bool x.neg, .slice x.a x.n x.cap] 26)).alloc (.cells #[.bool y.neg, .slice y.a y.n y.cap] 26)).alloc (.cells #[.int .i64 p, .int .i64 q] 23)).alloc (.cells #[.int .i64 r, .int .i64 s] 23)).alloc (.cells #[.bool false, .slice none 0 0, .bool false, .slice none 0 0, .int .i64 0] 28) := ⟨_, rfl⟩
  have hBW : Below w.heap.size w W := by rw [hW]; exact bl5 _ _ _ _ _ _
  have X0 : NmC W (w.heap.size) x := by rw [hW]; exact ⟨by simp [go_sem], by simp [go_sem]⟩
  have Y0 : NmC W (w.heap.size + 1) y := by rw [hW]; exact ⟨by simp [go_sem], by simp [go_sem]⟩
  have A : RaC W (w.heap.size + 1 + 1) p q := by rw [hW]; exact ⟨by simp [go_sem], by simp [go_sem]⟩
  have D : RaC W (w.heap.size + 1 + 1 + 1) r s := by rw [hW]; exact ⟨by simp [go_sem], by simp [go_sem]⟩
  have R : NoC W (w.heap.size + 1 + 1 + 1 + 1) := by rw [hW]; exact ⟨by simp [go_sem], by simp [go_sem], by simp [go_sem], by simp [go_sem], by simp [go_sem], fun o => by simp [go_sem]⟩
  have HX := hide (hx.below hBW)
  have HY := hide (hy.below hBW)
  have fX0 := X0.c0
  have fX1 := X0.c1
  have fY0 := Y0.c0
  have fY1 := Y0.c1
  clear hx hy
  have d0 := h.d0
  have b1 := h.b1
  have dd := h.dd
  have HPL := hide (show -P 4 < d - n ∧ d - n < P 4 by
    have : P 4 = 18446744073709551616 := rfl
    exact ⟨by omega, by omega⟩)
  have HC := hide (show cmpInt n (d - n) = -1 by unfold cmpInt; rw [if_pos (by omega)])
  have HC0 := hide (show cmpInt n 0 = 0 by rw [h0]; rfl)
  have HV := hide (show LwPr (bvX L p q r s n d) b 0 0 by
    have q := Q_pos b
    have q2 := Q_pos 89
    refine ⟨Int.le_refl _, Int.le_refl _, by omega, by omega, ?_⟩
    unfold bvX
    rw [if_pos h0]
    have e : ((0 : Int) : Rat) / (Q b : Rat) = 0 := by rw [show ((0 : Int) : Rat) = 0 from rfl, Rat.div_def, Rat.zero_mul]
    exact Has.const (by rw [e]; exact Rat.le_refl) (by rw [e]; exact Rat.le_refl))
  have HZ := hide (show n * Q b / d = 0 ∧ -(-(n * Q b) / d) = 0 by rw [h0, Int.zero_mul]; simp)
  clear h h0 hL
  go_enter Try.func76, Try.ntmps76
  go_upto_region 1 with fail
  rw [← hW]
  clear hW
  go_wp2_with fail
  clear fX0 fX1 fY0 fY1
  refine (sub_int _ _ _ _ _ _ _ _ 4 4 d n _ (unhide HY) (unhide HX) (by omega) (by omega)).mono ?_
  rintro z0 w0 ⟨negL, aL, nL, cL, rfl, hintL, hb0⟩
  obtain ⟨VL, hVL⟩ : ∃ V, V = w0.alloc (.cells #[.bool negL, .slice aL nL cL] 26) := ⟨_, rfl⟩
  have bVL : Below w0.heap.size w0 VL := by rw [hVL]; exact bl1 _ _
  have L0 : NmC VL w0.heap.size (⟨negL, aL, nL, cL⟩ : Nm) := by rw [hVL]; exact ⟨by simp [go_sem], by simp [go_sem]⟩
  have HLI := hide ((hintL.fits (K := 4) (unhide HPL).1 (unhide HPL).2).below bVL)
  have hbL := bthen hb0 bVL
  have kL : w.heap.size + 1 + 1 + 1 + 1 < w0.heap.size := Nat.lt_of_lt_of_le R.lt hb0.size
  replace A := A.below hbL
  replace D := D.below hbL
  replace X0 := X0.below hbL
  replace Y0 := Y0.below hbL
  replace R := R.below hbL
  replace HX := hide ((unhide HX).below hbL)
  replace HY := hide ((unhide HY).below hbL)
  replace hBW := bthen hBW hbL
  clear hbL hb0 bVL hintL
  obtain ⟨fx0, fx1⟩ := X0
  obtain ⟨fl0, fl1⟩ := L0
  have lX := NmC.lt ⟨fx0, fx1⟩
  have lL := NmC.lt ⟨fl0, fl1⟩
  go_upto_region 2 with fail
  rw [← hVL]
  clear hVL
  go_wp2_with fail
  have X0 : NmC VL (w.heap.size) x := ⟨fx0, fx1⟩
  have L0 : NmC VL w0.heap.size (⟨negL, aL, nL, cL⟩ : Nm) := ⟨fl0, fl1⟩
  clear fx0 fx1 fl0 fl1 lX lL
  refine (cmp_int _ _ _ _ _ _ _ _ 4 4 n (d - n) _ (unhide HX) (unhide HLI)).mono ?_
  rintro z1 w1 ⟨rfl, hb1⟩
  rw [unhide HC]
  replace A := A.below hb1
  replace D := D.below hb1
  replace X0 := X0.below hb1
  replace Y0 := Y0.below hb1
  replace R := R.below hb1
  replace L0 := L0.below hb1
  replace HX := hide ((unhide HX).below hb1)
  replace HY := hide ((unhide HY).below hb1)
  replace HLI := hide ((unhide HLI).below hb1)
  replace hBW := bthen hBW hb1
  clear hb1
  obtain ⟨fx0, fx1⟩ := X0
  have lX := NmC.lt ⟨fx0, fx1⟩
  go_wp2_with fail
  have X0 : NmC w1 (w.heap.size) x := ⟨fx0, fx1⟩
  clear fx0 fx1 lX
  refine (sign_int _ _ _ _ _ n _ (unhide HX)).mono ?_
  rintro z2 w2 ⟨rfl, hb2⟩
  rw [unhide HC0]
  replace A := A.below hb2
  replace D := D.below hb2
  replace X0 := X0.below hb2
  replace Y0 := Y0.below hb2
  replace R := R.below hb2
  replace L0 := L0.below hb2
  replace HX := hide ((unhide HX).below hb2)
  replace HY := hide ((unhide HY).below hb2)
  replace HLI := hide ((unhide HLI).below hb2)
  replace hBW := bthen hBW hb2
  clear hb2
  obtain ⟨x0, x1⟩ := X0
  obtain ⟨y0, y1⟩ := Y0
  have lR := R.lt
  have lX := NmC.lt ⟨x0, x1⟩
  have lY := NmC.lt ⟨y0, y1⟩
  go_wp2_with fail
  refine (wideOf_any _ _ _ _ _ _ _ _ 4 4 b n d _ (unhide HX) (unhide HY) (by omega) (by omega) d0).mono ?_
  rintro z3 w3 ⟨t, rfl, htb, htp, hb3⟩
  rw [(unhide HZ).1, (unhide HZ).2] at htp
  have HT := hide htb
  replace hBW := bthen hBW hb3
  obtain ⟨q0, q1, q2, q3, q4, q5⟩ := R.below hb3
  have lR2 := (R.below hb3).lt
  clear htb hb3 x0 x1 y0 y1
  have fit := htp.fits (K := 30) (Int.le_refl _) (by have := P_pos 30; omega) (P_pos 30)
  go_wp2_with fail
  refine bodyPost_ret (v := .agg #[.bool t.ln, .slice t.la t.lN t.lc, .bool t.hn, .slice t.ha t.hN t.hc, .int .i64 t.bits]) (by simp [results, Try.results76, go_sem, q0, q1, q2, q3, q4]) rfl ⟨_, _, unhide HV, t, rfl, unhide HT, ?_, ?_⟩
  · exact SpAt.put5 fit q0 q1 q2 q3 q4 _ _ _ _ _
  · exact set5 hBW (by omega) _ _ _ _ _
theorem part_low (L G : Rat → Nat → Rat) (X : Int → Int → Nat → Rat) (hE : GEnv L G X) (w : World) (x y : Nm) (p q r s n d : Int) (b : Nat) (hx : IntAt w x.neg x.a x.n x.cap 4 n) (hy : IntAt w y.neg y.a y.n y.cap 4 d) (h : BpAr p q r s n d b) (h2 : 2 * n ≤ d) :
    Calls Try.prog 76 #[.agg #[.bool x.neg, .slice x.a x.n x.cap], .agg #[.bool y.neg, .slice y.a y.n y.cap], .agg #[.int .i64 p, .int .i64 q], .agg #[.int .i64 r, .int .i64 s], .int .i64 b] w (fun z w' => ∃ lo hi, LwPr (bvX L p q r s n d) b lo hi ∧ SpanAns w b 30 lo hi z w') := by
  by_cases h0 : n = 0
  · exact part_zero L hE.lns w x y p q r s n d b hx hy h h0
  · have n0 := h.n0
    obtain ⟨s1, s2, s3, hn⟩ := bp_st h.p0 h.q0 h.pq h.qq h.r0 h.s0 h.rs h.ss
    have pq := h.pq
    have rs := h.rs
    have qq := h.qq
    have ss := h.ss
    have e : bvX L p q r s n d = bv L ((p : Rat) / (q : Rat)) ((r : Rat) / (s : Rat)) ((n : Rat) / (d : Rat)) := by
      unfold bvX
      rw [if_neg h0, if_neg (by omega)]
    rw [e]
    exact part_near L hE.lns w x y p q r s n d b (X p q) (X r s) (X (p * s + r * q) (q * s)) hx hy ⟨h.p0, h.q0, h.pq, h.qq, h.r0, h.s0, h.rs, h.ss, by omega, h2, h.dd, h.b0, h.b1⟩ (bj_log hE s1 s2 s3) (lgIs2_of hE s1 (by omega) h.b0 h.b1) (lgIs2_of hE s2 (by omega) h.b0 h.b1) (lgIs2_of hE s3 hn h.b0 h.b1)
theorem LwPr.congr {x y : Nat → Rat} {B : Nat} {l u : Int} (h : LwPr x B l u) (k : Null (fun M => y M - x M)) : LwPr y B l u := ⟨h.lo, h.le, h.hi, h.wd, Has.congr h.iv k⟩
theorem bvX_turn {L : Rat → Nat → Rat} (hL : Lns L) {p q r s n d : Int} (p0 : 0 < p) (q0 : 0 < q) (r0 : 0 < r) (s0 : 0 < s) (n0 : 0 ≤ n) (nd : n ≤ d) (d0 : 0 < d) : Null (fun M => bvX L p q r s n d M - (1 - bvX L r s p q (d - n) d M)) := by
  unfold bvX
  by_cases h0 : n = 0
  · rw [if_pos h0, if_neg (show ¬ d - n = 0 by omega), if_pos (show d - n = d by omega)]
    exact null_zero.of_eq fun M => by grind
  · by_cases h1 : n = d
    · rw [if_neg h0, if_pos h1, if_pos (show d - n = 0 by omega)]
      exact null_zero.of_eq fun M => by grind
    · rw [if_neg h0, if_neg h1, if_neg (show ¬ d - n = 0 by omega), if_neg (show ¬ d - n = d by omega)]
      have pr : (0 : Rat) < (p : Rat) := by exact_mod_cast p0
      have qr : (0 : Rat) < (q : Rat) := by exact_mod_cast q0
      have rr : (0 : Rat) < (r : Rat) := by exact_mod_cast r0
      have sr : (0 : Rat) < (s : Rat) := by exact_mod_cast s0
      have nr : (0 : Rat) < (n : Rat) := by exact_mod_cast (show 0 < n by omega)
      have dr : (0 : Rat) < (d : Rat) := by exact_mod_cast d0
      have e : ((d - n : Int) : Rat) / (d : Rat) = 1 - (n : Rat) / (d : Rat) := by
        rw [Rat.intCast_sub, Rat.div_def, Rat.div_def]
        have := Rat.mul_inv_cancel (d : Rat) (by grind)
        grind
      rw [e]
      have lt : (n : Rat) / (d : Rat) < 1 := by
        refine Rat.lt_of_mul_lt_mul_right (c := (d : Rat)) ?_ (Rat.le_of_lt dr)
        rw [rdm dr]
        have : (n : Rat) < (d : Rat) := by exact_mod_cast (show n < d by omega)
        grind
      exact bv_turn hL (rdiv_pos pr qr) (rdiv_pos rr sr) (rdiv_pos nr dr) lt
set_option maxRecDepth 100000 in
set_option maxHeartbeats 8000000 in
theorem part_turn (L G : Rat → Nat → Rat) (X : Int → Int → Nat → Rat) (hE : GEnv L G X) (w : World) (x y : Nm) (p q r s n d : Int) (b : Nat) (hx : IntAt w x.neg x.a x.n x.cap 4 n) (hy : IntAt w y.neg y.a y.n y.cap 4 d) (h : BpAr p q r s n d b) (h2 : d < 2 * n) :
    Calls Try.prog 76 #[.agg #[.bool x.neg, .slice x.a x.n x.cap], .agg #[.bool y.neg, .slice y.a y.n y.cap], .agg #[.int .i64 p, .int .i64 q], .agg #[.int .i64 r, .int .i64 s], .int .i64 b] w (fun z w' => ∃ lo hi, LwPr (bvX L p q r s n d) b lo hi ∧ SpanAns w b 61 lo hi z w') := by
  obtain ⟨W, hW⟩ : ∃ W, W = ((((w.alloc (.cells #[.bool x.neg, .slice x.a x.n x.cap] 26)).alloc (.cells #[.bool y.neg, .slice y.a y.n y.cap] 26)).alloc (.cells #[.int .i64 p, .int .i64 q] 23)).alloc (.cells #[.int .i64 r, .int .i64 s] 23)).alloc (.cells #[.bool false, .slice none 0 0, .bool false, .slice none 0 0, .int .i64 0] 28) := ⟨_, rfl⟩
  have hBW : Below w.heap.size w W := by rw [hW]; exact bl5 _ _ _ _ _ _
  have X0 : NmC W (w.heap.size) x := by rw [hW]; exact ⟨by simp [go_sem], by simp [go_sem]⟩
  have Y0 : NmC W (w.heap.size + 1) y := by rw [hW]; exact ⟨by simp [go_sem], by simp [go_sem]⟩
  have A : RaC W (w.heap.size + 1 + 1) p q := by rw [hW]; exact ⟨by simp [go_sem], by simp [go_sem]⟩
  have D : RaC W (w.heap.size + 1 + 1 + 1) r s := by rw [hW]; exact ⟨by simp [go_sem], by simp [go_sem]⟩
  have R : NoC W (w.heap.size + 1 + 1 + 1 + 1) := by rw [hW]; exact ⟨by simp [go_sem], by simp [go_sem], by simp [go_sem], by simp [go_sem], by simp [go_sem], fun o => by simp [go_sem]⟩
  have HX := hide (hx.below hBW)
  have HY := hide (hy.below hBW)
  have fX0 := X0.c0
  have fX1 := X0.c1
  have fY0 := Y0.c0
  have fY1 := Y0.c1
  clear hx hy
  have d0 := h.d0
  have b0 := h.b0
  have b1 := h.b1
  have dd := h.dd
  have nd := h.nd
  have HPL := hide (show -P 4 < d - n ∧ d - n < P 4 by
    have : P 4 = 18446744073709551616 := rfl
    exact ⟨by omega, by omega⟩)
  have HC := hide (show cmpInt n (d - n) = 1 by unfold cmpInt; rw [if_neg (by omega), if_pos (by omega)])
  have HT0 := hide (bvX_turn hE.lns h.p0 h.q0 h.r0 h.s0 h.n0 h.nd h.d0)
  have HAR := hide h.turn
  have HE := hide hE
  clear h hE
  go_enter Try.func76, Try.ntmps76
  go_upto_region 1 with fail
  rw [← hW]
  clear hW
  go_wp2_with fail
  clear fX0 fX1 fY0 fY1
  refine (sub_int _ _ _ _ _ _ _ _ 4 4 d n _ (unhide HY) (unhide HX) (by omega) (by omega)).mono ?_
  rintro z0 w0 ⟨negL, aL, nL, cL, rfl, hintL, hb0⟩
  obtain ⟨VL, hVL⟩ : ∃ V, V = w0.alloc (.cells #[.bool negL, .slice aL nL cL] 26) := ⟨_, rfl⟩
  have bVL : Below w0.heap.size w0 VL := by rw [hVL]; exact bl1 _ _
  have L0 : NmC VL w0.heap.size (⟨negL, aL, nL, cL⟩ : Nm) := by rw [hVL]; exact ⟨by simp [go_sem], by simp [go_sem]⟩
  have HLI := hide ((hintL.fits (K := 4) (unhide HPL).1 (unhide HPL).2).below bVL)
  have hbL := bthen hb0 bVL
  have kL : w.heap.size + 1 + 1 + 1 + 1 < w0.heap.size := Nat.lt_of_lt_of_le R.lt hb0.size
  replace A := A.below hbL
  replace D := D.below hbL
  replace X0 := X0.below hbL
  replace Y0 := Y0.below hbL
  replace R := R.below hbL
  replace HX := hide ((unhide HX).below hbL)
  replace HY := hide ((unhide HY).below hbL)
  replace hBW := bthen hBW hbL
  clear hbL hb0 bVL hintL
  obtain ⟨fx0, fx1⟩ := X0
  obtain ⟨fl0, fl1⟩ := L0
  have lX := NmC.lt ⟨fx0, fx1⟩
  have lL := NmC.lt ⟨fl0, fl1⟩
  go_upto_region 2 with fail
  rw [← hVL]
  clear hVL
  go_wp2_with fail
  have X0 : NmC VL (w.heap.size) x := ⟨fx0, fx1⟩
  have L0 : NmC VL w0.heap.size (⟨negL, aL, nL, cL⟩ : Nm) := ⟨fl0, fl1⟩
  clear fx0 fx1 fl0 fl1 lX lL
  refine (cmp_int _ _ _ _ _ _ _ _ 4 4 n (d - n) _ (unhide HX) (unhide HLI)).mono ?_
  rintro z1 w1 ⟨rfl, hb1⟩
  rw [unhide HC]
  replace A := A.below hb1
  replace D := D.below hb1
  replace X0 := X0.below hb1
  replace Y0 := Y0.below hb1
  replace R := R.below hb1
  replace L0 := L0.below hb1
  replace HX := hide ((unhide HX).below hb1)
  replace HY := hide ((unhide HY).below hb1)
  replace HLI := hide ((unhide HLI).below hb1)
  replace hBW := bthen hBW hb1
  clear hb1
  obtain ⟨x0, x1⟩ := L0
  obtain ⟨y0, y1⟩ := Y0
  have aa := A.c0
  have ab := A.c1
  have da := D.c0
  have db := D.c1
  have lA := A.lt
  have lD := D.lt
  have lL := NmC.lt ⟨x0, x1⟩
  have lY := NmC.lt ⟨y0, y1⟩
  go_wp2_with fail
  refine (part_low L G X (unhide HE) _ (⟨negL, aL, nL, cL⟩ : Nm) y r s p q (d - n) d b (unhide HLI) (unhide HY) (unhide HAR) (by omega)).mono ?_
  rintro z2 w2 ⟨lo, hi, hv, t, rfl, htb, htp, hb2⟩
  have HV := hide hv
  have HTB := hide htb
  replace R := R.below hb2
  replace hBW := bthen hBW hb2
  clear hv htb hb2 x0 x1 y0 y1 aa ab da db lA lD lL lY
  go_wp2_with fail
  refine (rest_iv _ t 60 b (lo, hi) (htp.mono (by omega)) (unhide HTB) (by omega) (by omega) (by omega)).mono ?_
  rintro z3 w3 ⟨u, rfl, hub, hup, hb3⟩
  have HU := hide hub
  replace hBW := bthen hBW hb3
  obtain ⟨q0, q1, q2, q3, q4, q5⟩ := R.below hb3
  have lR2 := (R.below hb3).lt
  clear hub hb3
  go_wp2_with fail
  refine bodyPost_ret (v := .agg #[.bool u.ln, .slice u.la u.lN u.lc, .bool u.hn, .slice u.ha u.hN u.hc, .int .i64 u.bits]) (by simp [results, Try.results76, go_sem, q0, q1, q2, q3, q4]) rfl ⟨_, _, (lw_rest (unhide HV)).congr (unhide HT0), u, rfl, unhide HU, ?_, ?_⟩
  · exact SpAt.put5 hup q0 q1 q2 q3 q4 _ _ _ _ _
  · exact set5 hBW (by omega) _ _ _ _ _
theorem part_iv (L G : Rat → Nat → Rat) (X : Int → Int → Nat → Rat) (hE : GEnv L G X) (w : World) (x y : Nm) (p q r s n d : Int) (b : Nat) (hx : IntAt w x.neg x.a x.n x.cap 4 n) (hy : IntAt w y.neg y.a y.n y.cap 4 d) (h : BpAr p q r s n d b) :
    Calls Try.prog 76 #[.agg #[.bool x.neg, .slice x.a x.n x.cap], .agg #[.bool y.neg, .slice y.a y.n y.cap], .agg #[.int .i64 p, .int .i64 q], .agg #[.int .i64 r, .int .i64 s], .int .i64 b] w (fun z w' => ∃ lo hi, LwPr (bvX L p q r s n d) b lo hi ∧ SpanAns w b 61 lo hi z w') := by
  by_cases h2 : 2 * n ≤ d
  · exact (part_low L G X hE w x y p q r s n d b hx hy h h2).mono fun z w' ⟨lo, hi, h1, t, a1, a2, a3, a4⟩ => ⟨lo, hi, h1, t, a1, a2, a3.mono (by omega), a4⟩
  · exact part_turn L G X hE w x y p q r s n d b hx hy h (by omega)
end Go.Proofs.Ytgmnknmjainabab
namespace Go.Proofs.Ytgmnknmjainabab
open Go.RowKit
attribute [local go_sem ↓] Go.wp_at_zero Go.wp_at_succ
open Ex
def bE (n d p q r s bt : Int) : Int := if ¬ ((rok n d ∧ rok p q ∧ rok r s) ∧ 8 ≤ bt ∧ bt ≤ 120) then 3 else if n < 0 ∨ d < n then 5 else if p ≤ 0 ∨ r ≤ 0 then 5 else if 100 * q < p ∨ 100 * s < r then 2 else 0
theorem bE_zero {n d p q r s bt : Int} (h : bE n d p q r s bt = 0) : ((rok n d ∧ rok p q ∧ rok r s) ∧ 8 ≤ bt ∧ bt ≤ 120) ∧ (0 ≤ n ∧ n ≤ d) ∧ (0 < p ∧ p ≤ 100 * q) ∧ 0 < r ∧ r ≤ 100 * s := by
  unfold bE at h
  split at h
  · omega
  · rename_i k
    have k := Classical.not_not.1 k
    split at h
    · omega
    · split at h
      · omega
      · split at h
        · omega
        · exact ⟨k, ⟨by omega, by omega⟩, ⟨by omega, by omega⟩, by omega, by omega⟩
theorem bpAr_of {n d p q r s bt : Int} (h : bE n d p q r s bt = 0) {B : Nat} (h0 : 40 ≤ B) (h1 : B ≤ 400) : BpAr p q r s n d B := by
  obtain ⟨⟨⟨⟨a1, a2, a3, a4⟩, ⟨c1, c2, c3, c4⟩, ⟨e1, e2, e3, e4⟩⟩, _⟩, ⟨f1, f2⟩, ⟨g1, g2⟩, i1, i2⟩ := bE_zero h
  exact ⟨g1, by omega, g2, by omega, i1, by omega, i2, by omega, f1, f2, by omega, by omega, h0, h1⟩
theorem rats3' (w : World) (B : Nat) (hB : w.heap.size = B) (n d p q r s : Int) (T : TypeId) : Rats (w.alloc (.cells #[.int .i64 n, .int .i64 d, .int .i64 p, .int .i64 q, .int .i64 r, .int .i64 s] T)) B 3 (fun j => if j = 0 then n else if j = 1 then p else r) (fun j => if j = 0 then d else if j = 1 then q else s) := by
  subst hB
  refine ⟨by simp, ?_, ?_⟩
  all_goals
    intro j hj
    match j, hj with
    | 0, _ => simp
    | 1, _ => simp
    | 2, _ => simp
theorem rf3 {n d p q r s bt z : Int} (h : RFlt bt (fun j => if j = 0 then n else if j = 1 then p else r) (fun j => if j = 0 then d else if j = 1 then q else s) 3 z) : (z = 0 ∧ (rok n d ∧ rok p q ∧ rok r s) ∧ 8 ≤ bt ∧ bt ≤ 120) ∨ (z = 3 ∧ ¬ ((rok n d ∧ rok p q ∧ rok r s) ∧ 8 ≤ bt ∧ bt ≤ 120)) := by
  rcases h with ⟨rfl, h1, h2⟩ | ⟨rfl, h1⟩
  · exact Or.inl ⟨rfl, ⟨h2 0 (by omega), h2 1 (by omega), h2 2 (by omega)⟩, h1⟩
  · refine Or.inr ⟨rfl, fun k => h1 ⟨k.2, fun j hj => ?_⟩⟩
    match j with
    | 0 => exact k.1.1
    | 1 => exact k.1.2.1
    | 2 => exact k.1.2.2
    | j + 3 => omega
theorem shf2 {p q r s z : Int} (h : ShF (fun j => if j = 0 then p else r) (fun j => if j = 0 then q else s) 2 z) : z = if p ≤ 0 ∨ r ≤ 0 then 5 else if 100 * q < p ∨ 100 * s < r then 2 else 0 := by
  rcases h with ⟨rfl, j, hj0, hj⟩ | ⟨rfl, hp, j, hj0, hj⟩ | ⟨rfl, hp⟩
  · have : p ≤ 0 ∨ r ≤ 0 := by
      match j, hj0 with
      | 0, _ => exact Or.inl hj
      | 1, _ => exact Or.inr hj
    rw [if_pos this]
  · have h0 : 0 < p := hp 0 (by omega)
    have h1 : 0 < r := hp 1 (by omega)
    have : 100 * q < p ∨ 100 * s < r := by
      match j, hj0 with
      | 0, _ => exact Or.inl hj
      | 1, _ => exact Or.inr hj
    rw [if_neg (by omega), if_pos this]
  · have h0 : 0 < p ∧ p ≤ 100 * q := hp 0 (by omega)
    have h1 : 0 < r ∧ r ≤ 100 * s := hp 1 (by omega)
    rw [if_neg (by omega), if_neg (by omega)]
set_option maxRecDepth 100000 in
set_option maxHeartbeats 4000000 in
theorem bFault (w : World) (n d p q r s bt : Int) :
    Calls Try.prog 73 #[.agg #[.int .i64 n, .int .i64 d], .agg #[.int .i64 p, .int .i64 q], .agg #[.int .i64 r, .int .i64 s], .int .i64 bt] w (fun z w' => z = .returned (.int .i64 (bE n d p q r s bt)) ∧ Below w.heap.size w w') := by
  obtain ⟨W, hW⟩ : ∃ W, W = ((w.alloc (.cells #[.int .i64 n, .int .i64 d] 23)).alloc (.cells #[.int .i64 p, .int .i64 q] 23)).alloc (.cells #[.int .i64 r, .int .i64 s] 23) := ⟨_, rfl⟩
  have hBW : Below w.heap.size w W := by rw [hW]; exact bl3 _ _ _ _
  have C : RaC W w.heap.size n d := by rw [hW]; exact ⟨by simp [go_sem], by simp [go_sem]⟩
  have A : RaC W (w.heap.size + 1) p q := by rw [hW]; exact ⟨by simp [go_sem], by simp [go_sem]⟩
  have D : RaC W (w.heap.size + 1 + 1) r s := by rw [hW]; exact ⟨by simp [go_sem], by simp [go_sem]⟩
  have hsz : W.heap.size = w.heap.size + 1 + 1 + 1 := by rw [hW]; simp
  have c0 := C.c0
  have c1 := C.c1
  have a0 := A.c0
  have a1 := A.c1
  have d0 := D.c0
  have d1 := D.c1
  go_enter Try.func73, Try.ntmps73
  go_wp2_with fail
  rw [← hW]
  clear hW c0 c1 a0 a1 d0 d1
  refine (ratioFault_any bt _ 3 _ (fun j => if j = 0 then n else if j = 1 then p else r) (fun j => if j = 0 then d else if j = 1 then q else s) _ (rats3' W _ hsz n d p q r s _) (by omega)).mono ?_
  rintro z0 w1 ⟨z1, rfl, hf, hb1⟩
  have hb1' : Below W.heap.size W w1 := bthen (bl1 _ _) hb1
  replace A := A.below hb1'
  replace C := C.below hb1'
  replace D := D.below hb1'
  replace hBW := bthen hBW hb1'
  clear hb1 hb1' hsz
  rcases rf3 hf with ⟨rfl, hok⟩ | ⟨rfl, hbad⟩
  · have HOK := hide hok
    clear hf hok
    have c0 := C.c0
    have c1 := C.c1
    have a0 := A.c0
    have a1 := A.c1
    have d0 := D.c0
    have d1 := D.c1
    have lA := A.lt
    have lC := C.lt
    have lD := D.lt
    by_cases hn : n < 0
    · go_wp2_with fail
      refine bodyPost_ret (v := .int .i64 5) (by simp [results, Try.results73, go_sem]) rfl ⟨?_, hBW⟩
      unfold bE
      rw [if_neg (fun k => k (unhide HOK)), if_pos (Or.inl hn)]
    · by_cases hd : d < n
      · go_wp2_with fail
        refine bodyPost_ret (v := .int .i64 5) (by simp [results, Try.results73, go_sem]) rfl ⟨?_, hBW⟩
        unfold bE
        rw [if_neg (fun k => k (unhide HOK)), if_pos (Or.inr hd)]
      · go_wp2_with fail
        refine (shapeFault_any _ 2 _ (fun j => if j = 0 then p else r) (fun j => if j = 0 then q else s) _ (rats2' w1 _ rfl p q r s _) (by omega) (two_all (by simpa using (unhide HOK).1.2.1) (by simpa using (unhide HOK).1.2.2))).mono ?_
        rintro z2 w2 ⟨z3, rfl, hf2, hb2⟩
        obtain rfl := shf2 hf2
        replace hBW := bthen (bthen hBW (bl1 _ _)) hb2
        obtain ⟨e, he⟩ : ∃ e : Int, e = (if p ≤ 0 ∨ r ≤ 0 then 5 else if 100 * q < p ∨ 100 * s < r then 2 else 0) := ⟨_, rfl⟩
        have HV := hide (show bE n d p q r s bt = e by
          rw [he]
          unfold bE
          rw [if_neg (fun k => k (unhide HOK)), if_neg (by omega)])
        rw [← he]
        clear he hf2 hb2 a0 a1 d0 d1 c0 c1
        go_wp2_with fail
        exact bodyPost_ret (v := .int .i64 e) (by simp [results, Try.results73, go_sem]) rfl ⟨by rw [unhide HV], hBW⟩
  · have HB := hide hbad
    clear hf hbad
    go_wp2_with fail
    refine bodyPost_ret (v := .int .i64 3) (by simp [results, Try.results73, go_sem]) rfl ⟨?_, hBW⟩
    unfold bE
    rw [if_pos (unhide HB)]
end Go.Proofs.Ytgmnknmjainabab
namespace Go.Proofs.Ytgmnknmjainabab
open Go.RowKit
attribute [local go_sem ↓] Go.wp_at_zero Go.wp_at_succ
open Ex
set_option maxRecDepth 100000 in
set_option maxHeartbeats 4000000 in
theorem bpm (L G : Rat → Nat → Rat) (X : Int → Int → Nat → Rat) (hE : GEnv L G X) (w : World) (B0 B1 B2 : Nat) (n d p q r s bt : Int) (b : Nat) (C : RaC w B0 n d) (A : RaC w B1 p q) (D : RaC w B2 r s) (h : bE n d p q r s bt = 0) (b0 : 40 ≤ b) (b1 : b ≤ 400) :
    Calls Try.prog 75 #[.int .i64 (b : Int), .pointer (some ⟨B0, 0, none⟩), .pointer (some ⟨B1, 0, none⟩), .pointer (some ⟨B2, 0, none⟩)] w (fun z w' => ∃ lo hi, LwPr (bvX L p q r s n d) b lo hi ∧ SpanAns w b 61 lo hi z w') := by
  have R := noc_new w 28
  have l0 := C.lt
  have l1 := A.lt
  have l2 := D.lt
  obtain ⟨W, hW⟩ : ∃ W, W = w.alloc (.cells #[.bool false, .slice none 0 0, .bool false, .slice none 0 0, .int .i64 0] 28) := ⟨_, rfl⟩
  rw [← hW] at R
  have hBW : Below w.heap.size w W := by rw [hW]; exact bl1 _ _
  replace A := A.below hBW
  replace C := C.below hBW
  replace D := D.below hBW
  have HK := hide (show ∀ w', Below W.heap.size W w' → (w'.cell? ⟨B0, 0, none⟩ = some (.int .i64 n) ∧ w'.cell? ⟨B0, 1, none⟩ = some (.int .i64 d) ∧ w'.cell? ⟨B1, 0, none⟩ = some (.int .i64 p) ∧ w'.cell? ⟨B1, 1, none⟩ = some (.int .i64 q) ∧ w'.cell? ⟨B2, 0, none⟩ = some (.int .i64 r) ∧ w'.cell? ⟨B2, 1, none⟩ = some (.int .i64 s)) from fun w' hB => ⟨(C.below hB).c0, (C.below hB).c1, (A.below hB).c0, (A.below hB).c1, (D.below hB).c0, (D.below hB).c1⟩)
  have HAR := hide (bpAr_of h b0 b1)
  have HE := hide hE
  obtain ⟨⟨⟨⟨r1, r2, r3, r4⟩, _⟩, _⟩, _⟩ := bE_zero h
  have hB0 : Below W.heap.size W W.drew := (Below.refl _ _).drew
  have n0 : w.heap.size ≠ B0 := by omega
  have n1 : w.heap.size ≠ B1 := by omega
  have n2 : w.heap.size ≠ B2 := by omega
  have lR := R.lt
  clear A C D h hE
  go_enter Try.func75, Try.ntmps75
  go_wp2_with fail
  rw [← hW]
  clear hW
  obtain ⟨x0, x1, x2, x3, x4, x5⟩ := unhide HK _ (Below.refl _ _)
  go_region_held3 (fun w' => w'.cell? ⟨B0, 0, none⟩ = some (.int .i64 n) ∧ w'.cell? ⟨B0, 1, none⟩ = some (.int .i64 d) ∧ w'.cell? ⟨B1, 0, none⟩ = some (.int .i64 p) ∧ w'.cell? ⟨B1, 1, none⟩ = some (.int .i64 q) ∧ w'.cell? ⟨B2, 0, none⟩ = some (.int .i64 r) ∧ w'.cell? ⟨B2, 1, none⟩ = some (.int .i64 s)) (first | exact unhide HK _ (by first | with_reducible exact hB0 | with_reducible exact hB3 | with_reducible exact hB2 | with_reducible exact hB1) | go_keep)
    (first
      | (go_at_call 76; have hqq := hB2; refine (part_iv L G X (unhide HE) _ ⟨neg1, a1, m1, c1⟩ ⟨neg2, a2, m2, c2⟩ p q r s n d b (hint1.below hb2) hint2 (unhide HAR)).mono ?_; rintro z w3 ⟨lo, hi, hlp, v3, rfl, hvb3, hint3, hb3⟩; have HLP := hide hlp; have F3 := hide hvb3; clear hlp hvb3; have hB3 := bthen hB2 hb3; obtain ⟨q0, q1, q2, q3, q4, q5⟩ := R.below hB3)
      | (go_at_call 48; have hqq := hB1; refine (numOf_int d _ (by omega) (by omega)).mono ?_; rintro z w2 ⟨neg2, a2, m2, c2, rfl, hint2, hb2⟩; have hB2 := bthen hB1 hb2)
      | (go_at_call 48; refine (numOf_int n _ (by omega) (by omega)).mono ?_; rintro z w1 ⟨neg1, a1, m1, c1, rfl, hint1, hb1⟩; have hB1 := bthen hB0 hb1))
  all_goals
    go_wp2_with fail
    refine bodyPost_ret (v := .agg #[.bool v3.ln, .slice v3.la v3.lN v3.lc, .bool v3.hn, .slice v3.ha v3.hN v3.hc, .int .i64 v3.bits]) (by simp [results, Try.results75, go_sem, q0, q1, q2, q3, q4]) rfl ⟨lo, hi, unhide HLP, v3, rfl, unhide F3, ?_, ?_⟩
    · exact SpAt.put5 hint3 q0 q1 q2 q3 q4 _ _ _ _ _
    · exact set5 (bthen hBW hB3) (Nat.le_refl _) _ _ _ _ _
set_option maxRecDepth 100000 in
set_option maxHeartbeats 4000000 in
theorem sure_bpt (p1 p2 p3 : Value) (bits Kw KD : Nat) (Pr : Nat → Int → Int → Prop) (W : World) (hb : bits ≤ 120) (hKw : Kw ≤ 900000) (hKD : KD ≤ 100000000) (hE : SureEnds bits Kw Pr)
    (hF : ∀ (m : Nat) w', 32 ≤ m → m ≤ Kw + 120 → Below W.heap.size W w' → Calls Try.prog 75 #[.int .i64 ((bits : Int) + m), p1, p2, p3] w' (fun r w'' => ∃ lo hi, Pr (bits + m) lo hi ∧ SpanAns w' ((bits : Int) + m) KD lo hi r w'')) :
    Calls Try.prog 74 #[.int .i64 bits, .func (.func 75) #[] #[p1, p2, p3]] W (fun r w' => ∃ L H, SureOf bits Pr L H ∧ SpanAns W bits 250 L H r w') := by
  have HF := hide hF
  have HE := hide hE
  clear hF hE
  have hR0 := noc_new W 28
  go_enter Try.func74, Try.ntmps74
  go_wp2_with fail
  go_loopw [5, 6] (fun mm tt wr => ∃ m t : Nat, mm = .int .i64 (m : Int) ∧ tt = .int .i64 (t : Int) ∧ SureInv Kw m t ∧ NoC wr W.heap.size ∧ Below W.heap.size W wr) (fun mm _ _ => Kw + 200 - (intOf mm).toNat)
  case atStart => exact ⟨32, 1, rfl, rfl, ⟨Nat.le_refl _, Nat.le_refl _, by omega, Or.inl ⟨by omega, by omega⟩⟩, hR0, bl1 _ _⟩
  case round =>
    obtain ⟨m, t, rfl, rfl, hinv, R, hB⟩ := hrel
    obtain ⟨hm, ht, htm, hmt⟩ := hinv
    have hmK : m ≤ Kw + 120 := by omega
    have HI := hide hmt
    clear hmt
    go_wp2_with fail
    refine (unhide HF m _ hm hmK hB).mono ?_
    rintro r w1 ⟨lo, hi, hPr, s, rfl, hsb, hsp, hb1⟩
    replace R := R.below hb1
    replace hB := bthen hB hb1
    clear hb1
    obtain ⟨e1, e2, e3, e4⟩ := unhide HE m lo hi hPr
    obtain ⟨v1, v2, v3⟩ := to_width (m := m) e1 e2
    obtain ⟨f1, f2⟩ := to_fit e3 e4
    have HPr := hide hPr
    have HV := hide (And.intro v2 v3)
    have hs0 : 0 ≤ s.bits := by omega
    have hs1 : s.bits ≤ 1000000 := by omega
    have d1 : downZ lo (s.bits - bits) = lo / Q m := by unfold downZ; rw [hsb, if_pos (by omega)]; congr 2; omega
    have d2 : downZ (-hi) (s.bits - bits) = -hi / Q m := by unfold downZ; rw [hsb, if_pos (by omega)]; congr 2; omega
    have HD1 := hide d1
    have HD2 := hide d2
    clear hPr e1 e2 e3 e4 v2 v3 d1 d2 hsb
    go_wp2_with fail
    refine (wideTo_int _ s KD bits lo hi hsp (by omega) hs0 hs1 (by omega) (by omega)).mono ?_
    rintro r w2 ⟨u, rfl, hub, hup, hb2⟩
    rw [unhide HD1, unhide HD2] at hup
    obtain ⟨L, hL⟩ : ∃ L, L = lo / Q m := ⟨_, rfl⟩
    obtain ⟨H, hH⟩ : ∃ H, H = -(-hi / Q m) := ⟨_, rfl⟩
    rw [← hL, ← hH] at hup v1
    rw [← hL] at f1
    rw [← hH] at f2
    have HV2 := hide (show (Kw ≤ m → H - L ≤ 2) ∧ (m ≤ Kw → H - L ≤ Q (Kw - m) + 1) by rw [hL, hH]; exact unhide HV)
    have HL := hide hL
    have HH := hide hH
    replace hup := hup.fits (K := 250) (by omega) f1 f2
    replace R := R.below hb2
    replace hB := bthen hB hb2
    have HUB := hide hub
    clear hb2 hL hH hub hs0 hs1 HD1 HD2 HV hsp
    have lR := R.lt
    obtain ⟨V, hV⟩ : ∃ V, V = w2.alloc (.cells #[.bool u.ln, .slice u.la u.lN u.lc, .bool u.hn, .slice u.ha u.hN u.hc, .int .i64 u.bits] 28) := ⟨_, rfl⟩
    have bV : Below w2.heap.size w2 V := by rw [hV]; exact bl1 _ _
    have U : SpC V w2.heap.size u := by rw [hV]; exact ⟨by simp, by simp, by simp, by simp, by simp⟩
    replace R := R.below bV
    replace hB := bthen hB bV
    replace hup := hup.below bV
    clear bV
    go_wp2_with fail
    rw [← hV]
    clear hV
    refine (sub_int _ _ _ _ _ _ _ _ 250 250 H L _ hup.hi hup.lo (by omega) (by omega)).mono ?_
    rintro r w3 ⟨neg3, a3, n3, c3, rfl, hint3, hb3⟩
    replace U := U.below hb3
    replace R := R.below hb3
    replace hB := bthen hB hb3
    replace hup := hup.below hb3
    clear hb3
    go_wp2_with fail
    refine (len_int _ _ _ _ _ (H - L) _ hint3 v1).mono ?_
    rintro r w4 ⟨l, hlen, rfl, hb4⟩
    replace U := U.below hb4
    replace R := R.below hb4
    replace hB := bthen hB hb4
    replace hup := hup.below hb4
    clear hb4 hint3
    have hlb : 0 ≤ l ∧ l ≤ Kw + 2 ∧ (m ≤ Kw → l ≤ Kw - m + 2) ∧ (Kw ≤ m → l ≤ 2) := by
      obtain ⟨g1, g2⟩ := unhide HV2
      refine ⟨hlen.1, ?_, fun h => ?_, fun h => ?_⟩
      · rcases Nat.le_total m Kw with h | h
        · have := len_bd (K := Kw - m) hlen (g2 h) v1; omega
        · have := len_two hlen (g1 h) v1; omega
      · have := len_bd (K := Kw - m) hlen (g2 h) v1; omega
      · exact len_two hlen (g1 h) v1
    obtain ⟨hl0, hl1, hl2, hl3⟩ := hlb
    have HL2 := hide (And.intro hl2 hl3)
    have HLen := hide hlen
    clear hl2 hl3 hlen
    have lU := U.lt
    have lR2 := R.lt
    have nRU : W.heap.size ≠ w2.heap.size := by omega
    have nRU' : w2.heap.size ≠ W.heap.size := by omega
    have HU := hide U
    obtain ⟨x0, x1, x2, x3, x4⟩ := U
    by_cases hc : l ≤ 1
    · have hN := R
      obtain ⟨q0, q1, q2, q3, q4, q5⟩ := R
      have Hc := hide hc
      go_wp2_with fail
      refine bodyPost_ret (v := .agg #[.bool u.ln, .slice u.la u.lN u.lc, .bool u.hn, .slice u.ha u.hN u.hc, .int .i64 u.bits]) (by simp [results, Try.results74, go_sem, q0, q1, q2, q3, q4]) rfl ⟨L, H, ⟨m, lo, hi, unhide HPr, hm, unhide HL, unhide HH, Or.inl (len_one (unhide HLen) (unhide Hc) v1)⟩, u, rfl, unhide HUB, ?_, ?_⟩
      · exact SpAt.put5 hup q0 q1 q2 q3 q4 _ _ _ _ _
      · exact set5 hB (Nat.le_refl _) _ _ _ _ _
    · by_cases ht3 : 3 ≤ t
      · have ht3' : (3 : Int) ≤ (t : Int) := by omega
        cases hn : narB L H (Q bits) 4
        · have hmK2 : m < Kw := by
            refine Nat.lt_of_not_le fun h => ?_
            have h5 := (unhide HV2).1 h
            rw [narB_small (by omega) (by omega)] at hn
            cases hn
          go_wp2_with fail
          refine (narrow_int _ u bits 4 L H hup (unhide HUB) hb (by omega)).mono ?_
          rintro r w5 ⟨rfl, hb5⟩
          rw [show narB L H (Q bits) ((4 : Nat) : Int) = false from hn]
          replace R := R.below hb5
          replace hB := bthen hB hb5
          go_wp2_with fail
          go_roundw
          case rel => exact ⟨m + l.toNat + 32, t + 1, by congr 1; omega, by congr 1, ⟨by omega, by omega, by omega, Or.inr (by have := (unhide HL2).1; omega)⟩, R, hB⟩
          case measure => simp [intOf]; omega
        · go_wp2_with fail
          refine (narrow_int _ u bits 4 L H hup (unhide HUB) hb (by omega)).mono ?_
          rintro r w5 ⟨rfl, hb5⟩
          rw [show narB L H (Q bits) ((4 : Nat) : Int) = true from hn]
          replace R := R.below hb5
          replace hB := bthen hB hb5
          replace hup := hup.below hb5
          obtain ⟨y0, y1, y2, y3, y4⟩ := (unhide HU).below hb5
          obtain ⟨q0, q1, q2, q3, q4, q5⟩ := R
          have lU2 := Nat.lt_of_lt_of_le lU hb5.size
          have lR3 := Nat.lt_of_lt_of_le lR2 hb5.size
          clear hb5 x0 x1 x2 x3 x4
          go_wp2_with fail
          refine bodyPost_ret (v := .agg #[.bool u.ln, .slice u.la u.lN u.lc, .bool u.hn, .slice u.ha u.hN u.hc, .int .i64 u.bits]) (by simp [results, Try.results74, go_sem, q0, q1, q2, q3, q4]) rfl ⟨L, H, ⟨m, lo, hi, unhide HPr, hm, unhide HL, unhide HH, Or.inr hn⟩, u, rfl, unhide HUB, ?_, ?_⟩
          · exact SpAt.put5 hup q0 q1 q2 q3 q4 _ _ _ _ _
          · exact set5 hB (Nat.le_refl _) _ _ _ _ _
      · have ht3' : ¬ (3 : Int) ≤ (t : Int) := by omega
        go_wp2_with fail
        go_roundw
        case rel => exact ⟨m + l.toNat + 32, t + 1, by congr 1; omega, by congr 1, ⟨by omega, by omega, by omega, by
          have g1 := (unhide HL2).1
          have g2 := (unhide HL2).2
          have g3 := unhide HI
          rcases Nat.le_total m Kw with h | h
          · have := g1 h; exact Or.inr (by omega)
          · have := g2 h; exact Or.inl ⟨by omega, by omega⟩⟩, R, hB⟩
        case measure => simp [intOf]; omega
set_option maxRecDepth 100000 in
set_option maxHeartbeats 4000000 in
theorem cbp_ok (L G : Rat → Nat → Rat) (X : Int → Int → Nat → Rat) (hE : GEnv L G X) (w : World) (n d p q r s : Int) (b : Nat) (h : bE n d p q r s b = 0) :
    Calls Try.prog 39 #[.agg #[.int .i64 n, .int .i64 d], .agg #[.int .i64 p, .int .i64 q], .agg #[.int .i64 r, .int .i64 s], .int .i64 b] w (fun z w' => ∃ LL HH, (SuV (bvX L p q r s n d) b LL HH ∧ 0 ≤ LL ∧ HH ≤ Q b) ∧ PairAns w b 250 LL HH 0 z w') := by
  obtain ⟨W, hW⟩ : ∃ W, W = (((w.alloc (.cells #[.int .i64 n, .int .i64 d] 23)).alloc (.cells #[.int .i64 p, .int .i64 q] 23)).alloc (.cells #[.int .i64 r, .int .i64 s] 23)).alloc (.cells #[.bool false, .slice none 0 0, .bool false, .slice none 0 0, .int .i64 0] 28) := ⟨_, rfl⟩
  have hBW : Below w.heap.size w W := by rw [hW]; exact bl4 _ _ _ _ _
  have C : RaC W w.heap.size n d := by rw [hW]; exact ⟨by simp [go_sem], by simp [go_sem]⟩
  have A : RaC W (w.heap.size + 1) p q := by rw [hW]; exact ⟨by simp [go_sem], by simp [go_sem]⟩
  have D : RaC W (w.heap.size + 1 + 1) r s := by rw [hW]; exact ⟨by simp [go_sem], by simp [go_sem]⟩
  have R : NoC W (w.heap.size + 1 + 1 + 1) := by rw [hW]; exact ⟨by simp [go_sem], by simp [go_sem], by simp [go_sem], by simp [go_sem], by simp [go_sem], fun o => by simp [go_sem]⟩
  have c0 := C.c0
  have c1 := C.c1
  have a0 := A.c0
  have a1 := A.c1
  have d0 := D.c0
  have d1 := D.c1
  have HE := hide hE
  have HH0 := hide h
  obtain ⟨⟨_, hb8, hb120⟩, _⟩ := bE_zero h
  clear h hE
  go_enter Try.func39, Try.ntmps39
  go_wp2_with fail
  rw [← hW]
  clear hW c0 c1 a0 a1 d0 d1
  refine (bFault _ n d p q r s b).mono ?_
  rintro z0 w1 ⟨rfl, hb1⟩
  rw [unhide HH0]
  replace C := C.below hb1
  replace A := A.below hb1
  replace D := D.below hb1
  replace R := R.below hb1
  replace hBW := bthen hBW hb1
  clear hb1
  go_wp2_with fail
  refine (sure_bpt _ _ _ b 89 61 (LwPr (bvX L p q r s n d)) w1 (by omega) (by omega) (by omega) (lw_ends _ (by omega)) (fun m w' hm hm2 hbw => by
    have t := bpm L G X (unhide HE) w' _ _ _ n d p q r s b (b + m) (C.below hbw) (A.below hbw) (D.below hbw) (unhide HH0) (by omega) (by omega)
    have e : ((b + m : Nat) : Int) = (b : Int) + m := by omega
    rw [e] at t
    exact t)).mono ?_
  rintro z1 w2 ⟨LL, HH, hso, u, rfl, hub, hup, hb2⟩
  have HLH := hide (sure_lw hso)
  have HU := hide hub
  have lR := R.lt
  obtain ⟨q0, q1, q2, q3, q4, q5⟩ := R.below hb2
  replace hBW := bthen hBW hb2
  clear hub hso hb2
  go_wp2_with fail
  refine bodyPost_ret (v := .tuple #[.agg #[.bool u.ln, .slice u.la u.lN u.lc, .bool u.hn, .slice u.ha u.hN u.hc, .int .i64 u.bits], .int .i64 0]) (by simp [results, Try.results39, go_sem, q0, q1, q2, q3, q4]) rfl ⟨LL, HH, unhide HLH, u, rfl, unhide HU, ?_, ?_⟩
  · exact SpAt.put5 hup q0 q1 q2 q3 q4 _ _ _ _ _
  · exact set5 hBW (by omega) _ _ _ _ _
set_option maxRecDepth 100000 in
set_option maxHeartbeats 2000000 in
theorem cbp_bad (w : World) (n d p q r s bt e : Int) (h : bE n d p q r s bt = e) (he : e ≠ 0) :
    Calls Try.prog 39 #[.agg #[.int .i64 n, .int .i64 d], .agg #[.int .i64 p, .int .i64 q], .agg #[.int .i64 r, .int .i64 s], .int .i64 bt] w (PairAns w 0 250 0 0 e) := by
  obtain ⟨W, hW⟩ : ∃ W, W = (((w.alloc (.cells #[.int .i64 n, .int .i64 d] 23)).alloc (.cells #[.int .i64 p, .int .i64 q] 23)).alloc (.cells #[.int .i64 r, .int .i64 s] 23)).alloc (.cells #[.bool false, .slice none 0 0, .bool false, .slice none 0 0, .int .i64 0] 28) := ⟨_, rfl⟩
  have hBW : Below w.heap.size w W := by rw [hW]; exact bl4 _ _ _ _ _
  have C : RaC W w.heap.size n d := by rw [hW]; exact ⟨by simp [go_sem], by simp [go_sem]⟩
  have A : RaC W (w.heap.size + 1) p q := by rw [hW]; exact ⟨by simp [go_sem], by simp [go_sem]⟩
  have D : RaC W (w.heap.size + 1 + 1) r s := by rw [hW]; exact ⟨by simp [go_sem], by simp [go_sem]⟩
  have R : NoC W (w.heap.size + 1 + 1 + 1) := by rw [hW]; exact ⟨by simp [go_sem], by simp [go_sem], by simp [go_sem], by simp [go_sem], by simp [go_sem], fun o => by simp [go_sem]⟩
  have c0 := C.c0
  have c1 := C.c1
  have a0 := A.c0
  have a1 := A.c1
  have d0 := D.c0
  have d1 := D.c1
  have HH0 := hide h
  clear h
  go_enter Try.func39, Try.ntmps39
  go_wp2_with fail
  rw [← hW]
  clear hW c0 c1 a0 a1 d0 d1
  refine (bFault _ n d p q r s bt).mono ?_
  rintro z0 w1 ⟨rfl, hb1⟩
  rw [unhide HH0]
  replace R := R.below hb1
  replace hBW := bthen hBW hb1
  clear hb1
  have lR := R.lt
  obtain ⟨q0, q1, q2, q3, q4, q5⟩ := R
  go_wp2_with fail
  refine bodyPost_ret (v := .tuple #[.agg #[.bool false, .slice none 0 0, .bool false, .slice none 0 0, .int .i64 0], .int .i64 e]) (by simp [results, Try.results39, go_sem, q0, q1, q2, q3, q4]) rfl ⟨⟨false, none, 0, 0, false, none, 0, 0, 0⟩, rfl, rfl, zeroSp _ _, ?_⟩
  exact set5 hBW (by omega) _ _ _ _ _
end Go.Proofs.Ytgmnknmjainabab
namespace Go.Proofs.Ytgmnknmjainabab
open Go.RowKit
attribute [local go_sem ↓] Go.wp_at_zero Go.wp_at_succ
theorem NoI.offv {w : World} {B B' : Nat} (h : NoI w B) (hne : B ≠ B') (y : Nm) : NoI (put2w w B' y) B := by
  obtain ⟨q0, q1, q2⟩ := h
  exact ⟨by simp [go_sem, q0, hne, Ne.symm hne], by simp [go_sem, q1, hne, Ne.symm hne], put_fz2 q2 _ _⟩
structure RsSt (w wr : World) (B : Nat) (X : Nm) (k : Nat) (v : Int) : Prop where
  x : VnC wr B X
  i : IntAt wr X.neg X.a X.n X.cap k v
  no : NoI wr w.heap.size
  be : Below w.heap.size w wr
  l : w.heap.size < B
theorem RsSt.below {w wr wr' : World} {B : Nat} {X : Nm} {k : Nat} {v : Int} (h : RsSt w wr B X k v) (hb : Below wr.heap.size wr wr') : RsSt w wr' B X k v :=
  ⟨h.x.below hb, h.i.below hb, h.no.below hb, bthen h.be hb, h.l⟩
theorem RsSt.put {w wr : World} {B : Nat} {X Y : Nm} {k k' : Nat} {v v' : Int} (h : RsSt w wr B X k v) (hy : IntAt wr Y.neg Y.a Y.n Y.cap k' v') : RsSt w (put2w wr B Y) B Y k' v' :=
  ⟨h.x.put Y, hy.putv h.x Y, h.no.offv (by have := h.l; omega) Y, set2 h.be (by have := h.l; omega) _ _, h.l⟩
structure CtSt (w wr : World) (B B' : Nat) (X Y : Nm) (p q : Int) (k : Nat) (u v : Int) : Prop where
  a : RaC wr w.heap.size p q
  x : VnC wr B X
  y : VnC wr B' Y
  i : IntAt wr X.neg X.a X.n X.cap k u
  j : IntAt wr Y.neg Y.a Y.n Y.cap k v
  no : NoI wr (w.heap.size + 1)
  be : Below w.heap.size w wr
  l : w.heap.size + 1 < B
  l' : w.heap.size + 1 < B'
  n : B ≠ B'
theorem CtSt.below {w wr wr' : World} {B B' : Nat} {X Y : Nm} {p q : Int} {k : Nat} {u v : Int} (h : CtSt w wr B B' X Y p q k u v) (hb : Below wr.heap.size wr wr') : CtSt w wr' B B' X Y p q k u v :=
  ⟨h.a.below hb, h.x.below hb, h.y.below hb, h.i.below hb, h.j.below hb, h.no.below hb, bthen h.be hb, h.l, h.l', h.n⟩
theorem CtSt.mono {w wr : World} {B B' : Nat} {X Y : Nm} {p q : Int} {k k' : Nat} {u v : Int} (h : CtSt w wr B B' X Y p q k u v) (hk : k ≤ k') : CtSt w wr B B' X Y p q k' u v :=
  ⟨h.a, h.x, h.y, h.i.mono hk, h.j.mono hk, h.no, h.be, h.l, h.l', h.n⟩
end Go.Proofs.Ytgmnknmjainabab
namespace Go.Proofs.Ytgmnknmjainabab
open Go.RowKit
attribute [local go_sem ↓] Go.wp_at_zero Go.wp_at_succ
theorem VrC.offv {w : World} {B B' : Nat} {s : Sp} (h : VrC w B s) (hne : B ≠ B') (y : Nm) : VrC (put2w w B' y) B s := by
  obtain ⟨⟨q0, q1, q2, q3, q4⟩, q5⟩ := h
  exact ⟨⟨by simp [go_sem, q0, hne, Ne.symm hne], by simp [go_sem, q1, hne, Ne.symm hne], by simp [go_sem, q2, hne, Ne.symm hne], by simp [go_sem, q3, hne, Ne.symm hne], by simp [go_sem, q4, hne, Ne.symm hne]⟩, fun o => by rw [frozen_set', frozen_set']; exact q5 o⟩
structure ClSt (w wr : World) (B C : Nat) (ss xx yy : Sp) (K b : Nat) (lo hi : Int) : Prop where
  s : VrC wr w.heap.size ss
  x : VrC wr B xx
  y : VrC wr C yy
  ps : SpAt wr ss K lo hi
  px : SpAt wr xx K 0 0
  py : SpAt wr yy K (Q b) (Q b)
  no : NoC wr (w.heap.size + 1)
  be : Below w.heap.size w wr
  l : w.heap.size + 1 < B
  l' : w.heap.size + 1 < C
theorem ClSt.below {w wr wr' : World} {B C : Nat} {s x y : Sp} {K b : Nat} {lo hi : Int} (h : ClSt w wr B C s x y K b lo hi) (hb : Below wr.heap.size wr wr') : ClSt w wr' B C s x y K b lo hi :=
  ⟨h.s.below hb, h.x.below hb, h.y.below hb, h.ps.below hb, h.px.below hb, h.py.below hb, h.no.below hb, bthen h.be hb, h.l, h.l'⟩
end Go.Proofs.Ytgmnknmjainabab
namespace Go.Proofs.Ytgmnknmjainabab
open Go.RowKit
attribute [local go_sem ↓] Go.wp_at_zero Go.wp_at_succ
structure PiSt (w wr : World) (B4 B5 m K : Nat) (U Sm : Sp) (f : Nat → Int × Int) (i : Nat) : Prop where
  y : VrC wr B4 U
  s : VrC wr B5 Sm
  yp : SpAt wr U K (f i).1 (f i).2
  sp : SpAt wr Sm K (sumI f i).1 (sumI f i).2
  yb : U.bits = (m : Int)
  sb : Sm.bits = (m : Int)
  no : NoC wr w.heap.size
  be : Below w.heap.size w wr
  l4 : w.heap.size < B4
  l5 : w.heap.size < B5
  ne : B4 ≠ B5
theorem PiSt.below {w wr wr' : World} {B4 B5 m K : Nat} {U Sm : Sp} {f : Nat → Int × Int} {i : Nat} (h : PiSt w wr B4 B5 m K U Sm f i) (hb : Below wr.heap.size wr wr') : PiSt w wr' B4 B5 m K U Sm f i :=
  ⟨h.y.below hb, h.s.below hb, h.yp.below hb, h.sp.below hb, h.yb, h.sb, h.no.below hb, bthen h.be hb, h.l4, h.l5, h.ne⟩
end Go.Proofs.Ytgmnknmjainabab
namespace Go.Proofs.Ytgmnknmjainabab.Ex
def vT (x : Rat) (n : Nat) : Rat := x * tm (x * x) n / (2 * (n : Rat) + 1)
end Go.Proofs.Ytgmnknmjainabab.Ex
namespace Go.Proofs.Ytgmnknmjainabab
open Go.RowKit
attribute [local go_sem ↓] Go.wp_at_zero Go.wp_at_succ
theorem NoI.put2 {w : World} {B B' : Nat} (h : NoI w B) (hne : B ≠ B') (u0 u1 : Value) : NoI ((w.setCell ⟨B', 0, none⟩ u0).setCell ⟨B', 1, none⟩ u1) B := by
  obtain ⟨q0, q1, q2⟩ := h
  exact ⟨cell_put2 q0 hne _ _, cell_put2 q1 hne _ _, fun o => by rw [frozen_set', frozen_set']; exact q2 o⟩
structure RDs (w wr : World) (BL BH : Nat) (X Y : Nm) (neg : Bool) (a : Option Addr) (n cap k : Nat) (x zl zh : Int) : Prop where
  hX : NmC wr BL X
  hY : NmC wr BH Y
  fL : ∀ o, wr.frozen? ⟨BL, o, none⟩ = false
  fH : ∀ o, wr.frozen? ⟨BH, o, none⟩ = false
  hl : IntAt wr X.neg X.a X.n X.cap (k + 2) zl
  hh : IntAt wr Y.neg Y.a Y.n Y.cap (k + 2) zh
  A : NmC wr w.heap.size ⟨neg, a, n, cap⟩
  R : NoI wr (w.heap.size + 1)
  hx : IntAt wr neg a n cap k x
  hB : Below w.heap.size w wr
theorem RDs.below {w wr w' : World} {BL BH : Nat} {X Y : Nm} {neg : Bool} {a : Option Addr} {n cap k : Nat} {x zl zh : Int} (h : RDs w wr BL BH X Y neg a n cap k x zl zh) (hb : Below wr.heap.size wr w') : RDs w w' BL BH X Y neg a n cap k x zl zh :=
  ⟨h.hX.below hb, h.hY.below hb, fun o => (hb.frozen (p := ⟨BL, o, none⟩) h.hX.lt).trans (h.fL o), fun o => (hb.frozen (p := ⟨BH, o, none⟩) h.hY.lt).trans (h.fH o), h.hl.below hb, h.hh.below hb, h.A.below hb, h.R.below hb, h.hx.below hb, bthen h.hB hb⟩
end Go.Proofs.Ytgmnknmjainabab
namespace Go.Proofs.Ytgmnknmjainabab
open Go.RowKit
attribute [local go_sem ↓] Go.wp_at_zero Go.wp_at_succ
structure LeSt (w wr : World) (B7 B8 B9 m K kq : Nat) (q : Nm) (U Sm : Sp) (X : Int) (f g : Nat → Int × Int) (i : Nat) : Prop where
  y : VrC wr B8 U
  s : VrC wr B9 Sm
  qc : NmC wr B7 q
  yp : SpAt wr U K (f i).1 (f i).2
  sp : SpAt wr Sm K (g i).1 (g i).2
  qp : IntAt wr q.neg q.a q.n q.cap kq (X * X)
  yb : U.bits = (m : Int)
  sb : Sm.bits = (m : Int)
  no : NoC wr (w.heap.size + 1)
  be : Below w.heap.size w wr
  l7 : w.heap.size + 1 < B7
  l8 : w.heap.size + 1 < B8
  l9 : w.heap.size + 1 < B9
  n78 : B7 ≠ B8
  n79 : B7 ≠ B9
  n89 : B8 ≠ B9
theorem LeSt.below {w wr wr' : World} {B7 B8 B9 m K kq : Nat} {q : Nm} {U Sm : Sp} {X : Int} {f g : Nat → Int × Int} {i : Nat} (h : LeSt w wr B7 B8 B9 m K kq q U Sm X f g i) (hb : Below wr.heap.size wr wr') : LeSt w wr' B7 B8 B9 m K kq q U Sm X f g i :=
  ⟨h.y.below hb, h.s.below hb, h.qc.below hb, h.yp.below hb, h.sp.below hb, h.qp.below hb, h.yb, h.sb, h.no.below hb, bthen h.be hb, h.l7, h.l8, h.l9, h.n78, h.n79, h.n89⟩
end Go.Proofs.Ytgmnknmjainabab
namespace Go.Proofs.Ytgmnknmjainabab
open Go.RowKit
attribute [local go_sem ↓] Go.wp_at_zero Go.wp_at_succ
def Gr1 (bt : Int) (p q : Nat → Int) (n i : Nat) (e : Int) : Prop := (e = 3 ∧ RFlt bt p q n 3) ∨ (RFlt bt p q n 0 ∧ ((e = 0 ∧ ∀ j, j < i → 0 < p j) ∨ (e = 5 ∧ ∃ j, j < n ∧ p j ≤ 0)))
def Gr2 (bt : Int) (p q : Nat → Int) (n i : Nat) (e : Int) : Prop := (e = 3 ∧ RFlt bt p q n 3) ∨ (RFlt bt p q n 0 ∧ ((e = 5 ∧ ∃ j, j < n ∧ p j ≤ 0) ∨ ((∀ j, j < n → 0 < p j) ∧ ((e = 0 ∧ ∀ j, j < i → p j ≤ 100 * q j) ∨ (e = 2 ∧ ∃ j, j < n ∧ 100 * q j < p j)))))
def GrX (bt : Int) (p q : Nat → Int) (n : Nat) (e : Int) : Prop := Gr1 bt p q n n e
theorem Gr1.start {bt : Int} {p q : Nat → Int} {n : Nat} {z : Int} (h : RFlt bt p q n z) : Gr1 bt p q n 0 z := by
  rcases h with ⟨e, h1, h2⟩ | ⟨e, h1⟩
  · subst e; exact Or.inr ⟨Or.inl ⟨rfl, h1, h2⟩, Or.inl ⟨rfl, fun j hj => by omega⟩⟩
  · subst e; exact Or.inl ⟨rfl, Or.inr ⟨rfl, h1⟩⟩
theorem Gr1.none {bt : Int} {p q : Nat → Int} {n i : Nat} (h : Gr1 bt p q n i 0) (hi : i < n) (hp : p i ≤ 0) : Gr1 bt p q n (i + 1) 5 := by
  rcases h with ⟨e, _⟩ | ⟨h, _⟩
  · omega
  · exact Or.inr ⟨h, Or.inr ⟨rfl, i, hi, hp⟩⟩
theorem Gr1.ok {bt : Int} {p q : Nat → Int} {n i : Nat} (h : Gr1 bt p q n i 0) (hp : 0 < p i) : Gr1 bt p q n (i + 1) 0 := by
  rcases h with ⟨e, _⟩ | ⟨h, ⟨_, k⟩ | ⟨e, _⟩⟩
  · omega
  · refine Or.inr ⟨h, Or.inl ⟨rfl, fun j hj => ?_⟩⟩
    by_cases c : j = i
    · subst c; exact hp
    · exact k j (by omega)
  · omega
theorem Gr1.fin {bt : Int} {p q : Nat → Int} {n i : Nat} {e : Int} (h : Gr1 bt p q n i e) (hc : i = n ∨ e ≠ 0) : GrX bt p q n e := by
  rcases hc with c | c
  · subst c; exact h
  · rcases h with h | ⟨h, ⟨e', _⟩ | k⟩
    · exact Or.inl h
    · exact absurd e' c
    · exact Or.inr ⟨h, Or.inr k⟩
theorem GrX.two {bt : Int} {p q : Nat → Int} {n : Nat} {e : Int} (h : GrX bt p q n e) : Gr2 bt p q n 0 e := by
  rcases h with h | ⟨h, ⟨e', k⟩ | k⟩
  · exact Or.inl h
  · exact Or.inr ⟨h, Or.inr ⟨k, Or.inl ⟨e', fun j hj => by omega⟩⟩⟩
  · exact Or.inr ⟨h, Or.inl k⟩
theorem Gr2.rok {bt : Int} {p q : Nat → Int} {n i : Nat} (h : Gr2 bt p q n i 0) : ∀ j, j < n → rok (p j) (q j) := by
  rcases h with ⟨e, _⟩ | ⟨h, _⟩
  · omega
  · exact RFlt.all h
theorem Gr2.many {bt : Int} {p q : Nat → Int} {n i : Nat} (h : Gr2 bt p q n i 0) (hi : i < n) (hp : 100 * q i < p i) : Gr2 bt p q n (i + 1) 2 := by
  rcases h with ⟨e, _⟩ | ⟨h, ⟨e, _⟩ | ⟨k, _⟩⟩
  · omega
  · omega
  · exact Or.inr ⟨h, Or.inr ⟨k, Or.inr ⟨rfl, i, hi, hp⟩⟩⟩
theorem Gr2.ok {bt : Int} {p q : Nat → Int} {n i : Nat} (h : Gr2 bt p q n i 0) (hi : i < n) (hp : p i ≤ 100 * q i) : Gr2 bt p q n (i + 1) 0 := by
  rcases h with ⟨e, _⟩ | ⟨h, ⟨e, _⟩ | ⟨k, ⟨_, l⟩ | ⟨e, _⟩⟩⟩
  · omega
  · omega
  · refine Or.inr ⟨h, Or.inr ⟨k, Or.inl ⟨rfl, fun j hj => ?_⟩⟩⟩
    by_cases c : j = i
    · subst c; exact hp
    · exact l j (by omega)
  · omega
theorem Gr2.fin {bt : Int} {p q : Nat → Int} {n i : Nat} {e : Int} (h : Gr2 bt p q n i e) (hc : i = n ∨ e ≠ 0) : GmE bt p q n e := by
  rcases h with ⟨e1, h⟩ | ⟨h, ⟨e1, k⟩ | ⟨k, ⟨e1, l⟩ | ⟨e1, l⟩⟩⟩
  · subst e1; exact Or.inl ⟨h, rfl⟩
  · exact Or.inr ⟨h, Or.inl ⟨e1, k⟩⟩
  · rcases hc with c | c
    · subst c; exact Or.inr ⟨h, Or.inr (Or.inr ⟨e1, fun j hj => ⟨k j hj, l j hj⟩⟩)⟩
    · exact absurd e1 c
  · exact Or.inr ⟨h, Or.inr (Or.inl ⟨e1, k, l⟩)⟩
end Go.Proofs.Ytgmnknmjainabab
namespace Go.Proofs.Ytgmnknmjainabab
open Go.RowKit
attribute [local go_sem ↓] Go.wp_at_zero Go.wp_at_succ
theorem TwoP.drew {W wx : World} {b k1 k2 : Nat} {a c : Int × Int} {p q : Value} (h : TwoP W wx b k1 k2 a c p q) : TwoP W wx.drew b k1 k2 a c p q := by
  obtain ⟨B, B', x, y, h1, h2, h3, h4, h5, h6, h7, h8, h9, h10, h11, h12⟩ := h
  have hd : Below wx.heap.size wx wx.drew := (Below.refl _ _).drew
  exact ⟨B, B', x, y, h1, h2, h3, h4, h5, h6.below hd, h7.below hd, h8.below hd, h9.below hd, h10, h11, bthen h12 hd⟩
structure NearSt (w wr : World) (B5 B6 b K : Nat) (zz Pp Sm : Sp) (a pv sv : Int × Int) : Prop where
  z : SpC wr w.heap.size zz
  p : VrC wr B5 Pp
  s : VrC wr B6 Sm
  zp : SpAt wr zz K a.1 a.2
  pp : SpAt wr Pp K pv.1 pv.2
  sp : SpAt wr Sm K sv.1 sv.2
  pb : Pp.bits = (b : Int)
  sb : Sm.bits = (b : Int)
  no : NoC wr (w.heap.size + 1)
  be : Below w.heap.size w wr
  l1 : B5 ≠ w.heap.size + 1
  l2 : B6 ≠ w.heap.size + 1
  m1 : B5 ≠ w.heap.size
  m2 : B6 ≠ w.heap.size
  k1 : w.heap.size ≤ B5
  k2 : w.heap.size ≤ B6
  n : B5 ≠ B6
theorem NearSt.below {w wr wr' : World} {B5 B6 b K : Nat} {z Pp Sm : Sp} {a p s : Int × Int} (h : NearSt w wr B5 B6 b K z Pp Sm a p s) (hb : Below wr.heap.size wr wr') : NearSt w wr' B5 B6 b K z Pp Sm a p s :=
  ⟨h.z.below hb, h.p.below hb, h.s.below hb, h.zp.below hb, h.pp.below hb, h.sp.below hb, h.pb, h.sb, h.no.below hb, bthen h.be hb, h.l1, h.l2, h.m1, h.m2, h.k1, h.k2, h.n⟩
end Go.Proofs.Ytgmnknmjainabab
namespace Go.Proofs.Ytgmnknmjainabab
open Go.RowKit
attribute [local go_sem ↓] Go.wp_at_zero Go.wp_at_succ
open Ex
structure LmW (w wr : World) (X Y : Nm) (n d : Int) (BT BU BA : Nat) (T U : Sp) (A : Nm) (m k K : Nat) (a c : Int × Int) : Prop where
  x : NmC wr w.heap.size X
  y : NmC wr (w.heap.size + 1) Y
  ix : IntAt wr X.neg X.a X.n X.cap 20 n
  iy : IntAt wr Y.neg Y.a Y.n Y.cap 20 d
  t : VrC wr BT T
  u : VrC wr BU U
  at_ : VnC wr BA A
  tb : T.bits = (m : Int)
  ub : U.bits = (m : Int)
  tp : SpAt wr T K a.1 a.2
  up : SpAt wr U K c.1 c.2
  ap : IntAt wr A.neg A.a A.n A.cap (k + 20) (n + (k : Int) * d)
  r : NoC wr (w.heap.size + 1 + 1)
  be : Below w.heap.size w wr
  l1 : w.heap.size + 1 + 1 < BT
  l2 : w.heap.size + 1 + 1 < BU
  l3 : w.heap.size + 1 + 1 < BA
  n1 : BT ≠ BU
  n2 : BT ≠ BA
  n3 : BU ≠ BA
theorem LmW.below {w wr : World} {X Y : Nm} {n d : Int} {BT BU BA : Nat} {T U : Sp} {A : Nm} {m k K : Nat} {a c : Int × Int} (h : LmW w wr X Y n d BT BU BA T U A m k K a c) {wr' : World} (hb : Below wr.heap.size wr wr') : LmW w wr' X Y n d BT BU BA T U A m k K a c :=
  ⟨h.x.below hb, h.y.below hb, h.ix.below hb, h.iy.below hb, h.t.below hb, h.u.below hb, h.at_.below hb, h.tb, h.ub, h.tp.below hb, h.up.below hb, h.ap.below hb, h.r.below hb, bthen h.be hb, h.l1, h.l2, h.l3, h.n1, h.n2, h.n3⟩
theorem LmW.fits {w wr : World} {X Y : Nm} {n d : Int} {BT BU BA : Nat} {T U : Sp} {A : Nm} {m k K : Nat} {a c : Int × Int} (h : LmW w wr X Y n d BT BU BA T U A m k K a c) {K' : Nat} (e1 : a.1 ≤ a.2) (e2 : -P K' < a.1) (e3 : a.2 < P K') (f1 : c.1 ≤ c.2) (f2 : -P K' < c.1) (f3 : c.2 < P K') : LmW w wr X Y n d BT BU BA T U A m k K' a c :=
  ⟨h.x, h.y, h.ix, h.iy, h.t, h.u, h.at_, h.tb, h.ub, h.tp.fits e1 e2 e3, h.up.fits f1 f2 f3, h.ap, h.r, h.be, h.l1, h.l2, h.l3, h.n1, h.n2, h.n3⟩
theorem LmW.mono {w wr : World} {X Y : Nm} {n d : Int} {BT BU BA : Nat} {T U : Sp} {A : Nm} {m k K : Nat} {a c : Int × Int} (h : LmW w wr X Y n d BT BU BA T U A m k K a c) {K' : Nat} (e : K ≤ K') : LmW w wr X Y n d BT BU BA T U A m k K' a c :=
  ⟨h.x, h.y, h.ix, h.iy, h.t, h.u, h.at_, h.tb, h.ub, h.tp.mono e, h.up.mono e, h.ap, h.r, h.be, h.l1, h.l2, h.l3, h.n1, h.n2, h.n3⟩
end Go.Proofs.Ytgmnknmjainabab
namespace Go.Proofs.Ytgmnknmjainabab
open Go.RowKit
attribute [local go_sem ↓] Go.wp_at_zero Go.wp_at_succ
def RefErf (X : Int) (B : Nat) (lo hi : Int) : Prop := ∀ (w' : World) (x : Nm), IntAt w' x.neg x.a x.n x.cap 100 X → Calls Try.prog 51 #[.agg #[.bool x.neg, .slice x.a x.n x.cap], .int .i64 B] w' (SpanAns w' B 200001 lo hi)
end Go.Proofs.Ytgmnknmjainabab
namespace Go.Proofs.Ytgmnknmjainabab
open Go.RowKit
attribute [local go_sem ↓] Go.wp_at_zero Go.wp_at_succ
def RefErf2 (X : Int) (B : Nat) (lo hi : Int) : Prop := ∀ (w' : World) (x : Nm), IntAt w' x.neg x.a x.n x.cap 100 X → Calls Try.prog 51 #[.agg #[.bool x.neg, .slice x.a x.n x.cap], .int .i64 B] w' (SpanAns w' B 200002 lo hi)
theorem RefErf.two {X : Int} {B : Nat} {lo hi : Int} (h : RefErf X B lo hi) : RefErf2 X B lo hi := fun w' x hx => (h w' x hx).mono fun r w'' ⟨s, e1, e2, e3, e4⟩ => ⟨s, e1, e2, e3.mono (by omega), e4⟩
end Go.Proofs.Ytgmnknmjainabab
namespace Go.Proofs.Ytgmnknmjainabab
open Ex
theorem Iv.nought {b : Nat} {a : Int × Int} (h : Iv b a (fun _ => 0)) : a.1 ≤ 0 ∧ 0 ≤ a.2 := by
  have q := Qr_pos b
  obtain ⟨h1, h2⟩ := Has.of_const h
  constructor
  · refine Int.not_lt.1 fun hlt => ?_
    have : (0 : Rat) < (a.1 : Rat) := by exact_mod_cast hlt
    have := rdiv_pos this q
    grind
  · refine Int.not_lt.1 fun hlt => ?_
    have h3 : (a.2 : Rat) < 0 := by exact_mod_cast hlt
    have h4 := rdiv_pos (show 0 < -(a.2 : Rat) by grind) q
    have e : -(a.2 : Rat) / (Q b : Rat) = -((a.2 : Rat) / (Q b : Rat)) := by rw [Rat.div_def, Rat.div_def, Rat.neg_mul]
    grind
end Go.Proofs.Ytgmnknmjainabab
namespace Go.Proofs.Ytgmnknmjainabab
open Go.RowKit
attribute [local go_sem ↓] Go.wp_at_zero Go.wp_at_succ
structure RootSt (w wr : World) (b K i : Nat) (l : Nat → Rat) (ss : Sp) (a : Int × Int) : Prop where
  s : VrC wr w.heap.size ss
  sp : SpAt wr ss K a.1 a.2
  sb : ss.bits = (b : Int)
  iv : RInv b l i a
  no : NoC wr (w.heap.size + 1)
  be : Below w.heap.size w wr
theorem RootSt.below {w wr wr' : World} {b K i : Nat} {l : Nat → Rat} {ss : Sp} {a : Int × Int} (h : RootSt w wr b K i l ss a) (hb : Below wr.heap.size wr wr') : RootSt w wr' b K i l ss a :=
  ⟨h.s.below hb, h.sp.below hb, h.sb, h.iv, h.no.below hb, bthen h.be hb⟩
end Go.Proofs.Ytgmnknmjainabab
namespace Go.Proofs.Ytgmnknmjainabab
open Go.RowKit
attribute [local go_sem ↓] Go.wp_at_zero Go.wp_at_succ
structure LgSt (w wr : World) (X Y : Nm) (k : Nat) (n d : Int) : Prop where
  x : NmC wr w.heap.size X
  fx : ∀ o, wr.frozen? ⟨w.heap.size, o, none⟩ = false
  y : NmC wr (w.heap.size + 1) Y
  fy : ∀ o, wr.frozen? ⟨w.heap.size + 1, o, none⟩ = false
  ix : IntAt wr X.neg X.a X.n X.cap k n
  iy : IntAt wr Y.neg Y.a Y.n Y.cap k d
  no : NoC wr (w.heap.size + 1 + 1)
  be : Below w.heap.size w wr
theorem LgSt.below {w wr wr' : World} {X Y : Nm} {k : Nat} {n d : Int} (h : LgSt w wr X Y k n d) (hb : Below wr.heap.size wr wr') : LgSt w wr' X Y k n d :=
  ⟨h.x.below hb, fun o => (hb.frozen (p := ⟨w.heap.size, o, none⟩) h.x.lt).trans (h.fx o), h.y.below hb, fun o => (hb.frozen (p := ⟨w.heap.size + 1, o, none⟩) h.y.lt).trans (h.fy o), h.ix.below hb, h.iy.below hb, h.no.below hb, bthen h.be hb⟩
theorem refRatio_any (x y : Nm) (k k2 b : Nat) (n d : Int) (w : World) (h1 : IntAt w x.neg x.a x.n x.cap k n) (h2 : IntAt w y.neg y.a y.n y.cap k2 d) (hk : k ≤ 600000000) (hk2 : k2 ≤ 100000000) (hb : b ≤ 100000) (hy : 0 < d) :
    Calls Try.prog 52 #[.agg #[.bool x.neg, .slice x.a x.n x.cap], .agg #[.bool y.neg, .slice y.a y.n y.cap], .int .i64 b] w (SpanAns w b (k + b / 16 + 14) (ofI n d b).1 (ofI n d b).2) :=
  refRatio_core _ _ _ _ _ _ _ _ k k2 b n d _ h1 h2 (by omega) (by omega) hb hy (fun neg' a' n' cap' w' p1 p2 => floor_any _ _ _ _ _ _ _ _ _ k2 _ _ w' p1 p2 (by omega) hy)
end Go.Proofs.Ytgmnknmjainabab
namespace Go.Proofs.Ytgmnknmjainabab
open Go.RowKit
attribute [local go_sem ↓] Go.wp_at_zero Go.wp_at_succ
open Ex
theorem refRatio_z {b : Nat} (z : Int) (hz : z = (b : Int)) (x y : Nm) (k k2 : Nat) (n d : Int) (w : World) (h1 : IntAt w x.neg x.a x.n x.cap k n) (h2 : IntAt w y.neg y.a y.n y.cap k2 d) (hk : k ≤ 600000000) (hk2 : k2 ≤ 100000000) (hb : b ≤ 100000) (hy : 0 < d) :
    Calls Try.prog 52 #[.agg #[.bool x.neg, .slice x.a x.n x.cap], .agg #[.bool y.neg, .slice y.a y.n y.cap], .int .i64 z] w (SpanAns w b (k + b / 16 + 14) (ofI n d b).1 (ofI n d b).2) := by
  subst hz; exact refRatio_any x y k k2 b n d w h1 h2 hk hk2 hb hy
end Go.Proofs.Ytgmnknmjainabab
namespace Go.Proofs.Ytgmnknmjainabab
open Go.RowKit
attribute [local go_sem ↓] Go.wp_at_zero Go.wp_at_succ
open Ex
structure LnW (w wr : World) (X Y : Nm) (n d : Int) (BU : Nat) (U : Sp) (m K : Nat) (c : Int × Int) : Prop where
  x : NmC wr w.heap.size X
  y : NmC wr (w.heap.size + 1) Y
  ix : IntAt wr X.neg X.a X.n X.cap 20 n
  iy : IntAt wr Y.neg Y.a Y.n Y.cap 20 d
  u : VrC wr BU U
  ub : U.bits = (m : Int)
  up : SpAt wr U K c.1 c.2
  r : NoC wr (w.heap.size + 1 + 1)
  be : Below w.heap.size w wr
  l2 : w.heap.size + 1 + 1 < BU
theorem LmW.ln {w wr : World} {X Y : Nm} {n d : Int} {BT BU BA : Nat} {T U : Sp} {A : Nm} {m k K : Nat} {a c : Int × Int} (h : LmW w wr X Y n d BT BU BA T U A m k K a c) : LnW w wr X Y n d BU U m K c := ⟨h.x, h.y, h.ix, h.iy, h.u, h.ub, h.up, h.r, h.be, h.l2⟩
theorem LnW.below {w wr : World} {X Y : Nm} {n d : Int} {BU : Nat} {U : Sp} {m K : Nat} {c : Int × Int} (h : LnW w wr X Y n d BU U m K c) {wr' : World} (hb : Below wr.heap.size wr wr') : LnW w wr' X Y n d BU U m K c :=
  ⟨h.x.below hb, h.y.below hb, h.ix.below hb, h.iy.below hb, h.u.below hb, h.ub, h.up.below hb, h.r.below hb, bthen h.be hb, h.l2⟩
theorem NmC.offH {w : World} {B B' : Nat} {x : Nm} (h : NmC w B x) (hne : B ≠ B') (u0 u1 : Value) : NmC ((w.setCell ⟨B', 2, none⟩ u0).setCell ⟨B', 3, none⟩ u1) B x := by
  obtain ⟨q0, q1⟩ := h
  exact ⟨by simp [go_sem, q0, hne, Ne.symm hne], by simp [go_sem, q1, hne, Ne.symm hne]⟩
theorem LnW.putH {w wr : World} {X Y : Nm} {n d : Int} {BU : Nat} {U : Sp} {m K : Nat} {c : Int × Int} (h : LnW w wr X Y n d BU U m K c) {H : Nm} {z : Int} {K' : Nat} (hK : K ≤ K') (hp : IntAt wr H.neg H.a H.n H.cap K' z) : LnW w ((wr.setCell ⟨BU, 2, none⟩ (.bool H.neg)).setCell ⟨BU, 3, none⟩ (.slice H.a H.n H.cap)) X Y n d BU ⟨U.ln, U.la, U.lN, U.lc, H.neg, H.a, H.n, H.cap, U.bits⟩ m K' (c.1, z) :=
  have l2 := h.l2
  ⟨h.x.offH (by omega) _ _, h.y.offH (by omega) _ _, h.ix.putH h.u.c.c2 h.u.c.c3 _ _, h.iy.putH h.u.c.c2 h.u.c.c3 _ _, sp_putHi h.u H, h.ub, ⟨(h.up.lo.mono hK).putH h.u.c.c2 h.u.c.c3 _ _, hp.putH h.u.c.c2 h.u.c.c3 _ _⟩, h.r.offH (by omega) _ _, (h.be.setCell (p := ⟨BU, 2, none⟩) (by show w.heap.size ≤ BU; omega) _).setCell (p := ⟨BU, 3, none⟩) (by show w.heap.size ≤ BU; omega) _, h.l2⟩
namespace Ex
end Ex
end Go.Proofs.Ytgmnknmjainabab
namespace Go.Proofs.Ytgmnknmjainabab
open Ex
namespace Ex
end Ex
theorem up_unit {x : Nat → Rat} {b : Nat} {L1 H1 L2 H2 : Int} (h1 : SuV x b L1 H1) (h2 : SuV (fun M => 1 - x M) b L2 H2) : touB (addI (L1, H1) (L2, H2)).1 (addI (L1, H1) (L2, H2)).2 0 (1 * Q b) (1 * Q b) 0 = true := by
  have i : Iv b (addI (L1, H1) (L2, H2)) (fun _ => ((1 : Int) : Rat)) := Has.of_eq (h1.val.add h2.val) fun M => by
    have c2 : ((1 : Int) : Rat) = 1 := rfl
    rw [c2]; grind
  exact tou_whole i (null_zero.of_eq fun M => by grind)
theorem su_le {b : Nat} {x y : Nat → Rat} {L1 H1 L2 H2 : Int} (h1 : SuV x b L1 H1) (h2 : SuV y b L2 H2) (k : LeN x y) : L1 ≤ H2 := by
  obtain ⟨z, hz, kz⟩ := k.null
  exact Iv.touch_le h1.val h2.val hz 0 fun M _ => kz M
end Go.Proofs.Ytgmnknmjainabab
