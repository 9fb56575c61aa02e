/-
  That tailsurelaw.SpanHolds answers true of whatever spans and numbers, and leaves old memory alone.
-/
import Derived.Deep.QuietTactic
import Derived.BigQuiet
import Derived.WalkSmall
import Derived.Test.YtgmnknmjainabaaK18
namespace Go.Proofs.Ytgmnknmjainabaa
set_option linter.unusedVariables false
set_option linter.unusedSimpArgs false
set_option linter.unnecessarySimpa false
open Go.RowKit
attribute [local go_sem ↓] Go.wp_at_zero Go.wp_at_succ

theorem div_holds {l h p q x y : Int} (hp : 0 < p) (h1 : p ≤ y) (h2 : y ≤ q) (h3 : l ≤ x) (h4 : x ≤ h) :
    (if l < 0 then l / p else l / q) * y ≤ x ∧ x ≤ (if h < 0 then -(-h / q) else -(-h / p)) * y := by
  have hq : 0 < q := by omega
  constructor
  · split
    · rename_i hl
      have a1 := Int.ediv_mul_le l (show p ≠ 0 by omega)
      have a0 : l / p ≤ 0 := by
        have := Int.ediv_le_ediv hp (show l ≤ 0 by omega)
        simpa using this
      have a2 := Int.mul_le_mul_of_nonneg_left h1 (show 0 ≤ -(l / p) by omega)
      rw [Int.neg_mul, Int.neg_mul] at a2
      omega
    · rename_i hl
      have a1 := Int.ediv_mul_le l (show q ≠ 0 by omega)
      have a0 : 0 ≤ l / q := Int.ediv_nonneg (by omega) (by omega)
      have a2 := Int.mul_le_mul_of_nonneg_left h2 a0
      omega
  · split
    · rename_i hl
      have a1 := Int.ediv_mul_le (-h) (show q ≠ 0 by omega)
      have a0 : 0 ≤ -h / q := Int.ediv_nonneg (by omega) (by omega)
      have a2 := Int.mul_le_mul_of_nonneg_left h2 a0
      rw [Int.neg_mul]
      omega
    · rename_i hl
      have a1 := Int.ediv_mul_le (-h) (show p ≠ 0 by omega)
      have a0 : -h / p ≤ 0 := by
        have := Int.ediv_le_ediv hp (show -h ≤ 0 by omega)
        simpa using this
      have a2 := Int.mul_le_mul_of_nonneg_left h1 (show 0 ≤ -(-h / p) by omega)
      rw [Int.neg_mul, Int.neg_mul] at a2
      rw [Int.neg_mul]
      omega
theorem down_holds {m M z q : Int} (hq : 0 < q) (h1 : m ≤ z) (h2 : z ≤ M) : m / q * q ≤ z ∧ z ≤ -(-M / q) * q := by
  have a1 := Int.ediv_mul_le m (show q ≠ 0 by omega)
  have a2 := Int.ediv_mul_le (-M) (show q ≠ 0 by omega)
  rw [Int.neg_mul]
  omega

theorem an_vals {E g L H : Int} (hE : E = 0) (hg : g = 0 ∨ g = 5) : anE E g L H = 0 ∨ anE E g L H = 2 ∨ anE E g L H = 5 := by
  subst hE
  rcases hg with rfl | rfl
  · rw [an_fit.1]
    rcases fit_cases L H with ⟨_, f2, _⟩ | ⟨_, f2, _⟩
    · exact Or.inr (Or.inl f2)
    · exact Or.inl f2
  · rw [(an_own (by decide)).1]; exact Or.inr (Or.inr rfl)

/-- What stands of tailsurelaw.SpanHolds behind its two points. -/
structure HLs (w wr : World) (s t : Sp) (d e d' e' : Nat → Int) (BX BY : Nat) (x y : Nm) (k : Nat) (zx zy : Int) : Prop where
  A : SpC wr w.heap.size s
  G : SpC wr (w.heap.size + 1) t
  ds : SpDig wr s d e
  dt : SpDig wr t d' e'
  X : NmC wr BX x
  Y : NmC wr BY y
  ix : IntAt wr x.neg x.a x.n x.cap k zx
  iy : IntAt wr y.neg y.a y.n y.cap k zy
  hB : Below w.heap.size w wr
theorem HLs.below {w wr w' : World} {s t : Sp} {d e d' e' : Nat → Int} {BX BY : Nat} {x y : Nm} {k : Nat} {zx zy : Int} (D : HLs w wr s t d e d' e' BX BY x y k zx zy) (hb : Below wr.heap.size wr w') : HLs w w' s t d e d' e' BX BY x y k zx zy :=
  ⟨D.A.below hb, D.G.below hb, D.ds.below hb, D.dt.below hb, D.X.below hb, D.Y.below hb, D.ix.below hb, D.iy.below hb, bthen D.hB hb⟩

set_option maxRecDepth 100000 in
set_option maxHeartbeats 8000000 in
theorem law_spanHolds (w : World) (s t : Sp) (n m : Int) (d e d' e' : Nat → Int) (hs : SpDig w s d e) (ht : SpDig w t d' e') (hn1 : -9223372036854775808 ≤ n) (hn2 : n ≤ 9223372036854775807) (hm1 : -9223372036854775808 ≤ m) (hm2 : m ≤ 9223372036854775807) :
    Calls Try.prog 7 #[.agg #[.bool s.ln, .slice s.la s.lN s.lc, .bool s.hn, .slice s.ha s.hN s.hc, .int .i64 s.bits], .agg #[.bool t.ln, .slice t.la t.lN t.lc, .bool t.hn, .slice t.ha t.hN t.hc, .int .i64 t.bits], .int .i64 n, .int .i64 m] w fun r w' => r = .returned (.bool true) ∧ Below w.heap.size w w' := by
  obtain ⟨W, hW⟩ : ∃ W, W = (w.alloc (.cells #[.bool s.ln, .slice s.la s.lN s.lc, .bool s.hn, .slice s.ha s.hN s.hc, .int .i64 s.bits] 26)).alloc (.cells #[.bool t.ln, .slice t.la t.lN t.lc, .bool t.hn, .slice t.ha t.hN t.hc, .int .i64 t.bits] 26) := ⟨_, rfl⟩
  have hBW : Below w.heap.size w W := by rw [hW]; exact bl2 _ _ _
  have A : SpC W w.heap.size s := by rw [hW]; exact ⟨by simp [go_sem], by simp [go_sem], by simp [go_sem], by simp [go_sem], by simp [go_sem]⟩
  have G : SpC W (w.heap.size + 1) t := by rw [hW]; exact ⟨by simp [go_sem], by simp [go_sem], by simp [go_sem], by simp [go_sem], by simp [go_sem]⟩
  replace hs := hs.below hBW
  replace ht := ht.below hBW
  have HNn := hide (show -9223372036854775808 ≤ n ∧ n ≤ 9223372036854775807 from ⟨hn1, hn2⟩)
  have HNm := hide (show -9223372036854775808 ≤ m ∧ m ≤ 9223372036854775807 from ⟨hm1, hm2⟩)
  clear hn1 hn2 hm1 hm2
  go_enter Try.func7, Try.ntmps7
  go_upto_region 1 with fail
  rw [← hW]
  clear hW
  go_wp2_with fail
  refine (spanBegun_any _).mono ?_
  rintro r w0 ⟨rfl, hb0⟩
  replace hBW := bthen hBW hb0
  replace A := A.below hb0
  replace G := G.below hb0
  replace hs := hs.below hb0
  replace ht := ht.below hb0
  clear hb0
  have lp := A.lt
  obtain ⟨p0, p1, p2, p3, p4⟩ := A
  have lq := G.lt
  obtain ⟨q0, q1, q2, q3, q4⟩ := G
  go_wp2_with fail
  refine (saidAddA s t d e d' e' _ hs ht).mono ?_
  rintro r w1 ⟨u1, rfl, hub1, hup1, hb1⟩
  have A := (SpC.mk p0 p1 p2 p3 p4).below hb1
  have G := (SpC.mk q0 q1 q2 q3 q4).below hb1
  replace hBW := bthen hBW hb1
  replace hs := hs.below hb1
  replace ht := ht.below hb1
  clear hub1 hb1 lp p0 p1 p2 p3 p4 lq q0 q1 q2 q3 q4
  obtain ⟨W1, hW1⟩ : ∃ W', W' = w1.alloc (.cells #[.bool u1.ln, .slice u1.la u1.lN u1.lc, .bool u1.hn, .slice u1.ha u1.hN u1.hc, .int .i64 u1.bits] 26) := ⟨_, rfl⟩
  have hc1 : Below w1.heap.size w1 W1 := by rw [hW1]; exact bl1 _ _
  have U1 : SpC W1 w1.heap.size u1 := by rw [hW1]; exact spc_new _ _ _
  obtain ⟨er1, hq1⟩ : ∃ x, x = (anE (fltE2 (chkE s d e) (chkE t d' e') s.bits t.bits) 0 ((loZ s d) + (loZ t d')) ((hiZ s e) + (hiZ t e'))) := ⟨_, rfl⟩
  rw [← hq1]
  have HQ1 := hide hq1
  clear hq1
  go_upto_region 4 with fail
  rw [← hW1]
  clear hW1
  replace hBW := bthen hBW hc1
  replace A := A.below hc1
  replace G := G.below hc1
  replace hs := hs.below hc1
  replace ht := ht.below hc1
  replace hup1 := hup1.below hc1
  clear hc1
  have lp := A.lt
  obtain ⟨p0, p1, p2, p3, p4⟩ := A
  have lq := G.lt
  obtain ⟨q0, q1, q2, q3, q4⟩ := G
  go_wp2_with fail
  refine (twoSpans_any _ s t d e d' e' hs ht).mono ?_
  rintro r W2 ⟨rfl, hb2⟩
  have A := (SpC.mk p0 p1 p2 p3 p4).below hb2
  have G := (SpC.mk q0 q1 q2 q3 q4).below hb2
  replace hBW := bthen hBW hb2
  replace hs := hs.below hb2
  replace ht := ht.below hb2
  replace hup1 := hup1.below hb2
  replace U1 := U1.below hb2
  clear hb2 lp p0 p1 p2 p3 p4 lq q0 q1 q2 q3 q4
  by_cases hE : (fltE2 (chkE s d e) (chkE t d' e') s.bits t.bits) = 0
  · obtain ⟨c1, c2, hbt⟩ := flt0 hE
    obtain ⟨g1, g2, g3, g4⟩ := chk_ok hs c1
    obtain ⟨r1, r2, r3, r4⟩ := chk_ok ht c2
    have PS := hide (show SpAt W2 s 250 (loZ s d) (hiZ s e) from g1)
    have PT := hide (show SpAt W2 t 250 (loZ t d') (hiZ t e') from r1)
    have HLEs := hide (show (loZ s d) ≤ (hiZ s e) from g4)
    have HLEt := hide (show (loZ t d') ≤ (hiZ t e') from r4)
    have hbb : s.bits = (s.bits.toNat : Int) := by omega
    have HBB := hide hbb
    have HBL := hide (show s.bits.toNat ≤ 120 by omega)
    have HEE := hide hE
    have HCE := hide c1
    have hEb : ((fltE2 (chkE s d e) (chkE t d' e') s.bits t.bits) != 0) = false := by simp [hE]
    clear g1 g2 g3 g4 r1 r2 r3 r4 c1 c2 hbt hbb
    rw [hE]
    clear hE hEb
    have HK := hide (show ∀ w', Below W2.heap.size W2 w' → (w'.cell? ⟨w.heap.size, 0, none⟩ = some (.bool s.ln) ∧ w'.cell? ⟨w.heap.size, 1, none⟩ = some (.slice s.la s.lN s.lc) ∧ w'.cell? ⟨w.heap.size, 2, none⟩ = some (.bool s.hn) ∧ w'.cell? ⟨w.heap.size, 3, none⟩ = some (.slice s.ha s.hN s.hc) ∧ w'.cell? ⟨w.heap.size, 4, none⟩ = some (.int .i64 s.bits) ∧ w'.cell? ⟨w.heap.size + 1, 0, none⟩ = some (.bool t.ln) ∧ w'.cell? ⟨w.heap.size + 1, 1, none⟩ = some (.slice t.la t.lN t.lc) ∧ w'.cell? ⟨w.heap.size + 1, 2, none⟩ = some (.bool t.hn) ∧ w'.cell? ⟨w.heap.size + 1, 3, none⟩ = some (.slice t.ha t.hN t.hc) ∧ w'.cell? ⟨w.heap.size + 1, 4, none⟩ = some (.int .i64 t.bits)) from fun w' hB => ⟨(A.below hB).c0, (A.below hB).c1, (A.below hB).c2, (A.below hB).c3, (A.below hB).c4, (G.below hB).c0, (G.below hB).c1, (G.below hB).c2, (G.below hB).c3, (G.below hB).c4⟩)
    have la := A.lt
    have lg := G.lt
    obtain ⟨x0, x1, x2, x3, x4, y0, y1, y2, y3, y4⟩ := unhide HK _ (Below.refl _ _)
    go_upto_region 6 with fail
    go_cut [11, 12] (fun p q wx => ∃ zx zy : Int, (loZ s d) ≤ zx ∧ zx ≤ (hiZ s e) ∧ (loZ t d') ≤ zy ∧ zy ≤ (hiZ t e') ∧ TwoV W2 wx 560 560 (zx) (zy) p q)
    case first =>
      as_aux_lemma =>
      go_region_held3 (fun w' => w'.cell? ⟨w.heap.size, 0, none⟩ = some (.bool s.ln) ∧ w'.cell? ⟨w.heap.size, 1, none⟩ = some (.slice s.la s.lN s.lc) ∧ w'.cell? ⟨w.heap.size, 2, none⟩ = some (.bool s.hn) ∧ w'.cell? ⟨w.heap.size, 3, none⟩ = some (.slice s.ha s.hN s.hc) ∧ w'.cell? ⟨w.heap.size, 4, none⟩ = some (.int .i64 s.bits) ∧ w'.cell? ⟨w.heap.size + 1, 0, none⟩ = some (.bool t.ln) ∧ w'.cell? ⟨w.heap.size + 1, 1, none⟩ = some (.slice t.la t.lN t.lc) ∧ w'.cell? ⟨w.heap.size + 1, 2, none⟩ = some (.bool t.hn) ∧ w'.cell? ⟨w.heap.size + 1, 3, none⟩ = some (.slice t.ha t.hN t.hc) ∧ w'.cell? ⟨w.heap.size + 1, 4, none⟩ = some (.int .i64 t.bits)) (exact unhide HK _ (by repeat' (first | with_reducible exact hBL2 | with_reducible exact hBL1 | with_reducible exact Below.refl _ _ | with_reducible refine Below.drew ?_ | with_reducible refine balloc ?_ _ | with_reducible refine Below.setCell ?_ (by first | with_reducible exact Nat.le_refl _ | with_reducible exact Nat.le_succ _ | with_reducible exact hlL1 | with_reducible exact Nat.le_succ_of_le hlL1 | with_reducible exact hlL2 | with_reducible exact Nat.le_succ_of_le hlL2) _)))
        (first
          | (go_at_call 47; have hq := hBL1; refine (point_any _ t m 250 (loZ t d') (hiZ t e') ((unhide PT).below (by repeat' (first | with_reducible exact hBL1 | with_reducible exact Below.refl _ _ | with_reducible refine Below.drew ?_ | with_reducible refine balloc ?_ _))) (by omega) (unhide HLEt) (unhide HNm).1 (unhide HNm).2).mono ?_; rintro r wL2 ⟨zy, hy1, hy2, negL2, aL2, nL2, cL2, rfl, hintL2, hbL2⟩; have hCL2 : Below wL1.heap.size wL1 wL2 := (by first | with_reducible exact hbL2 | with_reducible exact bthen (bl1 _ _) hbL2 | with_reducible exact bthen (bl2 _ _ _) hbL2); have hBL2 := bthen hBL1 hCL2; (first | with_reducible have gaL2 := (noi_new wL1 24).below hbL2 | with_reducible have gaL2 := ((noi_new wL1 24).below (bl1 _ _)).below hbL2 | skip); (try with_reducible have gbL2 := (noi_new' (wL1.alloc _) (wL1.heap.size + 1) (hs1 _ _) 24).below hbL2); replace hintL1 := hintL1.below hCL2; (try have maL1 := gaL1.lt); (try have mbL1 := gbL1.lt); (try replace gaL1 := gaL1.below hCL2); (try replace gbL1 := gbL1.below hCL2); have hlL2 := hBL2.size; (try have eaL1 := gaL1); (try obtain ⟨zaL10, zaL11, zaL12⟩ := eaL1); (try have yaL1 := gaL1.lt); (try have ebL1 := gbL1); (try obtain ⟨zbL10, zbL11, zbL12⟩ := ebL1); (try have ybL1 := gbL1.lt); (try have eaL2 := gaL2); (try obtain ⟨zaL20, zaL21, zaL22⟩ := eaL2); (try have yaL2 := gaL2.lt); (try have ebL2 := gbL2); (try obtain ⟨zbL20, zbL21, zbL22⟩ := ebL2); (try have ybL2 := gbL2.lt))
          | (go_at_call 47; refine (point_any _ s n 250 (loZ s d) (hiZ s e) ((unhide PS).below (by repeat' (first | with_reducible exact Below.refl _ _ | with_reducible refine Below.drew ?_ | with_reducible refine balloc ?_ _))) (by omega) (unhide HLEs) (unhide HNn).1 (unhide HNn).2).mono ?_; rintro r wL1 ⟨zx, hx1, hx2, negL1, aL1, nL1, cL1, rfl, hintL1, hbL1⟩; have hBL1 : Below W2.heap.size W2 wL1 := (by first | with_reducible exact bthen (Below.refl _ _).drew hbL1 | with_reducible exact bthen (bl1 _ _).drew hbL1 | with_reducible exact bthen (bl2 _ _ _).drew hbL1); (first | with_reducible have gaL1 := ((noi_new W2 24).below (Below.refl _ _).drew).below hbL1 | with_reducible have gaL1 := ((noi_new W2 24).below (bl1 _ _).drew).below hbL1 | skip); (try with_reducible have gbL1 := ((noi_new' (W2.alloc _) (W2.heap.size + 1) (hs1 _ _) 24).below (Below.refl _ _).drew).below hbL1); have hlL1 := hBL1.size))
      all_goals
        go_wp2_with fail
        go_meet
        refine ⟨zx, zy, hx1, hx2, hy1, hy2, ?_⟩
        first
          | with_reducible exact two_aa (x := (Nm.mk negL1 aL1 nL1 cL1)) (y := (Nm.mk negL2 aL2 nL2 cL2)) hBL2 (IntAt.mono hintL1 (by omega)) (IntAt.mono hintL2 (by omega))
          | with_reducible exact two_aa' (x := (Nm.mk negL1 aL1 nL1 cL1)) (y := (Nm.mk negL2 aL2 nL2 cL2)) hBL2 (IntAt.mono hintL1 (by omega)) (IntAt.mono hintL2 (by omega))
          | with_reducible exact two_sa (x := (Nm.mk negL1 aL1 nL1 cL1)) (y := (Nm.mk negL2 aL2 nL2 cL2)) hBL2 (IntAt.mono hintL1 (by omega)) (IntAt.mono hintL2 (by omega)) (by assumption) (by first | with_reducible exact Nat.le_refl _ | with_reducible exact Nat.le_succ _ | with_reducible exact hlL1 | with_reducible exact Nat.le_succ_of_le hlL1 | with_reducible exact hlL2 | with_reducible exact Nat.le_succ_of_le hlL2)
          | with_reducible exact two_as (x := (Nm.mk negL1 aL1 nL1 cL1)) (y := (Nm.mk negL2 aL2 nL2 cL2)) hBL2 (IntAt.mono hintL1 (by omega)) (IntAt.mono hintL2 (by omega)) (by assumption) (by first | with_reducible exact Nat.le_refl _ | with_reducible exact Nat.le_succ _ | with_reducible exact hlL1 | with_reducible exact Nat.le_succ_of_le hlL1 | with_reducible exact hlL2 | with_reducible exact Nat.le_succ_of_le hlL2)
          | with_reducible exact two_ss (x := (Nm.mk negL1 aL1 nL1 cL1)) (y := (Nm.mk negL2 aL2 nL2 cL2)) hBL2 (IntAt.mono hintL1 (by omega)) (IntAt.mono hintL2 (by omega)) (by assumption) (by assumption) (by first | with_reducible exact Nat.le_refl _ | with_reducible exact Nat.le_succ _ | with_reducible exact hlL1 | with_reducible exact Nat.le_succ_of_le hlL1 | with_reducible exact hlL2 | with_reducible exact Nat.le_succ_of_le hlL2) (by first | with_reducible exact Nat.le_refl _ | with_reducible exact Nat.le_succ _ | with_reducible exact hlL1 | with_reducible exact Nat.le_succ_of_le hlL1 | with_reducible exact hlL2 | with_reducible exact Nat.le_succ_of_le hlL2) (by omega)
    case rest =>
    obtain ⟨zx, zy, hx1, hx2, hy1, hy2, ⟨BL, xL, rfl, jL0, jL1, hintL, hHL, hltL⟩, ⟨CL, yL, rfl, jL2, jL3, hjntL, hJL, hjtL⟩, hneL, hfzL, hfyL, hblL⟩ := hcut
    have XL : NmC wc BL xL := ⟨jL0, jL1⟩
    have YL : NmC wc CL yL := ⟨jL2, jL3⟩
    replace hneL : BL ≠ CL := fun e9 => hneL (by rw [e9])
    replace hfzL : ∀ o, wc.frozen? ⟨BL, o, none⟩ = false := hfzL _ rfl
    replace hfyL : ∀ o, wc.frozen? ⟨CL, o, none⟩ = false := hfyL _ rfl
    have D : HLs w wc s t d e d' e' BL CL xL yL 560 zx zy := ⟨A.below hblL, G.below hblL, hs.below hblL, ht.below hblL, XL, YL, hintL, hjntL, bthen hBW hblL⟩
    replace U1 := U1.below hblL
    replace hup1 := hup1.below hblL
    clear HK la lg x0 x1 x2 x3 x4 y0 y1 y2 y3 y4 A G hs ht hBW hblL XL YL hintL hjntL jL0 jL1 jL2 jL3 hltL hjtL hHL hJL hneL hfzL hfyL PS PT HNn HNm
    obtain ⟨W1, hW1⟩ : ∃ V', V' = wc := ⟨_, rfl⟩
    subst hW1
    have HZ := hide (show ((loZ s d) ≤ zx ∧ zx ≤ (hiZ s e)) ∧ ((loZ t d') ≤ zy ∧ zy ≤ (hiZ t e')) from ⟨⟨hx1, hx2⟩, ⟨hy1, hy2⟩⟩)
    clear hx1 hx2 hy1 hy2
    have HEC1 : er1 = 0 ∨ er1 = 2 ∨ er1 = 5 := by rw [unhide HQ1]; exact an_vals (unhide HEE) (Or.inl rfl)
    have HER1 : er1 = 0 → (anV (fltE2 (chkE s d e) (chkE t d' e') s.bits t.bits) 0 ((loZ s d) + (loZ t d')) ((hiZ s e) + (hiZ t e')) ((loZ s d) + (loZ t d'))) ≤ zx + zy ∧ zx + zy ≤ (anV (fltE2 (chkE s d e) (chkE t d' e') s.bits t.bits) 0 ((loZ s d) + (loZ t d')) ((hiZ s e) + (hiZ t e')) ((hiZ s e) + (hiZ t e'))) := by
      intro h0
      rw [unhide HQ1] at h0
      obtain ⟨a1, a2, a3, a4⟩ := an_ok h0
      rw [a4, a4]
      have h9 := unhide HZ
      constructor <;> omega
    clear HQ1
    go_upto_region 8 with fail
    have HK := hide (show ∀ w', Below W1.heap.size W1 w' → (w'.cell? ⟨w1.heap.size, 0, none⟩ = some (.bool u1.ln) ∧ w'.cell? ⟨w1.heap.size, 1, none⟩ = some (.slice u1.la u1.lN u1.lc) ∧ w'.cell? ⟨w1.heap.size, 2, none⟩ = some (.bool u1.hn) ∧ w'.cell? ⟨w1.heap.size, 3, none⟩ = some (.slice u1.ha u1.hN u1.hc) ∧ w'.cell? ⟨BL, 0, none⟩ = some (.bool xL.neg) ∧ w'.cell? ⟨BL, 1, none⟩ = some (.slice xL.a xL.n xL.cap) ∧ w'.cell? ⟨CL, 0, none⟩ = some (.bool yL.neg) ∧ w'.cell? ⟨CL, 1, none⟩ = some (.slice yL.a yL.n yL.cap)) from fun w' hB => ⟨(U1.below hB).c0, (U1.below hB).c1, (U1.below hB).c2, (U1.below hB).c3, (D.X.below hB).c0, (D.X.below hB).c1, (D.Y.below hB).c0, (D.Y.below hB).c1⟩)
    have lU := U1.lt
    have lX := D.X.lt
    have lY := D.Y.lt
    have HIX := hide D.ix
    have HIY := hide D.iy
    have HUL := hide hup1.lo
    have HUH := hide hup1.hi
    obtain ⟨v0, v1, v2, v3, x0, x1, y0, y1⟩ := unhide HK _ (Below.refl _ _)
    go_cut [52, 10] (fun p q wx => p = .bool false ∧ q = .int .i64 er1 ∧ Below W1.heap.size W1 wx)
    case first =>
      as_aux_lemma =>
      rcases HEC1 with her | her | her
      · have HIN := hide (HER1 her)
        rw [her]
        have HER0 := hide her
        clear her HER1
        go_region_held3 (fun w' => w'.cell? ⟨w1.heap.size, 0, none⟩ = some (.bool u1.ln) ∧ w'.cell? ⟨w1.heap.size, 1, none⟩ = some (.slice u1.la u1.lN u1.lc) ∧ w'.cell? ⟨w1.heap.size, 2, none⟩ = some (.bool u1.hn) ∧ w'.cell? ⟨w1.heap.size, 3, none⟩ = some (.slice u1.ha u1.hN u1.hc) ∧ w'.cell? ⟨BL, 0, none⟩ = some (.bool xL.neg) ∧ w'.cell? ⟨BL, 1, none⟩ = some (.slice xL.a xL.n xL.cap) ∧ w'.cell? ⟨CL, 0, none⟩ = some (.bool yL.neg) ∧ w'.cell? ⟨CL, 1, none⟩ = some (.slice yL.a yL.n yL.cap)) (exact unhide HK _ (by first | with_reducible exact hE2 | with_reducible exact hE1 | with_reducible exact (Below.refl _ _).drew | with_reducible exact Below.refl _ _))
          (first
          | (go_at_call 48; have hq := hE1; refine (holds1 _ ⟨u1.ln, u1.la, u1.lN, u1.lc⟩ ⟨u1.hn, u1.ha, u1.hN, u1.hc⟩ ⟨neg1, a1, n1, c1⟩ _ _ _ _ _ _ ((unhide HUL).below hE1) ((unhide HUH).below hE1) hint1 (unhide HIN).1 (unhide HIN).2).mono ?_; rintro r wk2 ⟨rfl, hg2⟩; have hE2 := bthen hE1 hg2; replace hint1 := hint1.below hg2)
          | (go_at_call 49; refine (add_int _ _ _ _ _ _ _ _ 560 560 zx zy _ ((unhide HIX).below (by first | with_reducible exact (Below.refl _ _).drew | with_reducible exact Below.refl _ _)) ((unhide HIY).below (by first | with_reducible exact (Below.refl _ _).drew | with_reducible exact Below.refl _ _)) (by omega) (by omega)).mono ?_; rintro r wk1 ⟨neg1, a1, n1, c1, rfl, hint1, hg1⟩; have hE1 : Below W1.heap.size W1 wk1 := (by first | with_reducible exact bthen (Below.refl _ _).drew hg1 | with_reducible exact hg1)))
        all_goals
          go_wp2_with fail
          go_meet
          exact ⟨rfl, by rw [unhide HER0], hE2⟩
      · rw [her]
        have HER0 := hide her
        clear her HER1
        go_quiet (fail)
        go_wp2_with fail
        go_meet
        exact ⟨rfl, by rw [unhide HER0], below_drewN (Below.refl _ _) _⟩
      · rw [her]
        have HER0 := hide her
        clear her HER1
        go_quiet (fail)
        go_wp2_with fail
        go_meet
        exact ⟨rfl, by rw [unhide HER0], below_drewN (Below.refl _ _) _⟩
    case rest =>
    obtain ⟨rfl, rfl, hbl⟩ := hcut
    replace D := D.below hbl
    clear hbl HK lU lX lY HIX HIY HUL HUH v0 v1 v2 v3 x0 x1 y0 y1  U1 hup1 HEC1
    clear HER1
    have lp := D.A.lt
    obtain ⟨p0, p1, p2, p3, p4⟩ := D.A
    have lq := D.G.lt
    obtain ⟨q0, q1, q2, q3, q4⟩ := D.G
    go_wp2_with fail
    refine (saidSubA s t d e d' e' _ D.ds D.dt).mono ?_
    rintro r w2 ⟨u2, rfl, hub2, hup2, hb2⟩
    replace D := D.below hb2
    clear hub2 hb2 lp p0 p1 p2 p3 p4 lq q0 q1 q2 q3 q4
    obtain ⟨W2, hW2⟩ : ∃ W', W' = w2.alloc (.cells #[.bool u2.ln, .slice u2.la u2.lN u2.lc, .bool u2.hn, .slice u2.ha u2.hN u2.hc, .int .i64 u2.bits] 26) := ⟨_, rfl⟩
    have hc2 : Below w2.heap.size w2 W2 := by rw [hW2]; exact bl1 _ _
    have U2 : SpC W2 w2.heap.size u2 := by rw [hW2]; exact spc_new _ _ _
    go_upto_region 11 with fail
    rw [← hW2]
    clear hW2
    replace D := D.below hc2
    replace hup2 := hup2.below hc2
    clear hc2
    obtain ⟨er2, hq2⟩ : ∃ x, x = (anE (fltE2 (chkE s d e) (chkE t d' e') s.bits t.bits) 0 ((loZ s d) - (hiZ t e')) ((hiZ s e) - (loZ t d'))) := ⟨_, rfl⟩
    rw [← hq2]
    have HEC2 : er2 = 0 ∨ er2 = 2 ∨ er2 = 5 := by rw [hq2]; exact an_vals (unhide HEE) (Or.inl rfl)
    have HER2 : er2 = 0 → (anV (fltE2 (chkE s d e) (chkE t d' e') s.bits t.bits) 0 ((loZ s d) - (hiZ t e')) ((hiZ s e) - (loZ t d')) ((loZ s d) - (hiZ t e'))) ≤ zx - zy ∧ zx - zy ≤ (anV (fltE2 (chkE s d e) (chkE t d' e') s.bits t.bits) 0 ((loZ s d) - (hiZ t e')) ((hiZ s e) - (loZ t d')) ((hiZ s e) - (loZ t d'))) := by
      intro h0
      rw [hq2] at h0
      obtain ⟨a1, a2, a3, a4⟩ := an_ok h0
      rw [a4, a4]
      have h9 := unhide HZ
      constructor <;> omega
    clear hq2
    have HK := hide (show ∀ w', Below W2.heap.size W2 w' → (w'.cell? ⟨w2.heap.size, 0, none⟩ = some (.bool u2.ln) ∧ w'.cell? ⟨w2.heap.size, 1, none⟩ = some (.slice u2.la u2.lN u2.lc) ∧ w'.cell? ⟨w2.heap.size, 2, none⟩ = some (.bool u2.hn) ∧ w'.cell? ⟨w2.heap.size, 3, none⟩ = some (.slice u2.ha u2.hN u2.hc) ∧ w'.cell? ⟨BL, 0, none⟩ = some (.bool xL.neg) ∧ w'.cell? ⟨BL, 1, none⟩ = some (.slice xL.a xL.n xL.cap) ∧ w'.cell? ⟨CL, 0, none⟩ = some (.bool yL.neg) ∧ w'.cell? ⟨CL, 1, none⟩ = some (.slice yL.a yL.n yL.cap)) from fun w' hB => ⟨(U2.below hB).c0, (U2.below hB).c1, (U2.below hB).c2, (U2.below hB).c3, (D.X.below hB).c0, (D.X.below hB).c1, (D.Y.below hB).c0, (D.Y.below hB).c1⟩)
    have lU := U2.lt
    have lX := D.X.lt
    have lY := D.Y.lt
    have HIX := hide D.ix
    have HIY := hide D.iy
    have HUL := hide hup2.lo
    have HUH := hide hup2.hi
    obtain ⟨v0, v1, v2, v3, x0, x1, y0, y1⟩ := unhide HK _ (Below.refl _ _)
    go_cut [72, 10] (fun p q wx => p = .bool false ∧ q = .int .i64 er2 ∧ Below W2.heap.size W2 wx)
    case first =>
      as_aux_lemma =>
      rcases HEC2 with her | her | her
      · have HIN := hide (HER2 her)
        rw [her]
        have HER0 := hide her
        clear her HER2
        go_region_held3 (fun w' => w'.cell? ⟨w2.heap.size, 0, none⟩ = some (.bool u2.ln) ∧ w'.cell? ⟨w2.heap.size, 1, none⟩ = some (.slice u2.la u2.lN u2.lc) ∧ w'.cell? ⟨w2.heap.size, 2, none⟩ = some (.bool u2.hn) ∧ w'.cell? ⟨w2.heap.size, 3, none⟩ = some (.slice u2.ha u2.hN u2.hc) ∧ w'.cell? ⟨BL, 0, none⟩ = some (.bool xL.neg) ∧ w'.cell? ⟨BL, 1, none⟩ = some (.slice xL.a xL.n xL.cap) ∧ w'.cell? ⟨CL, 0, none⟩ = some (.bool yL.neg) ∧ w'.cell? ⟨CL, 1, none⟩ = some (.slice yL.a yL.n yL.cap)) (exact unhide HK _ (by first | with_reducible exact hE2 | with_reducible exact hE1 | with_reducible exact (Below.refl _ _).drew | with_reducible exact Below.refl _ _))
          (first
          | (go_at_call 48; have hq := hE1; refine (holds1 _ ⟨u2.ln, u2.la, u2.lN, u2.lc⟩ ⟨u2.hn, u2.ha, u2.hN, u2.hc⟩ ⟨neg1, a1, n1, c1⟩ _ _ _ _ _ _ ((unhide HUL).below hE1) ((unhide HUH).below hE1) hint1 (unhide HIN).1 (unhide HIN).2).mono ?_; rintro r wk2 ⟨rfl, hg2⟩; have hE2 := bthen hE1 hg2; replace hint1 := hint1.below hg2)
          | (go_at_call 50; refine (sub_int _ _ _ _ _ _ _ _ 560 560 zx zy _ ((unhide HIX).below (by first | with_reducible exact (Below.refl _ _).drew | with_reducible exact Below.refl _ _)) ((unhide HIY).below (by first | with_reducible exact (Below.refl _ _).drew | with_reducible exact Below.refl _ _)) (by omega) (by omega)).mono ?_; rintro r wk1 ⟨neg1, a1, n1, c1, rfl, hint1, hg1⟩; have hE1 : Below W2.heap.size W2 wk1 := (by first | with_reducible exact bthen (Below.refl _ _).drew hg1 | with_reducible exact hg1)))
        all_goals
          go_wp2_with fail
          go_meet
          exact ⟨rfl, by rw [unhide HER0], hE2⟩
      · rw [her]
        have HER0 := hide her
        clear her HER2
        go_quiet (fail)
        go_wp2_with fail
        go_meet
        exact ⟨rfl, by rw [unhide HER0], below_drewN (Below.refl _ _) _⟩
      · rw [her]
        have HER0 := hide her
        clear her HER2
        go_quiet (fail)
        go_wp2_with fail
        go_meet
        exact ⟨rfl, by rw [unhide HER0], below_drewN (Below.refl _ _) _⟩
    case rest =>
    obtain ⟨rfl, rfl, hbl⟩ := hcut
    replace D := D.below hbl
    clear hbl HK lU lX lY HIX HIY HUL HUH v0 v1 v2 v3 x0 x1 y0 y1  U2 hup2 HEC2
    clear HER2
    have lp := D.A.lt
    obtain ⟨p0, p1, p2, p3, p4⟩ := D.A
    go_wp2_with fail
    rw [unhide HBB]
    refine (power2_int s.bits.toNat _ (by have := unhide HBL; omega)).mono ?_
    rintro r w9 ⟨neg9, a9, n9, c9, rfl, hint9, hb9⟩
    replace D := D.below hb9
    clear hb9 lp p0 p1 p2 p3 p4
    obtain ⟨W9, hW9⟩ : ∃ W', W' = w9.alloc (.cells #[.bool neg9, .slice a9 n9 c9] 24) := ⟨_, rfl⟩
    have hc9 : Below w9.heap.size w9 W9 := by rw [hW9]; exact bl1 _ _
    have P : NmC W9 w9.heap.size ⟨neg9, a9, n9, c9⟩ := by rw [hW9]; exact nmc_new w9 ⟨neg9, a9, n9, c9⟩ _
    go_upto_region 14 with fail
    rw [← hW9]
    clear hW9
    replace D := D.below hc9
    have HIP : Hid (IntAt W9 neg9 a9 n9 c9 20 (Q s.bits.toNat)) := hide ((hint9.below hc9).mono (by have := unhide HBL; omega))
    clear hc9 hint9
    obtain ⟨B15, hB15⟩ : ∃ B, B = w9.heap.size := ⟨_, rfl⟩
    rw [← hB15] at P
    rw [← hB15]
    clear hB15
    obtain ⟨pw, hpw⟩ : ∃ y : Nm, y = ⟨neg9, a9, n9, c9⟩ := ⟨_, rfl⟩
    replace P : NmC W9 B15 pw := by rw [hpw]; exact P
    replace HIP : Hid (IntAt W9 pw.neg pw.a pw.n pw.cap 20 (Q s.bits.toNat)) := by rw [hpw]; exact HIP
    clear hpw
    have lp := D.A.lt
    obtain ⟨p0, p1, p2, p3, p4⟩ := D.A
    have lq := D.G.lt
    obtain ⟨q0, q1, q2, q3, q4⟩ := D.G
    go_wp2_with fail
    refine (saidMulA s t d e d' e' _ D.ds D.dt).mono ?_
    rintro r w3 ⟨u3, rfl, hub3, hup3, hb3⟩
    replace D := D.below hb3
    replace P := P.below hb3
    replace HIP := hide ((unhide HIP).below hb3)
    clear hub3 hb3 lp p0 p1 p2 p3 p4 lq q0 q1 q2 q3 q4
    obtain ⟨W3, hW3⟩ : ∃ W', W' = w3.alloc (.cells #[.bool u3.ln, .slice u3.la u3.lN u3.lc, .bool u3.hn, .slice u3.ha u3.hN u3.hc, .int .i64 u3.bits] 26) := ⟨_, rfl⟩
    have hc3 : Below w3.heap.size w3 W3 := by rw [hW3]; exact bl1 _ _
    have U3 : SpC W3 w3.heap.size u3 := by rw [hW3]; exact spc_new _ _ _
    go_upto_region 15 with fail
    rw [← hW3]
    clear hW3
    replace D := D.below hc3
    replace P := P.below hc3
    replace HIP := hide ((unhide HIP).below hc3)
    replace hup3 := hup3.below hc3
    clear hc3
    obtain ⟨er3, hq3⟩ : ∃ x, x = (anE (fltE2 (chkE s d e) (chkE t d' e') s.bits t.bits) 0 (downZ (leastZ (pr4 ((loZ s d) * (loZ t d')) ((loZ s d) * (hiZ t e')) ((hiZ s e) * (loZ t d')) ((hiZ s e) * (hiZ t e'))) 3) s.bits) (-(downZ (-(mostZ (pr4 ((loZ s d) * (loZ t d')) ((loZ s d) * (hiZ t e')) ((hiZ s e) * (loZ t d')) ((hiZ s e) * (hiZ t e'))) 3)) s.bits))) := ⟨_, rfl⟩
    rw [← hq3]
    have HEC3 : er3 = 0 ∨ er3 = 2 ∨ er3 = 5 := by rw [hq3]; exact an_vals (unhide HEE) (Or.inl rfl)
    have HER3 : er3 = 0 → (anV (fltE2 (chkE s d e) (chkE t d' e') s.bits t.bits) 0 (downZ (leastZ (pr4 ((loZ s d) * (loZ t d')) ((loZ s d) * (hiZ t e')) ((hiZ s e) * (loZ t d')) ((hiZ s e) * (hiZ t e'))) 3) s.bits) (-(downZ (-(mostZ (pr4 ((loZ s d) * (loZ t d')) ((loZ s d) * (hiZ t e')) ((hiZ s e) * (loZ t d')) ((hiZ s e) * (hiZ t e'))) 3)) s.bits)) (downZ (leastZ (pr4 ((loZ s d) * (loZ t d')) ((loZ s d) * (hiZ t e')) ((hiZ s e) * (loZ t d')) ((hiZ s e) * (hiZ t e'))) 3) s.bits)) * Q s.bits.toNat ≤ zx * zy ∧ zx * zy ≤ (anV (fltE2 (chkE s d e) (chkE t d' e') s.bits t.bits) 0 (downZ (leastZ (pr4 ((loZ s d) * (loZ t d')) ((loZ s d) * (hiZ t e')) ((hiZ s e) * (loZ t d')) ((hiZ s e) * (hiZ t e'))) 3) s.bits) (-(downZ (-(mostZ (pr4 ((loZ s d) * (loZ t d')) ((loZ s d) * (hiZ t e')) ((hiZ s e) * (loZ t d')) ((hiZ s e) * (hiZ t e'))) 3)) s.bits)) (-(downZ (-(mostZ (pr4 ((loZ s d) * (loZ t d')) ((loZ s d) * (hiZ t e')) ((hiZ s e) * (loZ t d')) ((hiZ s e) * (hiZ t e'))) 3)) s.bits))) * Q s.bits.toNat := by
      intro h0
      rw [hq3] at h0
      obtain ⟨a1, a2, a3, a4⟩ := an_ok h0
      rw [a4, a4]
      have h9 := unhide HZ
      have hb0 : 0 ≤ s.bits := by rw [unhide HBB]; omega
      unfold downZ
      rw [if_pos hb0, if_pos hb0]
      have hm := mul_in h9.1.1 h9.1.2 h9.2.1 h9.2.2
      exact down_holds (by have := Q_pos s.bits.toNat; omega) hm.1 hm.2
    clear hq3
    have HK := hide (show ∀ w', Below W3.heap.size W3 w' → (w'.cell? ⟨w3.heap.size, 0, none⟩ = some (.bool u3.ln) ∧ w'.cell? ⟨w3.heap.size, 1, none⟩ = some (.slice u3.la u3.lN u3.lc) ∧ w'.cell? ⟨w3.heap.size, 2, none⟩ = some (.bool u3.hn) ∧ w'.cell? ⟨w3.heap.size, 3, none⟩ = some (.slice u3.ha u3.hN u3.hc) ∧ w'.cell? ⟨BL, 0, none⟩ = some (.bool xL.neg) ∧ w'.cell? ⟨BL, 1, none⟩ = some (.slice xL.a xL.n xL.cap) ∧ w'.cell? ⟨CL, 0, none⟩ = some (.bool yL.neg) ∧ w'.cell? ⟨CL, 1, none⟩ = some (.slice yL.a yL.n yL.cap) ∧ w'.cell? ⟨B15, 0, none⟩ = some (.bool pw.neg) ∧ w'.cell? ⟨B15, 1, none⟩ = some (.slice pw.a pw.n pw.cap)) from fun w' hB => ⟨(U3.below hB).c0, (U3.below hB).c1, (U3.below hB).c2, (U3.below hB).c3, (D.X.below hB).c0, (D.X.below hB).c1, (D.Y.below hB).c0, (D.Y.below hB).c1, (P.below hB).c0, (P.below hB).c1⟩)
    have lU := U3.lt
    have lX := D.X.lt
    have lY := D.Y.lt
    have HIX := hide D.ix
    have HIY := hide D.iy
    have HUL := hide hup3.lo
    have HUH := hide hup3.hi
    obtain ⟨v0, v1, v2, v3, x0, x1, y0, y1, z0, z1⟩ := unhide HK _ (Below.refl _ _)
    go_cut [99, 10] (fun p q wx => p = .bool false ∧ q = .int .i64 er3 ∧ Below W3.heap.size W3 wx)
    case first =>
      as_aux_lemma =>
      rcases HEC3 with her | her | her
      · have HIN := hide (HER3 her)
        rw [her]
        have HER0 := hide her
        clear her HER3
        go_region_held3 (fun w' => w'.cell? ⟨w3.heap.size, 0, none⟩ = some (.bool u3.ln) ∧ w'.cell? ⟨w3.heap.size, 1, none⟩ = some (.slice u3.la u3.lN u3.lc) ∧ w'.cell? ⟨w3.heap.size, 2, none⟩ = some (.bool u3.hn) ∧ w'.cell? ⟨w3.heap.size, 3, none⟩ = some (.slice u3.ha u3.hN u3.hc) ∧ w'.cell? ⟨BL, 0, none⟩ = some (.bool xL.neg) ∧ w'.cell? ⟨BL, 1, none⟩ = some (.slice xL.a xL.n xL.cap) ∧ w'.cell? ⟨CL, 0, none⟩ = some (.bool yL.neg) ∧ w'.cell? ⟨CL, 1, none⟩ = some (.slice yL.a yL.n yL.cap) ∧ w'.cell? ⟨B15, 0, none⟩ = some (.bool pw.neg) ∧ w'.cell? ⟨B15, 1, none⟩ = some (.slice pw.a pw.n pw.cap)) (exact unhide HK _ (by first | with_reducible exact hE4 | with_reducible exact hE3 | with_reducible exact hE2 | with_reducible exact hE1 | with_reducible exact (Below.refl _ _).drew | with_reducible exact Below.refl _ _))
          (first
          | (go_at_call 48; have hq := hE3; refine (holds1 _ ⟨neg1, a1, n1, c1⟩ ⟨neg2, a2, n2, c2⟩ ⟨neg3, a3, n3, c3⟩ _ _ _ _ _ _ hint1 hint2 hint3 (unhide HIN).1 (unhide HIN).2).mono ?_; rintro r wk4 ⟨rfl, hg4⟩; have hE4 := bthen hE3 hg4; replace hint1 := hint1.below hg4; replace hint2 := hint2.below hg4; replace hint3 := hint3.below hg4)
          | (go_at_call 52; have hq := hE2; refine (mul_int _ _ _ _ _ _ _ _ 560 560 zx zy _ ((unhide HIX).below hE2) ((unhide HIY).below hE2) (by omega) (by omega)).mono ?_; rintro r wk3 ⟨neg3, a3, n3, c3, rfl, hint3, hg3⟩; have hE3 := bthen hE2 hg3; replace hint1 := hint1.below hg3; replace hint2 := hint2.below hg3)
          | (go_at_call 52; have hq := hE1; refine (mul_int _ _ _ _ _ _ _ _ 600 20 (anV (fltE2 (chkE s d e) (chkE t d' e') s.bits t.bits) 0 (downZ (leastZ (pr4 ((loZ s d) * (loZ t d')) ((loZ s d) * (hiZ t e')) ((hiZ s e) * (loZ t d')) ((hiZ s e) * (hiZ t e'))) 3) s.bits) (-(downZ (-(mostZ (pr4 ((loZ s d) * (loZ t d')) ((loZ s d) * (hiZ t e')) ((hiZ s e) * (loZ t d')) ((hiZ s e) * (hiZ t e'))) 3)) s.bits)) (-(downZ (-(mostZ (pr4 ((loZ s d) * (loZ t d')) ((loZ s d) * (hiZ t e')) ((hiZ s e) * (loZ t d')) ((hiZ s e) * (hiZ t e'))) 3)) s.bits))) (Q s.bits.toNat) _ ((unhide HUH).below hE1) ((unhide HIP).below hE1) (by omega) (by omega)).mono ?_; rintro r wk2 ⟨neg2, a2, n2, c2, rfl, hint2, hg2⟩; have hE2 := bthen hE1 hg2; replace hint1 := hint1.below hg2)
          | (go_at_call 52; refine (mul_int _ _ _ _ _ _ _ _ 600 20 (anV (fltE2 (chkE s d e) (chkE t d' e') s.bits t.bits) 0 (downZ (leastZ (pr4 ((loZ s d) * (loZ t d')) ((loZ s d) * (hiZ t e')) ((hiZ s e) * (loZ t d')) ((hiZ s e) * (hiZ t e'))) 3) s.bits) (-(downZ (-(mostZ (pr4 ((loZ s d) * (loZ t d')) ((loZ s d) * (hiZ t e')) ((hiZ s e) * (loZ t d')) ((hiZ s e) * (hiZ t e'))) 3)) s.bits)) (downZ (leastZ (pr4 ((loZ s d) * (loZ t d')) ((loZ s d) * (hiZ t e')) ((hiZ s e) * (loZ t d')) ((hiZ s e) * (hiZ t e'))) 3) s.bits)) (Q s.bits.toNat) _ ((unhide HUL).below (by first | with_reducible exact (Below.refl _ _).drew | with_reducible exact Below.refl _ _)) ((unhide HIP).below (by first | with_reducible exact (Below.refl _ _).drew | with_reducible exact Below.refl _ _)) (by omega) (by omega)).mono ?_; rintro r wk1 ⟨neg1, a1, n1, c1, rfl, hint1, hg1⟩; have hE1 : Below W3.heap.size W3 wk1 := (by first | with_reducible exact bthen (Below.refl _ _).drew hg1 | with_reducible exact hg1)))
        all_goals
          go_wp2_with fail
          go_meet
          exact ⟨rfl, by rw [unhide HER0], hE4⟩
      · rw [her]
        have HER0 := hide her
        clear her HER3
        go_quiet (fail)
        go_wp2_with fail
        go_meet
        exact ⟨rfl, by rw [unhide HER0], below_drewN (Below.refl _ _) _⟩
      · rw [her]
        have HER0 := hide her
        clear her HER3
        go_quiet (fail)
        go_wp2_with fail
        go_meet
        exact ⟨rfl, by rw [unhide HER0], below_drewN (Below.refl _ _) _⟩
    case rest =>
    obtain ⟨rfl, rfl, hbl⟩ := hcut
    replace D := D.below hbl
    replace P := P.below hbl
    replace HIP := hide ((unhide HIP).below hbl)
    clear hbl HK lU lX lY HIX HIY HUL HUH v0 v1 v2 v3 x0 x1 y0 y1 z0 z1 U3 hup3 HEC3
    clear HER3
    have lp := D.A.lt
    obtain ⟨p0, p1, p2, p3, p4⟩ := D.A
    have lq := D.G.lt
    obtain ⟨q0, q1, q2, q3, q4⟩ := D.G
    go_wp2_with fail
    refine (saidDivA s t d e d' e' _ D.ds D.dt).mono ?_
    rintro r w4 ⟨u4, rfl, hub4, hup4, hb4⟩
    replace D := D.below hb4
    replace P := P.below hb4
    replace HIP := hide ((unhide HIP).below hb4)
    clear hub4 hb4 lp p0 p1 p2 p3 p4 lq q0 q1 q2 q3 q4
    obtain ⟨W4, hW4⟩ : ∃ W', W' = w4.alloc (.cells #[.bool u4.ln, .slice u4.la u4.lN u4.lc, .bool u4.hn, .slice u4.ha u4.hN u4.hc, .int .i64 u4.bits] 26) := ⟨_, rfl⟩
    have hc4 : Below w4.heap.size w4 W4 := by rw [hW4]; exact bl1 _ _
    have U4 : SpC W4 w4.heap.size u4 := by rw [hW4]; exact spc_new _ _ _
    go_upto_region 18 with fail
    rw [← hW4]
    clear hW4
    replace D := D.below hc4
    replace P := P.below hc4
    replace HIP := hide ((unhide HIP).below hc4)
    replace hup4 := hup4.below hc4
    clear hc4
    obtain ⟨er4, hq4⟩ : ∃ x, x = (anE (fltE2 (chkE s d e) (chkE t d' e') s.bits t.bits) (dvG (loZ t d') (hiZ t e')) (dvLo (loZ s d) (hiZ s e) (loZ t d') (hiZ t e') s.bits.toNat) (dvHi (loZ s d) (hiZ s e) (loZ t d') (hiZ t e') s.bits.toNat)) := ⟨_, rfl⟩
    rw [← hq4]
    have HEC4 : er4 = 0 ∨ er4 = 2 ∨ er4 = 5 := by rw [hq4]; exact an_vals (unhide HEE) (by unfold dvG; split <;> omega)
    have HER4 : er4 = 0 → 0 < zy → (anV (fltE2 (chkE s d e) (chkE t d' e') s.bits t.bits) (dvG (loZ t d') (hiZ t e')) (dvLo (loZ s d) (hiZ s e) (loZ t d') (hiZ t e') s.bits.toNat) (dvHi (loZ s d) (hiZ s e) (loZ t d') (hiZ t e') s.bits.toNat) (dvLo (loZ s d) (hiZ s e) (loZ t d') (hiZ t e') s.bits.toNat)) * zy ≤ zx * Q s.bits.toNat ∧ zx * Q s.bits.toNat ≤ (anV (fltE2 (chkE s d e) (chkE t d' e') s.bits t.bits) (dvG (loZ t d') (hiZ t e')) (dvLo (loZ s d) (hiZ s e) (loZ t d') (hiZ t e') s.bits.toNat) (dvHi (loZ s d) (hiZ s e) (loZ t d') (hiZ t e') s.bits.toNat) (dvHi (loZ s d) (hiZ s e) (loZ t d') (hiZ t e') s.bits.toNat)) * zy := by
      intro h0
      rw [hq4] at h0
      obtain ⟨a1, a2, a3, a4⟩ := an_ok h0
      rw [a4, a4]
      intro hpos
      have h9 := unhide HZ
      have hn : ¬ ((loZ t d') ≤ 0 ∧ 0 ≤ (hiZ t e')) := by
        intro h8
        have : dvG (loZ t d') (hiZ t e') = 5 := if_pos h8
        omega
      have hq9 := Q_pos s.bits.toNat
      unfold dvLo dvHi
      rw [if_neg (by omega), if_neg (by omega)]
      exact div_holds (by omega) h9.2.1 h9.2.2 (Int.mul_le_mul_of_nonneg_right h9.1.1 (by omega)) (Int.mul_le_mul_of_nonneg_right h9.1.2 (by omega))
    clear hq4
    have HK := hide (show ∀ w', Below W4.heap.size W4 w' → (w'.cell? ⟨w4.heap.size, 0, none⟩ = some (.bool u4.ln) ∧ w'.cell? ⟨w4.heap.size, 1, none⟩ = some (.slice u4.la u4.lN u4.lc) ∧ w'.cell? ⟨w4.heap.size, 2, none⟩ = some (.bool u4.hn) ∧ w'.cell? ⟨w4.heap.size, 3, none⟩ = some (.slice u4.ha u4.hN u4.hc) ∧ w'.cell? ⟨BL, 0, none⟩ = some (.bool xL.neg) ∧ w'.cell? ⟨BL, 1, none⟩ = some (.slice xL.a xL.n xL.cap) ∧ w'.cell? ⟨CL, 0, none⟩ = some (.bool yL.neg) ∧ w'.cell? ⟨CL, 1, none⟩ = some (.slice yL.a yL.n yL.cap) ∧ w'.cell? ⟨B15, 0, none⟩ = some (.bool pw.neg) ∧ w'.cell? ⟨B15, 1, none⟩ = some (.slice pw.a pw.n pw.cap)) from fun w' hB => ⟨(U4.below hB).c0, (U4.below hB).c1, (U4.below hB).c2, (U4.below hB).c3, (D.X.below hB).c0, (D.X.below hB).c1, (D.Y.below hB).c0, (D.Y.below hB).c1, (P.below hB).c0, (P.below hB).c1⟩)
    have lU := U4.lt
    have lX := D.X.lt
    have lY := D.Y.lt
    have HIX := hide D.ix
    have HIY := hide D.iy
    have HUL := hide hup4.lo
    have HUH := hide hup4.hi
    obtain ⟨v0, v1, v2, v3, x0, x1, y0, y1, z0, z1⟩ := unhide HK _ (Below.refl _ _)
    go_cut [128, 10] (fun p q wx => p = .bool false ∧ q = .int .i64 er4 ∧ Below W4.heap.size W4 wx)
    case first =>
      as_aux_lemma =>
      rcases HEC4 with her | her | her
      · have HIN := hide (HER4 her)
        rw [her]
        have HER0 := hide her
        clear her HER4
        by_cases hps : 0 < zy
        · have tps : cmpInt zy 0 = 1 := by unfold cmpInt; rw [if_neg (by omega), if_pos hps]
          have HPS := hide hps
          clear hps
          go_region_held3 (fun w' => w'.cell? ⟨w4.heap.size, 0, none⟩ = some (.bool u4.ln) ∧ w'.cell? ⟨w4.heap.size, 1, none⟩ = some (.slice u4.la u4.lN u4.lc) ∧ w'.cell? ⟨w4.heap.size, 2, none⟩ = some (.bool u4.hn) ∧ w'.cell? ⟨w4.heap.size, 3, none⟩ = some (.slice u4.ha u4.hN u4.hc) ∧ w'.cell? ⟨BL, 0, none⟩ = some (.bool xL.neg) ∧ w'.cell? ⟨BL, 1, none⟩ = some (.slice xL.a xL.n xL.cap) ∧ w'.cell? ⟨CL, 0, none⟩ = some (.bool yL.neg) ∧ w'.cell? ⟨CL, 1, none⟩ = some (.slice yL.a yL.n yL.cap) ∧ w'.cell? ⟨B15, 0, none⟩ = some (.bool pw.neg) ∧ w'.cell? ⟨B15, 1, none⟩ = some (.slice pw.a pw.n pw.cap)) (exact unhide HK _ (by first | with_reducible exact hE5 | with_reducible exact hE4 | with_reducible exact hE3 | with_reducible exact hE2 | with_reducible exact hE1 | with_reducible exact (Below.refl _ _).drew | with_reducible exact Below.refl _ _))
            (first
            | (go_at_call 48; have hq := hE4; refine (holds1 _ ⟨neg2, a2, n2, c2⟩ ⟨neg3, a3, n3, c3⟩ ⟨neg4, a4, n4, c4⟩ _ _ _ _ _ _ hint2 hint3 hint4 (unhide HIN (unhide HPS)).1 (unhide HIN (unhide HPS)).2).mono ?_; rintro r wk5 ⟨rfl, hg5⟩; have hE5 := bthen hE4 hg5; replace hint2 := hint2.below hg5; replace hint3 := hint3.below hg5; replace hint4 := hint4.below hg5)
            | (go_at_call 52; have hq := hE3; refine (mul_int _ _ _ _ _ _ _ _ 560 20 zx (Q s.bits.toNat) _ ((unhide HIX).below hE3) ((unhide HIP).below hE3) (by omega) (by omega)).mono ?_; rintro r wk4 ⟨neg4, a4, n4, c4, rfl, hint4, hg4⟩; have hE4 := bthen hE3 hg4; replace hint2 := hint2.below hg4; replace hint3 := hint3.below hg4)
            | (go_at_call 52; have hq := hE2; refine (mul_int _ _ _ _ _ _ _ _ 600 560 (anV (fltE2 (chkE s d e) (chkE t d' e') s.bits t.bits) (dvG (loZ t d') (hiZ t e')) (dvLo (loZ s d) (hiZ s e) (loZ t d') (hiZ t e') s.bits.toNat) (dvHi (loZ s d) (hiZ s e) (loZ t d') (hiZ t e') s.bits.toNat) (dvHi (loZ s d) (hiZ s e) (loZ t d') (hiZ t e') s.bits.toNat)) zy _ ((unhide HUH).below hE2) ((unhide HIY).below hE2) (by omega) (by omega)).mono ?_; rintro r wk3 ⟨neg3, a3, n3, c3, rfl, hint3, hg3⟩; have hE3 := bthen hE2 hg3; replace hint2 := hint2.below hg3)
            | (go_at_call 52; have hq := hE1; refine (mul_int _ _ _ _ _ _ _ _ 600 560 (anV (fltE2 (chkE s d e) (chkE t d' e') s.bits t.bits) (dvG (loZ t d') (hiZ t e')) (dvLo (loZ s d) (hiZ s e) (loZ t d') (hiZ t e') s.bits.toNat) (dvHi (loZ s d) (hiZ s e) (loZ t d') (hiZ t e') s.bits.toNat) (dvLo (loZ s d) (hiZ s e) (loZ t d') (hiZ t e') s.bits.toNat)) zy _ ((unhide HUL).below hE1) ((unhide HIY).below hE1) (by omega) (by omega)).mono ?_; rintro r wk2 ⟨neg2, a2, n2, c2, rfl, hint2, hg2⟩; have hE2 := bthen hE1 hg2)
            | (go_at_call 40; refine (sign_int _ _ _ _ 560 zy _ ((unhide HIY).below (by first | with_reducible exact (Below.refl _ _).drew | with_reducible exact Below.refl _ _))).mono ?_; rintro r wk1 ⟨rfl, hg1⟩; rw [tps]; have hE1 : Below W4.heap.size W4 wk1 := (by first | with_reducible exact bthen (Below.refl _ _).drew hg1 | with_reducible exact hg1)))
          all_goals
            go_wp2_with fail
            go_meet
            exact ⟨rfl, by rw [unhide HER0], hE5⟩
        · have tps : cmpInt zy 0 = 0 ∨ cmpInt zy 0 = -1 := by unfold cmpInt; split <;> (try split) <;> omega
          clear hps
          rcases tps with tps | tps
          · refine wp_region_held_drew (S := fun w' => w'.cell? ⟨CL, 0, none⟩ = some (.bool yL.neg) ∧ w'.cell? ⟨CL, 1, none⟩ = some (.slice yL.a yL.n yL.cap)) (by kernel_rfl) ⟨(D.Y.below (Below.refl _ _).drew).c0, (D.Y.below (Below.refl _ _).drew).c1⟩ (fun hHeld => ?_)
            refine wpAnyH_take (i := 0) (oi := { dst := some 106, op := Go.Op.move (Go.Operand.tmp 10), type := 29, pos := "all.go:193", after := #[], guard := none }) (v := .int .i64 0) rfl (by kernel_rfl) (by kernel_rfl) (by kernel_rfl) (fun _ _ _ h => h) (Or.inl ⟨by rfl, fun w hSw => ?_⟩) hHeld ?_
            · obtain ⟨s0, s1⟩ := hSw; go_simp
            try simp only [Act.put, List.setIfInBounds_toArray, List.set_cons_zero, List.set_cons_succ]
            refine wpAnyH_take (i := 1) (oi := { dst := some 107, op := Go.Op.binOp Go.BinOp.eql 29 (Go.Operand.tmp 106) (Go.Operand.const (Go.Value.int Go.IntKind.i64 0)) 29, type := 4, pos := "all.go:193", after := #[{ on := 0, ground := Go.Ground.data }], guard := none }) (v := .bool true) rfl (by kernel_rfl) (by kernel_rfl) (by kernel_rfl) (fun _ _ _ h => h) (Or.inl ⟨by rfl, fun w hSw => ?_⟩) hHeld ?_
            · obtain ⟨s0, s1⟩ := hSw; go_simp
            try simp only [Act.put, List.setIfInBounds_toArray, List.set_cons_zero, List.set_cons_succ]
            refine wpAnyH_take (i := 2) (oi := { dst := some 108, op := Go.Op.move (Go.Operand.tmp 107), type := 4, pos := "all.go:193", after := #[{ on := 1, ground := Go.Ground.data }], guard := none }) (v := .bool true) rfl (by kernel_rfl) (by kernel_rfl) (by kernel_rfl) (fun _ _ _ h => h) (Or.inl ⟨by rfl, fun w hSw => ?_⟩) hHeld ?_
            · obtain ⟨s0, s1⟩ := hSw; go_simp
            try simp only [Act.put, List.setIfInBounds_toArray, List.set_cons_zero, List.set_cons_succ]
            refine wpAnyH_take (i := 3) (oi := { dst := some 109, op := Go.Op.load 24 (Go.Operand.tmp 12), type := 24, pos := "all.go:193", after := #[{ on := 2, ground := Go.Ground.guard }], guard := some (2, true) }) (v := .agg #[.bool yL.neg, .slice yL.a yL.n yL.cap]) rfl (by kernel_rfl) (by kernel_rfl) (by kernel_rfl) (fun _ _ _ h => h) (Or.inl ⟨by rfl, fun w hSw => ?_⟩) hHeld ?_
            · obtain ⟨s0, s1⟩ := hSw; go_simp
            try simp only [Act.put, List.setIfInBounds_toArray, List.set_cons_zero, List.set_cons_succ]
            refine wpAnyH_ready (rs := [4]) (by kernel_rfl) (by simp) ?_
            refine AllReadyH.cons (o := { dst := some 110, op := Go.Op.call { callee := Go.Callee.value (Go.Operand.func 40), args := #[Go.Operand.tmp 109], argTypes := #[24] }, type := 3, pos := "all.go:193", after := #[{ on := 3, ground := Go.Ground.data }, { on := 2, ground := Go.Ground.chain }, { on := 2, ground := Go.Ground.guard }], guard := some (2, true) }) rfl (fun K hK => ?_) AllReadyH.nil
            go_simp
            refine (sign_int _ _ _ _ 560 zy _ ((unhide HIY).below (Below.refl _ _).drew)).mono ?_
            rintro r wk1 ⟨rfl, hg1⟩
            rw [tps]
            have hE1 : Below W4.heap.size W4 wk1 := bthen (Below.refl _ _).drew hg1
            go_wp2_with fail
            refine hK.out _ _ ⟨(D.Y.below hE1).c0, (D.Y.below hE1).c1⟩ (fun hHeld => ?_)
            clear hK K
            try simp only [Act.put, List.setIfInBounds_toArray, List.set_cons_zero, List.set_cons_succ]
            refine wpAnyH_take (i := 5) (oi := { dst := some 111, op := Go.Op.binOp Go.BinOp.gtr 3 (Go.Operand.tmp 110) (Go.Operand.const (Go.Value.int Go.IntKind.i64 0)) 3, type := 4, pos := "all.go:193", after := #[{ on := 4, ground := Go.Ground.data }, { on := 2, ground := Go.Ground.guard }], guard := some (2, true) }) (v := .bool false) rfl (by kernel_rfl) (by kernel_rfl) (by kernel_rfl) (fun _ _ _ h => h) (Or.inl ⟨by rfl, fun w hSw => ?_⟩) hHeld ?_
            · obtain ⟨s0, s1⟩ := hSw; go_simp
            try simp only [Act.put, List.setIfInBounds_toArray, List.set_cons_zero, List.set_cons_succ]
            refine wpAnyH_take (i := 6) (oi := { dst := some 112, op := Go.Op.pick (Go.Operand.tmp 108) (Go.Operand.tmp 111) (Go.Operand.const (Go.Value.bool false)), type := 4, pos := "all.go:193", after := #[{ on := 2, ground := Go.Ground.data }, { on := 5, ground := Go.Ground.data }], guard := none }) (v := .bool false) rfl (by kernel_rfl) (by kernel_rfl) (by kernel_rfl) (fun _ _ _ h => h) (Or.inl ⟨by rfl, fun w hSw => ?_⟩) hHeld ?_
            · obtain ⟨s0, s1⟩ := hSw; go_simp
            try simp only [Act.put, List.setIfInBounds_toArray, List.set_cons_zero, List.set_cons_succ]
            refine wpAnyH_take (i := 7) (oi := { dst := some 113, op := Go.Op.move (Go.Operand.tmp 112), type := 4, pos := "all.go:193", after := #[{ on := 6, ground := Go.Ground.data }, { on := 4, ground := Go.Ground.chain }], guard := none }) (v := .bool false) rfl (by kernel_rfl) (by kernel_rfl) (by kernel_rfl) (fun _ _ _ h => h) (Or.inl ⟨by rfl, fun w hSw => ?_⟩) hHeld ?_
            · obtain ⟨s0, s1⟩ := hSw; go_simp
            try simp only [Act.put, List.setIfInBounds_toArray, List.set_cons_zero, List.set_cons_succ]
            refine wpAnyH_take (i := 8) (oi := { dst := some 114, op := Go.Op.move (Go.Operand.tmp 13), type := 61, pos := "all.go:193", after := #[{ on := 7, ground := Go.Ground.guard }], guard := some (7, true) }) (v := undef) rfl (by kernel_rfl) (by kernel_rfl) (by kernel_rfl) (fun _ _ _ h => h) (Or.inr ⟨by rfl, rfl⟩) hHeld ?_
            try simp only [Act.put, List.setIfInBounds_toArray, List.set_cons_zero, List.set_cons_succ]
            refine wpAnyH_take (i := 9) (oi := { dst := some 115, op := Go.Op.fieldAddr 26 (Go.Operand.tmp 17) 0, type := 0, pos := "all.go:193", after := #[{ on := 7, ground := Go.Ground.guard }], guard := some (7, true) }) (v := undef) rfl (by kernel_rfl) (by kernel_rfl) (by kernel_rfl) (fun _ _ _ h => h) (Or.inr ⟨by rfl, rfl⟩) hHeld ?_
            try simp only [Act.put, List.setIfInBounds_toArray, List.set_cons_zero, List.set_cons_succ]
            refine wpAnyH_take (i := 10) (oi := { dst := some 116, op := Go.Op.load 24 (Go.Operand.tmp 115), type := 24, pos := "all.go:193", after := #[{ on := 9, ground := Go.Ground.data }, { on := 7, ground := Go.Ground.guard }], guard := some (7, true) }) (v := undef) rfl (by kernel_rfl) (by kernel_rfl) (by kernel_rfl) (fun _ _ _ h => h) (Or.inr ⟨by rfl, rfl⟩) hHeld ?_
            try simp only [Act.put, List.setIfInBounds_toArray, List.set_cons_zero, List.set_cons_succ]
            refine wpAnyH_take (i := 11) (oi := { dst := some 117, op := Go.Op.load 24 (Go.Operand.tmp 12), type := 24, pos := "all.go:193", after := #[{ on := 7, ground := Go.Ground.guard }], guard := some (7, true) }) (v := undef) rfl (by kernel_rfl) (by kernel_rfl) (by kernel_rfl) (fun _ _ _ h => h) (Or.inr ⟨by rfl, rfl⟩) hHeld ?_
            try simp only [Act.put, List.setIfInBounds_toArray, List.set_cons_zero, List.set_cons_succ]
            refine wpAnyH_take (i := 12) (oi := { dst := some 118, op := Go.Op.call { callee := Go.Callee.value (Go.Operand.func 52), args := #[Go.Operand.tmp 116, Go.Operand.tmp 117], argTypes := #[24, 24] }, type := 24, pos := "all.go:193", after := #[{ on := 10, ground := Go.Ground.data }, { on := 11, ground := Go.Ground.data }, { on := 7, ground := Go.Ground.chain }, { on := 7, ground := Go.Ground.guard }], guard := some (7, true) }) (v := undef) rfl (by kernel_rfl) (by kernel_rfl) (by kernel_rfl) (fun _ _ _ h => h) (Or.inr ⟨by rfl, rfl⟩) hHeld ?_
            try simp only [Act.put, List.setIfInBounds_toArray, List.set_cons_zero, List.set_cons_succ]
            refine wpAnyH_take (i := 13) (oi := { dst := some 119, op := Go.Op.fieldAddr 26 (Go.Operand.tmp 17) 1, type := 0, pos := "all.go:193", after := #[{ on := 7, ground := Go.Ground.guard }], guard := some (7, true) }) (v := undef) rfl (by kernel_rfl) (by kernel_rfl) (by kernel_rfl) (fun _ _ _ h => h) (Or.inr ⟨by rfl, rfl⟩) hHeld ?_
            try simp only [Act.put, List.setIfInBounds_toArray, List.set_cons_zero, List.set_cons_succ]
            refine wpAnyH_take (i := 14) (oi := { dst := some 120, op := Go.Op.load 24 (Go.Operand.tmp 119), type := 24, pos := "all.go:193", after := #[{ on := 13, ground := Go.Ground.data }, { on := 7, ground := Go.Ground.guard }], guard := some (7, true) }) (v := undef) rfl (by kernel_rfl) (by kernel_rfl) (by kernel_rfl) (fun _ _ _ h => h) (Or.inr ⟨by rfl, rfl⟩) hHeld ?_
            try simp only [Act.put, List.setIfInBounds_toArray, List.set_cons_zero, List.set_cons_succ]
            refine wpAnyH_take (i := 15) (oi := { dst := some 121, op := Go.Op.load 24 (Go.Operand.tmp 12), type := 24, pos := "all.go:193", after := #[{ on := 7, ground := Go.Ground.guard }], guard := some (7, true) }) (v := undef) rfl (by kernel_rfl) (by kernel_rfl) (by kernel_rfl) (fun _ _ _ h => h) (Or.inr ⟨by rfl, rfl⟩) hHeld ?_
            try simp only [Act.put, List.setIfInBounds_toArray, List.set_cons_zero, List.set_cons_succ]
            refine wpAnyH_take (i := 16) (oi := { dst := some 122, op := Go.Op.call { callee := Go.Callee.value (Go.Operand.func 52), args := #[Go.Operand.tmp 120, Go.Operand.tmp 121], argTypes := #[24, 24] }, type := 24, pos := "all.go:193", after := #[{ on := 14, ground := Go.Ground.data }, { on := 15, ground := Go.Ground.data }, { on := 12, ground := Go.Ground.chain }, { on := 7, ground := Go.Ground.guard }], guard := some (7, true) }) (v := undef) rfl (by kernel_rfl) (by kernel_rfl) (by kernel_rfl) (fun _ _ _ h => h) (Or.inr ⟨by rfl, rfl⟩) hHeld ?_
            try simp only [Act.put, List.setIfInBounds_toArray, List.set_cons_zero, List.set_cons_succ]
            refine wpAnyH_take (i := 17) (oi := { dst := some 123, op := Go.Op.load 24 (Go.Operand.tmp 11), type := 24, pos := "all.go:193", after := #[{ on := 7, ground := Go.Ground.guard }], guard := some (7, true) }) (v := undef) rfl (by kernel_rfl) (by kernel_rfl) (by kernel_rfl) (fun _ _ _ h => h) (Or.inr ⟨by rfl, rfl⟩) hHeld ?_
            try simp only [Act.put, List.setIfInBounds_toArray, List.set_cons_zero, List.set_cons_succ]
            refine wpAnyH_take (i := 18) (oi := { dst := some 124, op := Go.Op.load 24 (Go.Operand.tmp 15), type := 24, pos := "all.go:193", after := #[{ on := 7, ground := Go.Ground.guard }], guard := some (7, true) }) (v := undef) rfl (by kernel_rfl) (by kernel_rfl) (by kernel_rfl) (fun _ _ _ h => h) (Or.inr ⟨by rfl, rfl⟩) hHeld ?_
            try simp only [Act.put, List.setIfInBounds_toArray, List.set_cons_zero, List.set_cons_succ]
            refine wpAnyH_take (i := 19) (oi := { dst := some 125, op := Go.Op.call { callee := Go.Callee.value (Go.Operand.func 52), args := #[Go.Operand.tmp 123, Go.Operand.tmp 124], argTypes := #[24, 24] }, type := 24, pos := "all.go:193", after := #[{ on := 17, ground := Go.Ground.data }, { on := 18, ground := Go.Ground.data }, { on := 16, ground := Go.Ground.chain }, { on := 7, ground := Go.Ground.guard }], guard := some (7, true) }) (v := undef) rfl (by kernel_rfl) (by kernel_rfl) (by kernel_rfl) (fun _ _ _ h => h) (Or.inr ⟨by rfl, rfl⟩) hHeld ?_
            try simp only [Act.put, List.setIfInBounds_toArray, List.set_cons_zero, List.set_cons_succ]
            refine wpAnyH_take (i := 20) (oi := { dst := some 126, op := Go.Op.call { callee := Go.Callee.value (Go.Operand.tmp 114), args := #[Go.Operand.tmp 118, Go.Operand.tmp 122, Go.Operand.tmp 125], argTypes := #[24, 24, 24] }, type := 4, pos := "all.go:193", after := #[{ on := 8, ground := Go.Ground.data }, { on := 12, ground := Go.Ground.data }, { on := 16, ground := Go.Ground.data }, { on := 19, ground := Go.Ground.data }, { on := 19, ground := Go.Ground.chain }, { on := 7, ground := Go.Ground.guard }], guard := some (7, true) }) (v := undef) rfl (by kernel_rfl) (by kernel_rfl) (by kernel_rfl) (fun _ _ _ h => h) (Or.inr ⟨by rfl, rfl⟩) hHeld ?_
            try simp only [Act.put, List.setIfInBounds_toArray, List.set_cons_zero, List.set_cons_succ]
            refine wpAnyH_take (i := 21) (oi := { dst := some 127, op := Go.Op.unOp Go.UnOp.not 4 (Go.Operand.tmp 126), type := 4, pos := "all.go:193", after := #[{ on := 20, ground := Go.Ground.data }, { on := 7, ground := Go.Ground.guard }], guard := some (7, true) }) (v := undef) rfl (by kernel_rfl) (by kernel_rfl) (by kernel_rfl) (fun _ _ _ h => h) (Or.inr ⟨by rfl, rfl⟩) hHeld ?_
            try simp only [Act.put, List.setIfInBounds_toArray, List.set_cons_zero, List.set_cons_succ]
            refine wpAnyH_take (i := 22) (oi := { dst := some 128, op := Go.Op.pick (Go.Operand.tmp 113) (Go.Operand.tmp 127) (Go.Operand.const (Go.Value.bool false)), type := 4, pos := "all.go:193", after := #[{ on := 7, ground := Go.Ground.data }, { on := 21, ground := Go.Ground.data }], guard := none }) (v := .bool false) rfl (by kernel_rfl) (by kernel_rfl) (by kernel_rfl) (fun _ _ _ h => h) (Or.inl ⟨by rfl, fun w hSw => ?_⟩) hHeld ?_
            · obtain ⟨s0, s1⟩ := hSw; go_simp
            try simp only [Act.put, List.setIfInBounds_toArray, List.set_cons_zero, List.set_cons_succ]
            refine wpAnyH_done (by kernel_rfl) ?_ _
            go_wp2_with fail
            go_meet
            exact ⟨rfl, by rw [unhide HER0], hE1⟩
          · refine wp_region_held_drew (S := fun w' => w'.cell? ⟨CL, 0, none⟩ = some (.bool yL.neg) ∧ w'.cell? ⟨CL, 1, none⟩ = some (.slice yL.a yL.n yL.cap)) (by kernel_rfl) ⟨(D.Y.below (Below.refl _ _).drew).c0, (D.Y.below (Below.refl _ _).drew).c1⟩ (fun hHeld => ?_)
            refine wpAnyH_take (i := 0) (oi := { dst := some 106, op := Go.Op.move (Go.Operand.tmp 10), type := 29, pos := "all.go:193", after := #[], guard := none }) (v := .int .i64 0) rfl (by kernel_rfl) (by kernel_rfl) (by kernel_rfl) (fun _ _ _ h => h) (Or.inl ⟨by rfl, fun w hSw => ?_⟩) hHeld ?_
            · obtain ⟨s0, s1⟩ := hSw; go_simp
            try simp only [Act.put, List.setIfInBounds_toArray, List.set_cons_zero, List.set_cons_succ]
            refine wpAnyH_take (i := 1) (oi := { dst := some 107, op := Go.Op.binOp Go.BinOp.eql 29 (Go.Operand.tmp 106) (Go.Operand.const (Go.Value.int Go.IntKind.i64 0)) 29, type := 4, pos := "all.go:193", after := #[{ on := 0, ground := Go.Ground.data }], guard := none }) (v := .bool true) rfl (by kernel_rfl) (by kernel_rfl) (by kernel_rfl) (fun _ _ _ h => h) (Or.inl ⟨by rfl, fun w hSw => ?_⟩) hHeld ?_
            · obtain ⟨s0, s1⟩ := hSw; go_simp
            try simp only [Act.put, List.setIfInBounds_toArray, List.set_cons_zero, List.set_cons_succ]
            refine wpAnyH_take (i := 2) (oi := { dst := some 108, op := Go.Op.move (Go.Operand.tmp 107), type := 4, pos := "all.go:193", after := #[{ on := 1, ground := Go.Ground.data }], guard := none }) (v := .bool true) rfl (by kernel_rfl) (by kernel_rfl) (by kernel_rfl) (fun _ _ _ h => h) (Or.inl ⟨by rfl, fun w hSw => ?_⟩) hHeld ?_
            · obtain ⟨s0, s1⟩ := hSw; go_simp
            try simp only [Act.put, List.setIfInBounds_toArray, List.set_cons_zero, List.set_cons_succ]
            refine wpAnyH_take (i := 3) (oi := { dst := some 109, op := Go.Op.load 24 (Go.Operand.tmp 12), type := 24, pos := "all.go:193", after := #[{ on := 2, ground := Go.Ground.guard }], guard := some (2, true) }) (v := .agg #[.bool yL.neg, .slice yL.a yL.n yL.cap]) rfl (by kernel_rfl) (by kernel_rfl) (by kernel_rfl) (fun _ _ _ h => h) (Or.inl ⟨by rfl, fun w hSw => ?_⟩) hHeld ?_
            · obtain ⟨s0, s1⟩ := hSw; go_simp
            try simp only [Act.put, List.setIfInBounds_toArray, List.set_cons_zero, List.set_cons_succ]
            refine wpAnyH_ready (rs := [4]) (by kernel_rfl) (by simp) ?_
            refine AllReadyH.cons (o := { dst := some 110, op := Go.Op.call { callee := Go.Callee.value (Go.Operand.func 40), args := #[Go.Operand.tmp 109], argTypes := #[24] }, type := 3, pos := "all.go:193", after := #[{ on := 3, ground := Go.Ground.data }, { on := 2, ground := Go.Ground.chain }, { on := 2, ground := Go.Ground.guard }], guard := some (2, true) }) rfl (fun K hK => ?_) AllReadyH.nil
            go_simp
            refine (sign_int _ _ _ _ 560 zy _ ((unhide HIY).below (Below.refl _ _).drew)).mono ?_
            rintro r wk1 ⟨rfl, hg1⟩
            rw [tps]
            have hE1 : Below W4.heap.size W4 wk1 := bthen (Below.refl _ _).drew hg1
            go_wp2_with fail
            refine hK.out _ _ ⟨(D.Y.below hE1).c0, (D.Y.below hE1).c1⟩ (fun hHeld => ?_)
            clear hK K
            try simp only [Act.put, List.setIfInBounds_toArray, List.set_cons_zero, List.set_cons_succ]
            refine wpAnyH_take (i := 5) (oi := { dst := some 111, op := Go.Op.binOp Go.BinOp.gtr 3 (Go.Operand.tmp 110) (Go.Operand.const (Go.Value.int Go.IntKind.i64 0)) 3, type := 4, pos := "all.go:193", after := #[{ on := 4, ground := Go.Ground.data }, { on := 2, ground := Go.Ground.guard }], guard := some (2, true) }) (v := .bool false) rfl (by kernel_rfl) (by kernel_rfl) (by kernel_rfl) (fun _ _ _ h => h) (Or.inl ⟨by rfl, fun w hSw => ?_⟩) hHeld ?_
            · obtain ⟨s0, s1⟩ := hSw; go_simp
            try simp only [Act.put, List.setIfInBounds_toArray, List.set_cons_zero, List.set_cons_succ]
            refine wpAnyH_take (i := 6) (oi := { dst := some 112, op := Go.Op.pick (Go.Operand.tmp 108) (Go.Operand.tmp 111) (Go.Operand.const (Go.Value.bool false)), type := 4, pos := "all.go:193", after := #[{ on := 2, ground := Go.Ground.data }, { on := 5, ground := Go.Ground.data }], guard := none }) (v := .bool false) rfl (by kernel_rfl) (by kernel_rfl) (by kernel_rfl) (fun _ _ _ h => h) (Or.inl ⟨by rfl, fun w hSw => ?_⟩) hHeld ?_
            · obtain ⟨s0, s1⟩ := hSw; go_simp
            try simp only [Act.put, List.setIfInBounds_toArray, List.set_cons_zero, List.set_cons_succ]
            refine wpAnyH_take (i := 7) (oi := { dst := some 113, op := Go.Op.move (Go.Operand.tmp 112), type := 4, pos := "all.go:193", after := #[{ on := 6, ground := Go.Ground.data }, { on := 4, ground := Go.Ground.chain }], guard := none }) (v := .bool false) rfl (by kernel_rfl) (by kernel_rfl) (by kernel_rfl) (fun _ _ _ h => h) (Or.inl ⟨by rfl, fun w hSw => ?_⟩) hHeld ?_
            · obtain ⟨s0, s1⟩ := hSw; go_simp
            try simp only [Act.put, List.setIfInBounds_toArray, List.set_cons_zero, List.set_cons_succ]
            refine wpAnyH_take (i := 8) (oi := { dst := some 114, op := Go.Op.move (Go.Operand.tmp 13), type := 61, pos := "all.go:193", after := #[{ on := 7, ground := Go.Ground.guard }], guard := some (7, true) }) (v := undef) rfl (by kernel_rfl) (by kernel_rfl) (by kernel_rfl) (fun _ _ _ h => h) (Or.inr ⟨by rfl, rfl⟩) hHeld ?_
            try simp only [Act.put, List.setIfInBounds_toArray, List.set_cons_zero, List.set_cons_succ]
            refine wpAnyH_take (i := 9) (oi := { dst := some 115, op := Go.Op.fieldAddr 26 (Go.Operand.tmp 17) 0, type := 0, pos := "all.go:193", after := #[{ on := 7, ground := Go.Ground.guard }], guard := some (7, true) }) (v := undef) rfl (by kernel_rfl) (by kernel_rfl) (by kernel_rfl) (fun _ _ _ h => h) (Or.inr ⟨by rfl, rfl⟩) hHeld ?_
            try simp only [Act.put, List.setIfInBounds_toArray, List.set_cons_zero, List.set_cons_succ]
            refine wpAnyH_take (i := 10) (oi := { dst := some 116, op := Go.Op.load 24 (Go.Operand.tmp 115), type := 24, pos := "all.go:193", after := #[{ on := 9, ground := Go.Ground.data }, { on := 7, ground := Go.Ground.guard }], guard := some (7, true) }) (v := undef) rfl (by kernel_rfl) (by kernel_rfl) (by kernel_rfl) (fun _ _ _ h => h) (Or.inr ⟨by rfl, rfl⟩) hHeld ?_
            try simp only [Act.put, List.setIfInBounds_toArray, List.set_cons_zero, List.set_cons_succ]
            refine wpAnyH_take (i := 11) (oi := { dst := some 117, op := Go.Op.load 24 (Go.Operand.tmp 12), type := 24, pos := "all.go:193", after := #[{ on := 7, ground := Go.Ground.guard }], guard := some (7, true) }) (v := undef) rfl (by kernel_rfl) (by kernel_rfl) (by kernel_rfl) (fun _ _ _ h => h) (Or.inr ⟨by rfl, rfl⟩) hHeld ?_
            try simp only [Act.put, List.setIfInBounds_toArray, List.set_cons_zero, List.set_cons_succ]
            refine wpAnyH_take (i := 12) (oi := { dst := some 118, op := Go.Op.call { callee := Go.Callee.value (Go.Operand.func 52), args := #[Go.Operand.tmp 116, Go.Operand.tmp 117], argTypes := #[24, 24] }, type := 24, pos := "all.go:193", after := #[{ on := 10, ground := Go.Ground.data }, { on := 11, ground := Go.Ground.data }, { on := 7, ground := Go.Ground.chain }, { on := 7, ground := Go.Ground.guard }], guard := some (7, true) }) (v := undef) rfl (by kernel_rfl) (by kernel_rfl) (by kernel_rfl) (fun _ _ _ h => h) (Or.inr ⟨by rfl, rfl⟩) hHeld ?_
            try simp only [Act.put, List.setIfInBounds_toArray, List.set_cons_zero, List.set_cons_succ]
            refine wpAnyH_take (i := 13) (oi := { dst := some 119, op := Go.Op.fieldAddr 26 (Go.Operand.tmp 17) 1, type := 0, pos := "all.go:193", after := #[{ on := 7, ground := Go.Ground.guard }], guard := some (7, true) }) (v := undef) rfl (by kernel_rfl) (by kernel_rfl) (by kernel_rfl) (fun _ _ _ h => h) (Or.inr ⟨by rfl, rfl⟩) hHeld ?_
            try simp only [Act.put, List.setIfInBounds_toArray, List.set_cons_zero, List.set_cons_succ]
            refine wpAnyH_take (i := 14) (oi := { dst := some 120, op := Go.Op.load 24 (Go.Operand.tmp 119), type := 24, pos := "all.go:193", after := #[{ on := 13, ground := Go.Ground.data }, { on := 7, ground := Go.Ground.guard }], guard := some (7, true) }) (v := undef) rfl (by kernel_rfl) (by kernel_rfl) (by kernel_rfl) (fun _ _ _ h => h) (Or.inr ⟨by rfl, rfl⟩) hHeld ?_
            try simp only [Act.put, List.setIfInBounds_toArray, List.set_cons_zero, List.set_cons_succ]
            refine wpAnyH_take (i := 15) (oi := { dst := some 121, op := Go.Op.load 24 (Go.Operand.tmp 12), type := 24, pos := "all.go:193", after := #[{ on := 7, ground := Go.Ground.guard }], guard := some (7, true) }) (v := undef) rfl (by kernel_rfl) (by kernel_rfl) (by kernel_rfl) (fun _ _ _ h => h) (Or.inr ⟨by rfl, rfl⟩) hHeld ?_
            try simp only [Act.put, List.setIfInBounds_toArray, List.set_cons_zero, List.set_cons_succ]
            refine wpAnyH_take (i := 16) (oi := { dst := some 122, op := Go.Op.call { callee := Go.Callee.value (Go.Operand.func 52), args := #[Go.Operand.tmp 120, Go.Operand.tmp 121], argTypes := #[24, 24] }, type := 24, pos := "all.go:193", after := #[{ on := 14, ground := Go.Ground.data }, { on := 15, ground := Go.Ground.data }, { on := 12, ground := Go.Ground.chain }, { on := 7, ground := Go.Ground.guard }], guard := some (7, true) }) (v := undef) rfl (by kernel_rfl) (by kernel_rfl) (by kernel_rfl) (fun _ _ _ h => h) (Or.inr ⟨by rfl, rfl⟩) hHeld ?_
            try simp only [Act.put, List.setIfInBounds_toArray, List.set_cons_zero, List.set_cons_succ]
            refine wpAnyH_take (i := 17) (oi := { dst := some 123, op := Go.Op.load 24 (Go.Operand.tmp 11), type := 24, pos := "all.go:193", after := #[{ on := 7, ground := Go.Ground.guard }], guard := some (7, true) }) (v := undef) rfl (by kernel_rfl) (by kernel_rfl) (by kernel_rfl) (fun _ _ _ h => h) (Or.inr ⟨by rfl, rfl⟩) hHeld ?_
            try simp only [Act.put, List.setIfInBounds_toArray, List.set_cons_zero, List.set_cons_succ]
            refine wpAnyH_take (i := 18) (oi := { dst := some 124, op := Go.Op.load 24 (Go.Operand.tmp 15), type := 24, pos := "all.go:193", after := #[{ on := 7, ground := Go.Ground.guard }], guard := some (7, true) }) (v := undef) rfl (by kernel_rfl) (by kernel_rfl) (by kernel_rfl) (fun _ _ _ h => h) (Or.inr ⟨by rfl, rfl⟩) hHeld ?_
            try simp only [Act.put, List.setIfInBounds_toArray, List.set_cons_zero, List.set_cons_succ]
            refine wpAnyH_take (i := 19) (oi := { dst := some 125, op := Go.Op.call { callee := Go.Callee.value (Go.Operand.func 52), args := #[Go.Operand.tmp 123, Go.Operand.tmp 124], argTypes := #[24, 24] }, type := 24, pos := "all.go:193", after := #[{ on := 17, ground := Go.Ground.data }, { on := 18, ground := Go.Ground.data }, { on := 16, ground := Go.Ground.chain }, { on := 7, ground := Go.Ground.guard }], guard := some (7, true) }) (v := undef) rfl (by kernel_rfl) (by kernel_rfl) (by kernel_rfl) (fun _ _ _ h => h) (Or.inr ⟨by rfl, rfl⟩) hHeld ?_
            try simp only [Act.put, List.setIfInBounds_toArray, List.set_cons_zero, List.set_cons_succ]
            refine wpAnyH_take (i := 20) (oi := { dst := some 126, op := Go.Op.call { callee := Go.Callee.value (Go.Operand.tmp 114), args := #[Go.Operand.tmp 118, Go.Operand.tmp 122, Go.Operand.tmp 125], argTypes := #[24, 24, 24] }, type := 4, pos := "all.go:193", after := #[{ on := 8, ground := Go.Ground.data }, { on := 12, ground := Go.Ground.data }, { on := 16, ground := Go.Ground.data }, { on := 19, ground := Go.Ground.data }, { on := 19, ground := Go.Ground.chain }, { on := 7, ground := Go.Ground.guard }], guard := some (7, true) }) (v := undef) rfl (by kernel_rfl) (by kernel_rfl) (by kernel_rfl) (fun _ _ _ h => h) (Or.inr ⟨by rfl, rfl⟩) hHeld ?_
            try simp only [Act.put, List.setIfInBounds_toArray, List.set_cons_zero, List.set_cons_succ]
            refine wpAnyH_take (i := 21) (oi := { dst := some 127, op := Go.Op.unOp Go.UnOp.not 4 (Go.Operand.tmp 126), type := 4, pos := "all.go:193", after := #[{ on := 20, ground := Go.Ground.data }, { on := 7, ground := Go.Ground.guard }], guard := some (7, true) }) (v := undef) rfl (by kernel_rfl) (by kernel_rfl) (by kernel_rfl) (fun _ _ _ h => h) (Or.inr ⟨by rfl, rfl⟩) hHeld ?_
            try simp only [Act.put, List.setIfInBounds_toArray, List.set_cons_zero, List.set_cons_succ]
            refine wpAnyH_take (i := 22) (oi := { dst := some 128, op := Go.Op.pick (Go.Operand.tmp 113) (Go.Operand.tmp 127) (Go.Operand.const (Go.Value.bool false)), type := 4, pos := "all.go:193", after := #[{ on := 7, ground := Go.Ground.data }, { on := 21, ground := Go.Ground.data }], guard := none }) (v := .bool false) rfl (by kernel_rfl) (by kernel_rfl) (by kernel_rfl) (fun _ _ _ h => h) (Or.inl ⟨by rfl, fun w hSw => ?_⟩) hHeld ?_
            · obtain ⟨s0, s1⟩ := hSw; go_simp
            try simp only [Act.put, List.setIfInBounds_toArray, List.set_cons_zero, List.set_cons_succ]
            refine wpAnyH_done (by kernel_rfl) ?_ _
            go_wp2_with fail
            go_meet
            exact ⟨rfl, by rw [unhide HER0], hE1⟩
      · rw [her]
        have HER0 := hide her
        clear her HER4
        go_quiet (fail)
        go_wp2_with fail
        go_meet
        exact ⟨rfl, by rw [unhide HER0], below_drewN (Below.refl _ _) _⟩
      · rw [her]
        have HER0 := hide her
        clear her HER4
        go_quiet (fail)
        go_wp2_with fail
        go_meet
        exact ⟨rfl, by rw [unhide HER0], below_drewN (Below.refl _ _) _⟩
    case rest =>
    obtain ⟨rfl, rfl, hbl⟩ := hcut
    replace D := D.below hbl
    replace P := P.below hbl
    replace HIP := hide ((unhide HIP).below hbl)
    clear hbl HK lU lX lY HIX HIY HUL HUH v0 v1 v2 v3 x0 x1 y0 y1 z0 z1 U4 hup4 HEC4
    clear HER4
    have lp := D.A.lt
    obtain ⟨p0, p1, p2, p3, p4⟩ := D.A
    go_wp2_with fail
    refine (saidRootA s d e _ D.ds).mono ?_
    rintro r w5 ⟨u5, rfl, hub5, hup5, hb5⟩
    replace D := D.below hb5
    replace P := P.below hb5
    replace HIP := hide ((unhide HIP).below hb5)
    clear hub5 hb5 lp p0 p1 p2 p3 p4
    obtain ⟨W5, hW5⟩ : ∃ W', W' = w5.alloc (.cells #[.bool u5.ln, .slice u5.la u5.lN u5.lc, .bool u5.hn, .slice u5.ha u5.hN u5.hc, .int .i64 u5.bits] 26) := ⟨_, rfl⟩
    have hc5 : Below w5.heap.size w5 W5 := by rw [hW5]; exact bl1 _ _
    have U5 : SpC W5 w5.heap.size u5 := by rw [hW5]; exact spc_new _ _ _
    go_upto_region 21 with fail
    rw [← hW5]
    clear hW5
    replace D := D.below hc5
    replace P := P.below hc5
    replace HIP := hide ((unhide HIP).below hc5)
    replace hup5 := hup5.below hc5
    clear hc5
    obtain ⟨er5, hq5⟩ : ∃ x, x = (anE (chkE s d e) (rtG (loZ s d)) (rtZ ((loZ s d) * Q s.bits.toNat)) (rtU ((hiZ s e) * Q s.bits.toNat))) := ⟨_, rfl⟩
    rw [← hq5]
    have HEC5 : er5 = 0 ∨ er5 = 2 ∨ er5 = 5 := by rw [hq5]; exact an_vals (unhide HCE) (by unfold rtG; split <;> omega)
    have HER5 : er5 = 0 → (anV (chkE s d e) (rtG (loZ s d)) (rtZ ((loZ s d) * Q s.bits.toNat)) (rtU ((hiZ s e) * Q s.bits.toNat)) (rtZ ((loZ s d) * Q s.bits.toNat))) * (anV (chkE s d e) (rtG (loZ s d)) (rtZ ((loZ s d) * Q s.bits.toNat)) (rtU ((hiZ s e) * Q s.bits.toNat)) (rtZ ((loZ s d) * Q s.bits.toNat))) ≤ zx * Q s.bits.toNat ∧ zx * Q s.bits.toNat ≤ (anV (chkE s d e) (rtG (loZ s d)) (rtZ ((loZ s d) * Q s.bits.toNat)) (rtU ((hiZ s e) * Q s.bits.toNat)) (rtU ((hiZ s e) * Q s.bits.toNat))) * (anV (chkE s d e) (rtG (loZ s d)) (rtZ ((loZ s d) * Q s.bits.toNat)) (rtU ((hiZ s e) * Q s.bits.toNat)) (rtU ((hiZ s e) * Q s.bits.toNat))) := by
      intro h0
      rw [hq5] at h0
      obtain ⟨a1, a2, a3, a4⟩ := an_ok h0
      rw [a4, a4]
      have h9 := unhide HZ
      have hn : ¬ (loZ s d) < 0 := by
        intro h8
        have : rtG (loZ s d) = 5 := if_pos h8
        omega
      have hq9 := Q_pos s.bits.toNat
      have g1 := (rtZ_sq (x := (loZ s d) * Q s.bits.toNat) (Int.mul_nonneg (by omega) (by omega))).1
      have g2 := rtU_sq (x := (hiZ s e) * Q s.bits.toNat) (Int.mul_nonneg (by omega) (by omega))
      have g3 : (loZ s d) * Q s.bits.toNat ≤ zx * Q s.bits.toNat := Int.mul_le_mul_of_nonneg_right h9.1.1 (by omega)
      have g4 : zx * Q s.bits.toNat ≤ (hiZ s e) * Q s.bits.toNat := Int.mul_le_mul_of_nonneg_right h9.1.2 (by omega)
      exact ⟨by omega, by omega⟩
    clear hq5
    have HK := hide (show ∀ w', Below W5.heap.size W5 w' → (w'.cell? ⟨w5.heap.size, 0, none⟩ = some (.bool u5.ln) ∧ w'.cell? ⟨w5.heap.size, 1, none⟩ = some (.slice u5.la u5.lN u5.lc) ∧ w'.cell? ⟨w5.heap.size, 2, none⟩ = some (.bool u5.hn) ∧ w'.cell? ⟨w5.heap.size, 3, none⟩ = some (.slice u5.ha u5.hN u5.hc) ∧ w'.cell? ⟨BL, 0, none⟩ = some (.bool xL.neg) ∧ w'.cell? ⟨BL, 1, none⟩ = some (.slice xL.a xL.n xL.cap) ∧ w'.cell? ⟨CL, 0, none⟩ = some (.bool yL.neg) ∧ w'.cell? ⟨CL, 1, none⟩ = some (.slice yL.a yL.n yL.cap) ∧ w'.cell? ⟨B15, 0, none⟩ = some (.bool pw.neg) ∧ w'.cell? ⟨B15, 1, none⟩ = some (.slice pw.a pw.n pw.cap)) from fun w' hB => ⟨(U5.below hB).c0, (U5.below hB).c1, (U5.below hB).c2, (U5.below hB).c3, (D.X.below hB).c0, (D.X.below hB).c1, (D.Y.below hB).c0, (D.Y.below hB).c1, (P.below hB).c0, (P.below hB).c1⟩)
    have lU := U5.lt
    have lX := D.X.lt
    have lY := D.Y.lt
    have HIX := hide D.ix
    have HIY := hide D.iy
    have HUL := hide hup5.lo
    have HUH := hide hup5.hi
    obtain ⟨v0, v1, v2, v3, x0, x1, y0, y1, z0, z1⟩ := unhide HK _ (Below.refl _ _)
    go_cut [8, 10] (fun p q wx => p = .bool true ∧ q = .int .i64 er5 ∧ Below W5.heap.size W5 wx)
    case first =>
      as_aux_lemma =>
      rcases HEC5 with her | her | her
      · have HIN := hide (HER5 her)
        rw [her]
        have HER0 := hide her
        clear her HER5
        go_region_held3 (fun w' => w'.cell? ⟨w5.heap.size, 0, none⟩ = some (.bool u5.ln) ∧ w'.cell? ⟨w5.heap.size, 1, none⟩ = some (.slice u5.la u5.lN u5.lc) ∧ w'.cell? ⟨w5.heap.size, 2, none⟩ = some (.bool u5.hn) ∧ w'.cell? ⟨w5.heap.size, 3, none⟩ = some (.slice u5.ha u5.hN u5.hc) ∧ w'.cell? ⟨BL, 0, none⟩ = some (.bool xL.neg) ∧ w'.cell? ⟨BL, 1, none⟩ = some (.slice xL.a xL.n xL.cap) ∧ w'.cell? ⟨CL, 0, none⟩ = some (.bool yL.neg) ∧ w'.cell? ⟨CL, 1, none⟩ = some (.slice yL.a yL.n yL.cap) ∧ w'.cell? ⟨B15, 0, none⟩ = some (.bool pw.neg) ∧ w'.cell? ⟨B15, 1, none⟩ = some (.slice pw.a pw.n pw.cap)) (exact unhide HK _ (by first | with_reducible exact hE4 | with_reducible exact hE3 | with_reducible exact hE2 | with_reducible exact hE1 | with_reducible exact (Below.refl _ _).drew | with_reducible exact Below.refl _ _))
          (first
          | (go_at_call 48; have hq := hE3; refine (holds1 _ ⟨neg1, a1, n1, c1⟩ ⟨neg2, a2, n2, c2⟩ ⟨neg3, a3, n3, c3⟩ _ _ _ _ _ _ hint1 hint2 hint3 (unhide HIN).1 (unhide HIN).2).mono ?_; rintro r wk4 ⟨rfl, hg4⟩; have hE4 := bthen hE3 hg4; replace hint1 := hint1.below hg4; replace hint2 := hint2.below hg4; replace hint3 := hint3.below hg4)
          | (go_at_call 52; have hq := hE2; refine (mul_int _ _ _ _ _ _ _ _ 560 20 zx (Q s.bits.toNat) _ ((unhide HIX).below hE2) ((unhide HIP).below hE2) (by omega) (by omega)).mono ?_; rintro r wk3 ⟨neg3, a3, n3, c3, rfl, hint3, hg3⟩; have hE3 := bthen hE2 hg3; replace hint1 := hint1.below hg3; replace hint2 := hint2.below hg3)
          | (go_at_call 52; have hq := hE1; refine (mul_int _ _ _ _ _ _ _ _ 600 600 (anV (chkE s d e) (rtG (loZ s d)) (rtZ ((loZ s d) * Q s.bits.toNat)) (rtU ((hiZ s e) * Q s.bits.toNat)) (rtU ((hiZ s e) * Q s.bits.toNat))) (anV (chkE s d e) (rtG (loZ s d)) (rtZ ((loZ s d) * Q s.bits.toNat)) (rtU ((hiZ s e) * Q s.bits.toNat)) (rtU ((hiZ s e) * Q s.bits.toNat))) _ ((unhide HUH).below hE1) ((unhide HUH).below hE1) (by omega) (by omega)).mono ?_; rintro r wk2 ⟨neg2, a2, n2, c2, rfl, hint2, hg2⟩; have hE2 := bthen hE1 hg2; replace hint1 := hint1.below hg2)
          | (go_at_call 52; refine (mul_int _ _ _ _ _ _ _ _ 600 600 (anV (chkE s d e) (rtG (loZ s d)) (rtZ ((loZ s d) * Q s.bits.toNat)) (rtU ((hiZ s e) * Q s.bits.toNat)) (rtZ ((loZ s d) * Q s.bits.toNat))) (anV (chkE s d e) (rtG (loZ s d)) (rtZ ((loZ s d) * Q s.bits.toNat)) (rtU ((hiZ s e) * Q s.bits.toNat)) (rtZ ((loZ s d) * Q s.bits.toNat))) _ ((unhide HUL).below (by first | with_reducible exact (Below.refl _ _).drew | with_reducible exact Below.refl _ _)) ((unhide HUL).below (by first | with_reducible exact (Below.refl _ _).drew | with_reducible exact Below.refl _ _)) (by omega) (by omega)).mono ?_; rintro r wk1 ⟨neg1, a1, n1, c1, rfl, hint1, hg1⟩; have hE1 : Below W5.heap.size W5 wk1 := (by first | with_reducible exact bthen (Below.refl _ _).drew hg1 | with_reducible exact hg1)))
        all_goals
          go_wp2_with fail
          go_meet
          exact ⟨rfl, by rw [unhide HER0], hE4⟩
      · rw [her]
        have HER0 := hide her
        clear her HER5
        go_quiet (fail)
        go_wp2_with fail
        go_meet
        exact ⟨rfl, by rw [unhide HER0], below_drewN (Below.refl _ _) _⟩
      · rw [her]
        have HER0 := hide her
        clear her HER5
        go_quiet (fail)
        go_wp2_with fail
        go_meet
        exact ⟨rfl, by rw [unhide HER0], below_drewN (Below.refl _ _) _⟩
    case rest =>
    obtain ⟨rfl, rfl, hbl⟩ := hcut
    replace D := D.below hbl
    replace P := P.below hbl
    replace HIP := hide ((unhide HIP).below hbl)
    clear hbl HK lU lX lY HIX HIY HUL HUH v0 v1 v2 v3 x0 x1 y0 y1 z0 z1 U5 hup5 HEC5
    go_wp2_with fail
    go_ret
    exact ⟨rfl, D.hB⟩
  · have hEb : ((fltE2 (chkE s d e) (chkE t d' e') s.bits t.bits) != 0) = true := by simpa using hE
    have h9 := (an_bad (g := 0) (L := ((loZ s d) + (loZ t d'))) (H := ((hiZ s e) + (hiZ t e'))) hE).1
    have her : (er1 != 0) = true := by rw [unhide HQ1, h9]; exact hEb
    clear h9 hE HQ1
    go_wp2_with fail
    go_ret
    exact ⟨by simp [*], hBW⟩
end Go.Proofs.Ytgmnknmjainabaa
