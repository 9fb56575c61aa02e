/-
  What tailsureref.Over answers of right spans, the second one more than 0, and that it leaves old memory alone.
  What tailsureref.Over answers of right spans, the second one less than 0; and both ways together; and that it leaves old memory alone.
  What wide.Div answers of right spans, the second one less than 0; and both ways together; and that it leaves old memory alone.
  Whether two spans touch (tailsureref.Touch), and that it leaves old memory alone.
  What comes of being sure of a power or of a logarithm; tailsurelaw.powerBegun is true; tailsurelaw.touch.
-/
import Derived.Test.YtgmnknmjainabaaK14
namespace Go.Proofs.Ytgmnknmjainabaa
set_option linter.unusedVariables false
set_option linter.unusedSimpArgs false
set_option linter.unnecessarySimpa false
open Go.RowKit
attribute [local go_sem ↓] Go.wp_at_zero Go.wp_at_succ

/-- The ends of the quotients of what is from l to h over what is from p to q, p more than 0. -/
def ovLo (l h p q : Int) : Int := if l < 0 then l / p else l / q
def ovHi (l h p q : Int) : Int := if h < 0 then -(-h / q) else -(-h / p)

/-- What stands of tailsureref.Over behind its variables l, h (at BL, CL) and lo, hi (at BM, CM). -/
structure OVs (w wr : World) (s t : Sp) (k k1 k2 BL CL BM CM : Nat) (xL yL xM yM : Nm) (lo' hi' l h m n : Int) : Prop where
  A : SpC wr w.heap.size s
  G : SpC wr (w.heap.size + 1) t
  R : NoC wr (w.heap.size + 1 + 1)
  XL : NmC wr BL xL
  YL : NmC wr CL yL
  XM : NmC wr BM xM
  YM : NmC wr CM yM
  il : IntAt wr xL.neg xL.a xL.n xL.cap k1 l
  ih : IntAt wr yL.neg yL.a yL.n yL.cap k1 h
  im : IntAt wr xM.neg xM.a xM.n xM.cap k2 m
  jn : IntAt wr yM.neg yM.a yM.n yM.cap k2 n
  ht : SpAt wr t k lo' hi'
  fM : ∀ o, wr.frozen? ⟨BM, o, none⟩ = false
  fN : ∀ o, wr.frozen? ⟨CM, o, none⟩ = false
  hB : Below w.heap.size w wr
/-- Its variables lie apart. -/
structure OVd (w : World) (BL CL BM CM : Nat) : Prop where
  m1 : w.heap.size ≠ BM
  m2 : w.heap.size + 1 ≠ BM
  m3 : w.heap.size + 1 + 1 ≠ BM
  m4 : BL ≠ BM
  m5 : CL ≠ BM
  n1 : w.heap.size ≠ CM
  n2 : w.heap.size + 1 ≠ CM
  n3 : w.heap.size + 1 + 1 ≠ CM
  n4 : BL ≠ CM
  n5 : CL ≠ CM
  mn : BM ≠ CM
  le : w.heap.size ≤ BM ∧ w.heap.size ≤ CM
variable {w wr w' : World} {s t : Sp} {k k1 k2 BL CL BM CM : Nat} {xL yL xM yM : Nm} {lo' hi' l h m n : Int}
theorem OVs.below (D : OVs w wr s t k k1 k2 BL CL BM CM xL yL xM yM lo' hi' l h m n) (hb : Below wr.heap.size wr w') : OVs w w' s t k k1 k2 BL CL BM CM xL yL xM yM lo' hi' l h m n :=
  ⟨D.A.below hb, D.G.below hb, D.R.below hb, D.XL.below hb, D.YL.below hb, D.XM.below hb, D.YM.below hb, D.il.below hb, D.ih.below hb, D.im.below hb, D.jn.below hb, D.ht.below hb, fun o => (hb.frozen (p := ⟨BM, o, none⟩) D.XM.lt).trans (D.fM o), fun o => (hb.frozen (p := ⟨CM, o, none⟩) D.YM.lt).trans (D.fN o), bthen D.hB hb⟩
theorem nm_put {w : World} {B : Nat} {y : Nm} (h : NmC w B y) (x : Nm) : NmC ((w.setCell ⟨B, 0, none⟩ (.bool x.neg)).setCell ⟨B, 1, none⟩ (.slice x.a x.n x.cap)) B x := by
  obtain ⟨q0, q1⟩ := h
  constructor <;> simp [go_sem, q0, q1]
theorem OVs.setM (D : OVs w wr s t k k1 k2 BL CL BM CM xL yL xM yM lo' hi' l h m n) (E : OVd w BL CL BM CM) (x : Nm) {z : Int} (hz : IntAt wr x.neg x.a x.n x.cap k2 z) :
    OVs w ((wr.setCell ⟨BM, 0, none⟩ (.bool x.neg)).setCell ⟨BM, 1, none⟩ (.slice x.a x.n x.cap)) s t k k1 k2 BL CL BM CM xL yL x yM lo' hi' l h z n := by
  have c0 := D.XM.c0
  have c1 := D.XM.c1
  exact ⟨D.A.put2 E.m1 _ _, D.G.put2 E.m2 _ _, D.R.put2 E.m3 _ _, D.XL.put2 E.m4 _ _, D.YL.put2 E.m5 _ _, nm_put D.XM x, D.YM.put2 (fun e => E.mn e.symm) _ _, D.il.put2 c0 c1 _ _, D.ih.put2 c0 c1 _ _, hz.put2 c0 c1 _ _, D.jn.put2 c0 c1 _ _, D.ht.put2 c0 c1 _ _, put_fz D.fM _ _, put_fz D.fN _ _, set2 D.hB E.le.1 _ _⟩
theorem OVs.setN (D : OVs w wr s t k k1 k2 BL CL BM CM xL yL xM yM lo' hi' l h m n) (E : OVd w BL CL BM CM) (x : Nm) {z : Int} (hz : IntAt wr x.neg x.a x.n x.cap k2 z) :
    OVs w ((wr.setCell ⟨CM, 0, none⟩ (.bool x.neg)).setCell ⟨CM, 1, none⟩ (.slice x.a x.n x.cap)) s t k k1 k2 BL CL BM CM xL yL xM x lo' hi' l h m z := by
  have c0 := D.YM.c0
  have c1 := D.YM.c1
  exact ⟨D.A.put2 E.n1 _ _, D.G.put2 E.n2 _ _, D.R.put2 E.n3 _ _, D.XL.put2 E.n4 _ _, D.YL.put2 E.n5 _ _, D.XM.put2 E.mn _ _, nm_put D.YM x, D.il.put2 c0 c1 _ _, D.ih.put2 c0 c1 _ _, D.im.put2 c0 c1 _ _, hz.put2 c0 c1 _ _, D.ht.put2 c0 c1 _ _, put_fz D.fM _ _, put_fz D.fN _ _, set2 D.hB E.le.2 _ _⟩

set_option maxRecDepth 100000 in
set_option maxHeartbeats 8000000 in
theorem refOver_pos (w : World) (s t : Sp) (k b : Nat) (lo hi lo' hi' : Int) (hs : SpAt w s k lo hi) (ht : SpAt w t k lo' hi') (hk : k ≤ 50000000) (hb : b ≤ 1000000) (hbits : s.bits = b) (hp : 0 < lo') (hp2 : lo' ≤ hi') :
    Calls Try.prog 43 #[.agg #[.bool s.ln, .slice s.la s.lN s.lc, .bool s.hn, .slice s.ha s.hN s.hc, .int .i64 s.bits], .agg #[.bool t.ln, .slice t.la t.lN t.lc, .bool t.hn, .slice t.ha t.hN t.hc, .int .i64 t.bits]] w (SpanAns w b (k + b / 16 + 20) (ovLo (lo * Q b) (hi * Q b) lo' hi') (ovHi (lo * Q b) (hi * Q b) lo' hi')) := by
  have HBT := hide hbits
  have t1 : ¬ cmpInt hi' 0 < 0 := by unfold cmpInt; rw [if_neg (by omega)]; split <;> omega
  clear hbits
  obtain ⟨W, hW⟩ : ∃ W, W = ((w.alloc (.cells #[.bool s.ln, .slice s.la s.lN s.lc, .bool s.hn, .slice s.ha s.hN s.hc, .int .i64 s.bits] 38)).alloc (.cells #[.bool t.ln, .slice t.la t.lN t.lc, .bool t.hn, .slice t.ha t.hN t.hc, .int .i64 t.bits] 38)).alloc (.cells #[.bool false, .slice none 0 0, .bool false, .slice none 0 0, .int .i64 0] 38) := ⟨_, rfl⟩
  have hBW : Below w.heap.size w W := by rw [hW]; exact bl3 _ _ _ _
  have A : SpC W w.heap.size s := by rw [hW]; exact ⟨by simp [go_sem], by simp [go_sem], by simp [go_sem], by simp [go_sem], by simp [go_sem]⟩
  have G : SpC W (w.heap.size + 1) t := by rw [hW]; exact ⟨by simp [go_sem], by simp [go_sem], by simp [go_sem], by simp [go_sem], by simp [go_sem]⟩
  have R : NoC W (w.heap.size + 1 + 1) := by rw [hW]; exact ⟨by simp [go_sem], by simp [go_sem], by simp [go_sem], by simp [go_sem], by simp [go_sem], fun o => by simp [go_sem]⟩
  replace hs := hide (hs.below hBW)
  replace ht := hide (ht.below hBW)
  go_enter Try.func43, Try.ntmps43
  go_wp2_with fail
  rw [← hW]
  clear hW
  refine (sign_int _ _ _ _ k hi' _ (unhide ht).hi).mono ?_
  rintro r w0 ⟨rfl, hb0⟩
  replace hBW := bthen hBW hb0
  replace A := A.below hb0
  replace G := G.below hb0
  replace R := R.below hb0
  replace hs := hide ((unhide hs).below hb0)
  replace ht := hide ((unhide ht).below hb0)
  clear hb0
  have lA := A.lt
  obtain ⟨x0, x1, x2, x3, x4⟩ := A
  have A : SpC w0 w.heap.size s := ⟨x0, x1, x2, x3, x4⟩
  go_wp2_with fail
  clear x0 x1 x2 x3 x4 lA
  rw [unhide HBT]
  refine (power2_int b _ (by omega)).mono ?_
  rintro r w1 ⟨neg1, a1, n1, c1, rfl, hint1, hb1⟩
  replace hBW := bthen hBW hb1
  replace A := A.below hb1
  replace G := G.below hb1
  replace R := R.below hb1
  replace hs := hide ((unhide hs).below hb1)
  replace ht := hide ((unhide ht).below hb1)
  clear hb1
  obtain ⟨W1, hW1⟩ : ∃ W', W' = w1.alloc (.cells #[.bool neg1, .slice a1 n1 c1] 24) := ⟨_, rfl⟩
  have hc1 : Below w1.heap.size w1 W1 := by rw [hW1]; exact bl1 _ _
  have X1 : NmC W1 w1.heap.size ⟨neg1, a1, n1, c1⟩ := by rw [hW1]; exact nmc_new w1 ⟨neg1, a1, n1, c1⟩ _
  replace hBW := bthen hBW hc1
  replace A := A.below hc1
  replace G := G.below hc1
  replace R := R.below hc1
  replace hs := hide ((unhide hs).below hc1)
  replace ht := hide ((unhide ht).below hc1)
  replace hint1 := hide (hint1.below hc1)
  have lA := A.lt
  have lX := X1.lt
  have lR1 := R.lt
  have hBW0 := hBW
  have HK := hide (show ∀ w', Below W1.heap.size W1 w' → (w'.cell? ⟨w.heap.size, 0, none⟩ = some (.bool s.ln) ∧ w'.cell? ⟨w.heap.size, 1, none⟩ = some (.slice s.la s.lN s.lc) ∧ w'.cell? ⟨w.heap.size, 2, none⟩ = some (.bool s.hn) ∧ w'.cell? ⟨w.heap.size, 3, none⟩ = some (.slice s.ha s.hN s.hc) ∧ w'.cell? ⟨w1.heap.size, 0, none⟩ = some (.bool neg1) ∧ w'.cell? ⟨w1.heap.size, 1, none⟩ = some (.slice a1 n1 c1)) from fun w' hB => ⟨(A.below hB).c0, (A.below hB).c1, (A.below hB).c2, (A.below hB).c3, (X1.below hB).c0, (X1.below hB).c1⟩)
  obtain ⟨x0, x1, x2, x3, z0, z1⟩ := unhide HK _ (Below.refl _ _)
  go_wp2_with fail
  rw [← hW1]
  clear hW1
  go_cut [6, 7] (fun p q wx => TwoV W1 wx (k + b / 16 + 5) (k + b / 16 + 5) (lo * Q b) (hi * Q b) p q)
  case first =>
    go_region_held3 (fun w' => w'.cell? ⟨w.heap.size, 0, none⟩ = some (.bool s.ln) ∧ w'.cell? ⟨w.heap.size, 1, none⟩ = some (.slice s.la s.lN s.lc) ∧ w'.cell? ⟨w.heap.size, 2, none⟩ = some (.bool s.hn) ∧ w'.cell? ⟨w.heap.size, 3, none⟩ = some (.slice s.ha s.hN s.hc) ∧ w'.cell? ⟨w1.heap.size, 0, none⟩ = some (.bool neg1) ∧ w'.cell? ⟨w1.heap.size, 1, none⟩ = some (.slice a1 n1 c1)) (exact unhide HK _ (by repeat' (first | with_reducible exact hBL2 | with_reducible exact hBL1 | with_reducible exact Below.refl _ _ | with_reducible refine Below.drew ?_ | with_reducible refine balloc ?_ _ | with_reducible refine Below.setCell ?_ (by first | with_reducible exact Nat.le_refl _ | with_reducible exact Nat.le_succ _ | with_reducible exact hlL1 | with_reducible exact Nat.le_succ_of_le hlL1 | with_reducible exact hlL2 | with_reducible exact Nat.le_succ_of_le hlL2) _)))
      (first
        | (go_at_call 52; have hq := hBL1; refine (mul_int _ _ _ _ _ _ _ _ k (b / 16 + 5) hi (Q b) _ ((unhide hs).hi.below (by repeat' (first | with_reducible exact hBL1 | with_reducible exact Below.refl _ _ | with_reducible refine Below.drew ?_ | with_reducible refine balloc ?_ _))) ((unhide hint1).below (by repeat' (first | with_reducible exact hBL1 | with_reducible exact Below.refl _ _ | with_reducible refine Below.drew ?_ | with_reducible refine balloc ?_ _))) (by omega) (by omega)).mono ?_; rintro r wL2 ⟨negL2, aL2, nL2, cL2, rfl, hintL2, hbL2⟩; have hCL2 : Below wL1.heap.size wL1 wL2 := (by first | with_reducible exact hbL2 | with_reducible exact bthen (bl1 _ _) hbL2 | with_reducible exact bthen (bl2 _ _ _) hbL2); have hBL2 := bthen hBL1 hCL2; (first | with_reducible have gaL2 := (noi_new wL1 24).below hbL2 | with_reducible have gaL2 := ((noi_new wL1 24).below (bl1 _ _)).below hbL2 | skip); (try with_reducible have gbL2 := (noi_new' (wL1.alloc _) (wL1.heap.size + 1) (hs1 _ _) 24).below hbL2); replace hintL1 := hintL1.below hCL2; (try have maL1 := gaL1.lt); (try have mbL1 := gbL1.lt); (try replace gaL1 := gaL1.below hCL2); (try replace gbL1 := gbL1.below hCL2); have hlL2 := hBL2.size; (try have eaL1 := gaL1); (try obtain ⟨zaL10, zaL11, zaL12⟩ := eaL1); (try have yaL1 := gaL1.lt); (try have ebL1 := gbL1); (try obtain ⟨zbL10, zbL11, zbL12⟩ := ebL1); (try have ybL1 := gbL1.lt); (try have eaL2 := gaL2); (try obtain ⟨zaL20, zaL21, zaL22⟩ := eaL2); (try have yaL2 := gaL2.lt); (try have ebL2 := gbL2); (try obtain ⟨zbL20, zbL21, zbL22⟩ := ebL2); (try have ybL2 := gbL2.lt))
        | (go_at_call 52; refine (mul_int _ _ _ _ _ _ _ _ k (b / 16 + 5) lo (Q b) _ ((unhide hs).lo.below (by repeat' (first | with_reducible exact Below.refl _ _ | with_reducible refine Below.drew ?_ | with_reducible refine balloc ?_ _))) ((unhide hint1).below (by repeat' (first | with_reducible exact Below.refl _ _ | with_reducible refine Below.drew ?_ | with_reducible refine balloc ?_ _))) (by omega) (by omega)).mono ?_; rintro r wL1 ⟨negL1, aL1, nL1, cL1, rfl, hintL1, hbL1⟩; have hBL1 : Below W1.heap.size W1 wL1 := (by first | with_reducible exact bthen (Below.refl _ _).drew hbL1 | with_reducible exact bthen (bl1 _ _).drew hbL1 | with_reducible exact bthen (bl2 _ _ _).drew hbL1); (first | with_reducible have gaL1 := ((noi_new W1 24).below (Below.refl _ _).drew).below hbL1 | with_reducible have gaL1 := ((noi_new W1 24).below (bl1 _ _).drew).below hbL1 | skip); (try with_reducible have gbL1 := ((noi_new' (W1.alloc _) (W1.heap.size + 1) (hs1 _ _) 24).below (Below.refl _ _).drew).below hbL1); have hlL1 := hBL1.size))
    all_goals
      go_wp2_with fail
      go_meet
      first
        | with_reducible exact two_aa (x := (Nm.mk negL1 aL1 nL1 cL1)) (y := (Nm.mk negL2 aL2 nL2 cL2)) hBL2 (IntAt.mono hintL1 (by omega)) (IntAt.mono hintL2 (by omega))
        | with_reducible exact two_aa' (x := (Nm.mk negL1 aL1 nL1 cL1)) (y := (Nm.mk negL2 aL2 nL2 cL2)) hBL2 (IntAt.mono hintL1 (by omega)) (IntAt.mono hintL2 (by omega))
        | with_reducible exact two_sa (x := (Nm.mk negL1 aL1 nL1 cL1)) (y := (Nm.mk negL2 aL2 nL2 cL2)) hBL2 (IntAt.mono hintL1 (by omega)) (IntAt.mono hintL2 (by omega)) (by assumption) (by first | with_reducible exact Nat.le_refl _ | with_reducible exact Nat.le_succ _ | with_reducible exact hlL1 | with_reducible exact Nat.le_succ_of_le hlL1 | with_reducible exact hlL2 | with_reducible exact Nat.le_succ_of_le hlL2)
        | with_reducible exact two_as (x := (Nm.mk negL1 aL1 nL1 cL1)) (y := (Nm.mk negL2 aL2 nL2 cL2)) hBL2 (IntAt.mono hintL1 (by omega)) (IntAt.mono hintL2 (by omega)) (by assumption) (by first | with_reducible exact Nat.le_refl _ | with_reducible exact Nat.le_succ _ | with_reducible exact hlL1 | with_reducible exact Nat.le_succ_of_le hlL1 | with_reducible exact hlL2 | with_reducible exact Nat.le_succ_of_le hlL2)
        | with_reducible exact two_ss (x := (Nm.mk negL1 aL1 nL1 cL1)) (y := (Nm.mk negL2 aL2 nL2 cL2)) hBL2 (IntAt.mono hintL1 (by omega)) (IntAt.mono hintL2 (by omega)) (by assumption) (by assumption) (by first | with_reducible exact Nat.le_refl _ | with_reducible exact Nat.le_succ _ | with_reducible exact hlL1 | with_reducible exact Nat.le_succ_of_le hlL1 | with_reducible exact hlL2 | with_reducible exact Nat.le_succ_of_le hlL2) (by first | with_reducible exact Nat.le_refl _ | with_reducible exact Nat.le_succ _ | with_reducible exact hlL1 | with_reducible exact Nat.le_succ_of_le hlL1 | with_reducible exact hlL2 | with_reducible exact Nat.le_succ_of_le hlL2) (by omega)
  case rest =>
  obtain ⟨⟨BL, xL, rfl, jL0, jL1, hintL, hHL, hltL⟩, ⟨CL, yL, rfl, jL2, jL3, hjntL, hJL, hjtL⟩, hneL, hfzL, hfyL, hblL⟩ := hcut
  have XL : NmC wc BL xL := ⟨jL0, jL1⟩
  have YL : NmC wc CL yL := ⟨jL2, jL3⟩
  replace hneL : BL ≠ CL := fun e9 => hneL (by rw [e9])
  replace hfzL : ∀ o, wc.frozen? ⟨BL, o, none⟩ = false := hfzL _ rfl
  replace hfyL : ∀ o, wc.frozen? ⟨CL, o, none⟩ = false := hfyL _ rfl
  replace hBW := bthen hBW hblL
  replace A := A.below hblL
  replace G := G.below hblL
  replace R := R.below hblL
  replace hs := hide ((unhide hs).below hblL)
  replace ht := hide ((unhide ht).below hblL)
  replace hintL := hide hintL
  replace hjntL := hide hjntL
  have nRL : w.heap.size + 1 + 1 ≠ BL := Nat.ne_of_lt (Nat.lt_of_lt_of_le lR1 hHL)
  clear x0 x1 x2 x3 z0 z1 HK lA lX X1 hint1 hblL hfzL hfyL hneL hc1
  obtain ⟨W2, hW2⟩ : ∃ W', W' = wc := ⟨_, rfl⟩
  subst hW2
  have HK := hide (show ∀ w', Below W2.heap.size W2 w' → (w'.cell? ⟨w.heap.size + 1, 0, none⟩ = some (.bool t.ln) ∧ w'.cell? ⟨w.heap.size + 1, 1, none⟩ = some (.slice t.la t.lN t.lc) ∧ w'.cell? ⟨w.heap.size + 1, 2, none⟩ = some (.bool t.hn) ∧ w'.cell? ⟨w.heap.size + 1, 3, none⟩ = some (.slice t.ha t.hN t.hc) ∧ w'.cell? ⟨BL, 0, none⟩ = some (.bool xL.neg) ∧ w'.cell? ⟨BL, 1, none⟩ = some (.slice xL.a xL.n xL.cap) ∧ w'.cell? ⟨CL, 0, none⟩ = some (.bool yL.neg) ∧ w'.cell? ⟨CL, 1, none⟩ = some (.slice yL.a yL.n yL.cap)) from fun w' hB => ⟨(G.below hB).c0, (G.below hB).c1, (G.below hB).c2, (G.below hB).c3, (XL.below hB).c0, (XL.below hB).c1, (YL.below hB).c0, (YL.below hB).c1⟩)
  have lG := G.lt
  have lX := XL.lt
  have lY := YL.lt
  have lR2 := R.lt
  obtain ⟨x0, x1, x2, x3, z0, z1, z2, z3⟩ := unhide HK _ (Below.refl _ _)
  go_wp2_with fail
  go_cut [8, 9] (fun p q wx => TwoV W2 wx (k + b / 16 + 14) (k + b / 16 + 14) (lo * Q b / hi') (-(-(hi * Q b) / lo')) p q)
  case first =>
    go_region_held3 (fun w' => w'.cell? ⟨w.heap.size + 1, 0, none⟩ = some (.bool t.ln) ∧ w'.cell? ⟨w.heap.size + 1, 1, none⟩ = some (.slice t.la t.lN t.lc) ∧ w'.cell? ⟨w.heap.size + 1, 2, none⟩ = some (.bool t.hn) ∧ w'.cell? ⟨w.heap.size + 1, 3, none⟩ = some (.slice t.ha t.hN t.hc) ∧ w'.cell? ⟨BL, 0, none⟩ = some (.bool xL.neg) ∧ w'.cell? ⟨BL, 1, none⟩ = some (.slice xL.a xL.n xL.cap) ∧ w'.cell? ⟨CL, 0, none⟩ = some (.bool yL.neg) ∧ w'.cell? ⟨CL, 1, none⟩ = some (.slice yL.a yL.n yL.cap)) (exact unhide HK _ (by repeat' (first | with_reducible exact hBM2 | with_reducible exact hBM1 | with_reducible exact Below.refl _ _ | with_reducible refine Below.drew ?_ | with_reducible refine balloc ?_ _ | with_reducible refine Below.setCell ?_ (by first | with_reducible exact Nat.le_refl _ | with_reducible exact Nat.le_succ _ | with_reducible exact hlM1 | with_reducible exact Nat.le_succ_of_le hlM1 | with_reducible exact hlM2 | with_reducible exact Nat.le_succ_of_le hlM2) _)))
      (first
        | (go_at_call 100; have hq := hBM1; refine (refUp_any _ _ _ _ _ _ _ _ (k + b / 16 + 5) k (hi * Q b) lo' _ ((unhide hjntL).below (by repeat' (first | with_reducible exact hBM1 | with_reducible exact Below.refl _ _ | with_reducible refine Below.drew ?_ | with_reducible refine balloc ?_ _))) ((unhide ht).lo.below (by repeat' (first | with_reducible exact hBM1 | with_reducible exact Below.refl _ _ | with_reducible refine Below.drew ?_ | with_reducible refine balloc ?_ _))) (by omega) (by omega) (by omega)).mono ?_; rintro r wM2 ⟨negM2, aM2, nM2, cM2, rfl, hintM2, hbM2⟩; have hCM2 : Below wM1.heap.size wM1 wM2 := (by first | with_reducible exact hbM2 | with_reducible exact bthen (bl1 _ _) hbM2 | with_reducible exact bthen (bl2 _ _ _) hbM2); have hBM2 := bthen hBM1 hCM2; (first | with_reducible have gaM2 := (noi_new wM1 24).below hbM2 | with_reducible have gaM2 := ((noi_new wM1 24).below (bl1 _ _)).below hbM2 | skip); (try with_reducible have gbM2 := (noi_new' (wM1.alloc _) (wM1.heap.size + 1) (hs1 _ _) 24).below hbM2); replace hintM1 := hintM1.below hCM2; (try have maM1 := gaM1.lt); (try have mbM1 := gbM1.lt); (try replace gaM1 := gaM1.below hCM2); (try replace gbM1 := gbM1.below hCM2); have hlM2 := hBM2.size; (try have eaM1 := gaM1); (try obtain ⟨zaM10, zaM11, zaM12⟩ := eaM1); (try have yaM1 := gaM1.lt); (try have ebM1 := gbM1); (try obtain ⟨zbM10, zbM11, zbM12⟩ := ebM1); (try have ybM1 := gbM1.lt); (try have eaM2 := gaM2); (try obtain ⟨zaM20, zaM21, zaM22⟩ := eaM2); (try have yaM2 := gaM2.lt); (try have ebM2 := gbM2); (try obtain ⟨zbM20, zbM21, zbM22⟩ := ebM2); (try have ybM2 := gbM2.lt))
        | (go_at_call 99; refine (refDown_any _ _ _ _ _ _ _ _ (k + b / 16 + 5) k (lo * Q b) hi' _ ((unhide hintL).below (by repeat' (first | with_reducible exact Below.refl _ _ | with_reducible refine Below.drew ?_ | with_reducible refine balloc ?_ _))) ((unhide ht).hi.below (by repeat' (first | with_reducible exact Below.refl _ _ | with_reducible refine Below.drew ?_ | with_reducible refine balloc ?_ _))) (by omega) (by omega) (by omega)).mono ?_; rintro r wM1 ⟨negM1, aM1, nM1, cM1, rfl, hintM1, hbM1⟩; have hBM1 : Below W2.heap.size W2 wM1 := (by first | with_reducible exact bthen (Below.refl _ _).drew hbM1 | with_reducible exact bthen (bl1 _ _).drew hbM1 | with_reducible exact bthen (bl2 _ _ _).drew hbM1); (first | with_reducible have gaM1 := ((noi_new W2 24).below (Below.refl _ _).drew).below hbM1 | with_reducible have gaM1 := ((noi_new W2 24).below (bl1 _ _).drew).below hbM1 | skip); (try with_reducible have gbM1 := ((noi_new' (W2.alloc _) (W2.heap.size + 1) (hs1 _ _) 24).below (Below.refl _ _).drew).below hbM1); have hlM1 := hBM1.size))
    all_goals
      go_wp2_with fail
      go_meet
      first
        | with_reducible exact two_aa (x := (Nm.mk negM1 aM1 nM1 cM1)) (y := (Nm.mk negM2 aM2 nM2 cM2)) hBM2 (IntAt.mono hintM1 (by omega)) (IntAt.mono hintM2 (by omega))
        | with_reducible exact two_aa' (x := (Nm.mk negM1 aM1 nM1 cM1)) (y := (Nm.mk negM2 aM2 nM2 cM2)) hBM2 (IntAt.mono hintM1 (by omega)) (IntAt.mono hintM2 (by omega))
        | with_reducible exact two_sa (x := (Nm.mk negM1 aM1 nM1 cM1)) (y := (Nm.mk negM2 aM2 nM2 cM2)) hBM2 (IntAt.mono hintM1 (by omega)) (IntAt.mono hintM2 (by omega)) (by assumption) (by first | with_reducible exact Nat.le_refl _ | with_reducible exact Nat.le_succ _ | with_reducible exact hlM1 | with_reducible exact Nat.le_succ_of_le hlM1 | with_reducible exact hlM2 | with_reducible exact Nat.le_succ_of_le hlM2)
        | with_reducible exact two_as (x := (Nm.mk negM1 aM1 nM1 cM1)) (y := (Nm.mk negM2 aM2 nM2 cM2)) hBM2 (IntAt.mono hintM1 (by omega)) (IntAt.mono hintM2 (by omega)) (by assumption) (by first | with_reducible exact Nat.le_refl _ | with_reducible exact Nat.le_succ _ | with_reducible exact hlM1 | with_reducible exact Nat.le_succ_of_le hlM1 | with_reducible exact hlM2 | with_reducible exact Nat.le_succ_of_le hlM2)
        | with_reducible exact two_ss (x := (Nm.mk negM1 aM1 nM1 cM1)) (y := (Nm.mk negM2 aM2 nM2 cM2)) hBM2 (IntAt.mono hintM1 (by omega)) (IntAt.mono hintM2 (by omega)) (by assumption) (by assumption) (by first | with_reducible exact Nat.le_refl _ | with_reducible exact Nat.le_succ _ | with_reducible exact hlM1 | with_reducible exact Nat.le_succ_of_le hlM1 | with_reducible exact hlM2 | with_reducible exact Nat.le_succ_of_le hlM2) (by first | with_reducible exact Nat.le_refl _ | with_reducible exact Nat.le_succ _ | with_reducible exact hlM1 | with_reducible exact Nat.le_succ_of_le hlM1 | with_reducible exact hlM2 | with_reducible exact Nat.le_succ_of_le hlM2) (by omega)
  case rest =>
  obtain ⟨⟨BM, xM, rfl, jM0, jM1, hintM, hHM, hltM⟩, ⟨CM, yM, rfl, jM2, jM3, hjntM, hJM, hjtM⟩, hneM, hfzM, hfyM, hblM⟩ := hcut
  have XM : NmC wc BM xM := ⟨jM0, jM1⟩
  have YM : NmC wc CM yM := ⟨jM2, jM3⟩
  replace hneM : BM ≠ CM := fun e9 => hneM (by rw [e9])
  replace hfzM : ∀ o, wc.frozen? ⟨BM, o, none⟩ = false := hfzM _ rfl
  replace hfyM : ∀ o, wc.frozen? ⟨CM, o, none⟩ = false := hfyM _ rfl
  replace hBW := bthen hBW hblM
  replace A := A.below hblM
  replace G := G.below hblM
  replace R := R.below hblM
  replace XL := XL.below hblM
  replace YL := YL.below hblM
  replace ht := (unhide ht).below hblM
  replace hintL := (unhide hintL).below hblM
  replace hjntL := (unhide hjntL).below hblM
  have D : OVs w wc s t k (k + b / 16 + 5) (k + b / 16 + 14) BL CL BM CM xL yL xM yM lo' hi' (lo * Q b) (hi * Q b) (lo * Q b / hi') (-(-(hi * Q b) / lo')) := ⟨A, G, R, XL, YL, XM, YM, hintL, hjntL, hintM, hjntM, ht, hfzM, hfyM, hBW⟩
  have E : OVd w BL CL BM CM := by
    have a1 := hBW0.size
    exact ⟨by omega, by omega, by omega, by omega, by omega, by omega, by omega, by omega, by omega, by omega, by omega, by omega⟩
  clear x0 x1 x2 x3 z0 z1 z2 z3 HK lG lX lY hblM hs A G R XL YL XM YM hintL hjntL hintM hjntM ht hfzM hfyM hBW jM0 jM1 jM2 jM3 jL0 jL1 jL2 jL3 lR2 lR1 hltL hjtL hltM hjtM nRL hneM hHL hJL hHM hJM hBW0
  have lL := D.XL.lt
  have lC := D.YL.lt
  have lM := D.XM.lt
  have lN := D.YM.lt
  have lG := D.G.lt
  have lA := D.A.lt
  obtain ⟨i0, i1⟩ := D.XL
  obtain ⟨i2, i3⟩ := D.YL
  obtain ⟨i4, i5⟩ := D.XM
  obtain ⟨i6, i7⟩ := D.YM
  obtain ⟨y0, y1, y2, y3, y4⟩ := D.G
  obtain ⟨e0, e1, e2, e3, e4⟩ := D.A
  have fM := D.fM
  have fN := D.fN
  go_wp2_with fail
  refine (sign_int _ _ _ _ (k + b / 16 + 5) (lo * Q b) _ D.il).mono ?_
  rintro r w3 ⟨rfl, hb3⟩
  replace D := D.below hb3
  clear hb3 i0 i1 i2 i3 i4 i5 i6 i7 y0 y1 y2 y3 y4 e0 e1 e2 e3 e4 fM fN lL lC lM lN lG lA
  by_cases c1 : lo * Q b < 0
  · have t2 : cmpInt (lo * Q b) 0 < 0 := by unfold cmpInt; rw [if_pos c1]; omega
    have HO1 := hide (show ovLo (lo * Q b) (hi * Q b) lo' hi' = lo * Q b / lo' by unfold ovLo; rw [if_pos c1])
    clear c1
    have lL := D.XL.lt
    have lC := D.YL.lt
    have lM := D.XM.lt
    have lN := D.YM.lt
    have lG := D.G.lt
    have lA := D.A.lt
    obtain ⟨i0, i1⟩ := D.XL
    obtain ⟨i2, i3⟩ := D.YL
    obtain ⟨i4, i5⟩ := D.XM
    obtain ⟨i6, i7⟩ := D.YM
    obtain ⟨y0, y1, y2, y3, y4⟩ := D.G
    obtain ⟨e0, e1, e2, e3, e4⟩ := D.A
    have fM := D.fM
    have fN := D.fN
    go_wp2_with fail
    refine (refDown_any _ _ _ _ _ _ _ _ (k + b / 16 + 5) k (lo * Q b) lo' _ D.il D.ht.lo (by omega) (by omega) (by omega)).mono ?_
    rintro r w4 ⟨neg4, a4, n4, c4, rfl, hint4, hb4⟩
    replace D := D.below hb4
    clear hb4 i0 i1 i2 i3 i4 i5 i6 i7 y0 y1 y2 y3 y4 e0 e1 e2 e3 e4 fM fN lL lC lM lN lG lA
    have lL := D.XL.lt
    have lC := D.YL.lt
    have lM := D.XM.lt
    have lN := D.YM.lt
    have lG := D.G.lt
    have lA := D.A.lt
    obtain ⟨i0, i1⟩ := D.XL
    obtain ⟨i2, i3⟩ := D.YL
    obtain ⟨i4, i5⟩ := D.XM
    obtain ⟨i6, i7⟩ := D.YM
    obtain ⟨y0, y1, y2, y3, y4⟩ := D.G
    obtain ⟨e0, e1, e2, e3, e4⟩ := D.A
    have fM := D.fM
    have fN := D.fN
    have D2 := D.setM E ⟨neg4, a4, n4, c4⟩ (hint4.mono (by omega))
    obtain ⟨V4, hV4⟩ : ∃ V', V' = (w4.setCell ⟨BM, 0, none⟩ (.bool neg4)).setCell ⟨BM, 1, none⟩ (.slice a4 n4 c4) := ⟨_, rfl⟩
    rw [← hV4] at D2
    go_upto_region 8 with fail
    rw [← hV4]
    clear hV4 D i0 i1 i2 i3 i4 i5 i6 i7 y0 y1 y2 y3 y4 e0 e1 e2 e3 e4 fM fN lL lC lM lN lG lA
    have D := D2
    clear D2
    have lL := D.XL.lt
    have lC := D.YL.lt
    have lM := D.XM.lt
    have lN := D.YM.lt
    have lG := D.G.lt
    have lA := D.A.lt
    obtain ⟨i0, i1⟩ := D.XL
    obtain ⟨i2, i3⟩ := D.YL
    obtain ⟨i4, i5⟩ := D.XM
    obtain ⟨i6, i7⟩ := D.YM
    obtain ⟨y0, y1, y2, y3, y4⟩ := D.G
    obtain ⟨e0, e1, e2, e3, e4⟩ := D.A
    have fM := D.fM
    have fN := D.fN
    go_wp2_with fail
    refine (sign_int _ _ _ _ (k + b / 16 + 5) (hi * Q b) _ D.ih).mono ?_
    rintro r w5 ⟨rfl, hb5⟩
    replace D := D.below hb5
    clear hb5 i0 i1 i2 i3 i4 i5 i6 i7 y0 y1 y2 y3 y4 e0 e1 e2 e3 e4 fM fN lL lC lM lN lG lA
    by_cases c2 : hi * Q b < 0
    · have t3 : cmpInt (hi * Q b) 0 < 0 := by unfold cmpInt; rw [if_pos c2]; omega
      have HO2 := hide (show ovHi (lo * Q b) (hi * Q b) lo' hi' = -(-(hi * Q b) / hi') by unfold ovHi; rw [if_pos c2])
      clear c2
      have lL := D.XL.lt
      have lC := D.YL.lt
      have lM := D.XM.lt
      have lN := D.YM.lt
      have lG := D.G.lt
      have lA := D.A.lt
      obtain ⟨i0, i1⟩ := D.XL
      obtain ⟨i2, i3⟩ := D.YL
      obtain ⟨i4, i5⟩ := D.XM
      obtain ⟨i6, i7⟩ := D.YM
      obtain ⟨y0, y1, y2, y3, y4⟩ := D.G
      obtain ⟨e0, e1, e2, e3, e4⟩ := D.A
      have fM := D.fM
      have fN := D.fN
      go_wp2_with fail
      refine (refUp_any _ _ _ _ _ _ _ _ (k + b / 16 + 5) k (hi * Q b) hi' _ D.ih D.ht.hi (by omega) (by omega) (by omega)).mono ?_
      rintro r w6 ⟨neg6, a6, n6, c6, rfl, hint6, hb6⟩
      replace D := D.below hb6
      clear hb6 i0 i1 i2 i3 i4 i5 i6 i7 y0 y1 y2 y3 y4 e0 e1 e2 e3 e4 fM fN lL lC lM lN lG lA
      have lL := D.XL.lt
      have lC := D.YL.lt
      have lM := D.XM.lt
      have lN := D.YM.lt
      have lG := D.G.lt
      have lA := D.A.lt
      obtain ⟨i0, i1⟩ := D.XL
      obtain ⟨i2, i3⟩ := D.YL
      obtain ⟨i4, i5⟩ := D.XM
      obtain ⟨i6, i7⟩ := D.YM
      obtain ⟨y0, y1, y2, y3, y4⟩ := D.G
      obtain ⟨e0, e1, e2, e3, e4⟩ := D.A
      have fM := D.fM
      have fN := D.fN
      have D2 := D.setN E ⟨neg6, a6, n6, c6⟩ (hint6.mono (by omega))
      obtain ⟨V6, hV6⟩ : ∃ V', V' = (w6.setCell ⟨CM, 0, none⟩ (.bool neg6)).setCell ⟨CM, 1, none⟩ (.slice a6 n6 c6) := ⟨_, rfl⟩
      rw [← hV6] at D2
      go_upto_region 10 with fail
      rw [← hV6]
      clear hV6 D i0 i1 i2 i3 i4 i5 i6 i7 y0 y1 y2 y3 y4 e0 e1 e2 e3 e4 fM fN lL lC lM lN lG lA
      have D := D2
      have lL := D.XL.lt
      have lC := D.YL.lt
      have lM := D.XM.lt
      have lN := D.YM.lt
      have lG := D.G.lt
      have lA := D.A.lt
      obtain ⟨i0, i1⟩ := D.XL
      obtain ⟨i2, i3⟩ := D.YL
      obtain ⟨i4, i5⟩ := D.XM
      obtain ⟨i6, i7⟩ := D.YM
      obtain ⟨y0, y1, y2, y3, y4⟩ := D.G
      obtain ⟨e0, e1, e2, e3, e4⟩ := D.A
      have fM := D.fM
      have fN := D.fN
      have hR := D.R
      have lR := hR.lt
      obtain ⟨q0, q1, q2, q3, q4, q5⟩ := hR
      go_wp2_with fail
      refine bodyPost_ret (v := .agg #[.bool (Nm.mk neg4 a4 n4 c4).neg, .slice (Nm.mk neg4 a4 n4 c4).a (Nm.mk neg4 a4 n4 c4).n (Nm.mk neg4 a4 n4 c4).cap, .bool (Nm.mk neg6 a6 n6 c6).neg, .slice (Nm.mk neg6 a6 n6 c6).a (Nm.mk neg6 a6 n6 c6).n (Nm.mk neg6 a6 n6 c6).cap, .int .i64 s.bits]) (by simp [results, Try.results43, go_sem, lR, q0, q1, q2, q3, q4]) rfl ⟨⟨(Nm.mk neg4 a4 n4 c4).neg, (Nm.mk neg4 a4 n4 c4).a, (Nm.mk neg4 a4 n4 c4).n, (Nm.mk neg4 a4 n4 c4).cap, (Nm.mk neg6 a6 n6 c6).neg, (Nm.mk neg6 a6 n6 c6).a, (Nm.mk neg6 a6 n6 c6).n, (Nm.mk neg6 a6 n6 c6).cap, s.bits⟩, rfl, unhide HBT, ?_, ?_⟩
      · rw [unhide HO1, unhide HO2]; exact SpAt.put5 ⟨D.im.mono (by omega), D.jn.mono (by omega)⟩ q0 q1 q2 q3 q4 _ _ _ _ _
      · exact set5 D.hB (by omega) _ _ _ _ _
    · have t3 : ¬ cmpInt (hi * Q b) 0 < 0 := by unfold cmpInt; rw [if_neg c2]; split <;> omega
      have HO2 := hide (show ovHi (lo * Q b) (hi * Q b) lo' hi' = -(-(hi * Q b) / lo') by unfold ovHi; rw [if_neg c2])
      clear c2
      have lL := D.XL.lt
      have lC := D.YL.lt
      have lM := D.XM.lt
      have lN := D.YM.lt
      have lG := D.G.lt
      have lA := D.A.lt
      obtain ⟨i0, i1⟩ := D.XL
      obtain ⟨i2, i3⟩ := D.YL
      obtain ⟨i4, i5⟩ := D.XM
      obtain ⟨i6, i7⟩ := D.YM
      obtain ⟨y0, y1, y2, y3, y4⟩ := D.G
      obtain ⟨e0, e1, e2, e3, e4⟩ := D.A
      have fM := D.fM
      have fN := D.fN
      have hR := D.R
      have lR := hR.lt
      obtain ⟨q0, q1, q2, q3, q4, q5⟩ := hR
      go_wp2_with fail
      refine bodyPost_ret (v := .agg #[.bool (Nm.mk neg4 a4 n4 c4).neg, .slice (Nm.mk neg4 a4 n4 c4).a (Nm.mk neg4 a4 n4 c4).n (Nm.mk neg4 a4 n4 c4).cap, .bool yM.neg, .slice yM.a yM.n yM.cap, .int .i64 s.bits]) (by simp [results, Try.results43, go_sem, lR, q0, q1, q2, q3, q4]) rfl ⟨⟨(Nm.mk neg4 a4 n4 c4).neg, (Nm.mk neg4 a4 n4 c4).a, (Nm.mk neg4 a4 n4 c4).n, (Nm.mk neg4 a4 n4 c4).cap, yM.neg, yM.a, yM.n, yM.cap, s.bits⟩, rfl, unhide HBT, ?_, ?_⟩
      · rw [unhide HO1, unhide HO2]; exact SpAt.put5 ⟨D.im.mono (by omega), D.jn.mono (by omega)⟩ q0 q1 q2 q3 q4 _ _ _ _ _
      · exact set5 D.hB (by omega) _ _ _ _ _
  · have t2 : ¬ cmpInt (lo * Q b) 0 < 0 := by unfold cmpInt; rw [if_neg c1]; split <;> omega
    have HO1 := hide (show ovLo (lo * Q b) (hi * Q b) lo' hi' = lo * Q b / hi' by unfold ovLo; rw [if_neg c1])
    clear c1
    have lL := D.XL.lt
    have lC := D.YL.lt
    have lM := D.XM.lt
    have lN := D.YM.lt
    have lG := D.G.lt
    have lA := D.A.lt
    obtain ⟨i0, i1⟩ := D.XL
    obtain ⟨i2, i3⟩ := D.YL
    obtain ⟨i4, i5⟩ := D.XM
    obtain ⟨i6, i7⟩ := D.YM
    obtain ⟨y0, y1, y2, y3, y4⟩ := D.G
    obtain ⟨e0, e1, e2, e3, e4⟩ := D.A
    have fM := D.fM
    have fN := D.fN
    go_wp2_with fail
    refine (sign_int _ _ _ _ (k + b / 16 + 5) (hi * Q b) _ D.ih).mono ?_
    rintro r w5 ⟨rfl, hb5⟩
    replace D := D.below hb5
    clear hb5 i0 i1 i2 i3 i4 i5 i6 i7 y0 y1 y2 y3 y4 e0 e1 e2 e3 e4 fM fN lL lC lM lN lG lA
    by_cases c2 : hi * Q b < 0
    · have t3 : cmpInt (hi * Q b) 0 < 0 := by unfold cmpInt; rw [if_pos c2]; omega
      have HO2 := hide (show ovHi (lo * Q b) (hi * Q b) lo' hi' = -(-(hi * Q b) / hi') by unfold ovHi; rw [if_pos c2])
      clear c2
      have lL := D.XL.lt
      have lC := D.YL.lt
      have lM := D.XM.lt
      have lN := D.YM.lt
      have lG := D.G.lt
      have lA := D.A.lt
      obtain ⟨i0, i1⟩ := D.XL
      obtain ⟨i2, i3⟩ := D.YL
      obtain ⟨i4, i5⟩ := D.XM
      obtain ⟨i6, i7⟩ := D.YM
      obtain ⟨y0, y1, y2, y3, y4⟩ := D.G
      obtain ⟨e0, e1, e2, e3, e4⟩ := D.A
      have fM := D.fM
      have fN := D.fN
      go_wp2_with fail
      refine (refUp_any _ _ _ _ _ _ _ _ (k + b / 16 + 5) k (hi * Q b) hi' _ D.ih D.ht.hi (by omega) (by omega) (by omega)).mono ?_
      rintro r w6 ⟨neg6, a6, n6, c6, rfl, hint6, hb6⟩
      replace D := D.below hb6
      clear hb6 i0 i1 i2 i3 i4 i5 i6 i7 y0 y1 y2 y3 y4 e0 e1 e2 e3 e4 fM fN lL lC lM lN lG lA
      have lL := D.XL.lt
      have lC := D.YL.lt
      have lM := D.XM.lt
      have lN := D.YM.lt
      have lG := D.G.lt
      have lA := D.A.lt
      obtain ⟨i0, i1⟩ := D.XL
      obtain ⟨i2, i3⟩ := D.YL
      obtain ⟨i4, i5⟩ := D.XM
      obtain ⟨i6, i7⟩ := D.YM
      obtain ⟨y0, y1, y2, y3, y4⟩ := D.G
      obtain ⟨e0, e1, e2, e3, e4⟩ := D.A
      have fM := D.fM
      have fN := D.fN
      have D2 := D.setN E ⟨neg6, a6, n6, c6⟩ (hint6.mono (by omega))
      obtain ⟨V6, hV6⟩ : ∃ V', V' = (w6.setCell ⟨CM, 0, none⟩ (.bool neg6)).setCell ⟨CM, 1, none⟩ (.slice a6 n6 c6) := ⟨_, rfl⟩
      rw [← hV6] at D2
      go_upto_region 10 with fail
      rw [← hV6]
      clear hV6 D i0 i1 i2 i3 i4 i5 i6 i7 y0 y1 y2 y3 y4 e0 e1 e2 e3 e4 fM fN lL lC lM lN lG lA
      have D := D2
      have lL := D.XL.lt
      have lC := D.YL.lt
      have lM := D.XM.lt
      have lN := D.YM.lt
      have lG := D.G.lt
      have lA := D.A.lt
      obtain ⟨i0, i1⟩ := D.XL
      obtain ⟨i2, i3⟩ := D.YL
      obtain ⟨i4, i5⟩ := D.XM
      obtain ⟨i6, i7⟩ := D.YM
      obtain ⟨y0, y1, y2, y3, y4⟩ := D.G
      obtain ⟨e0, e1, e2, e3, e4⟩ := D.A
      have fM := D.fM
      have fN := D.fN
      have hR := D.R
      have lR := hR.lt
      obtain ⟨q0, q1, q2, q3, q4, q5⟩ := hR
      go_wp2_with fail
      refine bodyPost_ret (v := .agg #[.bool xM.neg, .slice xM.a xM.n xM.cap, .bool (Nm.mk neg6 a6 n6 c6).neg, .slice (Nm.mk neg6 a6 n6 c6).a (Nm.mk neg6 a6 n6 c6).n (Nm.mk neg6 a6 n6 c6).cap, .int .i64 s.bits]) (by simp [results, Try.results43, go_sem, lR, q0, q1, q2, q3, q4]) rfl ⟨⟨xM.neg, xM.a, xM.n, xM.cap, (Nm.mk neg6 a6 n6 c6).neg, (Nm.mk neg6 a6 n6 c6).a, (Nm.mk neg6 a6 n6 c6).n, (Nm.mk neg6 a6 n6 c6).cap, s.bits⟩, rfl, unhide HBT, ?_, ?_⟩
      · rw [unhide HO1, unhide HO2]; exact SpAt.put5 ⟨D.im.mono (by omega), D.jn.mono (by omega)⟩ q0 q1 q2 q3 q4 _ _ _ _ _
      · exact set5 D.hB (by omega) _ _ _ _ _
    · have t3 : ¬ cmpInt (hi * Q b) 0 < 0 := by unfold cmpInt; rw [if_neg c2]; split <;> omega
      have HO2 := hide (show ovHi (lo * Q b) (hi * Q b) lo' hi' = -(-(hi * Q b) / lo') by unfold ovHi; rw [if_neg c2])
      clear c2
      have lL := D.XL.lt
      have lC := D.YL.lt
      have lM := D.XM.lt
      have lN := D.YM.lt
      have lG := D.G.lt
      have lA := D.A.lt
      obtain ⟨i0, i1⟩ := D.XL
      obtain ⟨i2, i3⟩ := D.YL
      obtain ⟨i4, i5⟩ := D.XM
      obtain ⟨i6, i7⟩ := D.YM
      obtain ⟨y0, y1, y2, y3, y4⟩ := D.G
      obtain ⟨e0, e1, e2, e3, e4⟩ := D.A
      have fM := D.fM
      have fN := D.fN
      have hR := D.R
      have lR := hR.lt
      obtain ⟨q0, q1, q2, q3, q4, q5⟩ := hR
      go_wp2_with fail
      refine bodyPost_ret (v := .agg #[.bool xM.neg, .slice xM.a xM.n xM.cap, .bool yM.neg, .slice yM.a yM.n yM.cap, .int .i64 s.bits]) (by simp [results, Try.results43, go_sem, lR, q0, q1, q2, q3, q4]) rfl ⟨⟨xM.neg, xM.a, xM.n, xM.cap, yM.neg, yM.a, yM.n, yM.cap, s.bits⟩, rfl, unhide HBT, ?_, ?_⟩
      · rw [unhide HO1, unhide HO2]; exact SpAt.put5 ⟨D.im.mono (by omega), D.jn.mono (by omega)⟩ q0 q1 q2 q3 q4 _ _ _ _ _
      · exact set5 D.hB (by omega) _ _ _ _ _
end Go.Proofs.Ytgmnknmjainabaa

namespace Go.Proofs.Ytgmnknmjainabaa
set_option linter.unusedVariables false
set_option linter.unusedSimpArgs false
set_option linter.unnecessarySimpa false
open Go.RowKit
attribute [local go_sem ↓] Go.wp_at_zero Go.wp_at_succ

set_option maxRecDepth 100000 in
set_option maxHeartbeats 4000000 in
theorem refOver_neg (w : World) (s t : Sp) (k b : Nat) (lo hi lo' hi' : Int) (hs : SpAt w s k lo hi) (ht : SpAt w t k lo' hi') (hk : k ≤ 50000000) (hb : b ≤ 1000000) (hbits : s.bits = b) (hp : hi' < 0) (hp2 : lo' ≤ hi') :
    Calls Try.prog 43 #[.agg #[.bool s.ln, .slice s.la s.lN s.lc, .bool s.hn, .slice s.ha s.hN s.hc, .int .i64 s.bits], .agg #[.bool t.ln, .slice t.la t.lN t.lc, .bool t.hn, .slice t.ha t.hN t.hc, .int .i64 t.bits]] w (SpanAns w b (k + b / 16 + 20) (ovLo (-hi * Q b) (-lo * Q b) (-hi') (-lo')) (ovHi (-hi * Q b) (-lo * Q b) (-hi') (-lo'))) := by
  have HBT := hide hbits
  have t1 : cmpInt hi' 0 < 0 := by unfold cmpInt; rw [if_pos (by omega)]; omega
  clear hbits
  obtain ⟨W, hW⟩ : ∃ W, W = ((w.alloc (.cells #[.bool s.ln, .slice s.la s.lN s.lc, .bool s.hn, .slice s.ha s.hN s.hc, .int .i64 s.bits] 38)).alloc (.cells #[.bool t.ln, .slice t.la t.lN t.lc, .bool t.hn, .slice t.ha t.hN t.hc, .int .i64 t.bits] 38)).alloc (.cells #[.bool false, .slice none 0 0, .bool false, .slice none 0 0, .int .i64 0] 38) := ⟨_, rfl⟩
  have hBW : Below w.heap.size w W := by rw [hW]; exact bl3 _ _ _ _
  have A : SpC W w.heap.size s := by rw [hW]; exact ⟨by simp [go_sem], by simp [go_sem], by simp [go_sem], by simp [go_sem], by simp [go_sem]⟩
  have G : SpC W (w.heap.size + 1) t := by rw [hW]; exact ⟨by simp [go_sem], by simp [go_sem], by simp [go_sem], by simp [go_sem], by simp [go_sem]⟩
  have R : NoC W (w.heap.size + 1 + 1) := by rw [hW]; exact ⟨by simp [go_sem], by simp [go_sem], by simp [go_sem], by simp [go_sem], by simp [go_sem], fun o => by simp [go_sem]⟩
  replace hs := hide (hs.below hBW)
  replace ht := hide (ht.below hBW)
  go_enter Try.func43, Try.ntmps43
  go_wp2_with fail
  rw [← hW]
  clear hW
  refine (sign_int _ _ _ _ k hi' _ (unhide ht).hi).mono ?_
  rintro r w0 ⟨rfl, hb0⟩
  replace hBW := bthen hBW hb0
  replace A := A.below hb0
  replace G := G.below hb0
  replace R := R.below hb0
  replace hs := hide ((unhide hs).below hb0)
  replace ht := hide ((unhide ht).below hb0)
  clear hb0
  have lA := A.lt
  have lG := G.lt
  have hsl := hide (unhide hs).lo
  have hsh := hide (unhide hs).hi
  have htl := hide (unhide ht).lo
  have hth := hide (unhide ht).hi
  have nq1 : w.heap.size ≠ w.heap.size + 1 + 1 := by omega
  have nq2 : w.heap.size + 1 ≠ w.heap.size + 1 + 1 := by omega
  have HK := hide (show ∀ w', Below w0.heap.size w0 w' → (w'.cell? ⟨w.heap.size, 0, none⟩ = some (.bool s.ln) ∧ w'.cell? ⟨w.heap.size, 1, none⟩ = some (.slice s.la s.lN s.lc) ∧ w'.cell? ⟨w.heap.size, 2, none⟩ = some (.bool s.hn) ∧ w'.cell? ⟨w.heap.size, 3, none⟩ = some (.slice s.ha s.hN s.hc) ∧ w'.cell? ⟨w.heap.size, 4, none⟩ = some (.int .i64 s.bits) ∧ w'.cell? ⟨w.heap.size + 1, 0, none⟩ = some (.bool t.ln) ∧ w'.cell? ⟨w.heap.size + 1, 1, none⟩ = some (.slice t.la t.lN t.lc) ∧ w'.cell? ⟨w.heap.size + 1, 2, none⟩ = some (.bool t.hn) ∧ w'.cell? ⟨w.heap.size + 1, 3, none⟩ = some (.slice t.ha t.hN t.hc) ∧ w'.cell? ⟨w.heap.size + 1, 4, none⟩ = some (.int .i64 t.bits)) from fun w' hB => ⟨(A.below hB).c0, (A.below hB).c1, (A.below hB).c2, (A.below hB).c3, (A.below hB).c4, (G.below hB).c0, (G.below hB).c1, (G.below hB).c2, (G.below hB).c3, (G.below hB).c4⟩)
  obtain ⟨x0, x1, x2, x3, x4, y0, y1, y2, y3, y4⟩ := unhide HK _ (Below.refl _ _)
  go_wp2_with fail
  go_region_held3 (fun w' => w'.cell? ⟨w.heap.size, 0, none⟩ = some (.bool s.ln) ∧ w'.cell? ⟨w.heap.size, 1, none⟩ = some (.slice s.la s.lN s.lc) ∧ w'.cell? ⟨w.heap.size, 2, none⟩ = some (.bool s.hn) ∧ w'.cell? ⟨w.heap.size, 3, none⟩ = some (.slice s.ha s.hN s.hc) ∧ w'.cell? ⟨w.heap.size, 4, none⟩ = some (.int .i64 s.bits) ∧ w'.cell? ⟨w.heap.size + 1, 0, none⟩ = some (.bool t.ln) ∧ w'.cell? ⟨w.heap.size + 1, 1, none⟩ = some (.slice t.la t.lN t.lc) ∧ w'.cell? ⟨w.heap.size + 1, 2, none⟩ = some (.bool t.hn) ∧ w'.cell? ⟨w.heap.size + 1, 3, none⟩ = some (.slice t.ha t.hN t.hc) ∧ w'.cell? ⟨w.heap.size + 1, 4, none⟩ = some (.int .i64 t.bits)) (first | exact unhide HK _ (by first | with_reducible exact hB5 | with_reducible exact hB4 | with_reducible exact hB3 | with_reducible exact hB2 | with_reducible exact hB1 | with_reducible exact (Below.refl _ _).drew | with_reducible exact Below.refl _ _) | exact ⟨cell_put5' e0 nq1 _ _ _ _ _, cell_put5' e1 nq1 _ _ _ _ _, cell_put5' e2 nq1 _ _ _ _ _, cell_put5' e3 nq1 _ _ _ _ _, cell_put5' e4 nq1 _ _ _ _ _, cell_put5' f0 nq2 _ _ _ _ _, cell_put5' f1 nq2 _ _ _ _ _, cell_put5' f2 nq2 _ _ _ _ _, cell_put5' f3 nq2 _ _ _ _ _, cell_put5' f4 nq2 _ _ _ _ _⟩)
    (first
      | (go_at_call 43; refine (refOver_pos _ ⟨neg1, a1, n1, c1, neg2, a2, n2, c2, s.bits⟩ ⟨neg3, a3, n3, c3, neg4, a4, n4, c4, t.bits⟩ k b (-hi) (-lo) (-hi') (-lo') ⟨hint1, hint2⟩ ⟨hint3, hint4⟩ hk hb (unhide HBT) (by omega) (by omega)).mono ?_; rintro r w5 ⟨u, rfl, hub, hup, hb5⟩; have hB5 := bthen hB4 hb5; have R5 := R.below hB5; have l5 := R5.lt; obtain ⟨q0, q1, q2, q3, q4, q5⟩ := R5; obtain ⟨e0, e1, e2, e3, e4, f0, f1, f2, f3, f4⟩ := unhide HK _ hB5; have HUB := hide hub; clear hub)
      | (go_at_call 80; have hq := hB3; refine (neg_int _ _ _ _ k lo' _ ((unhide htl).below hB3) (by omega)).mono ?_; rintro r w4 ⟨neg4, a4, n4, c4, rfl, hint4, hb4⟩; have hB4 := bthen hB3 hb4; replace hint1 := hint1.below hb4; replace hint2 := hint2.below hb4; replace hint3 := hint3.below hb4)
      | (go_at_call 80; have hq := hB2; refine (neg_int _ _ _ _ k hi' _ ((unhide hth).below hB2) (by omega)).mono ?_; rintro r w3 ⟨neg3, a3, n3, c3, rfl, hint3, hb3⟩; have hB3 := bthen hB2 hb3; replace hint1 := hint1.below hb3; replace hint2 := hint2.below hb3)
      | (go_at_call 80; have hq := hB1; refine (neg_int _ _ _ _ k lo _ ((unhide hsl).below hB1) (by omega)).mono ?_; rintro r w2 ⟨neg2, a2, n2, c2, rfl, hint2, hb2⟩; have hB2 := bthen hB1 hb2; replace hint1 := hint1.below hb2)
      | (go_at_call 80; refine (neg_int _ _ _ _ k hi _ ((unhide hsh).below (Below.refl _ _).drew) (by omega)).mono ?_; rintro r w1 ⟨neg1, a1, n1, c1, rfl, hint1, hb1⟩; have hB1 : Below w0.heap.size w0 w1 := bthen (Below.refl _ _).drew hb1))
  all_goals
    go_wp2_with fail
    refine bodyPost_ret (v := .agg #[.bool u.ln, .slice u.la u.lN u.lc, .bool u.hn, .slice u.ha u.hN u.hc, .int .i64 u.bits]) (by simp [results, Try.results43, go_sem, l5, q0, q1, q2, q3, q4]) rfl ⟨u, rfl, unhide HUB, ?_, ?_⟩
    · exact SpAt.put5 hup q0 q1 q2 q3 q4 _ _ _ _ _
    · exact set5 (bthen hBW hB5) (by omega) _ _ _ _ _

/-- The ends of the quotients of two spans, the second one without 0. -/
def dvLo (lo hi lo' hi' : Int) (b : Nat) : Int := if hi' < 0 then ovLo (-hi * Q b) (-lo * Q b) (-hi') (-lo') else ovLo (lo * Q b) (hi * Q b) lo' hi'
def dvHi (lo hi lo' hi' : Int) (b : Nat) : Int := if hi' < 0 then ovHi (-hi * Q b) (-lo * Q b) (-hi') (-lo') else ovHi (lo * Q b) (hi * Q b) lo' hi'

theorem refOver_any (w : World) (s t : Sp) (k b : Nat) (lo hi lo' hi' : Int) (hs : SpAt w s k lo hi) (ht : SpAt w t k lo' hi') (hk : k ≤ 50000000) (hb : b ≤ 1000000) (hbits : s.bits = b) (hp : ¬ (lo' ≤ 0 ∧ 0 ≤ hi')) (hp2 : lo' ≤ hi') :
    Calls Try.prog 43 #[.agg #[.bool s.ln, .slice s.la s.lN s.lc, .bool s.hn, .slice s.ha s.hN s.hc, .int .i64 s.bits], .agg #[.bool t.ln, .slice t.la t.lN t.lc, .bool t.hn, .slice t.ha t.hN t.hc, .int .i64 t.bits]] w (SpanAns w b (k + b / 16 + 20) (dvLo lo hi lo' hi' b) (dvHi lo hi lo' hi' b)) := by
  unfold dvLo dvHi
  by_cases h : hi' < 0
  · rw [if_pos h, if_pos h]; exact refOver_neg w s t k b lo hi lo' hi' hs ht hk hb hbits h hp2
  · rw [if_neg h, if_neg h]; exact refOver_pos w s t k b lo hi lo' hi' hs ht hk hb hbits (by omega) hp2
end Go.Proofs.Ytgmnknmjainabaa

namespace Go.Proofs.Ytgmnknmjainabaa
set_option linter.unusedVariables false
set_option linter.unusedSimpArgs false
set_option linter.unnecessarySimpa false
open Go.RowKit
attribute [local go_sem ↓] Go.wp_at_zero Go.wp_at_succ

theorem SpC.put5n {w : World} {B B' : Nat} {s : Sp} (h : SpC w B s) (hne : B ≠ B') (u0 u1 u2 u3 u4 : Value) :
    SpC (((((w.setCell ⟨B', 0, none⟩ u0).setCell ⟨B', 1, none⟩ u1).setCell ⟨B', 2, none⟩ u2).setCell ⟨B', 3, none⟩ u3).setCell ⟨B', 4, none⟩ u4) B s :=
  ⟨cell_put5' h.c0 hne _ _ _ _ _, cell_put5' h.c1 hne _ _ _ _ _, cell_put5' h.c2 hne _ _ _ _ _, cell_put5' h.c3 hne _ _ _ _ _, cell_put5' h.c4 hne _ _ _ _ _⟩
theorem NoC.put5n {w : World} {B B' : Nat} (h : NoC w B) (hne : B ≠ B') (u0 u1 u2 u3 u4 : Value) :
    NoC (((((w.setCell ⟨B', 0, none⟩ u0).setCell ⟨B', 1, none⟩ u1).setCell ⟨B', 2, none⟩ u2).setCell ⟨B', 3, none⟩ u3).setCell ⟨B', 4, none⟩ u4) B := by
  obtain ⟨q0, q1, q2, q3, q4, q5⟩ := h
  exact ⟨cell_put5' q0 hne _ _ _ _ _, cell_put5' q1 hne _ _ _ _ _, cell_put5' q2 hne _ _ _ _ _, cell_put5' q3 hne _ _ _ _ _, cell_put5' q4 hne _ _ _ _ _, fun o => by rw [frozen_set', frozen_set', frozen_set', frozen_set', frozen_set']; exact q5 o⟩
theorem sp_put {w : World} {B : Nat} {t : Sp} (h : SpC w B t) (s : Sp) : SpC (((((w.setCell ⟨B, 0, none⟩ (.bool s.ln)).setCell ⟨B, 1, none⟩ (.slice s.la s.lN s.lc)).setCell ⟨B, 2, none⟩ (.bool s.hn)).setCell ⟨B, 3, none⟩ (.slice s.ha s.hN s.hc)).setCell ⟨B, 4, none⟩ (.int .i64 s.bits)) B s := by
  obtain ⟨q0, q1, q2, q3, q4⟩ := h
  constructor <;> simp [go_sem, q0, q1, q2, q3, q4]
/-- Two spans that are written anew, one behind the other. -/
theorem two_sp {w : World} {B B' : Nat} {s t : Sp} (hA : SpC w B s) (hG : SpC w B' t) (hne : B ≠ B') (u v : Sp) :
    let w1 := ((((w.setCell ⟨B, 0, none⟩ (.bool u.ln)).setCell ⟨B, 1, none⟩ (.slice u.la u.lN u.lc)).setCell ⟨B, 2, none⟩ (.bool u.hn)).setCell ⟨B, 3, none⟩ (.slice u.ha u.hN u.hc)).setCell ⟨B, 4, none⟩ (.int .i64 u.bits)
    let w2 := ((((w1.setCell ⟨B', 0, none⟩ (.bool v.ln)).setCell ⟨B', 1, none⟩ (.slice v.la v.lN v.lc)).setCell ⟨B', 2, none⟩ (.bool v.hn)).setCell ⟨B', 3, none⟩ (.slice v.ha v.hN v.hc)).setCell ⟨B', 4, none⟩ (.int .i64 v.bits)
    SpC w2 B u ∧ SpC w2 B' v ∧ (∀ {x : Sp} {k : Nat} {lo hi : Int}, SpAt w x k lo hi → SpAt w2 x k lo hi) ∧ (∀ {C : Nat}, NoC w C → C ≠ B → C ≠ B' → NoC w2 C) := by
  intro w1 w2
  have h1 : SpC w1 B u := sp_put hA u
  have h2 : SpC w1 B' t := hG.put5n (fun e => hne e.symm) _ _ _ _ _
  exact ⟨h1.put5n hne _ _ _ _ _, sp_put h2 v, fun h => SpAt.put5 (SpAt.put5 h hA.c0 hA.c1 hA.c2 hA.c3 hA.c4 _ _ _ _ _) h2.c0 h2.c1 h2.c2 h2.c3 h2.c4 _ _ _ _ _, fun h n1 n2 => (h.put5n n1 _ _ _ _ _).put5n n2 _ _ _ _ _⟩

end Go.Proofs.Ytgmnknmjainabaa

namespace Go.Proofs.Ytgmnknmjainabaa
set_option linter.unusedVariables false
set_option linter.unusedSimpArgs false
set_option linter.unnecessarySimpa false
open Go.RowKit
attribute [local go_sem ↓] Go.wp_at_zero Go.wp_at_succ

/-- Do two spans touch? Of each the ends, and how many bits more it is told by. -/
def touB (lo hi : Int) (i : Nat) (lo' hi' : Int) (j : Nat) : Bool := decide (lo * Q i ≤ hi' * Q j) && decide (lo' * Q j ≤ hi * Q i)

theorem downZ_up (x : Int) (a b : Int) (i : Nat) (h : b - a = (i : Int)) : downZ x (a - b) = x * Q i := by
  unfold downZ
  by_cases h0 : i = 0
  · subst h0
    have e : a - b = 0 := by omega
    rw [e]; simp [Q]
  · rw [if_neg (by omega)]; congr 2; omega
theorem downZ_upn (x : Int) (a b : Int) (i : Nat) (h : b - a = (i : Int)) : -(downZ (-x) (a - b)) = x * Q i := by
  rw [downZ_up _ a b i h, Int.neg_mul, Int.neg_neg]

set_option maxRecDepth 100000 in
set_option maxHeartbeats 4000000 in
theorem touch_gt (w : World) (s t : Sp) (k i j : Nat) (lo hi lo' hi' : Int) (hs : SpAt w s k lo hi) (ht : SpAt w t k lo' hi') (hk : k ≤ 300000000) (s0 : 0 ≤ s.bits) (s1 : s.bits ≤ 1000000) (t0 : 0 ≤ t.bits) (t1 : t.bits ≤ 1000000) (hc : s.bits < t.bits) (hi1 : t.bits - s.bits = (i : Int)) (hj1 : t.bits - t.bits = (j : Int)) :
    Calls Try.prog 113 #[.agg #[.bool s.ln, .slice s.la s.lN s.lc, .bool s.hn, .slice s.ha s.hN s.hc, .int .i64 s.bits], .agg #[.bool t.ln, .slice t.la t.lN t.lc, .bool t.hn, .slice t.ha t.hN t.hc, .int .i64 t.bits]] w fun r w' => r = .returned (.bool (touB lo hi i lo' hi' j)) ∧ Below w.heap.size w w' := by
  obtain ⟨W, hW⟩ : ∃ W, W = (w.alloc (.cells #[.bool s.ln, .slice s.la s.lN s.lc, .bool s.hn, .slice s.ha s.hN s.hc, .int .i64 s.bits] 38)).alloc (.cells #[.bool t.ln, .slice t.la t.lN t.lc, .bool t.hn, .slice t.ha t.hN t.hc, .int .i64 t.bits] 38) := ⟨_, rfl⟩
  have hBW : Below w.heap.size w W := by rw [hW]; exact bl2 _ _ _
  have A : SpC W w.heap.size s := by rw [hW]; exact ⟨by simp [go_sem], by simp [go_sem], by simp [go_sem], by simp [go_sem], by simp [go_sem]⟩
  have G : SpC W (w.heap.size + 1) t := by rw [hW]; exact ⟨by simp [go_sem], by simp [go_sem], by simp [go_sem], by simp [go_sem], by simp [go_sem]⟩
  have FA : ∀ o, W.frozen? ⟨w.heap.size, o, none⟩ = false := by intro o; rw [hW]; simp [go_sem]
  have FG : ∀ o, W.frozen? ⟨w.heap.size + 1, o, none⟩ = false := by intro o; rw [hW]; simp [go_sem]
  have a1 := hide (downZ_up lo s.bits (t.bits) i hi1)
  have a2 := hide (downZ_upn hi s.bits (t.bits) i hi1)
  have a3 := hide (downZ_up lo' t.bits (t.bits) j hj1)
  have a4 := hide (downZ_upn hi' t.bits (t.bits) j hj1)
  have HS := hide (hs.below hBW)
  have HT := hide (ht.below hBW)
  have HA := hide A
  have HG := hide G
  have lA := A.lt
  have lG := G.lt
  have nAG : w.heap.size ≠ w.heap.size + 1 := by omega
  clear hi1 hj1 hs ht
  go_enter Try.func113, Try.ntmps113
  go_wp2_with fail
  rw [← hW]
  clear hW
  obtain ⟨x0, x1, x2, x3, x4⟩ := A
  obtain ⟨y0, y1, y2, y3, y4⟩ := G
  try go_wp2_with fail
  go_cut [] (fun wx => ∃ s2 t2 : Sp, SpC wx w.heap.size s2 ∧ SpC wx (w.heap.size + 1) t2 ∧ SpAt wx s2 (k + 62505) (lo * Q i) (hi * Q i) ∧ SpAt wx t2 (k + 62505) (lo' * Q j) (hi' * Q j) ∧ Below w.heap.size w wx)
  case first =>
    go_region_with
      (first
        | (go_at_call 22; have hq := hB1; refine (refTurn_int _ t k (t.bits) lo' hi' ((unhide HT).below hB1) hk t0 t1 (by omega) (by omega)).mono ?_; rintro r w2 ⟨u2, rfl, hub2, hup2, hb2⟩; rw [unhide a3, unhide a4] at hup2; clear hub2; have hB2 := bthen hB1 hb2; replace hup1 := hup1.below hb2; have l2A := Nat.lt_of_lt_of_le lA hB2.size; have l2G := Nat.lt_of_lt_of_le lG hB2.size; obtain ⟨a0, a1, a2, a3, a4⟩ := (unhide HA).below hB2; obtain ⟨g0, g1, g2, g3, g4⟩ := (unhide HG).below hB2; have fA2 : ∀ o, w2.frozen? ⟨w.heap.size, o, none⟩ = false := (fun o => (hB2.frozen (p := ⟨w.heap.size, o, none⟩) lA).trans (FA o)); have fG2 : ∀ o, w2.frozen? ⟨w.heap.size + 1, o, none⟩ = false := (fun o => (hB2.frozen (p := ⟨w.heap.size + 1, o, none⟩) lG).trans (FG o)))
        | (go_at_call 22; refine (refTurn_int _ s k (t.bits) lo hi ((unhide HS).below (by repeat' (first | with_reducible exact Below.refl _ _ | with_reducible refine Below.drew ?_))) hk s0 s1 (by omega) (by omega)).mono ?_; rintro r w1 ⟨u1, rfl, hub1, hup1, hb1⟩; rw [unhide a1, unhide a2] at hup1; clear hub1; have hB1 : Below W.heap.size W w1 := bthen (by repeat' (first | with_reducible exact Below.refl _ _ | with_reducible refine Below.drew ?_)) hb1; obtain ⟨b0, b1, b2, b3, b4⟩ := (unhide HA).below hB1; obtain ⟨d0, d1, d2, d3, d4⟩ := (unhide HG).below hB1; have l1A := Nat.lt_of_lt_of_le lA hB1.size; have l1G := Nat.lt_of_lt_of_le lG hB1.size))
    all_goals
      go_wp2_with fail
      go_meet
      have A2 : SpC w2 w.heap.size s := ⟨a0, a1, a2, a3, a4⟩
      have G2 : SpC w2 (w.heap.size + 1) t := ⟨g0, g1, g2, g3, g4⟩
      obtain ⟨p1, p2, p3, p4⟩ := two_sp A2 G2 nAG u1 u2
      exact ⟨u1, u2, p1, p2, p3 hup1, p3 hup2, set5 (set5 (bthen hBW hB2) (Nat.le_refl _) _ _ _ _ _) (Nat.le_succ _) _ _ _ _ _⟩
  case rest =>
  obtain ⟨s2, t2, A, G, hs, ht, hBW⟩ := hcut
  clear HA HG HS HT lA lG x0 x1 x2 x3 x4 y0 y1 y2 y3 y4 FA FG
  have lA := A.lt
  have lG := G.lt
  by_cases hq : lo * Q i ≤ hi' * Q j
  · have c1 : cmpInt (lo * Q i) (hi' * Q j) ≤ 0 := by unfold cmpInt; split; omega; rw [if_neg (by omega)]; omega
    have HE := hide (show decide (cmpInt (lo' * Q j) (hi * Q i) ≤ 0) = touB lo hi i lo' hi' j by rw [cmp_le0]; unfold touB; rw [decide_eq_true hq, Bool.true_and])
    obtain ⟨x0, x1, x2, x3, x4⟩ := A
    obtain ⟨y0, y1, y2, y3, y4⟩ := G
    clear hq
    go_wp2_with fail
    refine (cmp_int _ _ _ _ _ _ _ _ (k + 62505) (k + 62505) (lo * Q i) (hi' * Q j) _ hs.lo ht.hi).mono ?_
    rintro r w1 ⟨rfl, hb1⟩
    have A := (SpC.mk x0 x1 x2 x3 x4).below hb1
    have G := (SpC.mk y0 y1 y2 y3 y4).below hb1
    replace hs := hs.below hb1
    replace ht := ht.below hb1
    replace hBW := bthen hBW hb1
    clear x0 x1 x2 x3 x4 y0 y1 y2 y3 y4 hb1
    obtain ⟨x0, x1, x2, x3, x4⟩ := A
    obtain ⟨y0, y1, y2, y3, y4⟩ := G
    go_wp2_with fail
    refine (cmp_int _ _ _ _ _ _ _ _ (k + 62505) (k + 62505) (lo' * Q j) (hi * Q i) _ ht.lo hs.hi).mono ?_
    rintro r w2 ⟨rfl, hb2⟩
    replace hBW := bthen hBW hb2
    go_wp2_with fail
    go_ret
    exact ⟨by rw [← unhide HE]; rfl, hBW⟩
  · have c1 : ¬ cmpInt (lo * Q i) (hi' * Q j) ≤ 0 := by unfold cmpInt; rw [if_neg (by omega), if_pos (by omega)]; omega
    have HE := hide (show touB lo hi i lo' hi' j = false by unfold touB; rw [decide_eq_false hq, Bool.false_and])
    obtain ⟨x0, x1, x2, x3, x4⟩ := A
    obtain ⟨y0, y1, y2, y3, y4⟩ := G
    clear hq
    go_wp2_with fail
    refine (cmp_int _ _ _ _ _ _ _ _ (k + 62505) (k + 62505) (lo * Q i) (hi' * Q j) _ hs.lo ht.hi).mono ?_
    rintro r w1 ⟨rfl, hb1⟩
    replace hBW := bthen hBW hb1
    go_wp2_with fail
    go_ret
    exact ⟨by rw [unhide HE]; rfl, hBW⟩

set_option maxRecDepth 100000 in
set_option maxHeartbeats 4000000 in
theorem touch_le (w : World) (s t : Sp) (k i j : Nat) (lo hi lo' hi' : Int) (hs : SpAt w s k lo hi) (ht : SpAt w t k lo' hi') (hk : k ≤ 300000000) (s0 : 0 ≤ s.bits) (s1 : s.bits ≤ 1000000) (t0 : 0 ≤ t.bits) (t1 : t.bits ≤ 1000000) (hc : t.bits ≤ s.bits) (hi1 : s.bits - s.bits = (i : Int)) (hj1 : s.bits - t.bits = (j : Int)) :
    Calls Try.prog 113 #[.agg #[.bool s.ln, .slice s.la s.lN s.lc, .bool s.hn, .slice s.ha s.hN s.hc, .int .i64 s.bits], .agg #[.bool t.ln, .slice t.la t.lN t.lc, .bool t.hn, .slice t.ha t.hN t.hc, .int .i64 t.bits]] w fun r w' => r = .returned (.bool (touB lo hi i lo' hi' j)) ∧ Below w.heap.size w w' := by
  obtain ⟨W, hW⟩ : ∃ W, W = (w.alloc (.cells #[.bool s.ln, .slice s.la s.lN s.lc, .bool s.hn, .slice s.ha s.hN s.hc, .int .i64 s.bits] 38)).alloc (.cells #[.bool t.ln, .slice t.la t.lN t.lc, .bool t.hn, .slice t.ha t.hN t.hc, .int .i64 t.bits] 38) := ⟨_, rfl⟩
  have hBW : Below w.heap.size w W := by rw [hW]; exact bl2 _ _ _
  have A : SpC W w.heap.size s := by rw [hW]; exact ⟨by simp [go_sem], by simp [go_sem], by simp [go_sem], by simp [go_sem], by simp [go_sem]⟩
  have G : SpC W (w.heap.size + 1) t := by rw [hW]; exact ⟨by simp [go_sem], by simp [go_sem], by simp [go_sem], by simp [go_sem], by simp [go_sem]⟩
  have FA : ∀ o, W.frozen? ⟨w.heap.size, o, none⟩ = false := by intro o; rw [hW]; simp [go_sem]
  have FG : ∀ o, W.frozen? ⟨w.heap.size + 1, o, none⟩ = false := by intro o; rw [hW]; simp [go_sem]
  have a1 := hide (downZ_up lo s.bits (s.bits) i hi1)
  have a2 := hide (downZ_upn hi s.bits (s.bits) i hi1)
  have a3 := hide (downZ_up lo' t.bits (s.bits) j hj1)
  have a4 := hide (downZ_upn hi' t.bits (s.bits) j hj1)
  have HS := hide (hs.below hBW)
  have HT := hide (ht.below hBW)
  have HA := hide A
  have HG := hide G
  have lA := A.lt
  have lG := G.lt
  have nAG : w.heap.size ≠ w.heap.size + 1 := by omega
  clear hi1 hj1 hs ht
  go_enter Try.func113, Try.ntmps113
  go_wp2_with fail
  rw [← hW]
  clear hW
  obtain ⟨x0, x1, x2, x3, x4⟩ := A
  obtain ⟨y0, y1, y2, y3, y4⟩ := G
  try go_wp2_with fail
  go_cut [] (fun wx => ∃ s2 t2 : Sp, SpC wx w.heap.size s2 ∧ SpC wx (w.heap.size + 1) t2 ∧ SpAt wx s2 (k + 62505) (lo * Q i) (hi * Q i) ∧ SpAt wx t2 (k + 62505) (lo' * Q j) (hi' * Q j) ∧ Below w.heap.size w wx)
  case first =>
    go_region_with
      (first
        | (go_at_call 22; have hq := hB1; refine (refTurn_int _ t k (s.bits) lo' hi' ((unhide HT).below hB1) hk t0 t1 (by omega) (by omega)).mono ?_; rintro r w2 ⟨u2, rfl, hub2, hup2, hb2⟩; rw [unhide a3, unhide a4] at hup2; clear hub2; have hB2 := bthen hB1 hb2; replace hup1 := hup1.below hb2; have l2A := Nat.lt_of_lt_of_le lA hB2.size; have l2G := Nat.lt_of_lt_of_le lG hB2.size; obtain ⟨a0, a1, a2, a3, a4⟩ := (unhide HA).below hB2; obtain ⟨g0, g1, g2, g3, g4⟩ := (unhide HG).below hB2; have fA2 : ∀ o, w2.frozen? ⟨w.heap.size, o, none⟩ = false := (fun o => (hB2.frozen (p := ⟨w.heap.size, o, none⟩) lA).trans (FA o)); have fG2 : ∀ o, w2.frozen? ⟨w.heap.size + 1, o, none⟩ = false := (fun o => (hB2.frozen (p := ⟨w.heap.size + 1, o, none⟩) lG).trans (FG o)))
        | (go_at_call 22; refine (refTurn_int _ s k (s.bits) lo hi ((unhide HS).below (by repeat' (first | with_reducible exact Below.refl _ _ | with_reducible refine Below.drew ?_))) hk s0 s1 (by omega) (by omega)).mono ?_; rintro r w1 ⟨u1, rfl, hub1, hup1, hb1⟩; rw [unhide a1, unhide a2] at hup1; clear hub1; have hB1 : Below W.heap.size W w1 := bthen (by repeat' (first | with_reducible exact Below.refl _ _ | with_reducible refine Below.drew ?_)) hb1; obtain ⟨b0, b1, b2, b3, b4⟩ := (unhide HA).below hB1; obtain ⟨d0, d1, d2, d3, d4⟩ := (unhide HG).below hB1; have l1A := Nat.lt_of_lt_of_le lA hB1.size; have l1G := Nat.lt_of_lt_of_le lG hB1.size))
    all_goals
      go_wp2_with fail
      go_meet
      have A2 : SpC w2 w.heap.size s := ⟨a0, a1, a2, a3, a4⟩
      have G2 : SpC w2 (w.heap.size + 1) t := ⟨g0, g1, g2, g3, g4⟩
      obtain ⟨p1, p2, p3, p4⟩ := two_sp A2 G2 nAG u1 u2
      exact ⟨u1, u2, p1, p2, p3 hup1, p3 hup2, set5 (set5 (bthen hBW hB2) (Nat.le_refl _) _ _ _ _ _) (Nat.le_succ _) _ _ _ _ _⟩
  case rest =>
  obtain ⟨s2, t2, A, G, hs, ht, hBW⟩ := hcut
  clear HA HG HS HT lA lG x0 x1 x2 x3 x4 y0 y1 y2 y3 y4 FA FG
  have lA := A.lt
  have lG := G.lt
  by_cases hq : lo * Q i ≤ hi' * Q j
  · have c1 : cmpInt (lo * Q i) (hi' * Q j) ≤ 0 := by unfold cmpInt; split; omega; rw [if_neg (by omega)]; omega
    have HE := hide (show decide (cmpInt (lo' * Q j) (hi * Q i) ≤ 0) = touB lo hi i lo' hi' j by rw [cmp_le0]; unfold touB; rw [decide_eq_true hq, Bool.true_and])
    obtain ⟨x0, x1, x2, x3, x4⟩ := A
    obtain ⟨y0, y1, y2, y3, y4⟩ := G
    clear hq
    go_wp2_with fail
    refine (cmp_int _ _ _ _ _ _ _ _ (k + 62505) (k + 62505) (lo * Q i) (hi' * Q j) _ hs.lo ht.hi).mono ?_
    rintro r w1 ⟨rfl, hb1⟩
    have A := (SpC.mk x0 x1 x2 x3 x4).below hb1
    have G := (SpC.mk y0 y1 y2 y3 y4).below hb1
    replace hs := hs.below hb1
    replace ht := ht.below hb1
    replace hBW := bthen hBW hb1
    clear x0 x1 x2 x3 x4 y0 y1 y2 y3 y4 hb1
    obtain ⟨x0, x1, x2, x3, x4⟩ := A
    obtain ⟨y0, y1, y2, y3, y4⟩ := G
    go_wp2_with fail
    refine (cmp_int _ _ _ _ _ _ _ _ (k + 62505) (k + 62505) (lo' * Q j) (hi * Q i) _ ht.lo hs.hi).mono ?_
    rintro r w2 ⟨rfl, hb2⟩
    replace hBW := bthen hBW hb2
    go_wp2_with fail
    go_ret
    exact ⟨by rw [← unhide HE]; rfl, hBW⟩
  · have c1 : ¬ cmpInt (lo * Q i) (hi' * Q j) ≤ 0 := by unfold cmpInt; rw [if_neg (by omega), if_pos (by omega)]; omega
    have HE := hide (show touB lo hi i lo' hi' j = false by unfold touB; rw [decide_eq_false hq, Bool.false_and])
    obtain ⟨x0, x1, x2, x3, x4⟩ := A
    obtain ⟨y0, y1, y2, y3, y4⟩ := G
    clear hq
    go_wp2_with fail
    refine (cmp_int _ _ _ _ _ _ _ _ (k + 62505) (k + 62505) (lo * Q i) (hi' * Q j) _ hs.lo ht.hi).mono ?_
    rintro r w1 ⟨rfl, hb1⟩
    replace hBW := bthen hBW hb1
    go_wp2_with fail
    go_ret
    exact ⟨by rw [unhide HE]; rfl, hBW⟩
end Go.Proofs.Ytgmnknmjainabaa

namespace Go.Proofs.Ytgmnknmjainabaa
set_option linter.unusedVariables false
set_option linter.unusedSimpArgs false
set_option linter.unnecessarySimpa false
open Go.RowKit
attribute [local go_sem ↓] Go.wp_at_zero Go.wp_at_succ

open Ex in
theorem sure_exp {b Kw ee : Nat} {x : Nat → Rat} {L H : Int} (h : SureOf b (ExpPr x Kw ee) L H) : Iv b (L, H) (Ev x) ∧ L ≤ H ∧ narB L H (Q b) 4 = true ∧ -Q (b + ee) ≤ L ∧ H ≤ Q (b + ee) := by
  obtain ⟨m, lo, hi, ⟨h1, h2, h3, h4, h5⟩, hm, e1, e2, h6⟩ := h
  have h7 := to_width (m := m) h2 h3
  have h8 : L ≤ H := by rw [e1, e2]; omega
  have q := Q_pos m
  have e3 : Q (b + m + ee) = Q (b + ee) * Q m := by rw [← Q_add]; congr 1; omega
  rw [e3] at h4 h5
  have r1 := round_abs (x := lo) (m := Q (b + ee)) (q := Q m) (by omega) (by omega) (by omega)
  have r2 := round_abs (x := hi) (m := Q (b + ee)) (q := Q m) (by omega) (by omega) (by omega)
  refine ⟨?_, h8, ?_, by rw [e1]; exact r1.1, by rw [e2]; exact r2.2.2.2⟩
  · have := Iv.to (B := b) (m := m) h1
    rw [e1, e2]; exact this
  · rcases h6 with h6 | h6
    · exact narB_small h8 (by omega)
    · exact h6
open Ex in
theorem sure_log {b : Nat} {p q : Int} {L H : Int} (h : SureOf b (LogPr b p q) L H) : (∃ l, IsLog l (fun _ => (p : Rat) / (q : Rat)) ∧ Iv b (L, H) l) ∧ L ≤ H ∧ narB L H (Q b) 4 = true ∧ -P 200 ≤ L ∧ H ≤ P 200 := by
  obtain ⟨m, lo, hi, ⟨⟨l, h0, h1⟩, h2, h3, h4, h5⟩, hm, e1, e2, h6⟩ := h
  have h7 := to_width (m := m) h2 h3
  have h8 : L ≤ H := by rw [e1, e2]; omega
  have q := Q_pos m
  rw [show b + m - b = m by omega] at h4 h5
  have r1 := round_abs (x := lo) (m := P 200) (q := Q m) (by omega) (by omega) (by omega)
  have r2 := round_abs (x := hi) (m := P 200) (q := Q m) (by omega) (by omega) (by omega)
  refine ⟨⟨l, h0, ?_⟩, h8, ?_, by rw [e1]; exact r1.1, by rw [e2]; exact r2.2.2.2⟩
  · have := Iv.to (B := b) (m := m) h1
    rw [e1, e2]; exact this
  · rcases h6 with h6 | h6
    · exact narB_small h8 (by omega)
    · exact h6
theorem iv_const (B : Nat) (z : Int) : Iv B (z, z) (fun _ => (z : Rat) / (Q B : Rat)) := Ex.Has.const Rat.le_refl Rat.le_refl
theorem begun_exp {L H : Int} (h : Iv 20 (L, H) (Ex.Ev (fun _ => ((0 : Int) : Rat) / ((1 : Int) : Rat)))) (hn : narB L H (Q 20) 4 = true) (hle : L ≤ H) : 0 < L := by
  have e0 : ((0 : Int) : Rat) / ((1 : Int) : Rat) = 0 := by
    rw [Rat.div_def]; exact Rat.zero_mul _
  rw [e0] at h
  have h1 : Iv 20 (L, H) (fun _ => (Q 20 : Rat) / (Q 20 : Rat)) := by
    refine h.congr (Ex.null_zero.of_eq_from 1 fun M hM => ?_)
    obtain ⟨m, rfl⟩ : ∃ m, M = m + 1 := ⟨M - 1, by omega⟩
    have q := Qr_pos 20
    have e1 : (Q 20 : Rat) / (Q 20 : Rat) = 1 := by rw [Rat.div_def, Rat.mul_inv_cancel _ (by grind)]
    show (Q 20 : Rat) / (Q 20 : Rat) - Ex.E 0 (m + 1) = 0
    rw [e1, Ex.E_zero]; grind
  have t := (iv_const 20 (Q 20)).touch h1
  have q20 : Q 20 = 1048576 := rfl
  rw [q20] at t hn
  simp only [] at t
  unfold narB at hn
  rw [decide_eq_true_iff] at hn
  refine Int.not_le.1 fun hL => ?_
  have hm : maxZ H (-L) ≤ H - L := by unfold maxZ; split <;> omega
  omega
theorem begun_log {L H : Int} (h : ∃ l, Ex.IsLog l (fun _ => ((1 : Int) : Rat) / ((1 : Int) : Rat)) ∧ Iv 20 (L, H) l) : L ≤ 0 ∧ 0 ≤ H := by
  obtain ⟨l, h1, h2⟩ := h
  have e0 : (fun _ : Nat => ((1 : Int) : Rat) / ((1 : Int) : Rat)) = fun _ => (1 : Rat) := funext fun _ => by rw [Rat.div_def]; exact Rat.mul_inv_cancel _ (by decide)
  rw [e0] at h1
  have hn := h1.uniq Ex.isLog_one
  have h3 : Iv 20 (L, H) (fun _ => ((0 : Int) : Rat) / (Q 20 : Rat)) := by
    refine h2.congr (hn.neg.of_eq fun M => ?_)
    have e1 : ((0 : Int) : Rat) / (Q 20 : Rat) = 0 := by rw [Rat.div_def]; exact Rat.zero_mul _
    rw [e1]; grind
  have t1 := (iv_const 20 0).touch h3
  have t2 := h3.touch (iv_const 20 0)
  have q20 : Q 20 = 1048576 := rfl
  rw [q20] at t1 t2
  simp only [] at t1 t2
  omega
theorem cmp_pos {x : Int} (h : 0 < x) : 0 < cmpInt x 0 := by unfold cmpInt; rw [if_neg (by omega), if_pos (by omega)]; omega
theorem cmp_npos {x : Int} (h : x ≤ 0) : cmpInt x 0 ≤ 0 := by unfold cmpInt; split <;> (try split) <;> omega
theorem cmp_nneg {x : Int} (h : 0 ≤ x) : 0 ≤ cmpInt x 0 := by unfold cmpInt; rw [if_neg (by omega)]; split <;> omega

set_option maxRecDepth 100000 in
set_option maxHeartbeats 4000000 in
theorem powerBegun_any (w : World) : Calls Try.prog 57 #[] w fun r w' => r = .returned (.bool true) ∧ Below w.heap.size w w' := by
  go_enter Try.func57, Try.ntmps57
  go_wp2_with fail
  refine (powerExp_ok 0 1 20 _ ⟨by omega, by omega, by omega, by omega⟩ (by omega) (by omega) 0 9 (by omega) (by omega) (by omega) (by decide) (by omega)).mono ?_
  rintro r' w1 ⟨L, H, hLH, s, rfl, hsb, hs, hb1⟩
  obtain ⟨g1, g2, g3, g4, g5⟩ := sure_exp hLH
  have hL := begun_exp g1 g3 g2
  have HSB := hide hsb
  clear hLH g1 g3 g4 g5 hsb
  obtain ⟨V, hV⟩ : ∃ V, V = w1.alloc (.cells #[.bool s.ln, .slice s.la s.lN s.lc, .bool s.hn, .slice s.ha s.hN s.hc, .int .i64 s.bits] 26) := ⟨_, rfl⟩
  have bV : Below w1.heap.size w1 V := by rw [hV]; exact bl1 _ _
  have S : SpC V w1.heap.size s := by rw [hV]; exact spc_new w1 s _
  replace hs := hs.below bV
  have hB : Below w.heap.size w V := bthen hb1 bV
  clear hb1 bV
  go_wp2_with fail
  rw [← hV]
  clear hV
  refine (powerLog_ok 1 1 20 _ ⟨by omega, by omega, by omega, by omega⟩ (by omega) (by omega) (by omega)).mono ?_
  rintro r' w2 ⟨L2, H2, hLH2, t, rfl, htb, ht, hb2⟩
  obtain ⟨f1, f2, f3, f4, f5⟩ := sure_log hLH2
  obtain ⟨k1, k2⟩ := begun_log f1
  have HTB := hide htb
  clear hLH2 f1 f3 f4 f5 htb
  replace S := S.below hb2
  replace hs := hs.below hb2
  replace hB := bthen hB hb2
  clear hb2
  obtain ⟨V2, hV2⟩ : ∃ V2, V2 = w2.alloc (.cells #[.bool t.ln, .slice t.la t.lN t.lc, .bool t.hn, .slice t.ha t.hN t.hc, .int .i64 t.bits] 26) := ⟨_, rfl⟩
  have bV2 : Below w2.heap.size w2 V2 := by rw [hV2]; exact bl1 _ _
  have T : SpC V2 w2.heap.size t := by rw [hV2]; exact spc_new w2 t _
  have lS := S.lt
  have x0 := S.c0
  have x1 := S.c1
  have x4 := S.c4
  rw [unhide HSB] at x4
  replace S := S.below bV2
  replace hs := hs.below bV2
  replace ht := ht.below bV2
  replace hB := bthen hB bV2
  clear bV2
  have c1 := cmp_pos hL
  have c2 := cmp_npos k1
  have c3 := cmp_nneg k2
  go_wp2_with fail
  rw [← hV2]
  clear hV2 x0 x1 x4
  refine (sign_int _ _ _ _ 250 L _ hs.lo).mono ?_
  rintro r' w3 ⟨rfl, hb3⟩
  replace T := T.below hb3
  replace ht := ht.below hb3
  replace hB := bthen hB hb3
  clear hb3
  have y0 := T.c0
  have y1 := T.c1
  go_wp2_with fail
  refine (sign_int _ _ _ _ 250 L2 _ ht.lo).mono ?_
  rintro r' w4 ⟨rfl, hb4⟩
  replace T := T.below hb4
  replace ht := ht.below hb4
  replace hB := bthen hB hb4
  clear hb4 y0 y1
  have y2 := T.c2
  have y3 := T.c3
  go_wp2_with fail
  refine (sign_int _ _ _ _ 250 H2 _ ht.hi).mono ?_
  rintro r' w5 ⟨rfl, hb5⟩
  replace T := T.below hb5
  replace hB := bthen hB hb5
  clear hb5 y2 y3
  have y4 := T.c4
  rw [unhide HTB] at y4
  go_wp2_with fail
  go_ret
  exact ⟨by simp, hB⟩

end Go.Proofs.Ytgmnknmjainabaa
