/-
  What tailsureref.Over answers of right spans, the second one more than 0, and that it leaves old memory alone.
  What tailsureref.Over answers of right spans, the second one less than 0; and both ways together; and that it leaves old memory alone.
  Choosing; quotients of numbers that are told by sequences; a power over a factorial, over a power of e. Plain arithmetic: no statement of the seat is proved here.
  How great a power of e is made at least; how wide a quotient by it; what is not below 0 and not more than 1. Plain arithmetic: no statement of the seat is proved here.
-/
import Derived.Test.YtgmnknmjainababGreatK10
namespace Go.Proofs.YtgmnknmjainababGreat
set_option linter.unusedVariables false
set_option linter.unusedSimpArgs false
set_option linter.unnecessarySimpa false
open Go.RowKit
attribute [local go_sem ↓] Go.wp_at_zero Go.wp_at_succ

/-- The ends of the quotients of what is from l to h over what is from p to q, p more than 0. -/
def ovLo (l h p q : Int) : Int := if l < 0 then l / p else l / q
def ovHi (l h p q : Int) : Int := if h < 0 then -(-h / q) else -(-h / p)

/-- What stands of tailsureref.Over behind its variables l, h (at BL, CL) and lo, hi (at BM, CM). -/
structure OVs (w wr : World) (s t : Sp) (k k1 k2 BL CL BM CM : Nat) (xL yL xM yM : Nm) (lo' hi' l h m n : Int) : Prop where
  A : SpC wr w.heap.size s
  G : SpC wr (w.heap.size + 1) t
  R : NoC wr (w.heap.size + 1 + 1)
  XL : NmC wr BL xL
  YL : NmC wr CL yL
  XM : NmC wr BM xM
  YM : NmC wr CM yM
  il : IntAt wr xL.neg xL.a xL.n xL.cap k1 l
  ih : IntAt wr yL.neg yL.a yL.n yL.cap k1 h
  im : IntAt wr xM.neg xM.a xM.n xM.cap k2 m
  jn : IntAt wr yM.neg yM.a yM.n yM.cap k2 n
  ht : SpAt wr t k lo' hi'
  fM : ∀ o, wr.frozen? ⟨BM, o, none⟩ = false
  fN : ∀ o, wr.frozen? ⟨CM, o, none⟩ = false
  hB : Below w.heap.size w wr
/-- Its variables lie apart. -/
structure OVd (w : World) (BL CL BM CM : Nat) : Prop where
  m1 : w.heap.size ≠ BM
  m2 : w.heap.size + 1 ≠ BM
  m3 : w.heap.size + 1 + 1 ≠ BM
  m4 : BL ≠ BM
  m5 : CL ≠ BM
  n1 : w.heap.size ≠ CM
  n2 : w.heap.size + 1 ≠ CM
  n3 : w.heap.size + 1 + 1 ≠ CM
  n4 : BL ≠ CM
  n5 : CL ≠ CM
  mn : BM ≠ CM
  le : w.heap.size ≤ BM ∧ w.heap.size ≤ CM
variable {w wr w' : World} {s t : Sp} {k k1 k2 BL CL BM CM : Nat} {xL yL xM yM : Nm} {lo' hi' l h m n : Int}
theorem OVs.below (D : OVs w wr s t k k1 k2 BL CL BM CM xL yL xM yM lo' hi' l h m n) (hb : Below wr.heap.size wr w') : OVs w w' s t k k1 k2 BL CL BM CM xL yL xM yM lo' hi' l h m n :=
  ⟨D.A.below hb, D.G.below hb, D.R.below hb, D.XL.below hb, D.YL.below hb, D.XM.below hb, D.YM.below hb, D.il.below hb, D.ih.below hb, D.im.below hb, D.jn.below hb, D.ht.below hb, fun o => (hb.frozen (p := ⟨BM, o, none⟩) D.XM.lt).trans (D.fM o), fun o => (hb.frozen (p := ⟨CM, o, none⟩) D.YM.lt).trans (D.fN o), bthen D.hB hb⟩
theorem nm_put {w : World} {B : Nat} {y : Nm} (h : NmC w B y) (x : Nm) : NmC ((w.setCell ⟨B, 0, none⟩ (.bool x.neg)).setCell ⟨B, 1, none⟩ (.slice x.a x.n x.cap)) B x := by
  obtain ⟨q0, q1⟩ := h
  constructor <;> simp [go_sem, q0, q1]
theorem OVs.setM (D : OVs w wr s t k k1 k2 BL CL BM CM xL yL xM yM lo' hi' l h m n) (E : OVd w BL CL BM CM) (x : Nm) {z : Int} (hz : IntAt wr x.neg x.a x.n x.cap k2 z) :
    OVs w ((wr.setCell ⟨BM, 0, none⟩ (.bool x.neg)).setCell ⟨BM, 1, none⟩ (.slice x.a x.n x.cap)) s t k k1 k2 BL CL BM CM xL yL x yM lo' hi' l h z n := by
  have c0 := D.XM.c0
  have c1 := D.XM.c1
  exact ⟨D.A.put2 E.m1 _ _, D.G.put2 E.m2 _ _, D.R.put2 E.m3 _ _, D.XL.put2 E.m4 _ _, D.YL.put2 E.m5 _ _, nm_put D.XM x, D.YM.put2 (fun e => E.mn e.symm) _ _, D.il.put2 c0 c1 _ _, D.ih.put2 c0 c1 _ _, hz.put2 c0 c1 _ _, D.jn.put2 c0 c1 _ _, D.ht.put2 c0 c1 _ _, put_fz D.fM _ _, put_fz D.fN _ _, set2 D.hB E.le.1 _ _⟩
theorem OVs.setN (D : OVs w wr s t k k1 k2 BL CL BM CM xL yL xM yM lo' hi' l h m n) (E : OVd w BL CL BM CM) (x : Nm) {z : Int} (hz : IntAt wr x.neg x.a x.n x.cap k2 z) :
    OVs w ((wr.setCell ⟨CM, 0, none⟩ (.bool x.neg)).setCell ⟨CM, 1, none⟩ (.slice x.a x.n x.cap)) s t k k1 k2 BL CL BM CM xL yL xM x lo' hi' l h m z := by
  have c0 := D.YM.c0
  have c1 := D.YM.c1
  exact ⟨D.A.put2 E.n1 _ _, D.G.put2 E.n2 _ _, D.R.put2 E.n3 _ _, D.XL.put2 E.n4 _ _, D.YL.put2 E.n5 _ _, D.XM.put2 E.mn _ _, nm_put D.YM x, D.il.put2 c0 c1 _ _, D.ih.put2 c0 c1 _ _, D.im.put2 c0 c1 _ _, hz.put2 c0 c1 _ _, D.ht.put2 c0 c1 _ _, put_fz D.fM _ _, put_fz D.fN _ _, set2 D.hB E.le.2 _ _⟩

set_option maxRecDepth 100000 in
set_option maxHeartbeats 8000000 in
theorem refOver_pos (w : World) (s t : Sp) (k b : Nat) (lo hi lo' hi' : Int) (hs : SpAt w s k lo hi) (ht : SpAt w t k lo' hi') (hk : k ≤ 50000000) (hb : b ≤ 1000000) (hbits : s.bits = b) (hp : 0 < lo') (hp2 : lo' ≤ hi') :
    Calls Tryz.prog 91 #[.agg #[.bool s.ln, .slice s.la s.lN s.lc, .bool s.hn, .slice s.ha s.hN s.hc, .int .i64 s.bits], .agg #[.bool t.ln, .slice t.la t.lN t.lc, .bool t.hn, .slice t.ha t.hN t.hc, .int .i64 t.bits]] w (SpanAns w b (k + b / 16 + 20) (ovLo (lo * Q b) (hi * Q b) lo' hi') (ovHi (lo * Q b) (hi * Q b) lo' hi')) := by
  have HBT := hide hbits
  have t1 : ¬ cmpInt hi' 0 < 0 := by unfold cmpInt; rw [if_neg (by omega)]; split <;> omega
  clear hbits
  obtain ⟨W, hW⟩ : ∃ W, W = ((w.alloc (.cells #[.bool s.ln, .slice s.la s.lN s.lc, .bool s.hn, .slice s.ha s.hN s.hc, .int .i64 s.bits] 36)).alloc (.cells #[.bool t.ln, .slice t.la t.lN t.lc, .bool t.hn, .slice t.ha t.hN t.hc, .int .i64 t.bits] 36)).alloc (.cells #[.bool false, .slice none 0 0, .bool false, .slice none 0 0, .int .i64 0] 36) := ⟨_, rfl⟩
  have hBW : Below w.heap.size w W := by rw [hW]; exact bl3 _ _ _ _
  have A : SpC W w.heap.size s := by rw [hW]; exact ⟨by simp [go_sem], by simp [go_sem], by simp [go_sem], by simp [go_sem], by simp [go_sem]⟩
  have G : SpC W (w.heap.size + 1) t := by rw [hW]; exact ⟨by simp [go_sem], by simp [go_sem], by simp [go_sem], by simp [go_sem], by simp [go_sem]⟩
  have R : NoC W (w.heap.size + 1 + 1) := by rw [hW]; exact ⟨by simp [go_sem], by simp [go_sem], by simp [go_sem], by simp [go_sem], by simp [go_sem], fun o => by simp [go_sem]⟩
  replace hs := hide (hs.below hBW)
  replace ht := hide (ht.below hBW)
  go_enter Tryz.func91, Tryz.ntmps91
  go_wp2_with fail
  rw [← hW]
  clear hW
  refine (sign_int _ _ _ _ k hi' _ (unhide ht).hi).mono ?_
  rintro r w0 ⟨rfl, hb0⟩
  replace hBW := bthen hBW hb0
  replace A := A.below hb0
  replace G := G.below hb0
  replace R := R.below hb0
  replace hs := hide ((unhide hs).below hb0)
  replace ht := hide ((unhide ht).below hb0)
  clear hb0
  have lA := A.lt
  obtain ⟨x0, x1, x2, x3, x4⟩ := A
  have A : SpC w0 w.heap.size s := ⟨x0, x1, x2, x3, x4⟩
  go_wp2_with fail
  clear x0 x1 x2 x3 x4 lA
  rw [unhide HBT]
  refine (power2_int b _ (by omega)).mono ?_
  rintro r w1 ⟨neg1, a1, n1, c1, rfl, hint1, hb1⟩
  replace hBW := bthen hBW hb1
  replace A := A.below hb1
  replace G := G.below hb1
  replace R := R.below hb1
  replace hs := hide ((unhide hs).below hb1)
  replace ht := hide ((unhide ht).below hb1)
  clear hb1
  obtain ⟨W1, hW1⟩ : ∃ W', W' = w1.alloc (.cells #[.bool neg1, .slice a1 n1 c1] 26) := ⟨_, rfl⟩
  have hc1 : Below w1.heap.size w1 W1 := by rw [hW1]; exact bl1 _ _
  have X1 : NmC W1 w1.heap.size ⟨neg1, a1, n1, c1⟩ := by rw [hW1]; exact nmc_new w1 ⟨neg1, a1, n1, c1⟩ _
  replace hBW := bthen hBW hc1
  replace A := A.below hc1
  replace G := G.below hc1
  replace R := R.below hc1
  replace hs := hide ((unhide hs).below hc1)
  replace ht := hide ((unhide ht).below hc1)
  replace hint1 := hide (hint1.below hc1)
  have lA := A.lt
  have lX := X1.lt
  have lR1 := R.lt
  have hBW0 := hBW
  have HK := hide (show ∀ w', Below W1.heap.size W1 w' → (w'.cell? ⟨w.heap.size, 0, none⟩ = some (.bool s.ln) ∧ w'.cell? ⟨w.heap.size, 1, none⟩ = some (.slice s.la s.lN s.lc) ∧ w'.cell? ⟨w.heap.size, 2, none⟩ = some (.bool s.hn) ∧ w'.cell? ⟨w.heap.size, 3, none⟩ = some (.slice s.ha s.hN s.hc) ∧ w'.cell? ⟨w1.heap.size, 0, none⟩ = some (.bool neg1) ∧ w'.cell? ⟨w1.heap.size, 1, none⟩ = some (.slice a1 n1 c1)) from fun w' hB => ⟨(A.below hB).c0, (A.below hB).c1, (A.below hB).c2, (A.below hB).c3, (X1.below hB).c0, (X1.below hB).c1⟩)
  obtain ⟨x0, x1, x2, x3, z0, z1⟩ := unhide HK _ (Below.refl _ _)
  go_wp2_with fail
  rw [← hW1]
  clear hW1
  go_cut [6, 7] (fun p q wx => TwoV W1 wx (k + b / 16 + 5) (k + b / 16 + 5) (lo * Q b) (hi * Q b) p q)
  case first =>
    go_region_held3 (fun w' => w'.cell? ⟨w.heap.size, 0, none⟩ = some (.bool s.ln) ∧ w'.cell? ⟨w.heap.size, 1, none⟩ = some (.slice s.la s.lN s.lc) ∧ w'.cell? ⟨w.heap.size, 2, none⟩ = some (.bool s.hn) ∧ w'.cell? ⟨w.heap.size, 3, none⟩ = some (.slice s.ha s.hN s.hc) ∧ w'.cell? ⟨w1.heap.size, 0, none⟩ = some (.bool neg1) ∧ w'.cell? ⟨w1.heap.size, 1, none⟩ = some (.slice a1 n1 c1)) (exact unhide HK _ (by repeat' (first | with_reducible exact hBL2 | with_reducible exact hBL1 | with_reducible exact Below.refl _ _ | with_reducible refine Below.drew ?_ | with_reducible refine balloc ?_ _ | with_reducible refine Below.setCell ?_ (by first | with_reducible exact Nat.le_refl _ | with_reducible exact Nat.le_succ _ | with_reducible exact hlL1 | with_reducible exact Nat.le_succ_of_le hlL1 | with_reducible exact hlL2 | with_reducible exact Nat.le_succ_of_le hlL2) _)))
      (first
        | (go_at_call 66; have hq := hBL1; refine (mul_int _ _ _ _ _ _ _ _ k (b / 16 + 5) hi (Q b) _ ((unhide hs).hi.below (by repeat' (first | with_reducible exact hBL1 | with_reducible exact Below.refl _ _ | with_reducible refine Below.drew ?_ | with_reducible refine balloc ?_ _))) ((unhide hint1).below (by repeat' (first | with_reducible exact hBL1 | with_reducible exact Below.refl _ _ | with_reducible refine Below.drew ?_ | with_reducible refine balloc ?_ _))) (by omega) (by omega)).mono ?_; rintro r wL2 ⟨negL2, aL2, nL2, cL2, rfl, hintL2, hbL2⟩; have hCL2 : Below wL1.heap.size wL1 wL2 := (by first | with_reducible exact hbL2 | with_reducible exact bthen (bl1 _ _) hbL2 | with_reducible exact bthen (bl2 _ _ _) hbL2); have hBL2 := bthen hBL1 hCL2; (first | with_reducible have gaL2 := (noi_new wL1 26).below hbL2 | with_reducible have gaL2 := ((noi_new wL1 26).below (bl1 _ _)).below hbL2 | skip); (try with_reducible have gbL2 := (noi_new' (wL1.alloc _) (wL1.heap.size + 1) (hs1 _ _) 26).below hbL2); replace hintL1 := hintL1.below hCL2; (try have maL1 := gaL1.lt); (try have mbL1 := gbL1.lt); (try replace gaL1 := gaL1.below hCL2); (try replace gbL1 := gbL1.below hCL2); have hlL2 := hBL2.size; (try have eaL1 := gaL1); (try obtain ⟨zaL10, zaL11, zaL12⟩ := eaL1); (try have yaL1 := gaL1.lt); (try have ebL1 := gbL1); (try obtain ⟨zbL10, zbL11, zbL12⟩ := ebL1); (try have ybL1 := gbL1.lt); (try have eaL2 := gaL2); (try obtain ⟨zaL20, zaL21, zaL22⟩ := eaL2); (try have yaL2 := gaL2.lt); (try have ebL2 := gbL2); (try obtain ⟨zbL20, zbL21, zbL22⟩ := ebL2); (try have ybL2 := gbL2.lt))
        | (go_at_call 66; refine (mul_int _ _ _ _ _ _ _ _ k (b / 16 + 5) lo (Q b) _ ((unhide hs).lo.below (by repeat' (first | with_reducible exact Below.refl _ _ | with_reducible refine Below.drew ?_ | with_reducible refine balloc ?_ _))) ((unhide hint1).below (by repeat' (first | with_reducible exact Below.refl _ _ | with_reducible refine Below.drew ?_ | with_reducible refine balloc ?_ _))) (by omega) (by omega)).mono ?_; rintro r wL1 ⟨negL1, aL1, nL1, cL1, rfl, hintL1, hbL1⟩; have hBL1 : Below W1.heap.size W1 wL1 := (by first | with_reducible exact bthen (Below.refl _ _).drew hbL1 | with_reducible exact bthen (bl1 _ _).drew hbL1 | with_reducible exact bthen (bl2 _ _ _).drew hbL1); (first | with_reducible have gaL1 := ((noi_new W1 26).below (Below.refl _ _).drew).below hbL1 | with_reducible have gaL1 := ((noi_new W1 26).below (bl1 _ _).drew).below hbL1 | skip); (try with_reducible have gbL1 := ((noi_new' (W1.alloc _) (W1.heap.size + 1) (hs1 _ _) 26).below (Below.refl _ _).drew).below hbL1); have hlL1 := hBL1.size))
    all_goals
      go_wp2_with fail
      go_meet
      first
        | with_reducible exact two_aa (x := (Nm.mk negL1 aL1 nL1 cL1)) (y := (Nm.mk negL2 aL2 nL2 cL2)) hBL2 (IntAt.mono hintL1 (by omega)) (IntAt.mono hintL2 (by omega))
        | with_reducible exact two_aa' (x := (Nm.mk negL1 aL1 nL1 cL1)) (y := (Nm.mk negL2 aL2 nL2 cL2)) hBL2 (IntAt.mono hintL1 (by omega)) (IntAt.mono hintL2 (by omega))
        | with_reducible exact two_sa (x := (Nm.mk negL1 aL1 nL1 cL1)) (y := (Nm.mk negL2 aL2 nL2 cL2)) hBL2 (IntAt.mono hintL1 (by omega)) (IntAt.mono hintL2 (by omega)) (by assumption) (by first | with_reducible exact Nat.le_refl _ | with_reducible exact Nat.le_succ _ | with_reducible exact hlL1 | with_reducible exact Nat.le_succ_of_le hlL1 | with_reducible exact hlL2 | with_reducible exact Nat.le_succ_of_le hlL2)
        | with_reducible exact two_as (x := (Nm.mk negL1 aL1 nL1 cL1)) (y := (Nm.mk negL2 aL2 nL2 cL2)) hBL2 (IntAt.mono hintL1 (by omega)) (IntAt.mono hintL2 (by omega)) (by assumption) (by first | with_reducible exact Nat.le_refl _ | with_reducible exact Nat.le_succ _ | with_reducible exact hlL1 | with_reducible exact Nat.le_succ_of_le hlL1 | with_reducible exact hlL2 | with_reducible exact Nat.le_succ_of_le hlL2)
        | with_reducible exact two_ss (x := (Nm.mk negL1 aL1 nL1 cL1)) (y := (Nm.mk negL2 aL2 nL2 cL2)) hBL2 (IntAt.mono hintL1 (by omega)) (IntAt.mono hintL2 (by omega)) (by assumption) (by assumption) (by first | with_reducible exact Nat.le_refl _ | with_reducible exact Nat.le_succ _ | with_reducible exact hlL1 | with_reducible exact Nat.le_succ_of_le hlL1 | with_reducible exact hlL2 | with_reducible exact Nat.le_succ_of_le hlL2) (by first | with_reducible exact Nat.le_refl _ | with_reducible exact Nat.le_succ _ | with_reducible exact hlL1 | with_reducible exact Nat.le_succ_of_le hlL1 | with_reducible exact hlL2 | with_reducible exact Nat.le_succ_of_le hlL2) (by omega)
  case rest =>
  obtain ⟨⟨BL, xL, rfl, jL0, jL1, hintL, hHL, hltL⟩, ⟨CL, yL, rfl, jL2, jL3, hjntL, hJL, hjtL⟩, hneL, hfzL, hfyL, hblL⟩ := hcut
  have XL : NmC wc BL xL := ⟨jL0, jL1⟩
  have YL : NmC wc CL yL := ⟨jL2, jL3⟩
  replace hneL : BL ≠ CL := fun e9 => hneL (by rw [e9])
  replace hfzL : ∀ o, wc.frozen? ⟨BL, o, none⟩ = false := hfzL _ rfl
  replace hfyL : ∀ o, wc.frozen? ⟨CL, o, none⟩ = false := hfyL _ rfl
  replace hBW := bthen hBW hblL
  replace A := A.below hblL
  replace G := G.below hblL
  replace R := R.below hblL
  replace hs := hide ((unhide hs).below hblL)
  replace ht := hide ((unhide ht).below hblL)
  replace hintL := hide hintL
  replace hjntL := hide hjntL
  have nRL : w.heap.size + 1 + 1 ≠ BL := Nat.ne_of_lt (Nat.lt_of_lt_of_le lR1 hHL)
  clear x0 x1 x2 x3 z0 z1 HK lA lX X1 hint1 hblL hfzL hfyL hneL hc1
  obtain ⟨W2, hW2⟩ : ∃ W', W' = wc := ⟨_, rfl⟩
  subst hW2
  have HK := hide (show ∀ w', Below W2.heap.size W2 w' → (w'.cell? ⟨w.heap.size + 1, 0, none⟩ = some (.bool t.ln) ∧ w'.cell? ⟨w.heap.size + 1, 1, none⟩ = some (.slice t.la t.lN t.lc) ∧ w'.cell? ⟨w.heap.size + 1, 2, none⟩ = some (.bool t.hn) ∧ w'.cell? ⟨w.heap.size + 1, 3, none⟩ = some (.slice t.ha t.hN t.hc) ∧ w'.cell? ⟨BL, 0, none⟩ = some (.bool xL.neg) ∧ w'.cell? ⟨BL, 1, none⟩ = some (.slice xL.a xL.n xL.cap) ∧ w'.cell? ⟨CL, 0, none⟩ = some (.bool yL.neg) ∧ w'.cell? ⟨CL, 1, none⟩ = some (.slice yL.a yL.n yL.cap)) from fun w' hB => ⟨(G.below hB).c0, (G.below hB).c1, (G.below hB).c2, (G.below hB).c3, (XL.below hB).c0, (XL.below hB).c1, (YL.below hB).c0, (YL.below hB).c1⟩)
  have lG := G.lt
  have lX := XL.lt
  have lY := YL.lt
  have lR2 := R.lt
  obtain ⟨x0, x1, x2, x3, z0, z1, z2, z3⟩ := unhide HK _ (Below.refl _ _)
  go_wp2_with fail
  go_cut [8, 9] (fun p q wx => TwoV W2 wx (k + b / 16 + 14) (k + b / 16 + 14) (lo * Q b / hi') (-(-(hi * Q b) / lo')) p q)
  case first =>
    go_region_held3 (fun w' => w'.cell? ⟨w.heap.size + 1, 0, none⟩ = some (.bool t.ln) ∧ w'.cell? ⟨w.heap.size + 1, 1, none⟩ = some (.slice t.la t.lN t.lc) ∧ w'.cell? ⟨w.heap.size + 1, 2, none⟩ = some (.bool t.hn) ∧ w'.cell? ⟨w.heap.size + 1, 3, none⟩ = some (.slice t.ha t.hN t.hc) ∧ w'.cell? ⟨BL, 0, none⟩ = some (.bool xL.neg) ∧ w'.cell? ⟨BL, 1, none⟩ = some (.slice xL.a xL.n xL.cap) ∧ w'.cell? ⟨CL, 0, none⟩ = some (.bool yL.neg) ∧ w'.cell? ⟨CL, 1, none⟩ = some (.slice yL.a yL.n yL.cap)) (exact unhide HK _ (by repeat' (first | with_reducible exact hBM2 | with_reducible exact hBM1 | with_reducible exact Below.refl _ _ | with_reducible refine Below.drew ?_ | with_reducible refine balloc ?_ _ | with_reducible refine Below.setCell ?_ (by first | with_reducible exact Nat.le_refl _ | with_reducible exact Nat.le_succ _ | with_reducible exact hlM1 | with_reducible exact Nat.le_succ_of_le hlM1 | with_reducible exact hlM2 | with_reducible exact Nat.le_succ_of_le hlM2) _)))
      (first
        | (go_at_call 109; have hq := hBM1; refine (refUp_any _ _ _ _ _ _ _ _ (k + b / 16 + 5) k (hi * Q b) lo' _ ((unhide hjntL).below (by repeat' (first | with_reducible exact hBM1 | with_reducible exact Below.refl _ _ | with_reducible refine Below.drew ?_ | with_reducible refine balloc ?_ _))) ((unhide ht).lo.below (by repeat' (first | with_reducible exact hBM1 | with_reducible exact Below.refl _ _ | with_reducible refine Below.drew ?_ | with_reducible refine balloc ?_ _))) (by omega) (by omega) (by omega)).mono ?_; rintro r wM2 ⟨negM2, aM2, nM2, cM2, rfl, hintM2, hbM2⟩; have hCM2 : Below wM1.heap.size wM1 wM2 := (by first | with_reducible exact hbM2 | with_reducible exact bthen (bl1 _ _) hbM2 | with_reducible exact bthen (bl2 _ _ _) hbM2); have hBM2 := bthen hBM1 hCM2; (first | with_reducible have gaM2 := (noi_new wM1 26).below hbM2 | with_reducible have gaM2 := ((noi_new wM1 26).below (bl1 _ _)).below hbM2 | skip); (try with_reducible have gbM2 := (noi_new' (wM1.alloc _) (wM1.heap.size + 1) (hs1 _ _) 26).below hbM2); replace hintM1 := hintM1.below hCM2; (try have maM1 := gaM1.lt); (try have mbM1 := gbM1.lt); (try replace gaM1 := gaM1.below hCM2); (try replace gbM1 := gbM1.below hCM2); have hlM2 := hBM2.size; (try have eaM1 := gaM1); (try obtain ⟨zaM10, zaM11, zaM12⟩ := eaM1); (try have yaM1 := gaM1.lt); (try have ebM1 := gbM1); (try obtain ⟨zbM10, zbM11, zbM12⟩ := ebM1); (try have ybM1 := gbM1.lt); (try have eaM2 := gaM2); (try obtain ⟨zaM20, zaM21, zaM22⟩ := eaM2); (try have yaM2 := gaM2.lt); (try have ebM2 := gbM2); (try obtain ⟨zbM20, zbM21, zbM22⟩ := ebM2); (try have ybM2 := gbM2.lt))
        | (go_at_call 108; refine (refDown_any _ _ _ _ _ _ _ _ (k + b / 16 + 5) k (lo * Q b) hi' _ ((unhide hintL).below (by repeat' (first | with_reducible exact Below.refl _ _ | with_reducible refine Below.drew ?_ | with_reducible refine balloc ?_ _))) ((unhide ht).hi.below (by repeat' (first | with_reducible exact Below.refl _ _ | with_reducible refine Below.drew ?_ | with_reducible refine balloc ?_ _))) (by omega) (by omega) (by omega)).mono ?_; rintro r wM1 ⟨negM1, aM1, nM1, cM1, rfl, hintM1, hbM1⟩; have hBM1 : Below W2.heap.size W2 wM1 := (by first | with_reducible exact bthen (Below.refl _ _).drew hbM1 | with_reducible exact bthen (bl1 _ _).drew hbM1 | with_reducible exact bthen (bl2 _ _ _).drew hbM1); (first | with_reducible have gaM1 := ((noi_new W2 26).below (Below.refl _ _).drew).below hbM1 | with_reducible have gaM1 := ((noi_new W2 26).below (bl1 _ _).drew).below hbM1 | skip); (try with_reducible have gbM1 := ((noi_new' (W2.alloc _) (W2.heap.size + 1) (hs1 _ _) 26).below (Below.refl _ _).drew).below hbM1); have hlM1 := hBM1.size))
    all_goals
      go_wp2_with fail
      go_meet
      first
        | with_reducible exact two_aa (x := (Nm.mk negM1 aM1 nM1 cM1)) (y := (Nm.mk negM2 aM2 nM2 cM2)) hBM2 (IntAt.mono hintM1 (by omega)) (IntAt.mono hintM2 (by omega))
        | with_reducible exact two_aa' (x := (Nm.mk negM1 aM1 nM1 cM1)) (y := (Nm.mk negM2 aM2 nM2 cM2)) hBM2 (IntAt.mono hintM1 (by omega)) (IntAt.mono hintM2 (by omega))
        | with_reducible exact two_sa (x := (Nm.mk negM1 aM1 nM1 cM1)) (y := (Nm.mk negM2 aM2 nM2 cM2)) hBM2 (IntAt.mono hintM1 (by omega)) (IntAt.mono hintM2 (by omega)) (by assumption) (by first | with_reducible exact Nat.le_refl _ | with_reducible exact Nat.le_succ _ | with_reducible exact hlM1 | with_reducible exact Nat.le_succ_of_le hlM1 | with_reducible exact hlM2 | with_reducible exact Nat.le_succ_of_le hlM2)
        | with_reducible exact two_as (x := (Nm.mk negM1 aM1 nM1 cM1)) (y := (Nm.mk negM2 aM2 nM2 cM2)) hBM2 (IntAt.mono hintM1 (by omega)) (IntAt.mono hintM2 (by omega)) (by assumption) (by first | with_reducible exact Nat.le_refl _ | with_reducible exact Nat.le_succ _ | with_reducible exact hlM1 | with_reducible exact Nat.le_succ_of_le hlM1 | with_reducible exact hlM2 | with_reducible exact Nat.le_succ_of_le hlM2)
        | with_reducible exact two_ss (x := (Nm.mk negM1 aM1 nM1 cM1)) (y := (Nm.mk negM2 aM2 nM2 cM2)) hBM2 (IntAt.mono hintM1 (by omega)) (IntAt.mono hintM2 (by omega)) (by assumption) (by assumption) (by first | with_reducible exact Nat.le_refl _ | with_reducible exact Nat.le_succ _ | with_reducible exact hlM1 | with_reducible exact Nat.le_succ_of_le hlM1 | with_reducible exact hlM2 | with_reducible exact Nat.le_succ_of_le hlM2) (by first | with_reducible exact Nat.le_refl _ | with_reducible exact Nat.le_succ _ | with_reducible exact hlM1 | with_reducible exact Nat.le_succ_of_le hlM1 | with_reducible exact hlM2 | with_reducible exact Nat.le_succ_of_le hlM2) (by omega)
  case rest =>
  obtain ⟨⟨BM, xM, rfl, jM0, jM1, hintM, hHM, hltM⟩, ⟨CM, yM, rfl, jM2, jM3, hjntM, hJM, hjtM⟩, hneM, hfzM, hfyM, hblM⟩ := hcut
  have XM : NmC wc BM xM := ⟨jM0, jM1⟩
  have YM : NmC wc CM yM := ⟨jM2, jM3⟩
  replace hneM : BM ≠ CM := fun e9 => hneM (by rw [e9])
  replace hfzM : ∀ o, wc.frozen? ⟨BM, o, none⟩ = false := hfzM _ rfl
  replace hfyM : ∀ o, wc.frozen? ⟨CM, o, none⟩ = false := hfyM _ rfl
  replace hBW := bthen hBW hblM
  replace A := A.below hblM
  replace G := G.below hblM
  replace R := R.below hblM
  replace XL := XL.below hblM
  replace YL := YL.below hblM
  replace ht := (unhide ht).below hblM
  replace hintL := (unhide hintL).below hblM
  replace hjntL := (unhide hjntL).below hblM
  have D : OVs w wc s t k (k + b / 16 + 5) (k + b / 16 + 14) BL CL BM CM xL yL xM yM lo' hi' (lo * Q b) (hi * Q b) (lo * Q b / hi') (-(-(hi * Q b) / lo')) := ⟨A, G, R, XL, YL, XM, YM, hintL, hjntL, hintM, hjntM, ht, hfzM, hfyM, hBW⟩
  have E : OVd w BL CL BM CM := by
    have a1 := hBW0.size
    exact ⟨by omega, by omega, by omega, by omega, by omega, by omega, by omega, by omega, by omega, by omega, by omega, by omega⟩
  clear x0 x1 x2 x3 z0 z1 z2 z3 HK lG lX lY hblM hs A G R XL YL XM YM hintL hjntL hintM hjntM ht hfzM hfyM hBW jM0 jM1 jM2 jM3 jL0 jL1 jL2 jL3 lR2 lR1 hltL hjtL hltM hjtM nRL hneM hHL hJL hHM hJM hBW0
  have lL := D.XL.lt
  have lC := D.YL.lt
  have lM := D.XM.lt
  have lN := D.YM.lt
  have lG := D.G.lt
  have lA := D.A.lt
  obtain ⟨i0, i1⟩ := D.XL
  obtain ⟨i2, i3⟩ := D.YL
  obtain ⟨i4, i5⟩ := D.XM
  obtain ⟨i6, i7⟩ := D.YM
  obtain ⟨y0, y1, y2, y3, y4⟩ := D.G
  obtain ⟨e0, e1, e2, e3, e4⟩ := D.A
  have fM := D.fM
  have fN := D.fN
  go_wp2_with fail
  refine (sign_int _ _ _ _ (k + b / 16 + 5) (lo * Q b) _ D.il).mono ?_
  rintro r w3 ⟨rfl, hb3⟩
  replace D := D.below hb3
  clear hb3 i0 i1 i2 i3 i4 i5 i6 i7 y0 y1 y2 y3 y4 e0 e1 e2 e3 e4 fM fN lL lC lM lN lG lA
  by_cases c1 : lo * Q b < 0
  · have t2 : cmpInt (lo * Q b) 0 < 0 := by unfold cmpInt; rw [if_pos c1]; omega
    have HO1 := hide (show ovLo (lo * Q b) (hi * Q b) lo' hi' = lo * Q b / lo' by unfold ovLo; rw [if_pos c1])
    clear c1
    have lL := D.XL.lt
    have lC := D.YL.lt
    have lM := D.XM.lt
    have lN := D.YM.lt
    have lG := D.G.lt
    have lA := D.A.lt
    obtain ⟨i0, i1⟩ := D.XL
    obtain ⟨i2, i3⟩ := D.YL
    obtain ⟨i4, i5⟩ := D.XM
    obtain ⟨i6, i7⟩ := D.YM
    obtain ⟨y0, y1, y2, y3, y4⟩ := D.G
    obtain ⟨e0, e1, e2, e3, e4⟩ := D.A
    have fM := D.fM
    have fN := D.fN
    go_wp2_with fail
    refine (refDown_any _ _ _ _ _ _ _ _ (k + b / 16 + 5) k (lo * Q b) lo' _ D.il D.ht.lo (by omega) (by omega) (by omega)).mono ?_
    rintro r w4 ⟨neg4, a4, n4, c4, rfl, hint4, hb4⟩
    replace D := D.below hb4
    clear hb4 i0 i1 i2 i3 i4 i5 i6 i7 y0 y1 y2 y3 y4 e0 e1 e2 e3 e4 fM fN lL lC lM lN lG lA
    have lL := D.XL.lt
    have lC := D.YL.lt
    have lM := D.XM.lt
    have lN := D.YM.lt
    have lG := D.G.lt
    have lA := D.A.lt
    obtain ⟨i0, i1⟩ := D.XL
    obtain ⟨i2, i3⟩ := D.YL
    obtain ⟨i4, i5⟩ := D.XM
    obtain ⟨i6, i7⟩ := D.YM
    obtain ⟨y0, y1, y2, y3, y4⟩ := D.G
    obtain ⟨e0, e1, e2, e3, e4⟩ := D.A
    have fM := D.fM
    have fN := D.fN
    have D2 := D.setM E ⟨neg4, a4, n4, c4⟩ (hint4.mono (by omega))
    obtain ⟨V4, hV4⟩ : ∃ V', V' = (w4.setCell ⟨BM, 0, none⟩ (.bool neg4)).setCell ⟨BM, 1, none⟩ (.slice a4 n4 c4) := ⟨_, rfl⟩
    rw [← hV4] at D2
    go_upto_region 8 with fail
    rw [← hV4]
    clear hV4 D i0 i1 i2 i3 i4 i5 i6 i7 y0 y1 y2 y3 y4 e0 e1 e2 e3 e4 fM fN lL lC lM lN lG lA
    have D := D2
    clear D2
    have lL := D.XL.lt
    have lC := D.YL.lt
    have lM := D.XM.lt
    have lN := D.YM.lt
    have lG := D.G.lt
    have lA := D.A.lt
    obtain ⟨i0, i1⟩ := D.XL
    obtain ⟨i2, i3⟩ := D.YL
    obtain ⟨i4, i5⟩ := D.XM
    obtain ⟨i6, i7⟩ := D.YM
    obtain ⟨y0, y1, y2, y3, y4⟩ := D.G
    obtain ⟨e0, e1, e2, e3, e4⟩ := D.A
    have fM := D.fM
    have fN := D.fN
    go_wp2_with fail
    refine (sign_int _ _ _ _ (k + b / 16 + 5) (hi * Q b) _ D.ih).mono ?_
    rintro r w5 ⟨rfl, hb5⟩
    replace D := D.below hb5
    clear hb5 i0 i1 i2 i3 i4 i5 i6 i7 y0 y1 y2 y3 y4 e0 e1 e2 e3 e4 fM fN lL lC lM lN lG lA
    by_cases c2 : hi * Q b < 0
    · have t3 : cmpInt (hi * Q b) 0 < 0 := by unfold cmpInt; rw [if_pos c2]; omega
      have HO2 := hide (show ovHi (lo * Q b) (hi * Q b) lo' hi' = -(-(hi * Q b) / hi') by unfold ovHi; rw [if_pos c2])
      clear c2
      have lL := D.XL.lt
      have lC := D.YL.lt
      have lM := D.XM.lt
      have lN := D.YM.lt
      have lG := D.G.lt
      have lA := D.A.lt
      obtain ⟨i0, i1⟩ := D.XL
      obtain ⟨i2, i3⟩ := D.YL
      obtain ⟨i4, i5⟩ := D.XM
      obtain ⟨i6, i7⟩ := D.YM
      obtain ⟨y0, y1, y2, y3, y4⟩ := D.G
      obtain ⟨e0, e1, e2, e3, e4⟩ := D.A
      have fM := D.fM
      have fN := D.fN
      go_wp2_with fail
      refine (refUp_any _ _ _ _ _ _ _ _ (k + b / 16 + 5) k (hi * Q b) hi' _ D.ih D.ht.hi (by omega) (by omega) (by omega)).mono ?_
      rintro r w6 ⟨neg6, a6, n6, c6, rfl, hint6, hb6⟩
      replace D := D.below hb6
      clear hb6 i0 i1 i2 i3 i4 i5 i6 i7 y0 y1 y2 y3 y4 e0 e1 e2 e3 e4 fM fN lL lC lM lN lG lA
      have lL := D.XL.lt
      have lC := D.YL.lt
      have lM := D.XM.lt
      have lN := D.YM.lt
      have lG := D.G.lt
      have lA := D.A.lt
      obtain ⟨i0, i1⟩ := D.XL
      obtain ⟨i2, i3⟩ := D.YL
      obtain ⟨i4, i5⟩ := D.XM
      obtain ⟨i6, i7⟩ := D.YM
      obtain ⟨y0, y1, y2, y3, y4⟩ := D.G
      obtain ⟨e0, e1, e2, e3, e4⟩ := D.A
      have fM := D.fM
      have fN := D.fN
      have D2 := D.setN E ⟨neg6, a6, n6, c6⟩ (hint6.mono (by omega))
      obtain ⟨V6, hV6⟩ : ∃ V', V' = (w6.setCell ⟨CM, 0, none⟩ (.bool neg6)).setCell ⟨CM, 1, none⟩ (.slice a6 n6 c6) := ⟨_, rfl⟩
      rw [← hV6] at D2
      go_upto_region 10 with fail
      rw [← hV6]
      clear hV6 D i0 i1 i2 i3 i4 i5 i6 i7 y0 y1 y2 y3 y4 e0 e1 e2 e3 e4 fM fN lL lC lM lN lG lA
      have D := D2
      have lL := D.XL.lt
      have lC := D.YL.lt
      have lM := D.XM.lt
      have lN := D.YM.lt
      have lG := D.G.lt
      have lA := D.A.lt
      obtain ⟨i0, i1⟩ := D.XL
      obtain ⟨i2, i3⟩ := D.YL
      obtain ⟨i4, i5⟩ := D.XM
      obtain ⟨i6, i7⟩ := D.YM
      obtain ⟨y0, y1, y2, y3, y4⟩ := D.G
      obtain ⟨e0, e1, e2, e3, e4⟩ := D.A
      have fM := D.fM
      have fN := D.fN
      have hR := D.R
      have lR := hR.lt
      obtain ⟨q0, q1, q2, q3, q4, q5⟩ := hR
      go_wp2_with fail
      refine bodyPost_ret (v := .agg #[.bool (Nm.mk neg4 a4 n4 c4).neg, .slice (Nm.mk neg4 a4 n4 c4).a (Nm.mk neg4 a4 n4 c4).n (Nm.mk neg4 a4 n4 c4).cap, .bool (Nm.mk neg6 a6 n6 c6).neg, .slice (Nm.mk neg6 a6 n6 c6).a (Nm.mk neg6 a6 n6 c6).n (Nm.mk neg6 a6 n6 c6).cap, .int .i64 s.bits]) (by simp [results, Tryz.results91, go_sem, lR, q0, q1, q2, q3, q4]) rfl ⟨⟨(Nm.mk neg4 a4 n4 c4).neg, (Nm.mk neg4 a4 n4 c4).a, (Nm.mk neg4 a4 n4 c4).n, (Nm.mk neg4 a4 n4 c4).cap, (Nm.mk neg6 a6 n6 c6).neg, (Nm.mk neg6 a6 n6 c6).a, (Nm.mk neg6 a6 n6 c6).n, (Nm.mk neg6 a6 n6 c6).cap, s.bits⟩, rfl, unhide HBT, ?_, ?_⟩
      · rw [unhide HO1, unhide HO2]; exact SpAt.put5 ⟨D.im.mono (by omega), D.jn.mono (by omega)⟩ q0 q1 q2 q3 q4 _ _ _ _ _
      · exact set5 D.hB (by omega) _ _ _ _ _
    · have t3 : ¬ cmpInt (hi * Q b) 0 < 0 := by unfold cmpInt; rw [if_neg c2]; split <;> omega
      have HO2 := hide (show ovHi (lo * Q b) (hi * Q b) lo' hi' = -(-(hi * Q b) / lo') by unfold ovHi; rw [if_neg c2])
      clear c2
      have lL := D.XL.lt
      have lC := D.YL.lt
      have lM := D.XM.lt
      have lN := D.YM.lt
      have lG := D.G.lt
      have lA := D.A.lt
      obtain ⟨i0, i1⟩ := D.XL
      obtain ⟨i2, i3⟩ := D.YL
      obtain ⟨i4, i5⟩ := D.XM
      obtain ⟨i6, i7⟩ := D.YM
      obtain ⟨y0, y1, y2, y3, y4⟩ := D.G
      obtain ⟨e0, e1, e2, e3, e4⟩ := D.A
      have fM := D.fM
      have fN := D.fN
      have hR := D.R
      have lR := hR.lt
      obtain ⟨q0, q1, q2, q3, q4, q5⟩ := hR
      go_wp2_with fail
      refine bodyPost_ret (v := .agg #[.bool (Nm.mk neg4 a4 n4 c4).neg, .slice (Nm.mk neg4 a4 n4 c4).a (Nm.mk neg4 a4 n4 c4).n (Nm.mk neg4 a4 n4 c4).cap, .bool yM.neg, .slice yM.a yM.n yM.cap, .int .i64 s.bits]) (by simp [results, Tryz.results91, go_sem, lR, q0, q1, q2, q3, q4]) rfl ⟨⟨(Nm.mk neg4 a4 n4 c4).neg, (Nm.mk neg4 a4 n4 c4).a, (Nm.mk neg4 a4 n4 c4).n, (Nm.mk neg4 a4 n4 c4).cap, yM.neg, yM.a, yM.n, yM.cap, s.bits⟩, rfl, unhide HBT, ?_, ?_⟩
      · rw [unhide HO1, unhide HO2]; exact SpAt.put5 ⟨D.im.mono (by omega), D.jn.mono (by omega)⟩ q0 q1 q2 q3 q4 _ _ _ _ _
      · exact set5 D.hB (by omega) _ _ _ _ _
  · have t2 : ¬ cmpInt (lo * Q b) 0 < 0 := by unfold cmpInt; rw [if_neg c1]; split <;> omega
    have HO1 := hide (show ovLo (lo * Q b) (hi * Q b) lo' hi' = lo * Q b / hi' by unfold ovLo; rw [if_neg c1])
    clear c1
    have lL := D.XL.lt
    have lC := D.YL.lt
    have lM := D.XM.lt
    have lN := D.YM.lt
    have lG := D.G.lt
    have lA := D.A.lt
    obtain ⟨i0, i1⟩ := D.XL
    obtain ⟨i2, i3⟩ := D.YL
    obtain ⟨i4, i5⟩ := D.XM
    obtain ⟨i6, i7⟩ := D.YM
    obtain ⟨y0, y1, y2, y3, y4⟩ := D.G
    obtain ⟨e0, e1, e2, e3, e4⟩ := D.A
    have fM := D.fM
    have fN := D.fN
    go_wp2_with fail
    refine (sign_int _ _ _ _ (k + b / 16 + 5) (hi * Q b) _ D.ih).mono ?_
    rintro r w5 ⟨rfl, hb5⟩
    replace D := D.below hb5
    clear hb5 i0 i1 i2 i3 i4 i5 i6 i7 y0 y1 y2 y3 y4 e0 e1 e2 e3 e4 fM fN lL lC lM lN lG lA
    by_cases c2 : hi * Q b < 0
    · have t3 : cmpInt (hi * Q b) 0 < 0 := by unfold cmpInt; rw [if_pos c2]; omega
      have HO2 := hide (show ovHi (lo * Q b) (hi * Q b) lo' hi' = -(-(hi * Q b) / hi') by unfold ovHi; rw [if_pos c2])
      clear c2
      have lL := D.XL.lt
      have lC := D.YL.lt
      have lM := D.XM.lt
      have lN := D.YM.lt
      have lG := D.G.lt
      have lA := D.A.lt
      obtain ⟨i0, i1⟩ := D.XL
      obtain ⟨i2, i3⟩ := D.YL
      obtain ⟨i4, i5⟩ := D.XM
      obtain ⟨i6, i7⟩ := D.YM
      obtain ⟨y0, y1, y2, y3, y4⟩ := D.G
      obtain ⟨e0, e1, e2, e3, e4⟩ := D.A
      have fM := D.fM
      have fN := D.fN
      go_wp2_with fail
      refine (refUp_any _ _ _ _ _ _ _ _ (k + b / 16 + 5) k (hi * Q b) hi' _ D.ih D.ht.hi (by omega) (by omega) (by omega)).mono ?_
      rintro r w6 ⟨neg6, a6, n6, c6, rfl, hint6, hb6⟩
      replace D := D.below hb6
      clear hb6 i0 i1 i2 i3 i4 i5 i6 i7 y0 y1 y2 y3 y4 e0 e1 e2 e3 e4 fM fN lL lC lM lN lG lA
      have lL := D.XL.lt
      have lC := D.YL.lt
      have lM := D.XM.lt
      have lN := D.YM.lt
      have lG := D.G.lt
      have lA := D.A.lt
      obtain ⟨i0, i1⟩ := D.XL
      obtain ⟨i2, i3⟩ := D.YL
      obtain ⟨i4, i5⟩ := D.XM
      obtain ⟨i6, i7⟩ := D.YM
      obtain ⟨y0, y1, y2, y3, y4⟩ := D.G
      obtain ⟨e0, e1, e2, e3, e4⟩ := D.A
      have fM := D.fM
      have fN := D.fN
      have D2 := D.setN E ⟨neg6, a6, n6, c6⟩ (hint6.mono (by omega))
      obtain ⟨V6, hV6⟩ : ∃ V', V' = (w6.setCell ⟨CM, 0, none⟩ (.bool neg6)).setCell ⟨CM, 1, none⟩ (.slice a6 n6 c6) := ⟨_, rfl⟩
      rw [← hV6] at D2
      go_upto_region 10 with fail
      rw [← hV6]
      clear hV6 D i0 i1 i2 i3 i4 i5 i6 i7 y0 y1 y2 y3 y4 e0 e1 e2 e3 e4 fM fN lL lC lM lN lG lA
      have D := D2
      have lL := D.XL.lt
      have lC := D.YL.lt
      have lM := D.XM.lt
      have lN := D.YM.lt
      have lG := D.G.lt
      have lA := D.A.lt
      obtain ⟨i0, i1⟩ := D.XL
      obtain ⟨i2, i3⟩ := D.YL
      obtain ⟨i4, i5⟩ := D.XM
      obtain ⟨i6, i7⟩ := D.YM
      obtain ⟨y0, y1, y2, y3, y4⟩ := D.G
      obtain ⟨e0, e1, e2, e3, e4⟩ := D.A
      have fM := D.fM
      have fN := D.fN
      have hR := D.R
      have lR := hR.lt
      obtain ⟨q0, q1, q2, q3, q4, q5⟩ := hR
      go_wp2_with fail
      refine bodyPost_ret (v := .agg #[.bool xM.neg, .slice xM.a xM.n xM.cap, .bool (Nm.mk neg6 a6 n6 c6).neg, .slice (Nm.mk neg6 a6 n6 c6).a (Nm.mk neg6 a6 n6 c6).n (Nm.mk neg6 a6 n6 c6).cap, .int .i64 s.bits]) (by simp [results, Tryz.results91, go_sem, lR, q0, q1, q2, q3, q4]) rfl ⟨⟨xM.neg, xM.a, xM.n, xM.cap, (Nm.mk neg6 a6 n6 c6).neg, (Nm.mk neg6 a6 n6 c6).a, (Nm.mk neg6 a6 n6 c6).n, (Nm.mk neg6 a6 n6 c6).cap, s.bits⟩, rfl, unhide HBT, ?_, ?_⟩
      · rw [unhide HO1, unhide HO2]; exact SpAt.put5 ⟨D.im.mono (by omega), D.jn.mono (by omega)⟩ q0 q1 q2 q3 q4 _ _ _ _ _
      · exact set5 D.hB (by omega) _ _ _ _ _
    · have t3 : ¬ cmpInt (hi * Q b) 0 < 0 := by unfold cmpInt; rw [if_neg c2]; split <;> omega
      have HO2 := hide (show ovHi (lo * Q b) (hi * Q b) lo' hi' = -(-(hi * Q b) / lo') by unfold ovHi; rw [if_neg c2])
      clear c2
      have lL := D.XL.lt
      have lC := D.YL.lt
      have lM := D.XM.lt
      have lN := D.YM.lt
      have lG := D.G.lt
      have lA := D.A.lt
      obtain ⟨i0, i1⟩ := D.XL
      obtain ⟨i2, i3⟩ := D.YL
      obtain ⟨i4, i5⟩ := D.XM
      obtain ⟨i6, i7⟩ := D.YM
      obtain ⟨y0, y1, y2, y3, y4⟩ := D.G
      obtain ⟨e0, e1, e2, e3, e4⟩ := D.A
      have fM := D.fM
      have fN := D.fN
      have hR := D.R
      have lR := hR.lt
      obtain ⟨q0, q1, q2, q3, q4, q5⟩ := hR
      go_wp2_with fail
      refine bodyPost_ret (v := .agg #[.bool xM.neg, .slice xM.a xM.n xM.cap, .bool yM.neg, .slice yM.a yM.n yM.cap, .int .i64 s.bits]) (by simp [results, Tryz.results91, go_sem, lR, q0, q1, q2, q3, q4]) rfl ⟨⟨xM.neg, xM.a, xM.n, xM.cap, yM.neg, yM.a, yM.n, yM.cap, s.bits⟩, rfl, unhide HBT, ?_, ?_⟩
      · rw [unhide HO1, unhide HO2]; exact SpAt.put5 ⟨D.im.mono (by omega), D.jn.mono (by omega)⟩ q0 q1 q2 q3 q4 _ _ _ _ _
      · exact set5 D.hB (by omega) _ _ _ _ _
end Go.Proofs.YtgmnknmjainababGreat

namespace Go.Proofs.YtgmnknmjainababGreat
set_option linter.unusedVariables false
set_option linter.unusedSimpArgs false
set_option linter.unnecessarySimpa false
open Go.RowKit
attribute [local go_sem ↓] Go.wp_at_zero Go.wp_at_succ

set_option maxRecDepth 100000 in
set_option maxHeartbeats 4000000 in
theorem refOver_neg (w : World) (s t : Sp) (k b : Nat) (lo hi lo' hi' : Int) (hs : SpAt w s k lo hi) (ht : SpAt w t k lo' hi') (hk : k ≤ 50000000) (hb : b ≤ 1000000) (hbits : s.bits = b) (hp : hi' < 0) (hp2 : lo' ≤ hi') :
    Calls Tryz.prog 91 #[.agg #[.bool s.ln, .slice s.la s.lN s.lc, .bool s.hn, .slice s.ha s.hN s.hc, .int .i64 s.bits], .agg #[.bool t.ln, .slice t.la t.lN t.lc, .bool t.hn, .slice t.ha t.hN t.hc, .int .i64 t.bits]] w (SpanAns w b (k + b / 16 + 20) (ovLo (-hi * Q b) (-lo * Q b) (-hi') (-lo')) (ovHi (-hi * Q b) (-lo * Q b) (-hi') (-lo'))) := by
  have HBT := hide hbits
  have t1 : cmpInt hi' 0 < 0 := by unfold cmpInt; rw [if_pos (by omega)]; omega
  clear hbits
  obtain ⟨W, hW⟩ : ∃ W, W = ((w.alloc (.cells #[.bool s.ln, .slice s.la s.lN s.lc, .bool s.hn, .slice s.ha s.hN s.hc, .int .i64 s.bits] 36)).alloc (.cells #[.bool t.ln, .slice t.la t.lN t.lc, .bool t.hn, .slice t.ha t.hN t.hc, .int .i64 t.bits] 36)).alloc (.cells #[.bool false, .slice none 0 0, .bool false, .slice none 0 0, .int .i64 0] 36) := ⟨_, rfl⟩
  have hBW : Below w.heap.size w W := by rw [hW]; exact bl3 _ _ _ _
  have A : SpC W w.heap.size s := by rw [hW]; exact ⟨by simp [go_sem], by simp [go_sem], by simp [go_sem], by simp [go_sem], by simp [go_sem]⟩
  have G : SpC W (w.heap.size + 1) t := by rw [hW]; exact ⟨by simp [go_sem], by simp [go_sem], by simp [go_sem], by simp [go_sem], by simp [go_sem]⟩
  have R : NoC W (w.heap.size + 1 + 1) := by rw [hW]; exact ⟨by simp [go_sem], by simp [go_sem], by simp [go_sem], by simp [go_sem], by simp [go_sem], fun o => by simp [go_sem]⟩
  replace hs := hide (hs.below hBW)
  replace ht := hide (ht.below hBW)
  go_enter Tryz.func91, Tryz.ntmps91
  go_wp2_with fail
  rw [← hW]
  clear hW
  refine (sign_int _ _ _ _ k hi' _ (unhide ht).hi).mono ?_
  rintro r w0 ⟨rfl, hb0⟩
  replace hBW := bthen hBW hb0
  replace A := A.below hb0
  replace G := G.below hb0
  replace R := R.below hb0
  replace hs := hide ((unhide hs).below hb0)
  replace ht := hide ((unhide ht).below hb0)
  clear hb0
  have lA := A.lt
  have lG := G.lt
  have hsl := hide (unhide hs).lo
  have hsh := hide (unhide hs).hi
  have htl := hide (unhide ht).lo
  have hth := hide (unhide ht).hi
  have nq1 : w.heap.size ≠ w.heap.size + 1 + 1 := by omega
  have nq2 : w.heap.size + 1 ≠ w.heap.size + 1 + 1 := by omega
  have HK := hide (show ∀ w', Below w0.heap.size w0 w' → (w'.cell? ⟨w.heap.size, 0, none⟩ = some (.bool s.ln) ∧ w'.cell? ⟨w.heap.size, 1, none⟩ = some (.slice s.la s.lN s.lc) ∧ w'.cell? ⟨w.heap.size, 2, none⟩ = some (.bool s.hn) ∧ w'.cell? ⟨w.heap.size, 3, none⟩ = some (.slice s.ha s.hN s.hc) ∧ w'.cell? ⟨w.heap.size, 4, none⟩ = some (.int .i64 s.bits) ∧ w'.cell? ⟨w.heap.size + 1, 0, none⟩ = some (.bool t.ln) ∧ w'.cell? ⟨w.heap.size + 1, 1, none⟩ = some (.slice t.la t.lN t.lc) ∧ w'.cell? ⟨w.heap.size + 1, 2, none⟩ = some (.bool t.hn) ∧ w'.cell? ⟨w.heap.size + 1, 3, none⟩ = some (.slice t.ha t.hN t.hc) ∧ w'.cell? ⟨w.heap.size + 1, 4, none⟩ = some (.int .i64 t.bits)) from fun w' hB => ⟨(A.below hB).c0, (A.below hB).c1, (A.below hB).c2, (A.below hB).c3, (A.below hB).c4, (G.below hB).c0, (G.below hB).c1, (G.below hB).c2, (G.below hB).c3, (G.below hB).c4⟩)
  obtain ⟨x0, x1, x2, x3, x4, y0, y1, y2, y3, y4⟩ := unhide HK _ (Below.refl _ _)
  go_wp2_with fail
  go_region_held3 (fun w' => w'.cell? ⟨w.heap.size, 0, none⟩ = some (.bool s.ln) ∧ w'.cell? ⟨w.heap.size, 1, none⟩ = some (.slice s.la s.lN s.lc) ∧ w'.cell? ⟨w.heap.size, 2, none⟩ = some (.bool s.hn) ∧ w'.cell? ⟨w.heap.size, 3, none⟩ = some (.slice s.ha s.hN s.hc) ∧ w'.cell? ⟨w.heap.size, 4, none⟩ = some (.int .i64 s.bits) ∧ w'.cell? ⟨w.heap.size + 1, 0, none⟩ = some (.bool t.ln) ∧ w'.cell? ⟨w.heap.size + 1, 1, none⟩ = some (.slice t.la t.lN t.lc) ∧ w'.cell? ⟨w.heap.size + 1, 2, none⟩ = some (.bool t.hn) ∧ w'.cell? ⟨w.heap.size + 1, 3, none⟩ = some (.slice t.ha t.hN t.hc) ∧ w'.cell? ⟨w.heap.size + 1, 4, none⟩ = some (.int .i64 t.bits)) (first | exact unhide HK _ (by first | with_reducible exact hB5 | with_reducible exact hB4 | with_reducible exact hB3 | with_reducible exact hB2 | with_reducible exact hB1 | with_reducible exact (Below.refl _ _).drew | with_reducible exact Below.refl _ _) | exact ⟨cell_put5' e0 nq1 _ _ _ _ _, cell_put5' e1 nq1 _ _ _ _ _, cell_put5' e2 nq1 _ _ _ _ _, cell_put5' e3 nq1 _ _ _ _ _, cell_put5' e4 nq1 _ _ _ _ _, cell_put5' f0 nq2 _ _ _ _ _, cell_put5' f1 nq2 _ _ _ _ _, cell_put5' f2 nq2 _ _ _ _ _, cell_put5' f3 nq2 _ _ _ _ _, cell_put5' f4 nq2 _ _ _ _ _⟩)
    (first
      | (go_at_call 91; refine (refOver_pos _ ⟨neg1, a1, n1, c1, neg2, a2, n2, c2, s.bits⟩ ⟨neg3, a3, n3, c3, neg4, a4, n4, c4, t.bits⟩ k b (-hi) (-lo) (-hi') (-lo') ⟨hint1, hint2⟩ ⟨hint3, hint4⟩ hk hb (unhide HBT) (by omega) (by omega)).mono ?_; rintro r w5 ⟨u, rfl, hub, hup, hb5⟩; have hB5 := bthen hB4 hb5; have R5 := R.below hB5; have l5 := R5.lt; obtain ⟨q0, q1, q2, q3, q4, q5⟩ := R5; obtain ⟨e0, e1, e2, e3, e4, f0, f1, f2, f3, f4⟩ := unhide HK _ hB5; have HUB := hide hub; clear hub)
      | (go_at_call 103; have hq := hB3; refine (neg_int _ _ _ _ k lo' _ ((unhide htl).below hB3) (by omega)).mono ?_; rintro r w4 ⟨neg4, a4, n4, c4, rfl, hint4, hb4⟩; have hB4 := bthen hB3 hb4; replace hint1 := hint1.below hb4; replace hint2 := hint2.below hb4; replace hint3 := hint3.below hb4)
      | (go_at_call 103; have hq := hB2; refine (neg_int _ _ _ _ k hi' _ ((unhide hth).below hB2) (by omega)).mono ?_; rintro r w3 ⟨neg3, a3, n3, c3, rfl, hint3, hb3⟩; have hB3 := bthen hB2 hb3; replace hint1 := hint1.below hb3; replace hint2 := hint2.below hb3)
      | (go_at_call 103; have hq := hB1; refine (neg_int _ _ _ _ k lo _ ((unhide hsl).below hB1) (by omega)).mono ?_; rintro r w2 ⟨neg2, a2, n2, c2, rfl, hint2, hb2⟩; have hB2 := bthen hB1 hb2; replace hint1 := hint1.below hb2)
      | (go_at_call 103; refine (neg_int _ _ _ _ k hi _ ((unhide hsh).below (Below.refl _ _).drew) (by omega)).mono ?_; rintro r w1 ⟨neg1, a1, n1, c1, rfl, hint1, hb1⟩; have hB1 : Below w0.heap.size w0 w1 := bthen (Below.refl _ _).drew hb1))
  all_goals
    go_wp2_with fail
    refine bodyPost_ret (v := .agg #[.bool u.ln, .slice u.la u.lN u.lc, .bool u.hn, .slice u.ha u.hN u.hc, .int .i64 u.bits]) (by simp [results, Tryz.results91, go_sem, l5, q0, q1, q2, q3, q4]) rfl ⟨u, rfl, unhide HUB, ?_, ?_⟩
    · exact SpAt.put5 hup q0 q1 q2 q3 q4 _ _ _ _ _
    · exact set5 (bthen hBW hB5) (by omega) _ _ _ _ _

/-- The ends of the quotients of two spans, the second one without 0. -/
def dvLo (lo hi lo' hi' : Int) (b : Nat) : Int := if hi' < 0 then ovLo (-hi * Q b) (-lo * Q b) (-hi') (-lo') else ovLo (lo * Q b) (hi * Q b) lo' hi'
def dvHi (lo hi lo' hi' : Int) (b : Nat) : Int := if hi' < 0 then ovHi (-hi * Q b) (-lo * Q b) (-hi') (-lo') else ovHi (lo * Q b) (hi * Q b) lo' hi'

theorem refOver_any (w : World) (s t : Sp) (k b : Nat) (lo hi lo' hi' : Int) (hs : SpAt w s k lo hi) (ht : SpAt w t k lo' hi') (hk : k ≤ 50000000) (hb : b ≤ 1000000) (hbits : s.bits = b) (hp : ¬ (lo' ≤ 0 ∧ 0 ≤ hi')) (hp2 : lo' ≤ hi') :
    Calls Tryz.prog 91 #[.agg #[.bool s.ln, .slice s.la s.lN s.lc, .bool s.hn, .slice s.ha s.hN s.hc, .int .i64 s.bits], .agg #[.bool t.ln, .slice t.la t.lN t.lc, .bool t.hn, .slice t.ha t.hN t.hc, .int .i64 t.bits]] w (SpanAns w b (k + b / 16 + 20) (dvLo lo hi lo' hi' b) (dvHi lo hi lo' hi' b)) := by
  unfold dvLo dvHi
  by_cases h : hi' < 0
  · rw [if_pos h, if_pos h]; exact refOver_neg w s t k b lo hi lo' hi' hs ht hk hb hbits h hp2
  · rw [if_neg h, if_neg h]; exact refOver_pos w s t k b lo hi lo' hi' hs ht hk hb hbits (by omega) hp2
end Go.Proofs.YtgmnknmjainababGreat

namespace Go.Proofs.YtgmnknmjainababGreat
set_option linter.unusedVariables false
open Ex

/-- In how many ways k of n are chosen. -/
def ch : Nat → Nat → Nat
  | _, 0 => 1
  | 0, _ + 1 => 0
  | n + 1, k + 1 => ch n k + ch n (k + 1)
theorem ch_zero (n : Nat) : ch n 0 = 1 := by cases n <;> rfl
theorem ch_succ (n k : Nat) : ch (n + 1) (k + 1) = ch n k + ch n (k + 1) := rfl
theorem ch_big {n k : Nat} (h : n < k) : ch n k = 0 := by
  induction n generalizing k with
  | zero => obtain ⟨j, rfl⟩ : ∃ j, k = j + 1 := ⟨k - 1, by omega⟩
            rfl
  | succ n ih =>
    obtain ⟨j, rfl⟩ : ∃ j, k = j + 1 := ⟨k - 1, by omega⟩
    rw [ch_succ, ih (by omega), ih (by omega)]
theorem ch_up (n k : Nat) : (k + 1) * ch (n + 1) (k + 1) = (n + 1) * ch n k := by
  induction n generalizing k with
  | zero =>
    rw [ch_succ]
    cases k with
    | zero => rfl
    | succ k => rw [ch_big (show 0 < k + 1 by omega), ch_big (show 0 < k + 1 + 1 by omega)]; omega
  | succ n ih =>
    cases k with
    | zero =>
      have h := ih 0
      rw [ch_zero] at h
      rw [ch_succ (n + 1) 0, ch_zero]
      omega
    | succ k =>
      have h1 := ih k
      have h2 := ih (k + 1)
      have e := ch_succ n k
      rw [ch_succ (n + 1) (k + 1)]
      generalize ch (n + 1) (k + 1) = X at *
      generalize ch (n + 1) (k + 1 + 1) = Y at *
      generalize ch n k = u at *
      generalize ch n (k + 1) = v at *
      subst e
      grind
theorem ch_side {n k : Nat} (h : k ≤ n) : (k + 1) * ch n (k + 1) = (n - k) * ch n k := by
  have h1 := ch_up n k
  rw [ch_succ] at h1
  obtain ⟨j, rfl⟩ : ∃ j, n = k + j := ⟨n - k, by omega⟩
  rw [show k + j - k = j by omega]
  generalize ch (k + j) k = u at *
  generalize ch (k + j) (k + 1) = v at *
  grind
theorem wayF_ch (b : Int) (o i : Nat) : wayF b (o : Int) i = b * (ch (o + i) i : Int) := by
  induction i with
  | zero => rw [ch_zero]; show b = b * 1; omega
  | succ i ih =>
    have h := ch_up (o + i) i
    have e : wayF b (o : Int) (i + 1) = wayF b (o : Int) i * ((o : Int) + ((i : Int) + 1)) / ((i : Int) + 1) := rfl
    rw [e, ih]
    have h2 : (((i + 1) * ch (o + i + 1) (i + 1) : Nat) : Int) = (((o + i + 1) * ch (o + i) i : Nat) : Int) := by rw [h]
    rw [Int.natCast_mul, Int.natCast_mul] at h2
    rw [show o + (i + 1) = o + i + 1 by omega]
    have e2 : b * (ch (o + i) i : Int) * ((o : Int) + ((i : Int) + 1)) = b * (ch (o + i + 1) (i + 1) : Int) * ((i : Int) + 1) := by
      have c1 : ((i + 1 : Nat) : Int) = (i : Int) + 1 := rfl
      have c2 : ((o + i + 1 : Nat) : Int) = (o : Int) + (i : Int) + 1 := rfl
      rw [c1, c2] at h2
      grind
    rw [e2, Int.mul_ediv_cancel _ (by omega)]
/-- The numbers from n down, so many. -/
def fall (n : Int) : Nat → Int
  | 0 => 1
  | k + 1 => fall n k * (n - k)
/-- The numbers from 1 up, so many. -/
def fact : Nat → Int
  | 0 => 1
  | k + 1 => fact k * ((k : Int) + 1)
theorem fact_pos (k : Nat) : 0 < fact k := by
  induction k with
  | zero => show (0 : Int) < 1; omega
  | succ k ih => exact Int.mul_pos ih (by omega)
theorem fall_ch {n k : Nat} (h : k ≤ n) : fall (n : Int) k = fact k * (ch n k : Int) := by
  induction k with
  | zero => rw [ch_zero]; rfl
  | succ k ih =>
    have h1 := ch_side (show k ≤ n by omega)
    have h2 : (((k + 1) * ch n (k + 1) : Nat) : Int) = (((n - k) * ch n k : Nat) : Int) := by rw [h1]
    rw [Int.natCast_mul, Int.natCast_mul] at h2
    have c1 : ((k + 1 : Nat) : Int) = (k : Int) + 1 := rfl
    have c2 : ((n - k : Nat) : Int) = (n : Int) - (k : Int) := by omega
    rw [c1, c2] at h2
    show fall (n : Int) k * ((n : Int) - (k : Int)) = fact k * ((k : Int) + 1) * (ch n (k + 1) : Int)
    rw [ih (by omega)]
    grind
theorem fall_div {n k : Nat} (h : k ≤ n) : fall (n : Int) k / fact k = (ch n k : Int) := by
  rw [fall_ch h, Int.mul_ediv_cancel_left _ (by have := fact_pos k; omega)]
theorem ch_le (p q A : Nat) : ∀ n, n ≤ A → ch A n * p ^ n * q ^ (A - n) ≤ (p + q) ^ A := by
  induction A with
  | zero =>
    intro n hn
    have : n = 0 := by omega
    subst this
    exact Nat.le_refl _
  | succ A ih =>
    intro n hn
    cases n with
    | zero =>
      rw [ch_zero, Nat.one_mul, Nat.pow_zero, Nat.one_mul]
      exact Nat.pow_le_pow_left (by omega) _
    | succ n =>
      have i1 := ih n (by omega)
      rw [ch_succ, show A + 1 - (n + 1) = A - n by omega, Nat.pow_succ (m := A)]
      have e1 : (ch A n + ch A (n + 1)) * p ^ (n + 1) * q ^ (A - n) = ch A n * p ^ n * q ^ (A - n) * p + ch A (n + 1) * p ^ (n + 1) * q ^ (A - n) := by
        rw [Nat.pow_succ]; grind
      rw [e1, Nat.mul_add]
      refine Nat.add_le_add (Nat.mul_le_mul_right p i1) ?_
      by_cases hA : n + 1 ≤ A
      · have i2 := ih (n + 1) hA
        have e2 : q ^ (A - n) = q ^ (A - (n + 1)) * q := by rw [← Nat.pow_succ]; congr 1; omega
        rw [e2, ← Nat.mul_assoc]
        exact Nat.mul_le_mul_right q i2
      · rw [ch_big (show A < n + 1 by omega), Nat.zero_mul, Nat.zero_mul]; exact Nat.zero_le _

namespace Ex
theorem lin_le {L y c d a t : Rat} (h1 : L * c ≤ a) (h2 : L * d ≤ a) (g1 : c - t ≤ y) (g2 : y ≤ d + t) (k : Rat) (k1 : L ≤ k) (k2 : -L ≤ k) (ht : 0 ≤ t) : L * y ≤ a + k * t := by
  by_cases hL : 0 ≤ L
  · have := Rat.mul_nonneg hL (show 0 ≤ d + t - y by grind)
    have := Rat.mul_nonneg (show 0 ≤ k - L by grind) ht
    grind
  · have := Rat.mul_nonneg (show 0 ≤ -L by grind) (show 0 ≤ y - (c - t) by grind)
    have := Rat.mul_nonneg (show 0 ≤ k + L by grind) ht
    grind
theorem Has.div {a b c d L U : Rat} {x y : Nat → Rat} (h : Has a b x) (k : Has c d y) (hc : 0 < c) (h1 : L * c ≤ a) (h2 : L * d ≤ a) (h3 : b ≤ U * c) (h4 : b ≤ U * d) : Has L U (fun M => x M / y M) := fun e he => by
  obtain ⟨m, m0, m1, m2, m3, m4⟩ : ∃ m : Rat, 0 < m ∧ L ≤ m ∧ -L ≤ m ∧ U ≤ m ∧ -U ≤ m := by
    refine ⟨1 + (if 0 ≤ L then L else -L) + (if 0 ≤ U then U else -U), ?_, ?_, ?_, ?_, ?_⟩ <;> split <;> split <;> grind
  have m5 : (0 : Rat) < 2 * (1 + m) := by grind
  have hec : 0 < e * c := Rat.mul_pos he hc
  obtain ⟨t, t0, t1, t2⟩ : ∃ t : Rat, 0 < t ∧ 2 * t ≤ c ∧ t * (2 * (1 + m)) ≤ e * c := by
    have f := rdm (a := e * c) m5
    have f0 := rdiv_pos hec m5
    by_cases hh : e * c / (2 * (1 + m)) ≤ c / 2
    · exact ⟨e * c / (2 * (1 + m)), f0, by grind, by grind⟩
    · refine ⟨c / 2, by grind, by grind, ?_⟩
      have := Rat.mul_nonneg (show 0 ≤ e * c / (2 * (1 + m)) - c / 2 by grind) (show 0 ≤ 2 * (1 + m) by grind)
      grind
  obtain ⟨N1, g1⟩ := h t t0
  obtain ⟨N2, g2⟩ := k t t0
  refine ⟨N1 + N2, fun M hM => ?_⟩
  obtain ⟨p1, p2⟩ := g1 M (by omega)
  obtain ⟨q1, q2⟩ := g2 M (by omega)
  have y0 : 0 < y M := by grind
  have ey : e * c ≤ 2 * (e * y M) := by
    have := Rat.mul_nonneg (Rat.le_of_lt he) (show 0 ≤ 2 * y M - c by grind)
    grind
  constructor
  · refine rle_div y0 ?_
    have := lin_le h1 h2 q1 q2 m m1 m2 (Rat.le_of_lt t0)
    grind
  · refine rdiv_le y0 ?_
    have := lin_le (L := -U) (a := -b) (by grind) (by grind) q1 q2 m (by grind) (by grind) (Rat.le_of_lt t0)
    grind
end Ex
theorem Iv.div {B : Nat} {s t : Int × Int} {x y : Nat → Rat} (h : Iv B s x) (k : Iv B t y) (h0 : 0 < t.1) {lo hi : Int} (h1 : lo * t.1 ≤ s.1 * Q B) (h2 : lo * t.2 ≤ s.1 * Q B) (h3 : s.2 * Q B ≤ hi * t.1) (h4 : s.2 * Q B ≤ hi * t.2) : Iv B (lo, hi) (fun M => x M / y M) := by
  have q := Qr_pos B
  have t0 : (0 : Rat) < (t.1 : Rat) := by exact_mod_cast h0
  have key : ∀ {u v z : Int}, u * v ≤ z * Q B → (u : Rat) / (Q B : Rat) * ((v : Rat) / (Q B : Rat)) ≤ (z : Rat) / (Q B : Rat) := fun {u v z} hh => mul_hi (by have := Q_pos B; omega) hh
  have key2 : ∀ {u v z : Int}, z * Q B ≤ u * v → (z : Rat) / (Q B : Rat) ≤ (u : Rat) / (Q B : Rat) * ((v : Rat) / (Q B : Rat)) := fun {u v z} hh => mul_lo (by have := Q_pos B; omega) hh
  exact Has.div h k (rdiv_pos t0 q) (key h1) (key h2) (key2 h3) (key2 h4)
/-- A quotient of what is not below 0 and what is more than 0. -/
theorem dv_pos {lo hi lo' hi' : Int} {b : Nat} (h0 : 0 ≤ lo) (h1 : lo ≤ hi) (h2 : 0 < lo') (h3 : lo' ≤ hi') : dvLo lo hi lo' hi' b = lo * Q b / hi' ∧ dvHi lo hi lo' hi' b = -(-(hi * Q b) / lo') := by
  have q := Q_pos b
  have p1 := Int.mul_nonneg h0 (show 0 ≤ Q b by omega)
  have p2 := Int.mul_nonneg (show 0 ≤ hi by omega) (show 0 ≤ Q b by omega)
  unfold dvLo dvHi ovLo ovHi
  rw [if_neg (by omega), if_neg (by omega), if_neg (by omega), if_neg (by omega)]
  exact ⟨rfl, rfl⟩
theorem dv_ceil (a : Int) {d : Int} (hd : 0 < d) : a ≤ -(-a / d) * d := by
  have := Int.ediv_mul_le (-a) (show d ≠ 0 by omega)
  rw [Int.neg_mul]; omega
theorem dv_floor (a : Int) {d : Int} (hd : 0 < d) : a / d * d ≤ a := Int.ediv_mul_le a (by omega)
theorem Iv.dv {B : Nat} {s t : Int × Int} {x y : Nat → Rat} (h : Iv B s x) (k : Iv B t y) (hs : 0 ≤ s.1) (h0 : 0 < t.1) : Iv B (dvLo s.1 s.2 t.1 t.2 B, dvHi s.1 s.2 t.1 t.2 B) (fun M => x M / y M) := by
  have hs2 := h.le
  have ht2 := k.le
  have q := Q_pos B
  obtain ⟨e1, e2⟩ := dv_pos (b := B) hs hs2 h0 ht2
  rw [e1, e2]
  have p1 := Int.mul_nonneg hs (show 0 ≤ Q B by omega)
  have l0 : 0 ≤ s.1 * Q B / t.2 := Int.ediv_nonneg p1 (by omega)
  have f1 := dv_floor (s.1 * Q B) (show 0 < t.2 by omega)
  have f2 := dv_ceil (s.2 * Q B) h0
  have p2 := Int.mul_nonneg (show 0 ≤ s.2 by omega) (show 0 ≤ Q B by omega)
  have u0 : 0 ≤ -(-(s.2 * Q B) / t.1) := by
    have : -(s.2 * Q B) / t.1 ≤ 0 := Int.ediv_nonpos_of_nonpos_of_neg (by omega) h0
    omega
  have g1 := Int.mul_le_mul_of_nonneg_left ht2 l0
  have g2 := Int.mul_le_mul_of_nonneg_left ht2 u0
  exact h.div k h0 (by omega) f1 f2 (by omega)
end Go.Proofs.YtgmnknmjainababGreat

namespace Go.Proofs.YtgmnknmjainababGreat
set_option linter.unusedVariables false
open Ex

theorem mulI_nonneg {B : Nat} {a b : Int × Int} (ha : 0 ≤ a.1) (ha2 : 0 ≤ a.2) (hb : 0 ≤ b.1) (hb2 : 0 ≤ b.2) : 0 ≤ (mulI B a b).1 := by
  have q := Q_pos B
  obtain ⟨_, _, _, _, h⟩ := least4 (a.1 * b.1) (a.1 * b.2) (a.2 * b.1) (a.2 * b.2)
  have p1 := Int.mul_nonneg ha hb
  have p2 := Int.mul_nonneg ha hb2
  have p3 := Int.mul_nonneg ha2 hb
  have p4 := Int.mul_nonneg ha2 hb2
  exact Int.ediv_nonneg (by omega) (by omega)
theorem expT_nonneg {B : Nat} {sm : Int × Int} (h : 0 ≤ sm.1) (h2 : sm.1 ≤ sm.2) (n : Nat) : 0 ≤ (expT B sm n).1 := by
  induction n with
  | zero => have := Q_pos B; show 0 ≤ Q B; omega
  | succ n ih =>
    have hl := expT_le B sm n
    have h3 := mulI_nonneg (B := B) (a := expT B sm n) (b := sm) ih (by omega) h (by omega)
    show 0 ≤ (scaleI (mulI B (expT B sm n) sm) 1 ((n : Int) + 1)).1
    unfold scaleI
    exact Int.ediv_nonneg (by omega) (by omega)
theorem sumI_low {B : Nat} {sm : Int × Int} (h : 0 ≤ sm.1) (h2 : sm.1 ≤ sm.2) (n : Nat) : Q B ≤ (sumI (expT B sm) n).1 := by
  induction n with
  | zero => exact Int.le_refl _
  | succ n ih =>
    have := expT_nonneg (B := B) h h2 (n + 1)
    show Q B ≤ (addI (sumI (expT B sm) n) (expT B sm (n + 1))).1
    unfold addI
    simp only []
    omega
theorem done_low {B N : Nat} {sm : Int × Int} (h : 0 ≤ sm.1) (h2 : sm.1 ≤ sm.2) (hN : IsStop (expT B sm) N) : Q B - 1 ≤ (doneI (expT B sm) N).1 := by
  have h3 := sumI_low (B := B) h h2 N
  have h4 := hN.1
  unfold doneI addI
  simp only []
  omega
theorem sq_low {B : Nat} {d : Int × Int} (hd : d.1 ≤ d.2) (t : Nat) (hq : Q t ≤ Q B) (h : Q B - 1 ≤ d.1) : Q B - Q t ≤ (sqI B d t).1 ∧ (sqI B d t).1 ≤ (sqI B d t).2 := by
  have q := Q_pos B
  induction t with
  | zero => exact ⟨h, hd⟩
  | succ t ih =>
    have e : Q (t + 1) = 2 * Q t := rfl
    have qt := Q_pos t
    obtain ⟨i1, i2⟩ := ih (by omega)
    refine ⟨?_, mulI_le B⟩
    show Q B - Q (t + 1) ≤ (mulI B (sqI B d t) (sqI B d t)).1
    generalize sqI B d t = a at *
    obtain ⟨_, _, _, _, hh⟩ := least4 (a.1 * a.1) (a.1 * a.2) (a.2 * a.1) (a.2 * a.2)
    have c0 : 0 ≤ a.1 := by omega
    have m1 := Int.mul_le_mul_of_nonneg_left i2 c0
    have m2 := Int.mul_le_mul_of_nonneg_right i2 c0
    have m3 := Int.mul_le_mul i2 i2 c0 (by omega)
    have m4 := Int.mul_le_mul i1 i1 (by omega) c0
    have e2 : (Q B - Q t) * (Q B - Q t) = (Q B - 2 * Q t) * Q B + Q t * Q t := by grind
    have m5 := Int.mul_nonneg (show 0 ≤ Q t by omega) (show 0 ≤ Q t by omega)
    have m6 : (Q B - Q (t + 1)) * Q B ≤ leastZ (pr4 (a.1 * a.1) (a.1 * a.2) (a.2 * a.1) (a.2 * a.2)) 3 := by rw [e]; omega
    exact Int.le_ediv_of_mul_le (by omega) m6
/-- What wide.Exp makes of what is not below 0 is more than a half. -/
theorem exp_low {B N t : Nat} {a : Int × Int} (ha : 0 ≤ a.1) (hl : a.1 ≤ a.2) (ht : t ≤ 17) (hB : 40 ≤ B) (hN : IsStop (expT B (downI a t)) N) : Q B + 1 ≤ 2 * (sqI B (doneI (expT B (downI a t)) N) t).1 := by
  have q := Q_pos t
  have hs : 0 ≤ (downI a t).1 := Int.ediv_nonneg ha (by omega)
  have hsl : (downI a t).1 ≤ (downI a t).2 := by
    have := scaleI_le (a := a) (n := 1) (d := Q t) hl (by omega) (by omega)
    simpa [scaleI, downI] using this
  have h1 := done_low hs hsl hN
  have h2 := sq_low (B := B) (done_le (expT_le B (downI a t)) N) t (Q_mono (by omega)) h1
  have h3 := Q_mono (show t ≤ 17 by omega)
  have h4 := Q_mono (show 40 ≤ B by omega)
  have e1 : Q 17 = 131072 := rfl
  have e2 : Q 40 = 1099511627776 := rfl
  omega
theorem dv_wide {s1 s2 t1 t2 q W : Int} (hq : 0 < q) (h0 : 0 ≤ s1) (h1 : s2 - s1 ≤ 1) (h2 : s1 ≤ t2) (h3 : t1 ≤ t2) (h4 : t2 - t1 ≤ W) (h5 : q + 1 ≤ 2 * t1) : -(-(s2 * q) / t1) - s1 * q / t2 ≤ 2 * W + 6 := by
  obtain ⟨hi, ehi⟩ : ∃ hi, hi = -(-(s2 * q) / t1) := ⟨_, rfl⟩
  obtain ⟨lo, elo⟩ : ∃ lo, lo = s1 * q / t2 := ⟨_, rfl⟩
  rw [← ehi, ← elo]
  have t0 : 0 < t1 := by omega
  have c1 : (hi - 1) * t1 < s2 * q := by
    have := Int.lt_ediv_add_one_mul_self (-(s2 * q)) t0
    have e : (hi - 1) * t1 = -((-(s2 * q) / t1 + 1) * t1) := by rw [ehi]; grind
    omega
  have c2 : s1 * q < (lo + 1) * t2 := by rw [elo]; exact Int.lt_ediv_add_one_mul_self _ (by omega)
  have c3 : lo ≤ q := by
    rw [elo]
    refine Int.ediv_le_of_le_mul (by omega) ?_
    have := Int.mul_le_mul_of_nonneg_right h2 (show 0 ≤ q by omega)
    rw [Int.mul_comm q]; omega
  have c4 : 0 ≤ lo := by rw [elo]; exact Int.ediv_nonneg (Int.mul_nonneg h0 (by omega)) (by omega)
  refine Int.not_lt.1 fun hn => ?_
  have W0 : 0 ≤ W := by omega
  have d1 := Int.mul_le_mul_of_nonneg_right (show (lo + 1) + (2 * W + 5) ≤ hi - 1 by omega) (show 0 ≤ t1 by omega)
  have d2 := Int.mul_le_mul_of_nonneg_left h4 (show 0 ≤ lo + 1 by omega)
  have d3 := Int.mul_le_mul_of_nonneg_right (show lo + 1 ≤ 2 * t1 by omega) W0
  have d4 := Int.mul_le_mul_of_nonneg_right h1 (show 0 ≤ q by omega)
  have e1 : (lo + 1 + (2 * W + 5)) * t1 = (lo + 1) * t2 - (lo + 1) * (t2 - t1) + 2 * t1 * W + 5 * t1 := by grind
  have e2 : (s2 - s1) * q = s2 * q - s1 * q := by grind
  omega
theorem one_iv (B : Nat) : Iv B (Q B, Q B) (fun _ => 1) := by
  have h := (Iv.of B (n := 1) (d := 1) (by decide))
  have e : ofI 1 1 B = (Q B, Q B) := by unfold ofI; simp only [Int.ediv_one, Int.neg_neg, Int.one_mul]
  rw [e] at h
  have e2 : ((1 : Int) : Rat) / ((1 : Int) : Rat) = 1 := by decide +kernel
  rw [e2] at h
  exact h
/-- A span of a number that is not more than 1, without what is. -/
theorem Iv.cap {B : Nat} {a : Int × Int} {x : Nat → Rat} (h : Iv B a x) (N0 : Nat) (hx : ∀ M, N0 ≤ M → x M ≤ 1) : Iv B (a.1, if a.2 ≤ Q B then a.2 else Q B) x := by
  split
  · exact h
  · intro e he
    obtain ⟨N, hN⟩ := h e he
    refine ⟨N + N0, fun M hM => ?_⟩
    have g := (hN M (by omega)).1
    have g2 := hx M (by omega)
    have q := Qr_pos B
    have e1 : (Q B : Rat) / (Q B : Rat) = 1 := by rw [Rat.div_def, Rat.mul_inv_cancel _ (by grind)]
    simp only []
    rw [e1]
    constructor <;> grind
/-- A span of a number that is not below 0, without what is. -/
theorem Iv.bottom {B : Nat} {a : Int × Int} {x : Nat → Rat} (h : Iv B a x) (N0 : Nat) (hx : ∀ M, N0 ≤ M → 0 ≤ x M) : Iv B (if a.1 < 0 then 0 else a.1, a.2) x := by
  split
  · intro e he
    obtain ⟨N, hN⟩ := h e he
    refine ⟨N + N0, fun M hM => ?_⟩
    have g := (hN M (by omega)).2
    have g2 := hx M (by omega)
    have e1 : ((0 : Int) : Rat) / (Q B : Rat) = 0 := by rw [show ((0 : Int) : Rat) = 0 from rfl, Rat.div_def, Rat.zero_mul]
    simp only []
    rw [e1]
    constructor <;> grind
  · exact h
namespace Ex
theorem E_term {x : Rat} (hx : 0 ≤ x) (n : Nat) : ∀ M, n < M → tm x n ≤ E x M ∧ 0 < E x M := by
  intro M hM
  obtain ⟨j, rfl⟩ : ∃ j, M = n + 1 + j := ⟨M - (n + 1), by omega⟩
  have nn : ∀ m, 0 ≤ E x m := fun m => by
    induction m with
    | zero => exact Rat.le_refl
    | succ m ih =>
      have e : E x (m + 1) = E x m + tm x m := rfl
      have := tm_nonneg hx m
      rw [e]; grind
  have one : ∀ m, 1 ≤ E x (m + 1) := fun m => by
    induction m with
    | zero =>
      have e : E x (0 + 1) = E x 0 + tm x 0 := rfl
      have e0 : E x 0 = 0 := rfl
      have e1 : tm x 0 = 1 := rfl
      rw [e, e0, e1]; decide +kernel
    | succ m ih =>
      have e : E x (m + 1 + 1) = E x (m + 1) + tm x (m + 1) := rfl
      have := tm_nonneg hx (m + 1)
      rw [e]; grind
  constructor
  · induction j with
    | zero =>
      have e : E x (n + 1 + 0) = E x n + tm x n := rfl
      have := nn n
      rw [e]; grind
    | succ j ih =>
      have e : E x (n + 1 + (j + 1)) = E x (n + 1 + j) + tm x (n + 1 + j) := rfl
      have := tm_nonneg hx (n + 1 + j)
      have := ih (by omega)
      rw [e]; grind
  · have := one (n + j)
    rw [show n + 1 + j = n + j + 1 by omega]; grind
end Ex
/-- A power over a factorial, as a quotient of whole numbers. -/
theorem tm_frac {p q : Int} (hq : 0 < q) (n : Nat) : tm ((p : Rat) / (q : Rat)) n = ((p ^ n : Int) : Rat) / ((q ^ n * fact n : Int) : Rat) := by
  have q0 : (0 : Rat) < (q : Rat) := by exact_mod_cast hq
  induction n with
  | zero =>
    have e : tm ((p : Rat) / (q : Rat)) 0 = 1 := rfl
    have e2 : fact 0 = 1 := rfl
    rw [e, e2, Int.pow_zero, Int.pow_zero]; decide +kernel
  | succ n ih =>
    have e : tm ((p : Rat) / (q : Rat)) (n + 1) = tm ((p : Rat) / (q : Rat)) n * ((p : Rat) / (q : Rat)) / ((n : Rat) + 1) := rfl
    have e2 : fact (n + 1) = fact n * ((n : Int) + 1) := rfl
    have k1 : (0 : Int) < q ^ n * fact n := Int.mul_pos (Int.pow_pos hq) (fact_pos n)
    have k2 : (0 : Int) < q ^ (n + 1) * fact (n + 1) := Int.mul_pos (Int.pow_pos hq) (fact_pos (n + 1))
    have r1 : (0 : Rat) < ((q ^ n * fact n : Int) : Rat) := by exact_mod_cast k1
    have r2 : (0 : Rat) < ((q ^ (n + 1) * fact (n + 1) : Int) : Rat) := by exact_mod_cast k2
    have r3 := pos1 n
    rw [e, ih]
    have f1 := rdm (a := ((p ^ n : Int) : Rat)) r1
    have f2 := rdm (a := (p : Rat)) q0
    have f3 := rdm (a := ((p ^ (n + 1) : Int) : Rat)) r2
    have c1 : ((p ^ (n + 1) : Int) : Rat) = ((p ^ n : Int) : Rat) * (p : Rat) := by rw [Int.pow_succ, Rat.intCast_mul]
    have c2 : ((q ^ (n + 1) * fact (n + 1) : Int) : Rat) = ((q ^ n * fact n : Int) : Rat) * (q : Rat) * ((n : Rat) + 1) := by
      rw [e2, Int.pow_succ, show q ^ n * q * (fact n * ((n : Int) + 1)) = q ^ n * fact n * q * ((n : Int) + 1) by grind, Rat.intCast_mul, Rat.intCast_mul, Rat.intCast_add]
      rfl
    generalize ((p ^ n : Int) : Rat) / ((q ^ n * fact n : Int) : Rat) = u at *
    generalize (p : Rat) / (q : Rat) = v at *
    have f4 := rdm (a := u * v) r3
    generalize u * v / ((n : Rat) + 1) = z at *
    generalize ((p ^ (n + 1) : Int) : Rat) / ((q ^ (n + 1) * fact (n + 1) : Int) : Rat) = y at *
    rw [c2] at f3 r2
    rw [c1] at f3
    have : (z - y) * (((q ^ n * fact n : Int) : Rat) * (q : Rat) * ((n : Rat) + 1)) = 0 := by grind
    rcases Rat.mul_eq_zero.1 this with h | h <;> grind
/-- How likely just n is, by a law of rare ones. -/
def rareX (p q : Int) (n : Nat) (M : Nat) : Rat := ((p ^ n : Int) : Rat) / ((q ^ n * fact n : Int) : Rat) / Ev (fun _ => (p : Rat) / (q : Rat)) M
theorem rat_nonneg {p q : Int} (hp : 0 ≤ p) (hq : 0 < q) : (0 : Rat) ≤ (p : Rat) / (q : Rat) := by
  have q0 : (0 : Rat) < (q : Rat) := by exact_mod_cast hq
  have p0 : (0 : Rat) ≤ (p : Rat) := by exact_mod_cast hp
  refine rle_div q0 ?_
  grind
theorem rareX_bd {p q : Int} (hp : 0 ≤ p) (hq : 0 < q) (n M : Nat) (hM : n < M) : 0 ≤ rareX p q n M ∧ rareX p q n M ≤ 1 := by
  have h0 := rat_nonneg hp hq
  obtain ⟨h1, h2⟩ := E_term h0 n M hM
  rw [tm_frac hq] at h1
  have h3 := rat_nonneg (p := p ^ n) (q := q ^ n * fact n) (Int.pow_nonneg hp) (Int.mul_pos (Int.pow_pos hq) (fact_pos n))
  unfold rareX Ev
  constructor
  · refine rle_div h2 ?_
    grind
  · refine rdiv_le h2 ?_
    grind
end Go.Proofs.YtgmnknmjainababGreat
