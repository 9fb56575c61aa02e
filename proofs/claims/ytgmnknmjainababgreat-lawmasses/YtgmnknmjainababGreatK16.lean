/-
  What tailsureref.Clip and tailsurelaw.inside answer, and that they leave old memory alone.
  Whether two spans touch (tailsureref.Touch), and that it leaves old memory alone.
  tailsureref.Ready of a row of ratios; tailsurelaw.far; tailsurelaw.sure.
-/
import Derived.Test.YtgmnknmjainababGreatK15
namespace Go.Proofs.YtgmnknmjainababGreat
set_option linter.unusedVariables false
set_option linter.unusedSimpArgs false
set_option linter.unnecessarySimpa false
open Go.RowKit
attribute [local go_sem ↓] Go.wp_at_zero Go.wp_at_succ

/-- What is cut off at 0, and at 1. -/
def clipL (lo : Int) : Int := if lo < 0 then 0 else lo
def clipH (b : Nat) (hi : Int) : Int := if Q b < hi then Q b else hi
theorem refWhole_z {b : Nat} (z : Int) (hz : z = (b : Int)) (w : World) (n : Int) (hb : b ≤ 100000) (h0 : -9223372036854775808 ≤ n) (h1 : n ≤ 9223372036854775807) :
    Calls Tryz.prog 27 #[.int .i64 n, .int .i64 z] w (SpanAns w b (b / 16 + 18) (n * Q b) (n * Q b)) := by
  subst hz; exact refWhole w n b hb h0 h1
theorem sp_putLo {w : World} {B : Nat} {s : Sp} (h : VrC w B s) (x : Nm) : VrC (put2w w B x) B ⟨x.neg, x.a, x.n, x.cap, s.hn, s.ha, s.hN, s.hc, s.bits⟩ := by
  obtain ⟨⟨q0, q1, q2, q3, q4⟩, q5⟩ := h
  exact ⟨⟨by simp [go_sem, q0], by simp [go_sem, q1], by simp [go_sem, q2], by simp [go_sem, q3], by simp [go_sem, q4]⟩, fun o => by rw [frozen_set', frozen_set']; exact q5 o⟩
theorem VrC.offv {w : World} {B B' : Nat} {s : Sp} (h : VrC w B s) (hne : B ≠ B') (y : Nm) : VrC (put2w w B' y) B s := by
  obtain ⟨⟨q0, q1, q2, q3, q4⟩, q5⟩ := h
  exact ⟨⟨by simp [go_sem, q0, hne, Ne.symm hne], by simp [go_sem, q1, hne, Ne.symm hne], by simp [go_sem, q2, hne, Ne.symm hne], by simp [go_sem, q3, hne, Ne.symm hne], by simp [go_sem, q4, hne, Ne.symm hne]⟩, fun o => by rw [frozen_set', frozen_set']; exact q5 o⟩
/-- Where tailsureref.Clip is. -/
structure ClSt (w wr : World) (B C : Nat) (ss xx yy : Sp) (K b : Nat) (lo hi : Int) : Prop where
  s : VrC wr w.heap.size ss
  x : VrC wr B xx
  y : VrC wr C yy
  ps : SpAt wr ss K lo hi
  px : SpAt wr xx K 0 0
  py : SpAt wr yy K (Q b) (Q b)
  no : NoC wr (w.heap.size + 1)
  be : Below w.heap.size w wr
  l : w.heap.size + 1 < B
  l' : w.heap.size + 1 < C
theorem ClSt.below {w wr wr' : World} {B C : Nat} {s x y : Sp} {K b : Nat} {lo hi : Int} (h : ClSt w wr B C s x y K b lo hi) (hb : Below wr.heap.size wr wr') : ClSt w wr' B C s x y K b lo hi :=
  ⟨h.s.below hb, h.x.below hb, h.y.below hb, h.ps.below hb, h.px.below hb, h.py.below hb, h.no.below hb, bthen h.be hb, h.l, h.l'⟩
theorem ClSt.putL {w wr : World} {B C : Nat} {s x y : Sp} {K b : Nat} {lo hi : Int} (h : ClSt w wr B C s x y K b lo hi) : ClSt w (put2w wr w.heap.size ⟨x.ln, x.la, x.lN, x.lc⟩) B C ⟨x.ln, x.la, x.lN, x.lc, s.hn, s.ha, s.hN, s.hc, s.bits⟩ x y K b 0 hi := by
  have c0 := h.s.c.c0
  have c1 := h.s.c.c1
  exact ⟨sp_putLo h.s ⟨x.ln, x.la, x.lN, x.lc⟩, h.x.offv (by have := h.l; omega) _, h.y.offv (by have := h.l'; omega) _, ⟨h.px.lo.put2 c0 c1 _ _, h.ps.hi.put2 c0 c1 _ _⟩, ⟨h.px.lo.put2 c0 c1 _ _, h.px.hi.put2 c0 c1 _ _⟩, ⟨h.py.lo.put2 c0 c1 _ _, h.py.hi.put2 c0 c1 _ _⟩, h.no.offv (by omega) _, set2 h.be (Nat.le_refl _) _ _, h.l, h.l'⟩

set_option maxRecDepth 100000 in
set_option maxHeartbeats 4000000 in
theorem refClip01 (w : World) (s : Sp) (K b : Nat) (lo hi : Int) (hs : SpAt w s K lo hi) (hbits : s.bits = (b : Int)) (hb : b ≤ 10000) (hk0 : b / 16 + 18 ≤ K) (hK : K ≤ 100000000) :
    Calls Tryz.prog 55 #[.agg #[.bool s.ln, .slice s.la s.lN s.lc, .bool s.hn, .slice s.ha s.hN s.hc, .int .i64 s.bits], .int .i64 0, .int .i64 1] w (SpanAns w b K (clipL lo) (clipH b hi)) := by
  have qb := Q_pos b
  obtain ⟨W, hW⟩ : ∃ W, W = (w.alloc (.cells #[.bool s.ln, .slice s.la s.lN s.lc, .bool s.hn, .slice s.ha s.hN s.hc, .int .i64 s.bits] 36)).alloc (.cells #[.bool false, .slice none 0 0, .bool false, .slice none 0 0, .int .i64 0] 36) := ⟨_, rfl⟩
  have hBW : Below w.heap.size w W := by rw [hW]; exact bl2 _ _ _
  have A : VrC W w.heap.size s := by rw [hW]; exact ⟨⟨by simp [go_sem], by simp [go_sem], by simp [go_sem], by simp [go_sem], by simp [go_sem]⟩, fun o => by simp [go_sem]⟩
  have R : NoC W (w.heap.size + 1) := by rw [hW]; exact ⟨by simp [go_sem], by simp [go_sem], by simp [go_sem], by simp [go_sem], by simp [go_sem], fun o => by simp [go_sem]⟩
  have HS := hide (hs.below hBW)
  have HB := hide hbits
  have lA := A.lt
  have lR := R.lt
  clear hs hbits
  go_enter Tryz.func55, Tryz.ntmps55
  go_wp2
  rw [← hW]
  clear hW
  have HK := hide (show ∀ w', Below W.heap.size W w' → (w'.cell? ⟨w.heap.size, 4, none⟩ = some (.int .i64 s.bits)) from fun w' hB => (A.below hB).c.c4)
  have x4 := unhide HK _ (Below.refl _ _)
  go_cut [7, 8] (fun p q wx => TwoP W wx b K K (0, 0) (Q b, Q b) p q)
  case first =>
    go_region_held3 (fun w' => w'.cell? ⟨w.heap.size, 4, none⟩ = some (.int .i64 s.bits)) (exact unhide HK _ (by repeat' (first | with_reducible exact hBU2 | with_reducible exact hBU1 | with_reducible exact Below.refl _ _ | with_reducible refine Below.drew ?_ | with_reducible refine balloc ?_ _ | with_reducible refine Below.setCell ?_ (by first | with_reducible exact Nat.le_refl _ | with_reducible exact Nat.le_succ _ | with_reducible exact hlU1 | with_reducible exact Nat.le_succ_of_le hlU1 | with_reducible exact hlU2 | with_reducible exact Nat.le_succ_of_le hlU2) _)))
      (first
        | (go_at_call 27; have hq := hBU1; refine (refWhole_z s.bits (unhide HB) _ 1 (by omega) (by decide) (by decide)).mono ?_; rintro r wU2 ⟨vU2, rfl, hvbU2, hintU2, hbU2⟩; have HVBU2 := hide hvbU2; clear hvbU2; have hCU2 : Below wU1.heap.size wU1 wU2 := (by first | with_reducible exact hbU2 | with_reducible exact bthen (bl1 _ _) hbU2 | with_reducible exact bthen (bl2 _ _ _) hbU2); have hBU2 := bthen hBU1 hCU2; (first | with_reducible have gaU2 := (noc_new wU1 36).below hbU2 | with_reducible have gaU2 := ((noc_new wU1 36).below (bl1 _ _)).below hbU2 | skip); (try with_reducible have gbU2 := (noc_new' (wU1.alloc _) (wU1.heap.size + 1) (hs1 _ _) 36).below hbU2); replace hintU1 := hintU1.below hCU2; (try have maU1 := gaU1.lt); (try have mbU1 := gbU1.lt); (try replace gaU1 := gaU1.below hCU2); (try replace gbU1 := gbU1.below hCU2); have hlU2 := hBU2.size; (try have eaU1 := gaU1); (try obtain ⟨zaU10, zaU11, zaU12, zaU13, zaU14, zaU15⟩ := eaU1); (try have yaU1 := gaU1.lt); (try have ebU1 := gbU1); (try obtain ⟨zbU10, zbU11, zbU12, zbU13, zbU14, zbU15⟩ := ebU1); (try have ybU1 := gbU1.lt); (try have eaU2 := gaU2); (try obtain ⟨zaU20, zaU21, zaU22, zaU23, zaU24, zaU25⟩ := eaU2); (try have yaU2 := gaU2.lt); (try have ebU2 := gbU2); (try obtain ⟨zbU20, zbU21, zbU22, zbU23, zbU24, zbU25⟩ := ebU2); (try have ybU2 := gbU2.lt))
        | (go_at_call 27; refine (refWhole_z s.bits (unhide HB) _ 0 (by omega) (by decide) (by decide)).mono ?_; rintro r wU1 ⟨vU1, rfl, hvbU1, hintU1, hbU1⟩; have HVBU1 := hide hvbU1; clear hvbU1; have hBU1 : Below W.heap.size W wU1 := (by first | with_reducible exact bthen (Below.refl _ _).drew hbU1 | with_reducible exact bthen (bl1 _ _).drew hbU1 | with_reducible exact bthen (bl2 _ _ _).drew hbU1); (first | with_reducible have gaU1 := ((noc_new W 36).below (Below.refl _ _).drew).below hbU1 | with_reducible have gaU1 := ((noc_new W 36).below (bl1 _ _).drew).below hbU1 | skip); (try with_reducible have gbU1 := ((noc_new' (W.alloc _) (W.heap.size + 1) (hs1 _ _) 36).below (Below.refl _ _).drew).below hbU1); have hlU1 := hBU1.size))
    all_goals
      have hiXU := (show SpAt wU2 vU1 K 0 0 by have h := hintU1.mono hk0; rw [Int.zero_mul] at h; exact h)
      have hiYU := (show SpAt wU2 vU2 K (Q b) (Q b) by have h := hintU2.mono hk0; rw [Int.one_mul] at h; exact h)
      go_wp2_with fail
      go_meet
      first
        | with_reducible exact twoP_aa (x := vU1) (y := vU2) hBU2 hiXU hiYU (unhide HVBU1) (unhide HVBU2)
        | with_reducible exact twoP_aa' (x := vU1) (y := vU2) hBU2 hiXU hiYU (unhide HVBU1) (unhide HVBU2)
        | with_reducible exact twoP_sa (x := vU1) (y := vU2) hBU2 hiXU hiYU (unhide HVBU1) (unhide HVBU2) (by assumption) (by first | with_reducible exact Nat.le_refl _ | with_reducible exact Nat.le_succ _ | with_reducible exact hlU1 | with_reducible exact Nat.le_succ_of_le hlU1 | with_reducible exact hlU2 | with_reducible exact Nat.le_succ_of_le hlU2)
        | with_reducible exact twoP_as (x := vU1) (y := vU2) hBU2 hiXU hiYU (unhide HVBU1) (unhide HVBU2) (by assumption) (by first | with_reducible exact Nat.le_refl _ | with_reducible exact Nat.le_succ _ | with_reducible exact hlU1 | with_reducible exact Nat.le_succ_of_le hlU1 | with_reducible exact hlU2 | with_reducible exact Nat.le_succ_of_le hlU2)
        | with_reducible exact twoP_ss (x := vU1) (y := vU2) hBU2 hiXU hiYU (unhide HVBU1) (unhide HVBU2) (by assumption) (by assumption) (by first | with_reducible exact Nat.le_refl _ | with_reducible exact Nat.le_succ _ | with_reducible exact hlU1 | with_reducible exact Nat.le_succ_of_le hlU1 | with_reducible exact hlU2 | with_reducible exact Nat.le_succ_of_le hlU2) (by first | with_reducible exact Nat.le_refl _ | with_reducible exact Nat.le_succ _ | with_reducible exact hlU1 | with_reducible exact Nat.le_succ_of_le hlU1 | with_reducible exact hlU2 | with_reducible exact Nat.le_succ_of_le hlU2) (by omega)
  case rest =>
  obtain ⟨BU, CU, xU, yU, rfl, rfl, hHU, hJU, hneU, XU, YU, hxU, hyU, bxU, byU, hblU⟩ := hcut
  have st : ClSt w wc BU CU s xU yU K b lo hi := ⟨A.below hblU, XU, YU, (unhide HS).below hblU, hxU, hyU, R.below hblU, bthen hBW hblU, by omega, by omega⟩
  have hsb := unhide HB
  have HXB := hide bxU
  clear A R HS x4 HK XU YU hxU hyU bxU byU hBW hblU lA lR
  have lz0 := st.s.lt
  have lz1 := st.x.lt
  obtain ⟨⟨t0, t1, t2, t3, t4⟩, t5⟩ := st.s
  obtain ⟨⟨u0, u1, u2, u3, u4⟩, u5⟩ := st.x
  have HSB := hide hsb
  clear hsb
  go_wp2_with fail
  refine (cmp_int _ _ _ _ _ _ _ _ _ _ lo 0 _ st.ps.lo st.px.lo).mono ?_
  rintro r' w4 ⟨rfl, hb4⟩
  replace st := st.below hb4
  clear hb4 t0 t1 t2 t3 t4 t5 u0 u1 u2 u3 u4 u5 lz0 lz1
  by_cases hl : lo < 0
  · have hc1 : cmpInt lo 0 < 0 := by unfold cmpInt; rw [if_pos (by omega)]; omega
    have HEL := hide (show clipL lo = 0 by unfold clipL; rw [if_pos hl])
    have lz0 := st.s.lt
    have lz1 := st.x.lt
    have stn := st.putL
    have HSY := hide st.y
    obtain ⟨⟨t0, t1, t2, t3, t4⟩, t5⟩ := st.s
    obtain ⟨⟨u0, u1, u2, u3, u4⟩, u5⟩ := st.x
    obtain ⟨V, hV⟩ : ∃ V, V = put2w w4 w.heap.size ⟨xU.ln, xU.la, xU.lN, xU.lc⟩ := ⟨_, rfl⟩
    rw [← hV] at stn
    unfold put2w at hV
    rw [unhide HEL]
    clear st hl
    have st := stn
    clear stn
    have lz0' := st.s.lt
    have lz2 := st.y.lt
    have n02 : w.heap.size ≠ CU := by have := st.l'; omega
    have n20 : CU ≠ w.heap.size := by have := st.l'; omega
    have y4 := (unhide HSY)
    obtain ⟨⟨v0, v1, v2, v3, v4⟩, v5⟩ := y4
    go_wp2_with fail
    rw [← hV]
    clear hV u0 u1 u2 u3 u4 u5 hc1 lz1 lz0'
    refine (cmp_int _ _ _ _ _ _ _ _ _ _ hi (Q b) _ st.ps.hi st.py.lo).mono ?_
    rintro r' w5 ⟨rfl, hb5⟩
    replace st := st.below hb5
    clear hb5 t0 t1 t2 t3 t4 t5 v0 v1 v2 v3 v4 v5 lz0 lz2
    have lz0 := st.s.lt
    have lz2 := st.y.lt
    have lzR := st.no.lt
    have HST := hide st
    by_cases hh : Q b < hi
    · have hc2 : 0 < cmpInt hi (Q b) := by unfold cmpInt; rw [if_neg (by omega), if_pos (by omega)]; omega
      have HEH := hide (show clipH b hi = Q b by unfold clipH; rw [if_pos (by omega)])
      obtain ⟨⟨t0, t1, t2, t3, t4⟩, t5⟩ := st.s
      obtain ⟨⟨v0, v1, v2, v3, v4⟩, v5⟩ := st.y
      obtain ⟨q0, q1, q2, q3, q4, q5⟩ := st.no
      have hBf := st.be
      have i1 := st.ps.lo
      have i2 := st.py.lo
      clear st hh
      go_wp2_with fail
      rw [unhide HEH]
      (try rw [unhide HEL])
      obtain ⟨p0, p1, p2, p3, p4, p5⟩ := NoC.offH ⟨q0, q1, q2, q3, q4, q5⟩ (show w.heap.size + 1 ≠ w.heap.size by omega) (.bool yU.ln) (.slice yU.la yU.lN yU.lc)
      refine bodyPost_ret (v := .agg #[.bool xU.ln, .slice xU.la xU.lN xU.lc, .bool yU.ln, .slice yU.la yU.lN yU.lc, .int .i64 s.bits]) (by simp [results, Tryz.results55, go_sem, q0, q1, q2, q3, q4]) rfl ⟨⟨xU.ln, xU.la, xU.lN, xU.lc, yU.ln, yU.la, yU.lN, yU.lc, s.bits⟩, rfl, unhide HSB, ?_, ?_⟩
      · exact SpAt.put5 (show SpAt _ (⟨xU.ln, xU.la, xU.lN, xU.lc, yU.ln, yU.la, yU.lN, yU.lc, s.bits⟩ : Sp) K _ _ from ⟨i1.putH t2 t3 _ _, i2.putH t2 t3 _ _⟩) p0 p1 p2 p3 p4 _ _ _ _ _
      · exact set5 ((hBf.setCell (p := ⟨w.heap.size, 2, none⟩) (Nat.le_refl _) _).setCell (p := ⟨w.heap.size, 3, none⟩) (Nat.le_refl _) _) (Nat.le_succ _) _ _ _ _ _
    · have hc2 : ¬ 0 < cmpInt hi (Q b) := by unfold cmpInt; split <;> (try split) <;> omega
      have HEH := hide (show clipH b hi = hi by unfold clipH; rw [if_neg (by omega)])
      obtain ⟨⟨t0, t1, t2, t3, t4⟩, t5⟩ := st.s
      obtain ⟨q0, q1, q2, q3, q4, q5⟩ := st.no
      have hBf := st.be
      have i1 := st.ps
      clear st hh
      go_wp2_with fail
      rw [unhide HEH]
      (try rw [unhide HEL])
      refine bodyPost_ret (v := .agg #[.bool xU.ln, .slice xU.la xU.lN xU.lc, .bool s.hn, .slice s.ha s.hN s.hc, .int .i64 s.bits]) (by simp [results, Tryz.results55, go_sem, q0, q1, q2, q3, q4]) rfl ⟨⟨xU.ln, xU.la, xU.lN, xU.lc, s.hn, s.ha, s.hN, s.hc, s.bits⟩, rfl, unhide HSB, ?_, ?_⟩
      · exact SpAt.put5 i1 q0 q1 q2 q3 q4 _ _ _ _ _
      · exact set5 hBf (Nat.le_succ _) _ _ _ _ _
  · have hc1 : ¬ cmpInt lo 0 < 0 := by unfold cmpInt; rw [if_neg (by omega)]; split <;> omega
    have HEL := hide (show clipL lo = lo by unfold clipL; rw [if_neg hl])
    rw [unhide HEL]
    clear hl
    have lz0 := st.s.lt
    have lz2 := st.y.lt
    obtain ⟨⟨t0, t1, t2, t3, t4⟩, t5⟩ := st.s
    obtain ⟨⟨v0, v1, v2, v3, v4⟩, v5⟩ := st.y
    go_wp2_with fail
    refine (cmp_int _ _ _ _ _ _ _ _ _ _ hi (Q b) _ st.ps.hi st.py.lo).mono ?_
    rintro r' w5 ⟨rfl, hb5⟩
    replace st := st.below hb5
    clear hb5 t0 t1 t2 t3 t4 t5 v0 v1 v2 v3 v4 v5 lz0 lz2
    have lz0 := st.s.lt
    have lz2 := st.y.lt
    have lzR := st.no.lt
    have HST := hide st
    by_cases hh : Q b < hi
    · have hc2 : 0 < cmpInt hi (Q b) := by unfold cmpInt; rw [if_neg (by omega), if_pos (by omega)]; omega
      have HEH := hide (show clipH b hi = Q b by unfold clipH; rw [if_pos (by omega)])
      obtain ⟨⟨t0, t1, t2, t3, t4⟩, t5⟩ := st.s
      obtain ⟨⟨v0, v1, v2, v3, v4⟩, v5⟩ := st.y
      obtain ⟨q0, q1, q2, q3, q4, q5⟩ := st.no
      have hBf := st.be
      have i1 := st.ps.lo
      have i2 := st.py.lo
      clear st hh
      go_wp2_with fail
      rw [unhide HEH]
      (try rw [unhide HEL])
      obtain ⟨p0, p1, p2, p3, p4, p5⟩ := NoC.offH ⟨q0, q1, q2, q3, q4, q5⟩ (show w.heap.size + 1 ≠ w.heap.size by omega) (.bool yU.ln) (.slice yU.la yU.lN yU.lc)
      refine bodyPost_ret (v := .agg #[.bool s.ln, .slice s.la s.lN s.lc, .bool yU.ln, .slice yU.la yU.lN yU.lc, .int .i64 s.bits]) (by simp [results, Tryz.results55, go_sem, q0, q1, q2, q3, q4]) rfl ⟨⟨s.ln, s.la, s.lN, s.lc, yU.ln, yU.la, yU.lN, yU.lc, s.bits⟩, rfl, unhide HSB, ?_, ?_⟩
      · exact SpAt.put5 (show SpAt _ (⟨s.ln, s.la, s.lN, s.lc, yU.ln, yU.la, yU.lN, yU.lc, s.bits⟩ : Sp) K _ _ from ⟨i1.putH t2 t3 _ _, i2.putH t2 t3 _ _⟩) p0 p1 p2 p3 p4 _ _ _ _ _
      · exact set5 ((hBf.setCell (p := ⟨w.heap.size, 2, none⟩) (Nat.le_refl _) _).setCell (p := ⟨w.heap.size, 3, none⟩) (Nat.le_refl _) _) (Nat.le_succ _) _ _ _ _ _
    · have hc2 : ¬ 0 < cmpInt hi (Q b) := by unfold cmpInt; split <;> (try split) <;> omega
      have HEH := hide (show clipH b hi = hi by unfold clipH; rw [if_neg (by omega)])
      obtain ⟨⟨t0, t1, t2, t3, t4⟩, t5⟩ := st.s
      obtain ⟨q0, q1, q2, q3, q4, q5⟩ := st.no
      have hBf := st.be
      have i1 := st.ps
      clear st hh
      go_wp2_with fail
      rw [unhide HEH]
      (try rw [unhide HEL])
      refine bodyPost_ret (v := .agg #[.bool s.ln, .slice s.la s.lN s.lc, .bool s.hn, .slice s.ha s.hN s.hc, .int .i64 s.bits]) (by simp [results, Tryz.results55, go_sem, q0, q1, q2, q3, q4]) rfl ⟨⟨s.ln, s.la, s.lN, s.lc, s.hn, s.ha, s.hN, s.hc, s.bits⟩, rfl, unhide HSB, ?_, ?_⟩
      · exact SpAt.put5 i1 q0 q1 q2 q3 q4 _ _ _ _ _
      · exact set5 hBf (Nat.le_succ _) _ _ _ _ _
end Go.Proofs.YtgmnknmjainababGreat

namespace Go.Proofs.YtgmnknmjainababGreat
set_option linter.unusedVariables false
set_option linter.unusedSimpArgs false
set_option linter.unnecessarySimpa false
open Go.RowKit
attribute [local go_sem ↓] Go.wp_at_zero Go.wp_at_succ

/-- Do two spans touch? Of each the ends, and how many bits more it is told by. -/
def touB (lo hi : Int) (i : Nat) (lo' hi' : Int) (j : Nat) : Bool := decide (lo * Q i ≤ hi' * Q j) && decide (lo' * Q j ≤ hi * Q i)

theorem downZ_up (x : Int) (a b : Int) (i : Nat) (h : b - a = (i : Int)) : downZ x (a - b) = x * Q i := by
  unfold downZ
  by_cases h0 : i = 0
  · subst h0
    have e : a - b = 0 := by omega
    rw [e]; simp [Q]
  · rw [if_neg (by omega)]; congr 2; omega
theorem downZ_upn (x : Int) (a b : Int) (i : Nat) (h : b - a = (i : Int)) : -(downZ (-x) (a - b)) = x * Q i := by
  rw [downZ_up _ a b i h, Int.neg_mul, Int.neg_neg]

set_option maxRecDepth 100000 in
set_option maxHeartbeats 4000000 in
theorem touch_gt (w : World) (s t : Sp) (k i j : Nat) (lo hi lo' hi' : Int) (hs : SpAt w s k lo hi) (ht : SpAt w t k lo' hi') (hk : k ≤ 300000000) (s0 : 0 ≤ s.bits) (s1 : s.bits ≤ 1000000) (t0 : 0 ≤ t.bits) (t1 : t.bits ≤ 1000000) (hc : s.bits < t.bits) (hi1 : t.bits - s.bits = (i : Int)) (hj1 : t.bits - t.bits = (j : Int)) :
    Calls Tryz.prog 50 #[.agg #[.bool s.ln, .slice s.la s.lN s.lc, .bool s.hn, .slice s.ha s.hN s.hc, .int .i64 s.bits], .agg #[.bool t.ln, .slice t.la t.lN t.lc, .bool t.hn, .slice t.ha t.hN t.hc, .int .i64 t.bits]] w fun r w' => r = .returned (.bool (touB lo hi i lo' hi' j)) ∧ Below w.heap.size w w' := by
  obtain ⟨W, hW⟩ : ∃ W, W = (w.alloc (.cells #[.bool s.ln, .slice s.la s.lN s.lc, .bool s.hn, .slice s.ha s.hN s.hc, .int .i64 s.bits] 36)).alloc (.cells #[.bool t.ln, .slice t.la t.lN t.lc, .bool t.hn, .slice t.ha t.hN t.hc, .int .i64 t.bits] 36) := ⟨_, rfl⟩
  have hBW : Below w.heap.size w W := by rw [hW]; exact bl2 _ _ _
  have A : SpC W w.heap.size s := by rw [hW]; exact ⟨by simp [go_sem], by simp [go_sem], by simp [go_sem], by simp [go_sem], by simp [go_sem]⟩
  have G : SpC W (w.heap.size + 1) t := by rw [hW]; exact ⟨by simp [go_sem], by simp [go_sem], by simp [go_sem], by simp [go_sem], by simp [go_sem]⟩
  have FA : ∀ o, W.frozen? ⟨w.heap.size, o, none⟩ = false := by intro o; rw [hW]; simp [go_sem]
  have FG : ∀ o, W.frozen? ⟨w.heap.size + 1, o, none⟩ = false := by intro o; rw [hW]; simp [go_sem]
  have a1 := hide (downZ_up lo s.bits (t.bits) i hi1)
  have a2 := hide (downZ_upn hi s.bits (t.bits) i hi1)
  have a3 := hide (downZ_up lo' t.bits (t.bits) j hj1)
  have a4 := hide (downZ_upn hi' t.bits (t.bits) j hj1)
  have HS := hide (hs.below hBW)
  have HT := hide (ht.below hBW)
  have HA := hide A
  have HG := hide G
  have lA := A.lt
  have lG := G.lt
  have nAG : w.heap.size ≠ w.heap.size + 1 := by omega
  clear hi1 hj1 hs ht
  go_enter Tryz.func50, Tryz.ntmps50
  go_wp2_with fail
  rw [← hW]
  clear hW
  obtain ⟨x0, x1, x2, x3, x4⟩ := A
  obtain ⟨y0, y1, y2, y3, y4⟩ := G
  try go_wp2_with fail
  go_cut [] (fun wx => ∃ s2 t2 : Sp, SpC wx w.heap.size s2 ∧ SpC wx (w.heap.size + 1) t2 ∧ SpAt wx s2 (k + 62505) (lo * Q i) (hi * Q i) ∧ SpAt wx t2 (k + 62505) (lo' * Q j) (hi' * Q j) ∧ Below w.heap.size w wx)
  case first =>
    go_region_with
      (first
        | (go_at_call 90; have hq := hB1; refine (refTurn_int _ t k (t.bits) lo' hi' ((unhide HT).below hB1) hk t0 t1 (by omega) (by omega)).mono ?_; rintro r w2 ⟨u2, rfl, hub2, hup2, hb2⟩; rw [unhide a3, unhide a4] at hup2; clear hub2; have hB2 := bthen hB1 hb2; replace hup1 := hup1.below hb2; have l2A := Nat.lt_of_lt_of_le lA hB2.size; have l2G := Nat.lt_of_lt_of_le lG hB2.size; obtain ⟨a0, a1, a2, a3, a4⟩ := (unhide HA).below hB2; obtain ⟨g0, g1, g2, g3, g4⟩ := (unhide HG).below hB2; have fA2 : ∀ o, w2.frozen? ⟨w.heap.size, o, none⟩ = false := (fun o => (hB2.frozen (p := ⟨w.heap.size, o, none⟩) lA).trans (FA o)); have fG2 : ∀ o, w2.frozen? ⟨w.heap.size + 1, o, none⟩ = false := (fun o => (hB2.frozen (p := ⟨w.heap.size + 1, o, none⟩) lG).trans (FG o)))
        | (go_at_call 90; refine (refTurn_int _ s k (t.bits) lo hi ((unhide HS).below (by repeat' (first | with_reducible exact Below.refl _ _ | with_reducible refine Below.drew ?_))) hk s0 s1 (by omega) (by omega)).mono ?_; rintro r w1 ⟨u1, rfl, hub1, hup1, hb1⟩; rw [unhide a1, unhide a2] at hup1; clear hub1; have hB1 : Below W.heap.size W w1 := bthen (by repeat' (first | with_reducible exact Below.refl _ _ | with_reducible refine Below.drew ?_)) hb1; obtain ⟨b0, b1, b2, b3, b4⟩ := (unhide HA).below hB1; obtain ⟨d0, d1, d2, d3, d4⟩ := (unhide HG).below hB1; have l1A := Nat.lt_of_lt_of_le lA hB1.size; have l1G := Nat.lt_of_lt_of_le lG hB1.size))
    all_goals
      go_wp2_with fail
      go_meet
      have A2 : SpC w2 w.heap.size s := ⟨a0, a1, a2, a3, a4⟩
      have G2 : SpC w2 (w.heap.size + 1) t := ⟨g0, g1, g2, g3, g4⟩
      obtain ⟨p1, p2, p3, p4⟩ := two_sp A2 G2 nAG u1 u2
      exact ⟨u1, u2, p1, p2, p3 hup1, p3 hup2, set5 (set5 (bthen hBW hB2) (Nat.le_refl _) _ _ _ _ _) (Nat.le_succ _) _ _ _ _ _⟩
  case rest =>
  obtain ⟨s2, t2, A, G, hs, ht, hBW⟩ := hcut
  clear HA HG HS HT lA lG x0 x1 x2 x3 x4 y0 y1 y2 y3 y4 FA FG
  have lA := A.lt
  have lG := G.lt
  by_cases hq : lo * Q i ≤ hi' * Q j
  · have c1 : cmpInt (lo * Q i) (hi' * Q j) ≤ 0 := by unfold cmpInt; split; omega; rw [if_neg (by omega)]; omega
    have HE := hide (show decide (cmpInt (lo' * Q j) (hi * Q i) ≤ 0) = touB lo hi i lo' hi' j by rw [cmp_le0]; unfold touB; rw [decide_eq_true hq, Bool.true_and])
    obtain ⟨x0, x1, x2, x3, x4⟩ := A
    obtain ⟨y0, y1, y2, y3, y4⟩ := G
    clear hq
    go_wp2_with fail
    refine (cmp_int _ _ _ _ _ _ _ _ (k + 62505) (k + 62505) (lo * Q i) (hi' * Q j) _ hs.lo ht.hi).mono ?_
    rintro r w1 ⟨rfl, hb1⟩
    have A := (SpC.mk x0 x1 x2 x3 x4).below hb1
    have G := (SpC.mk y0 y1 y2 y3 y4).below hb1
    replace hs := hs.below hb1
    replace ht := ht.below hb1
    replace hBW := bthen hBW hb1
    clear x0 x1 x2 x3 x4 y0 y1 y2 y3 y4 hb1
    obtain ⟨x0, x1, x2, x3, x4⟩ := A
    obtain ⟨y0, y1, y2, y3, y4⟩ := G
    go_wp2_with fail
    refine (cmp_int _ _ _ _ _ _ _ _ (k + 62505) (k + 62505) (lo' * Q j) (hi * Q i) _ ht.lo hs.hi).mono ?_
    rintro r w2 ⟨rfl, hb2⟩
    replace hBW := bthen hBW hb2
    go_wp2_with fail
    go_ret
    exact ⟨by rw [← unhide HE]; rfl, hBW⟩
  · have c1 : ¬ cmpInt (lo * Q i) (hi' * Q j) ≤ 0 := by unfold cmpInt; rw [if_neg (by omega), if_pos (by omega)]; omega
    have HE := hide (show touB lo hi i lo' hi' j = false by unfold touB; rw [decide_eq_false hq, Bool.false_and])
    obtain ⟨x0, x1, x2, x3, x4⟩ := A
    obtain ⟨y0, y1, y2, y3, y4⟩ := G
    clear hq
    go_wp2_with fail
    refine (cmp_int _ _ _ _ _ _ _ _ (k + 62505) (k + 62505) (lo * Q i) (hi' * Q j) _ hs.lo ht.hi).mono ?_
    rintro r w1 ⟨rfl, hb1⟩
    replace hBW := bthen hBW hb1
    go_wp2_with fail
    go_ret
    exact ⟨by rw [unhide HE]; rfl, hBW⟩

set_option maxRecDepth 100000 in
set_option maxHeartbeats 4000000 in
theorem touch_le (w : World) (s t : Sp) (k i j : Nat) (lo hi lo' hi' : Int) (hs : SpAt w s k lo hi) (ht : SpAt w t k lo' hi') (hk : k ≤ 300000000) (s0 : 0 ≤ s.bits) (s1 : s.bits ≤ 1000000) (t0 : 0 ≤ t.bits) (t1 : t.bits ≤ 1000000) (hc : t.bits ≤ s.bits) (hi1 : s.bits - s.bits = (i : Int)) (hj1 : s.bits - t.bits = (j : Int)) :
    Calls Tryz.prog 50 #[.agg #[.bool s.ln, .slice s.la s.lN s.lc, .bool s.hn, .slice s.ha s.hN s.hc, .int .i64 s.bits], .agg #[.bool t.ln, .slice t.la t.lN t.lc, .bool t.hn, .slice t.ha t.hN t.hc, .int .i64 t.bits]] w fun r w' => r = .returned (.bool (touB lo hi i lo' hi' j)) ∧ Below w.heap.size w w' := by
  obtain ⟨W, hW⟩ : ∃ W, W = (w.alloc (.cells #[.bool s.ln, .slice s.la s.lN s.lc, .bool s.hn, .slice s.ha s.hN s.hc, .int .i64 s.bits] 36)).alloc (.cells #[.bool t.ln, .slice t.la t.lN t.lc, .bool t.hn, .slice t.ha t.hN t.hc, .int .i64 t.bits] 36) := ⟨_, rfl⟩
  have hBW : Below w.heap.size w W := by rw [hW]; exact bl2 _ _ _
  have A : SpC W w.heap.size s := by rw [hW]; exact ⟨by simp [go_sem], by simp [go_sem], by simp [go_sem], by simp [go_sem], by simp [go_sem]⟩
  have G : SpC W (w.heap.size + 1) t := by rw [hW]; exact ⟨by simp [go_sem], by simp [go_sem], by simp [go_sem], by simp [go_sem], by simp [go_sem]⟩
  have FA : ∀ o, W.frozen? ⟨w.heap.size, o, none⟩ = false := by intro o; rw [hW]; simp [go_sem]
  have FG : ∀ o, W.frozen? ⟨w.heap.size + 1, o, none⟩ = false := by intro o; rw [hW]; simp [go_sem]
  have a1 := hide (downZ_up lo s.bits (s.bits) i hi1)
  have a2 := hide (downZ_upn hi s.bits (s.bits) i hi1)
  have a3 := hide (downZ_up lo' t.bits (s.bits) j hj1)
  have a4 := hide (downZ_upn hi' t.bits (s.bits) j hj1)
  have HS := hide (hs.below hBW)
  have HT := hide (ht.below hBW)
  have HA := hide A
  have HG := hide G
  have lA := A.lt
  have lG := G.lt
  have nAG : w.heap.size ≠ w.heap.size + 1 := by omega
  clear hi1 hj1 hs ht
  go_enter Tryz.func50, Tryz.ntmps50
  go_wp2_with fail
  rw [← hW]
  clear hW
  obtain ⟨x0, x1, x2, x3, x4⟩ := A
  obtain ⟨y0, y1, y2, y3, y4⟩ := G
  try go_wp2_with fail
  go_cut [] (fun wx => ∃ s2 t2 : Sp, SpC wx w.heap.size s2 ∧ SpC wx (w.heap.size + 1) t2 ∧ SpAt wx s2 (k + 62505) (lo * Q i) (hi * Q i) ∧ SpAt wx t2 (k + 62505) (lo' * Q j) (hi' * Q j) ∧ Below w.heap.size w wx)
  case first =>
    go_region_with
      (first
        | (go_at_call 90; have hq := hB1; refine (refTurn_int _ t k (s.bits) lo' hi' ((unhide HT).below hB1) hk t0 t1 (by omega) (by omega)).mono ?_; rintro r w2 ⟨u2, rfl, hub2, hup2, hb2⟩; rw [unhide a3, unhide a4] at hup2; clear hub2; have hB2 := bthen hB1 hb2; replace hup1 := hup1.below hb2; have l2A := Nat.lt_of_lt_of_le lA hB2.size; have l2G := Nat.lt_of_lt_of_le lG hB2.size; obtain ⟨a0, a1, a2, a3, a4⟩ := (unhide HA).below hB2; obtain ⟨g0, g1, g2, g3, g4⟩ := (unhide HG).below hB2; have fA2 : ∀ o, w2.frozen? ⟨w.heap.size, o, none⟩ = false := (fun o => (hB2.frozen (p := ⟨w.heap.size, o, none⟩) lA).trans (FA o)); have fG2 : ∀ o, w2.frozen? ⟨w.heap.size + 1, o, none⟩ = false := (fun o => (hB2.frozen (p := ⟨w.heap.size + 1, o, none⟩) lG).trans (FG o)))
        | (go_at_call 90; refine (refTurn_int _ s k (s.bits) lo hi ((unhide HS).below (by repeat' (first | with_reducible exact Below.refl _ _ | with_reducible refine Below.drew ?_))) hk s0 s1 (by omega) (by omega)).mono ?_; rintro r w1 ⟨u1, rfl, hub1, hup1, hb1⟩; rw [unhide a1, unhide a2] at hup1; clear hub1; have hB1 : Below W.heap.size W w1 := bthen (by repeat' (first | with_reducible exact Below.refl _ _ | with_reducible refine Below.drew ?_)) hb1; obtain ⟨b0, b1, b2, b3, b4⟩ := (unhide HA).below hB1; obtain ⟨d0, d1, d2, d3, d4⟩ := (unhide HG).below hB1; have l1A := Nat.lt_of_lt_of_le lA hB1.size; have l1G := Nat.lt_of_lt_of_le lG hB1.size))
    all_goals
      go_wp2_with fail
      go_meet
      have A2 : SpC w2 w.heap.size s := ⟨a0, a1, a2, a3, a4⟩
      have G2 : SpC w2 (w.heap.size + 1) t := ⟨g0, g1, g2, g3, g4⟩
      obtain ⟨p1, p2, p3, p4⟩ := two_sp A2 G2 nAG u1 u2
      exact ⟨u1, u2, p1, p2, p3 hup1, p3 hup2, set5 (set5 (bthen hBW hB2) (Nat.le_refl _) _ _ _ _ _) (Nat.le_succ _) _ _ _ _ _⟩
  case rest =>
  obtain ⟨s2, t2, A, G, hs, ht, hBW⟩ := hcut
  clear HA HG HS HT lA lG x0 x1 x2 x3 x4 y0 y1 y2 y3 y4 FA FG
  have lA := A.lt
  have lG := G.lt
  by_cases hq : lo * Q i ≤ hi' * Q j
  · have c1 : cmpInt (lo * Q i) (hi' * Q j) ≤ 0 := by unfold cmpInt; split; omega; rw [if_neg (by omega)]; omega
    have HE := hide (show decide (cmpInt (lo' * Q j) (hi * Q i) ≤ 0) = touB lo hi i lo' hi' j by rw [cmp_le0]; unfold touB; rw [decide_eq_true hq, Bool.true_and])
    obtain ⟨x0, x1, x2, x3, x4⟩ := A
    obtain ⟨y0, y1, y2, y3, y4⟩ := G
    clear hq
    go_wp2_with fail
    refine (cmp_int _ _ _ _ _ _ _ _ (k + 62505) (k + 62505) (lo * Q i) (hi' * Q j) _ hs.lo ht.hi).mono ?_
    rintro r w1 ⟨rfl, hb1⟩
    have A := (SpC.mk x0 x1 x2 x3 x4).below hb1
    have G := (SpC.mk y0 y1 y2 y3 y4).below hb1
    replace hs := hs.below hb1
    replace ht := ht.below hb1
    replace hBW := bthen hBW hb1
    clear x0 x1 x2 x3 x4 y0 y1 y2 y3 y4 hb1
    obtain ⟨x0, x1, x2, x3, x4⟩ := A
    obtain ⟨y0, y1, y2, y3, y4⟩ := G
    go_wp2_with fail
    refine (cmp_int _ _ _ _ _ _ _ _ (k + 62505) (k + 62505) (lo' * Q j) (hi * Q i) _ ht.lo hs.hi).mono ?_
    rintro r w2 ⟨rfl, hb2⟩
    replace hBW := bthen hBW hb2
    go_wp2_with fail
    go_ret
    exact ⟨by rw [← unhide HE]; rfl, hBW⟩
  · have c1 : ¬ cmpInt (lo * Q i) (hi' * Q j) ≤ 0 := by unfold cmpInt; rw [if_neg (by omega), if_pos (by omega)]; omega
    have HE := hide (show touB lo hi i lo' hi' j = false by unfold touB; rw [decide_eq_false hq, Bool.false_and])
    obtain ⟨x0, x1, x2, x3, x4⟩ := A
    obtain ⟨y0, y1, y2, y3, y4⟩ := G
    clear hq
    go_wp2_with fail
    refine (cmp_int _ _ _ _ _ _ _ _ (k + 62505) (k + 62505) (lo * Q i) (hi' * Q j) _ hs.lo ht.hi).mono ?_
    rintro r w1 ⟨rfl, hb1⟩
    replace hBW := bthen hBW hb1
    go_wp2_with fail
    go_ret
    exact ⟨by rw [unhide HE]; rfl, hBW⟩
end Go.Proofs.YtgmnknmjainababGreat

namespace Go.Proofs.YtgmnknmjainababGreat
set_option linter.unusedVariables false
set_option linter.unusedSimpArgs false
set_option linter.unnecessarySimpa false
open Go.RowKit
attribute [local go_sem ↓] Go.wp_at_zero Go.wp_at_succ

set_option maxRecDepth 100000 in
set_option maxHeartbeats 2000000 in
theorem lawSure_bad (w : World) (s t : Sp) (k : Nat) (er bt : Int) (hs : SpAt w s k 0 0) (hb : s.bits = 0) (her : er ≠ 0) :
    Calls Tryz.prog 12 #[.agg #[.bool s.ln, .slice s.la s.lN s.lc, .bool s.hn, .slice s.ha s.hN s.hc, .int .i64 s.bits], .int .i64 er, .int .i64 er, .int .i64 bt, .agg #[.bool t.ln, .slice t.la t.lN t.lc, .bool t.hn, .slice t.ha t.hN t.hc, .int .i64 t.bits]] w fun r w' => r = .returned (.bool true) ∧ Below w.heap.size w w' := by
  have he' : (er != 0) = true := by simpa using her
  have HZ3 := hide hb
  clear hb
  go_enter Tryz.func12, Tryz.ntmps12
  go_wp2_with fail
  refine (same_true _ s ⟨false, none, 0, 0, false, none, 0, 0, 0⟩ k 0 0 (hs.below (bl2 _ _ _)) (zeroSp _ _) (unhide HZ3)).mono ?_
  rintro r w1 ⟨rfl, hb1⟩
  go_wp2_with fail
  go_ret
  exact ⟨rfl, bthen (bl2 _ _ _) hb1⟩

theorem narrowBy_four (w : World) (s : Sp) (b : Nat) (lo hi : Int) (h : SpAt w s 250 lo hi) (hb : s.bits = b) (hb1 : b ≤ 120) (hle : lo ≤ hi) (hN : narB lo hi (Q b) 4 = true) :
    Calls Tryz.prog 47 #[.agg #[.bool s.ln, .slice s.la s.lN s.lc, .bool s.hn, .slice s.ha s.hN s.hc, .int .i64 s.bits], .int .i64 4] w fun r w' => r = .returned (.bool true) ∧ Below w.heap.size w w' :=
  (narrowBy_int w s b 4 lo hi h hb hb1 (by omega) hle).mono fun r w' ⟨h1, h2⟩ => ⟨by rw [h1]; congr 2, h2⟩

set_option maxRecDepth 100000 in
set_option maxHeartbeats 4000000 in
theorem lawSure_a (w : World) (s t : Sp) (b i k : Nat) (lo hi lo' hi' : Int) (hs : SpAt w s 250 lo hi) (ht : SpAt w t k lo' hi') (hk0 : 250 ≤ k) (hk : k ≤ 300000000) (hb : s.bits = b) (hbm : b ≤ 120) (hle : lo ≤ hi) (hi0 : 1 ≤ i) (hi1 : i ≤ 1000) (htb : t.bits = ((b + i : Nat) : Int)) (hN : narB lo hi (Q b) 4 = true) (hT : touB lo hi i lo' hi' 0 = true) (hc : cmpInt lo hi = -1) :
    Calls Tryz.prog 12 #[.agg #[.bool s.ln, .slice s.la s.lN s.lc, .bool s.hn, .slice s.ha s.hN s.hc, .int .i64 s.bits], .int .i64 0, .int .i64 0, .int .i64 s.bits, .agg #[.bool t.ln, .slice t.la t.lN t.lc, .bool t.hn, .slice t.ha t.hN t.hc, .int .i64 t.bits]] w fun r w' => r = .returned (.bool true) ∧ Below w.heap.size w w' := by
  obtain ⟨W, hW⟩ : ∃ W, W = (w.alloc (.cells #[.bool s.ln, .slice s.la s.lN s.lc, .bool s.hn, .slice s.ha s.hN s.hc, .int .i64 s.bits] 28)).alloc (.cells #[.bool t.ln, .slice t.la t.lN t.lc, .bool t.hn, .slice t.ha t.hN t.hc, .int .i64 t.bits] 36) := ⟨_, rfl⟩
  have hBW : Below w.heap.size w W := by rw [hW]; exact bl2 _ _ _
  have A : SpC W w.heap.size s := by rw [hW]; exact ⟨by simp [go_sem], by simp [go_sem], by simp [go_sem], by simp [go_sem], by simp [go_sem]⟩
  have C : SpC W (w.heap.size + 1) t := by rw [hW]; exact ⟨by simp [go_sem], by simp [go_sem], by simp [go_sem], by simp [go_sem], by simp [go_sem]⟩
  have HS := hide (hs.below hBW)
  have HT := hide (ht.below hBW)
  have HSB := hide hb
  have HTB := hide htb
  have HN := hide hN
  have HTO := hide hT
  have HC := hide hc
  have HLE := hide hle
  have HK := hide (show ∀ w', Below W.heap.size W w' → (w'.cell? ⟨w.heap.size, 0, none⟩ = some (.bool s.ln) ∧ w'.cell? ⟨w.heap.size, 1, none⟩ = some (.slice s.la s.lN s.lc) ∧ w'.cell? ⟨w.heap.size, 2, none⟩ = some (.bool s.hn) ∧ w'.cell? ⟨w.heap.size, 3, none⟩ = some (.slice s.ha s.hN s.hc) ∧ w'.cell? ⟨w.heap.size, 4, none⟩ = some (.int .i64 s.bits) ∧ w'.cell? ⟨w.heap.size + 1, 0, none⟩ = some (.bool t.ln) ∧ w'.cell? ⟨w.heap.size + 1, 1, none⟩ = some (.slice t.la t.lN t.lc) ∧ w'.cell? ⟨w.heap.size + 1, 2, none⟩ = some (.bool t.hn) ∧ w'.cell? ⟨w.heap.size + 1, 3, none⟩ = some (.slice t.ha t.hN t.hc) ∧ w'.cell? ⟨w.heap.size + 1, 4, none⟩ = some (.int .i64 t.bits)) from fun w' hB => ⟨(A.below hB).c0, (A.below hB).c1, (A.below hB).c2, (A.below hB).c3, (A.below hB).c4, (C.below hB).c0, (C.below hB).c1, (C.below hB).c2, (C.below hB).c3, (C.below hB).c4⟩)
  clear A C hs ht hb htb hN hT hc hle
  go_enter Tryz.func12, Tryz.ntmps12
  go_wp2
  rw [← hW]
  clear hW
  obtain ⟨x0, x1, x2, x3, x4, y0, y1, y2, y3, y4⟩ := unhide HK _ (Below.refl _ _)
  have hD0 : Below W.heap.size W W.drew := (Below.refl _ _).drew
  go_region_held3 (fun w' => w'.cell? ⟨w.heap.size, 0, none⟩ = some (.bool s.ln) ∧ w'.cell? ⟨w.heap.size, 1, none⟩ = some (.slice s.la s.lN s.lc) ∧ w'.cell? ⟨w.heap.size, 2, none⟩ = some (.bool s.hn) ∧ w'.cell? ⟨w.heap.size, 3, none⟩ = some (.slice s.ha s.hN s.hc) ∧ w'.cell? ⟨w.heap.size, 4, none⟩ = some (.int .i64 s.bits) ∧ w'.cell? ⟨w.heap.size + 1, 0, none⟩ = some (.bool t.ln) ∧ w'.cell? ⟨w.heap.size + 1, 1, none⟩ = some (.slice t.la t.lN t.lc) ∧ w'.cell? ⟨w.heap.size + 1, 2, none⟩ = some (.bool t.hn) ∧ w'.cell? ⟨w.heap.size + 1, 3, none⟩ = some (.slice t.ha t.hN t.hc) ∧ w'.cell? ⟨w.heap.size + 1, 4, none⟩ = some (.int .i64 t.bits)) (first | exact unhide HK _ (by first | with_reducible exact hD0 | with_reducible exact hD6 | with_reducible exact hD5 | with_reducible exact hD4 | with_reducible exact hD3 | with_reducible exact hD2 | with_reducible exact hD1) | go_keep)
    (first
      | (go_at_call 50; have hq := hD5; refine (touch_gt _ s t k i 0 lo hi lo' hi' (((unhide HS).below hD5).mono hk0) ((unhide HT).below hD5) hk (by have := unhide HSB; omega) (by have := unhide HSB; omega) (by have := unhide HTB; omega) (by have := unhide HTB; omega) (by have := unhide HSB; have := unhide HTB; omega) (by have := unhide HSB; have := unhide HTB; omega) (by have := unhide HTB; omega)).mono ?_; rintro r' w6 ⟨rfl, hb6⟩; rw [unhide HTO]; have hD6 := bthen hD5 hb6)
      | (go_at_call 51; have hq := hD4; refine (refOf_any _ s).mono ?_; rintro r' w5 ⟨rfl, hb5⟩; have hD5 := bthen hD4 hb5)
      | (go_at_call 47; have hq := hD3; refine (narrowBy_four _ s b lo hi ((unhide HS).below hD3) (unhide HSB) hbm (unhide HLE) (unhide HN)).mono ?_; rintro r' w4 ⟨rfl, hb4⟩; have hD4 := bthen hD3 hb4)
      | (go_at_call 46; have hq := hD2; refine (cmp_int _ _ _ _ _ _ _ _ _ _ lo hi _ ((unhide HS).lo.below hD2) ((unhide HS).hi.below hD2)).mono ?_; rintro r' w3 ⟨rfl, hb3⟩; rw [unhide HC]; have hD3 := bthen hD2 hb3)
      | (go_at_call 49; have hq := hD1; refine (isRight_int _ _ _ _ 250 hi _ ((unhide HS).hi.below hD1)).mono ?_; rintro r' w2 ⟨rfl, hb2⟩; have hD2 := bthen hD1 hb2)
      | (go_at_call 49; refine (isRight_int _ _ _ _ 250 lo _ ((unhide HS).lo.below hD0)).mono ?_; rintro r' w1 ⟨rfl, hb1⟩; have hD1 := bthen hD0 hb1))
  all_goals
    go_wp2_with fail
    go_ret
    exact ⟨rfl, bthen hBW hD6⟩

set_option maxRecDepth 100000 in
set_option maxHeartbeats 4000000 in
theorem lawSure_b (w : World) (s t : Sp) (b i k : Nat) (lo hi lo' hi' : Int) (hs : SpAt w s 250 lo hi) (ht : SpAt w t k lo' hi') (hk0 : 250 ≤ k) (hk : k ≤ 300000000) (hb : s.bits = b) (hbm : b ≤ 120) (hle : lo ≤ hi) (hi0 : 1 ≤ i) (hi1 : i ≤ 1000) (htb : t.bits = ((b + i : Nat) : Int)) (hN : narB lo hi (Q b) 4 = true) (hT : touB lo hi i lo' hi' 0 = true) (hc : cmpInt lo hi = 0) :
    Calls Tryz.prog 12 #[.agg #[.bool s.ln, .slice s.la s.lN s.lc, .bool s.hn, .slice s.ha s.hN s.hc, .int .i64 s.bits], .int .i64 0, .int .i64 0, .int .i64 s.bits, .agg #[.bool t.ln, .slice t.la t.lN t.lc, .bool t.hn, .slice t.ha t.hN t.hc, .int .i64 t.bits]] w fun r w' => r = .returned (.bool true) ∧ Below w.heap.size w w' := by
  obtain ⟨W, hW⟩ : ∃ W, W = (w.alloc (.cells #[.bool s.ln, .slice s.la s.lN s.lc, .bool s.hn, .slice s.ha s.hN s.hc, .int .i64 s.bits] 28)).alloc (.cells #[.bool t.ln, .slice t.la t.lN t.lc, .bool t.hn, .slice t.ha t.hN t.hc, .int .i64 t.bits] 36) := ⟨_, rfl⟩
  have hBW : Below w.heap.size w W := by rw [hW]; exact bl2 _ _ _
  have A : SpC W w.heap.size s := by rw [hW]; exact ⟨by simp [go_sem], by simp [go_sem], by simp [go_sem], by simp [go_sem], by simp [go_sem]⟩
  have C : SpC W (w.heap.size + 1) t := by rw [hW]; exact ⟨by simp [go_sem], by simp [go_sem], by simp [go_sem], by simp [go_sem], by simp [go_sem]⟩
  have HS := hide (hs.below hBW)
  have HT := hide (ht.below hBW)
  have HSB := hide hb
  have HTB := hide htb
  have HN := hide hN
  have HTO := hide hT
  have HC := hide hc
  have HLE := hide hle
  have HK := hide (show ∀ w', Below W.heap.size W w' → (w'.cell? ⟨w.heap.size, 0, none⟩ = some (.bool s.ln) ∧ w'.cell? ⟨w.heap.size, 1, none⟩ = some (.slice s.la s.lN s.lc) ∧ w'.cell? ⟨w.heap.size, 2, none⟩ = some (.bool s.hn) ∧ w'.cell? ⟨w.heap.size, 3, none⟩ = some (.slice s.ha s.hN s.hc) ∧ w'.cell? ⟨w.heap.size, 4, none⟩ = some (.int .i64 s.bits) ∧ w'.cell? ⟨w.heap.size + 1, 0, none⟩ = some (.bool t.ln) ∧ w'.cell? ⟨w.heap.size + 1, 1, none⟩ = some (.slice t.la t.lN t.lc) ∧ w'.cell? ⟨w.heap.size + 1, 2, none⟩ = some (.bool t.hn) ∧ w'.cell? ⟨w.heap.size + 1, 3, none⟩ = some (.slice t.ha t.hN t.hc) ∧ w'.cell? ⟨w.heap.size + 1, 4, none⟩ = some (.int .i64 t.bits)) from fun w' hB => ⟨(A.below hB).c0, (A.below hB).c1, (A.below hB).c2, (A.below hB).c3, (A.below hB).c4, (C.below hB).c0, (C.below hB).c1, (C.below hB).c2, (C.below hB).c3, (C.below hB).c4⟩)
  clear A C hs ht hb htb hN hT hc hle
  go_enter Tryz.func12, Tryz.ntmps12
  go_wp2
  rw [← hW]
  clear hW
  obtain ⟨x0, x1, x2, x3, x4, y0, y1, y2, y3, y4⟩ := unhide HK _ (Below.refl _ _)
  have hD0 : Below W.heap.size W W.drew := (Below.refl _ _).drew
  go_region_held3 (fun w' => w'.cell? ⟨w.heap.size, 0, none⟩ = some (.bool s.ln) ∧ w'.cell? ⟨w.heap.size, 1, none⟩ = some (.slice s.la s.lN s.lc) ∧ w'.cell? ⟨w.heap.size, 2, none⟩ = some (.bool s.hn) ∧ w'.cell? ⟨w.heap.size, 3, none⟩ = some (.slice s.ha s.hN s.hc) ∧ w'.cell? ⟨w.heap.size, 4, none⟩ = some (.int .i64 s.bits) ∧ w'.cell? ⟨w.heap.size + 1, 0, none⟩ = some (.bool t.ln) ∧ w'.cell? ⟨w.heap.size + 1, 1, none⟩ = some (.slice t.la t.lN t.lc) ∧ w'.cell? ⟨w.heap.size + 1, 2, none⟩ = some (.bool t.hn) ∧ w'.cell? ⟨w.heap.size + 1, 3, none⟩ = some (.slice t.ha t.hN t.hc) ∧ w'.cell? ⟨w.heap.size + 1, 4, none⟩ = some (.int .i64 t.bits)) (first | exact unhide HK _ (by first | with_reducible exact hD0 | with_reducible exact hD6 | with_reducible exact hD5 | with_reducible exact hD4 | with_reducible exact hD3 | with_reducible exact hD2 | with_reducible exact hD1) | go_keep)
    (first
      | (go_at_call 50; have hq := hD5; refine (touch_gt _ s t k i 0 lo hi lo' hi' (((unhide HS).below hD5).mono hk0) ((unhide HT).below hD5) hk (by have := unhide HSB; omega) (by have := unhide HSB; omega) (by have := unhide HTB; omega) (by have := unhide HTB; omega) (by have := unhide HSB; have := unhide HTB; omega) (by have := unhide HSB; have := unhide HTB; omega) (by have := unhide HTB; omega)).mono ?_; rintro r' w6 ⟨rfl, hb6⟩; rw [unhide HTO]; have hD6 := bthen hD5 hb6)
      | (go_at_call 51; have hq := hD4; refine (refOf_any _ s).mono ?_; rintro r' w5 ⟨rfl, hb5⟩; have hD5 := bthen hD4 hb5)
      | (go_at_call 47; have hq := hD3; refine (narrowBy_four _ s b lo hi ((unhide HS).below hD3) (unhide HSB) hbm (unhide HLE) (unhide HN)).mono ?_; rintro r' w4 ⟨rfl, hb4⟩; have hD4 := bthen hD3 hb4)
      | (go_at_call 46; have hq := hD2; refine (cmp_int _ _ _ _ _ _ _ _ _ _ lo hi _ ((unhide HS).lo.below hD2) ((unhide HS).hi.below hD2)).mono ?_; rintro r' w3 ⟨rfl, hb3⟩; rw [unhide HC]; have hD3 := bthen hD2 hb3)
      | (go_at_call 49; have hq := hD1; refine (isRight_int _ _ _ _ 250 hi _ ((unhide HS).hi.below hD1)).mono ?_; rintro r' w2 ⟨rfl, hb2⟩; have hD2 := bthen hD1 hb2)
      | (go_at_call 49; refine (isRight_int _ _ _ _ 250 lo _ ((unhide HS).lo.below hD0)).mono ?_; rintro r' w1 ⟨rfl, hb1⟩; have hD1 := bthen hD0 hb1))
  all_goals
    go_wp2_with fail
    go_ret
    exact ⟨rfl, bthen hBW hD6⟩
end Go.Proofs.YtgmnknmjainababGreat
