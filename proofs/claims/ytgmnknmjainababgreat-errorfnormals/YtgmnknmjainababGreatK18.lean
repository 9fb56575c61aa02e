/-
  What tailsureref.Clip and tailsurelaw.inside answer, and that they leave old memory alone.
  What tailsureref.Pi answers, and that it leaves old memory alone.
  The error function grows at least as fast, too; and it is the sum of powers by turns. Plain arithmetic: no statement of the seat is proved here.
  The error function is the sum of powers by turns. Plain arithmetic: no statement of the seat is proved here.
-/
import Derived.Test.YtgmnknmjainababGreatK17
namespace Go.Proofs.YtgmnknmjainababGreat
set_option linter.unusedVariables false
set_option linter.unusedSimpArgs false
set_option linter.unnecessarySimpa false
open Go.RowKit
attribute [local go_sem ↓] Go.wp_at_zero Go.wp_at_succ

/-- What is cut off at 0, and at 1. -/
def clipL (lo : Int) : Int := if lo < 0 then 0 else lo
def clipH (b : Nat) (hi : Int) : Int := if Q b < hi then Q b else hi
theorem refWhole_z {b : Nat} (z : Int) (hz : z = (b : Int)) (w : World) (n : Int) (hb : b ≤ 100000) (h0 : -9223372036854775808 ≤ n) (h1 : n ≤ 9223372036854775807) :
    Calls Tryz.prog 27 #[.int .i64 n, .int .i64 z] w (SpanAns w b (b / 16 + 18) (n * Q b) (n * Q b)) := by
  subst hz; exact refWhole w n b hb h0 h1
theorem sp_putLo {w : World} {B : Nat} {s : Sp} (h : VrC w B s) (x : Nm) : VrC (put2w w B x) B ⟨x.neg, x.a, x.n, x.cap, s.hn, s.ha, s.hN, s.hc, s.bits⟩ := by
  obtain ⟨⟨q0, q1, q2, q3, q4⟩, q5⟩ := h
  exact ⟨⟨by simp [go_sem, q0], by simp [go_sem, q1], by simp [go_sem, q2], by simp [go_sem, q3], by simp [go_sem, q4]⟩, fun o => by rw [frozen_set', frozen_set']; exact q5 o⟩
theorem VrC.offv {w : World} {B B' : Nat} {s : Sp} (h : VrC w B s) (hne : B ≠ B') (y : Nm) : VrC (put2w w B' y) B s := by
  obtain ⟨⟨q0, q1, q2, q3, q4⟩, q5⟩ := h
  exact ⟨⟨by simp [go_sem, q0, hne, Ne.symm hne], by simp [go_sem, q1, hne, Ne.symm hne], by simp [go_sem, q2, hne, Ne.symm hne], by simp [go_sem, q3, hne, Ne.symm hne], by simp [go_sem, q4, hne, Ne.symm hne]⟩, fun o => by rw [frozen_set', frozen_set']; exact q5 o⟩
/-- Where tailsureref.Clip is. -/
structure ClSt (w wr : World) (B C : Nat) (ss xx yy : Sp) (K b : Nat) (lo hi : Int) : Prop where
  s : VrC wr w.heap.size ss
  x : VrC wr B xx
  y : VrC wr C yy
  ps : SpAt wr ss K lo hi
  px : SpAt wr xx K 0 0
  py : SpAt wr yy K (Q b) (Q b)
  no : NoC wr (w.heap.size + 1)
  be : Below w.heap.size w wr
  l : w.heap.size + 1 < B
  l' : w.heap.size + 1 < C
theorem ClSt.below {w wr wr' : World} {B C : Nat} {s x y : Sp} {K b : Nat} {lo hi : Int} (h : ClSt w wr B C s x y K b lo hi) (hb : Below wr.heap.size wr wr') : ClSt w wr' B C s x y K b lo hi :=
  ⟨h.s.below hb, h.x.below hb, h.y.below hb, h.ps.below hb, h.px.below hb, h.py.below hb, h.no.below hb, bthen h.be hb, h.l, h.l'⟩
theorem ClSt.putL {w wr : World} {B C : Nat} {s x y : Sp} {K b : Nat} {lo hi : Int} (h : ClSt w wr B C s x y K b lo hi) : ClSt w (put2w wr w.heap.size ⟨x.ln, x.la, x.lN, x.lc⟩) B C ⟨x.ln, x.la, x.lN, x.lc, s.hn, s.ha, s.hN, s.hc, s.bits⟩ x y K b 0 hi := by
  have c0 := h.s.c.c0
  have c1 := h.s.c.c1
  exact ⟨sp_putLo h.s ⟨x.ln, x.la, x.lN, x.lc⟩, h.x.offv (by have := h.l; omega) _, h.y.offv (by have := h.l'; omega) _, ⟨h.px.lo.put2 c0 c1 _ _, h.ps.hi.put2 c0 c1 _ _⟩, ⟨h.px.lo.put2 c0 c1 _ _, h.px.hi.put2 c0 c1 _ _⟩, ⟨h.py.lo.put2 c0 c1 _ _, h.py.hi.put2 c0 c1 _ _⟩, h.no.offv (by omega) _, set2 h.be (Nat.le_refl _) _ _, h.l, h.l'⟩

set_option maxRecDepth 100000 in
set_option maxHeartbeats 4000000 in
theorem refClip01 (w : World) (s : Sp) (K b : Nat) (lo hi : Int) (hs : SpAt w s K lo hi) (hbits : s.bits = (b : Int)) (hb : b ≤ 10000) (hk0 : b / 16 + 18 ≤ K) (hK : K ≤ 100000000) :
    Calls Tryz.prog 55 #[.agg #[.bool s.ln, .slice s.la s.lN s.lc, .bool s.hn, .slice s.ha s.hN s.hc, .int .i64 s.bits], .int .i64 0, .int .i64 1] w (SpanAns w b K (clipL lo) (clipH b hi)) := by
  have qb := Q_pos b
  obtain ⟨W, hW⟩ : ∃ W, W = (w.alloc (.cells #[.bool s.ln, .slice s.la s.lN s.lc, .bool s.hn, .slice s.ha s.hN s.hc, .int .i64 s.bits] 36)).alloc (.cells #[.bool false, .slice none 0 0, .bool false, .slice none 0 0, .int .i64 0] 36) := ⟨_, rfl⟩
  have hBW : Below w.heap.size w W := by rw [hW]; exact bl2 _ _ _
  have A : VrC W w.heap.size s := by rw [hW]; exact ⟨⟨by simp [go_sem], by simp [go_sem], by simp [go_sem], by simp [go_sem], by simp [go_sem]⟩, fun o => by simp [go_sem]⟩
  have R : NoC W (w.heap.size + 1) := by rw [hW]; exact ⟨by simp [go_sem], by simp [go_sem], by simp [go_sem], by simp [go_sem], by simp [go_sem], fun o => by simp [go_sem]⟩
  have HS := hide (hs.below hBW)
  have HB := hide hbits
  have lA := A.lt
  have lR := R.lt
  clear hs hbits
  go_enter Tryz.func55, Tryz.ntmps55
  go_wp2
  rw [← hW]
  clear hW
  have HK := hide (show ∀ w', Below W.heap.size W w' → (w'.cell? ⟨w.heap.size, 4, none⟩ = some (.int .i64 s.bits)) from fun w' hB => (A.below hB).c.c4)
  have x4 := unhide HK _ (Below.refl _ _)
  go_cut [7, 8] (fun p q wx => TwoP W wx b K K (0, 0) (Q b, Q b) p q)
  case first =>
    go_region_held3 (fun w' => w'.cell? ⟨w.heap.size, 4, none⟩ = some (.int .i64 s.bits)) (exact unhide HK _ (by repeat' (first | with_reducible exact hBU2 | with_reducible exact hBU1 | with_reducible exact Below.refl _ _ | with_reducible refine Below.drew ?_ | with_reducible refine balloc ?_ _ | with_reducible refine Below.setCell ?_ (by first | with_reducible exact Nat.le_refl _ | with_reducible exact Nat.le_succ _ | with_reducible exact hlU1 | with_reducible exact Nat.le_succ_of_le hlU1 | with_reducible exact hlU2 | with_reducible exact Nat.le_succ_of_le hlU2) _)))
      (first
        | (go_at_call 27; have hq := hBU1; refine (refWhole_z s.bits (unhide HB) _ 1 (by omega) (by decide) (by decide)).mono ?_; rintro r wU2 ⟨vU2, rfl, hvbU2, hintU2, hbU2⟩; have HVBU2 := hide hvbU2; clear hvbU2; have hCU2 : Below wU1.heap.size wU1 wU2 := (by first | with_reducible exact hbU2 | with_reducible exact bthen (bl1 _ _) hbU2 | with_reducible exact bthen (bl2 _ _ _) hbU2); have hBU2 := bthen hBU1 hCU2; (first | with_reducible have gaU2 := (noc_new wU1 36).below hbU2 | with_reducible have gaU2 := ((noc_new wU1 36).below (bl1 _ _)).below hbU2 | skip); (try with_reducible have gbU2 := (noc_new' (wU1.alloc _) (wU1.heap.size + 1) (hs1 _ _) 36).below hbU2); replace hintU1 := hintU1.below hCU2; (try have maU1 := gaU1.lt); (try have mbU1 := gbU1.lt); (try replace gaU1 := gaU1.below hCU2); (try replace gbU1 := gbU1.below hCU2); have hlU2 := hBU2.size; (try have eaU1 := gaU1); (try obtain ⟨zaU10, zaU11, zaU12, zaU13, zaU14, zaU15⟩ := eaU1); (try have yaU1 := gaU1.lt); (try have ebU1 := gbU1); (try obtain ⟨zbU10, zbU11, zbU12, zbU13, zbU14, zbU15⟩ := ebU1); (try have ybU1 := gbU1.lt); (try have eaU2 := gaU2); (try obtain ⟨zaU20, zaU21, zaU22, zaU23, zaU24, zaU25⟩ := eaU2); (try have yaU2 := gaU2.lt); (try have ebU2 := gbU2); (try obtain ⟨zbU20, zbU21, zbU22, zbU23, zbU24, zbU25⟩ := ebU2); (try have ybU2 := gbU2.lt))
        | (go_at_call 27; refine (refWhole_z s.bits (unhide HB) _ 0 (by omega) (by decide) (by decide)).mono ?_; rintro r wU1 ⟨vU1, rfl, hvbU1, hintU1, hbU1⟩; have HVBU1 := hide hvbU1; clear hvbU1; have hBU1 : Below W.heap.size W wU1 := (by first | with_reducible exact bthen (Below.refl _ _).drew hbU1 | with_reducible exact bthen (bl1 _ _).drew hbU1 | with_reducible exact bthen (bl2 _ _ _).drew hbU1); (first | with_reducible have gaU1 := ((noc_new W 36).below (Below.refl _ _).drew).below hbU1 | with_reducible have gaU1 := ((noc_new W 36).below (bl1 _ _).drew).below hbU1 | skip); (try with_reducible have gbU1 := ((noc_new' (W.alloc _) (W.heap.size + 1) (hs1 _ _) 36).below (Below.refl _ _).drew).below hbU1); have hlU1 := hBU1.size))
    all_goals
      have hiXU := (show SpAt wU2 vU1 K 0 0 by have h := hintU1.mono hk0; rw [Int.zero_mul] at h; exact h)
      have hiYU := (show SpAt wU2 vU2 K (Q b) (Q b) by have h := hintU2.mono hk0; rw [Int.one_mul] at h; exact h)
      go_wp2_with fail
      go_meet
      first
        | with_reducible exact twoP_aa (x := vU1) (y := vU2) hBU2 hiXU hiYU (unhide HVBU1) (unhide HVBU2)
        | with_reducible exact twoP_aa' (x := vU1) (y := vU2) hBU2 hiXU hiYU (unhide HVBU1) (unhide HVBU2)
        | with_reducible exact twoP_sa (x := vU1) (y := vU2) hBU2 hiXU hiYU (unhide HVBU1) (unhide HVBU2) (by assumption) (by first | with_reducible exact Nat.le_refl _ | with_reducible exact Nat.le_succ _ | with_reducible exact hlU1 | with_reducible exact Nat.le_succ_of_le hlU1 | with_reducible exact hlU2 | with_reducible exact Nat.le_succ_of_le hlU2)
        | with_reducible exact twoP_as (x := vU1) (y := vU2) hBU2 hiXU hiYU (unhide HVBU1) (unhide HVBU2) (by assumption) (by first | with_reducible exact Nat.le_refl _ | with_reducible exact Nat.le_succ _ | with_reducible exact hlU1 | with_reducible exact Nat.le_succ_of_le hlU1 | with_reducible exact hlU2 | with_reducible exact Nat.le_succ_of_le hlU2)
        | with_reducible exact twoP_ss (x := vU1) (y := vU2) hBU2 hiXU hiYU (unhide HVBU1) (unhide HVBU2) (by assumption) (by assumption) (by first | with_reducible exact Nat.le_refl _ | with_reducible exact Nat.le_succ _ | with_reducible exact hlU1 | with_reducible exact Nat.le_succ_of_le hlU1 | with_reducible exact hlU2 | with_reducible exact Nat.le_succ_of_le hlU2) (by first | with_reducible exact Nat.le_refl _ | with_reducible exact Nat.le_succ _ | with_reducible exact hlU1 | with_reducible exact Nat.le_succ_of_le hlU1 | with_reducible exact hlU2 | with_reducible exact Nat.le_succ_of_le hlU2) (by omega)
  case rest =>
  obtain ⟨BU, CU, xU, yU, rfl, rfl, hHU, hJU, hneU, XU, YU, hxU, hyU, bxU, byU, hblU⟩ := hcut
  have st : ClSt w wc BU CU s xU yU K b lo hi := ⟨A.below hblU, XU, YU, (unhide HS).below hblU, hxU, hyU, R.below hblU, bthen hBW hblU, by omega, by omega⟩
  have hsb := unhide HB
  have HXB := hide bxU
  clear A R HS x4 HK XU YU hxU hyU bxU byU hBW hblU lA lR
  have lz0 := st.s.lt
  have lz1 := st.x.lt
  obtain ⟨⟨t0, t1, t2, t3, t4⟩, t5⟩ := st.s
  obtain ⟨⟨u0, u1, u2, u3, u4⟩, u5⟩ := st.x
  have HSB := hide hsb
  clear hsb
  go_wp2_with fail
  refine (cmp_int _ _ _ _ _ _ _ _ _ _ lo 0 _ st.ps.lo st.px.lo).mono ?_
  rintro r' w4 ⟨rfl, hb4⟩
  replace st := st.below hb4
  clear hb4 t0 t1 t2 t3 t4 t5 u0 u1 u2 u3 u4 u5 lz0 lz1
  by_cases hl : lo < 0
  · have hc1 : cmpInt lo 0 < 0 := by unfold cmpInt; rw [if_pos (by omega)]; omega
    have HEL := hide (show clipL lo = 0 by unfold clipL; rw [if_pos hl])
    have lz0 := st.s.lt
    have lz1 := st.x.lt
    have stn := st.putL
    have HSY := hide st.y
    obtain ⟨⟨t0, t1, t2, t3, t4⟩, t5⟩ := st.s
    obtain ⟨⟨u0, u1, u2, u3, u4⟩, u5⟩ := st.x
    obtain ⟨V, hV⟩ : ∃ V, V = put2w w4 w.heap.size ⟨xU.ln, xU.la, xU.lN, xU.lc⟩ := ⟨_, rfl⟩
    rw [← hV] at stn
    unfold put2w at hV
    rw [unhide HEL]
    clear st hl
    have st := stn
    clear stn
    have lz0' := st.s.lt
    have lz2 := st.y.lt
    have n02 : w.heap.size ≠ CU := by have := st.l'; omega
    have n20 : CU ≠ w.heap.size := by have := st.l'; omega
    have y4 := (unhide HSY)
    obtain ⟨⟨v0, v1, v2, v3, v4⟩, v5⟩ := y4
    go_wp2_with fail
    rw [← hV]
    clear hV u0 u1 u2 u3 u4 u5 hc1 lz1 lz0'
    refine (cmp_int _ _ _ _ _ _ _ _ _ _ hi (Q b) _ st.ps.hi st.py.lo).mono ?_
    rintro r' w5 ⟨rfl, hb5⟩
    replace st := st.below hb5
    clear hb5 t0 t1 t2 t3 t4 t5 v0 v1 v2 v3 v4 v5 lz0 lz2
    have lz0 := st.s.lt
    have lz2 := st.y.lt
    have lzR := st.no.lt
    have HST := hide st
    by_cases hh : Q b < hi
    · have hc2 : 0 < cmpInt hi (Q b) := by unfold cmpInt; rw [if_neg (by omega), if_pos (by omega)]; omega
      have HEH := hide (show clipH b hi = Q b by unfold clipH; rw [if_pos (by omega)])
      obtain ⟨⟨t0, t1, t2, t3, t4⟩, t5⟩ := st.s
      obtain ⟨⟨v0, v1, v2, v3, v4⟩, v5⟩ := st.y
      obtain ⟨q0, q1, q2, q3, q4, q5⟩ := st.no
      have hBf := st.be
      have i1 := st.ps.lo
      have i2 := st.py.lo
      clear st hh
      go_wp2_with fail
      rw [unhide HEH]
      (try rw [unhide HEL])
      obtain ⟨p0, p1, p2, p3, p4, p5⟩ := NoC.offH ⟨q0, q1, q2, q3, q4, q5⟩ (show w.heap.size + 1 ≠ w.heap.size by omega) (.bool yU.ln) (.slice yU.la yU.lN yU.lc)
      refine bodyPost_ret (v := .agg #[.bool xU.ln, .slice xU.la xU.lN xU.lc, .bool yU.ln, .slice yU.la yU.lN yU.lc, .int .i64 s.bits]) (by simp [results, Tryz.results55, go_sem, q0, q1, q2, q3, q4]) rfl ⟨⟨xU.ln, xU.la, xU.lN, xU.lc, yU.ln, yU.la, yU.lN, yU.lc, s.bits⟩, rfl, unhide HSB, ?_, ?_⟩
      · exact SpAt.put5 (show SpAt _ (⟨xU.ln, xU.la, xU.lN, xU.lc, yU.ln, yU.la, yU.lN, yU.lc, s.bits⟩ : Sp) K _ _ from ⟨i1.putH t2 t3 _ _, i2.putH t2 t3 _ _⟩) p0 p1 p2 p3 p4 _ _ _ _ _
      · exact set5 ((hBf.setCell (p := ⟨w.heap.size, 2, none⟩) (Nat.le_refl _) _).setCell (p := ⟨w.heap.size, 3, none⟩) (Nat.le_refl _) _) (Nat.le_succ _) _ _ _ _ _
    · have hc2 : ¬ 0 < cmpInt hi (Q b) := by unfold cmpInt; split <;> (try split) <;> omega
      have HEH := hide (show clipH b hi = hi by unfold clipH; rw [if_neg (by omega)])
      obtain ⟨⟨t0, t1, t2, t3, t4⟩, t5⟩ := st.s
      obtain ⟨q0, q1, q2, q3, q4, q5⟩ := st.no
      have hBf := st.be
      have i1 := st.ps
      clear st hh
      go_wp2_with fail
      rw [unhide HEH]
      (try rw [unhide HEL])
      refine bodyPost_ret (v := .agg #[.bool xU.ln, .slice xU.la xU.lN xU.lc, .bool s.hn, .slice s.ha s.hN s.hc, .int .i64 s.bits]) (by simp [results, Tryz.results55, go_sem, q0, q1, q2, q3, q4]) rfl ⟨⟨xU.ln, xU.la, xU.lN, xU.lc, s.hn, s.ha, s.hN, s.hc, s.bits⟩, rfl, unhide HSB, ?_, ?_⟩
      · exact SpAt.put5 i1 q0 q1 q2 q3 q4 _ _ _ _ _
      · exact set5 hBf (Nat.le_succ _) _ _ _ _ _
  · have hc1 : ¬ cmpInt lo 0 < 0 := by unfold cmpInt; rw [if_neg (by omega)]; split <;> omega
    have HEL := hide (show clipL lo = lo by unfold clipL; rw [if_neg hl])
    rw [unhide HEL]
    clear hl
    have lz0 := st.s.lt
    have lz2 := st.y.lt
    obtain ⟨⟨t0, t1, t2, t3, t4⟩, t5⟩ := st.s
    obtain ⟨⟨v0, v1, v2, v3, v4⟩, v5⟩ := st.y
    go_wp2_with fail
    refine (cmp_int _ _ _ _ _ _ _ _ _ _ hi (Q b) _ st.ps.hi st.py.lo).mono ?_
    rintro r' w5 ⟨rfl, hb5⟩
    replace st := st.below hb5
    clear hb5 t0 t1 t2 t3 t4 t5 v0 v1 v2 v3 v4 v5 lz0 lz2
    have lz0 := st.s.lt
    have lz2 := st.y.lt
    have lzR := st.no.lt
    have HST := hide st
    by_cases hh : Q b < hi
    · have hc2 : 0 < cmpInt hi (Q b) := by unfold cmpInt; rw [if_neg (by omega), if_pos (by omega)]; omega
      have HEH := hide (show clipH b hi = Q b by unfold clipH; rw [if_pos (by omega)])
      obtain ⟨⟨t0, t1, t2, t3, t4⟩, t5⟩ := st.s
      obtain ⟨⟨v0, v1, v2, v3, v4⟩, v5⟩ := st.y
      obtain ⟨q0, q1, q2, q3, q4, q5⟩ := st.no
      have hBf := st.be
      have i1 := st.ps.lo
      have i2 := st.py.lo
      clear st hh
      go_wp2_with fail
      rw [unhide HEH]
      (try rw [unhide HEL])
      obtain ⟨p0, p1, p2, p3, p4, p5⟩ := NoC.offH ⟨q0, q1, q2, q3, q4, q5⟩ (show w.heap.size + 1 ≠ w.heap.size by omega) (.bool yU.ln) (.slice yU.la yU.lN yU.lc)
      refine bodyPost_ret (v := .agg #[.bool s.ln, .slice s.la s.lN s.lc, .bool yU.ln, .slice yU.la yU.lN yU.lc, .int .i64 s.bits]) (by simp [results, Tryz.results55, go_sem, q0, q1, q2, q3, q4]) rfl ⟨⟨s.ln, s.la, s.lN, s.lc, yU.ln, yU.la, yU.lN, yU.lc, s.bits⟩, rfl, unhide HSB, ?_, ?_⟩
      · exact SpAt.put5 (show SpAt _ (⟨s.ln, s.la, s.lN, s.lc, yU.ln, yU.la, yU.lN, yU.lc, s.bits⟩ : Sp) K _ _ from ⟨i1.putH t2 t3 _ _, i2.putH t2 t3 _ _⟩) p0 p1 p2 p3 p4 _ _ _ _ _
      · exact set5 ((hBf.setCell (p := ⟨w.heap.size, 2, none⟩) (Nat.le_refl _) _).setCell (p := ⟨w.heap.size, 3, none⟩) (Nat.le_refl _) _) (Nat.le_succ _) _ _ _ _ _
    · have hc2 : ¬ 0 < cmpInt hi (Q b) := by unfold cmpInt; split <;> (try split) <;> omega
      have HEH := hide (show clipH b hi = hi by unfold clipH; rw [if_neg (by omega)])
      obtain ⟨⟨t0, t1, t2, t3, t4⟩, t5⟩ := st.s
      obtain ⟨q0, q1, q2, q3, q4, q5⟩ := st.no
      have hBf := st.be
      have i1 := st.ps
      clear st hh
      go_wp2_with fail
      rw [unhide HEH]
      (try rw [unhide HEL])
      refine bodyPost_ret (v := .agg #[.bool s.ln, .slice s.la s.lN s.lc, .bool s.hn, .slice s.ha s.hN s.hc, .int .i64 s.bits]) (by simp [results, Tryz.results55, go_sem, q0, q1, q2, q3, q4]) rfl ⟨⟨s.ln, s.la, s.lN, s.lc, s.hn, s.ha, s.hN, s.hc, s.bits⟩, rfl, unhide HSB, ?_, ?_⟩
      · exact SpAt.put5 i1 q0 q1 q2 q3 q4 _ _ _ _ _
      · exact set5 hBf (Nat.le_succ _) _ _ _ _ _
end Go.Proofs.YtgmnknmjainababGreat

namespace Go.Proofs.YtgmnknmjainababGreat
set_option linter.unusedVariables false
set_option linter.unusedSimpArgs false
set_option linter.unnecessarySimpa false
open Go.RowKit
attribute [local go_sem ↓] Go.wp_at_zero Go.wp_at_succ

theorem pi_small {i : Int} (h0 : 0 ≤ i) (h1 : i ≤ 1000000) : (-9223372036854775808 ≤ (2 * i + 1) * (2 * i + 1) ∧ (2 * i + 1) * (2 * i + 1) ≤ 9223372036854775807 ∧ -9223372036854775808 ≤ 8 * (i + 1) * (2 * (i + 1) + 1) ∧ 8 * (i + 1) * (2 * (i + 1) + 1) ≤ 9223372036854775807 ∧ 0 < 8 * (i + 1) * (2 * (i + 1) + 1)) := by
  have a := Int.mul_nonneg h0 h0
  have b := Int.mul_le_mul h1 h1 h0 (by omega)
  have e1 : (2 * i + 1) * (2 * i + 1) = 4 * (i * i) + 4 * i + 1 := by grind
  have e2 : 8 * (i + 1) * (2 * (i + 1) + 1) = 16 * (i * i) + 40 * i + 24 := by grind
  rw [e1, e2]
  omega
/-- Where tailsureref.Pi is behind some rounds. -/
structure PiSt (w wr : World) (B4 B5 m K : Nat) (U Sm : Sp) (f : Nat → Int × Int) (i : Nat) : Prop where
  y : VrC wr B4 U
  s : VrC wr B5 Sm
  yp : SpAt wr U K (f i).1 (f i).2
  sp : SpAt wr Sm K (sumI f i).1 (sumI f i).2
  yb : U.bits = (m : Int)
  sb : Sm.bits = (m : Int)
  no : NoC wr w.heap.size
  be : Below w.heap.size w wr
  l4 : w.heap.size < B4
  l5 : w.heap.size < B5
  ne : B4 ≠ B5
theorem PiSt.below {w wr wr' : World} {B4 B5 m K : Nat} {U Sm : Sp} {f : Nat → Int × Int} {i : Nat} (h : PiSt w wr B4 B5 m K U Sm f i) (hb : Below wr.heap.size wr wr') : PiSt w wr' B4 B5 m K U Sm f i :=
  ⟨h.y.below hb, h.s.below hb, h.yp.below hb, h.sp.below hb, h.yb, h.sb, h.no.below hb, bthen h.be hb, h.l4, h.l5, h.ne⟩

set_option maxRecDepth 100000 in
set_option maxHeartbeats 8000000 in
theorem refPi_iv (w : World) (b m N K : Nat) (hm : m = b + 16) (hb : b ≤ 5000) (hN : IsStop (prT m) N) (hNb : N ≤ m / 2 + 2) (hK : Q (m + 20) < P K) (hK2 : K ≤ 1000000) (hK3 : m / 16 + 18 ≤ K) :
    Calls Tryz.prog 191 #[.int .i64 b] w (SpanAns w b (K + 62510) (downI (doneT (prT m) N) 16).1 (downI (doneT (prT m) N) 16).2) := by
  obtain ⟨W, hW⟩ : ∃ W, W = w.alloc (.cells #[.bool false, .slice none 0 0, .bool false, .slice none 0 0, .int .i64 0] 36) := ⟨_, rfl⟩
  have hBW : Below w.heap.size w W := by rw [hW]; exact bl1 _ _
  have R : NoC W w.heap.size := by rw [hW]; exact ⟨by simp [go_sem], by simp [go_sem], by simp [go_sem], by simp [go_sem], by simp [go_sem], fun o => by simp [go_sem]⟩
  have hQm := Q_pos m
  have hN1 : 1 ≤ N := by
    refine Nat.pos_of_ne_zero fun e => ?_
    have h1 := hN.1
    rw [e] at h1
    have h2 := (reach_abs (prT_le m 0)).2.2.2
    have h3 : (prT m 0).2 = 3 * Q m := rfl
    omega
  have hQK : Q m * 1048576 < P K := by
    have e : Q (m + 20) = Q m * Q 20 := Q_add m 20
    have e2 : Q 20 = 1048576 := rfl
    rw [e, e2] at hK; exact hK
  have HFIT : Hid (∀ j, j ≤ N → -P K < (prT m j).1 ∧ (prT m j).2 < P K) := hide (fun j _ => by
    obtain ⟨g1, g2, g3, g4⟩ := prT_abs m j
    have := Q_mono (show m + 2 - 2 * j ≤ m + 2 by omega)
    have e : Q (m + 2) = 2 * (2 * Q m) := rfl
    omega)
  have HFITS : Hid (∀ j, j ≤ N → -P K < (sumI (prT m) j).1 ∧ (sumI (prT m) j).2 < P K) := hide (fun j hj => by
    have a1 := sum_lo (f := prT m) (fun j => prT_nonneg m j) j
    have a2 := sum_hi (f := prT m) (U := 4 * Q m) (fun j => by
      obtain ⟨g1, g2, g3, g4⟩ := prT_abs m j
      have := Q_mono (show m + 2 - 2 * j ≤ m + 2 by omega)
      have e : Q (m + 2) = 2 * (2 * Q m) := rfl
      omega) j
    have := Int.mul_le_mul_of_nonneg_right (show (j : Int) + 1 ≤ 200000 by omega) (show 0 ≤ 4 * Q m by omega)
    omega)
  have HN := hide hN
  have HM := hide (show (b : Int) + 16 = (m : Int) by omega)
  have H3 := hide (show (3 * Q m, 3 * Q m) = prT m 0 from rfl)
  clear hN hQK
  go_enter Tryz.func191, Tryz.ntmps191
  go_wp2_with fail
  rw [← hW]
  clear hW
  refine (refWhole_z _ (unhide HM) _ 3 (by omega) (by omega) (by omega)).mono ?_
  rintro r w0 ⟨u0, rfl, hub, hup, hb0⟩
  replace R := R.below hb0
  replace hBW := bthen hBW hb0
  have lR0 := R.lt
  have HUB := hide hub
  have HUP := hide (show SpAt w0 u0 K (prT m 0).1 (prT m 0).2 from hup.mono hK3)
  clear hub hup hb0
  obtain ⟨V, hV⟩ : ∃ V, V = (w0.alloc (.cells #[.bool u0.ln, .slice u0.la u0.lN u0.lc, .bool u0.hn, .slice u0.ha u0.hN u0.hc, .int .i64 u0.bits] 36)).alloc (.cells #[.bool u0.ln, .slice u0.la u0.lN u0.lc, .bool u0.hn, .slice u0.ha u0.hN u0.hc, .int .i64 u0.bits] 36) := ⟨_, rfl⟩
  have bV : Below w0.heap.size w0 V := by rw [hV]; exact bl2 _ _ _
  have Y0 : VrC V w0.heap.size u0 := by rw [hV]; exact ⟨⟨by simp [go_sem], by simp [go_sem], by simp [go_sem], by simp [go_sem], by simp [go_sem]⟩, fun o => by simp [go_sem]⟩
  have S0 : VrC V (w0.heap.size + 1) u0 := by rw [hV]; exact ⟨⟨by simp [go_sem], by simp [go_sem], by simp [go_sem], by simp [go_sem], by simp [go_sem]⟩, fun o => by simp [go_sem]⟩
  have st0 : PiSt w V w0.heap.size (w0.heap.size + 1) m K u0 u0 (prT m) 0 := ⟨Y0, S0, (unhide HUP).below bV, (unhide HUP).below bV, unhide HUB, unhide HUB, R.below bV, bthen hBW bV, by omega, by omega, by omega⟩
  clear Y0 S0 R hBW bV HUP HUB
  go_wp2_with fail
  rw [← hV]
  clear hV
  obtain ⟨B4, hB4⟩ : ∃ B, B = w0.heap.size := ⟨_, rfl⟩
  obtain ⟨B5, hB5⟩ : ∃ B, B = w0.heap.size + 1 := ⟨_, rfl⟩
  rw [← hB5, ← hB4] at st0
  rw [← hB5, ← hB4]
  clear hB4 hB5 lR0
  go_loopw [6] (fun nn wr => ∃ (i : Nat) (U Sm : Sp), nn = .int .i64 ((i : Int) + 1) ∧ i < N ∧ PiSt w wr B4 B5 m K U Sm (prT m) i) (fun nn _ => N + 1 - (intOf nn).toNat)
  case atStart => exact ⟨0, u0, u0, rfl, hN1, st0⟩
  case round =>
    obtain ⟨i, U, Sm, rfl, hi, st⟩ := hrel
    clear st0
    have hlim : (i : Int) + 1 < (b : Int) + 16 := by omega
    have HQ := hide (pi_small (i := (i : Int)) (by omega) (by omega))
    have E2 := hide (show IntKind.i64.wrap (2 * ((i : Int) + 1)) = 2 * ((i : Int) + 1) from i64_id _ (by omega) (by omega))
    have E3 := hide (show IntKind.i64.wrap (2 * ((i : Int) + 1) - 1) = 2 * (i : Int) + 1 from (i64_id _ (by omega) (by omega)).trans (by omega))
    have E7 := hide (show IntKind.i64.wrap ((2 * (i : Int) + 1) * (2 * (i : Int) + 1)) = (2 * (i : Int) + 1) * (2 * (i : Int) + 1) from i64_id _ (unhide HQ).1 (unhide HQ).2.1)
    have E10 := hide (show IntKind.i64.wrap (8 * ((i : Int) + 1)) = 8 * ((i : Int) + 1) from i64_id _ (by omega) (by omega))
    have E13 := hide (show IntKind.i64.wrap (2 * ((i : Int) + 1) + 1) = 2 * ((i : Int) + 1) + 1 from i64_id _ (by omega) (by omega))
    have E14 := hide (show IntKind.i64.wrap (8 * ((i : Int) + 1) * (2 * ((i : Int) + 1) + 1)) = 8 * ((i : Int) + 1) * (2 * ((i : Int) + 1) + 1) from i64_id _ (unhide HQ).2.2.1 (unhide HQ).2.2.2.1)
    have HK := hide (show ∀ w', Below wr.heap.size wr w' → (w'.cell? ⟨B4, 0, none⟩ = some (.bool U.ln) ∧ w'.cell? ⟨B4, 1, none⟩ = some (.slice U.la U.lN U.lc) ∧ w'.cell? ⟨B4, 2, none⟩ = some (.bool U.hn) ∧ w'.cell? ⟨B4, 3, none⟩ = some (.slice U.ha U.hN U.hc) ∧ w'.cell? ⟨B4, 4, none⟩ = some (.int .i64 U.bits)) from fun w' hB => ⟨(st.y.below hB).c.c0, (st.y.below hB).c.c1, (st.y.below hB).c.c2, (st.y.below hB).c.c3, (st.y.below hB).c.c4⟩)
    have hD0 : Below wr.heap.size wr wr.drew := (Below.refl _ _).drew
    have ST := hide st
    clear st
    go_wp2_with fail
    refine AnyL.start (S := fun w' => w'.cell? ⟨B4, 0, none⟩ = some (.bool U.ln) ∧ w'.cell? ⟨B4, 1, none⟩ = some (.slice U.la U.lN U.lc) ∧ w'.cell? ⟨B4, 2, none⟩ = some (.bool U.hn) ∧ w'.cell? ⟨B4, 3, none⟩ = some (.slice U.ha U.hN U.hc) ∧ w'.cell? ⟨B4, 4, none⟩ = some (.int .i64 U.bits)) (l := 17) (by kernel_rfl) (unhide HK _ hD0) (fun hHeld => ?_)
    refine AnyL.take (i := 0) (oi := { dst := some 17, op := Go.Op.load 36 (Go.Operand.tmp 4), type := 36, pos := "func.go:127", after := #[], guard := none }) (v := .agg #[.bool U.ln, .slice U.la U.lN U.lc, .bool U.hn, .slice U.ha U.hN U.hc, .int .i64 U.bits]) rfl (by kernel_rfl) (by kernel_rfl) (by kernel_rfl) (by kernel_rfl) (fun _ _ _ h => h) (Or.inl ⟨by rfl, fun w hSw => ?_⟩) hHeld ?_
    · obtain ⟨s0, s1, s2, s3, s4⟩ := hSw; go_simp
    try simp only [Act.put, List.setIfInBounds_toArray, List.set_cons_zero, List.set_cons_succ]
    refine AnyL.take (i := 1) (oi := { dst := some 18, op := Go.Op.move (Go.Operand.tmp 6), type := 3, pos := "func.go:127", after := #[], guard := none }) (v := .int .i64 ((i : Int) + 1)) rfl (by kernel_rfl) (by kernel_rfl) (by kernel_rfl) (by kernel_rfl) (fun _ _ _ h => h) (Or.inl ⟨by rfl, fun w hSw => ?_⟩) hHeld ?_
    · obtain ⟨s0, s1, s2, s3, s4⟩ := hSw; go_simp
    try simp only [Act.put, List.setIfInBounds_toArray, List.set_cons_zero, List.set_cons_succ]
    refine AnyL.take (i := 2) (oi := { dst := some 19, op := Go.Op.binOp Go.BinOp.mul 3 (Go.Operand.const (Go.Value.int Go.IntKind.i64 2)) (Go.Operand.tmp 18) 3, type := 3, pos := "func.go:127", after := #[{ on := 1, ground := Go.Ground.data }], guard := none }) (v := .int .i64 (IntKind.i64.wrap (2 * ((i : Int) + 1)))) rfl (by kernel_rfl) (by kernel_rfl) (by kernel_rfl) (by kernel_rfl) (fun _ _ _ h => h) (Or.inl ⟨by rfl, fun w hSw => ?_⟩) hHeld ?_
    · obtain ⟨s0, s1, s2, s3, s4⟩ := hSw; go_simp
    try simp only [Act.put, List.setIfInBounds_toArray, List.set_cons_zero, List.set_cons_succ]
    refine AnyL.take (i := 3) (oi := { dst := some 20, op := Go.Op.binOp Go.BinOp.sub 3 (Go.Operand.tmp 19) (Go.Operand.const (Go.Value.int Go.IntKind.i64 1)) 3, type := 3, pos := "func.go:127", after := #[{ on := 2, ground := Go.Ground.data }], guard := none }) (v := .int .i64 (IntKind.i64.wrap ((IntKind.i64.wrap (2 * ((i : Int) + 1))) - 1))) rfl (by kernel_rfl) (by kernel_rfl) (by kernel_rfl) (by kernel_rfl) (fun _ _ _ h => h) (Or.inl ⟨by rfl, fun w hSw => ?_⟩) hHeld ?_
    · obtain ⟨s0, s1, s2, s3, s4⟩ := hSw; go_simp
    try simp only [Act.put, List.setIfInBounds_toArray, List.set_cons_zero, List.set_cons_succ]
    refine AnyL.take (i := 4) (oi := { dst := some 21, op := Go.Op.move (Go.Operand.tmp 6), type := 3, pos := "func.go:127", after := #[], guard := none }) (v := .int .i64 ((i : Int) + 1)) rfl (by kernel_rfl) (by kernel_rfl) (by kernel_rfl) (by kernel_rfl) (fun _ _ _ h => h) (Or.inl ⟨by rfl, fun w hSw => ?_⟩) hHeld ?_
    · obtain ⟨s0, s1, s2, s3, s4⟩ := hSw; go_simp
    try simp only [Act.put, List.setIfInBounds_toArray, List.set_cons_zero, List.set_cons_succ]
    refine AnyL.take (i := 5) (oi := { dst := some 22, op := Go.Op.binOp Go.BinOp.mul 3 (Go.Operand.const (Go.Value.int Go.IntKind.i64 2)) (Go.Operand.tmp 21) 3, type := 3, pos := "func.go:127", after := #[{ on := 4, ground := Go.Ground.data }], guard := none }) (v := .int .i64 (IntKind.i64.wrap (2 * ((i : Int) + 1)))) rfl (by kernel_rfl) (by kernel_rfl) (by kernel_rfl) (by kernel_rfl) (fun _ _ _ h => h) (Or.inl ⟨by rfl, fun w hSw => ?_⟩) hHeld ?_
    · obtain ⟨s0, s1, s2, s3, s4⟩ := hSw; go_simp
    try simp only [Act.put, List.setIfInBounds_toArray, List.set_cons_zero, List.set_cons_succ]
    refine AnyL.take (i := 6) (oi := { dst := some 23, op := Go.Op.binOp Go.BinOp.sub 3 (Go.Operand.tmp 22) (Go.Operand.const (Go.Value.int Go.IntKind.i64 1)) 3, type := 3, pos := "func.go:127", after := #[{ on := 5, ground := Go.Ground.data }], guard := none }) (v := .int .i64 (IntKind.i64.wrap ((IntKind.i64.wrap (2 * ((i : Int) + 1))) - 1))) rfl (by kernel_rfl) (by kernel_rfl) (by kernel_rfl) (by kernel_rfl) (fun _ _ _ h => h) (Or.inl ⟨by rfl, fun w hSw => ?_⟩) hHeld ?_
    · obtain ⟨s0, s1, s2, s3, s4⟩ := hSw; go_simp
    try simp only [Act.put, List.setIfInBounds_toArray, List.set_cons_zero, List.set_cons_succ]
    refine AnyL.take (i := 7) (oi := { dst := some 24, op := Go.Op.binOp Go.BinOp.mul 3 (Go.Operand.tmp 20) (Go.Operand.tmp 23) 3, type := 3, pos := "func.go:127", after := #[{ on := 3, ground := Go.Ground.data }, { on := 6, ground := Go.Ground.data }], guard := none }) (v := .int .i64 (IntKind.i64.wrap ((IntKind.i64.wrap ((IntKind.i64.wrap (2 * ((i : Int) + 1))) - 1)) * (IntKind.i64.wrap ((IntKind.i64.wrap (2 * ((i : Int) + 1))) - 1))))) rfl (by kernel_rfl) (by kernel_rfl) (by kernel_rfl) (by kernel_rfl) (fun _ _ _ h => h) (Or.inl ⟨by rfl, fun w hSw => ?_⟩) hHeld ?_
    · obtain ⟨s0, s1, s2, s3, s4⟩ := hSw; go_simp
    try simp only [Act.put, List.setIfInBounds_toArray, List.set_cons_zero, List.set_cons_succ]
    refine AnyL.take (i := 9) (oi := { dst := some 26, op := Go.Op.move (Go.Operand.tmp 6), type := 3, pos := "func.go:127", after := #[], guard := none }) (v := .int .i64 ((i : Int) + 1)) rfl (by kernel_rfl) (by kernel_rfl) (by kernel_rfl) (by kernel_rfl) (fun _ _ _ h => h) (Or.inl ⟨by rfl, fun w hSw => ?_⟩) hHeld ?_
    · obtain ⟨s0, s1, s2, s3, s4⟩ := hSw; go_simp
    try simp only [Act.put, List.setIfInBounds_toArray, List.set_cons_zero, List.set_cons_succ]
    refine AnyL.take (i := 10) (oi := { dst := some 27, op := Go.Op.binOp Go.BinOp.mul 3 (Go.Operand.const (Go.Value.int Go.IntKind.i64 8)) (Go.Operand.tmp 26) 3, type := 3, pos := "func.go:127", after := #[{ on := 9, ground := Go.Ground.data }], guard := none }) (v := .int .i64 (IntKind.i64.wrap (8 * ((i : Int) + 1)))) rfl (by kernel_rfl) (by kernel_rfl) (by kernel_rfl) (by kernel_rfl) (fun _ _ _ h => h) (Or.inl ⟨by rfl, fun w hSw => ?_⟩) hHeld ?_
    · obtain ⟨s0, s1, s2, s3, s4⟩ := hSw; go_simp
    try simp only [Act.put, List.setIfInBounds_toArray, List.set_cons_zero, List.set_cons_succ]
    refine AnyL.take (i := 11) (oi := { dst := some 28, op := Go.Op.move (Go.Operand.tmp 6), type := 3, pos := "func.go:127", after := #[], guard := none }) (v := .int .i64 ((i : Int) + 1)) rfl (by kernel_rfl) (by kernel_rfl) (by kernel_rfl) (by kernel_rfl) (fun _ _ _ h => h) (Or.inl ⟨by rfl, fun w hSw => ?_⟩) hHeld ?_
    · obtain ⟨s0, s1, s2, s3, s4⟩ := hSw; go_simp
    try simp only [Act.put, List.setIfInBounds_toArray, List.set_cons_zero, List.set_cons_succ]
    refine AnyL.take (i := 12) (oi := { dst := some 29, op := Go.Op.binOp Go.BinOp.mul 3 (Go.Operand.const (Go.Value.int Go.IntKind.i64 2)) (Go.Operand.tmp 28) 3, type := 3, pos := "func.go:127", after := #[{ on := 11, ground := Go.Ground.data }], guard := none }) (v := .int .i64 (IntKind.i64.wrap (2 * ((i : Int) + 1)))) rfl (by kernel_rfl) (by kernel_rfl) (by kernel_rfl) (by kernel_rfl) (fun _ _ _ h => h) (Or.inl ⟨by rfl, fun w hSw => ?_⟩) hHeld ?_
    · obtain ⟨s0, s1, s2, s3, s4⟩ := hSw; go_simp
    try simp only [Act.put, List.setIfInBounds_toArray, List.set_cons_zero, List.set_cons_succ]
    refine AnyL.take (i := 13) (oi := { dst := some 30, op := Go.Op.binOp Go.BinOp.add 3 (Go.Operand.tmp 29) (Go.Operand.const (Go.Value.int Go.IntKind.i64 1)) 3, type := 3, pos := "func.go:127", after := #[{ on := 12, ground := Go.Ground.data }], guard := none }) (v := .int .i64 (IntKind.i64.wrap ((IntKind.i64.wrap (2 * ((i : Int) + 1))) + 1))) rfl (by kernel_rfl) (by kernel_rfl) (by kernel_rfl) (by kernel_rfl) (fun _ _ _ h => h) (Or.inl ⟨by rfl, fun w hSw => ?_⟩) hHeld ?_
    · obtain ⟨s0, s1, s2, s3, s4⟩ := hSw; go_simp
    try simp only [Act.put, List.setIfInBounds_toArray, List.set_cons_zero, List.set_cons_succ]
    refine AnyL.take (i := 14) (oi := { dst := some 31, op := Go.Op.binOp Go.BinOp.mul 3 (Go.Operand.tmp 27) (Go.Operand.tmp 30) 3, type := 3, pos := "func.go:127", after := #[{ on := 10, ground := Go.Ground.data }, { on := 13, ground := Go.Ground.data }], guard := none }) (v := .int .i64 (IntKind.i64.wrap ((IntKind.i64.wrap (8 * ((i : Int) + 1))) * (IntKind.i64.wrap ((IntKind.i64.wrap (2 * ((i : Int) + 1))) + 1))))) rfl (by kernel_rfl) (by kernel_rfl) (by kernel_rfl) (by kernel_rfl) (fun _ _ _ h => h) (Or.inl ⟨by rfl, fun w hSw => ?_⟩) hHeld ?_
    · obtain ⟨s0, s1, s2, s3, s4⟩ := hSw; go_simp
    try simp only [Act.put, List.setIfInBounds_toArray, List.set_cons_zero, List.set_cons_succ]
    refine AnyL.one (i := 8) (o := { dst := some 25, op := Go.Op.call { callee := Go.Callee.value (Go.Operand.func 43), args := #[Go.Operand.tmp 24], argTypes := #[3] }, type := 26, pos := "func.go:127", after := #[{ on := 7, ground := Go.Ground.data }], guard := none }) (by kernel_rfl) rfl (fun Kc hKc => ?_)
    go_simp
    rw [unhide E2, unhide E3, unhide E7]
    refine (numOf_int ((2 * (i : Int) + 1) * (2 * (i : Int) + 1)) _ (unhide HQ).1 (unhide HQ).2.1).mono ?_
    rintro r' w1 ⟨neg1, a1, n1, c1, rfl, hint1, hb1⟩
    have hD1 := bthen hD0 hb1
    go_wp2_with fail
    refine hKc.out _ _ (unhide HK _ hD1) (fun hHeld => ?_)
    clear hKc Kc
    try simp only [Act.put, List.setIfInBounds_toArray, List.set_cons_zero, List.set_cons_succ]
    refine AnyL.one (i := 15) (o := { dst := some 32, op := Go.Op.call { callee := Go.Callee.value (Go.Operand.func 43), args := #[Go.Operand.tmp 31], argTypes := #[3] }, type := 26, pos := "func.go:127", after := #[{ on := 14, ground := Go.Ground.data }, { on := 8, ground := Go.Ground.chain }], guard := none }) (by kernel_rfl) rfl (fun Kc hKc => ?_)
    go_simp
    (first | rw [unhide E10, unhide E2, unhide E13, unhide E14] | rw [unhide E10, unhide E13, unhide E14])
    refine (numOf_int (8 * ((i : Int) + 1) * (2 * ((i : Int) + 1) + 1)) _ (unhide HQ).2.2.1 (unhide HQ).2.2.2.1).mono ?_
    rintro r' w2 ⟨neg2, a2, n2, c2, rfl, hint2, hb2⟩
    have hD2 := bthen hD1 hb2
    go_wp2_with fail
    refine hKc.out _ _ (unhide HK _ hD2) (fun hHeld => ?_)
    clear hKc Kc
    try simp only [Act.put, List.setIfInBounds_toArray, List.set_cons_zero, List.set_cons_succ]
    refine AnyL.one (i := 16) (o := { dst := some 33, op := Go.Op.call { callee := Go.Callee.value (Go.Operand.func 56), args := #[Go.Operand.tmp 17, Go.Operand.tmp 25, Go.Operand.tmp 32], argTypes := #[36, 26, 26] }, type := 36, pos := "func.go:127", after := #[{ on := 0, ground := Go.Ground.data }, { on := 8, ground := Go.Ground.data }, { on := 15, ground := Go.Ground.data }, { on := 15, ground := Go.Ground.chain }], guard := none }) (by kernel_rfl) rfl (fun Kc hKc => ?_)
    go_simp
    refine (refBy _ U ⟨neg1, a1, n1, c1⟩ ⟨neg2, a2, n2, c2⟩ K 4 4 m (prT m i) ((2 * (i : Int) + 1) * (2 * (i : Int) + 1)) (8 * ((i : Int) + 1) * (2 * ((i : Int) + 1) + 1)) ((unhide ST).yp.below hD2) (hint1.below hb2) hint2 (by omega) (by omega) (by omega) (unhide HQ).2.2.2.2 (unhide ST).yb).mono ?_
    rintro r' w3 ⟨v3, rfl, hvb3, hvp3, hb3⟩
    have hD3 := bthen hD2 hb3
    have HV3 := hide hvb3
    clear hvb3
    go_wp2_with fail
    refine hKc.out _ _ (unhide HK _ hD3) (fun hHeld => ?_)
    clear hKc Kc
    try simp only [Act.put, List.setIfInBounds_toArray, List.set_cons_zero, List.set_cons_succ]
    refine AnyL.last (o := { dst := none, op := Go.Op.store 36 (Go.Operand.tmp 4) (Go.Operand.tmp 33), type := 0, pos := "func.go:127", after := #[{ on := 16, ground := Go.Ground.data }, { on := 16, ground := Go.Ground.chain }, { on := 0, ground := Go.Ground.phase }, { on := 1, ground := Go.Ground.phase }, { on := 2, ground := Go.Ground.phase }, { on := 3, ground := Go.Ground.phase }, { on := 4, ground := Go.Ground.phase }, { on := 5, ground := Go.Ground.phase }, { on := 6, ground := Go.Ground.phase }, { on := 7, ground := Go.Ground.phase }, { on := 8, ground := Go.Ground.phase }, { on := 9, ground := Go.Ground.phase }, { on := 10, ground := Go.Ground.phase }, { on := 11, ground := Go.Ground.phase }, { on := 12, ground := Go.Ground.phase }, { on := 13, ground := Go.Ground.phase }, { on := 14, ground := Go.Ground.phase }, { on := 15, ground := Go.Ground.phase }, { on := 16, ground := Go.Ground.phase }], guard := none }) (by kernel_rfl) rfl (by kernel_rfl) (fun Kc hKc => ?_)
    have V3c := (unhide ST).y.below hD3
    have lY3 := V3c.lt
    obtain ⟨⟨y0, y1, y2, y3, y4⟩, y5⟩ := V3c
    go_simp
    refine hKc.out _ _ ?_
    clear hKc Kc
    have st3 := (unhide ST).below hD3
    have e3 : byI (prT m i) ((2 * (i : Int) + 1) * (2 * (i : Int) + 1)) (8 * ((i : Int) + 1) * (2 * ((i : Int) + 1) + 1)) = prT m (i + 1) := byI_nonneg (prT_le m i) (pr_den i).1
    rw [e3] at hvp3
    replace hvp3 := hvp3.fits (K := K) (prT_le m _) (unhide HFIT _ (by omega)).1 (unhide HFIT _ (by omega)).2
    obtain ⟨V4, hV4⟩ : ∃ V4, V4 = put5w w3 B4 v3 := ⟨_, rfl⟩
    have U4 : VrC V4 B4 v3 := by rw [hV4]; exact st3.y.put v3
    have S4 : VrC V4 B5 Sm := by rw [hV4]; exact st3.s.off (Ne.symm st3.ne) v3
    have up4 : SpAt V4 v3 K (prT m (i + 1)).1 (prT m (i + 1)).2 := by rw [hV4]; exact hvp3.put st3.y.c v3
    have sp4 : SpAt V4 Sm K (sumI (prT m) i).1 (sumI (prT m) i).2 := by rw [hV4]; exact st3.sp.put st3.y.c v3
    have R4 : NoC V4 w.heap.size := by rw [hV4]; exact st3.no.off (by have := st3.l4; omega) v3
    have B4' : Below w.heap.size w V4 := by rw [hV4]; exact below_put st3.be (by have := st3.l4; omega) v3
    have hsb := hide st3.sb
    have l4 := st3.l4
    have l5 := st3.l5
    have ne := st3.ne
    unfold put5w at hV4
    rw [← hV4]
    clear hV4 st3 hvp3 hD0 hD1 hD2 hD3 hb1 hb2 hb3 hint1 hint2 ST HK y0 y1 y2 y3 y4 y5 lY3 e3 E2 E3 E7 E10 E13 E14 HQ
    have lu4 := U4.lt
    have ls4 := S4.lt
    have y0 := U4.c.c0
    have y1 := U4.c.c1
    have y2 := U4.c.c2
    have y3 := U4.c.c3
    have y4 := U4.c.c4
    have z0 := S4.c.c0
    have z1 := S4.c.c1
    have z2 := S4.c.c2
    have z3 := S4.c.c3
    have z4 := S4.c.c4
    go_wp2_with fail
    clear y0 y1 y2 y3 y4 z0 z1 z2 z3 z4
    refine (refPlus_iv _ Sm v3 K m (sumI (prT m) i) (prT m (i + 1)) sp4 up4 (by omega) (unhide hsb)).mono ?_
    rintro r w5 ⟨v5, rfl, hvb5, hvp5, hb5⟩
    have e5 : addI (sumI (prT m) i) (prT m (i + 1)) = sumI (prT m) (i + 1) := rfl
    rw [e5] at hvp5
    replace hvp5 := hvp5.fits (K := K) (sum_le (prT_le m) _) (unhide HFITS _ (by omega)).1 (unhide HFITS _ (by omega)).2
    have U5 := U4.below hb5
    have S5 := S4.below hb5
    have up5 := up4.below hb5
    have R5 := R4.below hb5
    have B5' := bthen B4' hb5
    have HV5 := hide hvb5
    clear hb5 hvb5 U4 S4 up4 sp4 R4 B4' e5 lu4 ls4
    have stn : PiSt w (put5w w5 B5 v5) B4 B5 m K v3 v5 (prT m) (i + 1) := ⟨U5.off ne v5, S5.put v5, up5.put S5.c v5, hvp5.put S5.c v5, unhide HV3, unhide HV5, R5.off (by omega) v5, below_put B5' (by omega) v5, l4, l5, ne⟩
    have lu5 := U5.lt
    have ls5 := S5.lt
    obtain ⟨⟨y0, y1, y2, y3, y4⟩, y5⟩ := U5
    obtain ⟨⟨z0, z1, z2, z3, z4⟩, z5⟩ := S5
    clear up5 R5 B5' hvp5
    obtain ⟨V5, hV5⟩ : ∃ V5, V5 = put5w w5 B5 v5 := ⟨_, rfl⟩
    rw [← hV5] at stn
    unfold put5w at hV5
    go_wp2_with fail
    rw [← hV5]
    clear hV5 y0 y1 y2 y3 y4 y5 z0 z1 z2 z3 z4 z5
    refine (refSmall _ v3 K 1 _ _ stn.yp (by omega) (by omega)).mono ?_
    rintro r w6 ⟨rfl, hb6⟩
    rw [small_reach]
    replace stn := stn.below hb6
    clear hb6
    have er : reachI ((prT m (i + 1)).1, (prT m (i + 1)).2) = reachI (prT m (i + 1)) := rfl
    rw [er]
    clear er
    by_cases hin : i + 1 < N
    · have hr : ¬ reachI (prT m (i + 1)) ≤ 1 := by have := (unhide HN).2 (i + 1) hin; omega
      rw [decide_eq_false hr]
      clear hr
      go_wp2_with fail
      go_roundw
      case rel => exact ⟨i + 1, v3, v5, by go_num, hin, stn⟩
      case measure => simp [intOf]; omega
    · have hie : i + 1 = N := by omega
      have hr : reachI (prT m (i + 1)) ≤ 1 := by rw [hie]; exact (unhide HN).1
      rw [decide_eq_true hr]
      have HIE := hide hie
      clear hr hie
      have ls6 := stn.s.lt
      obtain ⟨⟨z0, z1, z2, z3, z4⟩, z5⟩ := stn.s
      go_wp2_with fail
      refine (refTail _ v5 K 1 _ _ stn.sp (by omega) (by omega) (by omega) (by omega)).mono ?_
      rintro r w7 ⟨v7, rfl, hvb7, hvp7, hb7⟩
      replace stn := stn.below hb7
      have HV7 := hide (hvb7.trans stn.sb)
      rw [unhide HIE] at hvp7
      clear hvb7 hb7 z0 z1 z2 z3 z4 z5
      go_wp2_with fail
      refine (refTurn_int _ v7 (K + 1) b _ _ hvp7 (by omega) (by have := unhide HV7; omega) (by have := unhide HV7; omega) (by omega) (by omega)).mono ?_
      rintro r w8 ⟨v8, rfl, hvb8, hvp8, hb8⟩
      obtain ⟨q0, q1, q2, q3, q4, q5⟩ := stn.no.below hb8
      have hBf := bthen stn.be hb8
      have HV8 := hide hvb8
      have e16 : v7.bits - (b : Int) = ((16 : Nat) : Int) := by have := unhide HV7; omega
      rw [e16, downZ_nat, downZ_nat] at hvp8
      clear hvb8 hb8
      go_wp2_with fail
      refine bodyPost_ret (v := .agg #[.bool v8.ln, .slice v8.la v8.lN v8.lc, .bool v8.hn, .slice v8.ha v8.hN v8.hc, .int .i64 v8.bits]) (by simp [results, Tryz.results191, go_sem, q0, q1, q2, q3, q4]) rfl ⟨v8, rfl, unhide HV8, ?_, ?_⟩
      · exact SpAt.put5 (hvp8.mono (by omega)) q0 q1 q2 q3 q4 _ _ _ _ _
      · exact set5 hBf (Nat.le_refl _) _ _ _ _ _
end Go.Proofs.YtgmnknmjainababGreat

namespace Go.Proofs.YtgmnknmjainababGreat.Ex
set_option linter.unusedVariables false

theorem dn_key {s h x Y K C1 A t q : Rat} (hx : 0 ≤ x) (hh : 0 < h) (h1 : h ≤ 1) (hY : x + h ≤ Y) (s0 : 0 ≤ s) (sK : s ≤ K) (hA : A = 2 * Y + 1) (hC1 : C1 = K + A * (1 + 2 * (Y * K)) + 2 * (A * A) * (K + 1 + 2 * (Y * K))) (ht : t = h * (2 * x + h)) (hq : 1 - t - 2 * (t * t) ≤ q) : s + h ≤ (s + h + 2 * (x * h) * s) * q + C1 * (h * h) := by
  have K0 : 0 ≤ K := by grind
  have Y0 : 0 ≤ Y := by grind
  have h0 := Rat.le_of_lt hh
  have hhh := Rat.mul_nonneg h0 h0
  have a0 : 0 ≤ 2 * x + h := by grind
  have aA : 2 * x + h ≤ A := by grind
  have A0 : 0 ≤ A := by grind
  have t0 : 0 ≤ t := by rw [ht]; exact Rat.mul_nonneg h0 a0
  have tA : t ≤ A * h := by have := Rat.mul_le_mul_of_nonneg_left aA h0; rw [ht]; grind
  have tt : t * t ≤ A * A * (h * h) := by
    have p1 := Rat.mul_le_mul_of_nonneg_left tA t0
    have p2 := Rat.mul_le_mul_of_nonneg_right tA (Rat.mul_nonneg A0 h0)
    grind
  obtain ⟨p, hp⟩ : ∃ p, p = s + h + 2 * (x * h) * s := ⟨_, rfl⟩
  have xh := Rat.mul_nonneg hx h0
  have xhs := Rat.mul_nonneg xh s0
  have p0 : 0 ≤ p := by rw [hp]; grind
  have xs : x * s ≤ Y * K := Rat.le_trans (Rat.mul_le_mul_of_nonneg_right (show x ≤ Y by grind) s0) (Rat.mul_le_mul_of_nonneg_left sK Y0)
  have pB : p ≤ K + 1 + 2 * (Y * K) := by
    have n1 := Rat.mul_le_mul_of_nonneg_right h1 (Rat.mul_nonneg hx s0)
    rw [hp]; grind
  have m1 := Rat.mul_le_mul_of_nonneg_left hq p0
  rw [← hp]
  -- p t is at most 2 x h s + (K + A (1 + 2 Y K)) h h
  have e1 : p * t = 2 * (x * h) * s + h * h * s + t * (h * (1 + 2 * (x * s))) := by rw [hp, ht]; grind
  have b1 := Rat.mul_le_mul_of_nonneg_left sK hhh
  have c0 : 0 ≤ h * (1 + 2 * (x * s)) := Rat.mul_nonneg h0 (by have := Rat.mul_nonneg hx s0; grind)
  have b2 := Rat.mul_le_mul_of_nonneg_right tA c0
  have b3 := Rat.mul_le_mul_of_nonneg_left (show 1 + 2 * (x * s) ≤ 1 + 2 * (Y * K) by grind) (Rat.mul_nonneg A0 hhh)
  have pt : p * t ≤ 2 * (x * h) * s + (K + A * (1 + 2 * (Y * K))) * (h * h) := by
    rw [e1]
    have e2 : A * h * (h * (1 + 2 * (x * s))) = A * (h * h) * (1 + 2 * (x * s)) := by grind
    rw [e2] at b2
    have e3 : (K + A * (1 + 2 * (Y * K))) * (h * h) = h * h * K + A * (h * h) * (1 + 2 * (Y * K)) := by grind
    rw [e3]
    generalize h * h * s = w1 at *
    generalize h * h * K = w2 at *
    generalize A * (h * h) * (1 + 2 * (x * s)) = w3 at *
    generalize A * (h * h) * (1 + 2 * (Y * K)) = w4 at *
    generalize t * (h * (1 + 2 * (x * s))) = w5 at *
    generalize 2 * (x * h) * s = w6 at *
    clear e1 e2 e3 m1 hp ht hC1
    grind
  have q1 := Rat.mul_le_mul_of_nonneg_right pB (sq_nonneg t)
  have q2 := Rat.mul_le_mul_of_nonneg_left tt (show 0 ≤ K + 1 + 2 * (Y * K) by have := Rat.mul_nonneg Y0 K0; grind)
  have e4 : C1 * (h * h) = (K + A * (1 + 2 * (Y * K))) * (h * h) + 2 * ((K + 1 + 2 * (Y * K)) * (A * A * (h * h))) := by rw [hC1]; grind
  have e5 : p * (1 - t - 2 * (t * t)) = p - p * t - 2 * (p * (t * t)) := by grind
  rw [e5] at m1
  rw [e4]
  have e6 : p = s + h + 2 * (x * h) * s := hp
  generalize p * q = w1 at *
  generalize p * t = w2 at *
  generalize p * (t * t) = w3 at *
  generalize (K + 1 + 2 * (Y * K)) * (t * t) = w4 at *
  generalize (K + 1 + 2 * (Y * K)) * (A * A * (h * h)) = w5 at *
  generalize (K + A * (1 + 2 * (Y * K))) * (h * h) = w6 at *
  generalize 2 * (x * h) * s = w7 at *
  clear e1 hC1 ht hp tt pB b1 b2 b3 c0 e4 e5
  grind
/-- How the error function grows: at least by e to the power of -x^2, for each small step. -/
theorem eF_dn {Y K V : Rat} (B : Bnd Y K V) : ∃ C D, 0 ≤ C ∧ 0 < D ∧ D ≤ 1 ∧ ∀ x h, 0 ≤ x → 0 < h → h ≤ D → x + h ≤ Y → ∃ z, Null z ∧ ∃ N : Nat, ∀ M, N ≤ M → eF x M + h * ex (-(x * x)) M ≤ eF (x + h) M + C * (h * h) + z M := by
  obtain ⟨A, hA⟩ : ∃ A, A = 2 * Y + 1 := ⟨_, rfl⟩
  obtain ⟨C1, hC1⟩ : ∃ C1, C1 = K + A * (1 + 2 * (Y * K)) + 2 * (A * A) * (K + 1 + 2 * (Y * K)) := ⟨_, rfl⟩
  have y0 := B.y0
  have k0 := B.k0
  have v1 := B.v1
  have yk := Rat.mul_nonneg y0 k0
  have A0 : 0 ≤ A := by grind
  have AA := Rat.mul_nonneg A0 A0
  have C10 : 0 ≤ C1 := by
    have a := Rat.mul_nonneg A0 (show 0 ≤ 1 + 2 * (Y * K) by grind)
    have b := Rat.mul_nonneg (show 0 ≤ 2 * (A * A) by grind) (show 0 ≤ K + 1 + 2 * (Y * K) by grind)
    grind
  have A4 : 0 < 4 * A := by grind
  have dm : 1 / (4 * A) * (4 * A) = 1 := rdm A4
  have d0 : 0 < 1 / (4 * A) := rdiv_pos (by grind) A4
  refine ⟨C1 * V, 1 / (4 * A), Rat.mul_nonneg C10 (by grind), d0, rdiv_le A4 (by grind), fun x h hx hh hD hY => ?_⟩
  have h1 : h ≤ 1 := Rat.le_trans hD (rdiv_le A4 (by grind))
  have hA4 : h * A ≤ 1 / 4 := by have := Rat.mul_le_mul_of_nonneg_right hD A0; grind
  obtain ⟨t, ht⟩ : ∃ t, t = h * (2 * x + h) := ⟨_, rfl⟩
  have h0 := Rat.le_of_lt hh
  have t0 : 0 ≤ t := by rw [ht]; exact Rat.mul_nonneg h0 (by grind)
  have t4 : t ≤ 1 / 4 := by
    have := Rat.mul_le_mul_of_nonneg_left (show 2 * x + h ≤ A by grind) h0
    rw [ht]; grind
  have sqe : -((x + h) * (x + h)) = -(x * x) + -t := by rw [ht]; grind
  have eb : Bdd (eS (x + h)) := Bdd.of_le K 0 fun M _ => ⟨by have := eS_nonneg (x := x + h) (by grind) M; grind, B.s _ (by grind) hY M⟩
  have hz := (ex_add (-(x * x)) (-t)).bmul eb
  have hT := eT_null hx
  have hz2 : Null (fun M => eT x (M - 1)) := fun e he => by
    obtain ⟨N, hN⟩ := hT e he
    exact ⟨N + 1, fun M hM => hN (M - 1) (by omega)⟩
  have hz3 := (hz2.bmul (Bdd.const (2 * x * h))).bmul (ex_bdd (-(x * x)))
  obtain ⟨N, hN⟩ := ex_pos (-(x * x))
  refine ⟨_, hz3.add hz, N + 2, fun M hM => ?_⟩
  have v0 := hN M (by omega)
  have vV : ex (-(x * x)) M ≤ V := B.v _ (sq_nonneg x) (by
    have xx : x * x ≤ Y * Y := Rat.le_trans (Rat.mul_le_mul_of_nonneg_left (show x ≤ Y by grind) hx) (Rat.mul_le_mul_of_nonneg_right (show x ≤ Y by grind) y0)
    have := Rat.mul_nonneg y0 y0
    grind) M
  have q := ex_little t0 t4 (M := M) (by omega)
  have qlo : 1 - t - 2 * (t * t) ≤ ex (-t) M := by
    have := (E_little2 (h := -t) (b := t) ⟨by grind, by grind⟩ t4 (M := M) (by omega)).1
    show _ ≤ E (-t) M
    grind
  have q1 : ex (-t) M ≤ 1 := by
    have := q.2
    have tt3 : t * t ≤ t * (1 / 4) := Rat.mul_le_mul_of_nonneg_left t4 t0
    grind
  obtain ⟨m, rfl⟩ : ∃ m, M = m + 1 := ⟨M - 1, by omega⟩
  have g := eS_grow hx h0 m
  have e2 : eS x (m + 1) = eS x m + eT x m := rfl
  have T0 := eT_nonneg hx m
  have k := dn_key (Y := Y) (K := K) hx hh h1 hY (eS_nonneg hx (m + 1)) (B.s x hx (by grind) (m + 1)) hA hC1 ht qlo
  simp only [Nat.add_sub_cancel]
  rw [eF_ex, eF_ex, sqe]
  have e4 : eS x m = eS x (m + 1) - eT x m := by grind
  rw [e4] at g
  generalize ex (-(x * x)) (m + 1) = v at *
  generalize ex (-(x * x) + -t) (m + 1) = vt at *
  generalize ex (-t) (m + 1) = qq at *
  generalize eS (x + h) (m + 1) = s' at *
  generalize eS x (m + 1) = s at *
  generalize eT x m = T at *
  have k1 := Rat.mul_le_mul_of_nonneg_right k v0
  have g2 : s + h + 2 * (x * h) * s ≤ s' + 2 * (x * h) * T := by grind
  have vq := Rat.mul_nonneg v0 q.1
  have k2 := Rat.mul_le_mul_of_nonneg_right g2 vq
  have w0 := Rat.mul_nonneg (Rat.mul_nonneg (Rat.mul_nonneg hx h0) T0) v0
  have w1 := Rat.mul_le_mul_of_nonneg_left q1 w0
  have hhh := Rat.mul_nonneg h0 h0
  have k3 := Rat.mul_le_mul_of_nonneg_left vV (Rat.mul_nonneg C10 hhh)
  have r1 : ((s + h + 2 * (x * h) * s) * qq + C1 * (h * h)) * v = (s + h + 2 * (x * h) * s) * (v * qq) + C1 * (h * h) * v := by grind
  have r2 : (s' + 2 * (x * h) * T) * (v * qq) = s' * (v * qq) + 2 * (x * h * T * v * qq) := by grind
  have r3 : T * (2 * x * h) * v + (v * qq - vt) * s' = 2 * (x * h * T * v * 1) + s' * (v * qq) - s' * vt := by grind
  have r4 : (s + h) * v = s * v + h * v := by grind
  have r5 : C1 * V * (h * h) = C1 * (h * h) * V := by grind
  rw [r1, r4] at k1
  rw [r2] at k2
  rw [r3, r5]
  generalize (s + h + 2 * (x * h) * s) * (v * qq) = g1 at *
  generalize s' * (v * qq) = g3 at *
  generalize x * h * T * v * qq = g4 at *
  generalize x * h * T * v * 1 = g5 at *
  generalize C1 * (h * h) * v = g6 at *
  generalize C1 * (h * h) * V = g7 at *
  generalize s' * vt = g8 at *
  generalize s * v = g9 at *
  generalize h * v = g10 at *
  clear k g hz hz2 hz3 hT eb r1 r2 r3 r4 r5 hC1 dm
  grind
end Go.Proofs.YtgmnknmjainababGreat.Ex

namespace Go.Proofs.YtgmnknmjainababGreat.Ex
set_option linter.unusedVariables false

/-- The numbers of the sum, without their signs. -/
def vT (x : Rat) (n : Nat) : Rat := x * tm (x * x) n / (2 * (n : Rat) + 1)
theorem o_pos (n : Nat) : (0 : Rat) < 2 * (n : Rat) + 1 := by
  have : (0 : Rat) ≤ (n : Rat) := by exact_mod_cast Nat.zero_le n
  grind
theorem vT_mul (x : Rat) (n : Nat) : (2 * (n : Rat) + 1) * vT x n = x * tm (x * x) n := by
  have := rdm (a := x * tm (x * x) n) (o_pos n)
  unfold vT
  grind
theorem vT_succ (x : Rat) (n : Nat) : ((n : Rat) + 1) * (2 * (n : Rat) + 3) * vT x (n + 1) = (2 * (n : Rat) + 1) * (x * x) * vT x n := by
  have h1 := vT_mul x (n + 1)
  have h2 := vT_mul x n
  have h3 := tm_succ (x * x) n
  have ec : ((n + 1 : Nat) : Rat) = (n : Rat) + 1 := by push_cast; rfl
  rw [ec] at h1
  have e1 : ((n : Rat) + 1) * (2 * (n : Rat) + 3) * vT x (n + 1) = ((n : Rat) + 1) * ((2 * ((n : Rat) + 1) + 1) * vT x (n + 1)) := by grind
  rw [e1, h1]
  have e2 : (2 * (n : Rat) + 1) * (x * x) * vT x n = x * x * ((2 * (n : Rat) + 1) * vT x n) := by grind
  rw [e2, h2]
  have e3 : ((n : Rat) + 1) * (x * tm (x * x) (n + 1)) = x * (((n : Rat) + 1) * tm (x * x) (n + 1)) := by grind
  rw [e3, h3]
  grind
theorem vT_nonneg {x : Rat} (h : 0 ≤ x) (n : Nat) : 0 ≤ vT x n := by
  have h1 := vT_mul x n
  have h2 := Rat.mul_nonneg h (tm_nonneg (sq_nonneg x) n)
  refine Rat.le_of_mul_le_mul_left (c := 2 * (n : Rat) + 1) ?_ (o_pos n)
  grind
theorem vT_grow {x h : Rat} (hx : 0 ≤ x) (hh : 0 ≤ h) (n : Nat) : vT x n + h * tm (x * x) n ≤ vT (x + h) n := by
  induction n with
  | zero =>
    have e : ∀ y : Rat, vT y 0 = y := fun y => by
      have := vT_mul y 0
      have e1 : tm (y * y) 0 = 1 := rfl
      rw [e1] at this
      grind
    rw [e, e]
    have e1 : tm (x * x) 0 = 1 := rfl
    rw [e1]; grind
  | succ n ih =>
    have n0 : (0 : Rat) ≤ (n : Rat) := by exact_mod_cast Nat.zero_le n
    have e1 := vT_succ x n
    have e2 := vT_succ (x + h) n
    have e3 := vT_mul x n
    have e4 := tm_succ (x * x) n
    have t0 := vT_nonneg hx n
    have d0 := tm_nonneg (sq_nonneg x) n
    have s1 : x * x + 2 * (x * h) ≤ (x + h) * (x + h) := by have := Rat.mul_nonneg hh hh; grind
    have m1 := Rat.mul_le_mul_of_nonneg_left ih (sq_nonneg (x + h))
    have u0 : 0 ≤ vT x n + h * tm (x * x) n := by have := Rat.mul_nonneg hh d0; grind
    have m2 := Rat.mul_le_mul_of_nonneg_right s1 u0
    have c0 : 0 ≤ 2 * (n : Rat) + 1 := by grind
    have m3 := Rat.mul_le_mul_of_nonneg_left (Rat.le_trans m2 m1) c0
    have k1 := Rat.mul_nonneg c0 (Rat.mul_nonneg (Rat.mul_nonneg hx hh) (Rat.mul_nonneg hh d0))
    have pp : (0 : Rat) < ((n : Rat) + 1) * (2 * (n : Rat) + 3) := Rat.mul_pos (by grind) (by grind)
    refine Rat.le_of_mul_le_mul_left (c := ((n : Rat) + 1) * (2 * (n : Rat) + 3)) ?_ pp
    rw [e2]
    have f1 : ((n : Rat) + 1) * (2 * (n : Rat) + 3) * (vT x (n + 1) + h * tm (x * x) (n + 1)) = (2 * (n : Rat) + 1) * (x * x) * vT x n + h * (2 * (n : Rat) + 3) * (x * x * tm (x * x) n) := by rw [← e1, ← e4]; grind
    rw [f1]
    have f2 : (2 * (n : Rat) + 1) * ((x * x + 2 * (x * h)) * (vT x n + h * tm (x * x) n)) = (2 * (n : Rat) + 1) * (x * x) * vT x n + h * (2 * (n : Rat) + 1) * (x * x * tm (x * x) n) + 2 * (x * h) * ((2 * (n : Rat) + 1) * vT x n) + 2 * ((2 * (n : Rat) + 1) * (x * h * (h * tm (x * x) n))) := by grind
    rw [f2, e3] at m3
    grind
theorem vT_back {x y : Rat} (hx : 0 ≤ x) (hxy : x ≤ y) (n : Nat) : vT y n ≤ vT x n + (y - x) * tm (y * y) n := by
  induction n with
  | zero =>
    have e : ∀ y : Rat, vT y 0 = y := fun y => by
      have := vT_mul y 0
      have e1 : tm (y * y) 0 = 1 := rfl
      rw [e1] at this
      grind
    rw [e, e]
    have e1 : tm (y * y) 0 = 1 := rfl
    rw [e1]; grind
  | succ n ih =>
    have hy : 0 ≤ y := by grind
    have n0 : (0 : Rat) ≤ (n : Rat) := by exact_mod_cast Nat.zero_le n
    have c0 : 0 ≤ 2 * (n : Rat) + 1 := by grind
    have e1 := vT_succ x n
    have e2 := vT_succ y n
    have e3 := vT_mul y n
    have e4 := tm_succ (y * y) n
    have t0 := vT_nonneg hx n
    obtain ⟨h, hh⟩ : ∃ h, h = y - x := ⟨_, rfl⟩
    have h0 : 0 ≤ h := by grind
    have mono : vT x n ≤ vT y n := by
      have a := vT_grow hx h0 n
      have b := Rat.mul_nonneg h0 (tm_nonneg (sq_nonneg x) n)
      rw [show x + h = y by grind] at a
      grind
    rw [← hh] at ih ⊢
    have m1 := Rat.mul_le_mul_of_nonneg_left ih (sq_nonneg y)
    have m2 := Rat.mul_le_mul_of_nonneg_left m1 c0
    have pp : (0 : Rat) < ((n : Rat) + 1) * (2 * (n : Rat) + 3) := Rat.mul_pos (by grind) (by grind)
    refine Rat.le_of_mul_le_mul_left (c := ((n : Rat) + 1) * (2 * (n : Rat) + 3)) ?_ pp
    rw [e2]
    have f1 : ((n : Rat) + 1) * (2 * (n : Rat) + 3) * (vT x (n + 1) + h * tm (y * y) (n + 1)) = (2 * (n : Rat) + 1) * (x * x) * vT x n + h * (2 * (n : Rat) + 3) * (y * y * tm (y * y) n) := by rw [← e1, ← e4]; grind
    rw [f1]
    have k5 : y * y - x * x ≤ 2 * (h * y) := by
      have := Rat.mul_nonneg h0 h0
      have : y * y - x * x = 2 * (h * y) - h * h := by rw [hh]; grind
      grind
    have k6 := Rat.mul_le_mul_of_nonneg_right k5 t0
    have k7 := Rat.mul_le_mul_of_nonneg_left mono (Rat.mul_nonneg (show (0 : Rat) ≤ 2 by grind) (Rat.mul_nonneg h0 hy))
    have k8 := Rat.mul_le_mul_of_nonneg_left (Rat.le_trans k6 k7) c0
    have k9 : (2 * (n : Rat) + 1) * (2 * (h * y) * vT y n) = 2 * (h * y) * (y * tm (y * y) n) := by rw [← e3]; grind
    rw [k9] at k8
    grind
theorem tm_sg (z : Rat) (n : Nat) : tm (-z) n = sg n * tm z n := by
  induction n with
  | zero => show (1 : Rat) = 1 * 1; grind
  | succ n ih =>
    have h1 := tm_succ (-z) n
    have h2 := tm_succ z n
    have p := pos1 n
    have e : ((n : Rat) + 1) * tm (-z) (n + 1) = ((n : Rat) + 1) * (sg (n + 1) * tm z (n + 1)) := by
      rw [h1, ih]
      show -z * (sg n * tm z n) = ((n : Rat) + 1) * (-sg n * tm z (n + 1))
      have : ((n : Rat) + 1) * (-sg n * tm z (n + 1)) = -sg n * (((n : Rat) + 1) * tm z (n + 1)) := by grind
      rw [this, h2]; grind
    exact Rat.le_antisymm (Rat.le_of_mul_le_mul_left (by rw [e]; exact Rat.le_refl) p) (Rat.le_of_mul_le_mul_left (by rw [e]; exact Rat.le_refl) p)
theorem tm_diff {a b : Rat} (ha : 0 ≤ a) (hab : a ≤ b) (n : Nat) : tm b (n + 1) - tm a (n + 1) ≤ (b - a) * tm b n := by
  have hb : 0 ≤ b := by grind
  induction n with
  | zero =>
    have h1 := tm_succ a 0
    have h2 := tm_succ b 0
    have e1 : tm a 0 = 1 := rfl
    have e2 : tm b 0 = 1 := rfl
    rw [e1] at h1
    rw [e2] at h2 ⊢
    grind
  | succ n ih =>
    have p := pos1 (n + 1)
    have ec : ((n + 1 : Nat) : Rat) = (n : Rat) + 1 := by push_cast; rfl
    have h1 := tm_succ a (n + 1)
    have h2 := tm_succ b (n + 1)
    have h3 := tm_succ b n
    have t0 := tm_nonneg hb n
    have m1 := Rat.mul_le_mul_of_nonneg_left ih ha
    have m2 := Rat.mul_le_mul_of_nonneg_right hab (Rat.mul_nonneg (show 0 ≤ b - a by grind) t0)
    refine Rat.le_of_mul_le_mul_left (c := ((n + 1 : Nat) : Rat) + 1) ?_ p
    have f1 : (((n + 1 : Nat) : Rat) + 1) * (tm b (n + 1 + 1) - tm a (n + 1 + 1)) = b * tm b (n + 1) - a * tm a (n + 1) := by rw [← h1, ← h2]; grind
    have f2 : (((n + 1 : Nat) : Rat) + 1) * ((b - a) * tm b (n + 1)) = (b - a) * tm b (n + 1) + (b - a) * (((n : Rat) + 1) * tm b (n + 1)) := by rw [ec]; grind
    rw [f1, f2, h3]
    have f3 : b * tm b (n + 1) - a * tm a (n + 1) = (b - a) * tm b (n + 1) + a * (tm b (n + 1) - tm a (n + 1)) := by grind
    rw [f3]
    grind
theorem E_diffle {a b : Rat} (ha : 0 ≤ a) (hab : a ≤ b) (M : Nat) : 0 ≤ E b M - E a M ∧ E b M - E a M ≤ (b - a) * E b M := by
  have hb : 0 ≤ b := by grind
  have key : ∀ m, E b (m + 1) - E a (m + 1) ≤ (b - a) * E b m := fun m => by
    induction m with
    | zero =>
      show 0 + tm b 0 - (0 + tm a 0) ≤ (b - a) * 0
      have e1 : tm a 0 = 1 := rfl
      have e2 : tm b 0 = 1 := rfl
      rw [e1, e2]; grind
    | succ m ih =>
      have := tm_diff ha hab m
      show E b (m + 1) + tm b (m + 1) - (E a (m + 1) + tm a (m + 1)) ≤ (b - a) * (E b m + tm b m)
      grind
  have mono : ∀ n, tm a n ≤ tm b n := fun n => by
    induction n with
    | zero => exact Rat.le_refl
    | succ n ih =>
      have h1 := tm_succ a n
      have h2 := tm_succ b n
      have m1 := Rat.mul_le_mul_of_nonneg_left ih ha
      have m2 := Rat.mul_le_mul_of_nonneg_right hab (tm_nonneg hb n)
      refine Rat.le_of_mul_le_mul_left (c := (n : Rat) + 1) ?_ (pos1 n)
      rw [h1, h2]; grind
  constructor
  · induction M with
    | zero => show (0 : Rat) ≤ 0 - 0; grind
    | succ n ih => have := mono n; show 0 ≤ E b n + tm b n - (E a n + tm a n); grind
  · cases M with
    | zero => show (0 : Rat) - 0 ≤ (b - a) * 0; grind
    | succ m =>
      have h1 := key m
      have h2 := Rat.mul_nonneg (show 0 ≤ b - a by grind) (tm_nonneg hb m)
      show _ ≤ (b - a) * (E b m + tm b m)
      grind
/-- The sum of powers by turns. -/
def aF (x : Rat) (M : Nat) : Rat := S (fun n => sg n * vT x n) M
theorem aF_lin {x h : Rat} (hx : 0 ≤ x) (hh : 0 ≤ h) (M : Nat) : AB (aF (x + h) M - aF x M - h * ex (-(x * x)) M) (h * (E ((x + h) * (x + h)) M - E (x * x) M)) := by
  have eE : ∀ m, ex (-(x * x)) m = S (fun n => sg n * tm (x * x) n) m := fun m => S_congr m fun i _ => tm_sg _ _
  rw [eE]
  unfold aF
  induction M with
  | zero => show AB (0 - 0 - h * 0) (h * (0 - 0)); constructor <;> grind
  | succ n ih =>
    have g1 := vT_grow hx hh n
    have g2 := vT_back hx (show x ≤ x + h by grind) n
    rw [show x + h - x = h by grind] at g2
    have k : AB (vT (x + h) n - vT x n - h * tm (x * x) n) (h * (tm ((x + h) * (x + h)) n - tm (x * x) n)) := by constructor <;> grind
    have k2 : AB (sg n * (vT (x + h) n - vT x n - h * tm (x * x) n)) (h * (tm ((x + h) * (x + h)) n - tm (x * x) n)) := by
      rcases sg_one n with e | e
      · rw [e]; exact ⟨by have := k.1; grind, by have := k.2; grind⟩
      · rw [e]; exact ⟨by have := k.2; grind, by have := k.1; grind⟩
    have k3 := ih.add k2
    show AB (S (fun n => sg n * vT (x + h) n) n + sg n * vT (x + h) n - (S (fun n => sg n * vT x n) n + sg n * vT x n) - h * (S (fun n => sg n * tm (x * x) n) n + sg n * tm (x * x) n)) (h * (E ((x + h) * (x + h)) n + tm ((x + h) * (x + h)) n - (E (x * x) n + tm (x * x) n)))
    have e : S (fun n => sg n * vT (x + h) n) n + sg n * vT (x + h) n - (S (fun n => sg n * vT x n) n + sg n * vT x n) - h * (S (fun n => sg n * tm (x * x) n) n + sg n * tm (x * x) n) = S (fun n => sg n * vT (x + h) n) n - S (fun n => sg n * vT x n) n - h * S (fun n => sg n * tm (x * x) n) n + sg n * (vT (x + h) n - vT x n - h * tm (x * x) n) := by grind
    rw [e]
    exact k3.mono (by grind)
theorem aF_zero (M : Nat) : aF 0 M = 0 := by
  have h : ∀ n, vT 0 n = 0 := fun n => by unfold vT; rw [Rat.zero_mul, Rat.div_def, Rat.zero_mul]
  unfold aF
  induction M with
  | zero => rfl
  | succ n ih => show S (fun n => sg n * vT 0 n) n + sg n * vT 0 n = 0; rw [ih, h]; grind
/-- The two are the same. -/
theorem aF_eF {x : Rat} (hx : 0 ≤ x) : Null (fun M => aF x M - eF x M) := by
  obtain ⟨K, V, B⟩ := bnd_ex hx
  obtain ⟨C1, D1, c1, d1, d1', up⟩ := eF_up B
  obtain ⟨C2, D2, c2, d2, d2', dn⟩ := eF_dn B
  obtain ⟨KE, ke0, hKE⟩ := E_bound (x * x)
  have xx := Rat.mul_nonneg hx hx
  obtain ⟨C3, hC3⟩ : ∃ C3, C3 = 2 * (x * KE) := ⟨_, rfl⟩
  have C30 : 0 ≤ C3 := by rw [hC3]; have := Rat.mul_nonneg hx ke0; grind
  obtain ⟨D, hD, Da, Db⟩ : ∃ D : Rat, 0 < D ∧ D ≤ D1 ∧ D ≤ D2 := by
    by_cases hc : D1 ≤ D2
    · exact ⟨D1, d1, by grind, hc⟩
    · exact ⟨D2, d2, by grind, by grind⟩
  have lin : ∀ y h, 0 ≤ y → 0 < h → y + h ≤ x → ∀ M, AB (aF (y + h) M - aF y M - h * ex (-(y * y)) M) (C3 * (h * h)) := fun y h hy hh hle M => by
    have a := aF_lin hy (Rat.le_of_lt hh) M
    refine a.mono ?_
    have s1 : (y + h) * (y + h) ≤ x * x := Rat.le_trans (Rat.mul_le_mul_of_nonneg_left hle (by grind)) (Rat.mul_le_mul_of_nonneg_right hle hx)
    have b := (E_diffle (a := y * y) (b := (y + h) * (y + h)) (sq_nonneg y) (by have := Rat.mul_nonneg hy (Rat.le_of_lt hh); have := Rat.mul_pos hh hh; grind) M).2
    have c := (hKE M ((y + h) * (y + h)) ⟨by have := sq_nonneg (y + h); grind, s1⟩).2
    have d : (y + h) * (y + h) - y * y ≤ 2 * (x * h) := by
      have := Rat.mul_le_mul_of_nonneg_left (show 2 * y + h ≤ 2 * x by grind) (Rat.le_of_lt hh)
      have e : (y + h) * (y + h) - y * y = h * (2 * y + h) := by grind
      rw [e]; grind
    have e0 : 0 ≤ (y + h) * (y + h) - y * y := by have := Rat.mul_nonneg hy (Rat.le_of_lt hh); have := Rat.mul_pos hh hh; grind
    have f1 := Rat.mul_le_mul_of_nonneg_left c e0
    have f2 := Rat.mul_le_mul_of_nonneg_right d ke0
    have f3 := Rat.mul_le_mul_of_nonneg_left (Rat.le_trans b (Rat.le_trans f1 f2)) (Rat.le_of_lt hh)
    rw [hC3]
    grind
  have da := descend (f := fun y M => aF y M - eF y M) (a := 0) (b := x) (C := C3 + C2) (D := D) hx (by grind) hD (fun y h h1 h2 h3 h4 => by
    obtain ⟨z, hz, N, k⟩ := dn y h h1 h2 (by grind) h4
    exact ⟨z, hz, N, fun M hM => by have := k M hM; have := (lin y h h1 h2 h4 M).2; grind⟩)
  have db := descend (f := fun y M => eF y M - aF y M) (a := 0) (b := x) (C := C3 + C1) (D := D) hx (by grind) hD (fun y h h1 h2 h3 h4 => by
    obtain ⟨z, hz, N, k⟩ := up y h h1 h2 (by grind) h4
    exact ⟨z, hz, N, fun M hM => by have := k M hM; have := (lin y h h1 h2 h4 M).1; grind⟩)
  intro e he
  obtain ⟨N1, k1⟩ := da e he
  obtain ⟨N2, k2⟩ := db e he
  refine ⟨N1 + N2, fun M hM => ?_⟩
  have a1 : aF x M - eF x M ≤ aF 0 M - eF 0 M + e := k1 M (by omega)
  have a2 : eF x M - aF x M ≤ eF 0 M - aF 0 M + e := k2 M (by omega)
  rw [aF_zero, eF_zero] at a1 a2
  constructor <;> grind
end Go.Proofs.YtgmnknmjainababGreat.Ex
