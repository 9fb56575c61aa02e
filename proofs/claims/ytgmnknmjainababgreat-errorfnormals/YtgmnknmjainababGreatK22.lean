/-
  What tailsureref.Log answers of two numbers more than 0, and that it leaves old memory alone.
  What tailsureref.NormalOf answers, and that it leaves old memory alone.
  What wide.Normal and errorf.Normal answer, errors too, and that they leave old memory alone.
  What errorf.Normal answers, errors too, and that it leaves old memory alone.
-/
import Derived.Test.YtgmnknmjainababGreatK21
namespace Go.Proofs.YtgmnknmjainababGreat
set_option linter.unusedVariables false
set_option linter.unusedSimpArgs false
set_option linter.unnecessarySimpa false
open Go.RowKit
attribute [local go_sem ↓] Go.wp_at_zero Go.wp_at_succ

/-- Where tailsureref.Log is: its two numbers. -/
structure LgSt (w wr : World) (X Y : Nm) (k : Nat) (n d : Int) : Prop where
  x : NmC wr w.heap.size X
  fx : ∀ o, wr.frozen? ⟨w.heap.size, o, none⟩ = false
  y : NmC wr (w.heap.size + 1) Y
  fy : ∀ o, wr.frozen? ⟨w.heap.size + 1, o, none⟩ = false
  ix : IntAt wr X.neg X.a X.n X.cap k n
  iy : IntAt wr Y.neg Y.a Y.n Y.cap k d
  no : NoC wr (w.heap.size + 1 + 1)
  be : Below w.heap.size w wr
theorem LgSt.below {w wr wr' : World} {X Y : Nm} {k : Nat} {n d : Int} (h : LgSt w wr X Y k n d) (hb : Below wr.heap.size wr wr') : LgSt w wr' X Y k n d :=
  ⟨h.x.below hb, fun o => (hb.frozen (p := ⟨w.heap.size, o, none⟩) h.x.lt).trans (h.fx o), h.y.below hb, fun o => (hb.frozen (p := ⟨w.heap.size + 1, o, none⟩) h.y.lt).trans (h.fy o), h.ix.below hb, h.iy.below hb, h.no.below hb, bthen h.be hb⟩
theorem refRatio_any (x y : Nm) (k k2 b : Nat) (n d : Int) (w : World) (h1 : IntAt w x.neg x.a x.n x.cap k n) (h2 : IntAt w y.neg y.a y.n y.cap k2 d) (hk : k ≤ 600000000) (hk2 : k2 ≤ 100000000) (hb : b ≤ 100000) (hy : 0 < d) :
    Calls Tryz.prog 54 #[.agg #[.bool x.neg, .slice x.a x.n x.cap], .agg #[.bool y.neg, .slice y.a y.n y.cap], .int .i64 b] w (SpanAns w b (k + b / 16 + 14) (ofI n d b).1 (ofI n d b).2) :=
  refRatio_core _ _ _ _ _ _ _ _ k k2 b n d _ h1 h2 (by omega) (by omega) hb hy (fun neg' a' n' cap' w' p1 p2 => floor_any _ _ _ _ _ _ _ _ _ k2 _ _ w' p1 p2 (by omega) hy)
end Go.Proofs.YtgmnknmjainababGreat

namespace Go.Proofs.YtgmnknmjainababGreat
set_option linter.unusedVariables false
set_option linter.unusedSimpArgs false
set_option linter.unnecessarySimpa false
open Go.RowKit
attribute [local go_sem ↓] Go.wp_at_zero Go.wp_at_succ
open Ex

theorem refRatio_z {b : Nat} (z : Int) (hz : z = (b : Int)) (x y : Nm) (k k2 : Nat) (n d : Int) (w : World) (h1 : IntAt w x.neg x.a x.n x.cap k n) (h2 : IntAt w y.neg y.a y.n y.cap k2 d) (hk : k ≤ 600000000) (hk2 : k2 ≤ 100000000) (hb : b ≤ 100000) (hy : 0 < d) :
    Calls Tryz.prog 54 #[.agg #[.bool x.neg, .slice x.a x.n x.cap], .agg #[.bool y.neg, .slice y.a y.n y.cap], .int .i64 z] w (SpanAns w b (k + b / 16 + 14) (ofI n d b).1 (ofI n d b).2) := by
  subst hz; exact refRatio_any x y k k2 b n d w h1 h2 hk hk2 hb hy
theorem half_lo (B : Nat) : 0 ≤ (ofI 1 2 B).1 ∧ 0 ≤ (ofI 1 2 B).2 := by
  have q := Q_pos B
  have h1 : 0 ≤ (ofI 1 2 B).1 := Int.ediv_nonneg (by omega) (by decide)
  have := ofI_le (n := 1) (d := 2) (by decide) B
  exact ⟨h1, by omega⟩

set_option maxRecDepth 100000 in
set_option maxHeartbeats 4000000 in
theorem refNormalOf_iv (w : World) (s : Sp) (b : Nat) (a o1 o2 : Int × Int) (hs : SpAt w s 60 a.1 a.2) (hbits : s.bits = (b : Int)) (hb6 : b ≤ 600) (hz : -P 100 < (mulI b a (rootI b (ofI 1 2 b))).1 ∧ (mulI b a (rootI b (ofI 1 2 b))).2 < P 100)
    (h1 : RefErf2 (mulI b a (rootI b (ofI 1 2 b))).1 b o1.1 o1.2) (h2 : RefErf2 (mulI b a (rootI b (ofI 1 2 b))).2 b o2.1 o2.2) :
    Calls Tryz.prog 13 #[.agg #[.bool s.ln, .slice s.la s.lN s.lc, .bool s.hn, .slice s.ha s.hN s.hc, .int .i64 s.bits]] w (SpanAns w b 200030 (norR b o1.1 o2.2).1 (norR b o1.1 o2.2).2) := by
  obtain ⟨W, hW⟩ : ∃ W, W = (w.alloc (.cells #[.bool s.ln, .slice s.la s.lN s.lc, .bool s.hn, .slice s.ha s.hN s.hc, .int .i64 s.bits] 36)).alloc (.cells #[.bool false, .slice none 0 0, .bool false, .slice none 0 0, .int .i64 0] 36) := ⟨_, rfl⟩
  have hBW : Below w.heap.size w W := by rw [hW]; exact bl2 _ _ _
  have A : SpC W w.heap.size s := by rw [hW]; exact ⟨by simp [go_sem], by simp [go_sem], by simp [go_sem], by simp [go_sem], by simp [go_sem]⟩
  have R : NoC W (w.heap.size + 1) := by rw [hW]; exact ⟨by simp [go_sem], by simp [go_sem], by simp [go_sem], by simp [go_sem], by simp [go_sem], fun o => by simp [go_sem]⟩
  obtain ⟨z, ez⟩ : ∃ z, z = mulI b a (rootI b (ofI 1 2 b)) := ⟨_, rfl⟩
  rw [← ez] at hz h1 h2
  have HS := hide (hs.below hBW)
  have HB := hide hbits
  have H1 := hide h1
  have H2 := hide h2
  have HZ := hide (show z.1 ≤ z.2 ∧ -P 100 < z.1 ∧ z.2 < P 100 from ⟨by rw [ez]; exact mulI_le b, hz⟩)
  have HEZ := hide ez
  have lR := R.lt
  have lA := A.lt
  have HK := hide (show ∀ w', Below W.heap.size W w' → (w'.cell? ⟨w.heap.size, 0, none⟩ = some (.bool s.ln) ∧ w'.cell? ⟨w.heap.size, 1, none⟩ = some (.slice s.la s.lN s.lc) ∧ w'.cell? ⟨w.heap.size, 2, none⟩ = some (.bool s.hn) ∧ w'.cell? ⟨w.heap.size, 3, none⟩ = some (.slice s.ha s.hN s.hc) ∧ w'.cell? ⟨w.heap.size, 4, none⟩ = some (.int .i64 s.bits)) from fun w' hB => ⟨(A.below hB).c0, (A.below hB).c1, (A.below hB).c2, (A.below hB).c3, (A.below hB).c4⟩)
  clear hs hbits h1 h2 hz ez
  go_enter Tryz.func13, Tryz.ntmps13
  go_wp2
  rw [← hW]
  clear hW lR
  go_cut [3] (fun p wx => ∃ (B : Nat) (u : Sp), p = .pointer (some ⟨B, 0, none⟩) ∧ W.heap.size ≤ B ∧ VrC wx B u ∧ SpAt wx u 100 (z).1 (z).2 ∧ u.bits = (b : Int) ∧ Below W.heap.size W wx)
  case first =>
    go_region_held3 (fun w' => w'.cell? ⟨w.heap.size, 0, none⟩ = some (.bool s.ln) ∧ w'.cell? ⟨w.heap.size, 1, none⟩ = some (.slice s.la s.lN s.lc) ∧ w'.cell? ⟨w.heap.size, 2, none⟩ = some (.bool s.hn) ∧ w'.cell? ⟨w.heap.size, 3, none⟩ = some (.slice s.ha s.hN s.hc) ∧ w'.cell? ⟨w.heap.size, 4, none⟩ = some (.int .i64 s.bits)) (exact unhide HK _ (by repeat' (first | with_reducible exact hBZ5 | with_reducible exact hBZ4 | with_reducible exact hBZ3 | with_reducible exact hBZ2 | with_reducible exact hBZ1 | with_reducible exact Below.refl _ _ | with_reducible refine Below.drew ?_ | with_reducible refine balloc ?_ _ | with_reducible refine Below.setCell ?_ (by first | exact Nat.le_refl _ | exact hlZ1 | exact hlZ2 | exact hlZ3 | exact hlZ4 | exact hlZ5) _)))
      (first
        | (go_at_call 52; have hq := hBZ4; refine (refTimes_iv _ s vZ4 200 b a (rootI b (ofI 1 2 b)) (((unhide HS).below (by first | with_reducible exact hBZ4 | with_reducible exact balloc hBZ4 _)).mono (by omega)) (show SpAt _ vZ4 200 (rootI b (ofI 1 2 b)).1 (rootI b (ofI 1 2 b)).2 from (hintZ4.below (by first | with_reducible exact Below.refl _ _ | with_reducible exact bl1 _ _)).mono (by omega)) (by omega) (unhide HB) (by omega)).mono ?_; rintro r wZ5 ⟨vZ5, rfl, hvbZ5, hintZ5, hbZ5⟩; have HVBZ5 := hide hvbZ5; clear hvbZ5; have hCZ5 : Below wZ4.heap.size wZ4 wZ5 := (by first | with_reducible exact hbZ5 | with_reducible exact bthen (bl1 _ _) hbZ5); have hBZ5 := bthen hBZ4 hCZ5; (try with_reducible have gZ5 := (noc_new wZ4 36).below hbZ5); replace hintZ1 := hintZ1.below hCZ5; (try replace gZ1 := gZ1.below hCZ5); replace hintZ2 := hintZ2.below hCZ5; (try replace gZ2 := gZ2.below hCZ5); replace hintZ3 := hintZ3.below hCZ5; (try replace gZ3 := gZ3.below hCZ5); replace hintZ4 := hintZ4.below hCZ5; (try replace gZ4 := gZ4.below hCZ5); have hlZ5 := hBZ5.size; (try have mZ1 := gZ1.lt); (try have eZ1 := Nat.ne_of_lt mZ1); (try have eZ1' := Nat.ne_of_gt mZ1); (try obtain ⟨zZ10, zZ11, zZ12, zZ13, zZ14, zZ15⟩ := gZ1); (try have mZ2 := gZ2.lt); (try have eZ2 := Nat.ne_of_lt mZ2); (try have eZ2' := Nat.ne_of_gt mZ2); (try obtain ⟨zZ20, zZ21, zZ22, zZ23, zZ24, zZ25⟩ := gZ2); (try have mZ3 := gZ3.lt); (try have eZ3 := Nat.ne_of_lt mZ3); (try have eZ3' := Nat.ne_of_gt mZ3); (try obtain ⟨zZ30, zZ31, zZ32, zZ33, zZ34, zZ35⟩ := gZ3); (try have mZ4 := gZ4.lt); (try have eZ4 := Nat.ne_of_lt mZ4); (try have eZ4' := Nat.ne_of_gt mZ4); (try obtain ⟨zZ40, zZ41, zZ42, zZ43, zZ44, zZ45⟩ := gZ4); (try have mZ5 := gZ5.lt); (try have eZ5 := Nat.ne_of_lt mZ5); (try have eZ5' := Nat.ne_of_gt mZ5); (try obtain ⟨zZ50, zZ51, zZ52, zZ53, zZ54, zZ55⟩ := gZ5))
        | (go_at_call 53; have hq := hBZ3; refine (refRoots_int _ vZ3 60 b _ _ ((hintZ3.below (by first | with_reducible exact Below.refl _ _ | with_reducible exact bl1 _ _)).mono (by omega)) (by omega) (by omega) (unhide HVBZ3) (half_lo b).1 (half_lo b).2).mono ?_; rintro r wZ4 ⟨vZ4, rfl, hvbZ4, hintZ4, hbZ4⟩; have HVBZ4 := hide hvbZ4; clear hvbZ4; have hCZ4 : Below wZ3.heap.size wZ3 wZ4 := (by first | with_reducible exact hbZ4 | with_reducible exact bthen (bl1 _ _) hbZ4); have hBZ4 := bthen hBZ3 hCZ4; (try with_reducible have gZ4 := (noc_new wZ3 36).below hbZ4); replace hintZ1 := hintZ1.below hCZ4; (try replace gZ1 := gZ1.below hCZ4); replace hintZ2 := hintZ2.below hCZ4; (try replace gZ2 := gZ2.below hCZ4); replace hintZ3 := hintZ3.below hCZ4; (try replace gZ3 := gZ3.below hCZ4); have hlZ4 := hBZ4.size)
        | (go_at_call 54; have hq := hBZ2; refine (refRatio_z s.bits (unhide HB) ⟨negZ1, aZ1, nZ1, cZ1⟩ ⟨negZ2, aZ2, nZ2, cZ2⟩ 4 4 1 2 _ (hintZ1.below (by first | with_reducible exact Below.refl _ _ | with_reducible exact bl1 _ _)) (hintZ2.below (by first | with_reducible exact Below.refl _ _ | with_reducible exact bl1 _ _)) (by omega) (by omega) (by omega) (by omega)).mono ?_; rintro r wZ3 ⟨vZ3, rfl, hvbZ3, hintZ3, hbZ3⟩; have HVBZ3 := hide hvbZ3; clear hvbZ3; have hCZ3 : Below wZ2.heap.size wZ2 wZ3 := (by first | with_reducible exact hbZ3 | with_reducible exact bthen (bl1 _ _) hbZ3); have hBZ3 := bthen hBZ2 hCZ3; (try with_reducible have gZ3 := (noc_new wZ2 36).below hbZ3); replace hintZ1 := hintZ1.below hCZ3; (try replace gZ1 := gZ1.below hCZ3); replace hintZ2 := hintZ2.below hCZ3; (try replace gZ2 := gZ2.below hCZ3); have hlZ3 := hBZ3.size)
        | (go_at_call 43; have hq := hBZ1; refine (numOf_int 2 _ (by omega) (by omega)).mono ?_; rintro r wZ2 ⟨negZ2, aZ2, nZ2, cZ2, rfl, hintZ2, hbZ2⟩; have hCZ2 : Below wZ1.heap.size wZ1 wZ2 := (by first | with_reducible exact hbZ2 | with_reducible exact bthen (bl1 _ _) hbZ2); have hBZ2 := bthen hBZ1 hCZ2; (try with_reducible have gZ2 := (noc_new wZ1 36).below hbZ2); replace hintZ1 := hintZ1.below hCZ2; (try replace gZ1 := gZ1.below hCZ2); have hlZ2 := hBZ2.size)
        | (go_at_call 43; refine (numOf_int 1 _ (by omega) (by omega)).mono ?_; rintro r wZ1 ⟨negZ1, aZ1, nZ1, cZ1, rfl, hintZ1, hbZ1⟩; have hBZ1 : Below W.heap.size W wZ1 := (by first | with_reducible exact bthen (Below.refl _ _).drew hbZ1 | with_reducible exact bthen (bl1 _ _).drew hbZ1); (try with_reducible have gZ1 := ((noc_new W 36).below (Below.refl _ _).drew).below hbZ1); have hlZ1 := hBZ1.size))
    all_goals
      have hfinZ : SpAt wZ5 vZ5 100 (z).1 (z).2 := SpAt.fits (K := 100) (show SpAt _ vZ5 408 z.1 z.2 by rw [unhide HEZ]; exact hintZ5) (unhide HZ).1 (unhide HZ).2.1 (unhide HZ).2.2
      go_wp2_with fail
      go_meet
      refine ⟨_, vZ5, rfl, ?_, ⟨⟨?_, ?_, ?_, ?_, ?_⟩, ?_⟩, ?_, unhide HVBZ5, ?_⟩
      · first | exact Nat.le_refl _ | exact hlZ1 | exact hlZ2 | exact hlZ3 | exact hlZ4 | exact hlZ5
      · simp [go_sem, *]
      · simp [go_sem, *]
      · simp [go_sem, *]
      · simp [go_sem, *]
      · simp [go_sem, *]
      · intro o; simp [go_sem, *]
      · first | with_reducible exact SpAt.put5 hfinZ zZ50 zZ51 zZ52 zZ53 zZ54 _ _ _ _ _ | with_reducible exact SpAt.put5 hfinZ zZ40 zZ41 zZ42 zZ43 zZ44 _ _ _ _ _ | with_reducible exact SpAt.put5 hfinZ zZ30 zZ31 zZ32 zZ33 zZ34 _ _ _ _ _ | with_reducible exact SpAt.put5 hfinZ zZ20 zZ21 zZ22 zZ23 zZ24 _ _ _ _ _ | with_reducible exact SpAt.put5 hfinZ zZ10 zZ11 zZ12 zZ13 zZ14 _ _ _ _ _ | with_reducible exact hfinZ.below (bl1 _ _)
      · repeat' (first | with_reducible exact hBZ5 | with_reducible exact hBZ4 | with_reducible exact hBZ3 | with_reducible exact hBZ2 | with_reducible exact hBZ1 | with_reducible exact Below.refl _ _ | with_reducible refine Below.drew ?_ | with_reducible refine balloc ?_ _ | with_reducible refine Below.setCell ?_ (by first | exact Nat.le_refl _ | exact hlZ1 | exact hlZ2 | exact hlZ3 | exact hlZ4 | exact hlZ5) _)
  case rest =>
  obtain ⟨BZ, xZ, rfl, hHZ, XZ, hpZ, hxbZ, hblZ⟩ := hcut
  have lR := R.lt
  have A2 := A.below hblZ
  replace R := R.below hblZ
  replace hBW := bthen hBW hblZ
  have nRZ : w.heap.size + 1 < BZ := by omega
  have lR2 := R.lt
  have HXB := hide hxbZ
  have HHZ := hide hpZ
  have lZ := XZ.lt
  have HK2 := hide (show ∀ w', Below wc.heap.size wc w' → (w'.cell? ⟨w.heap.size, 0, none⟩ = some (.bool s.ln) ∧ w'.cell? ⟨w.heap.size, 1, none⟩ = some (.slice s.la s.lN s.lc) ∧ w'.cell? ⟨w.heap.size, 2, none⟩ = some (.bool s.hn) ∧ w'.cell? ⟨w.heap.size, 3, none⟩ = some (.slice s.ha s.hN s.hc) ∧ w'.cell? ⟨w.heap.size, 4, none⟩ = some (.int .i64 s.bits) ∧ w'.cell? ⟨BZ, 0, none⟩ = some (.bool xZ.ln) ∧ w'.cell? ⟨BZ, 1, none⟩ = some (.slice xZ.la xZ.lN xZ.lc) ∧ w'.cell? ⟨BZ, 2, none⟩ = some (.bool xZ.hn) ∧ w'.cell? ⟨BZ, 3, none⟩ = some (.slice xZ.ha xZ.hN xZ.hc) ∧ w'.cell? ⟨BZ, 4, none⟩ = some (.int .i64 xZ.bits)) from fun w' hB => ⟨(A2.below hB).c0, (A2.below hB).c1, (A2.below hB).c2, (A2.below hB).c3, (A2.below hB).c4, (XZ.c.below hB).c0, (XZ.c.below hB).c1, (XZ.c.below hB).c2, (XZ.c.below hB).c3, (XZ.c.below hB).c4⟩)
  clear hxbZ hpZ HK hblZ A2 XZ
  have n1 : w.heap.size + 1 ≠ w.heap.size := by omega
  have n2 : w.heap.size + 1 ≠ BZ := by omega
  have hD0 : Below wc.heap.size wc wc.drew := (Below.refl _ _).drew
  obtain ⟨x0, x1, x2, x3, x4, y0, y1, y2, y3, y4⟩ := unhide HK2 _ (Below.refl _ _)
  go_wp2_with fail
  go_region_held3 (fun w' => w'.cell? ⟨w.heap.size, 0, none⟩ = some (.bool s.ln) ∧ w'.cell? ⟨w.heap.size, 1, none⟩ = some (.slice s.la s.lN s.lc) ∧ w'.cell? ⟨w.heap.size, 2, none⟩ = some (.bool s.hn) ∧ w'.cell? ⟨w.heap.size, 3, none⟩ = some (.slice s.ha s.hN s.hc) ∧ w'.cell? ⟨w.heap.size, 4, none⟩ = some (.int .i64 s.bits) ∧ w'.cell? ⟨BZ, 0, none⟩ = some (.bool xZ.ln) ∧ w'.cell? ⟨BZ, 1, none⟩ = some (.slice xZ.la xZ.lN xZ.lc) ∧ w'.cell? ⟨BZ, 2, none⟩ = some (.bool xZ.hn) ∧ w'.cell? ⟨BZ, 3, none⟩ = some (.slice xZ.ha xZ.hN xZ.hc) ∧ w'.cell? ⟨BZ, 4, none⟩ = some (.int .i64 xZ.bits)) (first | exact unhide HK2 _ (by first | with_reducible exact hD0 | with_reducible exact hD7 | with_reducible exact hD6 | with_reducible exact hD5 | with_reducible exact hD4 | with_reducible exact hD3 | with_reducible exact hD2 | with_reducible exact hD1) | go_keep)
    (first
      | (go_at_call 55; have hqq := hD6; refine (refClip01 _ v6 200020 b _ _ (hv6.mono (by omega)) (unhide F6) (by omega) (by omega) (by omega)).mono ?_; rintro r w7 ⟨t, rfl, htb, htp, hb7⟩; have HT := hide htb; clear htb; have hD7 := bthen hD6 hb7; obtain ⟨q0, q1, q2, q3, q4, q5⟩ := R.below hD7; obtain ⟨i0, i1, i2, i3, i4, j0, j1, j2, j3, j4⟩ := unhide HK2 _ hD7)
      | (go_at_call 56; have hqq := hD5; refine (refBy _ v3 ⟨neg4, a4, n4, c4⟩ ⟨neg5, a5, n5, c5⟩ 200003 4 4 b _ 1 2 (hv3.below (bthen hb4 hb5)) (hint4.below hb5) hint5 (by omega) (by omega) (by omega) (by omega) (unhide F3)).mono ?_; rintro r w6 ⟨v6, rfl, hvb6, hv6, hb6⟩; have F6 := hide hvb6; clear hvb6; have hD6 := bthen hD5 hb6)
      | (go_at_call 43; have hqq := hD4; refine (numOf_int 2 _ (by omega) (by omega)).mono ?_; rintro r w5 ⟨neg5, a5, n5, c5, rfl, hint5, hb5⟩; have hD5 := bthen hD4 hb5)
      | (go_at_call 43; have hqq := hD3; refine (numOf_int 1 _ (by omega) (by omega)).mono ?_; rintro r w4 ⟨neg4, a4, n4, c4, rfl, hint4, hb4⟩; have hD4 := bthen hD3 hb4)
      | (go_at_call 57; have hqq := hD2; refine (refPlus_iv _ v1 v2 200002 b (1 * Q b, 1 * Q b) (o1.1, o2.2) ((hv1.below hb2).mono (by omega)) hv2 (by omega) (unhide F1)).mono ?_; rintro r w3 ⟨v3, rfl, hvb3, hv3, hb3⟩; have F3 := hide hvb3; clear hvb3; have hD3 := bthen hD2 hb3)
      | (go_at_call 58; have hqq := hD1; refine (refErfOf_iv _ xZ b z o1 o2 ((unhide HHZ).below hD1) (unhide HXB) (unhide H1) (unhide H2)).mono ?_; rintro r w2 ⟨v2, rfl, hvb2, hv2, hb2⟩; clear hvb2; have hD2 := bthen hD1 hb2)
      | (go_at_call 27; refine (refWholeZ s.bits (unhide HB) _ 1 (by omega) (by omega) (by omega)).mono ?_; rintro r w1 ⟨v1, rfl, hvb1, hv1, hb1⟩; have F1 := hide hvb1; clear hvb1; have hD1 := bthen hD0 hb1))
  all_goals
    go_wp2_with fail
    refine bodyPost_ret (v := .agg #[.bool t.ln, .slice t.la t.lN t.lc, .bool t.hn, .slice t.ha t.hN t.hc, .int .i64 t.bits]) (by simp [results, Tryz.results13, go_sem, q0, q1, q2, q3, q4]) rfl ⟨t, rfl, unhide HT, ?_, ?_⟩
    · exact SpAt.put5 (htp.mono (by omega)) q0 q1 q2 q3 q4 _ _ _ _ _
    · exact set5 (bthen hBW hD7) (by omega) _ _ _ _ _
end Go.Proofs.YtgmnknmjainababGreat

namespace Go.Proofs.YtgmnknmjainababGreat
set_option linter.unusedVariables false
set_option linter.unusedSimpArgs false
set_option linter.unnecessarySimpa false
open Go.RowKit
attribute [local go_sem ↓] Go.wp_at_zero Go.wp_at_succ
open Ex

set_option maxRecDepth 100000 in
set_option maxHeartbeats 4000000 in
theorem wnor_pos (w : World) (x y : Nm) (p q : Int) (b : Nat) (s e : Int) (hx : IntAt w x.neg x.a x.n x.cap 4 p) (hy : IntAt w y.neg y.a y.n y.cap 4 q) (hr : rok p q) (hb40 : 40 ≤ b) (hb : b ≤ 10000) (hp : 0 < p) (hE : ErfN (p * p) (q * q * 2) b s e) :
    Calls Tryz.prog 42 #[.agg #[.bool x.neg, .slice x.a x.n x.cap], .agg #[.bool y.neg, .slice y.a y.n y.cap], .int .i64 b] w (SpanAns w b 3020 (scaleI (restI b (-e, -s)) 1 2).1 (scaleI (restI b (-e, -s)) 1 2).2) := by
  obtain ⟨W, hW⟩ : ∃ W, W = ((w.alloc (.cells #[.bool x.neg, .slice x.a x.n x.cap] 26)).alloc (.cells #[.bool y.neg, .slice y.a y.n y.cap] 26)).alloc (.cells #[.bool false, .slice none 0 0, .bool false, .slice none 0 0, .int .i64 0] 28) := ⟨_, rfl⟩
  have hBW : Below w.heap.size w W := by rw [hW]; exact bl3 _ _ _ _
  have X : NmC W w.heap.size x := by rw [hW]; exact ⟨by simp [go_sem], by simp [go_sem]⟩
  have Y : NmC W (w.heap.size + 1) y := by rw [hW]; exact ⟨by simp [go_sem], by simp [go_sem]⟩
  have R : NoC W (w.heap.size + 1 + 1) := by rw [hW]; exact ⟨by simp [go_sem], by simp [go_sem], by simp [go_sem], by simp [go_sem], by simp [go_sem], fun o => by simp [go_sem]⟩
  obtain ⟨r1, r2, r3, r4⟩ := hr
  obtain ⟨a1, a2⟩ := sq_bd (p := q) (by omega) (by omega)
  have HX := hide (hx.below hBW)
  have HY := hide (hy.below hBW)
  have HQ8 := hide (show -P 8 < 2 * (q * q) ∧ 2 * (q * q) < P 8 by
    have : P 8 = 340282366920938463463374607431768211456 := rfl
    exact ⟨by omega, by omega⟩)
  have HE := hide (show ErfN (p * p) (2 * (q * q)) b s e by
    have e2 : q * q * 2 = 2 * (q * q) := by omega
    rw [e2] at hE; exact hE)
  have lX := X.lt
  have lY := Y.lt
  have lR := R.lt
  have HK := hide (show ∀ w', Below W.heap.size W w' → (w'.cell? ⟨w.heap.size, 0, none⟩ = some (.bool x.neg) ∧ w'.cell? ⟨w.heap.size, 1, none⟩ = some (.slice x.a x.n x.cap) ∧ w'.cell? ⟨(w.heap.size + 1), 0, none⟩ = some (.bool y.neg) ∧ w'.cell? ⟨(w.heap.size + 1), 1, none⟩ = some (.slice y.a y.n y.cap)) from fun w' hB => ⟨(X.below hB).c0, (X.below hB).c1, (Y.below hB).c0, (Y.below hB).c1⟩)
  have HP := hide hp
  clear hE hx hy a1 a2 r1 r2 r3 r4 hp X Y
  go_enter Tryz.func42, Tryz.ntmps42
  go_wp2
  rw [← hW]
  clear hW lR
  go_cut [7] (fun p wx => ∃ (B : Nat) (u : Sp), p = .pointer (some ⟨B, 0, none⟩) ∧ W.heap.size ≤ B ∧ VrC wx B u ∧ SpAt wx u 3000 (((s, e) : Int × Int)).1 (((s, e) : Int × Int)).2 ∧ u.bits = (b : Int) ∧ Below W.heap.size W wx)
  case first =>
    go_region_held3 (fun w' => w'.cell? ⟨w.heap.size, 0, none⟩ = some (.bool x.neg) ∧ w'.cell? ⟨w.heap.size, 1, none⟩ = some (.slice x.a x.n x.cap) ∧ w'.cell? ⟨(w.heap.size + 1), 0, none⟩ = some (.bool y.neg) ∧ w'.cell? ⟨(w.heap.size + 1), 1, none⟩ = some (.slice y.a y.n y.cap)) (exact unhide HK _ (by repeat' (first | with_reducible exact hBU4 | with_reducible exact hBU3 | with_reducible exact hBU2 | with_reducible exact hBU1 | with_reducible exact Below.refl _ _ | with_reducible refine Below.drew ?_ | with_reducible refine balloc ?_ _ | with_reducible refine Below.setCell ?_ (by first | exact Nat.le_refl _ | exact hlU1 | exact hlU2 | exact hlU3 | exact hlU4) _)))
      (first
        | (go_at_call 94; have hq := hBU3; refine (unhide HE _ ⟨negU1, aU1, nU1, cU1⟩ ⟨negU3, aU3, nU3, cU3⟩ (hintU1.below (by first | with_reducible exact Below.refl _ _ | with_reducible exact bl1 _ _)) ((hintU3.below (by first | with_reducible exact Below.refl _ _ | with_reducible exact bl1 _ _)).fits (unhide HQ8).1 (unhide HQ8).2)).mono ?_; rintro r wU4 ⟨vU4, rfl, hvbU4, hintU4, hbU4⟩; have HVBU4 := hide hvbU4; clear hvbU4; have hCU4 : Below wU3.heap.size wU3 wU4 := (by first | with_reducible exact hbU4 | with_reducible exact bthen (bl1 _ _) hbU4); have hBU4 := bthen hBU3 hCU4; (try with_reducible have gU4 := (noc_new wU3 28).below hbU4); replace hintU1 := hintU1.below hCU4; (try replace gU1 := gU1.below hCU4); replace hintU2 := hintU2.below hCU4; (try replace gU2 := gU2.below hCU4); replace hintU3 := hintU3.below hCU4; (try replace gU3 := gU3.below hCU4); have hlU4 := hBU4.size; (try have mU1 := gU1.lt); (try have eU1 := Nat.ne_of_lt mU1); (try have eU1' := Nat.ne_of_gt mU1); (try obtain ⟨zU10, zU11, zU12, zU13, zU14, zU15⟩ := gU1); (try have mU2 := gU2.lt); (try have eU2 := Nat.ne_of_lt mU2); (try have eU2' := Nat.ne_of_gt mU2); (try obtain ⟨zU20, zU21, zU22, zU23, zU24, zU25⟩ := gU2); (try have mU3 := gU3.lt); (try have eU3 := Nat.ne_of_lt mU3); (try have eU3' := Nat.ne_of_gt mU3); (try obtain ⟨zU30, zU31, zU32, zU33, zU34, zU35⟩ := gU3); (try have mU4 := gU4.lt); (try have eU4 := Nat.ne_of_lt mU4); (try have eU4' := Nat.ne_of_gt mU4); (try obtain ⟨zU40, zU41, zU42, zU43, zU44, zU45⟩ := gU4))
        | (go_at_call 95; have hq := hBU2; refine (up_one _ _ _ _ 8 (q * q) _ (hintU2.below (by first | with_reducible exact Below.refl _ _ | with_reducible exact bl1 _ _)) (by omega)).mono ?_; rintro r wU3 ⟨negU3, aU3, nU3, cU3, rfl, hintU3, hbU3⟩; have hCU3 : Below wU2.heap.size wU2 wU3 := (by first | with_reducible exact hbU3 | with_reducible exact bthen (bl1 _ _) hbU3); have hBU3 := bthen hBU2 hCU3; (try with_reducible have gU3 := (noc_new wU2 28).below hbU3); replace hintU1 := hintU1.below hCU3; (try replace gU1 := gU1.below hCU3); replace hintU2 := hintU2.below hCU3; (try replace gU2 := gU2.below hCU3); have hlU3 := hBU3.size)
        | (go_at_call 66; have hq := hBU1; refine (mul_int _ _ _ _ _ _ _ _ 4 4 q q _ ((unhide HY).below (by first | with_reducible exact hBU1 | with_reducible exact balloc hBU1 _)) ((unhide HY).below (by first | with_reducible exact hBU1 | with_reducible exact balloc hBU1 _)) (by omega) (by omega)).mono ?_; rintro r wU2 ⟨negU2, aU2, nU2, cU2, rfl, hintU2, hbU2⟩; have hCU2 : Below wU1.heap.size wU1 wU2 := (by first | with_reducible exact hbU2 | with_reducible exact bthen (bl1 _ _) hbU2); have hBU2 := bthen hBU1 hCU2; (try with_reducible have gU2 := (noc_new wU1 28).below hbU2); replace hintU1 := hintU1.below hCU2; (try replace gU1 := gU1.below hCU2); have hlU2 := hBU2.size)
        | (go_at_call 66; refine (mul_int _ _ _ _ _ _ _ _ 4 4 p p _ ((unhide HX).below (by first | with_reducible exact (Below.refl _ _).drew | with_reducible exact (bl1 _ _).drew)) ((unhide HX).below (by first | with_reducible exact (Below.refl _ _).drew | with_reducible exact (bl1 _ _).drew)) (by omega) (by omega)).mono ?_; rintro r wU1 ⟨negU1, aU1, nU1, cU1, rfl, hintU1, hbU1⟩; have hBU1 : Below W.heap.size W wU1 := (by first | with_reducible exact bthen (Below.refl _ _).drew hbU1 | with_reducible exact bthen (bl1 _ _).drew hbU1); (try with_reducible have gU1 := ((noc_new W 28).below (Below.refl _ _).drew).below hbU1); have hlU1 := hBU1.size))
    all_goals
      have hfinU : SpAt wU4 vU4 3000 (((s, e) : Int × Int)).1 (((s, e) : Int × Int)).2 := hintU4
      go_wp2_with fail
      go_meet
      refine ⟨_, vU4, rfl, ?_, ⟨⟨?_, ?_, ?_, ?_, ?_⟩, ?_⟩, ?_, unhide HVBU4, ?_⟩
      · first | exact Nat.le_refl _ | exact hlU1 | exact hlU2 | exact hlU3 | exact hlU4
      · simp [go_sem, *]
      · simp [go_sem, *]
      · simp [go_sem, *]
      · simp [go_sem, *]
      · simp [go_sem, *]
      · intro o; simp [go_sem, *]
      · first | with_reducible exact SpAt.put5 hfinU zU40 zU41 zU42 zU43 zU44 _ _ _ _ _ | with_reducible exact SpAt.put5 hfinU zU30 zU31 zU32 zU33 zU34 _ _ _ _ _ | with_reducible exact SpAt.put5 hfinU zU20 zU21 zU22 zU23 zU24 _ _ _ _ _ | with_reducible exact SpAt.put5 hfinU zU10 zU11 zU12 zU13 zU14 _ _ _ _ _ | with_reducible exact hfinU.below (bl1 _ _)
      · repeat' (first | with_reducible exact hBU4 | with_reducible exact hBU3 | with_reducible exact hBU2 | with_reducible exact hBU1 | with_reducible exact Below.refl _ _ | with_reducible refine Below.drew ?_ | with_reducible refine balloc ?_ _ | with_reducible refine Below.setCell ?_ (by first | exact Nat.le_refl _ | exact hlU1 | exact hlU2 | exact hlU3 | exact hlU4) _)
  case rest =>
  obtain ⟨BU, xU, rfl, hHU, XU, hpU, hxbU, hblU⟩ := hcut
  have hp := unhide HP
  have cp : 0 < cmpInt p 0 := cmp_gt hp
  have lR := R.lt
  replace R := R.below hblU
  replace HX := hide ((unhide HX).below hblU)
  replace hBW := bthen hBW hblU
  obtain ⟨x0, x1, x2, x3⟩ := unhide HK _ hblU
  have nRU : w.heap.size + 1 + 1 < BU := by omega
  have lR2 := R.lt
  have lX2 : w.heap.size < wc.heap.size := by omega
  have HXB := hide hxbU
  have HHU := hide hpU
  clear hxbU hpU HK hblU
  go_wp2_with fail
  refine (sign_int _ _ _ _ 4 p _ (unhide HX)).mono ?_
  rintro r w1 ⟨rfl, hb1⟩
  replace R := R.below hb1
  replace XU := XU.below hb1
  replace HHU := hide ((unhide HHU).below hb1)
  replace hBW := bthen hBW hb1
  clear hb1 x0 x1 x2 x3 HX
  have lU := XU.lt
  have lR3 := R.lt
  obtain ⟨⟨y0, y1, y2, y3, y4⟩, y5⟩ := XU
  go_wp2_with fail
  refine (opposite_int _ xU 3000 _ _ (unhide HHU) (by omega)).mono ?_
  rintro r w3 ⟨t, rfl, htb, htp, hb3⟩
  have XU3 : VrC w3 BU xU := VrC.below ⟨⟨y0, y1, y2, y3, y4⟩, y5⟩ hb3
  replace R := R.below hb3
  replace hBW := bthen hBW hb3
  have HT := hide (htb.trans (unhide HXB))
  clear htb y0 y1 y2 y3 y4 y5 hb3 HHU lU lR3
  have lU := XU3.lt
  have lR3 := R.lt
  obtain ⟨V3, hV3⟩ : ∃ V3, V3 = put5w w3 BU t := ⟨_, rfl⟩
  have X3 : VrC V3 BU t := by rw [hV3]; exact XU3.put t
  have P3 : SpAt V3 t 3000 (-e) (-s) := by rw [hV3]; exact htp.put XU3.c t
  have R3 : NoC V3 (w.heap.size + 1 + 1) := by rw [hV3]; exact R.off (by omega) t
  have B3 : Below w.heap.size w V3 := by rw [hV3]; exact below_put hBW (by omega) t
  obtain ⟨⟨y0, y1, y2, y3, y4⟩, y5⟩ := XU3
  clear htp hBW R
  have z0 : V3.cell? ⟨BU, 0, none⟩ = some (.bool t.ln) := X3.c.c0
  have z1 : V3.cell? ⟨BU, 1, none⟩ = some (.slice t.la t.lN t.lc) := X3.c.c1
  have z2 : V3.cell? ⟨BU, 2, none⟩ = some (.bool t.hn) := X3.c.c2
  have z3 : V3.cell? ⟨BU, 3, none⟩ = some (.slice t.ha t.hN t.hc) := X3.c.c3
  have z4 : V3.cell? ⟨BU, 4, none⟩ = some (.int .i64 t.bits) := X3.c.c4
  go_wp2_with fail
  have hV3' : V3 = put5w w3 BU t := hV3
  unfold put5w at hV3'
  rw [← hV3']
  clear hV3' hV3 y0 y1 y2 y3 y4 y5
  (try go_wp2_with fail)
  refine (rest_iv _ t 3000 b (-e, -s) P3 (unhide HT) (by omega) (by omega) (by omega)).mono ?_
  rintro r w4 ⟨v, rfl, hvb, hvp, hb4⟩
  replace R3 := R3.below hb4
  replace B3 := bthen B3 hb4
  have HV := hide hvb
  clear hvb hb4
  go_wp2_with fail
  refine (over_iv _ v 3001 b 2 _ hvp (by omega) (unhide HV) (by omega) (by omega)).mono ?_
  rintro r w5 ⟨o, rfl, hob, hop, hb5⟩
  obtain ⟨q0, q1, q2, q3, q4, q5⟩ := R3.below hb5
  replace B3 := bthen B3 hb5
  have HO := hide hob
  clear hob
  go_wp2_with fail
  refine bodyPost_ret (v := .agg #[.bool o.ln, .slice o.la o.lN o.lc, .bool o.hn, .slice o.ha o.hN o.hc, .int .i64 o.bits]) (by simp [results, Tryz.results42, go_sem, q0, q1, q2, q3, q4]) rfl ⟨o, rfl, unhide HO, ?_, ?_⟩
  · exact SpAt.put5 (hop.mono (by omega)) q0 q1 q2 q3 q4 _ _ _ _ _
  · exact set5 B3 (by omega) _ _ _ _ _

set_option maxRecDepth 100000 in
set_option maxHeartbeats 4000000 in
theorem wnor_neg (w : World) (x y : Nm) (p q : Int) (b : Nat) (s e : Int) (hx : IntAt w x.neg x.a x.n x.cap 4 p) (hy : IntAt w y.neg y.a y.n y.cap 4 q) (hr : rok p q) (hb40 : 40 ≤ b) (hb : b ≤ 10000) (hp : ¬ 0 < p) (hE : ErfN (p * p) (q * q * 2) b s e) :
    Calls Tryz.prog 42 #[.agg #[.bool x.neg, .slice x.a x.n x.cap], .agg #[.bool y.neg, .slice y.a y.n y.cap], .int .i64 b] w (SpanAns w b 3020 (scaleI (restI b (s, e)) 1 2).1 (scaleI (restI b (s, e)) 1 2).2) := by
  obtain ⟨W, hW⟩ : ∃ W, W = ((w.alloc (.cells #[.bool x.neg, .slice x.a x.n x.cap] 26)).alloc (.cells #[.bool y.neg, .slice y.a y.n y.cap] 26)).alloc (.cells #[.bool false, .slice none 0 0, .bool false, .slice none 0 0, .int .i64 0] 28) := ⟨_, rfl⟩
  have hBW : Below w.heap.size w W := by rw [hW]; exact bl3 _ _ _ _
  have X : NmC W w.heap.size x := by rw [hW]; exact ⟨by simp [go_sem], by simp [go_sem]⟩
  have Y : NmC W (w.heap.size + 1) y := by rw [hW]; exact ⟨by simp [go_sem], by simp [go_sem]⟩
  have R : NoC W (w.heap.size + 1 + 1) := by rw [hW]; exact ⟨by simp [go_sem], by simp [go_sem], by simp [go_sem], by simp [go_sem], by simp [go_sem], fun o => by simp [go_sem]⟩
  obtain ⟨r1, r2, r3, r4⟩ := hr
  obtain ⟨a1, a2⟩ := sq_bd (p := q) (by omega) (by omega)
  have HX := hide (hx.below hBW)
  have HY := hide (hy.below hBW)
  have HQ8 := hide (show -P 8 < 2 * (q * q) ∧ 2 * (q * q) < P 8 by
    have : P 8 = 340282366920938463463374607431768211456 := rfl
    exact ⟨by omega, by omega⟩)
  have HE := hide (show ErfN (p * p) (2 * (q * q)) b s e by
    have e2 : q * q * 2 = 2 * (q * q) := by omega
    rw [e2] at hE; exact hE)
  have lX := X.lt
  have lY := Y.lt
  have lR := R.lt
  have HK := hide (show ∀ w', Below W.heap.size W w' → (w'.cell? ⟨w.heap.size, 0, none⟩ = some (.bool x.neg) ∧ w'.cell? ⟨w.heap.size, 1, none⟩ = some (.slice x.a x.n x.cap) ∧ w'.cell? ⟨(w.heap.size + 1), 0, none⟩ = some (.bool y.neg) ∧ w'.cell? ⟨(w.heap.size + 1), 1, none⟩ = some (.slice y.a y.n y.cap)) from fun w' hB => ⟨(X.below hB).c0, (X.below hB).c1, (Y.below hB).c0, (Y.below hB).c1⟩)
  have HP := hide hp
  clear hE hx hy a1 a2 r1 r2 r3 r4 hp X Y
  go_enter Tryz.func42, Tryz.ntmps42
  go_wp2
  rw [← hW]
  clear hW lR
  go_cut [7] (fun p wx => ∃ (B : Nat) (u : Sp), p = .pointer (some ⟨B, 0, none⟩) ∧ W.heap.size ≤ B ∧ VrC wx B u ∧ SpAt wx u 3000 (((s, e) : Int × Int)).1 (((s, e) : Int × Int)).2 ∧ u.bits = (b : Int) ∧ Below W.heap.size W wx)
  case first =>
    go_region_held3 (fun w' => w'.cell? ⟨w.heap.size, 0, none⟩ = some (.bool x.neg) ∧ w'.cell? ⟨w.heap.size, 1, none⟩ = some (.slice x.a x.n x.cap) ∧ w'.cell? ⟨(w.heap.size + 1), 0, none⟩ = some (.bool y.neg) ∧ w'.cell? ⟨(w.heap.size + 1), 1, none⟩ = some (.slice y.a y.n y.cap)) (exact unhide HK _ (by repeat' (first | with_reducible exact hBU4 | with_reducible exact hBU3 | with_reducible exact hBU2 | with_reducible exact hBU1 | with_reducible exact Below.refl _ _ | with_reducible refine Below.drew ?_ | with_reducible refine balloc ?_ _ | with_reducible refine Below.setCell ?_ (by first | exact Nat.le_refl _ | exact hlU1 | exact hlU2 | exact hlU3 | exact hlU4) _)))
      (first
        | (go_at_call 94; have hq := hBU3; refine (unhide HE _ ⟨negU1, aU1, nU1, cU1⟩ ⟨negU3, aU3, nU3, cU3⟩ (hintU1.below (by first | with_reducible exact Below.refl _ _ | with_reducible exact bl1 _ _)) ((hintU3.below (by first | with_reducible exact Below.refl _ _ | with_reducible exact bl1 _ _)).fits (unhide HQ8).1 (unhide HQ8).2)).mono ?_; rintro r wU4 ⟨vU4, rfl, hvbU4, hintU4, hbU4⟩; have HVBU4 := hide hvbU4; clear hvbU4; have hCU4 : Below wU3.heap.size wU3 wU4 := (by first | with_reducible exact hbU4 | with_reducible exact bthen (bl1 _ _) hbU4); have hBU4 := bthen hBU3 hCU4; (try with_reducible have gU4 := (noc_new wU3 28).below hbU4); replace hintU1 := hintU1.below hCU4; (try replace gU1 := gU1.below hCU4); replace hintU2 := hintU2.below hCU4; (try replace gU2 := gU2.below hCU4); replace hintU3 := hintU3.below hCU4; (try replace gU3 := gU3.below hCU4); have hlU4 := hBU4.size; (try have mU1 := gU1.lt); (try have eU1 := Nat.ne_of_lt mU1); (try have eU1' := Nat.ne_of_gt mU1); (try obtain ⟨zU10, zU11, zU12, zU13, zU14, zU15⟩ := gU1); (try have mU2 := gU2.lt); (try have eU2 := Nat.ne_of_lt mU2); (try have eU2' := Nat.ne_of_gt mU2); (try obtain ⟨zU20, zU21, zU22, zU23, zU24, zU25⟩ := gU2); (try have mU3 := gU3.lt); (try have eU3 := Nat.ne_of_lt mU3); (try have eU3' := Nat.ne_of_gt mU3); (try obtain ⟨zU30, zU31, zU32, zU33, zU34, zU35⟩ := gU3); (try have mU4 := gU4.lt); (try have eU4 := Nat.ne_of_lt mU4); (try have eU4' := Nat.ne_of_gt mU4); (try obtain ⟨zU40, zU41, zU42, zU43, zU44, zU45⟩ := gU4))
        | (go_at_call 95; have hq := hBU2; refine (up_one _ _ _ _ 8 (q * q) _ (hintU2.below (by first | with_reducible exact Below.refl _ _ | with_reducible exact bl1 _ _)) (by omega)).mono ?_; rintro r wU3 ⟨negU3, aU3, nU3, cU3, rfl, hintU3, hbU3⟩; have hCU3 : Below wU2.heap.size wU2 wU3 := (by first | with_reducible exact hbU3 | with_reducible exact bthen (bl1 _ _) hbU3); have hBU3 := bthen hBU2 hCU3; (try with_reducible have gU3 := (noc_new wU2 28).below hbU3); replace hintU1 := hintU1.below hCU3; (try replace gU1 := gU1.below hCU3); replace hintU2 := hintU2.below hCU3; (try replace gU2 := gU2.below hCU3); have hlU3 := hBU3.size)
        | (go_at_call 66; have hq := hBU1; refine (mul_int _ _ _ _ _ _ _ _ 4 4 q q _ ((unhide HY).below (by first | with_reducible exact hBU1 | with_reducible exact balloc hBU1 _)) ((unhide HY).below (by first | with_reducible exact hBU1 | with_reducible exact balloc hBU1 _)) (by omega) (by omega)).mono ?_; rintro r wU2 ⟨negU2, aU2, nU2, cU2, rfl, hintU2, hbU2⟩; have hCU2 : Below wU1.heap.size wU1 wU2 := (by first | with_reducible exact hbU2 | with_reducible exact bthen (bl1 _ _) hbU2); have hBU2 := bthen hBU1 hCU2; (try with_reducible have gU2 := (noc_new wU1 28).below hbU2); replace hintU1 := hintU1.below hCU2; (try replace gU1 := gU1.below hCU2); have hlU2 := hBU2.size)
        | (go_at_call 66; refine (mul_int _ _ _ _ _ _ _ _ 4 4 p p _ ((unhide HX).below (by first | with_reducible exact (Below.refl _ _).drew | with_reducible exact (bl1 _ _).drew)) ((unhide HX).below (by first | with_reducible exact (Below.refl _ _).drew | with_reducible exact (bl1 _ _).drew)) (by omega) (by omega)).mono ?_; rintro r wU1 ⟨negU1, aU1, nU1, cU1, rfl, hintU1, hbU1⟩; have hBU1 : Below W.heap.size W wU1 := (by first | with_reducible exact bthen (Below.refl _ _).drew hbU1 | with_reducible exact bthen (bl1 _ _).drew hbU1); (try with_reducible have gU1 := ((noc_new W 28).below (Below.refl _ _).drew).below hbU1); have hlU1 := hBU1.size))
    all_goals
      have hfinU : SpAt wU4 vU4 3000 (((s, e) : Int × Int)).1 (((s, e) : Int × Int)).2 := hintU4
      go_wp2_with fail
      go_meet
      refine ⟨_, vU4, rfl, ?_, ⟨⟨?_, ?_, ?_, ?_, ?_⟩, ?_⟩, ?_, unhide HVBU4, ?_⟩
      · first | exact Nat.le_refl _ | exact hlU1 | exact hlU2 | exact hlU3 | exact hlU4
      · simp [go_sem, *]
      · simp [go_sem, *]
      · simp [go_sem, *]
      · simp [go_sem, *]
      · simp [go_sem, *]
      · intro o; simp [go_sem, *]
      · first | with_reducible exact SpAt.put5 hfinU zU40 zU41 zU42 zU43 zU44 _ _ _ _ _ | with_reducible exact SpAt.put5 hfinU zU30 zU31 zU32 zU33 zU34 _ _ _ _ _ | with_reducible exact SpAt.put5 hfinU zU20 zU21 zU22 zU23 zU24 _ _ _ _ _ | with_reducible exact SpAt.put5 hfinU zU10 zU11 zU12 zU13 zU14 _ _ _ _ _ | with_reducible exact hfinU.below (bl1 _ _)
      · repeat' (first | with_reducible exact hBU4 | with_reducible exact hBU3 | with_reducible exact hBU2 | with_reducible exact hBU1 | with_reducible exact Below.refl _ _ | with_reducible refine Below.drew ?_ | with_reducible refine balloc ?_ _ | with_reducible refine Below.setCell ?_ (by first | exact Nat.le_refl _ | exact hlU1 | exact hlU2 | exact hlU3 | exact hlU4) _)
  case rest =>
  obtain ⟨BU, xU, rfl, hHU, XU, hpU, hxbU, hblU⟩ := hcut
  have hp := unhide HP
  have cp : ¬ 0 < cmpInt p 0 := cmp_le (by omega)
  have lR := R.lt
  replace R := R.below hblU
  replace HX := hide ((unhide HX).below hblU)
  replace hBW := bthen hBW hblU
  obtain ⟨x0, x1, x2, x3⟩ := unhide HK _ hblU
  have nRU : w.heap.size + 1 + 1 < BU := by omega
  have lR2 := R.lt
  have lX2 : w.heap.size < wc.heap.size := by omega
  have HXB := hide hxbU
  have HHU := hide hpU
  clear hxbU hpU HK hblU
  go_wp2_with fail
  refine (sign_int _ _ _ _ 4 p _ (unhide HX)).mono ?_
  rintro r w1 ⟨rfl, hb1⟩
  replace R := R.below hb1
  replace XU := XU.below hb1
  replace HHU := hide ((unhide HHU).below hb1)
  replace hBW := bthen hBW hb1
  clear hb1 x0 x1 x2 x3 HX
  have lU := XU.lt
  have lR3 := R.lt
  obtain ⟨⟨y0, y1, y2, y3, y4⟩, y5⟩ := XU
  have HT := HXB
  have R3 := R
  have B3 := hBW
  clear R hBW
  go_wp2_with fail
  refine (rest_iv _ xU 3000 b (s, e) (unhide HHU) (unhide HT) (by omega) (by omega) (by omega)).mono ?_
  rintro r w4 ⟨v, rfl, hvb, hvp, hb4⟩
  replace R3 := R3.below hb4
  replace B3 := bthen B3 hb4
  have HV := hide hvb
  clear hvb hb4
  go_wp2_with fail
  refine (over_iv _ v 3001 b 2 _ hvp (by omega) (unhide HV) (by omega) (by omega)).mono ?_
  rintro r w5 ⟨o, rfl, hob, hop, hb5⟩
  obtain ⟨q0, q1, q2, q3, q4, q5⟩ := R3.below hb5
  replace B3 := bthen B3 hb5
  have HO := hide hob
  clear hob
  go_wp2_with fail
  refine bodyPost_ret (v := .agg #[.bool o.ln, .slice o.la o.lN o.lc, .bool o.hn, .slice o.ha o.hN o.hc, .int .i64 o.bits]) (by simp [results, Tryz.results42, go_sem, q0, q1, q2, q3, q4]) rfl ⟨o, rfl, unhide HO, ?_, ?_⟩
  · exact SpAt.put5 (hop.mono (by omega)) q0 q1 q2 q3 q4 _ _ _ _ _
  · exact set5 B3 (by omega) _ _ _ _ _

theorem wnor_iv (w : World) (x y : Nm) (p q : Int) (b : Nat) (s e : Int) (hx : IntAt w x.neg x.a x.n x.cap 4 p) (hy : IntAt w y.neg y.a y.n y.cap 4 q) (hr : rok p q) (hb40 : 40 ≤ b) (hb : b ≤ 10000) (hE : ErfN (p * p) (q * q * 2) b s e) :
    Calls Tryz.prog 42 #[.agg #[.bool x.neg, .slice x.a x.n x.cap], .agg #[.bool y.neg, .slice y.a y.n y.cap], .int .i64 b] w (SpanAns w b 3020 (norI b p (s, e)).1 (norI b p (s, e)).2) := by
  unfold norI oppP
  by_cases hp : 0 < p
  · rw [if_pos hp]; exact wnor_pos w x y p q b s e hx hy hr hb40 hb hp hE
  · rw [if_neg hp]; exact wnor_neg w x y p q b s e hx hy hr hb40 hb hp hE

set_option maxRecDepth 100000 in
set_option maxHeartbeats 2000000 in
theorem nor1_iv (w : World) (B0 : Nat) (p q : Int) (b : Nat) (s e : Int) (hr : rok p q) (hB0 : RaC w B0 p q) (hb40 : 40 ≤ b) (hb : b ≤ 10000) (hE : ErfN (p * p) (q * q * 2) b s e) :
    Calls Tryz.prog 41 #[.int .i64 b, .pointer (some ⟨B0, 0, none⟩)] w (SpanAns w b 3020 (norI b p (s, e)).1 (norI b p (s, e)).2) := by
  obtain ⟨W, hW⟩ : ∃ W, W = w.alloc (.cells #[.bool false, .slice none 0 0, .bool false, .slice none 0 0, .int .i64 0] 28) := ⟨_, rfl⟩
  have hBW : Below w.heap.size w W := by rw [hW]; exact bl1 _ _
  have R : NoC W w.heap.size := by rw [hW]; exact noc_new w _
  have l0 := hB0.lt
  have A := hB0.below hBW
  have lR := R.lt
  have lA := A.lt
  obtain ⟨r1, r2, r3, r4⟩ := hr
  have HR := hide (show rok p q from ⟨r1, r2, r3, r4⟩)
  have HE := hide hE
  have HK := hide (show ∀ w', Below W.heap.size W w' → (w'.cell? ⟨B0, 0, none⟩ = some (.int .i64 p) ∧ w'.cell? ⟨B0, 1, none⟩ = some (.int .i64 q)) from fun w' hB => ⟨(A.below hB).c0, (A.below hB).c1⟩)
  have hD0 : Below W.heap.size W W.drew := (Below.refl _ _).drew
  have nB : w.heap.size ≠ B0 := by omega
  clear hE hB0 A
  go_enter Tryz.func41, Tryz.ntmps41
  go_wp2
  rw [← hW]
  clear hW
  obtain ⟨x0, x1⟩ := unhide HK _ (Below.refl _ _)
  go_region_held3 (fun w' => w'.cell? ⟨B0, 0, none⟩ = some (.int .i64 p) ∧ w'.cell? ⟨B0, 1, none⟩ = some (.int .i64 q)) (first | exact unhide HK _ (by first | with_reducible exact hD0 | with_reducible exact hD3 | with_reducible exact hD2 | with_reducible exact hD1) | go_keep)
    (first
      | (go_at_call 42; have hq := hD2; refine (wnor_iv _ ⟨neg1, a1, n1, c1⟩ ⟨neg2, a2, n2, c2⟩ p q b s e (hint1.below hb2) hint2 (unhide HR) hb40 hb (unhide HE)).mono ?_; rintro r w3 ⟨t, rfl, htb, htp, hb3⟩; have HT := hide htb; clear htb; have hD3 := bthen hD2 hb3; obtain ⟨q0, q1, q2, q3, q4, q5⟩ := R.below hD3; obtain ⟨i0, i1⟩ := unhide HK _ hD3)
      | (go_at_call 43; have hq := hD1; refine (numOf_int q _ (by omega) (by omega)).mono ?_; rintro r w2 ⟨neg2, a2, n2, c2, rfl, hint2, hb2⟩; have hD2 := bthen hD1 hb2)
      | (go_at_call 43; refine (numOf_int p _ (by omega) (by omega)).mono ?_; rintro r w1 ⟨neg1, a1, n1, c1, rfl, hint1, hb1⟩; have hD1 := bthen hD0 hb1))
  all_goals
    go_wp2_with fail
    refine bodyPost_ret (v := .agg #[.bool t.ln, .slice t.la t.lN t.lc, .bool t.hn, .slice t.ha t.hN t.hc, .int .i64 t.bits]) (by simp [results, Tryz.results41, go_sem, q0, q1, q2, q3, q4]) rfl ⟨t, rfl, unhide HT, ?_, ?_⟩
    · exact SpAt.put5 htp q0 q1 q2 q3 q4 _ _ _ _ _
    · exact set5 (bthen hBW hD3) (by omega) _ _ _ _ _
end Go.Proofs.YtgmnknmjainababGreat

namespace Go.Proofs.YtgmnknmjainababGreat
set_option linter.unusedVariables false
set_option linter.unusedSimpArgs false
set_option linter.unnecessarySimpa false
open Go.RowKit
attribute [local go_sem ↓] Go.wp_at_zero Go.wp_at_succ
open Ex

set_option maxRecDepth 100000 in
set_option maxHeartbeats 4000000 in
theorem sure_nor (p1 : Value) (bits Kw KD : Nat) (Pr : Nat → Int → Int → Prop) (W : World) (hb : bits ≤ 120) (hKw : Kw ≤ 900000) (hKD : KD ≤ 100000000) (hE : SureEnds bits Kw Pr)
    (hF : ∀ (m : Nat) w', 32 ≤ m → m ≤ Kw + 120 → Below W.heap.size W w' → Calls Tryz.prog 41 #[.int .i64 ((bits : Int) + m), p1] w' (fun r w'' => ∃ lo hi, Pr (bits + m) lo hi ∧ SpanAns w' ((bits : Int) + m) KD lo hi r w'')) :
    Calls Tryz.prog 74 #[.int .i64 bits, .func (.func 41) #[] #[p1]] W (fun r w' => ∃ L H, SureOf bits Pr L H ∧ SpanAns W bits 250 L H r w') := by
  have HF := hide hF
  have HE := hide hE
  clear hF hE
  have hR0 := noc_new W 28
  go_enter Tryz.func74, Tryz.ntmps74
  go_wp2_with fail
  go_loopw [5, 6] (fun mm tt wr => ∃ m t : Nat, mm = .int .i64 (m : Int) ∧ tt = .int .i64 (t : Int) ∧ SureInv Kw m t ∧ NoC wr W.heap.size ∧ Below W.heap.size W wr) (fun mm _ _ => Kw + 200 - (intOf mm).toNat)
  case atStart => exact ⟨32, 1, rfl, rfl, ⟨Nat.le_refl _, Nat.le_refl _, by omega, Or.inl ⟨by omega, by omega⟩⟩, hR0, bl1 _ _⟩
  case round =>
    obtain ⟨m, t, rfl, rfl, hinv, R, hB⟩ := hrel
    obtain ⟨hm, ht, htm, hmt⟩ := hinv
    have hmK : m ≤ Kw + 120 := by omega
    have HI := hide hmt
    clear hmt
    go_wp2_with fail
    refine (unhide HF m _ hm hmK hB).mono ?_
    rintro r w1 ⟨lo, hi, hPr, s, rfl, hsb, hsp, hb1⟩
    replace R := R.below hb1
    replace hB := bthen hB hb1
    clear hb1
    obtain ⟨e1, e2, e3, e4⟩ := unhide HE m lo hi hPr
    obtain ⟨v1, v2, v3⟩ := to_width (m := m) e1 e2
    obtain ⟨f1, f2⟩ := to_fit e3 e4
    have HPr := hide hPr
    have HV := hide (And.intro v2 v3)
    have hs0 : 0 ≤ s.bits := by omega
    have hs1 : s.bits ≤ 1000000 := by omega
    have d1 : downZ lo (s.bits - bits) = lo / Q m := by unfold downZ; rw [hsb, if_pos (by omega)]; congr 2; omega
    have d2 : downZ (-hi) (s.bits - bits) = -hi / Q m := by unfold downZ; rw [hsb, if_pos (by omega)]; congr 2; omega
    have HD1 := hide d1
    have HD2 := hide d2
    clear hPr e1 e2 e3 e4 v2 v3 d1 d2 hsb
    go_wp2_with fail
    refine (wideTo_int _ s KD bits lo hi hsp (by omega) hs0 hs1 (by omega) (by omega)).mono ?_
    rintro r w2 ⟨u, rfl, hub, hup, hb2⟩
    rw [unhide HD1, unhide HD2] at hup
    obtain ⟨L, hL⟩ : ∃ L, L = lo / Q m := ⟨_, rfl⟩
    obtain ⟨H, hH⟩ : ∃ H, H = -(-hi / Q m) := ⟨_, rfl⟩
    rw [← hL, ← hH] at hup v1
    rw [← hL] at f1
    rw [← hH] at f2
    have HV2 := hide (show (Kw ≤ m → H - L ≤ 2) ∧ (m ≤ Kw → H - L ≤ Q (Kw - m) + 1) by rw [hL, hH]; exact unhide HV)
    have HL := hide hL
    have HH := hide hH
    replace hup := hup.fits (K := 250) (by omega) f1 f2
    replace R := R.below hb2
    replace hB := bthen hB hb2
    have HUB := hide hub
    clear hb2 hL hH hub hs0 hs1 HD1 HD2 HV hsp
    have lR := R.lt
    obtain ⟨V, hV⟩ : ∃ V, V = w2.alloc (.cells #[.bool u.ln, .slice u.la u.lN u.lc, .bool u.hn, .slice u.ha u.hN u.hc, .int .i64 u.bits] 28) := ⟨_, rfl⟩
    have bV : Below w2.heap.size w2 V := by rw [hV]; exact bl1 _ _
    have U : SpC V w2.heap.size u := by rw [hV]; exact ⟨by simp, by simp, by simp, by simp, by simp⟩
    replace R := R.below bV
    replace hB := bthen hB bV
    replace hup := hup.below bV
    clear bV
    go_wp2_with fail
    rw [← hV]
    clear hV
    refine (sub_int _ _ _ _ _ _ _ _ 250 250 H L _ hup.hi hup.lo (by omega) (by omega)).mono ?_
    rintro r w3 ⟨neg3, a3, n3, c3, rfl, hint3, hb3⟩
    replace U := U.below hb3
    replace R := R.below hb3
    replace hB := bthen hB hb3
    replace hup := hup.below hb3
    clear hb3
    go_wp2_with fail
    refine (len_int _ _ _ _ _ (H - L) _ hint3 v1).mono ?_
    rintro r w4 ⟨l, hlen, rfl, hb4⟩
    replace U := U.below hb4
    replace R := R.below hb4
    replace hB := bthen hB hb4
    replace hup := hup.below hb4
    clear hb4 hint3
    have hlb : 0 ≤ l ∧ l ≤ Kw + 2 ∧ (m ≤ Kw → l ≤ Kw - m + 2) ∧ (Kw ≤ m → l ≤ 2) := by
      obtain ⟨g1, g2⟩ := unhide HV2
      refine ⟨hlen.1, ?_, fun h => ?_, fun h => ?_⟩
      · rcases Nat.le_total m Kw with h | h
        · have := len_bd (K := Kw - m) hlen (g2 h) v1; omega
        · have := len_two hlen (g1 h) v1; omega
      · have := len_bd (K := Kw - m) hlen (g2 h) v1; omega
      · exact len_two hlen (g1 h) v1
    obtain ⟨hl0, hl1, hl2, hl3⟩ := hlb
    have HL2 := hide (And.intro hl2 hl3)
    have HLen := hide hlen
    clear hl2 hl3 hlen
    have lU := U.lt
    have lR2 := R.lt
    have nRU : W.heap.size ≠ w2.heap.size := by omega
    have nRU' : w2.heap.size ≠ W.heap.size := by omega
    have HU := hide U
    obtain ⟨x0, x1, x2, x3, x4⟩ := U
    by_cases hc : l ≤ 1
    · have hN := R
      obtain ⟨q0, q1, q2, q3, q4, q5⟩ := R
      have Hc := hide hc
      go_wp2_with fail
      refine bodyPost_ret (v := .agg #[.bool u.ln, .slice u.la u.lN u.lc, .bool u.hn, .slice u.ha u.hN u.hc, .int .i64 u.bits]) (by simp [results, Tryz.results74, go_sem, q0, q1, q2, q3, q4]) rfl ⟨L, H, ⟨m, lo, hi, unhide HPr, hm, unhide HL, unhide HH, Or.inl (len_one (unhide HLen) (unhide Hc) v1)⟩, u, rfl, unhide HUB, ?_, ?_⟩
      · exact SpAt.put5 hup q0 q1 q2 q3 q4 _ _ _ _ _
      · exact set5 hB (Nat.le_refl _) _ _ _ _ _
    · by_cases ht3 : 3 ≤ t
      · have ht3' : (3 : Int) ≤ (t : Int) := by omega
        cases hn : narB L H (Q bits) 4
        · have hmK2 : m < Kw := by
            refine Nat.lt_of_not_le fun h => ?_
            have h5 := (unhide HV2).1 h
            rw [narB_small (by omega) (by omega)] at hn
            cases hn
          go_wp2_with fail
          refine (narrow_int _ u bits 4 L H hup (unhide HUB) hb (by omega)).mono ?_
          rintro r w5 ⟨rfl, hb5⟩
          rw [show narB L H (Q bits) ((4 : Nat) : Int) = false from hn]
          replace R := R.below hb5
          replace hB := bthen hB hb5
          go_wp2_with fail
          go_roundw
          case rel => exact ⟨m + l.toNat + 32, t + 1, by congr 1; omega, by congr 1, ⟨by omega, by omega, by omega, Or.inr (by have := (unhide HL2).1; omega)⟩, R, hB⟩
          case measure => simp [intOf]; omega
        · go_wp2_with fail
          refine (narrow_int _ u bits 4 L H hup (unhide HUB) hb (by omega)).mono ?_
          rintro r w5 ⟨rfl, hb5⟩
          rw [show narB L H (Q bits) ((4 : Nat) : Int) = true from hn]
          replace R := R.below hb5
          replace hB := bthen hB hb5
          replace hup := hup.below hb5
          obtain ⟨y0, y1, y2, y3, y4⟩ := (unhide HU).below hb5
          obtain ⟨q0, q1, q2, q3, q4, q5⟩ := R
          have lU2 := Nat.lt_of_lt_of_le lU hb5.size
          have lR3 := Nat.lt_of_lt_of_le lR2 hb5.size
          clear hb5 x0 x1 x2 x3 x4
          go_wp2_with fail
          refine bodyPost_ret (v := .agg #[.bool u.ln, .slice u.la u.lN u.lc, .bool u.hn, .slice u.ha u.hN u.hc, .int .i64 u.bits]) (by simp [results, Tryz.results74, go_sem, q0, q1, q2, q3, q4]) rfl ⟨L, H, ⟨m, lo, hi, unhide HPr, hm, unhide HL, unhide HH, Or.inr hn⟩, u, rfl, unhide HUB, ?_, ?_⟩
          · exact SpAt.put5 hup q0 q1 q2 q3 q4 _ _ _ _ _
          · exact set5 hB (Nat.le_refl _) _ _ _ _ _
      · have ht3' : ¬ (3 : Int) ≤ (t : Int) := by omega
        go_wp2_with fail
        go_roundw
        case rel => exact ⟨m + l.toNat + 32, t + 1, by congr 1; omega, by congr 1, ⟨by omega, by omega, by omega, by
          have g1 := (unhide HL2).1
          have g2 := (unhide HL2).2
          have g3 := unhide HI
          rcases Nat.le_total m Kw with h | h
          · have := g1 h; exact Or.inr (by omega)
          · have := g2 h; exact Or.inl ⟨by omega, by omega⟩⟩, R, hB⟩
        case measure => simp [intOf]; omega

set_option maxRecDepth 100000 in
set_option maxHeartbeats 4000000 in
theorem sure1_nor (p1 : Value) (bits KD : Nat) (lo hi L H : Int) (W : World) (hb : bits ≤ 120) (hKD : KD ≤ 100000000) (hL : L = lo / Q 32) (hH : H = -(-hi / Q 32)) (v1 : 0 ≤ H - L) (hw : H - L ≤ 1) (f1 : -P 250 < L) (f2 : H < P 250)
    (hF : ∀ w', Below W.heap.size W w' → Calls Tryz.prog 41 #[.int .i64 ((bits : Int) + 32), p1] w' (SpanAns w' ((bits : Int) + 32) KD lo hi)) :
    Calls Tryz.prog 74 #[.int .i64 bits, .func (.func 41) #[] #[p1]] W (SpanAns W bits 250 L H) := by
  have HF := hide hF
  have HLL := hide hL
  have HHH := hide hH
  clear hF hL hH
  have hR0 := noc_new W 28
  go_enter Tryz.func74, Tryz.ntmps74
  go_wp2_with fail
  go_loopw [5, 6] (fun mm tt wr => mm = .int .i64 32 ∧ tt = .int .i64 1 ∧ NoC wr W.heap.size ∧ Below W.heap.size W wr) (fun _ _ _ => 0)
  case atStart => exact ⟨rfl, rfl, hR0, bl1 _ _⟩
  case round =>
    obtain ⟨rfl, rfl, R, hB⟩ := hrel
    go_wp2_with fail
    refine (unhide HF _ hB).mono ?_
    rintro r w1 ⟨s, rfl, hsb, hsp, hb1⟩
    replace R := R.below hb1
    replace hB := bthen hB hb1
    clear hb1
    have hs0 : 0 ≤ s.bits := by omega
    have hs1 : s.bits ≤ 1000000 := by omega
    have d1 : downZ lo (s.bits - bits) = L := by rw [unhide HLL]; unfold downZ; rw [hsb, if_pos (by omega)]; congr 2; omega
    have d2 : -downZ (-hi) (s.bits - bits) = H := by rw [unhide HHH]; unfold downZ; rw [hsb, if_pos (by omega)]; congr 3; omega
    have HD1 := hide d1
    have HD2 := hide d2
    clear d1 d2 hsb
    go_wp2_with fail
    refine (wideTo_int _ s KD bits lo hi hsp (by omega) hs0 hs1 (by omega) (by omega)).mono ?_
    rintro r w2 ⟨u, rfl, hub, hup, hb2⟩
    rw [unhide HD1, unhide HD2] at hup
    replace hup := hup.fits (K := 250) (by omega) f1 f2
    replace R := R.below hb2
    replace hB := bthen hB hb2
    have HUB := hide hub
    clear hb2 hub hs0 hs1 HD1 HD2 hsp
    have lR := R.lt
    obtain ⟨V, hV⟩ : ∃ V, V = w2.alloc (.cells #[.bool u.ln, .slice u.la u.lN u.lc, .bool u.hn, .slice u.ha u.hN u.hc, .int .i64 u.bits] 28) := ⟨_, rfl⟩
    have bV : Below w2.heap.size w2 V := by rw [hV]; exact bl1 _ _
    have U : SpC V w2.heap.size u := by rw [hV]; exact ⟨by simp, by simp, by simp, by simp, by simp⟩
    replace R := R.below bV
    replace hB := bthen hB bV
    replace hup := hup.below bV
    clear bV
    go_wp2_with fail
    rw [← hV]
    clear hV
    refine (sub_int _ _ _ _ _ _ _ _ 250 250 H L _ hup.hi hup.lo (by omega) (by omega)).mono ?_
    rintro r w3 ⟨neg3, a3, n3, c3, rfl, hint3, hb3⟩
    replace U := U.below hb3
    replace R := R.below hb3
    replace hB := bthen hB hb3
    replace hup := hup.below hb3
    clear hb3
    go_wp2_with fail
    refine (len_int _ _ _ _ _ (H - L) _ hint3 v1).mono ?_
    rintro r w4 ⟨l, hlen, rfl, hb4⟩
    replace U := U.below hb4
    replace R := R.below hb4
    replace hB := bthen hB hb4
    replace hup := hup.below hb4
    have hc : l ≤ 1 := by
      obtain ⟨g1, g2, g3⟩ := hlen
      by_cases hp : 0 < H - L
      · obtain ⟨L', e1, e2, e3⟩ := g3 hp
        have : ¬ 1 ≤ L' := fun h => by
          have := Q_mono h
          have : Q 1 = 2 := rfl
          omega
        omega
      · have := g2 (by omega); omega
    clear hb4 hint3 hlen
    have lU := U.lt
    have lR2 := R.lt
    have nRU : W.heap.size ≠ w2.heap.size := by omega
    have nRU' : w2.heap.size ≠ W.heap.size := by omega
    obtain ⟨x0, x1, x2, x3, x4⟩ := U
    obtain ⟨q0, q1, q2, q3, q4, q5⟩ := R
    go_wp2_with fail
    refine bodyPost_ret (v := .agg #[.bool u.ln, .slice u.la u.lN u.lc, .bool u.hn, .slice u.ha u.hN u.hc, .int .i64 u.bits]) (by simp [results, Tryz.results74, go_sem, q0, q1, q2, q3, q4]) rfl ⟨u, rfl, unhide HUB, ?_, ?_⟩
    · exact SpAt.put5 hup q0 q1 q2 q3 q4 _ _ _ _ _
    · exact set5 hB (Nat.le_refl _) _ _ _ _ _

set_option maxRecDepth 100000 in
set_option maxHeartbeats 2000000 in
theorem sured_nor (R R2 : Nat → Rat) (hR : RootS piS R) (h2 : RootS (fun _ => (2 : Rat)) R2) (p q : Int) (b : Nat) (B0 : Nat) (w : World) (hr : rok p q) (h5 : 8 ≤ b) (h6 : b ≤ 120) (A : RaC w B0 p q) :
    Calls Tryz.prog 74 #[.int .i64 b, .func (.func 41) #[] #[.pointer (some ⟨B0, 0, none⟩)]] w (fun r w' => ∃ L H, NoV (nrV (erfG R (nrY p q) (nrR R2 p q)) p) b L H ∧ SpanAns w b 250 L H r w') := by
  have q1 := hr.2.2.1
  have qq : 0 < q * q := Int.mul_pos (by omega) (by omega)
  by_cases hn : p * p < q * q * 2 * ((b : Int) + 32)
  · have h152 : p * p < 152 * (q * q * 2) := by
      have := Int.mul_le_mul_of_nonneg_left (show (b : Int) + 32 ≤ 152 by omega) (show 0 ≤ q * q * 2 by omega)
      have e : q * q * 2 * 152 = 152 * (q * q * 2) := by grind
      omega
    refine (sure_nor _ b 4500 3020 (NoPr (erfG R (nrY p q) (nrR R2 p q)) p) w h6 (by omega) (by omega) (no_ends _ p h6) (fun m w' hm hm2 hbw => ?_)).mono fun r w' ⟨L, H, h1, h2⟩ => ⟨L, H, sure_no h1, h2⟩
    have hlt : p * p < q * q * 2 * ((b + m : Nat) : Int) := by
      have := Int.mul_le_mul_of_nonneg_left (show (b : Int) + 32 ≤ ((b + m : Nat) : Int) by omega) (show 0 ≤ q * q * 2 by omega)
      omega
    obtain ⟨s, e, c1, c2⟩ := nor_near hR h2 hr h152 (show 40 ≤ b + m by omega) (show b + m ≤ 10000 by omega) hlt
    have eB : ((b : Int) + (m : Int)) = ((b + m : Nat) : Int) := by omega
    rw [eB]
    exact (nor1_iv w' B0 p q (b + m) s e hr (A.below hbw) (by omega) (by omega) c1).mono fun r w'' h => ⟨_, _, ⟨s, e, c2, rfl, rfl⟩, h⟩
  · have hf : q * q * 2 * ((b : Int) + 32) ≤ p * p := by omega
    have hf2 : q * q * 2 * ((b + 32 : Nat) : Int) ≤ p * p := by
      have e : ((b + 32 : Nat) : Int) = (b : Int) + 32 := by omega
      rw [e]; omega
    have c1 := nor_farN (show 40 ≤ b + 32 by omega) (show b + 32 ≤ 10000 by omega) hf2
    obtain ⟨e1, e2⟩ := far_no p b
    have vv := far_noV hR h2 (p := p) (show 0 < q by omega) hf
    have pb := P250_big h6
    have qb := Q_pos b
    have g : (farN p b).2 - (farN p b).1 = 1 := by
      unfold farN
      by_cases hp : 0 < p
      · rw [if_pos hp]; simp only []; omega
      · rw [if_neg hp]; simp only []; omega
    have g1 := vv.lo
    have g2 := vv.hi
    refine (sure1_nor _ b 3020 _ _ _ _ w h6 (by omega) e1 e2 (by omega) (by omega) (by omega) (by omega) (fun w' hbw => ?_)).mono fun r w' h => ⟨_, _, vv, h⟩
    have eB : ((b : Int) + 32) = ((b + 32 : Nat) : Int) := by omega
    rw [eB]
    exact nor1_iv w' B0 p q (b + 32) _ _ hr (A.below hbw) (by omega) (by omega) c1

set_option maxRecDepth 100000 in
set_option maxHeartbeats 2000000 in
theorem made_nor_ok (R R2 : Nat → Rat) (hR : RootS piS R) (h2 : RootS (fun _ => (2 : Rat)) R2) (p q : Int) (b : Nat) (B0 : Nat) (w : World) (hr : rok p q) (h5 : 8 ≤ b) (h6 : b ≤ 120) (A0 : RaC w B0 p q) :
    Calls Tryz.prog 40 #[.agg #[.int .i64 p, .int .i64 q], .int .i64 b, .func (.func 41) #[] #[.pointer (some ⟨B0, 0, none⟩)]] w (fun r w' => ∃ L H, NoV (nrV (erfG R (nrY p q) (nrR R2 p q)) p) b L H ∧ PairAns w b 250 L H 0 r w') := by
  have d1 : ratE p q b = 0 := by unfold ratE; rw [if_pos]; exact ⟨hr, by omega, by omega⟩
  have HR := hide hr
  have HA := hide A0
  clear hr A0
  go_enter Tryz.func40, Tryz.ntmps40
  go_wp2_with (go_at_call 93; refine (ratioFault1 _ _ _ (by simp) _ _ _ _).mono ?_; rintro r w1 ⟨rfl, hb1⟩; rw [d1]; obtain ⟨hsz1, hcell1, hfz1⟩ := near (w.heap.size + 1 + 1) (by simp) hb1)
  have R' : NoC w1 (w.heap.size + 1) := ⟨by simp [hcell1, go_sem], by simp [hcell1, go_sem], by simp [hcell1, go_sem], by simp [hcell1, go_sem], by simp [hcell1, go_sem], fun o => by simp [hfz1, go_sem]⟩
  have hBw : Below w.heap.size w w1 := bthen (bl2 _ _ _) hb1
  clear hcell1 hfz1 hb1
  have lR := R'.lt
  refine (sured_nor R R2 hR h2 p q b B0 _ (unhide HR) h5 h6 ((unhide HA).below hBw)).mono ?_
  rintro r' w3 ⟨L, H, hLH, u, rfl, hub, hup, hb3⟩
  obtain ⟨q0, q1, q2, q3, q4, q5⟩ := R'.below hb3
  replace hBw := bthen hBw hb3
  have HU := hide hub
  have HLH := hide hLH
  clear hub hLH
  go_wp2_with fail
  refine bodyPost_ret (v := .tuple #[.agg #[.bool u.ln, .slice u.la u.lN u.lc, .bool u.hn, .slice u.ha u.hN u.hc, .int .i64 u.bits], .int .i64 0]) (by simp [results, Tryz.results40, go_sem, q0, q1, q2, q3, q4]) rfl ⟨L, H, unhide HLH, u, rfl, unhide HU, ?_, ?_⟩
  · exact SpAt.put5 hup q0 q1 q2 q3 q4 _ _ _ _ _
  · exact set5 hBw (Nat.le_succ _) _ _ _ _ _

set_option maxRecDepth 100000 in
set_option maxHeartbeats 2000000 in
theorem made_nor_bad (p q b : Int) (B0 : Nat) (w : World) (h : ¬ (rok p q ∧ 8 ≤ b ∧ b ≤ 120)) :
    Calls Tryz.prog 40 #[.agg #[.int .i64 p, .int .i64 q], .int .i64 b, .func (.func 41) #[] #[.pointer (some ⟨B0, 0, none⟩)]] w (PairAns w 0 250 0 0 3) := by
  have d1 : ratE p q b = 3 := by unfold ratE; rw [if_neg h]
  clear h
  go_enter Tryz.func40, Tryz.ntmps40
  go_wp2_with (go_at_call 93; refine (ratioFault1 _ _ _ (by simp) _ _ _ _).mono ?_; rintro r w1 ⟨rfl, hb1⟩; rw [d1]; obtain ⟨hsz1, hcell1, hfz1⟩ := near (w.heap.size + 1 + 1) (by simp) hb1)
  refine bodyPost_ret (v := .tuple #[.agg #[.bool false, .slice none 0 0, .bool false, .slice none 0 0, .int .i64 0], .int .i64 3]) (by simp [results, Tryz.results40, go_sem, hcell1]) rfl ⟨⟨false, none, 0, 0, false, none, 0, 0, 0⟩, rfl, rfl, zeroSp _ _, ?_⟩
  exact set5 (bthen (bl2 _ _ _) hb1) (Nat.le_succ _) _ _ _ _ _

set_option maxRecDepth 100000 in
set_option maxHeartbeats 2000000 in
theorem cnor_ok (R R2 : Nat → Rat) (hR : RootS piS R) (h2 : RootS (fun _ => (2 : Rat)) R2) (p q : Int) (b : Nat) (w : World) (hr : rok p q) (h5 : 8 ≤ b) (h6 : b ≤ 120) :
    Calls Tryz.prog 9 #[.agg #[.int .i64 p, .int .i64 q], .int .i64 b] w (fun r w' => ∃ L H, NoV (nrV (erfG R (nrY p q) (nrR R2 p q)) p) b L H ∧ PairAns w b 250 L H 0 r w') := by
  obtain ⟨W, hW⟩ : ∃ W, W = (w.alloc (.cells #[.int .i64 p, .int .i64 q] 23)).alloc (.cells #[.bool false, .slice none 0 0, .bool false, .slice none 0 0, .int .i64 0] 28) := ⟨_, rfl⟩
  have hBW : Below w.heap.size w W := by rw [hW]; exact bl2 _ _ _
  have A : RaC W w.heap.size p q := by rw [hW]; exact ⟨by simp [go_sem], by simp [go_sem]⟩
  have R' : NoC W (w.heap.size + 1) := by rw [hW]; exact ⟨by simp [go_sem], by simp [go_sem], by simp [go_sem], by simp [go_sem], by simp [go_sem], fun o => by simp [go_sem]⟩
  have HR := hide hr
  clear hr
  go_enter Tryz.func9, Tryz.ntmps9
  go_wp2_with fail
  rw [← hW]
  clear hW
  refine (made_nor_ok R R2 hR h2 p q b w.heap.size _ (unhide HR) h5 h6 A).mono ?_
  rintro r' w3 ⟨L, H, hLH, u, rfl, hub, hup, hb3⟩
  obtain ⟨q0, q1, q2, q3, q4, q5⟩ := R'.below hb3
  have lR := (R'.below hb3).lt
  replace hBW := bthen hBW hb3
  have HU := hide hub
  have HLH := hide hLH
  clear hub hLH
  go_wp2_with fail
  refine bodyPost_ret (v := .tuple #[.agg #[.bool u.ln, .slice u.la u.lN u.lc, .bool u.hn, .slice u.ha u.hN u.hc, .int .i64 u.bits], .int .i64 0]) (by simp [results, Tryz.results9, go_sem, q0, q1, q2, q3, q4]) rfl ⟨L, H, unhide HLH, u, rfl, unhide HU, ?_, ?_⟩
  · exact SpAt.put5 hup q0 q1 q2 q3 q4 _ _ _ _ _
  · exact set5 hBW (Nat.le_succ _) _ _ _ _ _

set_option maxRecDepth 100000 in
set_option maxHeartbeats 2000000 in
theorem cnor_bad (p q b : Int) (w : World) (h : ¬ (rok p q ∧ 8 ≤ b ∧ b ≤ 120)) :
    Calls Tryz.prog 9 #[.agg #[.int .i64 p, .int .i64 q], .int .i64 b] w (PairAns w 0 250 0 0 3) := by
  obtain ⟨W, hW⟩ : ∃ W, W = (w.alloc (.cells #[.int .i64 p, .int .i64 q] 23)).alloc (.cells #[.bool false, .slice none 0 0, .bool false, .slice none 0 0, .int .i64 0] 28) := ⟨_, rfl⟩
  have hBW : Below w.heap.size w W := by rw [hW]; exact bl2 _ _ _
  have A : RaC W w.heap.size p q := by rw [hW]; exact ⟨by simp [go_sem], by simp [go_sem]⟩
  have R' : NoC W (w.heap.size + 1) := by rw [hW]; exact ⟨by simp [go_sem], by simp [go_sem], by simp [go_sem], by simp [go_sem], by simp [go_sem], fun o => by simp [go_sem]⟩
  have HR := hide h
  clear h
  go_enter Tryz.func9, Tryz.ntmps9
  go_wp2_with fail
  rw [← hW]
  clear hW
  refine (made_nor_bad p q b w.heap.size _ (unhide HR)).mono ?_
  rintro r' w3 ⟨u, rfl, hub, hup, hb3⟩
  obtain ⟨q0, q1, q2, q3, q4, q5⟩ := R'.below hb3
  have lR := (R'.below hb3).lt
  replace hBW := bthen hBW hb3
  have HU := hide hub
  clear hub
  go_wp2_with fail
  refine bodyPost_ret (v := .tuple #[.agg #[.bool u.ln, .slice u.la u.lN u.lc, .bool u.hn, .slice u.ha u.hN u.hc, .int .i64 u.bits], .int .i64 3]) (by simp [results, Tryz.results9, go_sem, q0, q1, q2, q3, q4]) rfl ⟨u, rfl, unhide HU, ?_, ?_⟩
  · exact SpAt.put5 hup q0 q1 q2 q3 q4 _ _ _ _ _
  · exact set5 hBW (Nat.le_succ _) _ _ _ _ _
end Go.Proofs.YtgmnknmjainababGreat
