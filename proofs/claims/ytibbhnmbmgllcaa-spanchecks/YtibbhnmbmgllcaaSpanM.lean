/-
  What span.Add answers of two small right spans, and that tailsurelaw.spanBegun answers true, and that they leave old memory alone.
-/
import Derived.Test.YtibbhnmbmgllcaaSpanL
namespace Go.Proofs.Ytibbhnmbmgllcaa
set_option linter.unusedVariables false
set_option linter.unusedSimpArgs false
set_option linter.unnecessarySimpa false
open Go.RowKit
attribute [local go_sem ↓] Go.wp_at_zero Go.wp_at_succ

set_option maxRecDepth 100000 in
set_option maxHeartbeats 2000000 in
theorem spanAdd_ok (w : World) (s t : Sp) (d e d' e' : Nat → Int) (k : Nat) (lo hi lo' hi' : Int) (hs : SpDig w s d e) (ht : SpDig w t d' e') (c1 : chkE s d e = 0) (c2 : chkE t d' e' = 0) (hbt : s.bits = t.bits) (ps : SpAt w s k lo hi) (pt : SpAt w t k lo' hi')
    (hk : k ≤ 249) (l1 : lo ≤ hi) (l2 : lo' ≤ hi') (b1 : 1 ≤ s.bits) (b2 : s.bits ≤ 120) :
    Calls Try.prog 27 #[.agg #[.bool s.ln, .slice s.la s.lN s.lc, .bool s.hn, .slice s.ha s.hN s.hc, .int .i64 s.bits], .agg #[.bool t.ln, .slice t.la t.lN t.lc, .bool t.hn, .slice t.ha t.hN t.hc, .int .i64 t.bits]] w (PairAns w s.bits (k + 1) (lo + lo') (hi + hi') 0) := by
  have HM := hide (fun p1 p2 B W cap hS hF => made_ok_Add p1 p2 B W (pr s t) (pr d d') (pr e e') 2 cap (by omega) hS (fun z hz => by
    have e1 : (fun j => chkE (pr s t j) (pr d d' j) (pr e e' j)) = (fun j => pr (chkE s d e) (chkE t d' e') j) := by
      funext j; unfold pr; split <;> rfl
    have e2 : (fun j => (pr s t j).bits) = (fun j => pr s.bits t.bits j) := by
      funext j; unfold pr; split <;> rfl
    rw [e1, e2] at hz
    rw [flt2 hz]; simp [fltE2, c1, c2, hbt]) s.bits (k + 1) (lo + lo') (hi + hi') hF (by omega) (by omega) b1 b2)
  have HS := hide (fun W hS hT => spans2 W s t d e d' e' 26 hS hT)
  clear c1 c2 hbt b1 b2 l1 l2
  go_enter Try.func27, Try.ntmps27
  go_wp2_with fail
  obtain ⟨W, hW⟩ : ∃ W, W = ((w.alloc (.cells #[.bool s.ln, .slice s.la s.lN s.lc, .bool s.hn, .slice s.ha s.hN s.hc, .int .i64 s.bits] 26)).alloc (.cells #[.bool t.ln, .slice t.la t.lN t.lc, .bool t.hn, .slice t.ha t.hN t.hc, .int .i64 t.bits] 26)).alloc (.cells #[.bool false, .slice none 0 0, .bool false, .slice none 0 0, .int .i64 0] 26) := ⟨_, rfl⟩
  have s3 : W.heap.size = w.heap.size + 1 + 1 + 1 := by rw [hW]; simp
  have hBW : Below w.heap.size w W := by rw [hW]; exact bl3 _ _ _ _
  have a0 : W.cell? ⟨w.heap.size, 0, none⟩ = some (.bool s.ln) := by rw [hW]; simp [go_sem]
  have a1 : W.cell? ⟨w.heap.size, 1, none⟩ = some (.slice s.la s.lN s.lc) := by rw [hW]; simp [go_sem]
  have a2 : W.cell? ⟨w.heap.size, 2, none⟩ = some (.bool s.hn) := by rw [hW]; simp [go_sem]
  have a3 : W.cell? ⟨w.heap.size, 3, none⟩ = some (.slice s.ha s.hN s.hc) := by rw [hW]; simp [go_sem]
  have a4 : W.cell? ⟨w.heap.size, 4, none⟩ = some (.int .i64 s.bits) := by rw [hW]; simp [go_sem]
  have g0 : W.cell? ⟨w.heap.size + 1, 0, none⟩ = some (.bool t.ln) := by rw [hW]; simp [go_sem]
  have g1 : W.cell? ⟨w.heap.size + 1, 1, none⟩ = some (.slice t.la t.lN t.lc) := by rw [hW]; simp [go_sem]
  have g2 : W.cell? ⟨w.heap.size + 1, 2, none⟩ = some (.bool t.hn) := by rw [hW]; simp [go_sem]
  have g3 : W.cell? ⟨w.heap.size + 1, 3, none⟩ = some (.slice t.ha t.hN t.hc) := by rw [hW]; simp [go_sem]
  have g4 : W.cell? ⟨w.heap.size + 1, 4, none⟩ = some (.int .i64 t.bits) := by rw [hW]; simp [go_sem]
  have r0 : W.cell? ⟨w.heap.size + 1 + 1, 0, none⟩ = some (.bool false) := by rw [hW]; simp [go_sem]
  have r1 : W.cell? ⟨w.heap.size + 1 + 1, 1, none⟩ = some (.slice none 0 0) := by rw [hW]; simp [go_sem]
  have r2 : W.cell? ⟨w.heap.size + 1 + 1, 2, none⟩ = some (.bool false) := by rw [hW]; simp [go_sem]
  have r3 : W.cell? ⟨w.heap.size + 1 + 1, 3, none⟩ = some (.slice none 0 0) := by rw [hW]; simp [go_sem]
  have r4 : W.cell? ⟨w.heap.size + 1 + 1, 4, none⟩ = some (.int .i64 0) := by rw [hW]; simp [go_sem]
  have r5 : ∀ o, W.frozen? ⟨w.heap.size + 1 + 1, o, none⟩ = false := by intro o; rw [hW]; simp [go_sem]
  rw [← hW, ← s3]
  clear hW
  have n0 : w.heap.size < W.heap.size := by omega
  have n1 : w.heap.size + 1 < W.heap.size := by omega
  have n2 : w.heap.size + 1 + 1 < W.heap.size := by omega
  refine (unhide HM _ _ _ _ _ (unhide HS W (hs.below hBW) (ht.below hBW)) (fun w' hB => add1_int w' _ _ s t k lo hi lo' hi' ((ps.below hBW).below (bthen (bl1 _ _) hB)) ((pt.below hBW).below (bthen (bl1 _ _) hB)) (by omega)
    (((bthen (bl1 _ _) hB).cell (p := ⟨w.heap.size, 0, none⟩) n0).trans a0) (((bthen (bl1 _ _) hB).cell (p := ⟨w.heap.size, 1, none⟩) n0).trans a1) (((bthen (bl1 _ _) hB).cell (p := ⟨w.heap.size, 2, none⟩) n0).trans a2) (((bthen (bl1 _ _) hB).cell (p := ⟨w.heap.size, 3, none⟩) n0).trans a3) (((bthen (bl1 _ _) hB).cell (p := ⟨w.heap.size, 4, none⟩) n0).trans a4)
    (((bthen (bl1 _ _) hB).cell (p := ⟨w.heap.size + 1, 0, none⟩) n1).trans g0) (((bthen (bl1 _ _) hB).cell (p := ⟨w.heap.size + 1, 1, none⟩) n1).trans g1) (((bthen (bl1 _ _) hB).cell (p := ⟨w.heap.size + 1, 2, none⟩) n1).trans g2) (((bthen (bl1 _ _) hB).cell (p := ⟨w.heap.size + 1, 3, none⟩) n1).trans g3) (((bthen (bl1 _ _) hB).cell (p := ⟨w.heap.size + 1, 4, none⟩) n1).trans g4))).mono ?_
  rintro r w1 ⟨u, rfl, hub, hup, hb1⟩
  have hB1 : Below W.heap.size W w1 := bthen (bl1 _ _) hb1
  have q0 := (hB1.cell (p := ⟨w.heap.size + 1 + 1, 0, none⟩) n2).trans r0
  have q1 := (hB1.cell (p := ⟨w.heap.size + 1 + 1, 1, none⟩) n2).trans r1
  have q2 := (hB1.cell (p := ⟨w.heap.size + 1 + 1, 2, none⟩) n2).trans r2
  have q3 := (hB1.cell (p := ⟨w.heap.size + 1 + 1, 3, none⟩) n2).trans r3
  have q4 := (hB1.cell (p := ⟨w.heap.size + 1 + 1, 4, none⟩) n2).trans r4
  have q5 : ∀ o, w1.frozen? ⟨w.heap.size + 1 + 1, o, none⟩ = false := fun o => (hB1.frozen (p := ⟨w.heap.size + 1 + 1, o, none⟩) n2).trans (r5 o)
  have HB := hide hub
  clear hub
  go_wp2_with fail
  refine bodyPost_ret (v := .tuple #[.agg #[.bool u.ln, .slice u.la u.lN u.lc, .bool u.hn, .slice u.ha u.hN u.hc, .int .i64 u.bits], .int .i64 0]) (by simp [results, Try.results27, go_sem, q0, q1, q2, q3, q4]) rfl ⟨u, rfl, unhide HB, ?_, ?_⟩
  · exact SpAt.put5 hup q0 q1 q2 q3 q4 _ _ _ _ _
  · exact set5 (bthen hBW hB1) (by omega) _ _ _ _ _

set_option maxRecDepth 100000 in
set_option maxHeartbeats 4000000 in
theorem spanBegun_any (w : World) : Calls Try.prog 24 #[] w fun r w' => r = .returned (.bool true) ∧ Below w.heap.size w w' := by
  have e1 : (1 : Int) * Q 8 / 3 = 85 := by decide
  have e2 : -(-((1 : Int) * Q 8) / 3) = 86 := by decide
  have HO := hide (fun W => spanOf_ok 1 3 8 W (by omega) (by omega) (by omega) (by omega) (by omega) (by omega))
  rw [e1, e2] at HO
  clear e1 e2
  go_enter Try.func24, Try.ntmps24
  go_wp2_with fail
  refine (unhide HO _).mono ?_
  rintro r w1 ⟨s, rfl, hsb, hsp, hb1⟩
  obtain ⟨dd, ee, hdig, hchk⟩ := chk_small hsp (by omega) (by omega) (by omega) (by omega)
  have HB := hide hsb
  have HC := hide hchk
  have hs1 : 1 ≤ s.bits := by omega
  have hs2 : s.bits ≤ 120 := by omega
  clear hsb hchk
  go_wp2_with fail
  refine (spanAdd_ok _ s s dd ee dd ee 100 85 86 85 86 (hdig.below (bl1 _ _)) (hdig.below (bl1 _ _)) (unhide HC) (unhide HC) rfl (hsp.below (bl1 _ _)) (hsp.below (bl1 _ _)) (by omega) (by omega) (by omega) hs1 hs2).mono ?_
  rintro r w2 ⟨t, rfl, htb, htp, hb2⟩
  have hB2 : Below w.heap.size w w2 := bthen (balloc hb1 _) hb2
  have hB12 : Below w1.heap.size w1 w2 := bthen (bl1 _ _) hb2
  have HB2 := hide htb
  clear htb
  obtain ⟨hsz2, hcell2, hfz2⟩ := near (w1.heap.size + 1) (by simp) hb2
  have z1 := Nat.lt_of_lt_of_le (Nat.lt_succ_self w1.heap.size) hsz2
  have a0 : w2.cell? ⟨w1.heap.size, 0, none⟩ = some (.bool s.ln) := by simp [hcell2]
  have a1 : w2.cell? ⟨w1.heap.size, 1, none⟩ = some (.slice s.la s.lN s.lc) := by simp [hcell2]
  have a2 : w2.cell? ⟨w1.heap.size, 2, none⟩ = some (.bool s.hn) := by simp [hcell2]
  have a3 : w2.cell? ⟨w1.heap.size, 3, none⟩ = some (.slice s.ha s.hN s.hc) := by simp [hcell2]
  go_wp2_with fail
  obtain ⟨W, hW⟩ : ∃ W, W = w2.alloc (.cells #[.bool t.ln, .slice t.la t.lN t.lc, .bool t.hn, .slice t.ha t.hN t.hc, .int .i64 t.bits] 26) := ⟨_, rfl⟩
  have hBW : Below w2.heap.size w2 W := by rw [hW]; exact bl1 _ _
  have g0 : W.cell? ⟨w2.heap.size, 0, none⟩ = some (.bool t.ln) := by rw [hW]; simp
  have g1 : W.cell? ⟨w2.heap.size, 1, none⟩ = some (.slice t.la t.lN t.lc) := by rw [hW]; simp
  have hl2 : w2.heap.size < W.heap.size := by rw [hW]; simp
  have hl1 : w1.heap.size < W.heap.size := Nat.lt_trans z1 hl2
  have HS := hide ((hsp.below hB12).below hBW)
  have HT := hide (htp.below hBW)
  have HK := hide (show ∀ w', Below W.heap.size W w' → (w'.cell? ⟨w1.heap.size, 0, none⟩ = some (.bool s.ln) ∧ w'.cell? ⟨w1.heap.size, 1, none⟩ = some (.slice s.la s.lN s.lc) ∧ w'.cell? ⟨w1.heap.size, 2, none⟩ = some (.bool s.hn) ∧ w'.cell? ⟨w1.heap.size, 3, none⟩ = some (.slice s.ha s.hN s.hc) ∧ w'.cell? ⟨w2.heap.size, 0, none⟩ = some (.bool t.ln) ∧ w'.cell? ⟨w2.heap.size, 1, none⟩ = some (.slice t.la t.lN t.lc)) from fun w' hB =>
    ⟨(hB.cell (p := ⟨w1.heap.size, 0, none⟩) hl1).trans ((hBW.cell (p := ⟨w1.heap.size, 0, none⟩) z1).trans a0), (hB.cell (p := ⟨w1.heap.size, 1, none⟩) hl1).trans ((hBW.cell (p := ⟨w1.heap.size, 1, none⟩) z1).trans a1), (hB.cell (p := ⟨w1.heap.size, 2, none⟩) hl1).trans ((hBW.cell (p := ⟨w1.heap.size, 2, none⟩) z1).trans a2), (hB.cell (p := ⟨w1.heap.size, 3, none⟩) hl1).trans ((hBW.cell (p := ⟨w1.heap.size, 3, none⟩) z1).trans a3), (hB.cell (p := ⟨w2.heap.size, 0, none⟩) hl2).trans g0, (hB.cell (p := ⟨w2.heap.size, 1, none⟩) hl2).trans g1⟩)
  have hBw : Below w.heap.size w W := bthen hB2 hBW
  have f1 : cmpInt 85 85 = 0 := rfl
  have f2 : cmpInt 86 86 = 0 := rfl
  have f3 : cmpInt (85 + 85) 170 = 0 := rfl
  have F1 := hide f1
  have F2 := hide f2
  have F3 := hide f3
  obtain ⟨k0, k1, k2, k3, k4, k5⟩ := unhide HK W (Below.refl _ _)
  rw [← hW]
  clear hW a0 a1 a2 a3 g0 g1 hcell2 hfz2 hb2 hb1 hdig hsp htp hBW hB2 hB12 HO f1 f2 f3
  go_region_held3 (fun w' => w'.cell? ⟨w1.heap.size, 0, none⟩ = some (.bool s.ln) ∧ w'.cell? ⟨w1.heap.size, 1, none⟩ = some (.slice s.la s.lN s.lc) ∧ w'.cell? ⟨w1.heap.size, 2, none⟩ = some (.bool s.hn) ∧ w'.cell? ⟨w1.heap.size, 3, none⟩ = some (.slice s.ha s.hN s.hc) ∧ w'.cell? ⟨w2.heap.size, 0, none⟩ = some (.bool t.ln) ∧ w'.cell? ⟨w2.heap.size, 1, none⟩ = some (.slice t.la t.lN t.lc)) (exact unhide HK _ (by first | exact (Below.refl _ _).drew | exact hB8 | exact hB7 | exact hB6 | exact hB5 | exact hB4 | exact hB3))
    (first
      | (go_at_call 62; have hq := hB6; refine (numOf_int 170 _ (by decide) (by decide)).mono ?_; rintro r w7 ⟨neg7, a7, n7, c7, rfl, hint7, hb7⟩; have hB7 := bthen hB6 hb7)
      | (go_at_call 62; have hq := hB4; refine (numOf_int 86 _ (by decide) (by decide)).mono ?_; rintro r w5 ⟨neg5, a5, n5, c5, rfl, hint5, hb5⟩; have hB5 := bthen hB4 hb5)
      | (go_at_call 62; refine (numOf_int 85 _ (by decide) (by decide)).mono ?_; rintro r w3 ⟨neg3, a3, n3, c3, rfl, hint3, hb3⟩; have hB3 : Below W.heap.size W w3 := bthen (Below.refl _ _).drew hb3)
      | (go_at_call 33; have hq := hB7; refine (cmp_int _ _ _ _ _ _ _ _ 101 4 (85 + 85) 170 _ ((unhide HT).lo.below hB7) hint7).mono ?_; rintro r w8 ⟨rfl, hb8⟩; have hB8 := bthen hB7 hb8; rw [unhide F3])
      | (go_at_call 33; have hq := hB5; refine (cmp_int _ _ _ _ _ _ _ _ 100 4 86 86 _ ((unhide HS).hi.below hB5) hint5).mono ?_; rintro r w6 ⟨rfl, hb6⟩; have hB6 := bthen hB5 hb6; rw [unhide F2])
      | (go_at_call 33; refine (cmp_int _ _ _ _ _ _ _ _ 100 4 85 85 _ ((unhide HS).lo.below hB3) hint3).mono ?_; rintro r w4 ⟨rfl, hb4⟩; have hB4 := bthen hB3 hb4; rw [unhide F1]))
  go_wp2
  go_ret
  exact ⟨rfl, bthen hBw hB8⟩
end Go.Proofs.Ytibbhnmbmgllcaa
