/-
  Texts Rtl, Rlg, Ins, Nrf: what they hold is told in the last text.
-/
import Derived.Test.YtgmnknmjainababGreatK22
set_option linter.unnecessarySimpa false
set_option linter.unusedSimpArgs false
set_option linter.unusedVariables false
namespace Go.Proofs.YtgmnknmjainababGreat
open Go.RowKit
attribute [local go_sem ↓] Go.wp_at_zero Go.wp_at_succ
structure RootSt (w wr : World) (b K i : Nat) (l : Nat → Rat) (ss : Sp) (a : Int × Int) : Prop where
  s : VrC wr w.heap.size ss
  sp : SpAt wr ss K a.1 a.2
  sb : ss.bits = (b : Int)
  iv : RInv b l i a
  no : NoC wr (w.heap.size + 1)
  be : Below w.heap.size w wr
theorem RootSt.below {w wr wr' : World} {b K i : Nat} {l : Nat → Rat} {ss : Sp} {a : Int × Int} (h : RootSt w wr b K i l ss a) (hb : Below wr.heap.size wr wr') : RootSt w wr' b K i l ss a :=
  ⟨h.s.below hb, h.sp.below hb, h.sb, h.iv, h.no.below hb, bthen h.be hb⟩
theorem add_le2 {x : Int × Int} (h : x.1 ≤ x.2) : (addI x (-2, 2)).1 ≤ (addI x (-2, 2)).2 := by unfold addI; simp only []; omega
set_option maxRecDepth 100000 in
set_option maxHeartbeats 1000000 in
theorem rootLog_iv (w : World) (s : Sp) (k b K : Nat) (a : Int × Int) (l : Nat → Rat) (hs : SpAt w s k a.1 a.2) (hbits : s.bits = (b : Int)) (hkK : k ≤ K) (hl : Ex.Bdd l) (hx : Iv b a (Ex.Ev l)) (h1 : Q b ≤ a.1) (h2 : a.1 ≤ a.2) (h3 : a.2 ≤ 2 * Q b) (hb : b ≤ 100000) (hb2 : 20 ≤ b) (hK : Q (b + 20) < P K) (hK2 : K ≤ 1000000) (hK4 : b / 16 + 18 ≤ K) :
    Calls Tryz.prog 169 #[.agg #[.bool s.ln, .slice s.la s.lN s.lc, .bool s.hn, .slice s.ha s.hN s.hc, .int .i64 s.bits]] w (fun r w' => ∃ o : Int × Int, Iv b o l ∧ Abs o (3 * Q b) ∧ SpanAns w b (K + 30) o.1 o.2 r w') := by
  obtain ⟨W, hW⟩ : ∃ W, W = (w.alloc (.cells #[.bool s.ln, .slice s.la s.lN s.lc, .bool s.hn, .slice s.ha s.hN s.hc, .int .i64 s.bits] 36)).alloc (.cells #[.bool false, .slice none 0 0, .bool false, .slice none 0 0, .int .i64 0] 36) := ⟨_, rfl⟩
  have hBW : Below w.heap.size w W := by rw [hW]; exact bl2 _ _ _
  have A : VrC W w.heap.size s := by rw [hW]; exact ⟨⟨by simp [go_sem], by simp [go_sem], by simp [go_sem], by simp [go_sem], by simp [go_sem]⟩, fun o => by simp [go_sem]⟩
  have R : NoC W (w.heap.size + 1) := by rw [hW]; exact ⟨by simp [go_sem], by simp [go_sem], by simp [go_sem], by simp [go_sem], by simp [go_sem], fun o => by simp [go_sem]⟩
  have st0 : RootSt w W b K 0 l s a := ⟨A, (hs.below hBW).mono hkK, hbits, rinv_start hx h1 h2 h3, R, hBW⟩
  clear A R hs hbits hx h1 h2 h3
  go_enter Tryz.func169, Tryz.ntmps169
  go_wp2
  rw [← hW]
  clear hW
  go_loopw [3] (fun nn wr => ∃ (i : Nat) (ss : Sp) (c : Int × Int), nn = .int .i64 (i : Int) ∧ i ≤ 8 ∧ RootSt w wr b K i l ss c) (fun nn _ => 8 - (intOf nn).toNat)
  case atStart => exact ⟨0, s, a, rfl, by omega, st0⟩
  case round =>
    obtain ⟨i, ss, c, rfl, hi, st⟩ := hrel
    clear st0
    have ls := st.s.lt
    by_cases hi8 : i < 8
    · have hi1 : (i : Int) < 8 := by omega
      obtain ⟨g0, g1, g2, g3, g4, g5, g6, g7, g8⟩ := ss
      have hg : g8 = (b : Int) := st.sb
      subst hg
      obtain ⟨⟨y0, y1, y2, y3, y4⟩, y5⟩ := st.s
      go_wp2_with fail
      refine (power2_int b _ (by omega)).mono ?_
      rintro r' w1 ⟨neg1, a1, n1, c1, rfl, hint1, hb1⟩
      replace st := st.below hb1
      clear hb1 y0 y1 y2 y3 y4 y5 ls
      have l1 := st.s.lt
      obtain ⟨V1, hV1⟩ : ∃ V1, V1 = w1.alloc (.cells #[.bool neg1, .slice a1 n1 c1] 26) := ⟨_, rfl⟩
      have bV1 : Below w1.heap.size w1 V1 := by rw [hV1]; exact bl1 _ _
      have NP : NmC V1 w1.heap.size ⟨neg1, a1, n1, c1⟩ := by rw [hV1]; exact ⟨by simp [go_sem], by simp [go_sem]⟩
      replace st := st.below bV1
      replace hint1 := hint1.below bV1
      clear bV1
      go_wp2_with fail
      rw [← hV1]
      clear hV1
      have HST := hide st
      have HSP := hide st.sp
      have HP := hide hint1
      have hD0 : Below V1.heap.size V1 V1.drew := (Below.refl _ _).drew
      have HK := hide (show ∀ w', Below V1.heap.size V1 w' → (w'.cell? ⟨w.heap.size, 0, none⟩ = some (.bool g0) ∧ w'.cell? ⟨w.heap.size, 1, none⟩ = some (.slice g1 g2 g3) ∧ w'.cell? ⟨w.heap.size, 2, none⟩ = some (.bool g4) ∧ w'.cell? ⟨w.heap.size, 3, none⟩ = some (.slice g5 g6 g7) ∧ w'.cell? ⟨w.heap.size, 4, none⟩ = some (.int .i64 (b : Int)) ∧ w'.cell? ⟨w1.heap.size, 0, none⟩ = some (.bool neg1) ∧ w'.cell? ⟨w1.heap.size, 1, none⟩ = some (.slice a1 n1 c1)) from fun w' hB => ⟨(st.s.below hB).c.c0, (st.s.below hB).c.c1, (st.s.below hB).c.c2, (st.s.below hB).c.c3, (st.s.below hB).c.c4, (NP.below hB).c0, (NP.below hB).c1⟩)
      clear st hint1 NP
      refine AnyL.start (S := fun w' => w'.cell? ⟨w.heap.size, 0, none⟩ = some (.bool g0) ∧ w'.cell? ⟨w.heap.size, 1, none⟩ = some (.slice g1 g2 g3) ∧ w'.cell? ⟨w.heap.size, 2, none⟩ = some (.bool g4) ∧ w'.cell? ⟨w.heap.size, 3, none⟩ = some (.slice g5 g6 g7) ∧ w'.cell? ⟨w.heap.size, 4, none⟩ = some (.int .i64 (b : Int)) ∧ w'.cell? ⟨w1.heap.size, 0, none⟩ = some (.bool neg1) ∧ w'.cell? ⟨w1.heap.size, 1, none⟩ = some (.slice a1 n1 c1)) (l := 15) (by kernel_rfl) (unhide HK _ hD0) (fun hHeld => ?_)
      refine AnyL.take (i := 0) (oi := { dst := some 12, op := Go.Op.fieldAddr 36 (Go.Operand.tmp 1) 0, type := 0, pos := "func.go:93", after := #[], guard := none }) (v := .pointer (some ⟨w.heap.size, 0, none⟩)) rfl (by kernel_rfl) (by kernel_rfl) (by kernel_rfl) (by kernel_rfl) (fun _ _ _ h => h) (Or.inl ⟨by rfl, fun w hSw => ?_⟩) hHeld ?_
      · obtain ⟨s0, s1, s2, s3, s4, s5, s6⟩ := hSw; go_simp
      try simp only [Act.put, List.setIfInBounds_toArray, List.set_cons_zero, List.set_cons_succ]
      refine AnyL.take (i := 1) (oi := { dst := some 13, op := Go.Op.load 26 (Go.Operand.tmp 12), type := 26, pos := "func.go:93", after := #[{ on := 0, ground := Go.Ground.data }], guard := none }) (v := .agg #[.bool g0, .slice g1 g2 g3]) rfl (by kernel_rfl) (by kernel_rfl) (by kernel_rfl) (by kernel_rfl) (fun _ _ _ h => h) (Or.inl ⟨by rfl, fun w hSw => ?_⟩) hHeld ?_
      · obtain ⟨s0, s1, s2, s3, s4, s5, s6⟩ := hSw; go_simp
      try simp only [Act.put, List.setIfInBounds_toArray, List.set_cons_zero, List.set_cons_succ]
      refine AnyL.take (i := 2) (oi := { dst := some 14, op := Go.Op.load 26 (Go.Operand.tmp 4), type := 26, pos := "func.go:93", after := #[], guard := none }) (v := .agg #[.bool neg1, .slice a1 n1 c1]) rfl (by kernel_rfl) (by kernel_rfl) (by kernel_rfl) (by kernel_rfl) (fun _ _ _ h => h) (Or.inl ⟨by rfl, fun w hSw => ?_⟩) hHeld ?_
      · obtain ⟨s0, s1, s2, s3, s4, s5, s6⟩ := hSw; go_simp
      try simp only [Act.put, List.setIfInBounds_toArray, List.set_cons_zero, List.set_cons_succ]
      refine AnyL.take (i := 5) (oi := { dst := some 17, op := Go.Op.fieldAddr 36 (Go.Operand.tmp 1) 1, type := 0, pos := "func.go:93", after := #[], guard := none }) (v := .pointer (some ⟨w.heap.size, 2, none⟩)) rfl (by kernel_rfl) (by kernel_rfl) (by kernel_rfl) (by kernel_rfl) (fun _ _ _ h => h) (Or.inl ⟨by rfl, fun w hSw => ?_⟩) hHeld ?_
      · obtain ⟨s0, s1, s2, s3, s4, s5, s6⟩ := hSw; go_simp
      try simp only [Act.put, List.setIfInBounds_toArray, List.set_cons_zero, List.set_cons_succ]
      refine AnyL.take (i := 6) (oi := { dst := some 18, op := Go.Op.load 26 (Go.Operand.tmp 17), type := 26, pos := "func.go:93", after := #[{ on := 5, ground := Go.Ground.data }], guard := none }) (v := .agg #[.bool g4, .slice g5 g6 g7]) rfl (by kernel_rfl) (by kernel_rfl) (by kernel_rfl) (by kernel_rfl) (fun _ _ _ h => h) (Or.inl ⟨by rfl, fun w hSw => ?_⟩) hHeld ?_
      · obtain ⟨s0, s1, s2, s3, s4, s5, s6⟩ := hSw; go_simp
      try simp only [Act.put, List.setIfInBounds_toArray, List.set_cons_zero, List.set_cons_succ]
      refine AnyL.take (i := 7) (oi := { dst := some 19, op := Go.Op.load 26 (Go.Operand.tmp 4), type := 26, pos := "func.go:93", after := #[], guard := none }) (v := .agg #[.bool neg1, .slice a1 n1 c1]) rfl (by kernel_rfl) (by kernel_rfl) (by kernel_rfl) (by kernel_rfl) (fun _ _ _ h => h) (Or.inl ⟨by rfl, fun w hSw => ?_⟩) hHeld ?_
      · obtain ⟨s0, s1, s2, s3, s4, s5, s6⟩ := hSw; go_simp
      try simp only [Act.put, List.setIfInBounds_toArray, List.set_cons_zero, List.set_cons_succ]
      refine AnyL.take (i := 12) (oi := { dst := some 24, op := Go.Op.fieldAddr 36 (Go.Operand.tmp 1) 2, type := 0, pos := "func.go:93", after := #[], guard := none }) (v := .pointer (some ⟨w.heap.size, 4, none⟩)) rfl (by kernel_rfl) (by kernel_rfl) (by kernel_rfl) (by kernel_rfl) (fun _ _ _ h => h) (Or.inl ⟨by rfl, fun w hSw => ?_⟩) hHeld ?_
      · obtain ⟨s0, s1, s2, s3, s4, s5, s6⟩ := hSw; go_simp
      try simp only [Act.put, List.setIfInBounds_toArray, List.set_cons_zero, List.set_cons_succ]
      refine AnyL.take (i := 13) (oi := { dst := some 25, op := Go.Op.load 3 (Go.Operand.tmp 24), type := 3, pos := "func.go:93", after := #[{ on := 12, ground := Go.Ground.data }], guard := none }) (v := .int .i64 (b : Int)) rfl (by kernel_rfl) (by kernel_rfl) (by kernel_rfl) (by kernel_rfl) (fun _ _ _ h => h) (Or.inl ⟨by rfl, fun w hSw => ?_⟩) hHeld ?_
      · obtain ⟨s0, s1, s2, s3, s4, s5, s6⟩ := hSw; go_simp
      try simp only [Act.put, List.setIfInBounds_toArray, List.set_cons_zero, List.set_cons_succ]
      refine AnyL.one (i := 3) (o := { dst := some 15, op := Go.Op.call { callee := Go.Callee.value (Go.Operand.func 66), args := #[Go.Operand.tmp 13, Go.Operand.tmp 14], argTypes := #[26, 26] }, type := 26, pos := "func.go:93", after := #[{ on := 1, ground := Go.Ground.data }, { on := 2, ground := Go.Ground.data }], guard := none }) (by kernel_rfl) rfl (fun Kc hKc => ?_)
      go_simp
      refine (mul_int _ _ _ _ _ _ _ _ K (b / 16 + 5) c.1 (Q b) _ ((unhide HSP).lo.below hD0) ((unhide HP).below hD0) (by omega) (by omega)).mono ?_
      rintro r' v1 ⟨neg9, a9, n9, c9, rfl, h1, hb⟩
      have hD1 := bthen hD0 hb
      clear hb
      go_wp2_with fail
      refine hKc.out _ _ (unhide HK _ hD1) (fun hHeld => ?_)
      clear hKc Kc
      try simp only [Act.put, List.setIfInBounds_toArray, List.set_cons_zero, List.set_cons_succ]
      refine AnyL.one (i := 4) (o := { dst := some 16, op := Go.Op.call { callee := Go.Callee.value (Go.Operand.func 189), args := #[Go.Operand.tmp 15], argTypes := #[26] }, type := 26, pos := "func.go:93", after := #[{ on := 3, ground := Go.Ground.data }, { on := 3, ground := Go.Ground.chain }], guard := none }) (by kernel_rfl) rfl (fun Kc hKc => ?_)
      go_simp
      refine (root_int _ _ _ _ _ (c.1 * Q b) _ h1 (by omega)).mono ?_
      rintro r' v2 ⟨z, hz, neg2, a2, n2, c2, rfl, h2, hb⟩
      have hD2 := bthen hD1 hb
      clear hb
      have HZ := hide hz; clear hz h1
      go_wp2_with fail
      refine hKc.out _ _ (unhide HK _ hD2) (fun hHeld => ?_)
      clear hKc Kc
      try simp only [Act.put, List.setIfInBounds_toArray, List.set_cons_zero, List.set_cons_succ]
      refine AnyL.one (i := 8) (o := { dst := some 20, op := Go.Op.call { callee := Go.Callee.value (Go.Operand.func 66), args := #[Go.Operand.tmp 18, Go.Operand.tmp 19], argTypes := #[26, 26] }, type := 26, pos := "func.go:93", after := #[{ on := 6, ground := Go.Ground.data }, { on := 7, ground := Go.Ground.data }, { on := 4, ground := Go.Ground.chain }], guard := none }) (by kernel_rfl) rfl (fun Kc hKc => ?_)
      go_simp
      refine (mul_int _ _ _ _ _ _ _ _ K (b / 16 + 5) c.2 (Q b) _ ((unhide HSP).hi.below hD2) ((unhide HP).below hD2) (by omega) (by omega)).mono ?_
      rintro r' v3 ⟨neg3, a3, n3, c3, rfl, h3, hb⟩
      have hD3 := bthen hD2 hb
      replace h2 := h2.below hb
      clear hb
      go_wp2_with fail
      refine hKc.out _ _ (unhide HK _ hD3) (fun hHeld => ?_)
      clear hKc Kc
      try simp only [Act.put, List.setIfInBounds_toArray, List.set_cons_zero, List.set_cons_succ]
      refine AnyL.one (i := 9) (o := { dst := some 21, op := Go.Op.call { callee := Go.Callee.value (Go.Operand.func 189), args := #[Go.Operand.tmp 20], argTypes := #[26] }, type := 26, pos := "func.go:93", after := #[{ on := 8, ground := Go.Ground.data }, { on := 8, ground := Go.Ground.chain }], guard := none }) (by kernel_rfl) rfl (fun Kc hKc => ?_)
      go_simp
      refine (root_int _ _ _ _ _ (c.2 * Q b) _ h3 (by omega)).mono ?_
      rintro r' v4 ⟨t, ht, neg4, a4, n4, c4, rfl, h4, hb⟩
      have hD4 := bthen hD3 hb
      replace h2 := h2.below hb
      clear hb
      have HT := hide ht; clear ht h3
      go_wp2_with fail
      refine hKc.out _ _ (unhide HK _ hD4) (fun hHeld => ?_)
      clear hKc Kc
      try simp only [Act.put, List.setIfInBounds_toArray, List.set_cons_zero, List.set_cons_succ]
      refine AnyL.one (i := 10) (o := { dst := some 22, op := Go.Op.call { callee := Go.Callee.value (Go.Operand.func 43), args := #[Go.Operand.const (Go.Value.int Go.IntKind.i64 1)], argTypes := #[3] }, type := 26, pos := "func.go:93", after := #[{ on := 9, ground := Go.Ground.chain }], guard := none }) (by kernel_rfl) rfl (fun Kc hKc => ?_)
      go_simp
      refine (numOf_int 1 _ (by decide) (by decide)).mono ?_
      rintro r' v5 ⟨neg5, a5, n5, c5, rfl, h5, hb⟩
      have hD5 := bthen hD4 hb
      replace h2 := h2.below hb
      replace h4 := h4.below hb
      clear hb
      go_wp2_with fail
      refine hKc.out _ _ (unhide HK _ hD5) (fun hHeld => ?_)
      clear hKc Kc
      try simp only [Act.put, List.setIfInBounds_toArray, List.set_cons_zero, List.set_cons_succ]
      refine AnyL.one (i := 11) (o := { dst := some 23, op := Go.Op.call { callee := Go.Callee.value (Go.Operand.func 65), args := #[Go.Operand.tmp 21, Go.Operand.tmp 22], argTypes := #[26, 26] }, type := 26, pos := "func.go:93", after := #[{ on := 9, ground := Go.Ground.data }, { on := 10, ground := Go.Ground.data }, { on := 10, ground := Go.Ground.chain }], guard := none }) (by kernel_rfl) rfl (fun Kc hKc => ?_)
      go_simp
      refine (add_int _ _ _ _ _ _ _ _ _ _ t 1 _ h4 h5 (by omega) (by omega)).mono ?_
      rintro r' v6 ⟨neg6, a6, n6, c6, rfl, h6, hb⟩
      have hD6 := bthen hD5 hb
      replace h2 := h2.below hb
      clear hb
      clear h4 h5
      go_wp2_with fail
      refine hKc.out _ _ (unhide HK _ hD6) (fun hHeld => ?_)
      clear hKc Kc
      try simp only [Act.put, List.setIfInBounds_toArray, List.set_cons_zero, List.set_cons_succ]
      refine AnyL.take (i := 14) (oi := { dst := some 26, op := Go.Op.build 36 #[(0, Go.Operand.tmp 16), (1, Go.Operand.tmp 23), (2, Go.Operand.tmp 25)], type := 36, pos := "func.go:93", after := #[{ on := 4, ground := Go.Ground.data }, { on := 11, ground := Go.Ground.data }, { on := 13, ground := Go.Ground.data }], guard := none }) (v := .agg #[.bool neg2, .slice a2 n2 c2, .bool neg6, .slice a6 n6 c6, .int .i64 (b : Int)]) rfl (by kernel_rfl) (by kernel_rfl) (by kernel_rfl) (by kernel_rfl) (fun _ _ _ h => h) (Or.inl ⟨by rfl, fun w hSw => ?_⟩) hHeld ?_
      · obtain ⟨s0, s1, s2, s3, s4, s5, s6⟩ := hSw; go_simp
      try simp only [Act.put, List.setIfInBounds_toArray, List.set_cons_zero, List.set_cons_succ]
      refine AnyL.last (o := { dst := none, op := Go.Op.store 36 (Go.Operand.tmp 1) (Go.Operand.tmp 26), type := 0, pos := "func.go:93", after := #[{ on := 14, ground := Go.Ground.data }, { on := 11, ground := Go.Ground.chain }, { on := 0, ground := Go.Ground.phase }, { on := 1, ground := Go.Ground.phase }, { on := 2, ground := Go.Ground.phase }, { on := 3, ground := Go.Ground.phase }, { on := 4, ground := Go.Ground.phase }, { on := 5, ground := Go.Ground.phase }, { on := 6, ground := Go.Ground.phase }, { on := 7, ground := Go.Ground.phase }, { on := 8, ground := Go.Ground.phase }, { on := 9, ground := Go.Ground.phase }, { on := 10, ground := Go.Ground.phase }, { on := 11, ground := Go.Ground.phase }, { on := 12, ground := Go.Ground.phase }, { on := 13, ground := Go.Ground.phase }, { on := 14, ground := Go.Ground.phase }], guard := none }) (by kernel_rfl) rfl (by kernel_rfl) (fun Kc hKc => ?_)
      obtain ⟨y0, y1, y2, y3, y4, _, _⟩ := hHeld
      have y5 := ((unhide HST).s.below hD6).fz
      have lD := ((unhide HST).s.below hD6).lt
      go_simp
      refine hKc.out _ _ ?_
      clear hKc Kc
      have stn : RootSt w (put5w v6 w.heap.size ⟨neg2, a2, n2, c2, neg6, a6, n6, c6, (b : Int)⟩) b K (i + 1) l ⟨neg2, a2, n2, c2, neg6, a6, n6, c6, (b : Int)⟩ (z, t + 1) := by
        have st := (unhide HST).below hD6
        have hq := Q_pos b
        have cc1 := st.iv.lo
        have cc2 := st.iv.le
        have m1 := Int.mul_pos (show 0 < c.1 by omega) (show 0 < Q b by omega)
        have m2 := Int.mul_pos (show 0 < c.2 by omega) (show 0 < Q b by omega)
        obtain ⟨z0, _, z1⟩ := unhide HZ
        obtain ⟨t0, _, t1⟩ := unhide HT
        have iv := rinv_step hl st.iv z0 (z1 m1).1 (z1 m1).2 t0 (t1 m2).1 (t1 m2).2
        have sp0 : SpAt v6 ⟨neg2, a2, n2, c2, neg6, a6, n6, c6, (b : Int)⟩ (2 * K + b + 100) z (t + 1) := ⟨h2.mono (by omega), h6.mono (by omega)⟩
        have hh := iv.hi
        have qi := Q_pos (i + 1)
        have hhi : t + 1 ≤ 2 * Q b + 2 := by
          refine Int.not_lt.1 fun hn => ?_
          have := Int.mul_le_mul_of_nonneg_left (show 1 ≤ Q (i + 1) by omega) (show 0 ≤ t + 1 - Q b - 2 by omega)
          simp only [] at hh
          omega
        have q20 : Q (b + 20) = Q b * 1048576 := by rw [Q_add]; rfl
        have sp1 := sp0.fits (K := K) iv.le (by have := iv.lo; simp only [] at this; omega) (by omega)
        exact ⟨st.s.put _, sp1.put st.s.c _, rfl, iv, st.no.off (by omega) _, below_put st.be (Nat.le_refl _) _⟩
      unfold put5w at stn
      go_wp2_with fail
      go_roundw
      case rel => exact ⟨i + 1, _, _, by go_num, by omega, stn⟩
      case measure => simp [intOf]; omega
    · have HI := hide (show i = 8 by omega)
      have hi1 : ¬ (i : Int) < 8 := by omega
      clear hi hi8
      obtain ⟨g0, g1, g2, g3, g4, g5, g6, g7, g8⟩ := ss
      have hg : g8 = (b : Int) := st.sb
      subst hg
      have R := st.no
      have hBr := st.be
      have lR := R.lt
      have HSP := hide st.sp
      have HIV := hide (show RInv b l 8 c by have h := st.iv; rw [unhide HI] at h; exact h)
      have HF := hide (show -P K < c.1 - Q b ∧ c.2 - Q b < P K by
        obtain ⟨⟨f1, f2, f3, f4⟩, _, _, _⟩ := rinv_end (show 10 ≤ b by omega) (unhide HIV) (show Q 8 = 256 from rfl)
        have := Q_mono (show b - 6 ≤ b + 20 by omega)
        simp only [] at f1 f2 f3 f4
        omega)
      have HK := hide (show ∀ w', Below wr.heap.size wr w' → (w'.cell? ⟨w.heap.size, 0, none⟩ = some (.bool g0) ∧ w'.cell? ⟨w.heap.size, 1, none⟩ = some (.slice g1 g2 g3) ∧ w'.cell? ⟨w.heap.size, 2, none⟩ = some (.bool g4) ∧ w'.cell? ⟨w.heap.size, 3, none⟩ = some (.slice g5 g6 g7) ∧ w'.cell? ⟨w.heap.size, 4, none⟩ = some (.int .i64 (b : Int))) from fun w' hB => ⟨(st.s.below hB).c.c0, (st.s.below hB).c.c1, (st.s.below hB).c.c2, (st.s.below hB).c.c3, (st.s.below hB).c.c4⟩)
      have HE := hide (rinv_end (show 10 ≤ b by omega) (unhide HIV) (show Q 8 = 256 from rfl))
      clear st
      obtain ⟨y0, y1, y2, y3, y4⟩ := unhide HK _ (Below.refl _ _)
      have n01 : w.heap.size ≠ w.heap.size + 1 := by omega
      have n10 : w.heap.size + 1 ≠ w.heap.size := by omega
      have hD0 : Below wr.heap.size wr wr.drew := (Below.refl _ _).drew
      go_wp2_with fail
      go_region_held3 (fun w' => w'.cell? ⟨w.heap.size, 0, none⟩ = some (.bool g0) ∧ w'.cell? ⟨w.heap.size, 1, none⟩ = some (.slice g1 g2 g3) ∧ w'.cell? ⟨w.heap.size, 2, none⟩ = some (.bool g4) ∧ w'.cell? ⟨w.heap.size, 3, none⟩ = some (.slice g5 g6 g7) ∧ w'.cell? ⟨w.heap.size, 4, none⟩ = some (.int .i64 (b : Int))) (first | exact unhide HK _ (by first | with_reducible exact hD0 | with_reducible exact hD6 | with_reducible exact hD5 | with_reducible exact hD4 | with_reducible exact hD3 | with_reducible exact hD2 | with_reducible exact hD1) | go_keep)
        (first
          | (go_at_call 56; have hq := hD5; refine (refBy _ v3 ⟨neg4, a4, n4, c4⟩ ⟨neg5, a5, n5, c5⟩ (K + 1) _ _ b _ 256 1 hs3 hint4 hint5 (by omega) (by omega) (by omega) (by omega) (unhide HB3)).mono ?_; rintro r' w6 ⟨v6, rfl, hsb6, hs6, hb6⟩; have HB6 := hide hsb6; clear hsb6; have hD6 := bthen hD5 hb6; obtain ⟨q0, q1, q2, q3, q4, q5⟩ := R.below hD6)
          | (go_at_call 43; have hq := hD4; refine (numOf_int 1 _ (by decide) (by decide)).mono ?_; rintro r' w5 ⟨neg5, a5, n5, c5, rfl, hint5, hb5⟩; have hD5 := bthen hD4 hb5; replace hs3 := hs3.below hb5; replace hint4 := hint4.below hb5)
          | (go_at_call 43; have hq := hD3; refine (numOf_int 256 _ (by decide) (by decide)).mono ?_; rintro r' w4 ⟨neg4, a4, n4, c4, rfl, hint4, hb4⟩; have hD4 := bthen hD3 hb4; replace hs3 := hs3.below hb4)
          | (go_at_call 195; have hq := hD2; refine (nearLog_iv _ v2 K b K (c.1 - Q b, c.2 - Q b) hs2 (unhide HB2) (Nat.le_refl _) (unhide HE).2.1 ((unhide HE).1.mono (Q_mono (by omega))) hb (by omega) hK (by omega) (by omega)).mono ?_; rintro r' w3 ⟨N, hN0, hN, v3, rfl, hsb3, hs3, hb3⟩; have HN0 := hide hN0; have HB3 := hide hsb3; have HN := hide hN; clear hsb3 hN hN0; have hD3 := bthen hD2 hb3)
          | (go_at_call 26; have hq := hD1; refine (refLess_iv _ ⟨g0, g1, g2, g3, g4, g5, g6, g7, (b : Int)⟩ v1 K b c (1 * Q b, 1 * Q b) ((unhide HSP).below hD1) (hs1.mono (by omega)) (by omega) rfl).mono ?_; rintro r' w2 ⟨v2, rfl, hsb2, hs2, hb22⟩; have HB2 := hide hsb2; clear hsb2; have hD2 := bthen hD1 hb22; rw [show subI c (1 * Q b, 1 * Q b) = (c.1 - Q b, c.2 - Q b) by unfold subI; simp only [Int.one_mul]] at hs2; replace hs2 := hs2.fits (K := K) (unhide HE).2.1 (unhide HF).1 (unhide HF).2)
          | (go_at_call 27; refine (refWhole _ 1 b hb (by decide) (by decide)).mono ?_; rintro r' w1 ⟨v1, rfl, hsb1, hs1, hb1⟩; have HB1 := hide hsb1; clear hsb1; have hD1 := bthen hD0 hb1))
      all_goals
        have HAB := hide (rootLog_abs hb2 (unhide HIV) (show Q 8 = 256 from rfl) (unhide HN0))
        have HO := hide (rootLog_has hl (by omega) (unhide HIV) (show Q 8 = 256 from rfl) rfl (unhide HN))
        rw [byI_nonneg (add_le2 (nsT_le (unhide HE).2.1 N)) (by omega)] at hs6
        go_wp2_with fail
        refine bodyPost_ret (v := .agg #[.bool v6.ln, .slice v6.la v6.lN v6.lc, .bool v6.hn, .slice v6.ha v6.hN v6.hc, .int .i64 v6.bits]) (by simp [results, Tryz.results169, go_sem, q0, q1, q2, q3, q4]) rfl ⟨_, unhide HO, unhide HAB, v6, rfl, unhide HB6, ?_, ?_⟩
        · exact SpAt.put5 (hs6.mono (by omega)) q0 q1 q2 q3 q4 _ _ _ _ _
        · exact set5 (bthen hBr hD6) (Nat.le_succ _) _ _ _ _ _
end Go.Proofs.YtgmnknmjainababGreat
namespace Go.Proofs.YtgmnknmjainababGreat
open Go.RowKit
attribute [local go_sem ↓] Go.wp_at_zero Go.wp_at_succ
structure LgSt (w wr : World) (X Y : Nm) (k : Nat) (n d : Int) : Prop where
  x : NmC wr w.heap.size X
  fx : ∀ o, wr.frozen? ⟨w.heap.size, o, none⟩ = false
  y : NmC wr (w.heap.size + 1) Y
  fy : ∀ o, wr.frozen? ⟨w.heap.size + 1, o, none⟩ = false
  ix : IntAt wr X.neg X.a X.n X.cap k n
  iy : IntAt wr Y.neg Y.a Y.n Y.cap k d
  no : NoC wr (w.heap.size + 1 + 1)
  be : Below w.heap.size w wr
theorem LgSt.below {w wr wr' : World} {X Y : Nm} {k : Nat} {n d : Int} (h : LgSt w wr X Y k n d) (hb : Below wr.heap.size wr wr') : LgSt w wr' X Y k n d :=
  ⟨h.x.below hb, fun o => (hb.frozen (p := ⟨w.heap.size, o, none⟩) h.x.lt).trans (h.fx o), h.y.below hb, fun o => (hb.frozen (p := ⟨w.heap.size + 1, o, none⟩) h.y.lt).trans (h.fy o), h.ix.below hb, h.iy.below hb, h.no.below hb, bthen h.be hb⟩
theorem NoC.offN {w : World} {B B' : Nat} (h : NoC w B) (hne : B ≠ B') (u0 u1 : Value) : NoC ((w.setCell ⟨B', 0, none⟩ u0).setCell ⟨B', 1, none⟩ u1) B := by
  obtain ⟨q0, q1, q2, q3, q4, q5⟩ := h
  exact ⟨by simp [go_sem, q0, hne, Ne.symm hne], by simp [go_sem, q1, hne, Ne.symm hne], by simp [go_sem, q2, hne, Ne.symm hne], by simp [go_sem, q3, hne, Ne.symm hne], by simp [go_sem, q4, hne, Ne.symm hne], put_fz2 q5 _ _⟩
theorem LgSt.putX {w wr : World} {X Y Z : Nm} {k : Nat} {n d m : Int} (h : LgSt w wr X Y k n d) (hz : IntAt wr Z.neg Z.a Z.n Z.cap k m) :
    LgSt w ((wr.setCell ⟨w.heap.size, 0, none⟩ (.bool Z.neg)).setCell ⟨w.heap.size, 1, none⟩ (.slice Z.a Z.n Z.cap)) Z Y k m d :=
  ⟨put_nm2 h.x Z, put_fz2 h.fx _ _, h.y.off (by omega) _ _, put_fz2 h.fy _ _, hz.put2 h.x.c0 h.x.c1 _ _, h.iy.put2 h.x.c0 h.x.c1 _ _, h.no.offN (by omega) _ _, set2 h.be (Nat.le_refl _) _ _⟩
theorem LgSt.putY {w wr : World} {X Y Z : Nm} {k : Nat} {n d m : Int} (h : LgSt w wr X Y k n d) (hz : IntAt wr Z.neg Z.a Z.n Z.cap k m) :
    LgSt w ((wr.setCell ⟨w.heap.size + 1, 0, none⟩ (.bool Z.neg)).setCell ⟨w.heap.size + 1, 1, none⟩ (.slice Z.a Z.n Z.cap)) X Z k n m :=
  ⟨h.x.off (by omega) _ _, put_fz2 h.fx _ _, put_nm2 h.y Z, put_fz2 h.fy _ _, h.ix.put2 h.y.c0 h.y.c1 _ _, hz.put2 h.y.c0 h.y.c1 _ _, h.no.offN (by omega) _ _, set2 h.be (Nat.le_succ _) _ _⟩
theorem refRatio_any (x y : Nm) (k k2 b : Nat) (n d : Int) (w : World) (h1 : IntAt w x.neg x.a x.n x.cap k n) (h2 : IntAt w y.neg y.a y.n y.cap k2 d) (hk : k ≤ 600000000) (hk2 : k2 ≤ 100000000) (hb : b ≤ 100000) (hy : 0 < d) :
    Calls Tryz.prog 54 #[.agg #[.bool x.neg, .slice x.a x.n x.cap], .agg #[.bool y.neg, .slice y.a y.n y.cap], .int .i64 b] w (SpanAns w b (k + b / 16 + 14) (ofI n d b).1 (ofI n d b).2) :=
  refRatio_core _ _ _ _ _ _ _ _ k k2 b n d _ h1 h2 (by omega) (by omega) hb hy (fun neg' a' n' cap' w' p1 p2 => floor_any _ _ _ _ _ _ _ _ _ k2 _ _ w' p1 p2 (by omega) hy)
theorem ofI_between {n d : Int} (b : Nat) (hd : 0 < d) (h1 : d ≤ n) (h2 : n < 2 * d) : Q b ≤ (ofI n d b).1 ∧ (ofI n d b).1 ≤ (ofI n d b).2 ∧ (ofI n d b).2 ≤ 2 * Q b := by
  have q := Q_pos b
  have g1 := Int.mul_le_mul_of_nonneg_right h1 (show 0 ≤ Q b by omega)
  have g2 := Int.mul_le_mul_of_nonneg_right (show n ≤ 2 * d by omega) (show 0 ≤ Q b by omega)
  have e1 : d * Q b = Q b * d := Int.mul_comm _ _
  have e2 : 2 * d * Q b = 2 * Q b * d := by grind
  refine ⟨?_, (Iv.of b hd).le, ?_⟩
  · show Q b ≤ n * Q b / d
    exact Int.le_ediv_of_mul_le hd (by omega)
  · show -(-(n * Q b) / d) ≤ 2 * Q b
    have : -(2 * Q b) ≤ -(n * Q b) / d := Int.le_ediv_of_mul_le hd (by rw [Int.neg_mul]; omega)
    omega
theorem cge {x y : Int} (h : y ≤ x) : 0 ≤ cmpInt x y := by unfold cmpInt; rw [if_neg (by omega)]; split <;> omega
theorem clt {x y : Int} (h : x < y) : cmpInt x y < 0 := by unfold cmpInt; rw [if_pos h]; omega
theorem iv_exp {b : Nat} {n d : Int} (hd : 0 < d) {l : Nat → Rat} (hl : Ex.IsLog l (fun _ => (n : Rat) / (d : Rat))) : Iv b (ofI n d b) (Ex.Ev l) := (Iv.of b hd).congr hl.2
theorem whole_iv {b : Nat} : Iv b (2 * Q b, 2 * Q b) (Ex.Ev (fun M => 2 * Ex.Az (zR 2 1) M)) := by
  have h := (Iv.of b (n := 2) (d := 1) (by decide))
  have e : ofI 2 1 b = (2 * Q b, 2 * Q b) := by unfold ofI; simp only [Int.ediv_one, Int.neg_neg]
  rw [e] at h
  refine h.congr ((isLog_two.2).of_eq fun M => ?_)
  have e2 : ((2 : Int) : Rat) / ((1 : Int) : Rat) = 2 := by decide +kernel
  rw [e2]
set_option maxRecDepth 100000 in
set_option maxHeartbeats 4000000 in
theorem refLog_iv (w : World) (x y : Nm) (k b J : Nat) (n d : Int) (hx : IntAt w x.neg x.a x.n x.cap k n) (hy : IntAt w y.neg y.a y.n y.cap k d) (hk : k ≤ 10000000) (hb : b ≤ 50000) (hn : 0 < n) (hd : 0 < d) (hnk : n < P k) (hdk : 2 * d < P k) (hJ1 : d ≤ n * Q J) (hJ2 : n < d * Q (J + 1)) (hJ : J ≤ 1000) :
    Calls Tryz.prog 124 #[.agg #[.bool x.neg, .slice x.a x.n x.cap], .agg #[.bool y.neg, .slice y.a y.n y.cap], .int .i64 b] w (fun r w' => ∃ (o : Int × Int) (l : Nat → Rat), Ex.IsLog l (fun _ => (n : Rat) / (d : Rat)) ∧ Iv b o l ∧ Abs o (3 * ((J : Int) + 1) * Q b) ∧ SpanAns w b (b / 16 + 10) o.1 o.2 r w') := by
  obtain ⟨W, hW⟩ : ∃ W, W = ((w.alloc (.cells #[.bool x.neg, .slice x.a x.n x.cap] 26)).alloc (.cells #[.bool y.neg, .slice y.a y.n y.cap] 26)).alloc (.cells #[.bool false, .slice none 0 0, .bool false, .slice none 0 0, .int .i64 0] 36) := ⟨_, rfl⟩
  have hBW : Below w.heap.size w W := by rw [hW]; exact bl3 _ _ _ _
  have st0 : LgSt w W x y k (n * Q 0) d := ⟨by rw [hW]; exact ⟨by simp [go_sem], by simp [go_sem]⟩, fun o => by rw [hW]; simp [go_sem], by rw [hW]; exact ⟨by simp [go_sem], by simp [go_sem]⟩, fun o => by rw [hW]; simp [go_sem], by rw [show n * Q 0 = n by show n * 1 = n; omega]; exact hx.below hBW, hy.below hBW, by rw [hW]; exact ⟨by simp [go_sem], by simp [go_sem], by simp [go_sem], by simp [go_sem], by simp [go_sem], fun o => by simp [go_sem]⟩, hBW⟩
  clear hx hy hBW
  obtain ⟨m, hm⟩ : ∃ m : Nat, (b : Int) + 48 = (m : Int) := ⟨b + 48, by omega⟩
  have HM := hide (show m = b + 48 by omega)
  have HJ := hide (And.intro hJ1 hJ2)
  have HN := hide (And.intro hn hd)
  have HK := hide (And.intro hnk hdk)
  have HMB := hide hm
  have hm1 : m ≤ 100000 := by omega
  have hm2 : 48 ≤ m := by omega
  clear hJ1 hJ2 hn hd hnk hdk hm
  go_enter Tryz.func124, Tryz.ntmps124
  go_wp2_with fail
  rw [← hW, unhide HMB]
  clear hW
  go_loopw [8] (fun kk wr => ∃ (j : Nat) (X : Nm), kk = .int .i64 (-(j : Int)) ∧ j ≤ J ∧ (j = 0 ∨ n * Q j < 2 * d) ∧ LgSt w wr X y k (n * Q j) d) (fun kk _ => J + 1 - (-(intOf kk)).toNat)
  case atStart => exact ⟨0, x, rfl, by omega, Or.inl rfl, st0⟩
  case round =>
    obtain ⟨j, X, rfl, hj, hj2, st⟩ := hrel
    clear st0
    have HJ2 := hide hj2
    clear hj2
    have lX := st.x.lt
    have lY := st.y.lt
    obtain ⟨x0, x1⟩ := st.x
    obtain ⟨y0, y1⟩ := st.y
    go_wp2_with fail
    refine (cmp_int _ _ _ _ _ _ _ _ _ _ (n * Q j) d _ st.ix st.iy).mono ?_
    rintro r w1 ⟨rfl, hb1⟩
    replace st := st.below hb1
    clear hb1 x0 x1 y0 y1 lX lY
    by_cases hlt : n * Q j < d
    · have hc := clt hlt
      have HLT := hide hlt
      have lX := st.x.lt
      have fx := st.fx
      obtain ⟨x0, x1⟩ := st.x
      clear hlt
      go_wp2_with fail
      refine (up_int _ _ _ _ 1 k (n * Q j) _ st.ix (by omega) (by omega)).mono ?_
      rintro r w2 ⟨neg2, a2, n2, c2, rfl, hint2, hb2⟩
      replace st := st.below hb2
      have hj3 := steps_lo (unhide HN).1 (unhide HLT) (unhide HJ).1
      have he : n * Q j * Q 1 = n * Q (j + 1) := by
        have e1 : Q 1 = 2 := rfl
        have e2 : Q (j + 1) = 2 * Q j := rfl
        rw [e1, e2]; grind
      have hlt2 : n * Q (j + 1) < 2 * d := by
        have e1 : Q 1 = 2 := rfl
        have := unhide HLT
        rw [← he, e1]; omega
      have hpos : 0 < n * Q (j + 1) := Int.mul_pos (unhide HN).1 (by have := Q_pos (j + 1); omega)
      rw [he] at hint2
      have stn := st.putX (Z := ⟨neg2, a2, n2, c2⟩) (hint2.fits (K := k) (by have := P_pos k; omega) (by have := (unhide HK).2; omega))
      have HST := hide stn
      have HS2 := hide hlt2
      clear hb2 x0 x1 fx lX hc he hlt2 hpos stn
      have lX := st.x.lt
      have fx := st.fx
      obtain ⟨x0, x1⟩ := st.x
      go_wp2_with fail
      go_roundw
      case rel => exact ⟨j + 1, _, by go_num, by omega, Or.inr (unhide HS2), unhide HST⟩
      case measure => simp [intOf]; omega
    · have hc : ¬ cmpInt (n * Q j) d < 0 := fun h => by have := cge (Int.not_lt.1 hlt); omega
      have hge := Int.not_lt.1 hlt
      have HGE := hide hge
      clear hlt hge
      go_wp2_with fail
      clear hc
      have st1 : LgSt w w1 X y k (n * Q j) (d * Q 0) := by rw [show d * Q 0 = d by show d * 1 = d; omega]; exact st
      clear st
      go_loopw [8] (fun kk wr => ∃ (i : Nat) (Y : Nm), kk = .int .i64 ((i : Int) - (j : Int)) ∧ i ≤ J ∧ (j = 0 ∨ i = 0) ∧ d * Q i ≤ n * Q j ∧ LgSt w wr X Y k (n * Q j) (d * Q i)) (fun kk _ => J + 1 - (intOf kk + j).toNat)
      case atStart => exact ⟨0, y, by go_num, by omega, Or.inr rfl, by rw [show d * Q 0 = d by show d * 1 = d; omega]; exact unhide HGE, st1⟩
      case round =>
        obtain ⟨i, Y, rfl, hi, hi2, hle, st⟩ := hrel
        clear st1
        have HI := hide (And.intro hi2 hle)
        clear hi2 hle
        have e1 : d * Q i * Q 1 = 2 * (d * Q i) := by have e1 : Q 1 = 2 := rfl; rw [e1]; omega
        have HE1 := hide e1
        clear e1
        have HKr := hide (show ∀ w', Below wr.heap.size wr w' → (w'.cell? ⟨w.heap.size, 0, none⟩ = some (.bool X.neg) ∧ w'.cell? ⟨w.heap.size, 1, none⟩ = some (.slice X.a X.n X.cap) ∧ w'.cell? ⟨w.heap.size + 1, 0, none⟩ = some (.bool Y.neg) ∧ w'.cell? ⟨w.heap.size + 1, 1, none⟩ = some (.slice Y.a Y.n Y.cap)) from fun w' hB => ⟨(st.x.below hB).c0, (st.x.below hB).c1, (st.y.below hB).c0, (st.y.below hB).c1⟩)
        have lX := st.x.lt
        have lY := st.y.lt
        obtain ⟨x0, x1, y0, y1⟩ := unhide HKr _ (Below.refl _ _)
        have hD0 : Below wr.heap.size wr wr.drew := (Below.refl _ _).drew
        have HST := hide st
        clear st
        by_cases hge : 2 * (d * Q i) ≤ n * Q j
        · have hc : 0 ≤ cmpInt (n * Q j) (d * Q i * Q 1) := by rw [unhide HE1]; exact cge hge
          have hc2 : ¬ cmpInt (n * Q j) (d * Q i * Q 1) < 0 := by omega
          have HGE2 := hide hge
          clear hge
          go_wp2_with fail
          go_region_held3 (fun w' => w'.cell? ⟨w.heap.size, 0, none⟩ = some (.bool X.neg) ∧ w'.cell? ⟨w.heap.size, 1, none⟩ = some (.slice X.a X.n X.cap) ∧ w'.cell? ⟨w.heap.size + 1, 0, none⟩ = some (.bool Y.neg) ∧ w'.cell? ⟨w.heap.size + 1, 1, none⟩ = some (.slice Y.a Y.n Y.cap)) (first | exact unhide HKr _ (by first | with_reducible exact hD0 | with_reducible exact hD2 | with_reducible exact hD1) | go_keep)
            (first
              | (go_at_call 46; have hq := hD1; refine (cmp_int _ _ _ _ _ _ _ _ _ _ (n * Q j) (d * Q i * Q 1) _ ((unhide HST).ix.below hD1) hint1).mono ?_; rintro r' w3 ⟨rfl, hb3⟩; have hD2 := bthen hD1 hb3)
              | (go_at_call 95; refine (up_int _ _ _ _ 1 k (d * Q i) _ ((unhide HST).iy.below hD0) (by omega) (by omega)).mono ?_; rintro r' w2 ⟨neg2, a2, n2, c2, rfl, hint1, hb2⟩; have hD1 := bthen hD0 hb2))
          all_goals
            have st := (unhide HST).below hD2
            have lY2 := st.y.lt
            have fy := st.fy
            clear x0 x1 y0 y1 hint1
            obtain ⟨y0, y1⟩ := st.y
            go_wp2_with fail
            refine (up_int _ _ _ _ 1 k (d * Q i) _ st.iy (by omega) (by omega)).mono ?_
            rintro r w4 ⟨neg4, a4, n4, c4, rfl, hint4, hb4⟩
            replace st := st.below hb4
            clear y0 y1 fy lY2
            have he : d * Q i * Q 1 = d * Q (i + 1) := by
              have e1 : Q 1 = 2 := rfl
              have e2 : Q (i + 1) = 2 * Q i := rfl
              rw [e1, e2]; grind
            have hle2 : d * Q (i + 1) ≤ n * Q j := by
              have := unhide HGE2
              rw [← he, unhide HE1]; exact this
            have hj0 : j = 0 := by
              rcases unhide HJ2 with h | h
              · exact h
              · have q1 := Q_pos i
                have q2 := Int.mul_le_mul_of_nonneg_left (show 1 ≤ Q i by omega) (show 0 ≤ d by have := (unhide HN).2; omega)
                have := unhide HGE2
                omega
            have hi3 : i < J := by
              have h1 := (unhide HJ).2
              have e0 : n * Q j = n := by rw [hj0]; show n * 1 = n; omega
              refine Nat.lt_of_not_le fun hn' => ?_
              have := Int.mul_le_mul_of_nonneg_left (Q_mono (show J + 1 ≤ i + 1 by omega)) (show 0 ≤ d by have := (unhide HN).2; omega)
              omega
            have hpos : 0 < d * Q (i + 1) := Int.mul_pos (unhide HN).2 (by have := Q_pos (i + 1); omega)
            have hfit : d * Q (i + 1) < P k := by
              have h1 := (unhide HK).1
              have e0 : n * Q j = n := by rw [hj0]; show n * 1 = n; omega
              omega
            rw [he] at hint4
            have stn := st.putY (Z := ⟨neg4, a4, n4, c4⟩) (hint4.fits (K := k) (by have := P_pos k; omega) hfit)
            have HSN := hide stn
            have HL2 := hide hle2
            have HJ0 := hide hj0
            clear stn hle2 hj0 he hpos hfit
            have lY2 := st.y.lt
            have fy := st.fy
            obtain ⟨y0, y1⟩ := st.y
            go_wp2_with fail
            go_roundw
            case rel => exact ⟨i + 1, _, by go_num, by omega, Or.inl (unhide HJ0), unhide HL2, unhide HSN⟩
            case measure => simp [intOf]; omega
        · have hc2 : cmpInt (n * Q j) (d * Q i * Q 1) < 0 := by rw [unhide HE1]; exact clt (by omega)
          have hc : ¬ 0 ≤ cmpInt (n * Q j) (d * Q i * Q 1) := by omega
          have HLT2 := hide (Int.not_le.1 hge)
          clear hge
          go_wp2_with fail
          go_region_held3 (fun w' => w'.cell? ⟨w.heap.size, 0, none⟩ = some (.bool X.neg) ∧ w'.cell? ⟨w.heap.size, 1, none⟩ = some (.slice X.a X.n X.cap) ∧ w'.cell? ⟨w.heap.size + 1, 0, none⟩ = some (.bool Y.neg) ∧ w'.cell? ⟨w.heap.size + 1, 1, none⟩ = some (.slice Y.a Y.n Y.cap)) (first | exact unhide HKr _ (by first | with_reducible exact hD0 | with_reducible exact hD2 | with_reducible exact hD1) | go_keep)
            (first
              | (go_at_call 46; have hq := hD1; refine (cmp_int _ _ _ _ _ _ _ _ _ _ (n * Q j) (d * Q i * Q 1) _ ((unhide HST).ix.below hD1) hint1).mono ?_; rintro r' w3 ⟨rfl, hb3⟩; have hD2 := bthen hD1 hb3)
              | (go_at_call 95; refine (up_int _ _ _ _ 1 k (d * Q i) _ ((unhide HST).iy.below hD0) (by omega) (by omega)).mono ?_; rintro r' w2 ⟨neg2, a2, n2, c2, rfl, hint1, hb2⟩; have hD1 := bthen hD0 hb2))
          all_goals
            have st := (unhide HST).below hD2
            have lX2 := st.x.lt
            have lY2 := st.y.lt
            have lR2 := st.no.lt
            clear x0 x1 y0 y1 hint1
            obtain ⟨y0, y1⟩ := st.y
            obtain ⟨x0, x1⟩ := st.x
            have hpd : 0 < d * Q i := Int.mul_pos (unhide HN).2 (by have := Q_pos i; omega)
            have hbal := bal_of (unhide HN).1 (unhide HN).2 rfl rfl (unhide HI).2 (unhide HLT2) (unhide HI).1
            have hbt := ofI_between m hpd (unhide HI).2 (unhide HLT2)
            have hl1 := ln_isLog hbal.1
            have HBAL := hide hbal
            have HBT := hide hbt
            have HL1 := hide hl1
            have hKK : Q (m + 20) < P (m / 16 + 20) := by
              rw [← Q_P]
              have h1 := Q_mono (show m + 20 + 1 ≤ 16 * (m / 16 + 20) by omega)
              have h2 : Q (m + 20 + 1) = 2 * Q (m + 20) := rfl
              have := Q_pos (m + 20)
              omega
            have h2K : 2 * Q m < P (m / 16 + 20) := by
              have h1 := Q_mono (show m + 1 ≤ m + 20 by omega)
              have h2 : Q (m + 1) = 2 * Q m := rfl
              omega
            have hqm := Q_pos m
            have HKK := hide hKK
            have H2K := hide h2K
            clear hbal hbt hl1 hKK h2K
            go_wp2_with fail
            refine (refRatio_any X Y k k m (n * Q j) (d * Q i) _ st.ix st.iy (by omega) (by omega) hm1 hpd).mono ?_
            rintro r w5 ⟨v5, rfl, hvb5, hvp5, hb5⟩
            replace st := st.below hb5
            have HV5 := hide hvb5
            replace hvp5 := hvp5.fits (K := m / 16 + 20) (unhide HBT).2.1 (by have := (unhide HBT).1; have := P_pos (m / 16 + 20); omega) (by have := (unhide HBT).2.2; have := unhide H2K; omega)
            clear hb5 hvb5 x0 x1 y0 y1 lX2 lY2 lR2
            go_wp2_with fail
            refine (rootLog_iv _ v5 (m / 16 + 20) m (m / 16 + 20) (ofI (n * Q j) (d * Q i) m) _ hvp5 (unhide HV5) (Nat.le_refl _) (unhide HL1).1 (iv_exp hpd (unhide HL1)) (unhide HBT).1 (unhide HBT).2.1 (unhide HBT).2.2 hm1 (by omega) (unhide HKK) (by omega) (by omega)).mono ?_
            rintro r w6 ⟨o6, hi6, ha6, v6, rfl, hvb6, hvp6, hb6⟩
            replace st := st.below hb6
            have HV6 := hide hvb6
            have HI6 := hide hi6
            have HA6 := hide ha6
            clear hb6 hvb6 hi6 ha6 hvp5
            go_wp2_with fail
            refine (refWhole _ 2 m hm1 (by decide) (by decide)).mono ?_
            rintro r w7 ⟨v7, rfl, hvb7, hvp7, hb7⟩
            replace st := st.below hb7
            replace hvp6 := hvp6.below hb7
            have HV7 := hide hvb7
            clear hb7 hvb7
            go_wp2_with fail
            refine (rootLog_iv _ v7 (m / 16 + 18) m (m / 16 + 20) (2 * Q m, 2 * Q m) _ hvp7 (unhide HV7) (by omega) isLog_two.1 whole_iv (by simp only []; omega) (Int.le_refl _) (Int.le_refl _) hm1 (by omega) (unhide HKK) (by omega) (by omega)).mono ?_
            rintro r w8 ⟨o8, hi8, ha8, v8, rfl, hvb8, hvp8, hb8⟩
            replace st := st.below hb8
            replace hvp6 := hvp6.below hb8
            have HV8 := hide hvb8
            have HI8 := hide hi8
            have HA8 := hide ha8
            clear hb8 hvb8 hi8 ha8 hvp7
            go_wp2_with fail
            refine (numOf_int ((i : Int) - (j : Int)) _ (by omega) (by omega)).mono ?_
            rintro r w9 ⟨neg9, a9, n9, c9, rfl, hint9, hb9⟩
            replace st := st.below hb9
            replace hvp6 := hvp6.below hb9
            replace hvp8 := hvp8.below hb9
            clear hb9
            go_wp2_with fail
            refine (numOf_int 1 _ (by decide) (by decide)).mono ?_
            rintro r w10 ⟨neg10, a10, n10, c10, rfl, hint10, hb10⟩
            replace st := st.below hb10
            replace hvp6 := hvp6.below hb10
            replace hvp8 := hvp8.below hb10
            replace hint9 := hint9.below hb10
            clear hb10
            go_wp2_with fail
            refine (refBy _ v8 ⟨neg9, a9, n9, c9⟩ ⟨neg10, a10, n10, c10⟩ (m / 16 + 20 + 30) 4 4 m o8 ((i : Int) - (j : Int)) 1 hvp8 hint9 hint10 (by omega) (by omega) (by omega) (by omega) (unhide HV8)).mono ?_
            rintro r w11 ⟨v11, rfl, hvb11, hvp11, hb11⟩
            replace st := st.below hb11
            replace hvp6 := hvp6.below hb11
            have HV11 := hide hvb11
            clear hb11 hvb11 hvp8 hint9 hint10
            go_wp2_with fail
            refine (refPlus_iv _ v6 v11 (m / 16 + 20 + 30 + 4 + 9) m o6 (byI o8 ((i : Int) - (j : Int)) 1) (hvp6.mono (by omega)) hvp11 (by omega) (unhide HV6)).mono ?_
            rintro r w12 ⟨v12, rfl, hvb12, hvp12, hb12⟩
            replace st := st.below hb12
            have HV12 := hide hvb12
            clear hb12 hvb12 hvp6 hvp11
            obtain ⟨z, hz⟩ : ∃ z : Int × Int, addI o6 (byI o8 ((i : Int) - (j : Int)) 1) = z := ⟨_, rfl⟩
            rw [hz] at hvp12
            have hziv : Iv b (downI z 48) (fun M => 2 * Ex.Az (zR (n * Q j) (d * Q i)) M + (((i : Int) - (j : Int) : Int) : Rat) * (2 * Ex.Az (zR 2 1) M)) := by
              have h1 := (unhide HI6).add ((unhide HI8).by_ ((i : Int) - (j : Int)) (d := 1) (by omega))
              rw [hz, unhide HM] at h1
              refine h1.to.congr (Ex.null_zero.of_eq fun M => ?_)
              have e : (((i : Int) - (j : Int) : Int) : Rat) / ((1 : Int) : Rat) = (((i : Int) - (j : Int) : Int) : Rat) := by rw [Rat.div_def, show ((1 : Int) : Rat)⁻¹ = 1 from by decide +kernel, Rat.mul_one]
              rw [e]; grind
            have hzl := bal_isLog (unhide HN).2 (unhide HBAL) (unhide HL1) isLog_two
            have hza : Abs z (3 * ((J : Int) + 1) * Q m) := by
              have h1 := byI_abs (p := 3 * Q m * (J : Int)) (n := (i : Int) - (j : Int)) (d := 1) (c := (J : Int)) (unhide HA8) (by omega) (by omega) (by omega) (by omega)
              have h2 := (unhide HA6).add h1
              rw [hz] at h2
              exact h2.mono (by rw [show 3 * ((J : Int) + 1) * Q m = 3 * Q m + 3 * Q m * (J : Int) by grind]; omega)
            have hqm2 : Q m = Q b * Q 48 := by rw [unhide HM, Q_add]
            have hda : Abs (downI z 48) (3 * ((J : Int) + 1) * Q b) := downI_abs 48 hza (by rw [hqm2, ← Int.mul_assoc]; omega)
            have HZI := hide hziv
            have HZL := hide hzl
            have HDA := hide hda
            have hkb : 3 * ((J : Int) + 1) * Q b < P (b / 16 + 10) := by
              rw [← Q_P]
              have h1 := Q_mono (show b + 13 ≤ 16 * (b / 16 + 10) by omega)
              have h2 : Q (b + 13) = Q b * 8192 := by rw [Q_add]; rfl
              have hq := Q_pos b
              have h3 := Int.mul_le_mul_of_nonneg_right (show 3 * ((J : Int) + 1) ≤ 8191 by omega) (show 0 ≤ Q b by omega)
              omega
            have HKB := hide hkb
            clear hziv hzl hza hqm2 hda hz hkb hpd
            obtain ⟨V, hV⟩ : ∃ V, V = w12.alloc (.cells #[.bool v12.ln, .slice v12.la v12.lN v12.lc, .bool v12.hn, .slice v12.ha v12.hN v12.hc, .int .i64 v12.bits] 36) := ⟨_, rfl⟩
            have bV : Below w12.heap.size w12 V := by rw [hV]; exact bl1 _ _
            replace st := st.below bV
            replace hvp12 := hvp12.below bV
            have lR := st.no.lt
            go_wp2_with fail
            rw [← hV]
            clear hV bV
            refine (refTurn_int _ v12 (m / 16 + 20 + 30 + 4 + 9 + 1) b z.1 z.2 hvp12 (by omega) (by have := unhide HV12; omega) (by have := unhide HV12; omega) (by omega) (by omega)).mono ?_
            rintro r w13 ⟨v13, rfl, hvb13, hvp13, hb13⟩
            rw [unhide HV12, show (m : Int) - (b : Int) = ((48 : Nat) : Int) by have := unhide HM; omega, downZ_nat, downZ_nat] at hvp13
            replace st := st.below hb13
            have HV13 := hide hvb13
            clear hb13 hvb13
            have hd4 := (unhide HDA).1
            have hd5 := (unhide HDA).2.2.2
            have hd6 := unhide HKB
            have hvf : SpAt w13 v13 (b / 16 + 10) (downI z 48).1 (downI z 48).2 := SpAt.fits (k := m / 16 + 20 + 30 + 4 + 9 + 1 + 62505) hvp13 (unhide HZI).le (by omega) (by omega)
            have hBf := st.be
            obtain ⟨q0, q1, q2, q3, q4, q5⟩ := st.no
            clear hvp13 hd4 hd5 hd6 st
            go_wp2_with fail
            refine bodyPost_ret (v := .agg #[.bool v13.ln, .slice v13.la v13.lN v13.lc, .bool v13.hn, .slice v13.ha v13.hN v13.hc, .int .i64 v13.bits]) (by simp [results, Tryz.results124, go_sem, q0, q1, q2, q3, q4]) rfl ⟨downI z 48, _, unhide HZL, unhide HZI, unhide HDA, v13, rfl, unhide HV13, ?_, ?_⟩
            · exact SpAt.put5 hvf q0 q1 q2 q3 q4 _ _ _ _ _
            · exact set5 hBf (by omega) _ _ _ _ _
end Go.Proofs.YtgmnknmjainababGreat
namespace Go.Proofs.YtgmnknmjainababGreat
open Go.RowKit
attribute [local go_sem ↓] Go.wp_at_zero Go.wp_at_succ
theorem refWholeZ {b : Nat} (z : Int) (hz : z = (b : Int)) (w : World) (n : Int) (hb : b ≤ 100000) (h0 : -9223372036854775808 ≤ n) (h1 : n ≤ 9223372036854775807) :
    Calls Tryz.prog 27 #[.int .i64 n, .int .i64 z] w (SpanAns w b (b / 16 + 18) (n * Q b) (n * Q b)) := by
  subst hz; exact refWhole w n b hb h0 h1
set_option maxRecDepth 100000 in
set_option maxHeartbeats 4000000 in
theorem ins_aa (w : World) (s : Sp) (K b : Nat) (lo hi m1 m2 : Int) (hs : SpAt w s K lo hi) (hbits : s.bits = (b : Int)) (hb : b ≤ 10000) (hm1 : -1000 ≤ m1) (hm2 : m1 ≤ 1000) (hm3 : -1000 ≤ m2) (hm4 : m2 ≤ 1000) (h1 : cmpInt lo (m1 * Q b) = 0) (h2 : cmpInt hi (m2 * Q b) = -1) :
    Calls Tryz.prog 15 #[.agg #[.bool s.ln, .slice s.la s.lN s.lc, .bool s.hn, .slice s.ha s.hN s.hc, .int .i64 s.bits], .int .i64 m1, .int .i64 m2] w fun r w' => r = .returned (.bool true) ∧ Below w.heap.size w w' := by
  obtain ⟨W, hW⟩ : ∃ W, W = w.alloc (.cells #[.bool s.ln, .slice s.la s.lN s.lc, .bool s.hn, .slice s.ha s.hN s.hc, .int .i64 s.bits] 28) := ⟨_, rfl⟩
  have hBW : Below w.heap.size w W := by rw [hW]; exact bl1 _ _
  have A : SpC W w.heap.size s := by rw [hW]; exact ⟨by simp [go_sem], by simp [go_sem], by simp [go_sem], by simp [go_sem], by simp [go_sem]⟩
  have HS := hide (hs.below hBW)
  have HB := hide hbits
  have H1 := hide h1
  have H2 := hide h2
  have HK := hide (show ∀ w', Below W.heap.size W w' → (w'.cell? ⟨w.heap.size, 0, none⟩ = some (.bool s.ln) ∧ w'.cell? ⟨w.heap.size, 1, none⟩ = some (.slice s.la s.lN s.lc) ∧ w'.cell? ⟨w.heap.size, 2, none⟩ = some (.bool s.hn) ∧ w'.cell? ⟨w.heap.size, 3, none⟩ = some (.slice s.ha s.hN s.hc) ∧ w'.cell? ⟨w.heap.size, 4, none⟩ = some (.int .i64 s.bits)) from fun w' hB => ⟨(A.below hB).c0, (A.below hB).c1, (A.below hB).c2, (A.below hB).c3, (A.below hB).c4⟩)
  clear hs hbits h1 h2 A
  have hf0 := fieldS0
  go_enter Tryz.func15, Tryz.ntmps15
  go_wp2
  rw [← hW]
  clear hW
  obtain ⟨x0, x1, x2, x3, x4⟩ := unhide HK _ (Below.refl _ _)
  have hD0 : Below W.heap.size W W.drew := (Below.refl _ _).drew
  go_region_held3 (fun w' => w'.cell? ⟨w.heap.size, 0, none⟩ = some (.bool s.ln) ∧ w'.cell? ⟨w.heap.size, 1, none⟩ = some (.slice s.la s.lN s.lc) ∧ w'.cell? ⟨w.heap.size, 2, none⟩ = some (.bool s.hn) ∧ w'.cell? ⟨w.heap.size, 3, none⟩ = some (.slice s.ha s.hN s.hc) ∧ w'.cell? ⟨w.heap.size, 4, none⟩ = some (.int .i64 s.bits)) (first | exact unhide HK _ (by first | with_reducible exact hD0 | with_reducible exact hD4 | with_reducible exact hD3 | with_reducible exact hD2 | with_reducible exact hD1) | go_keep)
    (first
      | (go_at_call 46; have hqq := hD3; refine (cmp_int _ _ _ _ _ _ _ _ _ _ hi (m2 * Q b) _ ((unhide HS).hi.below hD3) hs3.lo).mono ?_; rintro r' w4 ⟨rfl, hb4⟩; rw [unhide H2]; have hD4 := bthen hD3 hb4)
      | (go_at_call 27; have hqq := hD2; refine (refWholeZ s.bits (unhide HB) _ m2 (by omega) (by omega) (by omega)).mono ?_; rintro r' w3 ⟨v3, rfl, hvb3, hs3, hb3⟩; clear hvb3; have hD3 := bthen hD2 hb3)
      | (go_at_call 46; have hqq := hD1; refine (cmp_int _ _ _ _ _ _ _ _ _ _ lo (m1 * Q b) _ ((unhide HS).lo.below hD1) hs1.lo).mono ?_; rintro r' w2 ⟨rfl, hb2⟩; rw [unhide H1]; have hD2 := bthen hD1 hb2)
      | (go_at_call 27; refine (refWholeZ s.bits (unhide HB) _ m1 (by omega) (by omega) (by omega)).mono ?_; rintro r' w1 ⟨v1, rfl, hvb1, hs1, hb1⟩; clear hvb1; have hD1 := bthen hD0 hb1))
  all_goals
    go_wp2_with fail
    go_ret
    exact ⟨rfl, bthen hBW hD4⟩
set_option maxRecDepth 100000 in
set_option maxHeartbeats 4000000 in
theorem ins_ab (w : World) (s : Sp) (K b : Nat) (lo hi m1 m2 : Int) (hs : SpAt w s K lo hi) (hbits : s.bits = (b : Int)) (hb : b ≤ 10000) (hm1 : -1000 ≤ m1) (hm2 : m1 ≤ 1000) (hm3 : -1000 ≤ m2) (hm4 : m2 ≤ 1000) (h1 : cmpInt lo (m1 * Q b) = 0) (h2 : cmpInt hi (m2 * Q b) = 0) :
    Calls Tryz.prog 15 #[.agg #[.bool s.ln, .slice s.la s.lN s.lc, .bool s.hn, .slice s.ha s.hN s.hc, .int .i64 s.bits], .int .i64 m1, .int .i64 m2] w fun r w' => r = .returned (.bool true) ∧ Below w.heap.size w w' := by
  obtain ⟨W, hW⟩ : ∃ W, W = w.alloc (.cells #[.bool s.ln, .slice s.la s.lN s.lc, .bool s.hn, .slice s.ha s.hN s.hc, .int .i64 s.bits] 28) := ⟨_, rfl⟩
  have hBW : Below w.heap.size w W := by rw [hW]; exact bl1 _ _
  have A : SpC W w.heap.size s := by rw [hW]; exact ⟨by simp [go_sem], by simp [go_sem], by simp [go_sem], by simp [go_sem], by simp [go_sem]⟩
  have HS := hide (hs.below hBW)
  have HB := hide hbits
  have H1 := hide h1
  have H2 := hide h2
  have HK := hide (show ∀ w', Below W.heap.size W w' → (w'.cell? ⟨w.heap.size, 0, none⟩ = some (.bool s.ln) ∧ w'.cell? ⟨w.heap.size, 1, none⟩ = some (.slice s.la s.lN s.lc) ∧ w'.cell? ⟨w.heap.size, 2, none⟩ = some (.bool s.hn) ∧ w'.cell? ⟨w.heap.size, 3, none⟩ = some (.slice s.ha s.hN s.hc) ∧ w'.cell? ⟨w.heap.size, 4, none⟩ = some (.int .i64 s.bits)) from fun w' hB => ⟨(A.below hB).c0, (A.below hB).c1, (A.below hB).c2, (A.below hB).c3, (A.below hB).c4⟩)
  clear hs hbits h1 h2 A
  have hf0 := fieldS0
  go_enter Tryz.func15, Tryz.ntmps15
  go_wp2
  rw [← hW]
  clear hW
  obtain ⟨x0, x1, x2, x3, x4⟩ := unhide HK _ (Below.refl _ _)
  have hD0 : Below W.heap.size W W.drew := (Below.refl _ _).drew
  go_region_held3 (fun w' => w'.cell? ⟨w.heap.size, 0, none⟩ = some (.bool s.ln) ∧ w'.cell? ⟨w.heap.size, 1, none⟩ = some (.slice s.la s.lN s.lc) ∧ w'.cell? ⟨w.heap.size, 2, none⟩ = some (.bool s.hn) ∧ w'.cell? ⟨w.heap.size, 3, none⟩ = some (.slice s.ha s.hN s.hc) ∧ w'.cell? ⟨w.heap.size, 4, none⟩ = some (.int .i64 s.bits)) (first | exact unhide HK _ (by first | with_reducible exact hD0 | with_reducible exact hD4 | with_reducible exact hD3 | with_reducible exact hD2 | with_reducible exact hD1) | go_keep)
    (first
      | (go_at_call 46; have hqq := hD3; refine (cmp_int _ _ _ _ _ _ _ _ _ _ hi (m2 * Q b) _ ((unhide HS).hi.below hD3) hs3.lo).mono ?_; rintro r' w4 ⟨rfl, hb4⟩; rw [unhide H2]; have hD4 := bthen hD3 hb4)
      | (go_at_call 27; have hqq := hD2; refine (refWholeZ s.bits (unhide HB) _ m2 (by omega) (by omega) (by omega)).mono ?_; rintro r' w3 ⟨v3, rfl, hvb3, hs3, hb3⟩; clear hvb3; have hD3 := bthen hD2 hb3)
      | (go_at_call 46; have hqq := hD1; refine (cmp_int _ _ _ _ _ _ _ _ _ _ lo (m1 * Q b) _ ((unhide HS).lo.below hD1) hs1.lo).mono ?_; rintro r' w2 ⟨rfl, hb2⟩; rw [unhide H1]; have hD2 := bthen hD1 hb2)
      | (go_at_call 27; refine (refWholeZ s.bits (unhide HB) _ m1 (by omega) (by omega) (by omega)).mono ?_; rintro r' w1 ⟨v1, rfl, hvb1, hs1, hb1⟩; clear hvb1; have hD1 := bthen hD0 hb1))
  all_goals
    go_wp2_with fail
    go_ret
    exact ⟨rfl, bthen hBW hD4⟩
set_option maxRecDepth 100000 in
set_option maxHeartbeats 4000000 in
theorem ins_ba (w : World) (s : Sp) (K b : Nat) (lo hi m1 m2 : Int) (hs : SpAt w s K lo hi) (hbits : s.bits = (b : Int)) (hb : b ≤ 10000) (hm1 : -1000 ≤ m1) (hm2 : m1 ≤ 1000) (hm3 : -1000 ≤ m2) (hm4 : m2 ≤ 1000) (h1 : cmpInt lo (m1 * Q b) = 1) (h2 : cmpInt hi (m2 * Q b) = -1) :
    Calls Tryz.prog 15 #[.agg #[.bool s.ln, .slice s.la s.lN s.lc, .bool s.hn, .slice s.ha s.hN s.hc, .int .i64 s.bits], .int .i64 m1, .int .i64 m2] w fun r w' => r = .returned (.bool true) ∧ Below w.heap.size w w' := by
  obtain ⟨W, hW⟩ : ∃ W, W = w.alloc (.cells #[.bool s.ln, .slice s.la s.lN s.lc, .bool s.hn, .slice s.ha s.hN s.hc, .int .i64 s.bits] 28) := ⟨_, rfl⟩
  have hBW : Below w.heap.size w W := by rw [hW]; exact bl1 _ _
  have A : SpC W w.heap.size s := by rw [hW]; exact ⟨by simp [go_sem], by simp [go_sem], by simp [go_sem], by simp [go_sem], by simp [go_sem]⟩
  have HS := hide (hs.below hBW)
  have HB := hide hbits
  have H1 := hide h1
  have H2 := hide h2
  have HK := hide (show ∀ w', Below W.heap.size W w' → (w'.cell? ⟨w.heap.size, 0, none⟩ = some (.bool s.ln) ∧ w'.cell? ⟨w.heap.size, 1, none⟩ = some (.slice s.la s.lN s.lc) ∧ w'.cell? ⟨w.heap.size, 2, none⟩ = some (.bool s.hn) ∧ w'.cell? ⟨w.heap.size, 3, none⟩ = some (.slice s.ha s.hN s.hc) ∧ w'.cell? ⟨w.heap.size, 4, none⟩ = some (.int .i64 s.bits)) from fun w' hB => ⟨(A.below hB).c0, (A.below hB).c1, (A.below hB).c2, (A.below hB).c3, (A.below hB).c4⟩)
  clear hs hbits h1 h2 A
  have hf0 := fieldS0
  go_enter Tryz.func15, Tryz.ntmps15
  go_wp2
  rw [← hW]
  clear hW
  obtain ⟨x0, x1, x2, x3, x4⟩ := unhide HK _ (Below.refl _ _)
  have hD0 : Below W.heap.size W W.drew := (Below.refl _ _).drew
  go_region_held3 (fun w' => w'.cell? ⟨w.heap.size, 0, none⟩ = some (.bool s.ln) ∧ w'.cell? ⟨w.heap.size, 1, none⟩ = some (.slice s.la s.lN s.lc) ∧ w'.cell? ⟨w.heap.size, 2, none⟩ = some (.bool s.hn) ∧ w'.cell? ⟨w.heap.size, 3, none⟩ = some (.slice s.ha s.hN s.hc) ∧ w'.cell? ⟨w.heap.size, 4, none⟩ = some (.int .i64 s.bits)) (first | exact unhide HK _ (by first | with_reducible exact hD0 | with_reducible exact hD4 | with_reducible exact hD3 | with_reducible exact hD2 | with_reducible exact hD1) | go_keep)
    (first
      | (go_at_call 46; have hqq := hD3; refine (cmp_int _ _ _ _ _ _ _ _ _ _ hi (m2 * Q b) _ ((unhide HS).hi.below hD3) hs3.lo).mono ?_; rintro r' w4 ⟨rfl, hb4⟩; rw [unhide H2]; have hD4 := bthen hD3 hb4)
      | (go_at_call 27; have hqq := hD2; refine (refWholeZ s.bits (unhide HB) _ m2 (by omega) (by omega) (by omega)).mono ?_; rintro r' w3 ⟨v3, rfl, hvb3, hs3, hb3⟩; clear hvb3; have hD3 := bthen hD2 hb3)
      | (go_at_call 46; have hqq := hD1; refine (cmp_int _ _ _ _ _ _ _ _ _ _ lo (m1 * Q b) _ ((unhide HS).lo.below hD1) hs1.lo).mono ?_; rintro r' w2 ⟨rfl, hb2⟩; rw [unhide H1]; have hD2 := bthen hD1 hb2)
      | (go_at_call 27; refine (refWholeZ s.bits (unhide HB) _ m1 (by omega) (by omega) (by omega)).mono ?_; rintro r' w1 ⟨v1, rfl, hvb1, hs1, hb1⟩; clear hvb1; have hD1 := bthen hD0 hb1))
  all_goals
    go_wp2_with fail
    go_ret
    exact ⟨rfl, bthen hBW hD4⟩
set_option maxRecDepth 100000 in
set_option maxHeartbeats 4000000 in
theorem ins_bb (w : World) (s : Sp) (K b : Nat) (lo hi m1 m2 : Int) (hs : SpAt w s K lo hi) (hbits : s.bits = (b : Int)) (hb : b ≤ 10000) (hm1 : -1000 ≤ m1) (hm2 : m1 ≤ 1000) (hm3 : -1000 ≤ m2) (hm4 : m2 ≤ 1000) (h1 : cmpInt lo (m1 * Q b) = 1) (h2 : cmpInt hi (m2 * Q b) = 0) :
    Calls Tryz.prog 15 #[.agg #[.bool s.ln, .slice s.la s.lN s.lc, .bool s.hn, .slice s.ha s.hN s.hc, .int .i64 s.bits], .int .i64 m1, .int .i64 m2] w fun r w' => r = .returned (.bool true) ∧ Below w.heap.size w w' := by
  obtain ⟨W, hW⟩ : ∃ W, W = w.alloc (.cells #[.bool s.ln, .slice s.la s.lN s.lc, .bool s.hn, .slice s.ha s.hN s.hc, .int .i64 s.bits] 28) := ⟨_, rfl⟩
  have hBW : Below w.heap.size w W := by rw [hW]; exact bl1 _ _
  have A : SpC W w.heap.size s := by rw [hW]; exact ⟨by simp [go_sem], by simp [go_sem], by simp [go_sem], by simp [go_sem], by simp [go_sem]⟩
  have HS := hide (hs.below hBW)
  have HB := hide hbits
  have H1 := hide h1
  have H2 := hide h2
  have HK := hide (show ∀ w', Below W.heap.size W w' → (w'.cell? ⟨w.heap.size, 0, none⟩ = some (.bool s.ln) ∧ w'.cell? ⟨w.heap.size, 1, none⟩ = some (.slice s.la s.lN s.lc) ∧ w'.cell? ⟨w.heap.size, 2, none⟩ = some (.bool s.hn) ∧ w'.cell? ⟨w.heap.size, 3, none⟩ = some (.slice s.ha s.hN s.hc) ∧ w'.cell? ⟨w.heap.size, 4, none⟩ = some (.int .i64 s.bits)) from fun w' hB => ⟨(A.below hB).c0, (A.below hB).c1, (A.below hB).c2, (A.below hB).c3, (A.below hB).c4⟩)
  clear hs hbits h1 h2 A
  have hf0 := fieldS0
  go_enter Tryz.func15, Tryz.ntmps15
  go_wp2
  rw [← hW]
  clear hW
  obtain ⟨x0, x1, x2, x3, x4⟩ := unhide HK _ (Below.refl _ _)
  have hD0 : Below W.heap.size W W.drew := (Below.refl _ _).drew
  go_region_held3 (fun w' => w'.cell? ⟨w.heap.size, 0, none⟩ = some (.bool s.ln) ∧ w'.cell? ⟨w.heap.size, 1, none⟩ = some (.slice s.la s.lN s.lc) ∧ w'.cell? ⟨w.heap.size, 2, none⟩ = some (.bool s.hn) ∧ w'.cell? ⟨w.heap.size, 3, none⟩ = some (.slice s.ha s.hN s.hc) ∧ w'.cell? ⟨w.heap.size, 4, none⟩ = some (.int .i64 s.bits)) (first | exact unhide HK _ (by first | with_reducible exact hD0 | with_reducible exact hD4 | with_reducible exact hD3 | with_reducible exact hD2 | with_reducible exact hD1) | go_keep)
    (first
      | (go_at_call 46; have hqq := hD3; refine (cmp_int _ _ _ _ _ _ _ _ _ _ hi (m2 * Q b) _ ((unhide HS).hi.below hD3) hs3.lo).mono ?_; rintro r' w4 ⟨rfl, hb4⟩; rw [unhide H2]; have hD4 := bthen hD3 hb4)
      | (go_at_call 27; have hqq := hD2; refine (refWholeZ s.bits (unhide HB) _ m2 (by omega) (by omega) (by omega)).mono ?_; rintro r' w3 ⟨v3, rfl, hvb3, hs3, hb3⟩; clear hvb3; have hD3 := bthen hD2 hb3)
      | (go_at_call 46; have hqq := hD1; refine (cmp_int _ _ _ _ _ _ _ _ _ _ lo (m1 * Q b) _ ((unhide HS).lo.below hD1) hs1.lo).mono ?_; rintro r' w2 ⟨rfl, hb2⟩; rw [unhide H1]; have hD2 := bthen hD1 hb2)
      | (go_at_call 27; refine (refWholeZ s.bits (unhide HB) _ m1 (by omega) (by omega) (by omega)).mono ?_; rintro r' w1 ⟨v1, rfl, hvb1, hs1, hb1⟩; clear hvb1; have hD1 := bthen hD0 hb1))
  all_goals
    go_wp2_with fail
    go_ret
    exact ⟨rfl, bthen hBW hD4⟩
theorem ins_ok (w : World) (s : Sp) (K b : Nat) (lo hi m1 m2 : Int) (hs : SpAt w s K lo hi) (hbits : s.bits = (b : Int)) (hb : b ≤ 10000) (hm1 : -1000 ≤ m1) (hm2 : m1 ≤ 1000) (hm3 : -1000 ≤ m2) (hm4 : m2 ≤ 1000) (h1 : m1 * Q b ≤ lo) (h2 : hi ≤ m2 * Q b) :
    Calls Tryz.prog 15 #[.agg #[.bool s.ln, .slice s.la s.lN s.lc, .bool s.hn, .slice s.ha s.hN s.hc, .int .i64 s.bits], .int .i64 m1, .int .i64 m2] w fun r w' => r = .returned (.bool true) ∧ Below w.heap.size w w' := by
  rcases cmp3 lo (m1 * Q b) with ⟨e1, g1⟩ | ⟨e1, g1⟩ | ⟨e1, g1⟩
  · omega
  · rcases cmp3 hi (m2 * Q b) with ⟨e2, g2⟩ | ⟨e2, g2⟩ | ⟨e2, g2⟩
    · exact ins_aa w s K b lo hi m1 m2 hs hbits hb hm1 hm2 hm3 hm4 e1 e2
    · exact ins_ab w s K b lo hi m1 m2 hs hbits hb hm1 hm2 hm3 hm4 e1 e2
    · omega
  · rcases cmp3 hi (m2 * Q b) with ⟨e2, g2⟩ | ⟨e2, g2⟩ | ⟨e2, g2⟩
    · exact ins_ba w s K b lo hi m1 m2 hs hbits hb hm1 hm2 hm3 hm4 e1 e2
    · exact ins_bb w s K b lo hi m1 m2 hs hbits hb hm1 hm2 hm3 hm4 e1 e2
    · omega
end Go.Proofs.YtgmnknmjainababGreat
namespace Go.Proofs.YtgmnknmjainababGreat
open Go.RowKit
attribute [local go_sem ↓] Go.wp_at_zero Go.wp_at_succ
open Ex
theorem refRatio_z {b : Nat} (z : Int) (hz : z = (b : Int)) (x y : Nm) (k k2 : Nat) (n d : Int) (w : World) (h1 : IntAt w x.neg x.a x.n x.cap k n) (h2 : IntAt w y.neg y.a y.n y.cap k2 d) (hk : k ≤ 600000000) (hk2 : k2 ≤ 100000000) (hb : b ≤ 100000) (hy : 0 < d) :
    Calls Tryz.prog 54 #[.agg #[.bool x.neg, .slice x.a x.n x.cap], .agg #[.bool y.neg, .slice y.a y.n y.cap], .int .i64 z] w (SpanAns w b (k + b / 16 + 14) (ofI n d b).1 (ofI n d b).2) := by
  subst hz; exact refRatio_any x y k k2 b n d w h1 h2 hk hk2 hb hy
end Go.Proofs.YtgmnknmjainababGreat
