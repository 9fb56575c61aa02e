/-
  What wide.RareOne and tailsureref.raisedInt answer, and that they leave old memory alone.
  What wide.Sure answers of what is made by the function literals of package law.
  How likely numbers up to a last one are, by law.count, and that it leaves old memory alone.
-/
import Derived.Test.YtgmnknmjainababGreatK12
namespace Go.Proofs.YtgmnknmjainababGreat
set_option linter.unusedVariables false
set_option linter.unusedSimpArgs false
set_option linter.unnecessarySimpa false
open Go.RowKit
attribute [local go_sem ↓] Go.wp_at_zero Go.wp_at_succ

/-- A number in a block that may be written. -/
structure VnC (w : World) (B : Nat) (x : Nm) : Prop where
  c : NmC w B x
  fz : ∀ o, w.frozen? ⟨B, o, none⟩ = false
theorem VnC.lt {w : World} {B : Nat} {x : Nm} (h : VnC w B x) : B < w.heap.size := h.c.lt
theorem VnC.below {w w' : World} {B : Nat} {x : Nm} (h : VnC w B x) (hb : Below w.heap.size w w') : VnC w' B x :=
  ⟨h.c.below hb, fun o => (hb.frozen (p := ⟨B, o, none⟩) h.lt).trans (h.fz o)⟩
abbrev put2w (w : World) (B : Nat) (x : Nm) : World := (w.setCell ⟨B, 0, none⟩ (.bool x.neg)).setCell ⟨B, 1, none⟩ (.slice x.a x.n x.cap)
theorem VnC.put {w : World} {B : Nat} {x : Nm} (h : VnC w B x) (y : Nm) : VnC (put2w w B y) B y := ⟨put_nm2 h.c y, put_fz2 h.fz _ _⟩
theorem VnC.off {w : World} {B B' : Nat} {x : Nm} (h : VnC w B x) (hne : B ≠ B') (y : Nm) : VnC (put2w w B' y) B x := ⟨h.c.off hne _ _, put_fz2 h.fz _ _⟩
theorem IntAt.putv {w : World} {neg : Bool} {a : Option Addr} {n cap k : Nat} {z : Int} (h : IntAt w neg a n cap k z) {B : Nat} {x : Nm} (hx : VnC w B x) (y : Nm) : IntAt (put2w w B y) neg a n cap k z := h.put2 hx.c.c0 hx.c.c1 _ _
theorem NoC.offv {w : World} {B B' : Nat} (h : NoC w B) (hne : B ≠ B') (y : Nm) : NoC (put2w w B' y) B := by
  obtain ⟨q0, q1, q2, q3, q4, q5⟩ := h
  exact ⟨by simp [go_sem, q0, hne, Ne.symm hne], by simp [go_sem, q1, hne, Ne.symm hne], by simp [go_sem, q2, hne, Ne.symm hne], by simp [go_sem, q3, hne, Ne.symm hne], by simp [go_sem, q4, hne, Ne.symm hne], put_fz2 q5 _ _⟩
theorem vnc_new (w : World) (x : Nm) (T : TypeId) : VnC (w.alloc (.cells #[.bool x.neg, .slice x.a x.n x.cap] T)) w.heap.size x := ⟨⟨by simp, by simp⟩, fun o => by simp [go_sem]⟩

/-- What is made of a number from 0 to 1. -/
def MasPr (x : Nat → Rat) (B : Nat) (lo hi : Int) : Prop :=
  Iv B (lo, hi) x ∧ lo ≤ hi ∧ hi - lo ≤ Q 1702 ∧ 0 ≤ lo ∧ hi ≤ Q B
theorem mas_ends (bits : Nat) (x : Nat → Rat) (h : bits ≤ 120) : SureEnds bits 1702 (MasPr x) := fun m lo hi ⟨h1, h2, h3, h4, h5⟩ => by
  have := Q_mono (show bits + m ≤ 3200 + m by omega)
  have := Q_pos (3200 + m)
  rw [P200]
  exact ⟨h2, h3, by omega, by omega⟩
theorem of_pr {N D : Int} (b : Nat) (hN : 0 ≤ N) (hD : 0 < D) (h : N ≤ D) : MasPr (fun _ => (N : Rat) / (D : Rat)) b (ofI N D b).1 (ofI N D b).2 := by
  have q := Q_pos b
  have hw := ofI_wide (n := N) hD b
  have h1 := Int.mul_le_mul_of_nonneg_right h (show 0 ≤ Q b by omega)
  have q2 := Q_pos 1702
  refine ⟨Iv.of b hD, ofI_le hD b, by omega, Int.ediv_nonneg (Int.mul_nonneg hN (by omega)) (by omega), ?_⟩
  have h2 : -(Q b) ≤ -(N * Q b) / D := Int.le_ediv_of_mul_le hD (by rw [Int.neg_mul, Int.mul_comm (Q b)]; omega)
  show -(-(N * Q b) / D) ≤ Q b
  omega
open Ex in
theorem rare_pr {p q : Int} {b n t N : Nat} (hp : 0 ≤ p) (hq : 0 < q) (hb : 40 ≤ b) (hb2 : b ≤ 2000) (ht : t ≤ 17) (hsm : Abs (downI (ofI p q b) t) (Q (b - 8))) (hN : IsStop (expT b (downI (ofI p q b) t)) N) :
    let s := ofI (p ^ n) (q ^ n * fact n) b
    let e := sqI b (doneI (expT b (downI (ofI p q b) t)) N) t
    MasPr (rareX p q n) b (dvLo s.1 s.2 e.1 e.2 b) (minZ (dvHi s.1 s.2 e.1 e.2 b) (Q b)) := by
  have qb := Q_pos b
  have hD : 0 < q ^ n * fact n := Int.mul_pos (Int.pow_pos hq) (fact_pos n)
  have hP : 0 ≤ p ^ n := Int.pow_nonneg hp
  have hle := ofI_le (n := p) hq b
  have hw1 := ofI_wide (n := p) hq b
  have hp0 : 0 ≤ (ofI p q b).1 := Int.ediv_nonneg (Int.mul_nonneg hp (by omega)) (by omega)
  obtain ⟨g1, g2, g3, g4⟩ := exp_bound (ws := 1) (by omega) hsm hle (by have := Q_pos t; omega) hN
  have glow := exp_low hp0 hle ht hb hN
  have hev := exp_has (N := N) (by omega) (Iv.of b hq) hsm
  have hwb := Q_mono (wb_mono ht)
  rw [wb_17] at hwb
  have hsl := ofI_le (n := p ^ n) hD b
  have hsw := ofI_wide (n := p ^ n) hD b
  have hs0 : 0 ≤ (ofI (p ^ n) (q ^ n * fact n) b).1 := Int.ediv_nonneg (Int.mul_nonneg hP (by omega)) (by omega)
  have hsi := Iv.of b (n := p ^ n) hD
  have htou : (ofI (p ^ n) (q ^ n * fact n) b).1 ≤ (sqI b (doneI (expT b (downI (ofI p q b) t)) N) t).2 := hsi.touch_le hev null_zero (n + 1) (fun M hM => by
    have h1 := (E_term (rat_nonneg hp hq) n M (by omega)).1
    rw [tm_frac hq] at h1
    show _ ≤ E ((p : Rat) / (q : Rat)) M + 0
    grind)
  intro s e
  have hdv := hsi.dv hev hs0 (by omega)
  have hcap := hdv.cap (n + 1) (fun M hM => (rareX_bd hp hq n M (by omega)).2)
  obtain ⟨d1, d2⟩ := dv_pos (b := b) hs0 hsl (show 0 < (sqI b (doneI (expT b (downI (ofI p q b) t)) N) t).1 by omega) g1
  have hwd := dv_wide (q := Q b) (W := Q 1700) (by omega) hs0 hsw htou g1 (by
    refine Int.le_trans g4 ?_
    have e : Q 1700 = 4194304 * Q 1678 := by
      have := Q_add 22 1678
      rw [show 22 + 1678 = 1700 by omega] at this
      rw [this]; rfl
    rw [e]
    have q2 := Q_pos (wb t)
    exact Int.mul_le_mul (by omega) hwb (by omega) (by omega)) glow
  rw [← d1, ← d2] at hwd
  have e2 : Q 1702 = 4 * Q 1700 := by have h := Q_add 2 1700; rw [show 2 + 1700 = 1702 by omega] at h; rw [h]; rfl
  have q17 := Q_pos 1700
  rw [← minZ_cap] at hcap
  have hm1 : minZ (dvHi s.1 s.2 e.1 e.2 b) (Q b) ≤ dvHi s.1 s.2 e.1 e.2 b := by unfold minZ; split <;> omega
  have hm2 : minZ (dvHi s.1 s.2 e.1 e.2 b) (Q b) ≤ Q b := by unfold minZ; split <;> omega
  refine ⟨hcap, hcap.le, ?_, ?_, hm2⟩
  · show minZ (dvHi s.1 s.2 e.1 e.2 b) (Q b) - dvLo s.1 s.2 e.1 e.2 b ≤ Q 1702
    have : dvHi s.1 s.2 e.1 e.2 b - dvLo s.1 s.2 e.1 e.2 b ≤ 2 * Q 1700 + 6 := hwd
    have hq17 : 6 ≤ 2 * Q 1700 := by have := Q_mono (show 2 ≤ 1700 by omega); have e : Q 2 = 4 := rfl; omega
    omega
  · show 0 ≤ dvLo s.1 s.2 e.1 e.2 b
    have : dvLo s.1 s.2 e.1 e.2 b = s.1 * Q b / e.2 := d1
    rw [this]
    exact Int.ediv_nonneg (Int.mul_nonneg hs0 (by omega)) (by have : e.1 ≤ e.2 := g1; have : Q b + 1 ≤ 2 * e.1 := glow; omega)
/-- A factorial as the program makes it. -/
theorem fact_end {n i : Nat} (h1 : 1 ≤ i) (h2 : i = n ∨ (n ≤ 1 ∧ i = 1)) : fact i = fact n := by
  rcases h2 with rfl | ⟨h2, rfl⟩
  · rfl
  · match n, h2 with
    | 0, _ => rfl
    | 1, _ => rfl
/-- Where wide.RareOne is. -/
structure RaSt (w wr : World) (B : Nat) (X : Nm) (p q : Int) (k : Nat) (v : Int) : Prop where
  a : RaC wr w.heap.size p q
  x : VnC wr B X
  i : IntAt wr X.neg X.a X.n X.cap k v
  no : NoC wr (w.heap.size + 1)
  be : Below w.heap.size w wr
  l : w.heap.size + 1 < B
theorem RaSt.below {w wr wr' : World} {B : Nat} {X : Nm} {p q : Int} {k : Nat} {v : Int} (h : RaSt w wr B X p q k v) (hb : Below wr.heap.size wr wr') : RaSt w wr' B X p q k v :=
  ⟨h.a.below hb, h.x.below hb, h.i.below hb, h.no.below hb, bthen h.be hb, h.l⟩
theorem RaC.offv {w : World} {B B' : Nat} {p q : Int} (h : RaC w B p q) (hne : B ≠ B') (y : Nm) : RaC (put2w w B' y) B p q := by
  obtain ⟨q0, q1⟩ := h
  constructor <;> simp [go_sem, q0, q1, hne, Ne.symm hne]
theorem RaSt.put {w wr : World} {B : Nat} {X Y : Nm} {p q : Int} {k k' : Nat} {v v' : Int} (h : RaSt w wr B X p q k v) (hy : IntAt wr Y.neg Y.a Y.n Y.cap k' v') : RaSt w (put2w wr B Y) B Y p q k' v' :=
  ⟨h.a.offv (by have := h.l; omega) Y, h.x.put Y, hy.putv h.x Y, h.no.offv (by have := h.l; omega) Y, set2 h.be (by have := h.l; omega) _ _, h.l⟩

set_option maxRecDepth 100000 in
set_option maxHeartbeats 4000000 in
theorem rareOne_iv (w : World) (p q : Int) (n b : Nat) (hr : rok p q) (hp : 0 ≤ p) (hp2 : p ≤ 100 * q) (hn : n ≤ 100) (hb40 : 40 ≤ b) (hb : b ≤ 2000) :
    Calls Tryz.prog 155 #[.agg #[.int .i64 p, .int .i64 q], .int .i64 n, .int .i64 b] w (fun r w' => ∃ lo hi, MasPr (rareX p q n) b lo hi ∧ SpanAns w b 6000 lo hi r w') := by
  obtain ⟨W, hW⟩ : ∃ W, W = (w.alloc (.cells #[.int .i64 p, .int .i64 q] 23)).alloc (.cells #[.bool false, .slice none 0 0, .bool false, .slice none 0 0, .int .i64 0] 28) := ⟨_, rfl⟩
  have hBW : Below w.heap.size w W := by rw [hW]; exact bl2 _ _ _
  have A : RaC W w.heap.size p q := by rw [hW]; exact ⟨by simp [go_sem], by simp [go_sem]⟩
  have R : NoC W (w.heap.size + 1) := by rw [hW]; exact ⟨by simp [go_sem], by simp [go_sem], by simp [go_sem], by simp [go_sem], by simp [go_sem], fun o => by simp [go_sem]⟩
  have hq : 0 < q := by have := hr.2.2.1; omega
  have HR := hide hr
  obtain ⟨r1, r2, r3, r4⟩ := hr
  have lA := A.lt
  have lR := R.lt
  obtain ⟨x0, x1⟩ := A
  go_enter Tryz.func155, Tryz.ntmps155
  go_wp2_with fail
  rw [← hW]
  clear hW
  refine (raised_int q n _ (by omega) (by omega) (by omega)).mono ?_
  rintro r' w1 ⟨neg1, a1, n1, c1, rfl, hint1, hb1⟩
  have A1 : RaC w1 w.heap.size p q := RaC.below ⟨x0, x1⟩ hb1
  have R1 := R.below hb1
  have hB1 := bthen hBW hb1
  have lR1 := R1.lt
  clear R hBW hb1 x0 x1 lA lR
  obtain ⟨V1, hV1⟩ : ∃ V1, V1 = w1.alloc (.cells #[.bool neg1, .slice a1 n1 c1] 26) := ⟨_, rfl⟩
  have bV1 : Below w1.heap.size w1 V1 := by rw [hV1]; exact bl1 _ _
  have st0 : RaSt w V1 w1.heap.size ⟨neg1, a1, n1, c1⟩ p q (4 * n + 4 + 4 * 1) (q ^ n * fact 1) := ⟨A1.below bV1, by rw [hV1]; exact vnc_new w1 ⟨neg1, a1, n1, c1⟩ _, by
    have e : q ^ n * fact 1 = q ^ n := by show q ^ n * (1 * ((0 : Nat) + 1)) = _; omega
    rw [e]; exact (hint1.below bV1).mono (by omega), R1.below bV1, bthen hB1 bV1, lR1⟩
  go_wp2_with fail
  rw [← hV1]
  clear hV1 bV1 hint1 A1 R1 hB1
  obtain ⟨BX, hBX⟩ : ∃ BX, BX = w1.heap.size := ⟨_, rfl⟩
  rw [← hBX] at st0 ⊢
  clear hBX lR1
  go_loopw [8] (fun kk wr => ∃ (i : Nat) (X : Nm), kk = .int .i64 ((i : Int) + 1) ∧ 1 ≤ i ∧ (i ≤ n ∨ i = 1) ∧ RaSt w wr BX X p q (4 * n + 4 + 4 * i) (q ^ n * fact i)) (fun kk _ => n + 2 - (intOf kk).toNat)
  case atStart => exact ⟨1, _, rfl, Nat.le_refl _, Or.inr rfl, st0⟩
  case round =>
    obtain ⟨i, X, rfl, hi, hi2, st⟩ := hrel
    clear st0
    by_cases hin : i + 1 ≤ n
    · have hin1 : (i : Int) + 1 ≤ (n : Int) := by omega
      have HX := hide st.x
      have HI := hide st.i
      have HST := hide st
      clear st
      go_wp2_with fail
      have hD0 : Below wr.heap.size wr wr.drew := (Below.refl _ _).drew
      have HKm := hide (show ∀ w', Below wr.heap.size wr w' → (w'.cell? ⟨BX, 0, none⟩ = some (.bool X.neg) ∧ w'.cell? ⟨BX, 1, none⟩ = some (.slice X.a X.n X.cap)) from fun w' hB => ⟨((unhide HX).below hB).c.c0, ((unhide HX).below hB).c.c1⟩)
      refine AnyL.start (S := fun w' => w'.cell? ⟨BX, 0, none⟩ = some (.bool X.neg) ∧ w'.cell? ⟨BX, 1, none⟩ = some (.slice X.a X.n X.cap)) (l := 4) (by kernel_rfl) (unhide HKm _ hD0) (fun hHeld => ?_)
      refine AnyL.take (i := 0) (oi := { dst := some 18, op := Go.Op.load 26 (Go.Operand.tmp 7), type := 26, pos := "rare.go:23", after := #[], guard := none }) (v := .agg #[.bool X.neg, .slice X.a X.n X.cap]) rfl (by kernel_rfl) (by kernel_rfl) (by kernel_rfl) (by kernel_rfl) (fun _ _ _ h => h) (Or.inl ⟨by rfl, fun w hSw => ?_⟩) hHeld ?_
      · obtain ⟨s0, s1⟩ := hSw; go_simp
      try simp only [Act.put, List.setIfInBounds_toArray, List.set_cons_zero, List.set_cons_succ]
      refine AnyL.take (i := 1) (oi := { dst := some 19, op := Go.Op.move (Go.Operand.tmp 8), type := 3, pos := "rare.go:23", after := #[], guard := none }) (v := .int .i64 ((i : Int) + 1)) rfl (by kernel_rfl) (by kernel_rfl) (by kernel_rfl) (by kernel_rfl) (fun _ _ _ h => h) (Or.inl ⟨by rfl, fun w hSw => ?_⟩) hHeld ?_
      · obtain ⟨s0, s1⟩ := hSw; go_simp
      try simp only [Act.put, List.setIfInBounds_toArray, List.set_cons_zero, List.set_cons_succ]
      refine AnyL.one (i := 2) (o := { dst := some 20, op := Go.Op.call { callee := Go.Callee.value (Go.Operand.func 43), args := #[Go.Operand.tmp 19], argTypes := #[3] }, type := 26, pos := "rare.go:23", after := #[{ on := 1, ground := Go.Ground.data }], guard := none }) (by kernel_rfl) rfl (fun Kc hKc => ?_)
      go_simp
      refine (numOf_int ((i : Int) + 1) _ (by omega) (by omega)).mono ?_
      rintro r' w1 ⟨neg1, a1, n1, c1, rfl, hint1, hb1⟩
      have hD1 := bthen hD0 hb1
      clear hb1
      go_wp2_with fail
      refine hKc.out _ _ (unhide HKm _ hD1) (fun hHeld => ?_)
      clear hKc Kc
      try simp only [Act.put, List.setIfInBounds_toArray, List.set_cons_zero, List.set_cons_succ]
      refine AnyL.one (i := 3) (o := { dst := some 21, op := Go.Op.call { callee := Go.Callee.value (Go.Operand.func 66), args := #[Go.Operand.tmp 18, Go.Operand.tmp 20], argTypes := #[26, 26] }, type := 26, pos := "rare.go:23", after := #[{ on := 0, ground := Go.Ground.data }, { on := 2, ground := Go.Ground.data }, { on := 2, ground := Go.Ground.chain }], guard := none }) (by kernel_rfl) rfl (fun Kc hKc => ?_)
      go_simp
      refine (mul_int _ _ _ _ _ _ _ _ (4 * n + 4 + 4 * i) 4 (q ^ n * fact i) ((i : Int) + 1) _ ((unhide HI).below hD1) hint1 (by omega) (by omega)).mono ?_
      rintro r' w2 ⟨neg2, a2, n2, c2, rfl, hint2, hb2⟩
      have hD2 := bthen hD1 hb2
      clear hb2 hint1
      go_wp2_with fail
      refine hKc.out _ _ (unhide HKm _ hD2) (fun hHeld => ?_)
      clear hKc Kc
      try simp only [Act.put, List.setIfInBounds_toArray, List.set_cons_zero, List.set_cons_succ]
      have VX := (unhide HX).below hD2
      have lX := VX.lt
      obtain ⟨⟨z0, z1⟩, zf⟩ := VX
      refine AnyL.last (o := { dst := none, op := Go.Op.store 26 (Go.Operand.tmp 7) (Go.Operand.tmp 21), type := 0, pos := "rare.go:23", after := #[{ on := 3, ground := Go.Ground.data }, { on := 3, ground := Go.Ground.chain }, { on := 0, ground := Go.Ground.phase }, { on := 1, ground := Go.Ground.phase }, { on := 2, ground := Go.Ground.phase }, { on := 3, ground := Go.Ground.phase }], guard := none }) (by kernel_rfl) rfl (by kernel_rfl) (fun Kc hKc => ?_)
      go_simp
      refine hKc.out _ _ ?_
      clear hKc Kc z0 z1 zf HKm
      have stn := ((unhide HST).below hD2).put (Y := ⟨neg2, a2, n2, c2⟩) hint2
      unfold put2w at stn
      rw [show q ^ n * fact i * ((i : Int) + 1) = q ^ n * fact (i + 1) by rw [Int.mul_assoc]; rfl] at stn
      go_wp2_with fail
      go_roundw
      case rel => exact ⟨i + 1, _, by go_num, by omega, Or.inl (by omega), stn⟩
      case measure => simp [intOf]; omega
    · have hin1 : ¬ (i : Int) + 1 ≤ (n : Int) := by omega
      have hfe := fact_end (n := n) hi (by omega)
      have HI := hide (show IntAt wr X.neg X.a X.n X.cap 900 (q ^ n * fact n) by rw [← hfe]; exact st.i.mono (by omega))
      have hD0 : Below wr.heap.size wr wr.drew := (Below.refl _ _).drew
      have HK := hide (show ∀ w', Below wr.heap.size wr w' → ( w'.cell? ⟨w.heap.size, 0, none⟩ = some (.int .i64 p) ∧ w'.cell? ⟨w.heap.size, 1, none⟩ = some (.int .i64 q) ∧ w'.cell? ⟨BX, 0, none⟩ = some (.bool X.neg) ∧ w'.cell? ⟨BX, 1, none⟩ = some (.slice X.a X.n X.cap)) from fun w' hB => ⟨(st.a.below hB).c0, (st.a.below hB).c1, (st.x.below hB).c.c0, (st.x.below hB).c.c1⟩)
      have la := st.a.lt
      have lx := st.x.lt
      have lr := st.no.lt
      have lb := st.l
      have R := st.no
      have hBr := st.be
      have n1 : w.heap.size ≠ w.heap.size + 1 := by omega
      have n2 : w.heap.size + 1 ≠ w.heap.size := by omega
      have n3 : BX ≠ w.heap.size + 1 := by omega
      have n4 : w.heap.size + 1 ≠ BX := by omega
      have hD : 0 < q ^ n * fact n := Int.mul_pos (Int.pow_pos hq) (fact_pos n)
      obtain ⟨lz, t, N, e1, e2, e3, e4, e5⟩ := exp_set (B := b) (e := 7) (by omega) (ofI_le (n := p) hq b) (by
        have h1 := Int.mul_le_mul_of_nonneg_right hp2 (show 0 ≤ Q b by have := Q_pos b; omega)
        have h2 := Int.mul_nonneg hp (show 0 ≤ Q b by have := Q_pos b; omega)
        have h3 : 100 * q * Q b = 100 * Q b * q := by grind
        have := abs_reach (ofI_abs (n := p) (m := 100 * Q b) hq b (by omega) (by omega))
        have e9 : Q (b + 7) = Q b * 128 := by rw [Q_add]; rfl
        have := Q_pos b
        omega)
      have HT := hide (And.intro e1 (And.intro e2 (And.intro e4 e5)))
      have HPR := hide (rare_pr (n := n) hp hq hb40 hb (by omega) e4 e5)
      have HEF := hide (show Q (b + eb t) < P 1000 by
        have := eb_mono (show t ≤ 17 by omega)
        rw [eb_17] at this
        rw [← Q_P]
        have h1 := Q_mono (show b + eb t + 1 ≤ 16 * 1000 by omega)
        have h2 : Q (b + eb t + 1) = 2 * Q (b + eb t) := rfl
        have := Q_pos (b + eb t)
        omega)
      have HSL := hide (ofI_le (n := p ^ n) hD b)
      clear e1 e2 e4 e5 st hfe
      obtain ⟨y0, y1, y2, y3⟩ := unhide HK _ (Below.refl _ _)
      go_wp2_with fail
      go_region_held3 (fun w' =>  w'.cell? ⟨w.heap.size, 0, none⟩ = some (.int .i64 p) ∧ w'.cell? ⟨w.heap.size, 1, none⟩ = some (.int .i64 q) ∧ w'.cell? ⟨BX, 0, none⟩ = some (.bool X.neg) ∧ w'.cell? ⟨BX, 1, none⟩ = some (.slice X.a X.n X.cap)) (first | exact unhide HK _ (by first | with_reducible exact hD0 | with_reducible exact hD4 | with_reducible exact hD3 | with_reducible exact hD2 | with_reducible exact hD1) | go_keep)
        (first
          | (go_at_call 145; have hqq := hD3; refine (upToOne_int _ v3 (b / 16 + 1000 + 10) b _ _ hs3 (unhide HV3) (by omega) (by omega) (by omega)).mono ?_; rintro r' w5 ⟨v4, rfl, hvb4, hs4, hb5⟩; have HV4 := hide hvb4; clear hvb4; have hD4 := bthen hD3 hb5; obtain ⟨q0, q1, q2, q3, q4, q5⟩ := R.below hD4; obtain ⟨z0, z1, z2, z3⟩ := unhide HK _ hD4)
          | (go_at_call 186; have hqq := hD2; refine (overExp_iv _ v2 p q 1000 b t N lz (ofI (p ^ n) (q ^ n * fact n) b) (SpAt.mono hs2 (by omega)) (unhide HV2) (unhide HSL) (unhide HR) hb40 (by omega) hp (unhide HT).1 (unhide HT).2.1 (by omega) (unhide HT).2.2.1 (unhide HT).2.2.2 (unhide HEF) (by omega) (by omega)).mono ?_; rintro r' w4 ⟨v3, rfl, hvb3, hs3, hb4⟩; have HV3 := hide hvb3; clear hvb3; have hD3 := bthen hD2 hb4)
          | (go_at_call 140; have hqq := hD1; refine (wideOf_any _ _ _ _ _ _ _ _ (4 * n + 4) 900 b (p ^ n) (q ^ n * fact n) _ hint1 ((unhide HI).below hD1) (by omega) (by omega) hD).mono ?_; rintro r' w3 ⟨v2, rfl, hvb2, hs2, hb3⟩; have HV2 := hide hvb2; clear hvb2; have hD2 := bthen hD1 hb3)
          | (go_at_call 154; refine (raised_int p n _ (by omega) (by omega) (by omega)).mono ?_; rintro r' w2 ⟨neg2, a2, n2, c2, rfl, hint1, hb2⟩; have hD1 := bthen hD0 hb2))
      all_goals
        go_wp2_with fail
        refine bodyPost_ret (v := .agg #[.bool v4.ln, .slice v4.la v4.lN v4.lc, .bool v4.hn, .slice v4.ha v4.hN v4.hc, .int .i64 v4.bits]) (by simp [results, Tryz.results155, go_sem, q0, q1, q2, q3, q4]) rfl ⟨_, _, unhide HPR, v4, rfl, unhide HV4, ?_, ?_⟩
        · exact SpAt.put5 (hs4.mono (by omega)) q0 q1 q2 q3 q4 _ _ _ _ _
        · exact set5 (bthen hBr hD4) (by omega) _ _ _ _ _
end Go.Proofs.YtgmnknmjainababGreat

namespace Go.Proofs.YtgmnknmjainababGreat
set_option linter.unusedVariables false
set_option linter.unusedSimpArgs false
set_option linter.unnecessarySimpa false
open Go.RowKit
attribute [local go_sem ↓] Go.wp_at_zero Go.wp_at_succ

set_option maxRecDepth 100000 in
set_option maxHeartbeats 4000000 in
theorem sure_lawmade (p1 p2 p3 : Value) (bits Kw KD : Nat) (Pr : Nat → Int → Int → Prop) (W : World) (hb : bits ≤ 120) (hKw : Kw ≤ 900000) (hKD : KD ≤ 100000000) (hE : SureEnds bits Kw Pr)
    (hF : ∀ (m : Nat) w', 32 ≤ m → m ≤ Kw + 120 → Below W.heap.size W w' → Calls Tryz.prog 184 #[.int .i64 ((bits : Int) + m), p1, p2, p3] w' (fun r w'' => ∃ lo hi, Pr (bits + m) lo hi ∧ SpanAns w' ((bits : Int) + m) KD lo hi r w'')) :
    Calls Tryz.prog 74 #[.int .i64 bits, .func (.func 184) #[] #[p1, p2, p3]] W (fun r w' => ∃ L H, SureOf bits Pr L H ∧ SpanAns W bits 250 L H r w') := by
  have HF := hide hF
  have HE := hide hE
  clear hF hE
  have hR0 := noc_new W 28
  go_enter Tryz.func74, Tryz.ntmps74
  go_wp2_with fail
  go_loopw [5, 6] (fun mm tt wr => ∃ m t : Nat, mm = .int .i64 (m : Int) ∧ tt = .int .i64 (t : Int) ∧ SureInv Kw m t ∧ NoC wr W.heap.size ∧ Below W.heap.size W wr) (fun mm _ _ => Kw + 200 - (intOf mm).toNat)
  case atStart => exact ⟨32, 1, rfl, rfl, ⟨Nat.le_refl _, Nat.le_refl _, by omega, Or.inl ⟨by omega, by omega⟩⟩, hR0, bl1 _ _⟩
  case round =>
    obtain ⟨m, t, rfl, rfl, hinv, R, hB⟩ := hrel
    obtain ⟨hm, ht, htm, hmt⟩ := hinv
    have hmK : m ≤ Kw + 120 := by omega
    have HI := hide hmt
    clear hmt
    go_wp2_with fail
    refine (unhide HF m _ hm hmK hB).mono ?_
    rintro r w1 ⟨lo, hi, hPr, s, rfl, hsb, hsp, hb1⟩
    replace R := R.below hb1
    replace hB := bthen hB hb1
    clear hb1
    obtain ⟨e1, e2, e3, e4⟩ := unhide HE m lo hi hPr
    obtain ⟨v1, v2, v3⟩ := to_width (m := m) e1 e2
    obtain ⟨f1, f2⟩ := to_fit e3 e4
    have HPr := hide hPr
    have HV := hide (And.intro v2 v3)
    have hs0 : 0 ≤ s.bits := by omega
    have hs1 : s.bits ≤ 1000000 := by omega
    have d1 : downZ lo (s.bits - bits) = lo / Q m := by unfold downZ; rw [hsb, if_pos (by omega)]; congr 2; omega
    have d2 : downZ (-hi) (s.bits - bits) = -hi / Q m := by unfold downZ; rw [hsb, if_pos (by omega)]; congr 2; omega
    have HD1 := hide d1
    have HD2 := hide d2
    clear hPr e1 e2 e3 e4 v2 v3 d1 d2 hsb
    go_wp2_with fail
    refine (wideTo_int _ s KD bits lo hi hsp (by omega) hs0 hs1 (by omega) (by omega)).mono ?_
    rintro r w2 ⟨u, rfl, hub, hup, hb2⟩
    rw [unhide HD1, unhide HD2] at hup
    obtain ⟨L, hL⟩ : ∃ L, L = lo / Q m := ⟨_, rfl⟩
    obtain ⟨H, hH⟩ : ∃ H, H = -(-hi / Q m) := ⟨_, rfl⟩
    rw [← hL, ← hH] at hup v1
    rw [← hL] at f1
    rw [← hH] at f2
    have HV2 := hide (show (Kw ≤ m → H - L ≤ 2) ∧ (m ≤ Kw → H - L ≤ Q (Kw - m) + 1) by rw [hL, hH]; exact unhide HV)
    have HL := hide hL
    have HH := hide hH
    replace hup := hup.fits (K := 250) (by omega) f1 f2
    replace R := R.below hb2
    replace hB := bthen hB hb2
    have HUB := hide hub
    clear hb2 hL hH hub hs0 hs1 HD1 HD2 HV hsp
    have lR := R.lt
    obtain ⟨V, hV⟩ : ∃ V, V = w2.alloc (.cells #[.bool u.ln, .slice u.la u.lN u.lc, .bool u.hn, .slice u.ha u.hN u.hc, .int .i64 u.bits] 28) := ⟨_, rfl⟩
    have bV : Below w2.heap.size w2 V := by rw [hV]; exact bl1 _ _
    have U : SpC V w2.heap.size u := by rw [hV]; exact ⟨by simp, by simp, by simp, by simp, by simp⟩
    replace R := R.below bV
    replace hB := bthen hB bV
    replace hup := hup.below bV
    clear bV
    go_wp2_with fail
    rw [← hV]
    clear hV
    refine (sub_int _ _ _ _ _ _ _ _ 250 250 H L _ hup.hi hup.lo (by omega) (by omega)).mono ?_
    rintro r w3 ⟨neg3, a3, n3, c3, rfl, hint3, hb3⟩
    replace U := U.below hb3
    replace R := R.below hb3
    replace hB := bthen hB hb3
    replace hup := hup.below hb3
    clear hb3
    go_wp2_with fail
    refine (len_int _ _ _ _ _ (H - L) _ hint3 v1).mono ?_
    rintro r w4 ⟨l, hlen, rfl, hb4⟩
    replace U := U.below hb4
    replace R := R.below hb4
    replace hB := bthen hB hb4
    replace hup := hup.below hb4
    clear hb4 hint3
    have hlb : 0 ≤ l ∧ l ≤ Kw + 2 ∧ (m ≤ Kw → l ≤ Kw - m + 2) ∧ (Kw ≤ m → l ≤ 2) := by
      obtain ⟨g1, g2⟩ := unhide HV2
      refine ⟨hlen.1, ?_, fun h => ?_, fun h => ?_⟩
      · rcases Nat.le_total m Kw with h | h
        · have := len_bd (K := Kw - m) hlen (g2 h) v1; omega
        · have := len_two hlen (g1 h) v1; omega
      · have := len_bd (K := Kw - m) hlen (g2 h) v1; omega
      · exact len_two hlen (g1 h) v1
    obtain ⟨hl0, hl1, hl2, hl3⟩ := hlb
    have HL2 := hide (And.intro hl2 hl3)
    have HLen := hide hlen
    clear hl2 hl3 hlen
    have lU := U.lt
    have lR2 := R.lt
    have nRU : W.heap.size ≠ w2.heap.size := by omega
    have nRU' : w2.heap.size ≠ W.heap.size := by omega
    have HU := hide U
    obtain ⟨x0, x1, x2, x3, x4⟩ := U
    by_cases hc : l ≤ 1
    · have hN := R
      obtain ⟨q0, q1, q2, q3, q4, q5⟩ := R
      have Hc := hide hc
      go_wp2_with fail
      refine bodyPost_ret (v := .agg #[.bool u.ln, .slice u.la u.lN u.lc, .bool u.hn, .slice u.ha u.hN u.hc, .int .i64 u.bits]) (by simp [results, Tryz.results74, go_sem, q0, q1, q2, q3, q4]) rfl ⟨L, H, ⟨m, lo, hi, unhide HPr, hm, unhide HL, unhide HH, Or.inl (len_one (unhide HLen) (unhide Hc) v1)⟩, u, rfl, unhide HUB, ?_, ?_⟩
      · exact SpAt.put5 hup q0 q1 q2 q3 q4 _ _ _ _ _
      · exact set5 hB (Nat.le_refl _) _ _ _ _ _
    · by_cases ht3 : 3 ≤ t
      · have ht3' : (3 : Int) ≤ (t : Int) := by omega
        cases hn : narB L H (Q bits) 4
        · have hmK2 : m < Kw := by
            refine Nat.lt_of_not_le fun h => ?_
            have h5 := (unhide HV2).1 h
            rw [narB_small (by omega) (by omega)] at hn
            cases hn
          go_wp2_with fail
          refine (narrow_int _ u bits 4 L H hup (unhide HUB) hb (by omega)).mono ?_
          rintro r w5 ⟨rfl, hb5⟩
          rw [show narB L H (Q bits) ((4 : Nat) : Int) = false from hn]
          replace R := R.below hb5
          replace hB := bthen hB hb5
          go_wp2_with fail
          go_roundw
          case rel => exact ⟨m + l.toNat + 32, t + 1, by congr 1; omega, by congr 1, ⟨by omega, by omega, by omega, Or.inr (by have := (unhide HL2).1; omega)⟩, R, hB⟩
          case measure => simp [intOf]; omega
        · go_wp2_with fail
          refine (narrow_int _ u bits 4 L H hup (unhide HUB) hb (by omega)).mono ?_
          rintro r w5 ⟨rfl, hb5⟩
          rw [show narB L H (Q bits) ((4 : Nat) : Int) = true from hn]
          replace R := R.below hb5
          replace hB := bthen hB hb5
          replace hup := hup.below hb5
          obtain ⟨y0, y1, y2, y3, y4⟩ := (unhide HU).below hb5
          obtain ⟨q0, q1, q2, q3, q4, q5⟩ := R
          have lU2 := Nat.lt_of_lt_of_le lU hb5.size
          have lR3 := Nat.lt_of_lt_of_le lR2 hb5.size
          clear hb5 x0 x1 x2 x3 x4
          go_wp2_with fail
          refine bodyPost_ret (v := .agg #[.bool u.ln, .slice u.la u.lN u.lc, .bool u.hn, .slice u.ha u.hN u.hc, .int .i64 u.bits]) (by simp [results, Tryz.results74, go_sem, q0, q1, q2, q3, q4]) rfl ⟨L, H, ⟨m, lo, hi, unhide HPr, hm, unhide HL, unhide HH, Or.inr hn⟩, u, rfl, unhide HUB, ?_, ?_⟩
          · exact SpAt.put5 hup q0 q1 q2 q3 q4 _ _ _ _ _
          · exact set5 hB (Nat.le_refl _) _ _ _ _ _
      · have ht3' : ¬ (3 : Int) ≤ (t : Int) := by omega
        go_wp2_with fail
        go_roundw
        case rel => exact ⟨m + l.toNat + 32, t + 1, by congr 1; omega, by congr 1, ⟨by omega, by omega, by omega, by
          have g1 := (unhide HL2).1
          have g2 := (unhide HL2).2
          have g3 := unhide HI
          rcases Nat.le_total m Kw with h | h
          · have := g1 h; exact Or.inr (by omega)
          · have := g2 h; exact Or.inl ⟨by omega, by omega⟩⟩, R, hB⟩
        case measure => simp [intOf]; omega

set_option maxRecDepth 100000 in
set_option maxHeartbeats 4000000 in
theorem sure_mass (p1 p2 : Value) (bits Kw KD : Nat) (Pr : Nat → Int → Int → Prop) (W : World) (hb : bits ≤ 120) (hKw : Kw ≤ 900000) (hKD : KD ≤ 100000000) (hE : SureEnds bits Kw Pr)
    (hF : ∀ (m : Nat) w', 32 ≤ m → m ≤ Kw + 120 → Below W.heap.size W w' → Calls Tryz.prog 86 #[.int .i64 ((bits : Int) + m), p1, p2] w' (fun r w'' => ∃ lo hi, Pr (bits + m) lo hi ∧ SpanAns w' ((bits : Int) + m) KD lo hi r w'')) :
    Calls Tryz.prog 74 #[.int .i64 bits, .func (.func 86) #[] #[p1, p2]] W (fun r w' => ∃ L H, SureOf bits Pr L H ∧ SpanAns W bits 250 L H r w') := by
  have HF := hide hF
  have HE := hide hE
  clear hF hE
  have hR0 := noc_new W 28
  go_enter Tryz.func74, Tryz.ntmps74
  go_wp2_with fail
  go_loopw [5, 6] (fun mm tt wr => ∃ m t : Nat, mm = .int .i64 (m : Int) ∧ tt = .int .i64 (t : Int) ∧ SureInv Kw m t ∧ NoC wr W.heap.size ∧ Below W.heap.size W wr) (fun mm _ _ => Kw + 200 - (intOf mm).toNat)
  case atStart => exact ⟨32, 1, rfl, rfl, ⟨Nat.le_refl _, Nat.le_refl _, by omega, Or.inl ⟨by omega, by omega⟩⟩, hR0, bl1 _ _⟩
  case round =>
    obtain ⟨m, t, rfl, rfl, hinv, R, hB⟩ := hrel
    obtain ⟨hm, ht, htm, hmt⟩ := hinv
    have hmK : m ≤ Kw + 120 := by omega
    have HI := hide hmt
    clear hmt
    go_wp2_with fail
    refine (unhide HF m _ hm hmK hB).mono ?_
    rintro r w1 ⟨lo, hi, hPr, s, rfl, hsb, hsp, hb1⟩
    replace R := R.below hb1
    replace hB := bthen hB hb1
    clear hb1
    obtain ⟨e1, e2, e3, e4⟩ := unhide HE m lo hi hPr
    obtain ⟨v1, v2, v3⟩ := to_width (m := m) e1 e2
    obtain ⟨f1, f2⟩ := to_fit e3 e4
    have HPr := hide hPr
    have HV := hide (And.intro v2 v3)
    have hs0 : 0 ≤ s.bits := by omega
    have hs1 : s.bits ≤ 1000000 := by omega
    have d1 : downZ lo (s.bits - bits) = lo / Q m := by unfold downZ; rw [hsb, if_pos (by omega)]; congr 2; omega
    have d2 : downZ (-hi) (s.bits - bits) = -hi / Q m := by unfold downZ; rw [hsb, if_pos (by omega)]; congr 2; omega
    have HD1 := hide d1
    have HD2 := hide d2
    clear hPr e1 e2 e3 e4 v2 v3 d1 d2 hsb
    go_wp2_with fail
    refine (wideTo_int _ s KD bits lo hi hsp (by omega) hs0 hs1 (by omega) (by omega)).mono ?_
    rintro r w2 ⟨u, rfl, hub, hup, hb2⟩
    rw [unhide HD1, unhide HD2] at hup
    obtain ⟨L, hL⟩ : ∃ L, L = lo / Q m := ⟨_, rfl⟩
    obtain ⟨H, hH⟩ : ∃ H, H = -(-hi / Q m) := ⟨_, rfl⟩
    rw [← hL, ← hH] at hup v1
    rw [← hL] at f1
    rw [← hH] at f2
    have HV2 := hide (show (Kw ≤ m → H - L ≤ 2) ∧ (m ≤ Kw → H - L ≤ Q (Kw - m) + 1) by rw [hL, hH]; exact unhide HV)
    have HL := hide hL
    have HH := hide hH
    replace hup := hup.fits (K := 250) (by omega) f1 f2
    replace R := R.below hb2
    replace hB := bthen hB hb2
    have HUB := hide hub
    clear hb2 hL hH hub hs0 hs1 HD1 HD2 HV hsp
    have lR := R.lt
    obtain ⟨V, hV⟩ : ∃ V, V = w2.alloc (.cells #[.bool u.ln, .slice u.la u.lN u.lc, .bool u.hn, .slice u.ha u.hN u.hc, .int .i64 u.bits] 28) := ⟨_, rfl⟩
    have bV : Below w2.heap.size w2 V := by rw [hV]; exact bl1 _ _
    have U : SpC V w2.heap.size u := by rw [hV]; exact ⟨by simp, by simp, by simp, by simp, by simp⟩
    replace R := R.below bV
    replace hB := bthen hB bV
    replace hup := hup.below bV
    clear bV
    go_wp2_with fail
    rw [← hV]
    clear hV
    refine (sub_int _ _ _ _ _ _ _ _ 250 250 H L _ hup.hi hup.lo (by omega) (by omega)).mono ?_
    rintro r w3 ⟨neg3, a3, n3, c3, rfl, hint3, hb3⟩
    replace U := U.below hb3
    replace R := R.below hb3
    replace hB := bthen hB hb3
    replace hup := hup.below hb3
    clear hb3
    go_wp2_with fail
    refine (len_int _ _ _ _ _ (H - L) _ hint3 v1).mono ?_
    rintro r w4 ⟨l, hlen, rfl, hb4⟩
    replace U := U.below hb4
    replace R := R.below hb4
    replace hB := bthen hB hb4
    replace hup := hup.below hb4
    clear hb4 hint3
    have hlb : 0 ≤ l ∧ l ≤ Kw + 2 ∧ (m ≤ Kw → l ≤ Kw - m + 2) ∧ (Kw ≤ m → l ≤ 2) := by
      obtain ⟨g1, g2⟩ := unhide HV2
      refine ⟨hlen.1, ?_, fun h => ?_, fun h => ?_⟩
      · rcases Nat.le_total m Kw with h | h
        · have := len_bd (K := Kw - m) hlen (g2 h) v1; omega
        · have := len_two hlen (g1 h) v1; omega
      · have := len_bd (K := Kw - m) hlen (g2 h) v1; omega
      · exact len_two hlen (g1 h) v1
    obtain ⟨hl0, hl1, hl2, hl3⟩ := hlb
    have HL2 := hide (And.intro hl2 hl3)
    have HLen := hide hlen
    clear hl2 hl3 hlen
    have lU := U.lt
    have lR2 := R.lt
    have nRU : W.heap.size ≠ w2.heap.size := by omega
    have nRU' : w2.heap.size ≠ W.heap.size := by omega
    have HU := hide U
    obtain ⟨x0, x1, x2, x3, x4⟩ := U
    by_cases hc : l ≤ 1
    · have hN := R
      obtain ⟨q0, q1, q2, q3, q4, q5⟩ := R
      have Hc := hide hc
      go_wp2_with fail
      refine bodyPost_ret (v := .agg #[.bool u.ln, .slice u.la u.lN u.lc, .bool u.hn, .slice u.ha u.hN u.hc, .int .i64 u.bits]) (by simp [results, Tryz.results74, go_sem, q0, q1, q2, q3, q4]) rfl ⟨L, H, ⟨m, lo, hi, unhide HPr, hm, unhide HL, unhide HH, Or.inl (len_one (unhide HLen) (unhide Hc) v1)⟩, u, rfl, unhide HUB, ?_, ?_⟩
      · exact SpAt.put5 hup q0 q1 q2 q3 q4 _ _ _ _ _
      · exact set5 hB (Nat.le_refl _) _ _ _ _ _
    · by_cases ht3 : 3 ≤ t
      · have ht3' : (3 : Int) ≤ (t : Int) := by omega
        cases hn : narB L H (Q bits) 4
        · have hmK2 : m < Kw := by
            refine Nat.lt_of_not_le fun h => ?_
            have h5 := (unhide HV2).1 h
            rw [narB_small (by omega) (by omega)] at hn
            cases hn
          go_wp2_with fail
          refine (narrow_int _ u bits 4 L H hup (unhide HUB) hb (by omega)).mono ?_
          rintro r w5 ⟨rfl, hb5⟩
          rw [show narB L H (Q bits) ((4 : Nat) : Int) = false from hn]
          replace R := R.below hb5
          replace hB := bthen hB hb5
          go_wp2_with fail
          go_roundw
          case rel => exact ⟨m + l.toNat + 32, t + 1, by congr 1; omega, by congr 1, ⟨by omega, by omega, by omega, Or.inr (by have := (unhide HL2).1; omega)⟩, R, hB⟩
          case measure => simp [intOf]; omega
        · go_wp2_with fail
          refine (narrow_int _ u bits 4 L H hup (unhide HUB) hb (by omega)).mono ?_
          rintro r w5 ⟨rfl, hb5⟩
          rw [show narB L H (Q bits) ((4 : Nat) : Int) = true from hn]
          replace R := R.below hb5
          replace hB := bthen hB hb5
          replace hup := hup.below hb5
          obtain ⟨y0, y1, y2, y3, y4⟩ := (unhide HU).below hb5
          obtain ⟨q0, q1, q2, q3, q4, q5⟩ := R
          have lU2 := Nat.lt_of_lt_of_le lU hb5.size
          have lR3 := Nat.lt_of_lt_of_le lR2 hb5.size
          clear hb5 x0 x1 x2 x3 x4
          go_wp2_with fail
          refine bodyPost_ret (v := .agg #[.bool u.ln, .slice u.la u.lN u.lc, .bool u.hn, .slice u.ha u.hN u.hc, .int .i64 u.bits]) (by simp [results, Tryz.results74, go_sem, q0, q1, q2, q3, q4]) rfl ⟨L, H, ⟨m, lo, hi, unhide HPr, hm, unhide HL, unhide HH, Or.inr hn⟩, u, rfl, unhide HUB, ?_, ?_⟩
          · exact SpAt.put5 hup q0 q1 q2 q3 q4 _ _ _ _ _
          · exact set5 hB (Nat.le_refl _) _ _ _ _ _
      · have ht3' : ¬ (3 : Int) ≤ (t : Int) := by omega
        go_wp2_with fail
        go_roundw
        case rel => exact ⟨m + l.toNat + 32, t + 1, by congr 1; omega, by congr 1, ⟨by omega, by omega, by omega, by
          have g1 := (unhide HL2).1
          have g2 := (unhide HL2).2
          have g3 := unhide HI
          rcases Nat.le_total m Kw with h | h
          · have := g1 h; exact Or.inr (by omega)
          · have := g2 h; exact Or.inl ⟨by omega, by omega⟩⟩, R, hB⟩
        case measure => simp [intOf]; omega
end Go.Proofs.YtgmnknmjainababGreat

namespace Go.Proofs.YtgmnknmjainababGreat
set_option linter.unusedVariables false
set_option linter.unusedSimpArgs false
set_option linter.unnecessarySimpa false
open Go.RowKit
attribute [local go_sem ↓] Go.wp_at_zero Go.wp_at_succ

theorem NoC.off2 {w : World} {B B' : Nat} (h : NoC w B) (hne : B ≠ B') (u0 u1 : Value) : NoC ((w.setCell ⟨B', 0, none⟩ u0).setCell ⟨B', 1, none⟩ u1) B := by
  obtain ⟨q0, q1, q2, q3, q4, q5⟩ := h
  exact ⟨by simp [go_sem, q0, hne, Ne.symm hne], by simp [go_sem, q1, hne, Ne.symm hne], by simp [go_sem, q2, hne, Ne.symm hne], by simp [go_sem, q3, hne, Ne.symm hne], by simp [go_sem, q4, hne, Ne.symm hne], put_fz2 q5 _ _⟩

/-- The sum of the first ones. -/
def cntF (f : Nat → Int) : Nat → Int
  | 0 => 0
  | i + 1 => cntF f i + f i
/-- In how many ways n comes. -/
def wayN (p r s : Int) (n : Nat) : Int := wayF (r ^ n * (s - r) ^ (p.toNat - n)) (p - n) n

set_option maxRecDepth 100000 in
set_option maxHeartbeats 4000000 in
theorem count_int (k q r s last : Int) (P M b : Nat) (w : World) (hM : min last (P : Int) + 1 = (M : Int)) (hl0 : -1000000000 ≤ last) (hl : last ≤ 1000000000) (hp : P ≤ 100) (hr : 0 ≤ r) (hs : r ≤ s) (hs1 : 1 ≤ s) (hs2 : s ≤ 1024) (hb : b ≤ 1000000) :
    Calls Tryz.prog 202 #[.agg #[.int .i64 k, .int .i64 (P : Int), .int .i64 q, .int .i64 r, .int .i64 s], .int .i64 last, .int .i64 b] w (SpanAns w b (b / 16 + 5000) (cntF (wayN P r s) M * Q b / s ^ P) (-(-(cntF (wayN P r s) M * Q b) / s ^ P))) := by
  have hMp : M ≤ P + 1 := by omega
  have hpos : 0 < s ^ P := Int.pow_pos (by omega)
  go_enter Tryz.func202, Tryz.ntmps202
  go_wp2_with fail
  refine (numOf_int 0 _ (by decide) (by decide)).mono ?_
  rintro r' w1 ⟨neg1, a1, n1, c1, rfl, hint1, hb1⟩
  have L : LwC w1 w.heap.size k P q r s := ((lwc_new w k P q r s _).below (bl1 _ _)).below hb1
  have hR : NoC w1 (w.heap.size + 1) := NoC.below ⟨by simp [go_sem], by simp [go_sem], by simp [go_sem], by simp [go_sem], by simp [go_sem], fun o => by simp [go_sem]⟩ hb1
  have hB1 : Below w.heap.size w w1 := bthen (bl2 _ _ _) hb1
  clear hb1
  have lL := L.lt
  have lR := hR.lt
  obtain ⟨i0, i1, i2, i3, i4⟩ := L
  have HM := hide hM
  go_wp2_with fail
  all_goals
    have hmin : min last (P : Int) + 1 = (M : Int) := unhide HM
    go_loopw [16, 8] (fun ii nn wr => ∃ (i : Nat) (X : Nm), ii = .int .i64 (i : Int) ∧ i ≤ M ∧ NmC wr w1.heap.size X ∧ (∀ o, wr.frozen? ⟨w1.heap.size, o, none⟩ = false) ∧ IntAt wr X.neg X.a X.n X.cap (4 + 2500 + i) (cntF (wayN P r s) i) ∧ LwC wr w.heap.size k P q r s ∧ NoC wr (w.heap.size + 1) ∧ Below w.heap.size w wr) (fun ii _ _ => M - (intOf ii).toNat)
    case atStart => exact ⟨0, ⟨neg1, a1, n1, c1⟩, rfl, Nat.zero_le _, ⟨by simp [go_sem], by simp [go_sem]⟩, fun o => by simp [go_sem], (hint1.below (bl1 _ _)).mono (by omega), LwC.below ⟨i0, i1, i2, i3, i4⟩ (bl1 _ _), hR.below (bl1 _ _), balloc hB1 _⟩
    case round =>
      obtain ⟨i, X, rfl, hi, hX, hF, hint, L, R, hB⟩ := hrel
      have lX := hX.lt
      by_cases hin : i < M
      · have hin1 : (i : Int) < min last (P : Int) + 1 := by omega
        try have hin2 : (i : Int) < last + 1 := by omega
        try have hin3 : (i : Int) < (P : Int) + 1 := by omega
        have hint := hide hint
        have HL := hide L
        have HX := hide hX
        have lL2 := L.lt
        obtain ⟨l0, l1, l2, l3, l4⟩ := L
        obtain ⟨x0, x1⟩ := hX
        go_wp2_with fail
        go_region_with
          (first
            | (go_at_call 65; have hq := hD1; refine (add_int _ _ _ _ _ _ _ _ (4 + 2500 + i) 2504 (cntF (wayN P r s) i) (wayN P r s i) _ ((unhide hint).below hD1) (hint1'.mono (by omega)) (by omega) (by omega)).mono ?_; rintro r' w3 ⟨neg3, a3, n3, c3, rfl, hint3, hb3⟩; have hD2 := bthen hD1 hb3; have lD2 := hD2.size; obtain ⟨z0, z1⟩ := (unhide HX).below hD2; have F4 : ∀ o, w3.frozen? ⟨w1.heap.size, o, none⟩ = false := fun o => (hD2.frozen (p := ⟨w1.heap.size, o, none⟩) lX).trans (hF o))
            | (go_at_call 153; refine (ways_int k P q r s i _ (by omega) (by omega) hr hs hs2).mono ?_; rintro r' w2 ⟨neg2, a2, n2, c2, rfl, hint1', hb2⟩; have hD1 : Below wr.heap.size wr w2 := bthen (by repeat' (first | with_reducible exact Below.refl _ _ | with_reducible refine Below.drew ?_)) hb2; obtain ⟨d0, d1⟩ := (unhide HX).below hD1))
        all_goals
          go_wp2_with fail
          go_roundw
          case rel =>
            exact ⟨i + 1, ⟨neg3, a3, n3, c3⟩, by go_num, by omega, put_nm2 (z := X) ⟨z0, z1⟩ ⟨neg3, a3, n3, c3⟩, put_fz2 F4 _ _, (hint3.put2 z0 z1 _ _).mono (by omega), ((unhide HL).below hD2).off (by omega) _ _, (R.below hD2).off2 (by omega) _ _, set2 (bthen hB hD2) (by omega) _ _⟩
          case measure => simp [intOf]; omega
      · have hin1 : ¬ (i : Int) < min last (P : Int) + 1 := by omega
        try have hin2 : ¬ (i : Int) < last + 1 := by omega
        try have hin3 : ¬ (i : Int) < (P : Int) + 1 := by omega
        have hie : i = M := by omega
        subst hie
        have hint := hide hint
        have HKr := hide (show ∀ w', Below wr.heap.size wr w' → (w'.cell? ⟨w.heap.size, 1, none⟩ = some (.int .i64 (P : Int)) ∧ w'.cell? ⟨w.heap.size, 4, none⟩ = some (.int .i64 s) ∧ w'.cell? ⟨w1.heap.size, 0, none⟩ = some (.bool X.neg) ∧ w'.cell? ⟨w1.heap.size, 1, none⟩ = some (.slice X.a X.n X.cap)) from fun w' hB => ⟨(L.below hB).c1, (L.below hB).c4, (hX.below hB).c0, (hX.below hB).c1⟩)
        have lL2 := L.lt
        have lR2 := R.lt
        obtain ⟨l1, l4, x0, x1⟩ := unhide HKr _ (Below.refl _ _)
        have hD0 : Below wr.heap.size wr wr.drew := (Below.refl _ _).drew
        have nE : w1.heap.size ≠ w.heap.size + 1 := by omega
        have nE' : w.heap.size + 1 ≠ w1.heap.size := by omega
        go_wp2_with fail
        go_region_held3 (fun w' => w'.cell? ⟨w.heap.size, 1, none⟩ = some (.int .i64 (P : Int)) ∧ w'.cell? ⟨w.heap.size, 4, none⟩ = some (.int .i64 s) ∧ w'.cell? ⟨w1.heap.size, 0, none⟩ = some (.bool X.neg) ∧ w'.cell? ⟨w1.heap.size, 1, none⟩ = some (.slice X.a X.n X.cap)) (first | exact unhide HKr _ (by first | with_reducible exact hD0 | with_reducible exact hD2 | with_reducible exact hD1) | go_keep)
          (first
            | (go_at_call 140; have hq := hD1; refine (wideOf_any _ _ _ _ _ _ _ _ (4 + 2500 + i) (4 * P + 4) b (cntF (wayN P r s) i) (s ^ P) _ ((unhide hint).below hD1) hint2 (by omega) hb hpos).mono ?_; rintro r' w3 ⟨u, rfl, hub, hup, hb3⟩; have hD2 := bthen hD1 hb3; obtain ⟨q0, q1, q2, q3, q4, q5⟩ := R.below hD2; have HUB := hide hub; clear hub; obtain ⟨e0, e1, e2, e3⟩ := unhide HKr _ hD2)
            | (go_at_call 154; refine (raised_int s P _ (by omega) (by omega) (by omega)).mono ?_; rintro r' w2 ⟨neg2, a2, n2, c2, rfl, hint2, hb2⟩; have hD1 := bthen hD0 hb2))
        all_goals
          go_wp2_with fail
          refine bodyPost_ret (v := .agg #[.bool u.ln, .slice u.la u.lN u.lc, .bool u.hn, .slice u.ha u.hN u.hc, .int .i64 u.bits]) (by simp [results, Tryz.results202, go_sem, q0, q1, q2, q3, q4]) rfl ⟨u, rfl, unhide HUB, ?_, ?_⟩
          · exact SpAt.put5 (hup.mono (by omega)) q0 q1 q2 q3 q4 _ _ _ _ _
          · exact set5 (bthen hB hD2) (Nat.le_succ _) _ _ _ _ _
end Go.Proofs.YtgmnknmjainababGreat
