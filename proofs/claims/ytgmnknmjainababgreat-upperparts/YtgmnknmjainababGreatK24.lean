/-
  Texts Lgt, Rva, Rvb, UppM, TurM: what they hold is told in the last text.
-/
import Derived.Deep.CutBlock
import Derived.Test.YtgmnknmjainababGreatK23
set_option linter.unnecessarySimpa false
set_option linter.unusedSimpArgs false
set_option linter.unusedVariables false
namespace Go.Proofs.YtgmnknmjainababGreat
open Go.RowKit
attribute [local go_sem ↓] Go.wp_at_zero Go.wp_at_succ
open Ex
theorem lm_fitOk {n d : Int} {x m k : Nat} {s : LmSt} (o : LmOk n d x m k s) (hm : m ≤ 1000) : s.T.2 < P 100 ∧ s.U.2 < P 100 ∧ -P 100 < s.T.1 ∧ -P 100 < s.U.1 := by
  have h1 := Q_mono (show m + 128 + 1 ≤ 16 * 100 by omega)
  have h2 := Q_pos (m + 128)
  have h3 : Q (m + 128 + 1) = 2 * Q (m + 128) := rfl
  rw [Q_P] at h1
  have := o.us
  have := o.tu
  have := o.t0
  have := o.u1
  omega
theorem lm_great {n d : Int} {x m k : Nat} (hg : Q (m + 128) ≤ (addI (lmS n d x m k).U (lmT n d x k (lmS n d x m k).T)).2) : lmS n d x m (k + 1) = ⟨scaleI (lmT n d x k (lmS n d x m k).T) 1 (Q 64), scaleI (addI (lmS n d x m k).U (lmT n d x k (lmS n d x m k).T)) 1 (Q 64), (lmS n d x m k).e + 1⟩ := by
  show lmNext n d x m k (lmS n d x m k) = _
  unfold lmNext
  rw [if_pos hg]
theorem lm_little {n d : Int} {x m k : Nat} (hg : ¬ Q (m + 128) ≤ (addI (lmS n d x m k).U (lmT n d x k (lmS n d x m k).T)).2) : lmS n d x m (k + 1) = ⟨lmT n d x k (lmS n d x m k).T, addI (lmS n d x m k).U (lmT n d x k (lmS n d x m k).T), (lmS n d x m k).e⟩ := by
  show lmNext n d x m k (lmS n d x m k) = _
  unfold lmNext
  rw [if_neg hg]
theorem refLog_z {b : Nat} (z : Int) (hz : z = (b : Int)) (w : World) (x y : Nm) (k J : Nat) (n d : Int) (hx : IntAt w x.neg x.a x.n x.cap k n) (hy : IntAt w y.neg y.a y.n y.cap k d) (hk : k ≤ 10000000) (hb : b ≤ 50000) (hn : 0 < n) (hd : 0 < d) (hnk : n < P k) (hdk : 2 * d < P k) (hJ1 : d ≤ n * Q J) (hJ2 : n < d * Q (J + 1)) (hJ : J ≤ 1000) :
    Calls Tryz.prog 124 #[.agg #[.bool x.neg, .slice x.a x.n x.cap], .agg #[.bool y.neg, .slice y.a y.n y.cap], .int .i64 z] w (fun r w' => ∃ (lo hi : Int) (l : Nat → Rat), Ex.IsLog l (fun _ => (n : Rat) / (d : Rat)) ∧ (Iv b (lo, hi) l ∧ Abs (lo, hi) (3 * ((J : Int) + 1) * Q b)) ∧ SpanAns w b (b / 16 + 10) lo hi r w') := by
  subst hz
  exact (refLog_iv w x y k b J n d hx hy hk hb hn hd hnk hdk hJ1 hJ2 hJ).mono fun r w' ⟨o, l, h1, h2, h3, h4⟩ => ⟨o.1, o.2, l, h1, ⟨h2, h3⟩, h4⟩
structure LnW (w wr : World) (X Y : Nm) (n d : Int) (BU : Nat) (U : Sp) (m K : Nat) (c : Int × Int) : Prop where
  x : NmC wr w.heap.size X
  y : NmC wr (w.heap.size + 1) Y
  ix : IntAt wr X.neg X.a X.n X.cap 20 n
  iy : IntAt wr Y.neg Y.a Y.n Y.cap 20 d
  u : VrC wr BU U
  ub : U.bits = (m : Int)
  up : SpAt wr U K c.1 c.2
  r : NoC wr (w.heap.size + 1 + 1)
  be : Below w.heap.size w wr
  l2 : w.heap.size + 1 + 1 < BU
theorem LmW.ln {w wr : World} {X Y : Nm} {n d : Int} {BT BU BA : Nat} {T U : Sp} {A : Nm} {m k K : Nat} {a c : Int × Int} (h : LmW w wr X Y n d BT BU BA T U A m k K a c) : LnW w wr X Y n d BU U m K c := ⟨h.x, h.y, h.ix, h.iy, h.u, h.ub, h.up, h.r, h.be, h.l2⟩
theorem LnW.below {w wr : World} {X Y : Nm} {n d : Int} {BU : Nat} {U : Sp} {m K : Nat} {c : Int × Int} (h : LnW w wr X Y n d BU U m K c) {wr' : World} (hb : Below wr.heap.size wr wr') : LnW w wr' X Y n d BU U m K c :=
  ⟨h.x.below hb, h.y.below hb, h.ix.below hb, h.iy.below hb, h.u.below hb, h.ub, h.up.below hb, h.r.below hb, bthen h.be hb, h.l2⟩
theorem LnW.putU {w wr : World} {X Y : Nm} {n d : Int} {BU : Nat} {U : Sp} {m K : Nat} {c : Int × Int} (h : LnW w wr X Y n d BU U m K c) {U' : Sp} {K' : Nat} {c' : Int × Int} (hb : U'.bits = (m : Int)) (hp : SpAt wr U' K' c'.1 c'.2) : LnW w (put5w wr BU U') X Y n d BU U' m K' c' :=
  have l2 := h.l2
  ⟨h.x.offP (by omega) _, h.y.offP (by omega) _, h.ix.put h.u.c _, h.iy.put h.u.c _, h.u.put _, hb, hp.put h.u.c _, h.r.off (by omega) _, set5 h.be (by omega) _ _ _ _ _, h.l2⟩
theorem NmC.offH {w : World} {B B' : Nat} {x : Nm} (h : NmC w B x) (hne : B ≠ B') (u0 u1 : Value) : NmC ((w.setCell ⟨B', 2, none⟩ u0).setCell ⟨B', 3, none⟩ u1) B x := by
  obtain ⟨q0, q1⟩ := h
  exact ⟨by simp [go_sem, q0, hne, Ne.symm hne], by simp [go_sem, q1, hne, Ne.symm hne]⟩
theorem LnW.putH {w wr : World} {X Y : Nm} {n d : Int} {BU : Nat} {U : Sp} {m K : Nat} {c : Int × Int} (h : LnW w wr X Y n d BU U m K c) {H : Nm} {z : Int} {K' : Nat} (hK : K ≤ K') (hp : IntAt wr H.neg H.a H.n H.cap K' z) : LnW w ((wr.setCell ⟨BU, 2, none⟩ (.bool H.neg)).setCell ⟨BU, 3, none⟩ (.slice H.a H.n H.cap)) X Y n d BU ⟨U.ln, U.la, U.lN, U.lc, H.neg, H.a, H.n, H.cap, U.bits⟩ m K' (c.1, z) :=
  have l2 := h.l2
  ⟨h.x.offH (by omega) _ _, h.y.offH (by omega) _ _, h.ix.putH h.u.c.c2 h.u.c.c3 _ _, h.iy.putH h.u.c.c2 h.u.c.c3 _ _, sp_putHi h.u H, h.ub, ⟨(h.up.lo.mono hK).putH h.u.c.c2 h.u.c.c3 _ _, hp.putH h.u.c.c2 h.u.c.c3 _ _⟩, h.r.offH (by omega) _ _, (h.be.setCell (p := ⟨BU, 2, none⟩) (by show w.heap.size ≤ BU; omega) _).setCell (p := ⟨BU, 3, none⟩) (by show w.heap.size ≤ BU; omega) _, h.l2⟩
theorem lg_end {L : Rat → Nat → Rat} (hL : Lns L) {n d : Int} {b x K : Nat} (h : LmIn n d b x) (hK : 2 * x < K) (hK2 : K ≤ 25000) (hT : (lmS n d x (b + 128) K).T.2 ≤ 1) {g X l1 l2 l3 l4 : Nat → Rat} {a1 b1 a2 b2 a3 b3 a4 b4 : Int} (hg : IsGam L ((n : Rat) / (d : Rat)) g) (hX : IsLog X g)
    (g1 : IsLog l1 (fun _ => (lmL (lmS n d x (b + 128) K).U : Rat) / (Q (b + 128) : Rat))) (g2 : IsLog l2 (fun _ => (lmH (b + 128) (lmS n d x (b + 128) K).e (lmS n d x (b + 128) K).U : Rat) / (Q (b + 128) : Rat))) (g3 : IsLog l3 (fun _ => ((2 : Int) : Rat) / ((1 : Int) : Rat))) (g4 : IsLog l4 (fun _ => ((x : Int) : Rat) / ((1 : Int) : Rat)))
    (i1 : Iv (b + 40) (a1, b1) l1) (i2 : Iv (b + 40) (a2, b2) l2) (i3 : Iv (b + 40) (a3, b3) l3) (i4 : Iv (b + 40) (a4, b4) l4) : Iv b (downI (lgR (b + 40) n d ((64 * (lmS n d x (b + 128) K).e : Nat) : Int) (x : Int) (a1, b1) (a2, b2) (a3, b3) (a4, b4)) 40) X := by
  have inv1 : (1 : Rat)⁻¹ = 1 := by decide +kernel
  have e3 : ((2 : Int) : Rat) / ((1 : Int) : Rat) = 2 := by decide +kernel
  have e4 : ((x : Int) : Rat) / ((1 : Int) : Rat) = (x : Rat) := by
    have e1 : ((1 : Int) : Rat) = 1 := rfl
    have e2 : ((x : Int) : Rat) = (x : Rat) := rfl
    rw [e1, e2, Rat.div_def, inv1, Rat.mul_one]
  rw [e3] at g3
  rw [e4] at g4
  have x0 : (0 : Rat) < (x : Rat) := by exact_mod_cast (show 0 < x by have := h.xb; omega)
  obtain ⟨low, up⟩ := lm_log hL h rfl hK hK2 hT hg hX g1 g2 g3
  exact (lgR_has h.d0 i1 i2 i3 (i4.congr ((hL _ x0).uniq g4)) low up).to
theorem lm_lg {n d : Int} {x b k : Nat} {s : LmSt} (o : LmOk n d x (b + 128) k s) (hb0 : 8 ≤ b) (hb : b ≤ 400) : 0 < lmL s.U ∧ 0 < Q (b + 128) ∧ lmL s.U < P 110 ∧ 2 * Q (b + 128) < P 110 ∧ Q (b + 128) ≤ lmL s.U * Q (b + 128) ∧ lmL s.U < Q (b + 128) * Q (b + 128 + 1) ∧ 0 < lmH (b + 128) s.e s.U ∧ lmH (b + 128) s.e s.U < P 110 ∧ Q (b + 128) ≤ lmH (b + 128) s.e s.U * Q (b + 128) ∧ lmH (b + 128) s.e s.U < Q (b + 128) * Q (b + 128 + 1) := by
  have u1 := o.u1
  have ul := o.ul
  have us := o.us
  have q := Q_pos (b + 128)
  have qe := Q_pos (64 * s.e)
  have q1 := Q_pos (b + 128 + 1)
  have c0 : 0 ≤ -(-(Q (b + 128 + 1)) / Q (64 * s.e)) ∧ -(-(Q (b + 128 + 1)) / Q (64 * s.e)) ≤ Q (b + 128 + 1) := by
    have m := Int.mul_le_mul_of_nonneg_left qe (show 0 ≤ Q (b + 128 + 1) by omega)
    have r := round_abs (x := Q (b + 128 + 1)) (m := Q (b + 128 + 1)) (q := Q (64 * s.e)) (by omega) (by omega) (by omega)
    have c := dv_ceil (Q (b + 128 + 1)) (show 0 < Q (64 * s.e) by omega)
    refine ⟨Int.not_lt.1 fun hn => ?_, r.2.2.2⟩
    have := Int.mul_le_mul_of_nonneg_right (show -(-(Q (b + 128 + 1)) / Q (64 * s.e)) ≤ -1 by omega) (show 0 ≤ Q (64 * s.e) by omega)
    omega
  have eL : lmL s.U = s.U.1 - 2 := rfl
  have eH : lmH (b + 128) s.e s.U = s.U.2 + 2 + -(-(Q (b + 128 + 1)) / Q (64 * s.e)) := rfl
  have m1 := Q_mono (show b + 128 + 128 + 2 ≤ b + 128 + (b + 128 + 1) by omega)
  rw [Q_add (b + 128) (b + 128 + 1)] at m1
  have m2 := Q_mono (show b + 128 + (b + 128 + 1) ≤ 16 * 110 by omega)
  rw [Q_P, Q_add (b + 128) (b + 128 + 1)] at m2
  have m3 := Q_mono (show b + 128 + 1 ≤ b + 128 + 128 by omega)
  have e2 : Q (b + 128 + 128 + 2) = 4 * Q (b + 128 + 128) := by
    have e := Q_add (b + 128 + 128) 2
    have e4 : Q 2 = 4 := rfl
    rw [e4] at e; omega
  have e3 : Q (b + 128 + 1) = 2 * Q (b + 128) := rfl
  have k1 := Int.mul_le_mul_of_nonneg_right (show 1 ≤ lmL s.U by omega) (show 0 ≤ Q (b + 128) by omega)
  have k2 := Int.mul_le_mul_of_nonneg_right (show 1 ≤ lmH (b + 128) s.e s.U by omega) (show 0 ≤ Q (b + 128) by omega)
  refine ⟨by omega, by omega, by omega, by omega, by omega, by omega, by omega, by omega, by omega, by omega⟩
theorem lm_x4 {z : Int} (h0 : 0 < z) (h1 : z ≤ 1300) : z < P 4 ∧ 1 ≤ z * Q 11 ∧ z < 1 * Q (11 + 1) := by
  have e1 : P 4 = 18446744073709551616 := by decide +kernel
  have e2 : Q 11 = 2048 := rfl
  have e3 : Q (11 + 1) = 4096 := rfl
  rw [e1, e2, e3]
  omega
namespace Ex
theorem ex1_le (M : Nat) : ex 1 M ≤ 3 := by
  have key : ∀ m : Nat, E 1 (m + 2) ≤ 3 - tm 1 (m + 1) := fun m => by
    induction m with
    | zero => decide +kernel
    | succ m ih =>
      have e : E 1 (m + 1 + 2) = E 1 (m + 2) + tm 1 (m + 2) := rfl
      have s := tm_succ 1 (m + 1)
      have p : (0 : Rat) ≤ tm 1 (m + 2) := tm_nonneg (by grind) _
      have c : (((m + 1 : Nat) : Rat) + 1) = (m : Rat) + 2 := by push_cast; grind
      have m0 : (0 : Rat) ≤ (m : Rat) := by exact_mod_cast Nat.zero_le m
      rw [c] at s
      have q := Rat.mul_le_mul_of_nonneg_right (show (2 : Rat) ≤ (m : Rat) + 2 by grind) p
      rw [e]
      show E 1 (m + 2) + tm 1 (m + 2) ≤ 3 - tm 1 (m + 2)
      grind
  match M with
  | 0 => decide +kernel
  | 1 => decide +kernel
  | m + 2 =>
    have p : (0 : Rat) ≤ tm 1 (m + 1) := tm_nonneg (by grind) _
    have := key m
    show E 1 (m + 2) ≤ 3
    grind
theorem ex_four (n : Nat) : LeN (ex (n : Rat)) (fun _ => (Q (2 * n) : Rat)) := by
  induction n with
  | zero =>
    refine LeN.of_le 1 fun M hM => ?_
    obtain ⟨m, rfl⟩ : ∃ m, M = m + 1 := ⟨M - 1, by omega⟩
    have : ex ((0 : Nat) : Rat) (m + 1) = 1 := E_zero m
    rw [this]
    exact Rat.le_refl
  | succ n ih =>
    have c : ((n + 1 : Nat) : Rat) = (n : Rat) + 1 := by push_cast; rfl
    rw [c]
    have s := ex_add (n : Rat) 1
    have l : LeN (ex 1) (fun _ => 3) := LeN.of_le 0 fun M _ => ex1_le M
    have q0 := Qr_pos (2 * n)
    have m := ih.mul l (ex_bdd 1) (ex_nn 1) (Bdd.const _) (Nn.const (Rat.le_of_lt q0))
    refine (LeN.of_eqN s.symm).trans (m.trans (LeN.of_le 0 fun M _ => ?_))
    have e : Q (2 * (n + 1)) = 4 * Q (2 * n) := by
      have h1 := Q_add (2 * n) 2
      have h2 : Q 2 = 4 := rfl
      have h3 : 2 * n + 2 = 2 * (n + 1) := by omega
      rw [h2, h3] at h1; omega
    rw [e, Rat.intCast_mul]
    have c4 : ((4 : Int) : Rat) = 4 := rfl
    rw [c4]
    generalize (Q (2 * n) : Rat) = y at *
    grind
end Ex
theorem leN_cst {a b : Rat} (h : LeN (fun _ => a) (fun _ => b)) : a ≤ b := by
  refine Rat.not_lt.1 fun hlt => ?_
  obtain ⟨N, k⟩ := h ((a - b) / 2) (by grind)
  have := k N (Nat.le_refl _)
  grind
theorem lm_eb {n d : Int} {b x K : Nat} (h : LmIn n d b x) (hK : 2 * x < K) (hK2 : K ≤ 25000) (hT : (lmS n d x (b + 128) K).T.2 ≤ 1) : 64 * (lmS n d x (b + 128) K).e ≤ b + 128 + 2 * x + 22 := by
  obtain ⟨s1, s2⟩ := lm_span (m := b + 128) h hK hT
  have ok := lm_all (m := b + 128) h rfl K hK2
  obtain ⟨s, hs⟩ : ∃ s, s = lmS n d x (b + 128) K := ⟨_, rfl⟩
  rw [← hs] at s1 ok ⊢
  have nr : (0 : Rat) < (n : Rat) := by exact_mod_cast h.n0
  have dr : (0 : Rat) < (d : Rat) := by exact_mod_cast h.d0
  have a0 := rdiv_pos nr dr
  have x0 : (0 : Rat) ≤ (x : Rat) := by exact_mod_cast Nat.zero_le x
  have Qe := Qr_pos (64 * s.e)
  have Qm := Qr_pos (b + 128)
  have hq := h64_mul s.e
  have hp : 0 < h64 s.e := rdiv_pos (by grind) Qe
  have l1 : LeN (fun _ => (n : Rat) / (d : Rat) * ((lmL s.U : Rat) / (Q (b + 128) : Rat))) (fun _ => h64 s.e * (Q (2 * x) : Rat)) := by
    refine ((s1.cmul (c := (n : Rat) / (d : Rat)) (Rat.le_of_lt a0)).trans ?_)
    refine LeN.trans (LeN.of_le 0 fun M _ => ?_) ((ex_four x).cmul (c := h64 s.e) (Rat.le_of_lt hp))
    have u := uS_E a0 x0 M
    have m := Rat.mul_le_mul_of_nonneg_left u (Rat.le_of_lt hp)
    show (n : Rat) / (d : Rat) * (h64 s.e * uS ((n : Rat) / (d : Rat)) (x : Rat) M) ≤ h64 s.e * E (x : Rat) M
    grind
  have k := leN_cst l1
  have k2 := Rat.mul_le_mul_of_nonneg_right k (Rat.le_of_lt (Rat.mul_pos (Rat.mul_pos dr Qm) Qe))
  have dm := rdm (a := (n : Rat)) dr
  have dl := rdm (a := (lmL s.U : Rat)) Qm
  have k3 : (n : Rat) * (lmL s.U : Rat) * (Q (64 * s.e) : Rat) ≤ (Q (2 * x) : Rat) * ((d : Rat) * (Q (b + 128) : Rat)) := by
    have r1 : (n : Rat) / (d : Rat) * ((lmL s.U : Rat) / (Q (b + 128) : Rat)) * ((d : Rat) * (Q (b + 128) : Rat) * (Q (64 * s.e) : Rat)) = (n : Rat) / (d : Rat) * (d : Rat) * ((lmL s.U : Rat) / (Q (b + 128) : Rat) * (Q (b + 128) : Rat)) * (Q (64 * s.e) : Rat) := by grind
    have r2 : h64 s.e * (Q (2 * x) : Rat) * ((d : Rat) * (Q (b + 128) : Rat) * (Q (64 * s.e) : Rat)) = h64 s.e * (Q (64 * s.e) : Rat) * ((Q (2 * x) : Rat) * ((d : Rat) * (Q (b + 128) : Rat))) := by grind
    rw [r1, r2, dm, dl, hq] at k2
    grind
  have k4 : n * lmL s.U * Q (64 * s.e) ≤ Q (2 * x) * (d * Q (b + 128)) := by exact_mod_cast k3
  have q1 := Q_pos (64 * s.e)
  have q2 := Q_pos (2 * x)
  have q3 := Q_pos (b + 128)
  have u1 := ok.u1
  have eL : lmL s.U = s.U.1 - 2 := rfl
  have n0 := h.n0
  have nl : 524288 ≤ n * lmL s.U := by
    have := Int.mul_le_mul_of_nonneg_right (show 1 ≤ n by omega) (show 0 ≤ lmL s.U by omega)
    omega
  have m1 := Int.mul_le_mul_of_nonneg_right nl (show 0 ≤ Q (64 * s.e) by omega)
  have m2 := Int.mul_le_mul_of_nonneg_left (Int.mul_le_mul_of_nonneg_right h.dd (show 0 ≤ Q (b + 128) by omega)) (show 0 ≤ Q (2 * x) by omega)
  refine Nat.not_lt.1 fun hlt => ?_
  have g := Q_mono (show b + 128 + 2 * x + 23 ≤ 64 * s.e by omega)
  have e1 : Q (b + 128 + 2 * x + 23) = Q (2 * x) * Q (b + 128) * 8388608 := by
    have h1 := Q_add (b + 128 + 2 * x) 23
    have h2 := Q_add (b + 128) (2 * x)
    have h3 : Q 23 = 8388608 := rfl
    rw [h1, h2, h3, Int.mul_comm (Q (b + 128))]
  have pp := Int.mul_pos (show 0 < Q (2 * x) by omega) (show 0 < Q (b + 128) by omega)
  have r1 : Q (2 * x) * (2199023255552 * Q (b + 128)) = 2199023255552 * (Q (2 * x) * Q (b + 128)) := by grind
  generalize Q (2 * x) * Q (b + 128) = y at *
  omega
theorem lg_abs {n d : Int} {b z e : Nat} (h : LmIn n d b z) (he : 64 * e ≤ b + 128 + 2 * z + 22) {a1 b1 a2 b2 a3 b3 a4 b4 zz : Int} (hz : (z : Int) = zz) (h1 : Abs (a1, b1) (3 * (((b + 128 : Nat) : Int) + 1) * Q (b + 40))) (h2 : Abs (a2, b2) (3 * (((b + 128 : Nat) : Int) + 1) * Q (b + 40))) (h3 : Abs (a3, b3) (3 * (((1 : Nat) : Int) + 1) * Q (b + 40))) (h4 : Abs (a4, b4) (3 * (((11 : Nat) : Int) + 1) * Q (b + 40))) :
    Abs (downI (subI (addI (addI (a1, b2) (byI (a3, b3) (64 * (e : Int)) 1)) (byI (a4, b4) n d)) (zz * Q (b + 40), zz * Q (b + 40))) 40) (30000 * Q b) := by
  have q := Q_pos (b + 40)
  have qb := Q_pos b
  have b1' := h.b1
  have z1 := h.x1
  have n0 := h.n0
  have d0 := h.d0
  have A3 := byI_abs (n := 64 * (e : Int)) (d := 1) (c := 64 * (e : Int)) (p := 19200 * Q (b + 40)) h3 (by decide) (by omega) (Int.le_refl _) (by
    have m := Int.mul_le_mul_of_nonneg_left (show 64 * (e : Int) ≤ 3200 by omega) (show 0 ≤ 3 * (((1 : Nat) : Int) + 1) * Q (b + 40) by omega)
    omega)
  have A4 := byI_abs (n := n) (d := d) (c := n) (p := 7236 * Q (b + 40)) h4 d0 (by omega) (Int.le_refl _) (by
    have m := Int.mul_le_mul_of_nonneg_left h.up (show 0 ≤ 3 * (((11 : Nat) : Int) + 1) * Q (b + 40) by omega)
    have r : 3 * (((11 : Nat) : Int) + 1) * Q (b + 40) * (201 * d) = 7236 * Q (b + 40) * d := by
      have : (((11 : Nat) : Int) + 1) = 12 := rfl
      rw [this]; grind
    omega)
  obtain ⟨x1, x2, x3, x4⟩ := h1
  obtain ⟨y1, y2, y3, y4⟩ := h2
  obtain ⟨s1, s2, s3, s4⟩ := A3
  obtain ⟨t1, t2, t3, t4⟩ := A4
  simp only [] at x1 x2 x3 x4 y1 y2 y3 y4
  have m1 := Int.mul_le_mul_of_nonneg_right (show 3 * (((b + 128 : Nat) : Int) + 1) ≤ 1587 by omega) (show 0 ≤ Q (b + 40) by omega)
  have m2 := Int.mul_le_mul_of_nonneg_right (show zz ≤ 1300 by omega) (show 0 ≤ Q (b + 40) by omega)
  have m3 := Int.mul_nonneg (show 0 ≤ zz by omega) (show 0 ≤ Q (b + 40) by omega)
  have e40 : Q (b + 40) = Q b * Q 40 := Q_add b 40
  obtain ⟨P, hP⟩ : ∃ P, P = subI (addI (addI (a1, b2) (byI (a3, b3) (64 * (e : Int)) 1)) (byI (a4, b4) n d)) (zz * Q (b + 40), zz * Q (b + 40)) := ⟨_, rfl⟩
  have p1 : P.1 = a1 + (byI (a3, b3) (64 * (e : Int)) 1).1 + (byI (a4, b4) n d).1 - zz * Q (b + 40) := by rw [hP]; rfl
  have p2 : P.2 = b2 + (byI (a3, b3) (64 * (e : Int)) 1).2 + (byI (a4, b4) n d).2 - zz * Q (b + 40) := by rw [hP]; rfl
  rw [← hP]
  have q40 := Q_pos 40
  have e3 : 30000 * Q b * Q 40 = 30000 * Q (b + 40) := by rw [e40]; grind
  have r1 := round_abs (x := P.1) (m := 30000 * Q b) (q := Q 40) (by omega) (by rw [e3]; omega) (by rw [e3]; omega)
  have r2 := round_abs (x := P.2) (m := 30000 * Q b) (q := Q 40) (by omega) (by rw [e3]; omega) (by rw [e3]; omega)
  exact ⟨r1.1, r1.2.1, r2.2.2.1, r2.2.2.2⟩
end Go.Proofs.YtgmnknmjainababGreat
namespace Go.Proofs.YtgmnknmjainababGreat
open Go.RowKit
attribute [local go_sem ↓] Go.wp_at_zero Go.wp_at_succ
open Ex
theorem lp_facts {B J : Nat} {Y : Int} (hB : B ≤ 300) (hY : 0 < Y) (hYb : Y < Q (B + 20)) (hJ1 : Q B ≤ Y * Q J) (hJ2 : Y < Q B * Q (J + 1)) : 0 < Y * Q 64 ∧ Y * Q 64 < P 120 ∧ 2 * Q (B + 64) < P 120 ∧ Q (B + 64) ≤ Y * Q 64 * Q J ∧ Y * Q 64 < Q (B + 64) * Q (J + 1) ∧ True := by
  have q := Q_pos 64
  have e : Q (B + 64) = Q B * Q 64 := Q_add B 64
  have m1 := Int.mul_lt_mul_of_pos_right hYb (show 0 < Q 64 by omega)
  have e2 : Q (B + 20) * Q 64 = Q (B + 84) := by rw [← Q_add]
  have m2 := Q_mono (show B + 84 ≤ 16 * 120 by omega)
  have m3 := Q_mono (show B + 64 + 1 ≤ 16 * 120 by omega)
  have e3 : Q (B + 64 + 1) = 2 * Q (B + 64) := rfl
  have m3' := Q_mono (show B + 64 + 1 + 1 ≤ 16 * 120 by omega)
  have e4 : Q (B + 64 + 1 + 1) = 2 * Q (B + 64 + 1) := rfl
  have qq := Q_pos (B + 64)
  rw [Q_P] at m2 m3 m3'
  have m4 := Int.mul_le_mul_of_nonneg_right hJ1 (show 0 ≤ Q 64 by omega)
  have m5 := Int.mul_lt_mul_of_pos_right hJ2 (show 0 < Q 64 by omega)
  have r1 : Y * Q J * Q 64 = Y * Q 64 * Q J := by grind
  have r2 : Q B * Q (J + 1) * Q 64 = Q B * Q 64 * Q (J + 1) := by grind
  exact ⟨Int.mul_pos hY (by omega), by omega, by omega, by omega, by rw [e]; omega, trivial⟩
theorem lp_log {B : Nat} {Y : Int} {l : Nat → Rat} (h : IsLog l (fun _ => ((Y * Q 64 : Int) : Rat) / (Q (B + 64) : Rat))) : IsLog l (fun _ => (Y : Rat) / (Q B : Rat)) := by
  have q := Qr_pos B
  have q64 := Qr_pos 64
  have q2 := Qr_pos (B + 64)
  have e : ((Y * Q 64 : Int) : Rat) / (Q (B + 64) : Rat) = (Y : Rat) / (Q B : Rat) := by
    have e1 : (Q (B + 64) : Rat) = (Q B : Rat) * (Q 64 : Rat) := by rw [Q_add, Rat.intCast_mul]
    have a := rdm (a := ((Y * Q 64 : Int) : Rat)) q2
    have b := rdm (a := (Y : Rat)) q
    refine rat_cancel (c := (Q (B + 64) : Rat)) q2 ?_
    have r1 : (Q (B + 64) : Rat) * (((Y * Q 64 : Int) : Rat) / (Q (B + 64) : Rat)) = ((Y * Q 64 : Int) : Rat) / (Q (B + 64) : Rat) * (Q (B + 64) : Rat) := by grind
    rw [r1, a, e1, Rat.intCast_mul]
    have r2 : (Q B : Rat) * (Q 64 : Rat) * ((Y : Rat) / (Q B : Rat)) = (Y : Rat) / (Q B : Rat) * (Q B : Rat) * (Q 64 : Rat) := by grind
    rw [r2, b]
  rw [e] at h
  exact h
set_option maxRecDepth 100000 in
set_option maxHeartbeats 2000000 in
theorem refValue (w : World) (x : Nm) (k : Nat) (z : Int) (hx : IntAt w x.neg x.a x.n x.cap k z) (h0 : 0 ≤ z) (h1 : z ≤ 1000000000) :
    Calls Tryz.prog 134 #[.agg #[.bool x.neg, .slice x.a x.n x.cap]] w (fun r w' => r = .returned (.int .i64 z) ∧ Below w.heap.size w w') := by
  obtain ⟨g, dg, dtop, dneg, dk, dz⟩ := hx
  have hV : V g x.n = z := by
    have hv := V_nonneg dg.dgs x.n
    cases hneg : x.neg
    · rw [hneg] at dz; simp [sgn] at dz; omega
    · rw [hneg] at dz; simp [sgn] at dz; omega
  obtain ⟨W, hW⟩ : ∃ W, W = w.alloc (.cells #[.bool x.neg, .slice x.a x.n x.cap] 26) := ⟨_, rfl⟩
  have hBW : Below w.heap.size w W := by rw [hW]; exact bl1 _ _
  have D : NmC W w.heap.size x := by rw [hW]; exact nmc_new w x _
  have dg2 := dg.below hBW
  have HDG := hide dg2
  have hdgs := hide dg.dgs
  have hroom := dg.room
  have HV := hide hV
  have lD := D.lt
  have d0' := D.c0
  have d1' := D.c1
  clear dg dg2 dtop dneg dk dz hV
  obtain ⟨xneg, xa, xn, xcap⟩ := x
  simp only [] at HDG HV hroom d0' d1' D hW
  go_enter Tryz.func134, Tryz.ntmps134
  go_wp2_with fail
  rw [← hW]
  clear hW
  go_loop [3, 4] (fun nn ii => ∃ j : Nat, nn = .int .i64 (Tp g j xn) ∧ ii = .int .i64 ((j : Int) - 1) ∧ j ≤ xn) (fun _ ii => (intOf ii + 1).toNat)
  case atStart => exact ⟨xn, by rw [Tp_top], rfl, Nat.le_refl _⟩
  case round =>
    obtain ⟨j, rfl, rfl, hj⟩ := hrel
    by_cases hj0 : 0 < j
    · obtain ⟨m, rfl⟩ : ∃ m, j = m + 1 := ⟨j - 1, by omega⟩
      have em : (((m + 1 : Nat) : Int) - 1) = (m : Int) := by omega
      rw [em]
      obtain ⟨bb, off, ha, hlt, hcell⟩ := (unhide HDG).at_ (by omega)
      have hc := hcell m (by omega)
      have hm2 : (m : Int) < (xn : Int) := by omega
      have t1 := Tp_nonneg (unhide hdgs) (m + 1) xn
      have t2 := Tp_le (unhide hdgs) (m + 1) xn (by omega)
      have t3 := unhide HV
      obtain ⟨g1, g2⟩ := unhide hdgs m
      have t4 := Tp_step g m xn (by omega)
      have HT4 := hide t4
      have t5 : Tp g (m + 1) xn ≤ 1000000000 := by omega
      subst ha
      clear hcell em t2 t3 t4
      go_wp2_with fail
      go_round
      case rel =>
        refine ⟨m, ?_, ?_, by omega⟩
        · rw [unhide HT4, Int.add_comm]
        · rfl
      case measure => simp [intOf]
    · have hj1 : j = 0 := by omega
      subst hj1
      rw [Tp_zero, unhide HV]
      clear d0' d1' hj hj0
      go_wp2_with fail
      exact bodyPost_ret (v := .int .i64 z) (by simp [results, Tryz.results134, go_sem]) rfl ⟨rfl, hBW⟩
set_option maxRecDepth 100000 in
set_option maxHeartbeats 4000000 in
theorem refLogOf (w : World) (s : Sp) (k B J : Nat) (Y : Int) (hs : SpAt w s k Y Y) (hbits : s.bits = (B : Int)) (hk : k ≤ 1000000) (hB : B ≤ 1000) (hk2 : B / 16 + 8 ≤ k) (hY : 0 < Y) (hYk : Y < P k) (hBk : 2 * Q B < P k) (hJ1 : Q B ≤ Y * Q J) (hJ2 : Y < Q B * Q (J + 1)) (hJ : J ≤ 1000) :
    Calls Tryz.prog 173 #[.agg #[.bool s.ln, .slice s.la s.lN s.lc, .bool s.hn, .slice s.ha s.hN s.hc, .int .i64 s.bits]] w (fun r w' => ∃ (lo hi : Int) (l : Nat → Rat), Ex.IsLog l (fun _ => (Y : Rat) / (Q B : Rat)) ∧ (Iv B (lo, hi) l ∧ Abs (lo, hi) (3 * ((J : Int) + 1) * Q B)) ∧ SpanAns w B (B / 16 + 10) lo hi r w') := by
  obtain ⟨W, hW⟩ : ∃ W, W = (w.alloc (.cells #[.bool s.ln, .slice s.la s.lN s.lc, .bool s.hn, .slice s.ha s.hN s.hc, .int .i64 s.bits] 36)).alloc (.cells #[.bool false, .slice none 0 0, .bool false, .slice none 0 0, .int .i64 0] 36) := ⟨_, rfl⟩
  have hBW : Below w.heap.size w W := by rw [hW]; exact bl2 _ _ _
  have A : SpC W w.heap.size s := by rw [hW]; exact ⟨by simp [go_sem], by simp [go_sem], by simp [go_sem], by simp [go_sem], by simp [go_sem]⟩
  have R : NoC W (w.heap.size + 1) := by rw [hW]; exact ⟨by simp [go_sem], by simp [go_sem], by simp [go_sem], by simp [go_sem], by simp [go_sem], fun o => by simp [go_sem]⟩
  have HS := hide (hs.below hBW)
  have HB := hide hbits
  have lA := A.lt
  have lR := R.lt
  have a4 := A.c4
  have hf0 := fieldS0
  have hf1 := fieldS1
  have HY := hide (And.intro hYk (And.intro hBk (And.intro hJ1 hJ2)))
  have qB := Q_pos B
  clear hs hbits hYk hBk hJ1 hJ2
  go_enter Tryz.func173, Tryz.ntmps173
  go_wp2_with fail
  rw [← hW]
  clear hW a4
  refine (power2_z (e := B) s.bits (unhide HB) _ (by omega)).mono ?_
  rintro r' w6 ⟨neg6, a6, n6, c6, rfl, hint6, hb6⟩
  obtain ⟨V3, hV3⟩ : ∃ V, V = w6.alloc (.cells #[.bool neg6, .slice a6 n6 c6] 26) := ⟨_, rfl⟩
  have bV3 : Below w6.heap.size w6 V3 := by rw [hV3]; exact bl1 _ _
  have Pc : NmC V3 w6.heap.size ⟨neg6, a6, n6, c6⟩ := by rw [hV3]; exact nmc_new w6 ⟨neg6, a6, n6, c6⟩ _
  have HIP := hide (hint6.below bV3)
  replace R := R.below hb6
  have lR6 := R.lt
  replace A := (A.below hb6).below bV3
  replace R := R.below bV3
  replace hBW := bthen (bthen hBW hb6) bV3
  replace HS := hide (((unhide HS).below hb6).below bV3)
  clear hint6 hb6 bV3
  go_wp2_with fail
  rw [← hV3]
  clear hV3
  obtain ⟨BP, hBP⟩ : ∃ B', B' = w6.heap.size := ⟨_, rfl⟩
  rw [← hBP] at Pc lR6 ⊢
  clear hBP
  have lP := Pc.lt
  have lA2 := A.lt
  have lR2 := R.lt
  have nR1 : w.heap.size + 1 ≠ BP := by omega
  have nR2 : w.heap.size + 1 ≠ w.heap.size := by omega
  have HK := hide (show ∀ w', Below V3.heap.size V3 w' → (w'.cell? ⟨w.heap.size, 0, none⟩ = some (.bool s.ln) ∧ w'.cell? ⟨w.heap.size, 1, none⟩ = some (.slice s.la s.lN s.lc) ∧ w'.cell? ⟨w.heap.size, 2, none⟩ = some (.bool s.hn) ∧ w'.cell? ⟨w.heap.size, 3, none⟩ = some (.slice s.ha s.hN s.hc) ∧ w'.cell? ⟨w.heap.size, 4, none⟩ = some (.int .i64 s.bits) ∧ w'.cell? ⟨BP, 0, none⟩ = some (.bool (⟨neg6, a6, n6, c6⟩ : Nm).neg) ∧ w'.cell? ⟨BP, 1, none⟩ = some (.slice (⟨neg6, a6, n6, c6⟩ : Nm).a (⟨neg6, a6, n6, c6⟩ : Nm).n (⟨neg6, a6, n6, c6⟩ : Nm).cap)) from fun w' hB => ⟨(A.below hB).c0, (A.below hB).c1, (A.below hB).c2, (A.below hB).c3, (A.below hB).c4, (Pc.below hB).c0, (Pc.below hB).c1⟩)
  clear A Pc
  obtain ⟨x0, x1, x2, x3, x4, x5, x6⟩ := unhide HK _ (Below.refl _ _)
  have hD0 : Below V3.heap.size V3 V3.drew := (Below.refl _ _).drew
  go_region_held3 (fun w' => w'.cell? ⟨w.heap.size, 0, none⟩ = some (.bool s.ln) ∧ w'.cell? ⟨w.heap.size, 1, none⟩ = some (.slice s.la s.lN s.lc) ∧ w'.cell? ⟨w.heap.size, 2, none⟩ = some (.bool s.hn) ∧ w'.cell? ⟨w.heap.size, 3, none⟩ = some (.slice s.ha s.hN s.hc) ∧ w'.cell? ⟨w.heap.size, 4, none⟩ = some (.int .i64 s.bits) ∧ w'.cell? ⟨BP, 0, none⟩ = some (.bool (⟨neg6, a6, n6, c6⟩ : Nm).neg) ∧ w'.cell? ⟨BP, 1, none⟩ = some (.slice (⟨neg6, a6, n6, c6⟩ : Nm).a (⟨neg6, a6, n6, c6⟩ : Nm).n (⟨neg6, a6, n6, c6⟩ : Nm).cap)) (first | exact unhide HK _ (by first | with_reducible exact hD0 | with_reducible exact hD2 | with_reducible exact hD1) | go_keep)
    (first
      | (go_at_call 124; have hqq := hD1; refine (refLog_z (b := B) s.bits (unhide HB) _ ⟨s.hn, s.ha, s.hN, s.hc⟩ ⟨neg6, a6, n6, c6⟩ k J Y (Q B) ((unhide HS).hi.below hD1) (((unhide HIP).below hD1).mono hk2) (by omega) (by omega) hY (by omega) (unhide HY).1 (unhide HY).2.1 (unhide HY).2.2.1 (unhide HY).2.2.2 hJ).mono ?_; rintro r' w2 ⟨lo2, hi2, l2, g2, i2, v2, rfl, hvb2, hint2, hb2⟩; have hD2 := bthen hD1 hb2; have HG2 := hide (And.intro g2 i2); clear hvb2 g2 i2; replace hint1 := hint1.below hb2; obtain ⟨q0, q1, q2, q3, q4, q5⟩ := R.below hD2)
      | (go_at_call 124; refine (refLog_z (b := B) s.bits (unhide HB) _ ⟨s.ln, s.la, s.lN, s.lc⟩ ⟨neg6, a6, n6, c6⟩ k J Y (Q B) ((unhide HS).lo.below hD0) (((unhide HIP).below hD0).mono hk2) (by omega) (by omega) hY (by omega) (unhide HY).1 (unhide HY).2.1 (unhide HY).2.2.1 (unhide HY).2.2.2 hJ).mono ?_; rintro r' w1 ⟨lo1, hi1, l1, g1, i1, v1, rfl, hvb1, hint1, hb1⟩; have hD1 := bthen hD0 hb1; have HG1 := hide (And.intro g1 i1); clear hvb1 g1 i1))
  all_goals
    have HO := hide (iv_between (unhide HG1).2.1 ((unhide HG2).2.1.congr (((unhide HG1).1).uniq (unhide HG2).1)) (LeN.refl l1) (LeN.refl l1))
    have HAB := hide (show Abs (lo1, hi2) (3 * ((J : Int) + 1) * Q B) from ⟨(unhide HG1).2.2.1, (unhide HG1).2.2.2.1, (unhide HG2).2.2.2.2.1, (unhide HG2).2.2.2.2.2⟩)
    go_wp2_with fail
    refine bodyPost_ret (v := .agg #[.bool v1.ln, .slice v1.la v1.lN v1.lc, .bool v2.hn, .slice v2.ha v2.hN v2.hc, .int .i64 s.bits]) (by simp [results, Tryz.results173, go_sem, q0, q1, q2, q3, q4]) rfl ⟨lo1, hi2, l1, (unhide HG1).1, ⟨unhide HO, unhide HAB⟩, ⟨v1.ln, v1.la, v1.lN, v1.lc, v2.hn, v2.ha, v2.hN, v2.hc, s.bits⟩, rfl, unhide HB, ?_, ?_⟩
    · exact SpAt.put5 (show SpAt _ (⟨v1.ln, v1.la, v1.lN, v1.lc, v2.hn, v2.ha, v2.hN, v2.hc, s.bits⟩ : Sp) _ lo1 hi2 from ⟨hint1.lo, hint2.hi⟩) q0 q1 q2 q3 q4 _ _ _ _ _
    · exact set5 (bthen hBW hD2) (Nat.le_succ _) _ _ _ _ _
set_option maxRecDepth 100000 in
set_option maxHeartbeats 4000000 in
theorem refLogPoint (w : World) (x : Nm) (B J : Nat) (p q Y : Int) (hx : IntAt w x.neg x.a x.n x.cap 100 Y) (hB : B ≤ 300) (hY : 0 < Y) (hYb : Y < Q (B + 20)) (hJ1 : Q B ≤ Y * Q J) (hJ2 : Y < Q B * Q (J + 1)) (hJ : J ≤ 1000) (hp : 0 < p) (hq : 0 < q) (hp2 : p ≤ 1048576) (hq2 : q ≤ 1048576) :
    Calls Tryz.prog 136 #[.agg #[.bool x.neg, .slice x.a x.n x.cap], .agg #[.int .i64 p, .int .i64 q], .int .i64 B] w (fun r w' => ∃ (lo hi : Int) (l : Nat → Rat), Ex.IsLog l (fun _ => (Y : Rat) / (Q B : Rat)) ∧ (Iv (B + 64) (lo, hi) l ∧ Abs (lo, hi) (3 * ((J : Int) + 1) * Q (B + 64))) ∧ SpanAns w ((B + 64 : Nat) : Int) 60 (byI (lo, hi) p q).1 (byI (lo, hi) p q).2 r w') := by
  obtain ⟨W, hW⟩ : ∃ W, W = ((w.alloc (.cells #[.bool x.neg, .slice x.a x.n x.cap] 26)).alloc (.cells #[.int .i64 p, .int .i64 q] 23)).alloc (.cells #[.bool false, .slice none 0 0, .bool false, .slice none 0 0, .int .i64 0] 36) := ⟨_, rfl⟩
  have hBW : Below w.heap.size w W := by rw [hW]; exact bl3 _ _ _ _
  have A : NmC W w.heap.size x := by rw [hW]; exact ⟨by simp [go_sem], by simp [go_sem]⟩
  have D : RaC W (w.heap.size + 1) p q := by rw [hW]; exact ⟨by simp [go_sem], by simp [go_sem]⟩
  have R : NoC W (w.heap.size + 1 + 1) := by rw [hW]; exact ⟨by simp [go_sem], by simp [go_sem], by simp [go_sem], by simp [go_sem], by simp [go_sem], fun o => by simp [go_sem]⟩
  have HX := hide (hx.below hBW)
  have lA := A.lt
  have lD := D.lt
  have lR := R.lt
  have HK := hide (show ∀ w', Below W.heap.size W w' → (w'.cell? ⟨w.heap.size, 0, none⟩ = some (.bool x.neg) ∧ w'.cell? ⟨w.heap.size, 1, none⟩ = some (.slice x.a x.n x.cap) ∧ w'.cell? ⟨w.heap.size + 1, 0, none⟩ = some (.int .i64 p) ∧ w'.cell? ⟨w.heap.size + 1, 1, none⟩ = some (.int .i64 q)) from fun w' hB => ⟨(A.below hB).c0, (A.below hB).c1, (D.below hB).c0, (D.below hB).c1⟩)
  have H64 := hide (lp_facts (J := J) hB hY hYb hJ1 hJ2)
  have HE := hide (show IntKind.i64.wrap ((B : Int) + 64) = ((B + 64 : Nat) : Int) from (i64_id _ (by omega) (by omega)).trans (by omega))
  have HE2 := hide (show ((B : Int) + 64) = ((B + 64 : Nat) : Int) by omega)
  clear hx A D hJ1 hJ2 hYb
  go_enter Tryz.func136, Tryz.ntmps136
  go_wp2_with fail
  rw [← hW]
  clear hW
  have n1 : w.heap.size + 1 + 1 ≠ w.heap.size := by omega
  have n2 : w.heap.size + 1 + 1 ≠ w.heap.size + 1 := by omega
  obtain ⟨x0, x1, x2, x3⟩ := unhide HK _ (Below.refl _ _)
  have hD0 : Below W.heap.size W W.drew := (Below.refl _ _).drew
  go_region_held3 (fun w' => w'.cell? ⟨w.heap.size, 0, none⟩ = some (.bool x.neg) ∧ w'.cell? ⟨w.heap.size, 1, none⟩ = some (.slice x.a x.n x.cap) ∧ w'.cell? ⟨w.heap.size + 1, 0, none⟩ = some (.int .i64 p) ∧ w'.cell? ⟨w.heap.size + 1, 1, none⟩ = some (.int .i64 q)) (first | exact unhide HK _ (by first | with_reducible exact hD0 | with_reducible exact hD8 | with_reducible exact hD7 | with_reducible exact hD6 | with_reducible exact hD5 | with_reducible exact hD4 | with_reducible exact hD3 | with_reducible exact hD2 | with_reducible exact hD1) | go_keep)
    (first
      | (go_at_call 56; have hqq := hD7; refine (refBy _ v5 ⟨neg6, a6, n6, c6⟩ ⟨neg7, a7, n7, c7⟩ 40 4 4 (B + 64) (lo, hi) p q (((hint5.below hb6).below hb7).mono (by omega)) (hint6.below hb7) hint7 (by omega) (by omega) (by omega) hq (unhide HB5)).mono ?_; rintro r' w8 ⟨v8, rfl, hvb8, hint8, hb8⟩; have hD8 := bthen hD7 hb8; have HB8 := hide hvb8; clear hvb8; obtain ⟨q0, q1, q2, q3, q4, q5⟩ := R.below hD8)
      | (go_at_call 43; have hqq := hD6; refine (numOf_int q _ (by omega) (by omega)).mono ?_; rintro r' w7 ⟨neg7, a7, n7, c7, rfl, hint7, hb7⟩; have hD7 := bthen hD6 hb7)
      | (go_at_call 43; have hqq := hD5; refine (numOf_int p _ (by omega) (by omega)).mono ?_; rintro r' w6 ⟨neg6, a6, n6, c6, rfl, hint6, hb6⟩; have hD6 := bthen hD5 hb6)
      | (go_at_call 173; have hqq := hD4; (first | rw [unhide HE] | rw [unhide HE2] | skip); refine (refLogOf _ ⟨neg2, a2, n2', c2, neg4, a4, n4', c4, ((B + 64 : Nat) : Int)⟩ 120 (B + 64) J (Y * Q 64) ⟨((hint2.below hb3).below hb4).mono (by omega), hint4.mono (by omega)⟩ rfl (by omega) (by omega) (by omega) (unhide H64).1 (unhide H64).2.1 (unhide H64).2.2.1 (unhide H64).2.2.2.1 (unhide H64).2.2.2.2.1 hJ).mono ?_; rintro r' w5 ⟨lo, hi, l, gl, il, v5, rfl, hvb5, hint5, hb5⟩; have hD5 := bthen hD4 hb5; have HB5 := hide hvb5; have HGL := hide (And.intro gl il); clear hvb5 gl il)
      | (go_at_call 66; have hqq := hD3; refine (mul_int _ _ _ _ _ _ _ _ 100 (64 / 16 + 8) Y (Q 64) _ ((unhide HX).below hD3) hint3 (by omega) (by omega)).mono ?_; rintro r' w4 ⟨neg4, a4, n4', c4, rfl, hint4, hb4⟩; have hD4 := bthen hD3 hb4)
      | (go_at_call 104; have hqq := hD2; refine (power2_z (e := 64) 64 rfl _ (by omega)).mono ?_; rintro r' w3 ⟨neg3, a3, n3', c3, rfl, hint3, hb3⟩; have hD3 := bthen hD2 hb3)
      | (go_at_call 66; have hqq := hD1; refine (mul_int _ _ _ _ _ _ _ _ 100 (64 / 16 + 8) Y (Q 64) _ ((unhide HX).below hD1) hint1 (by omega) (by omega)).mono ?_; rintro r' w2 ⟨neg2, a2, n2', c2, rfl, hint2, hb2⟩; have hD2 := bthen hD1 hb2)
      | (go_at_call 104; refine (power2_z (e := 64) 64 rfl _ (by omega)).mono ?_; rintro r' w1 ⟨neg1, a1, n1', c1, rfl, hint1, hb1⟩; have hD1 := bthen hD0 hb1))
  all_goals
    have HGF := hide (lp_log (unhide HGL).1)
    go_wp2_with fail
    refine bodyPost_ret (v := .agg #[.bool v8.ln, .slice v8.la v8.lN v8.lc, .bool v8.hn, .slice v8.ha v8.hN v8.hc, .int .i64 v8.bits]) (by simp [results, Tryz.results136, go_sem, q0, q1, q2, q3, q4]) rfl ⟨lo, hi, l, unhide HGF, (unhide HGL).2, v8, rfl, unhide HB8, ?_, ?_⟩
    · exact SpAt.put5 (hint8.mono (by omega)) q0 q1 q2 q3 q4 _ _ _ _ _
    · exact set5 (bthen hBW hD8) (by omega) _ _ _ _ _
end Go.Proofs.YtgmnknmjainababGreat
namespace Go.Proofs.YtgmnknmjainababGreat
open Go.RowKit
attribute [local go_sem ↓] Go.wp_at_zero Go.wp_at_succ
open Ex
theorem wh_ab {B : Nat} {x c : Int} (h1 : -(c * Q B) ≤ x) (h2 : x ≤ c * Q B) : wh x B ≤ c := by
  have q := Q_pos B
  unfold wh
  split
  · exact Int.ediv_le_of_le_mul (by omega) h2
  · exact Int.ediv_le_of_le_mul (by omega) (by omega)
theorem Iv.up {B : Nat} {a : Int × Int} {x : Nat → Rat} (h : Iv B a x) (i : Nat) : Iv (B + i) (a.1 * Q i, a.2 * Q i) x := by
  have q := Qr_pos B
  have qi := Qr_pos i
  have q2 := Qr_pos (B + i)
  have e1 : (Q (B + i) : Rat) = (Q B : Rat) * (Q i : Rat) := by rw [Q_add, Rat.intCast_mul]
  have e : ∀ z : Int, ((z * Q i : Int) : Rat) / (Q (B + i) : Rat) = (z : Rat) / (Q B : Rat) := fun z => by
    have a := rdm (a := ((z * Q i : Int) : Rat)) q2
    have b := rdm (a := (z : Rat)) q
    refine rat_cancel (c := (Q (B + i) : Rat)) q2 ?_
    have r1 : (Q (B + i) : Rat) * (((z * Q i : Int) : Rat) / (Q (B + i) : Rat)) = ((z * Q i : Int) : Rat) / (Q (B + i) : Rat) * (Q (B + i) : Rat) := by grind
    rw [r1, a, e1, Rat.intCast_mul]
    have r2 : (Q B : Rat) * (Q i : Rat) * ((z : Rat) / (Q B : Rat)) = (z : Rat) / (Q B : Rat) * (Q B : Rat) * (Q i : Rat) := by grind
    rw [r2, b]
  show Has (((a.1 * Q i : Int) : Rat) / (Q (B + i) : Rat)) (((a.2 * Q i : Int) : Rat) / (Q (B + i) : Rat)) x
  rw [e, e]
  exact h
theorem wh_up {B i : Nat} {x c : Int} (h1 : -(c * Q B) ≤ x) (h2 : x ≤ c * Q B) : wh (x * Q i) (B + i) ≤ c := by
  have qi := Q_pos i
  have qB := Q_pos B
  have e : Q (B + i) = Q B * Q i := Q_add B i
  refine wh_ab (B := B + i) ?_ ?_
  · have m := Int.mul_le_mul_of_nonneg_right h1 (show 0 ≤ Q i by omega)
    have r : -(c * Q B) * Q i = -(c * Q (B + i)) := by rw [e]; grind
    omega
  · have m := Int.mul_le_mul_of_nonneg_right h2 (show 0 ≤ Q i by omega)
    have r : c * Q B * Q i = c * Q (B + i) := by rw [e]; grind
    omega
theorem down_at {K : Nat} (z : Int) (hz : z = (K : Int)) (neg : Bool) (a : Option Addr) (n cap k1 : Nat) (x : Int) (w : World) (h1 : IntAt w neg a n cap k1 x) (hk1 : k1 ≤ 1000000000) (hk : K ≤ 1000000000) :
    Calls Tryz.prog 105 #[.agg #[.bool neg, .slice a n cap], .int .i64 z] w fun r w' =>
      ∃ neg' a' n' cap', r = .returned (.agg #[.bool neg', .slice a' n' cap']) ∧ IntAt w' neg' a' n' cap' (k1 + 5) (x / Q K) ∧ Below w.heap.size w w' := by
  subst hz
  exact down_int neg a n cap K k1 x w h1 hk1 hk
theorem ew_fit0 {e K : Nat} (h : e + 1 ≤ 16 * K) : Q e < P K := by
  rw [← Q_P]
  have g1 := Q_mono h
  have g2 : Q (e + 1) = 2 * Q e := rfl
  have g3 := Q_pos e
  omega
theorem ew_fit {B i : Nat} (hB : B ≤ 1000) (hi : i ≤ 182016) : Q (B + i + 40 + 4 * (2 * 91000 + 1) + 20) < P 200000 := ew_fit0 (by omega)
set_option maxRecDepth 100000 in
set_option maxHeartbeats 4000000 in
theorem refExpWide (w : World) (s : Sp) (k B : Nat) (lo hi : Int) (y : Nat → Rat) (hs : SpAt w s k lo hi) (hbits : s.bits = (B : Int)) (hk : k ≤ 100000) (hB0 : 20 ≤ B) (hB : B ≤ 1000) (hy : Iv B (lo, hi) y) (ha : Abs (lo, hi) (91000 * Q B)) :
    Calls Tryz.prog 137 #[.agg #[.bool s.ln, .slice s.la s.lN s.lc, .bool s.hn, .slice s.ha s.hN s.hc, .int .i64 s.bits]] w (fun r w' => ∃ (i : Nat) (lo hi : Int), i ≤ 2 * 91000 + 16 ∧ Iv (B + i) (lo, hi) (Ev y) ∧ SpanAns w ((B + i : Nat) : Int) 200000 lo hi r w') := by
  obtain ⟨W, hW⟩ : ∃ W, W = (w.alloc (.cells #[.bool s.ln, .slice s.la s.lN s.lc, .bool s.hn, .slice s.ha s.hN s.hc, .int .i64 s.bits] 36)).alloc (.cells #[.bool false, .slice none 0 0, .bool false, .slice none 0 0, .int .i64 0] 36) := ⟨_, rfl⟩
  have hBW : Below w.heap.size w W := by rw [hW]; exact bl2 _ _ _
  have A : SpC W w.heap.size s := by rw [hW]; exact ⟨by simp [go_sem], by simp [go_sem], by simp [go_sem], by simp [go_sem], by simp [go_sem]⟩
  have R : NoC W (w.heap.size + 1) := by rw [hW]; exact ⟨by simp [go_sem], by simp [go_sem], by simp [go_sem], by simp [go_sem], by simp [go_sem], fun o => by simp [go_sem]⟩
  have HS := hide (hs.below hBW)
  have HB := hide hbits
  have HY := hide (And.intro hy ha)
  have lA := A.lt
  have lR := R.lt
  have a0 := A.c0
  have a1 := A.c1
  have a4 := A.c4
  have qB := Q_pos B
  clear hs hbits hy ha
  go_enter Tryz.func137, Tryz.ntmps137
  go_wp2_with fail
  rw [← hW]
  clear hW a0 a1 a4
  have hbv := unhide HB
  refine (sign_int _ _ _ _ _ lo _ (unhide HS).lo).mono ?_
  rintro r w1 ⟨rfl, hb1⟩
  replace A := A.below hb1
  replace R := R.below hb1
  replace hBW := bthen hBW hb1
  replace HS := hide ((unhide HS).below hb1)
  clear hb1 lA lR
  by_cases h0 : lo < 0
  · have hc : cmpInt lo 0 = -1 := by unfold cmpInt; rw [if_pos h0]
    rw [hc]
    clear hc
    obtain ⟨v, hv⟩ : ∃ v : Nat, (v : Int) = -lo / Q B := ⟨(-lo / Q B).toNat, by have := Int.ediv_nonneg (show 0 ≤ -lo by omega) (show 0 ≤ Q B by omega); omega⟩
    have hvc : v ≤ 91000 := by
      have t := (unhide HY).2.1
      simp only [] at t
      have : -lo / Q B ≤ 91000 := Int.ediv_le_of_le_mul (by omega) (by omega)
      omega
    have HV := hide hv
    have HE := hide (show IntKind.i64.wrap (s.bits + (2 * (v : Int) + 16)) = ((B + (2 * v + 16) : Nat) : Int) by rw [hbv]; exact (i64_id _ (by omega) (by omega)).trans (by omega))
    have HE1 := hide (show IntKind.i64.wrap (2 * (v : Int) + 16) = 2 * (v : Int) + 16 from i64_id _ (by omega) (by omega))
    have HE0 := hide (show IntKind.i64.wrap (2 * (v : Int)) = 2 * (v : Int) from i64_id _ (by omega) (by omega))
    clear hv hbv
    go_wp2_with fail
    go_cut [3] (fun bb wx => bb = .int .i64 ((B + (2 * v + 16) : Nat) : Int) ∧ Below w1.heap.size w1 wx)
    case first =>
      have HK := hide (show ∀ w', Below w1.heap.size w1 w' → (w'.cell? ⟨w.heap.size, 0, none⟩ = some (.bool s.ln) ∧ w'.cell? ⟨w.heap.size, 1, none⟩ = some (.slice s.la s.lN s.lc) ∧ w'.cell? ⟨w.heap.size, 2, none⟩ = some (.bool s.hn) ∧ w'.cell? ⟨w.heap.size, 3, none⟩ = some (.slice s.ha s.hN s.hc) ∧ w'.cell? ⟨w.heap.size, 4, none⟩ = some (.int .i64 s.bits)) from fun w' hB => ⟨(A.below hB).c0, (A.below hB).c1, (A.below hB).c2, (A.below hB).c3, (A.below hB).c4⟩)
      have hD0 : Below w1.heap.size w1 w1.drew := (Below.refl _ _).drew
      have lA := A.lt
      obtain ⟨x0, x1, x2, x3, x4⟩ := unhide HK _ (Below.refl _ _)
      go_region_held3 (fun w' => w'.cell? ⟨w.heap.size, 0, none⟩ = some (.bool s.ln) ∧ w'.cell? ⟨w.heap.size, 1, none⟩ = some (.slice s.la s.lN s.lc) ∧ w'.cell? ⟨w.heap.size, 2, none⟩ = some (.bool s.hn) ∧ w'.cell? ⟨w.heap.size, 3, none⟩ = some (.slice s.ha s.hN s.hc) ∧ w'.cell? ⟨w.heap.size, 4, none⟩ = some (.int .i64 s.bits)) (first | exact unhide HK _ (by first | with_reducible exact hD0 | with_reducible exact hD3 | with_reducible exact hD2 | with_reducible exact hD1) | go_keep)
        (first
          | (go_at_call 134; have hqq := hD2; refine (refValue _ ⟨neg3, a3, n3, c3⟩ (k + 5) (v : Int) (by rw [unhide HV]; exact hint3) (by omega) (by omega)).mono ?_; rintro r' w4 ⟨rfl, hb4⟩; have hD3 := bthen hD2 hb4)
          | (go_at_call 105; have hqq := hD1; refine (down_at (K := B) s.bits (unhide HB) _ _ _ _ k (-lo) _ hint2 (by omega) (by omega)).mono ?_; rintro r' w3 ⟨neg3, a3, n3, c3, rfl, hint3, hb3⟩; have hD2 := bthen hD1 hb3)
          | (go_at_call 103; refine (neg_int _ _ _ _ k lo _ ((unhide HS).lo.below hD0) (by omega)).mono ?_; rintro r' w2 ⟨neg2, a2, n2, c2, rfl, hint2, hb2⟩; have hD1 := bthen hD0 hb2))
      all_goals
        go_wp2_with fail
        go_meet
        refine ⟨?_, hD3⟩
        first | rw [unhide HE0, unhide HE1, unhide HE] | rw [unhide HE1, unhide HE] | rw [unhide HE] | (have hbv := unhide HB; rw [hbv]; congr 1; omega)
    case rest =>
    obtain ⟨rfl, hbc⟩ := hcut
    obtain ⟨V3, h3x⟩ : ∃ V, V = wc := ⟨_, rfl⟩
    subst h3x
    replace A := A.below hbc
    replace R := R.below hbc
    replace hBW := bthen hBW hbc
    replace HS := hide ((unhide HS).below hbc)
    have lA := A.lt
    obtain ⟨x0, x1, x2, x3, x4⟩ := A
    clear hbc HE HE1 HE0
    go_wp2_with fail
    refine (refTurn_int _ s k (((B + (2 * v + 16) : Nat) : Int)) lo hi (unhide HS) (by omega) (by have := unhide HB; omega) (by have := unhide HB; omega) (by omega) (by omega)).mono ?_
    rintro r wt ⟨vt, rfl, hvbt, hintt, hbt⟩
    rw [unhide HB, downZ_up _ _ _ (2 * v + 16) (by omega), downZ_upn _ _ _ (2 * v + 16) (by omega)] at hintt
    have HBT := hide hvbt
    have HPT := hide hintt
    replace R := R.below hbt
    replace hBW := bthen hBW hbt
    clear hvbt hintt hbt
    have HQK := hide (ew_fit (B := B) (i := (2 * v + 16)) (by omega) (by omega))
    go_wp2_with fail
    refine (refExpOf_iv _ vt (k + 62505) (B + (2 * v + 16)) 200000 91000 (lo * Q (2 * v + 16), hi * Q (2 * v + 16)) y (unhide HY).1.bdd (unhide HPT) (unhide HBT) ((unhide HY).1.up (2 * v + 16)) (wh_up (unhide HY).2.1 (unhide HY).2.2.1) (wh_up (unhide HY).2.2.2.1 (unhide HY).2.2.2.2) (by omega) (by omega) (by omega) (unhide HQK) (by omega) (by omega) (by omega)).mono ?_
    rintro r we ⟨o, io, _, ve, rfl, hvbe, hinte, hbe⟩
    have HIO := hide io
    have HBE := hide hvbe
    have lR := R.lt
    obtain ⟨q0, q1, q2, q3, q4, q5⟩ := R.below hbe
    replace hBW := bthen hBW hbe
    clear io hvbe hbe
    go_wp2_with fail
    refine bodyPost_ret (v := .agg #[.bool ve.ln, .slice ve.la ve.lN ve.lc, .bool ve.hn, .slice ve.ha ve.hN ve.hc, .int .i64 ve.bits]) (by simp [results, Tryz.results137, go_sem, q0, q1, q2, q3, q4]) rfl ⟨(2 * v + 16), o.1, o.2, by omega, unhide HIO, ve, rfl, unhide HBE, ?_, ?_⟩
    · exact SpAt.put5 hinte q0 q1 q2 q3 q4 _ _ _ _ _
    · exact set5 hBW (by omega) _ _ _ _ _
  · obtain ⟨cc, hc0, hc⟩ : ∃ cc : Int, 0 ≤ cc ∧ cmpInt lo 0 = cc := ⟨_, by unfold cmpInt; rw [if_neg h0]; split <;> omega, rfl⟩
    rw [hc]
    clear hc
    have lA := A.lt
    obtain ⟨x0, x1, x2, x3, x4⟩ := A
    have hz0 : s.bits = ((B + 0 : Nat) : Int) := by rw [hbv]; omega
    have HZ0 := hide hz0
    clear hbv hz0
    go_wp2_with fail
    refine (refTurn_int _ s k s.bits lo hi (unhide HS) (by omega) (by have := unhide HB; omega) (by have := unhide HB; omega) (by have := unhide HB; omega) (by have := unhide HB; omega)).mono ?_
    rintro r wt ⟨vt, rfl, hvbt, hintt, hbt⟩
    rw [downZ_up _ _ _ 0 (by omega), downZ_upn _ _ _ 0 (by omega)] at hintt
    have HBT := hide (hvbt.trans (unhide HZ0))
    have HPT := hide hintt
    replace R := R.below hbt
    replace hBW := bthen hBW hbt
    clear hvbt hintt hbt
    have HQK := hide (ew_fit (B := B) (i := 0) (by omega) (by omega))
    go_wp2_with fail
    refine (refExpOf_iv _ vt (k + 62505) (B + 0) 200000 91000 (lo * Q 0, hi * Q 0) y (unhide HY).1.bdd (unhide HPT) (unhide HBT) ((unhide HY).1.up 0) (wh_up (unhide HY).2.1 (unhide HY).2.2.1) (wh_up (unhide HY).2.2.2.1 (unhide HY).2.2.2.2) (by omega) (by omega) (by omega) (unhide HQK) (by omega) (by omega) (by omega)).mono ?_
    rintro r we ⟨o, io, _, ve, rfl, hvbe, hinte, hbe⟩
    have HIO := hide io
    have HBE := hide hvbe
    have lR := R.lt
    obtain ⟨q0, q1, q2, q3, q4, q5⟩ := R.below hbe
    replace hBW := bthen hBW hbe
    clear io hvbe hbe
    go_wp2_with fail
    refine bodyPost_ret (v := .agg #[.bool ve.ln, .slice ve.la ve.lN ve.lc, .bool ve.hn, .slice ve.ha ve.hN ve.hc, .int .i64 ve.bits]) (by simp [results, Tryz.results137, go_sem, q0, q1, q2, q3, q4]) rfl ⟨0, o.1, o.2, by omega, unhide HIO, ve, rfl, unhide HBE, ?_, ?_⟩
    · exact SpAt.put5 hinte q0 q1 q2 q3 q4 _ _ _ _ _
    · exact set5 hBW (by omega) _ _ _ _ _
end Go.Proofs.YtgmnknmjainababGreat
namespace Go.Proofs.YtgmnknmjainababGreat
open Ex
namespace Ex
def lw (L : Rat → Nat → Rat) (a x : Rat) (g : Nat → Rat) (M : Nat) : Rat := uG L a x M * (1 / g M)
theorem inv_of {g : Nat → Rat} (h : ∃ c : Rat, 0 < c ∧ ∃ N : Nat, ∀ M, N ≤ M → c ≤ g M) : Bdd (fun M => 1 / g M) ∧ Nn (fun M => 1 / g M) ∧ ∃ N : Nat, ∀ M, N ≤ M → g M * (1 / g M) = 1 ∧ 0 < g M ∧ 0 ≤ 1 / g M := by
  obtain ⟨c, c0, N, hc⟩ := h
  have one : ∀ M, N ≤ M → g M * (1 / g M) = 1 ∧ 0 < g M ∧ 0 ≤ 1 / g M := fun M hM => by
    have g0 : 0 < g M := by have := hc M hM; grind
    have := rdm (a := 1) g0
    exact ⟨by grind, g0, qle_div g0 (by grind)⟩
  refine ⟨Bdd.of_le (1 / c) N fun M hM => ?_, ⟨N, fun M hM => (one M hM).2.2⟩, N, one⟩
  obtain ⟨e1, e2, e3⟩ := one M hM
  have ic : 0 ≤ 1 / c := qle_div c0 (by grind)
  refine ⟨by grind, qdiv_le e2 ?_⟩
  have m := Rat.mul_le_mul_of_nonneg_left (hc M hM) ic
  have := rdm (a := 1) c0
  grind
theorem lw_bdd {L : Rat → Nat → Rat} (hL : Lns L) {a x : Rat} {g : Nat → Rat} (ha : 0 < a) (hx : 0 < x) (h : IsGam L a g) : Bdd (lw L a x g) := (uG_bdd hL ha hx).mul (inv_of h.pos).1
theorem lw_nn {L : Rat → Nat → Rat} (hL : Lns L) {a x : Rat} {g : Nat → Rat} (ha : 0 < a) (hx : 0 < x) (h : IsGam L a g) : Nn (lw L a x g) := (uG_nn hL ha hx).mul (inv_of h.pos).2.1
theorem lw_mono {L : Rat → Nat → Rat} (hL : Lns L) {a x y : Rat} {g : Nat → Rat} (ha : 0 < a) (hx : 0 < x) (hxy : x ≤ y) (h : IsGam L a g) : LeN (lw L a x g) (lw L a y g) :=
  (uG_mono hL ha hx hxy).bmul (inv_of h.pos).1 (inv_of h.pos).2.1
theorem lw_one {L : Rat → Nat → Rat} {a x : Rat} {g : Nat → Rat} (hx : 0 < x) (h : IsGam L a g) : LeN (lw L a x g) (fun _ => 1) := by
  obtain ⟨i1, i2, N, i3⟩ := inv_of h.pos
  exact ((h.lo x hx).bmul i1 i2).trans (LeN.of_le N fun M hM => by have := (i3 M hM).1; grind)
theorem lw_far {L : Rat → Nat → Rat} (hL : Lns L) {a x : Rat} {g : Nat → Rat} {k : Rat} (ha : 0 < a) (hx1 : 1 ≤ x) (hx2 : 2 * a ≤ x + 2) (hk : 0 < k) (N0 : Nat) (hs : ∀ M, N0 ≤ M → 2 * k ≤ x * uS a x M) (h : IsGam L a g) : LeN (fun _ => 1 - 1 / k) (lw L a x g) := by
  have hx : 0 < x := by grind
  obtain ⟨i1, i2, N, i3⟩ := inv_of h.pos
  have n1 := (uE_mul hL hx a).bmul (uS_Bdd ha (Rat.le_of_lt hx))
  obtain ⟨N2, e2⟩ := uE_nn hL hx a
  have l1 : LeN (fun M => 2 * k * uE L a x M) (uG L a x) := by
    refine LeN.of_null n1 (N0 + N2) fun M hM => ?_
    have u0 := e2 M (by omega)
    have m := Rat.mul_le_mul_of_nonneg_right (hs M (by omega)) u0
    unfold uG
    generalize uE L a x M = ue at *
    generalize uS a x M = s at *
    generalize pr L a x M = p at *
    generalize ex (-x) M = y at *
    grind
  have l2 := l1.trans (h.lo x hx)
  have l3 := h.hi x hx1 hx2
  have ik : 0 ≤ 1 / k := qle_div hk (by grind)
  have dk := rdm (a := 1) hk
  have l4 : LeN g (fun M => uG L a x M + 1 / k * g M) := by
    refine l3.trans (LeN.trans ?_ ((LeN.refl (uG L a x)).add (l2.cmul ik)))
    refine LeN.of_le 0 fun M _ => ?_
    generalize uE L a x M = ue
    generalize uG L a x M = u
    generalize 1 / k = i at *
    have : i * (2 * k * ue) = 2 * (i * k * ue) := by grind
    rw [this, dk]; grind
  have l5 := l4.bmul i1 i2
  refine LeN.trans ?_ (LeN.trans (l5.add (LeN.refl (fun _ => -(1 / k)))) ?_)
  · refine LeN.of_le N fun M hM => ?_
    have := (i3 M hM).1
    grind
  · refine LeN.of_le N fun M hM => ?_
    have := (i3 M hM).1
    unfold lw
    generalize 1 / g M = j at *
    generalize uG L a x M = u at *
    generalize 1 / k = i at *
    have : (u + i * g M) * j = u * j + i * (g M * j) := by grind
    rw [this, (show g M * j = 1 by grind)]
    grind
theorem null_div {F l s : Nat → Rat} (hF : ∃ c : Rat, 0 < c ∧ ∃ N : Nat, ∀ M, N ≤ M → c ≤ F M) (h : Null (fun M => F M * l M - s M)) : Null (fun M => l M - s M / F M) := by
  obtain ⟨i1, i2, N, i3⟩ := inv_of hF
  refine (h.bmul i1).of_eq_from N fun M hM => ?_
  obtain ⟨e1, e2, e3⟩ := i3 M hM
  have d := rdm (a := s M) e2
  refine rat_cancel (c := F M) e2 ?_
  have r1 : F M * (l M - s M / F M) = F M * l M - s M / F M * F M := by grind
  have r2 : F M * ((F M * l M - s M) * (1 / F M)) = (F M * l M - s M) * (F M * (1 / F M)) := by grind
  rw [r1, r2, d, e1]; grind
def lwY (L : Rat → Nat → Rat) (a x : Rat) (X : Nat → Rat) (M : Nat) : Rat := x - a * L x M + X M
theorem lwY_bdd {L : Rat → Nat → Rat} (hL : Lns L) {a x : Rat} (hx : 0 < x) {X g1 : Nat → Rat} (hX : IsLog X g1) : Bdd (lwY L a x X) := ((Bdd.const x).sub (pr_arg hL hx a)).add hX.1
theorem lw_prod {L : Rat → Nat → Rat} (hL : Lns L) {a x : Rat} {g X : Nat → Rat} (ha : 0 < a) (hx : 0 < x) (h : IsGam L a g) (hX : IsLog X (fun M => a * g M)) : Null (fun M => Ev (lwY L a x X) M * lw L a x g M - a * uS a x M) := by
  obtain ⟨i1, i2, N, i3⟩ := inv_of h.pos
  have by_ : Bdd (fun M => x - a * L x M) := (Bdd.const x).sub (pr_arg hL hx a)
  have n1 := (Ev_add by_ hX.1).bmul (lw_bdd hL ha hx h)
  have n2 := (hX.2.bmul (Ev_bdd by_)).bmul (lw_bdd hL ha hx h)
  have n3 := (uG_quot hL ha hx).bmul ((Ev_bdd by_).mul (Bdd.const a))
  obtain ⟨c, c0, N2, hc⟩ := Ev_low by_
  refine (((n1.neg).add n2).add n3).of_eq_from (N + N2) fun M hM => ?_
  obtain ⟨e1, e2, e3⟩ := i3 M (by omega)
  have ep : 0 < Ev (fun M => x - a * L x M) M := by have := hc M (by omega); grind
  have d := rdm (a := uS a x M) ep
  have eY : Ev (lwY L a x X) M = Ev (fun M => x - a * L x M + X M) M := rfl
  dsimp only
  rw [eY]
  unfold lw
  generalize Ev (fun M => x - a * L x M + X M) M = v at *
  generalize Ev (fun M => x - a * L x M) M = y at *
  generalize Ev X M = xx at *
  generalize uG L a x M = u at *
  generalize uS a x M = s at *
  generalize 1 / g M = j at *
  generalize s / y = t at *
  generalize g M = gg at *
  clear n1 n2 n3 i1 i2 i3 h hX hc
  have r1 : y * (a * gg) * (u * j) = a * y * u * (gg * j) := by grind
  have r2 : a * (t * y) = a * s := by rw [d]
  rw [e1] at r1
  grind
theorem lw_quot {L : Rat → Nat → Rat} (hL : Lns L) {a x : Rat} {g X : Nat → Rat} (ha : 0 < a) (hx : 0 < x) (h : IsGam L a g) (hX : IsLog X (fun M => a * g M)) : Null (fun M => lw L a x g M - a * uS a x M / Ev (lwY L a x X) M) :=
  null_div (Ev_low (lwY_bdd hL hx hX)) (lw_prod hL ha hx h hX)
theorem lwY_nonneg {L : Rat → Nat → Rat} (hL : Lns L) {a x : Rat} {g X : Nat → Rat} (ha : 0 < a) (hx : 0 < x) (h : IsGam L a g) (hX : IsLog X (fun M => a * g M)) : LeN (fun _ => 0) (lwY L a x X) := by
  have bY := lwY_bdd (a := a) hL hx hX
  have l1 : LeN (fun M => a * uS a x M) (Ev (lwY L a x X)) := by
    refine (LeN.of_eqN (Null.symm (lw_prod hL ha hx h hX))).trans ?_
    have l := (lw_one hx h).bmul (Ev_bdd bY) (Ev_nn bY)
    exact LeN.trans (LeN.of_le 0 fun M _ => by grind) (l.trans (LeN.of_le 0 fun M _ => by grind))
  have l2 : LeN (fun _ => 1) (Ev (lwY L a x X)) := by
    refine LeN.trans (LeN.of_le 1 fun M hM => ?_) l1
    obtain ⟨m, rfl⟩ : ∃ m, M = m + 1 := ⟨M - 1, by omega⟩
    have f := uS_first ha (Rat.le_of_lt hx) m
    have k := Rat.mul_le_mul_of_nonneg_left f (Rat.le_of_lt ha)
    have d := rdm (a := 1) ha
    grind
  obtain ⟨z, hz, kz⟩ := l2.null
  intro e he
  exact Ev_back (Bdd.const 0) bY hz 1 (fun M hM => by
    obtain ⟨m, rfl⟩ : ∃ m, M = m + 1 := ⟨M - 1, by omega⟩
    have e0 : Ev (fun _ => (0 : Rat)) (m + 1) = 1 := E_zero m
    rw [e0]; exact kz (m + 1)) e he
end Ex
end Go.Proofs.YtgmnknmjainababGreat
namespace Go.Proofs.YtgmnknmjainababGreat
open Ex
namespace Ex
def vL (a x : Rat) (n : Nat) : Rat := tm x n / (a + (n : Rat))
def tF (a x : Rat) (M : Nat) : Rat := S (fun k => sg k * vL a x k) M
theorem an_pos {a : Rat} (ha : 0 < a) (n : Nat) : 0 < a + (n : Rat) := by
  have : (0 : Rat) ≤ (n : Rat) := by exact_mod_cast Nat.zero_le n
  grind
theorem vL_mul {a : Rat} (ha : 0 < a) (x : Rat) (n : Nat) : (a + (n : Rat)) * vL a x n = tm x n := by
  have := rdm (a := tm x n) (an_pos ha n)
  unfold vL; grind
theorem vL_nonneg {a x : Rat} (ha : 0 < a) (hx : 0 ≤ x) (n : Nat) : 0 ≤ vL a x n := qle_div (an_pos ha n) (by have := tm_nonneg hx n; grind)
theorem tm_neg (x : Rat) (n : Nat) : tm (-x) n = sg n * tm x n := by
  induction n with
  | zero => show (1 : Rat) = 1 * 1; grind
  | succ n ih =>
    have h1 := tm_succ (-x) n
    have h2 := tm_succ x n
    have p := pos1 n
    refine rat_cancel (c := (n : Rat) + 1) p ?_
    have e : sg (n + 1) = -sg n := rfl
    rw [h1, ih, e]
    have : ((n : Rat) + 1) * (-sg n * tm x (n + 1)) = -sg n * (((n : Rat) + 1) * tm x (n + 1)) := by grind
    rw [this, h2]; grind
theorem tF_next {a : Rat} (ha : 0 < a) (x : Rat) (M : Nat) : a * tF a x (M + 1) = E (-x) (M + 1) + x * tF (a + 1) x M := by
  induction M with
  | zero =>
    show a * (0 + sg 0 * vL a x 0) = 0 + tm (-x) 0 + x * 0
    have v := vL_mul ha x 0
    have e : sg 0 = 1 := rfl
    have t : tm (-x) 0 = 1 := rfl
    have t2 : tm x 0 = 1 := rfl
    have c : ((0 : Nat) : Rat) = 0 := rfl
    rw [t2, c] at v
    rw [e, t]
    grind
  | succ M ih =>
    have e1 : tF a x (M + 1 + 1) = tF a x (M + 1) + sg (M + 1) * vL a x (M + 1) := rfl
    have e2 : E (-x) (M + 1 + 1) = E (-x) (M + 1) + tm (-x) (M + 1) := rfl
    have e3 : tF (a + 1) x (M + 1) = tF (a + 1) x M + sg M * vL (a + 1) x M := rfl
    rw [e1, e2, e3, tm_neg]
    have v1 := vL_mul ha x (M + 1)
    have v2 := vL_mul (show 0 < a + 1 by grind) x M
    have t := tm_succ x M
    have s : sg (M + 1) = -sg M := rfl
    have c : ((M + 1 : Nat) : Rat) = (M : Rat) + 1 := by push_cast; rfl
    rw [c] at v1
    have pp := an_pos (show 0 < a + 1 by grind) M
    have k : ((M : Rat) + 1) * vL a x (M + 1) = x * vL (a + 1) x M := by
      refine rat_cancel (c := a + 1 + (M : Rat)) pp ?_
      have r1 : (a + 1 + (M : Rat)) * (((M : Rat) + 1) * vL a x (M + 1)) = ((M : Rat) + 1) * ((a + ((M : Rat) + 1)) * vL a x (M + 1)) := by grind
      have r2 : (a + 1 + (M : Rat)) * (x * vL (a + 1) x M) = x * ((a + 1 + (M : Rat)) * vL (a + 1) x M) := by grind
      rw [r1, r2, v1, v2, t]
    have r3 : a * vL a x (M + 1) = tm x (M + 1) - x * vL (a + 1) x M := by rw [← v1, ← k]; grind
    have r4 : a * (tF a x (M + 1) + sg (M + 1) * vL a x (M + 1)) = a * tF a x (M + 1) + sg (M + 1) * (a * vL a x (M + 1)) := by grind
    rw [r4, ih, r3, s]
    grind
theorem tF_AB {a x K : Rat} (ha : 0 < a) (hx : 0 ≤ x) (hK : ∀ M, E x M ≤ K) (M : Nat) : AB (a * tF a x M) K := by
  have key : ∀ m, AB (a * tF a x m) (E x m) := fun m => by
    induction m with
    | zero => show AB (a * 0) 0; constructor <;> grind
    | succ m ih =>
      have e1 : tF a x (m + 1) = tF a x m + sg m * vL a x m := rfl
      have e2 : E x (m + 1) = E x m + tm x m := rfl
      have v := vL_mul ha x m
      have v0 := vL_nonneg ha hx m
      have m0 : (0 : Rat) ≤ (m : Rat) := by exact_mod_cast Nat.zero_le m
      have mv := Rat.mul_nonneg m0 v0
      have av := Rat.mul_nonneg (Rat.le_of_lt ha) v0
      obtain ⟨h1, h2⟩ := ih
      rw [e1, e2]
      rcases sg_one m with s | s
      · rw [s]; constructor <;> grind
      · rw [s]; constructor <;> grind
  exact (key M).mono (hK M)
def dF (a x : Rat) (M : Nat) : Rat := tF a x M - ex (-x) M * uS a x M
theorem dF_next {a x : Rat} (ha : 0 < a) (hx : 0 ≤ x) : Null (fun M => a * dF a x (M + 1) - x * dF (a + 1) x M) := by
  obtain ⟨K, k0, hK⟩ := tm_bd (-x)
  have tn : Null (tm (-x)) := (null_q4 K k0).of_le 1 fun M hM => (hK M).mono (by
    have m1 : (1 : Rat) ≤ (M : Rat) := by exact_mod_cast hM
    have := Rat.mul_le_mul_of_nonneg_left m1 (Rat.mul_nonneg k0 (Rat.le_of_lt (q4_pos M)))
    grind)
  have n := (tn.bmul (uS_Bdd (show 0 < a + 1 by grind) hx)).bmul (Bdd.const (-x))
  refine n.of_eq fun M => ?_
  have t := tF_next ha x M
  have u := uS_next ha x M
  have e : ex (-x) (M + 1) = ex (-x) M + tm (-x) M := rfl
  have e2 : E (-x) (M + 1) = ex (-x) (M + 1) := rfl
  unfold dF
  have r : a * (tF a x (M + 1) - ex (-x) (M + 1) * uS a x (M + 1)) = a * tF a x (M + 1) - ex (-x) (M + 1) * (a * uS a x (M + 1)) := by grind
  rw [r, t, u, e2, e]
  generalize tF (a + 1) x M = y1
  generalize uS (a + 1) x M = y2
  generalize ex (-x) M = y3
  generalize tm (-x) M = y4
  grind
theorem E_all (x : Rat) : ∃ K, 0 ≤ K ∧ ∀ M, AB (E x M) K := by
  obtain ⟨K, k0, h⟩ := E_bound (if 0 ≤ x then x else -x)
  refine ⟨K, k0, fun M => h M x ?_⟩
  split <;> constructor <;> grind
theorem dF_bd {x : Rat} (hx : 0 ≤ x) : ∃ C, 0 ≤ C ∧ ∀ a M, 0 < a → AB (a * dF a x M) C := by
  obtain ⟨K, k0, hK⟩ := E_all x
  obtain ⟨J, j0, hJ⟩ := E_all (-x)
  have JK := Rat.mul_nonneg j0 k0
  refine ⟨K + J * K, by grind, fun a M ha => ?_⟩
  have t := tF_AB ha hx (fun M => (hK M).2) M
  have u := uS_E ha hx M
  have u0 := Rat.mul_nonneg (Rat.le_of_lt ha) (uS_nonneg ha hx M)
  have uK : a * uS a x M ≤ K := Rat.le_trans u (hK M).2
  have j : AB (ex (-x) M) J := hJ M
  have pr : AB (ex (-x) M * (a * uS a x M)) (J * K) := by
    obtain ⟨g1, g2⟩ := j
    have m1 := Rat.mul_le_mul_of_nonneg_right g2 u0
    have m2 := Rat.mul_le_mul_of_nonneg_right g1 u0
    have m3 := Rat.mul_le_mul_of_nonneg_left uK j0
    constructor <;> grind
  have r : a * dF a x M = a * tF a x M - ex (-x) M * (a * uS a x M) := by unfold dF; grind
  rw [r]
  exact t.sub pr
def aQ (f : Nat → Rat) (M : Nat) : Rat := if 0 ≤ f M then f M else -f M
theorem aQ_AB (f : Nat → Rat) (M : Nat) : AB (f M) (aQ f M) := by unfold aQ; split <;> constructor <;> grind
theorem aQ_null {f : Nat → Rat} (h : Null f) : Null (aQ f) := fun e he => by
  obtain ⟨N, hN⟩ := h e he
  refine ⟨N, fun M hM => ?_⟩
  obtain ⟨h1, h2⟩ := hN M hM
  unfold aQ
  split <;> constructor <;> grind
theorem dF_step {x : Rat} (hx : 0 ≤ x) (k : Nat) : ∀ {a : Rat}, 0 < a → ∃ z, Null z ∧ ∀ M, AB (dF a x (M + (k + 1)) - x * upT a x k * dF (a + ((k : Rat) + 1)) x M) (z M) := by
  induction k with
  | zero =>
    intro a ha
    have n := (dF_next ha hx).bmul (Bdd.const (1 / a))
    have d := rdm (a := 1) ha
    have u := upT_zero ha x
    obtain ⟨f, hf⟩ : ∃ f : Nat → Rat, f = fun M => (a * dF a x (M + 1) - x * dF (a + 1) x M) * (1 / a) := ⟨_, rfl⟩
    rw [← hf] at n
    refine ⟨aQ f, aQ_null n, fun M => ?_⟩
    have c : a + (((0 : Nat) : Rat) + 1) = a + 1 := by have : ((0 : Nat) : Rat) = 0 := rfl; rw [this]; grind
    rw [c]
    have e : dF a x (M + (0 + 1)) - x * upT a x 0 * dF (a + 1) x M = f M := by
      have fm : f M = (a * dF a x (M + 1) - x * dF (a + 1) x M) * (1 / a) := by rw [hf]
      have e0 : upT a x 0 = 1 / a := by
        refine rat_cancel ha ?_
        rw [u]; grind
      rw [fm, e0]
      generalize 1 / a = i at *
      have : (a * dF a x (M + 1) - x * dF (a + 1) x M) * i = i * a * dF a x (M + 1) - x * i * dF (a + 1) x M := by grind
      rw [this, d]
      show dF a x (M + 1) - _ = _
      grind
    rw [e]
    exact aQ_AB f M
  | succ k ih =>
    intro a ha
    obtain ⟨z1, hz1, k1⟩ := ih ha
    have ha' : 0 < a + ((k : Rat) + 1) := un_pos ha k
    have n := dF_next ha' hx
    have u := upT_succ ha x k
    have c : a + ((k : Rat) + 1) + 1 = a + (((k + 1 : Nat) : Rat) + 1) := by push_cast; grind
    rw [c] at n
    have n2 := n.bmul (Bdd.const (x * upT a x k * (1 / (a + ((k : Rat) + 1)))))
    have d := rdm (a := 1) ha'
    obtain ⟨i, hi⟩ : ∃ i, i = 1 / (a + ((k : Rat) + 1)) := ⟨_, rfl⟩
    rw [← hi] at n2 d
    have eu : upT a x (k + 1) = x * upT a x k * i := by
      refine rat_cancel ha' ?_
      rw [u]
      have : (a + ((k : Rat) + 1)) * (x * upT a x k * i) = x * upT a x k * (i * (a + ((k : Rat) + 1))) := by grind
      rw [this, d]; grind
    have sh : Null (fun M => z1 (M + 1)) := fun e he => by
      obtain ⟨N, hN⟩ := hz1 e he
      exact ⟨N, fun M hM => hN (M + 1) (by omega)⟩
    obtain ⟨f, hf⟩ : ∃ f : Nat → Rat, f = fun M => ((a + ((k : Rat) + 1)) * dF (a + ((k : Rat) + 1)) x (M + 1) - x * dF (a + (((k + 1 : Nat) : Rat) + 1)) x M) * (x * upT a x k * i) := ⟨_, rfl⟩
    rw [← hf] at n2
    refine ⟨fun M => z1 (M + 1) + aQ f M, sh.add (aQ_null n2), fun M => ?_⟩
    have k1' := k1 (M + 1)
    have e0 : M + (k + 1 + 1) = M + 1 + (k + 1) := by omega
    have fm0 : f M = ((a + ((k : Rat) + 1)) * dF (a + ((k : Rat) + 1)) x (M + 1) - x * dF (a + (((k + 1 : Nat) : Rat) + 1)) x M) * (x * upT a x k * i) := by rw [hf]
    have fm : f M = x * upT a x k * dF (a + ((k : Rat) + 1)) x (M + 1) - x * (x * upT a x k * i) * dF (a + (((k + 1 : Nat) : Rat) + 1)) x M := by
      rw [fm0]
      have : ((a + ((k : Rat) + 1)) * dF (a + ((k : Rat) + 1)) x (M + 1) - x * dF (a + (((k + 1 : Nat) : Rat) + 1)) x M) * (x * upT a x k * i) = x * upT a x k * (i * (a + ((k : Rat) + 1))) * dF (a + ((k : Rat) + 1)) x (M + 1) - x * (x * upT a x k * i) * dF (a + (((k + 1 : Nat) : Rat) + 1)) x M := by grind
      rw [this, d]; grind
    have ab := aQ_AB f M
    show AB (dF a x (M + (k + 1 + 1)) - x * upT a x (k + 1) * dF (a + (((k + 1 : Nat) : Rat) + 1)) x M) (z1 (M + 1) + aQ f M)
    rw [e0, eu]
    have t := k1'.add ab
    have e : dF a x (M + 1 + (k + 1)) - x * upT a x k * dF (a + ((k : Rat) + 1)) x (M + 1) + f M = dF a x (M + 1 + (k + 1)) - x * (x * upT a x k * i) * dF (a + (((k + 1 : Nat) : Rat) + 1)) x M := by rw [fm]; grind
    rw [e] at t
    exact t
theorem tF_eq {a x : Rat} (ha : 0 < a) (hx : 0 ≤ x) : Null (fun M => tF a x M - ex (-x) M * uS a x M) := by
  obtain ⟨C, C0, hC⟩ := dF_bd hx
  intro e he
  obtain ⟨i, hi⟩ : ∃ i, i = 1 / a := ⟨_, rfl⟩
  have ia : i * a = 1 := by rw [hi]; exact rdm ha
  have i0 : 0 ≤ i := by rw [hi]; exact qle_div ha (by grind)
  have D0 : 0 ≤ x * C * i := Rat.mul_nonneg (Rat.mul_nonneg hx C0) i0
  obtain ⟨t, ht⟩ : ∃ t, t = e / 2 / (x * C * i + 1) := ⟨_, rfl⟩
  have tD : t * (x * C * i + 1) = e / 2 := by rw [ht]; exact rdm (by grind)
  have t0 : 0 < t := by rw [ht]; exact rdiv_pos (by grind) (by grind)
  obtain ⟨k, hk⟩ := upT_null ha hx t t0
  have uk := (hk k (Nat.le_refl _)).2
  have u0 := upT_nonneg ha hx k
  obtain ⟨z, hz, kz⟩ := dF_step hx k ha
  obtain ⟨N, hN⟩ := hz (e / 2) (by grind)
  refine ⟨N + (k + 1), fun M hM => ?_⟩
  obtain ⟨m, rfl⟩ : ∃ m, M = m + (k + 1) := ⟨M - (k + 1), by omega⟩
  have z2 := (hN m (by omega)).2
  obtain ⟨d1, d2⟩ := kz m
  have ha' : 0 < a + ((k : Rat) + 1) := un_pos ha k
  obtain ⟨c1, c2⟩ := hC (a + ((k : Rat) + 1)) m ha'
  obtain ⟨y, hy⟩ : ∃ y, y = dF (a + ((k : Rat) + 1)) x m := ⟨_, rfl⟩
  rw [← hy] at c1 c2 d1 d2
  have k0 : (0 : Rat) ≤ (k : Rat) + 1 := Rat.le_of_lt (pos1 k)
  have yb : AB y (C * i) := by
    have Ci := Rat.mul_nonneg C0 i0
    constructor
    · refine Rat.not_lt.1 fun hlt => ?_
      have m1 := Rat.mul_lt_mul_of_pos_left (show y < -(C * i) by grind) ha'
      have m2 := Rat.mul_nonneg Ci k0
      have r : (a + ((k : Rat) + 1)) * -(C * i) = -(C * (i * a)) - C * i * ((k : Rat) + 1) := by grind
      rw [r, ia] at m1
      grind
    · refine Rat.not_lt.1 fun hlt => ?_
      have m1 := Rat.mul_lt_mul_of_pos_left hlt ha'
      have m2 := Rat.mul_nonneg Ci k0
      have r : (a + ((k : Rat) + 1)) * (C * i) = C * (i * a) + C * i * ((k : Rat) + 1) := by grind
      rw [r, ia] at m1
      grind
  obtain ⟨y1, y2⟩ := yb
  have xu := Rat.mul_nonneg hx u0
  have m3 := Rat.mul_le_mul_of_nonneg_left y2 xu
  have m4 := Rat.mul_le_mul_of_nonneg_left y1 xu
  have m5 := Rat.mul_le_mul_of_nonneg_right uk D0
  have r5 : x * upT a x k * (C * i) = upT a x k * (x * C * i) := by grind
  show AB (dF a x (m + (k + 1))) e
  constructor <;> grind
end Ex
end Go.Proofs.YtgmnknmjainababGreat
