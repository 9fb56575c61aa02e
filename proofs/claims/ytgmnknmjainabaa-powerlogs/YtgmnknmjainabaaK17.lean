/-
  What wide.Raised answers of a whole number and of how often it is taken, and that it leaves old memory alone.
  What wide.balanced answers, and that it leaves old memory alone.
-/
import Derived.Test.YtgmnknmjainabaaK16
namespace Go.Proofs.Ytgmnknmjainabaa
set_option linter.unusedVariables false
set_option linter.unusedSimpArgs false
set_option linter.unnecessarySimpa false
open Go.RowKit
attribute [local go_sem ↓] Go.wp_at_zero Go.wp_at_succ

theorem put_nm2 {w : World} {B : Nat} {z : Nm} (h : NmC w B z) (x : Nm) : NmC ((w.setCell ⟨B, 0, none⟩ (.bool x.neg)).setCell ⟨B, 1, none⟩ (.slice x.a x.n x.cap)) B x := by
  obtain ⟨q0, q1⟩ := h
  constructor <;> simp [go_sem, q0, q1]
theorem put_fz2 {w : World} {B B' : Nat} (h : ∀ o, w.frozen? ⟨B, o, none⟩ = false) (u0 u1 : Value) : ∀ o, ((w.setCell ⟨B', 0, none⟩ u0).setCell ⟨B', 1, none⟩ u1).frozen? ⟨B, o, none⟩ = false := fun o => by rw [frozen_set', frozen_set']; exact h o
theorem NmC.off {w : World} {B B' : Nat} {x : Nm} (h : NmC w B x) (hne : B ≠ B') (u0 u1 : Value) : NmC ((w.setCell ⟨B', 0, none⟩ u0).setCell ⟨B', 1, none⟩ u1) B x := by
  obtain ⟨q0, q1⟩ := h
  constructor <;> simp [go_sem, q0, q1, hne, Ne.symm hne]
theorem NoI.off {w : World} {B B' : Nat} (h : NoI w B) (hne : B ≠ B') (u0 u1 : Value) : NoI ((w.setCell ⟨B', 0, none⟩ u0).setCell ⟨B', 1, none⟩ u1) B := by
  obtain ⟨q0, q1, q2⟩ := h
  exact ⟨by simp [go_sem, q0, hne, Ne.symm hne], by simp [go_sem, q1, hne, Ne.symm hne], put_fz2 q2 _ _⟩

/-- Where wide.Raised is behind some rounds. -/
structure RaiSt (w wr : World) (B : Nat) (a : Int) (k j e : Nat) (X Y : Nm) : Prop where
  je : j * e ≤ k
  e1 : 1 ≤ e
  e2 : e ≤ 2 * k + 1
  x : NmC wr B X
  y : NmC wr (B + 1) Y
  fx : ∀ o, wr.frozen? ⟨B, o, none⟩ = false
  fy : ∀ o, wr.frozen? ⟨B + 1, o, none⟩ = false
  ix : IntAt wr X.neg X.a X.n X.cap (4 * (k - j * e) + 4) (a ^ (k - j * e))
  iy : IntAt wr Y.neg Y.a Y.n Y.cap (4 * e) (a ^ e)
  no : NoI wr w.heap.size
  be : Below w.heap.size w wr
  lo : w.heap.size < B

theorem RaiSt.below {w wr wr' : World} {B : Nat} {a : Int} {k j e : Nat} {X Y : Nm} (h : RaiSt w wr B a k j e X Y) (hb : Below wr.heap.size wr wr') : RaiSt w wr' B a k j e X Y :=
  ⟨h.je, h.e1, h.e2, h.x.below hb, h.y.below hb, fun o => (hb.frozen (p := ⟨B, o, none⟩) h.x.lt).trans (h.fx o), fun o => (hb.frozen (p := ⟨B + 1, o, none⟩) h.y.lt).trans (h.fy o), h.ix.below hb, h.iy.below hb, h.no.below hb, bthen h.be hb, h.lo⟩

theorem pow_even (a : Int) (e : Nat) : a ^ e * a ^ e = a ^ (2 * e) := by rw [← Int.pow_add]; congr 1; omega

set_option maxRecDepth 100000 in
set_option maxHeartbeats 4000000 in
theorem raised_int (a : Int) (k : Nat) (w : World) (ha0 : -9223372036854775808 ≤ a) (ha1 : a ≤ 9223372036854775807) (hk : k ≤ 10000000) :
    Calls Try.prog 145 #[.int .i64 a, .int .i64 k] w (IntAns w (4 * k + 4) (a ^ k)) := by
  go_enter Try.func145, Try.ntmps145
  go_wp2_with fail
  refine (numOf_int 1 _ (by decide) (by decide)).mono ?_
  rintro r w1 ⟨neg1, a1, n1, c1, rfl, hint1, hb1⟩
  have R1 := (noi_new w 24).below hb1
  have b1 : Below w.heap.size w w1 := bthen (bl1 _ _) hb1
  clear hb1
  go_wp2_with fail
  refine (numOf_int a _ ha0 ha1).mono ?_
  rintro r w2 ⟨neg2, a2, n2, c2, rfl, hint2, hb2⟩
  have R2 := R1.below hb2
  have b2 := bthen b1 hb2
  replace hint1 := hint1.below hb2
  clear hb2 R1 b1
  have lR := R2.lt
  go_wp2_with fail
  go_loopw [1] (fun kk wr => ∃ (j e : Nat) (X Y : Nm), kk = .int .i64 j ∧ RaiSt w wr w2.heap.size a k j e X Y) (fun kk _ => (intOf kk).toNat)
  case atStart =>
    refine ⟨k, 1, ⟨neg1, a1, n1, c1⟩, ⟨neg2, a2, n2, c2⟩, rfl, by omega, Nat.le_refl _, by omega, ⟨by simp [go_sem], by simp [go_sem]⟩, ⟨by simp [go_sem], by simp [go_sem]⟩, fun o => by simp [go_sem], fun o => by simp [go_sem], ?_, ?_, ?_, ?_, lR⟩
    · have e0 : k - k * 1 = 0 := by omega
      rw [e0, Int.pow_zero]
      exact hint1.below (bl2 _ _ _)
    · rw [Int.pow_one]; exact hint2.below (bl2 _ _ _)
    · exact R2.below (bl2 _ _ _)
    · exact bthen b2 (bl2 _ _ _)
  case round =>
    obtain ⟨j, e, X, Y, rfl, st⟩ := hrel
    by_cases hj : 0 < j
    · have hj' : (0 : Int) < (j : Int) := by omega
      have hje : e ≤ k := Nat.le_trans (Nat.le_mul_of_pos_left e hj) st.je
      have hjk : j ≤ k := Nat.le_trans (Nat.le_mul_of_pos_right j st.e1) st.je
      have q1 : ((j : Int)).tdiv 2 = ((j / 2 : Nat) : Int) := by rw [Int.tdiv_eq_ediv_of_nonneg (by omega)]; omega
      have HQ := hide q1
      obtain ⟨x0, x1⟩ := st.x
      obtain ⟨y0, y1⟩ := st.y
      have l1 := st.x.lt
      have l2 := st.y.lt
      have hR := st.no.lt
      by_cases hm : j % 2 = 1
      · have q2 : ((j : Int)).tmod 2 = 1 := by rw [Int.tmod_eq_emod_of_nonneg (by omega)]; omega
        obtain ⟨m, hm2⟩ : ∃ m, j = 2 * m + 1 := ⟨j / 2, by omega⟩
        have hje2 : k - j * e + e = k - m * (2 * e) := by
          have h1 := st.je
          have h2 : j * e = m * (2 * e) + e := by rw [hm2, Nat.add_mul, Nat.one_mul, Nat.mul_comm 2 m, Nat.mul_assoc]
          omega
        have hme : m * (2 * e) ≤ k := by
          have h1 := st.je
          have h2 : j * e = m * (2 * e) + e := by rw [hm2, Nat.add_mul, Nat.one_mul, Nat.mul_comm 2 m, Nat.mul_assoc]
          omega
        have HE := hide hje2
        have HM := hide hm2
        have ix := hide st.ix
        have iy := hide st.iy
        clear q1 hm2 hje2 hm
        go_wp2_with fail
        refine (mul_int _ _ _ _ _ _ _ _ (4 * (k - j * e) + 4) (4 * e) _ _ _ (unhide ix) (unhide iy) (by omega) (by omega)).mono ?_
        rintro r w3 ⟨neg3, a3, n3, c3, rfl, hint3, hb3⟩
        have st3 := st.below hb3
        clear hb3 st
        rw [← Int.pow_add, unhide HE] at hint3
        obtain ⟨s0, s1⟩ := st3.x
        obtain ⟨W, hW⟩ : ∃ W, W = (w3.setCell ⟨w2.heap.size, 0, none⟩ (.bool neg3)).setCell ⟨w2.heap.size, 1, none⟩ (.slice a3 n3 c3) := ⟨_, rfl⟩
        have X4 : NmC W w2.heap.size ⟨neg3, a3, n3, c3⟩ := by rw [hW]; exact put_nm2 st3.x ⟨neg3, a3, n3, c3⟩
        have Y4 : NmC W (w2.heap.size + 1) Y := by rw [hW]; exact st3.y.off (by omega) _ _
        have F4 : ∀ o, W.frozen? ⟨w2.heap.size, o, none⟩ = false := by rw [hW]; exact put_fz2 st3.fx _ _
        have G4 : ∀ o, W.frozen? ⟨w2.heap.size + 1, o, none⟩ = false := by rw [hW]; exact put_fz2 st3.fy _ _
        have I4 := hide (show IntAt W neg3 a3 n3 c3 _ _ by rw [hW]; exact hint3.put2 s0 s1 _ _)
        have J4 := hide (show IntAt W Y.neg Y.a Y.n Y.cap _ _ by rw [hW]; exact st3.iy.put2 s0 s1 _ _)
        have N4 : NoI W w.heap.size := by rw [hW]; exact st3.no.off (by omega) _ _
        have B4 : Below w.heap.size w W := by rw [hW]; exact set2 st3.be (by omega) _ _
        have lW : W.heap.size = w3.heap.size := by rw [hW]; simp [World.setCell]
        have l3 := st3.y.lt
        have f0 := st3.fx 0
        have f1 := st3.fx 1
        have lo := st3.lo
        have je1 := st3.e1
        have jje := st3.je
        have e22 := st3.e2
        clear x0 x1 y0 y1
        obtain ⟨y0, y1⟩ := st3.y
        clear st3 hint3
        go_wp2_with fail
        rw [← hW]
        clear hW s0 s1 f0 f1 y0 y1
        refine (mul_int _ _ _ _ _ _ _ _ (4 * e) (4 * e) _ _ _ (unhide J4) (unhide J4) (by omega) (by omega)).mono ?_
        rintro r w5 ⟨neg5, a5, n5, c5, rfl, hint5, hb5⟩
        rw [pow_even] at hint5
        replace X4 := X4.below hb5
        replace Y4 := Y4.below hb5
        replace I4 := hide ((unhide I4).below hb5)
        replace N4 := N4.below hb5
        replace B4 := bthen B4 hb5
        have F5 : ∀ o, w5.frozen? ⟨w2.heap.size, o, none⟩ = false := fun o => (hb5.frozen (p := ⟨w2.heap.size, o, none⟩) (by show w2.heap.size < W.heap.size; omega)).trans (F4 o)
        have G5 : ∀ o, w5.frozen? ⟨w2.heap.size + 1, o, none⟩ = false := fun o => (hb5.frozen (p := ⟨w2.heap.size + 1, o, none⟩) (by show w2.heap.size + 1 < W.heap.size; omega)).trans (G4 o)
        obtain ⟨y0, y1⟩ := Y4
        have f0 := G5 0
        have f1 := G5 1
        go_wp2_with fail
        refine ⟨⟨m, 2 * e, ⟨neg3, a3, n3, c3⟩, ⟨neg5, a5, n5, c5⟩, by have := unhide HM; congr 1; omega, by omega, by omega, by omega, X4.off (by omega) _ _, put_nm2 (z := Y) ⟨y0, y1⟩ ⟨neg5, a5, n5, c5⟩, put_fz2 F5 _ _, put_fz2 G5 _ _, ?_, ?_, N4.off (by omega) _ _, set2 B4 (by omega) _ _, lo⟩, ?_⟩
        · exact ((unhide I4).put2 y0 y1 _ _).mono (by have := unhide HE; omega)
        · exact (hint5.put2 y0 y1 _ _).mono (by omega)
        · simp [intOf]; omega
      · have q2 : ((j : Int)).tmod 2 = 0 := by rw [Int.tmod_eq_emod_of_nonneg (by omega)]; omega
        obtain ⟨m, hm2⟩ : ∃ m, j = 2 * m := ⟨j / 2, by omega⟩
        have hje2 : j * e = m * (2 * e) := by rw [hm2, Nat.mul_comm 2 m, Nat.mul_assoc]
        have HE := hide hje2
        have HM := hide hm2
        have jje := st.je
        have lo := st.lo
        have je1 := st.e1
        have iy := hide st.iy
        clear q1 hm2 hje2 hm
        go_wp2_with fail
        refine (mul_int _ _ _ _ _ _ _ _ (4 * e) (4 * e) _ _ _ (unhide iy) (unhide iy) (by omega) (by omega)).mono ?_
        rintro r w5 ⟨neg5, a5, n5, c5, rfl, hint5, hb5⟩
        rw [pow_even] at hint5
        have st5 := st.below hb5
        clear hb5 st x0 x1 y0 y1
        obtain ⟨y0, y1⟩ := st5.y
        have F5 := st5.fx
        have G5 := st5.fy
        have f0 := G5 0
        have f1 := G5 1
        have X4 := st5.x
        have N4 := st5.no
        have B4 := st5.be
        have I4 := hide st5.ix
        clear st5
        have hme : m * (2 * e) ≤ k := by have := unhide HE; omega
        go_wp2_with fail
        refine ⟨⟨m, 2 * e, X, ⟨neg5, a5, n5, c5⟩, by have := unhide HM; congr 1; omega, by omega, by omega, by omega, X4.off (by omega) _ _, put_nm2 (z := Y) ⟨y0, y1⟩ ⟨neg5, a5, n5, c5⟩, put_fz2 F5 _ _, put_fz2 G5 _ _, ?_, ?_, N4.off (by omega) _ _, set2 B4 (by omega) _ _, lo⟩, ?_⟩
        · rw [← unhide HE]; exact (unhide I4).put2 y0 y1 _ _
        · exact (hint5.put2 y0 y1 _ _).mono (by omega)
        · simp [intOf]; omega
    · have hj0 : j = 0 := by omega
      subst hj0
      obtain ⟨x0, x1⟩ := st.x
      obtain ⟨z0, z1, z2⟩ := st.no
      have ix := hide st.ix
      have hb := st.be
      clear st
      go_wp2_with fail
      refine bodyPost_ret (v := .agg #[.bool X.neg, .slice X.a X.n X.cap]) (by simp [results, Try.results145, go_sem, z0, z1]) rfl ⟨X.neg, X.a, X.n, X.cap, rfl, ?_, ?_⟩
      · have h := unhide ix
        rw [Nat.zero_mul, Nat.sub_zero] at h
        exact h.put2 z0 z1 _ _
      · exact set2 hb (Nat.le_refl _) _ _
end Go.Proofs.Ytgmnknmjainabaa

namespace Go.Proofs.Ytgmnknmjainabaa
set_option linter.unusedVariables false
set_option linter.unusedSimpArgs false
set_option linter.unnecessarySimpa false
open Go.RowKit
attribute [local go_sem ↓] Go.wp_at_zero Go.wp_at_succ

/-- What wide.balanced answers. -/
def BalAns (w : World) (k : Nat) (n d : Int) (r : Ending) (w' : World) : Prop :=
  ∃ (X Y : Nm) (n' d' c : Int), r = .returned (.tuple #[.agg #[.bool X.neg, .slice X.a X.n X.cap], .agg #[.bool Y.neg, .slice Y.a Y.n Y.cap], .int .i64 c]) ∧ Bal n d n' d' c ∧ -(16 * k + 1) ≤ c ∧ c ≤ 16 * k + 1 ∧ IntAt w' X.neg X.a X.n X.cap (k + k + 20) n' ∧ IntAt w' Y.neg Y.a Y.n Y.cap (k + k + 20) d' ∧ Below w.heap.size w w'
theorem bal_near {n d : Int} {L L' : Nat} (h1 : Q L ≤ n) (h2 : n < Q (L + 1)) (h3 : Q L' ≤ d) (h4 : d < Q (L' + 1)) (a b : Nat) (hab : L + a = L' + b) : n * Q a < 2 * (d * Q b) ∧ d * Q b < 2 * (n * Q a) := by
  have qa := Q_pos a
  have qb := Q_pos b
  have e1 : Q L * Q a = Q L' * Q b := by rw [← Q_add, ← Q_add, hab]
  have e2 : Q (L + 1) = 2 * Q L := rfl
  have e3 : Q (L' + 1) = 2 * Q L' := rfl
  have g1 := Int.mul_le_mul_of_nonneg_right h1 (show 0 ≤ Q a by omega)
  have g2 := Int.mul_lt_mul_of_pos_right h2 (show 0 < Q a by omega)
  have g3 := Int.mul_le_mul_of_nonneg_right h3 (show 0 ≤ Q b by omega)
  have g4 := Int.mul_lt_mul_of_pos_right h4 (show 0 < Q b by omega)
  rw [e2, Int.mul_assoc] at g2
  rw [e3, Int.mul_assoc] at g4
  omega
/-- The three ways. -/
theorem bal_a {n d n1 d1 c : Int} (hn : 0 < n1) (hd : 0 < d1) (h1 : 0 ≤ c → n * d1 = n1 * d * Q c.toNat) (h2 : c < 0 → n * d1 * Q (-c).toNat = n1 * d) (g1 : n1 < 2 * d1) (g2 : d1 < 2 * n1) (hc : d1 * 3 < n1 * 2) : Bal n d n1 (d1 * 2) (c + 1) := by
  refine ⟨⟨hn, by omega, by omega, by omega⟩, fun h => ?_, fun h => ?_⟩
  · by_cases h0 : 0 ≤ c
    · have e := h1 h0
      have : (c + 1).toNat = c.toNat + 1 := by omega
      rw [this]
      have e2 : Q (c.toNat + 1) = 2 * Q c.toNat := rfl
      rw [e2]
      have : n * (d1 * 2) = 2 * (n * d1) := by grind
      rw [this, e]; grind
    · have hc : c = -1 := by omega
      have e := h2 (by omega)
      subst hc
      have e3 : Q (-(-1 : Int)).toNat = 2 := rfl
      rw [e3] at e
      have e4 : Q ((-1 : Int) + 1).toNat = 1 := rfl
      rw [e4]
      have : n * (d1 * 2) = n * d1 * 2 := by grind
      rw [this, e]; grind
  · have e := h2 (by omega)
    have : (-c).toNat = (-(c + 1)).toNat + 1 := by omega
    rw [this] at e
    have e2 : Q ((-(c + 1)).toNat + 1) = 2 * Q (-(c + 1)).toNat := rfl
    rw [e2] at e
    rw [← e]; grind
theorem bal_b {n d n1 d1 c : Int} (hn : 0 < n1) (hd : 0 < d1) (h1 : 0 ≤ c → n * d1 = n1 * d * Q c.toNat) (h2 : c < 0 → n * d1 * Q (-c).toNat = n1 * d) (g1 : n1 < 2 * d1) (g2 : d1 < 2 * n1) (hc : n1 * 4 < d1 * 3) : Bal n d (n1 * 2) d1 (c - 1) := by
  refine ⟨⟨by omega, hd, by omega, by omega⟩, fun h => ?_, fun h => ?_⟩
  · have e := h1 (by omega)
    have : c.toNat = (c - 1).toNat + 1 := by omega
    rw [this] at e
    have e2 : Q ((c - 1).toNat + 1) = 2 * Q (c - 1).toNat := rfl
    rw [e2] at e
    rw [e]; grind
  · by_cases h0 : 0 ≤ c
    · have hc : c = 0 := by omega
      have e := h1 h0
      subst hc
      have e3 : Q ((0 : Int)).toNat = 1 := rfl
      rw [e3] at e
      have e4 : Q (-((0 : Int) - 1)).toNat = 2 := rfl
      rw [e4, e]; grind
    · have e := h2 (by omega)
      have : (-(c - 1)).toNat = (-c).toNat + 1 := by omega
      rw [this]
      have e2 : Q ((-c).toNat + 1) = 2 * Q (-c).toNat := rfl
      rw [e2]
      have : n * d1 * (2 * Q (-c).toNat) = 2 * (n * d1 * Q (-c).toNat) := by grind
      rw [this, e]; grind
theorem bal_c {n d n1 d1 c : Int} (hn : 0 < n1) (hd : 0 < d1) (h1 : 0 ≤ c → n * d1 = n1 * d * Q c.toNat) (h2 : c < 0 → n * d1 * Q (-c).toNat = n1 * d) (hc : ¬ d1 * 3 < n1 * 2) (hc2 : ¬ n1 * 4 < d1 * 3) : Bal n d n1 d1 c :=
  ⟨⟨hn, hd, by omega, by omega⟩, h1, h2⟩
/-- A number of so many digits is so long at most. -/
theorem len_dig {w : World} {neg : Bool} {a : Option Addr} {n cap k : Nat} {z : Int} {L : Nat} (h : IntAt w neg a n cap k z) (hL : Q L ≤ z) (hz : 0 ≤ z) : L < 16 * k + 1 := by
  obtain ⟨d, h1, h2, h3, h4, h5⟩ := h
  have hV := V_lt h1.dgs n
  have hV0 := V_nonneg h1.dgs n
  have hP := P_mono h4
  have eP := Q_P k
  have hz2 : z < Q (16 * k) := by
    cases neg
    · simp [sgn] at h5; omega
    · simp [sgn] at h5; have := Q_pos (16 * k); omega
  refine Nat.lt_of_not_le fun h => ?_
  have := Q_mono (show 16 * k ≤ L by omega)
  omega

theorem up_at (neg : Bool) (a : Option Addr) (n cap : Nat) (κ : Int) (A k1 : Nat) (x : Int) (w : World) (hκ : κ = (A : Int)) (h1 : IntAt w neg a n cap k1 x) (hk1 : k1 ≤ 1000000000) (hk : A ≤ 1000000000) :
    Calls Try.prog 107 #[.agg #[.bool neg, .slice a n cap], .int .i64 κ] w (IntAns w (A / 16 + k1 + 1) (x * Q A)) := by
  subst hκ; exact up_int neg a n cap A k1 x w h1 hk1 hk

theorem bal_put {w wc w2 : World} {x y : Nm} {K : Nat} {z1 z2 : Int} (hD : Below wc.heap.size wc w2) (hx : NmC w2 w.heap.size x) (hy : NmC w2 (w.heap.size + 1) y) (X Y : Nm) (iX : IntAt w2 X.neg X.a X.n X.cap K z1) (iY : IntAt w2 Y.neg Y.a Y.n Y.cap K z2) (R : NoI wc (w.heap.size + 1 + 1)) (R2 : NoI wc (w.heap.size + 1 + 1 + 1)) (hB : Below w.heap.size w wc) :
    ∃ X' Y' : Nm, NmC ((((w2.setCell ⟨w.heap.size, 0, none⟩ (.bool X.neg)).setCell ⟨w.heap.size, 1, none⟩ (.slice X.a X.n X.cap)).setCell ⟨w.heap.size + 1, 0, none⟩ (.bool Y.neg)).setCell ⟨w.heap.size + 1, 1, none⟩ (.slice Y.a Y.n Y.cap)) w.heap.size X' ∧ NmC ((((w2.setCell ⟨w.heap.size, 0, none⟩ (.bool X.neg)).setCell ⟨w.heap.size, 1, none⟩ (.slice X.a X.n X.cap)).setCell ⟨w.heap.size + 1, 0, none⟩ (.bool Y.neg)).setCell ⟨w.heap.size + 1, 1, none⟩ (.slice Y.a Y.n Y.cap)) (w.heap.size + 1) Y' ∧ IntAt ((((w2.setCell ⟨w.heap.size, 0, none⟩ (.bool X.neg)).setCell ⟨w.heap.size, 1, none⟩ (.slice X.a X.n X.cap)).setCell ⟨w.heap.size + 1, 0, none⟩ (.bool Y.neg)).setCell ⟨w.heap.size + 1, 1, none⟩ (.slice Y.a Y.n Y.cap)) X'.neg X'.a X'.n X'.cap K z1 ∧ IntAt ((((w2.setCell ⟨w.heap.size, 0, none⟩ (.bool X.neg)).setCell ⟨w.heap.size, 1, none⟩ (.slice X.a X.n X.cap)).setCell ⟨w.heap.size + 1, 0, none⟩ (.bool Y.neg)).setCell ⟨w.heap.size + 1, 1, none⟩ (.slice Y.a Y.n Y.cap)) Y'.neg Y'.a Y'.n Y'.cap K z2 ∧ NoI ((((w2.setCell ⟨w.heap.size, 0, none⟩ (.bool X.neg)).setCell ⟨w.heap.size, 1, none⟩ (.slice X.a X.n X.cap)).setCell ⟨w.heap.size + 1, 0, none⟩ (.bool Y.neg)).setCell ⟨w.heap.size + 1, 1, none⟩ (.slice Y.a Y.n Y.cap)) (w.heap.size + 1 + 1) ∧ NoI ((((w2.setCell ⟨w.heap.size, 0, none⟩ (.bool X.neg)).setCell ⟨w.heap.size, 1, none⟩ (.slice X.a X.n X.cap)).setCell ⟨w.heap.size + 1, 0, none⟩ (.bool Y.neg)).setCell ⟨w.heap.size + 1, 1, none⟩ (.slice Y.a Y.n Y.cap)) (w.heap.size + 1 + 1 + 1) ∧ Below w.heap.size w ((((w2.setCell ⟨w.heap.size, 0, none⟩ (.bool X.neg)).setCell ⟨w.heap.size, 1, none⟩ (.slice X.a X.n X.cap)).setCell ⟨w.heap.size + 1, 0, none⟩ (.bool Y.neg)).setCell ⟨w.heap.size + 1, 1, none⟩ (.slice Y.a Y.n Y.cap)) := by
  have hy1 := hy.off (B' := w.heap.size) (by omega) (.bool X.neg) (.slice X.a X.n X.cap)
  have hx1 := put_nm2 hx X
  have i1 := iX.put2 hx.c0 hx.c1 (.bool X.neg) (.slice X.a X.n X.cap)
  have i2 := iY.put2 hx.c0 hx.c1 (.bool X.neg) (.slice X.a X.n X.cap)
  have r1 := (R.below hD).off (B' := w.heap.size) (by omega) (.bool X.neg) (.slice X.a X.n X.cap)
  have r2 := (R2.below hD).off (B' := w.heap.size) (by omega) (.bool X.neg) (.slice X.a X.n X.cap)
  have b1 := set2 (bthen hB hD) (Nat.le_refl _) (.bool X.neg) (.slice X.a X.n X.cap)
  generalize (w2.setCell ⟨w.heap.size, 0, none⟩ (.bool X.neg)).setCell ⟨w.heap.size, 1, none⟩ (.slice X.a X.n X.cap) = V at *
  exact ⟨X, Y, hx1.off (by omega) _ _, put_nm2 hy1 Y, i1.put2 hy1.c0 hy1.c1 _ _, i2.put2 hy1.c0 hy1.c1 _ _, r1.off (by omega) _ _, r2.off (by omega) _ _, set2 b1 (Nat.le_succ _) _ _⟩

theorem cmp_gtB (x y : Int) : decide (0 < cmpInt x y) = decide (y < x) := by
  unfold cmpInt
  by_cases h1 : x < y
  · have : ¬ y < x := by omega
    simp [h1, this]
  · by_cases h2 : y < x
    · simp [h1, h2]
    · simp [h1, h2]
theorem cmp_ltB (x y : Int) : decide (cmpInt x y < 0) = decide (x < y) := by
  unfold cmpInt
  by_cases h1 : x < y
  · simp [h1]
  · by_cases h2 : y < x
    · simp [h1, h2]
    · simp [h1, h2]

theorem bal_end {w w1 : World} {X Y : Nm} {K : Nat} {z1 z2 : Int} (R : NoI w1 (w.heap.size + 1 + 1)) (R2 : NoI w1 (w.heap.size + 1 + 1 + 1)) (iX : IntAt w1 X.neg X.a X.n X.cap K z1) (iY : IntAt w1 Y.neg Y.a Y.n Y.cap K z2) (hB : Below w.heap.size w w1) :
    IntAt ((((w1.setCell ⟨w.heap.size + 1 + 1, 0, none⟩ (.bool X.neg)).setCell ⟨w.heap.size + 1 + 1, 1, none⟩ (.slice X.a X.n X.cap)).setCell ⟨w.heap.size + 1 + 1 + 1, 0, none⟩ (.bool Y.neg)).setCell ⟨w.heap.size + 1 + 1 + 1, 1, none⟩ (.slice Y.a Y.n Y.cap)) X.neg X.a X.n X.cap K z1 ∧ IntAt ((((w1.setCell ⟨w.heap.size + 1 + 1, 0, none⟩ (.bool X.neg)).setCell ⟨w.heap.size + 1 + 1, 1, none⟩ (.slice X.a X.n X.cap)).setCell ⟨w.heap.size + 1 + 1 + 1, 0, none⟩ (.bool Y.neg)).setCell ⟨w.heap.size + 1 + 1 + 1, 1, none⟩ (.slice Y.a Y.n Y.cap)) Y.neg Y.a Y.n Y.cap K z2 ∧ Below w.heap.size w ((((w1.setCell ⟨w.heap.size + 1 + 1, 0, none⟩ (.bool X.neg)).setCell ⟨w.heap.size + 1 + 1, 1, none⟩ (.slice X.a X.n X.cap)).setCell ⟨w.heap.size + 1 + 1 + 1, 0, none⟩ (.bool Y.neg)).setCell ⟨w.heap.size + 1 + 1 + 1, 1, none⟩ (.slice Y.a Y.n Y.cap)) := by
  have r2 := R2.off (B' := w.heap.size + 1 + 1) (by omega) (.bool X.neg) (.slice X.a X.n X.cap)
  have i1 := iX.put2 R.c0 R.c1 (.bool X.neg) (.slice X.a X.n X.cap)
  have i2 := iY.put2 R.c0 R.c1 (.bool X.neg) (.slice X.a X.n X.cap)
  have b1 := set2 hB (show w.heap.size ≤ w.heap.size + 1 + 1 by omega) (.bool X.neg) (.slice X.a X.n X.cap)
  generalize (w1.setCell ⟨w.heap.size + 1 + 1, 0, none⟩ (.bool X.neg)).setCell ⟨w.heap.size + 1 + 1, 1, none⟩ (.slice X.a X.n X.cap) = V at *
  exact ⟨i1.put2 r2.c0 r2.c1 _ _, i2.put2 r2.c0 r2.c1 _ _, set2 b1 (by omega) _ _⟩

set_option maxRecDepth 100000 in
set_option maxHeartbeats 4000000 in
theorem balanced_int (w : World) (x y : Nm) (k : Nat) (n d : Int) (hx : IntAt w x.neg x.a x.n x.cap k n) (hy : IntAt w y.neg y.a y.n y.cap k d) (hn : 0 < n) (hd : 0 < d) (hk : k ≤ 1000000) :
    Calls Try.prog 152 #[.agg #[.bool x.neg, .slice x.a x.n x.cap], .agg #[.bool y.neg, .slice y.a y.n y.cap]] w (BalAns w k n d) := by
  obtain ⟨W, hW⟩ : ∃ W, W = (((w.alloc (.cells #[.bool x.neg, .slice x.a x.n x.cap] 24)).alloc (.cells #[.bool y.neg, .slice y.a y.n y.cap] 24)).alloc (.cells #[.bool false, .slice none 0 0] 24)).alloc (.cells #[.bool false, .slice none 0 0] 24) := ⟨_, rfl⟩
  have hBW : Below w.heap.size w W := by rw [hW]; exact bl4 _ _ _ _ _
  have X : NmC W w.heap.size x := by rw [hW]; exact ⟨by simp [go_sem], by simp [go_sem]⟩
  have FX : ∀ o, W.frozen? ⟨w.heap.size, o, none⟩ = false := by rw [hW]; intro o; simp [go_sem]
  have Y : NmC W (w.heap.size + 1) y := by rw [hW]; exact ⟨by simp [go_sem], by simp [go_sem]⟩
  have FY : ∀ o, W.frozen? ⟨w.heap.size + 1, o, none⟩ = false := by rw [hW]; intro o; simp [go_sem]
  have R : NoI W (w.heap.size + 1 + 1) := by rw [hW]; exact ⟨by simp [go_sem], by simp [go_sem], fun o => by simp [go_sem]⟩
  have R2 : NoI W (w.heap.size + 1 + 1 + 1) := by rw [hW]; exact ⟨by simp [go_sem], by simp [go_sem], fun o => by simp [go_sem]⟩
  have HX := hide (hx.below hBW)
  have HY := hide (hy.below hBW)
  have lX := X.lt
  have lY := Y.lt
  have lR := R.lt
  have lR2 := R2.lt
  have HK := hide (show ∀ w', Below W.heap.size W w' → (w'.cell? ⟨w.heap.size, 0, none⟩ = some (.bool x.neg) ∧ w'.cell? ⟨w.heap.size, 1, none⟩ = some (.slice x.a x.n x.cap) ∧ w'.cell? ⟨w.heap.size + 1, 0, none⟩ = some (.bool y.neg) ∧ w'.cell? ⟨w.heap.size + 1, 1, none⟩ = some (.slice y.a y.n y.cap)) from fun w' hB => ⟨(X.below hB).c0, (X.below hB).c1, (Y.below hB).c0, (Y.below hB).c1⟩)
  go_enter Try.func152, Try.ntmps152
  go_wp2
  rw [← hW]
  clear hW hx hy
  obtain ⟨x0, x1, x2, x3⟩ := unhide HK _ (Below.refl _ _)
  have hD0 : Below W.heap.size W W.drew := (Below.refl _ _).drew
  go_cut [7] (fun p wx => ∃ (L L' : Nat) (D : Int), p = .int .i64 D ∧ D = (L : Int) - (L' : Int) ∧ Q L ≤ n ∧ n < Q (L + 1) ∧ Q L' ≤ d ∧ d < Q (L' + 1) ∧ L < 16 * k + 1 ∧ L' < 16 * k + 1 ∧ Below W.heap.size W wx)
  case first =>
    go_region_held3 (fun w' => w'.cell? ⟨w.heap.size, 0, none⟩ = some (.bool x.neg) ∧ w'.cell? ⟨w.heap.size, 1, none⟩ = some (.slice x.a x.n x.cap) ∧ w'.cell? ⟨w.heap.size + 1, 0, none⟩ = some (.bool y.neg) ∧ w'.cell? ⟨w.heap.size + 1, 1, none⟩ = some (.slice y.a y.n y.cap)) (first | exact unhide HK _ (by first | with_reducible exact hD0 | with_reducible exact hD2 | with_reducible exact hD1) | go_keep)
      (first
        | (go_at_call 77; have hq := hD1; refine (len_int _ _ _ _ _ d _ ((unhide HY).below hD1) (by omega)).mono ?_; rintro r' w2 ⟨l2, hlen2, rfl, hb2⟩; have hD2 := bthen hD1 hb2)
        | (go_at_call 77; refine (len_int _ _ _ _ _ n _ ((unhide HX).below hD0) (by omega)).mono ?_; rintro r' w1 ⟨l1, hlen1, rfl, hb1⟩; have hD1 := bthen hD0 hb1))
    all_goals
      obtain ⟨L, e1, e2, e3⟩ := hlen1.2.2 hn
      obtain ⟨L', f1, f2, f3⟩ := hlen2.2.2 hd
      have hL := len_dig (unhide HX) e2 (by omega)
      have hL' := len_dig (unhide HY) f2 (by omega)
      have HE := hide e1
      have HF := hide f1
      clear e1 f1
      go_wp2_with fail
      go_meet
      exact ⟨L, L', _, rfl, (by rw [i64_id _ (by have := unhide HE; have := unhide HF; omega) (by have := unhide HE; have := unhide HF; omega)]; have := unhide HE; have := unhide HF; omega), e2, e3, f2, f3, hL, hL', hD2⟩
  case rest =>
  obtain ⟨L, L', D, rfl, hD, e2, e3, f2, f3, hL, hL', hb0⟩ := hcut
  have hbal := bal_near e2 e3 f2 f3
  have HBAL := hide hbal
  clear hbal e2 e3 f2 f3 x0 x1 x2 x3 hD0
  replace X := X.below hb0
  replace Y := Y.below hb0
  replace R := R.below hb0
  replace R2 := R2.below hb0
  have FX0 : ∀ o, wc.frozen? ⟨w.heap.size, o, none⟩ = false := fun o => (hb0.frozen (p := ⟨w.heap.size, o, none⟩) lX).trans (FX o)
  have FY0 : ∀ o, wc.frozen? ⟨w.heap.size + 1, o, none⟩ = false := fun o => (hb0.frozen (p := ⟨w.heap.size + 1, o, none⟩) lY).trans (FY o)
  replace HX := hide ((unhide HX).below hb0)
  replace HY := hide ((unhide HY).below hb0)
  replace hBW := bthen hBW hb0
  clear HK lX lY lR lR2 FX FY hb0
  have lX := X.lt
  have lY := Y.lt
  have lR := R.lt
  have lR2 := R2.lt
  obtain ⟨A, hA⟩ : ∃ A : Nat, (A : Int) = max 0 (-D) := ⟨(max 0 (-D)).toNat, by omega⟩
  obtain ⟨C, hC⟩ : ∃ C : Nat, (C : Int) = max 0 D := ⟨(max 0 D).toNat, by omega⟩
  have hwD : IntKind.i64.wrap (-D) = -D := i64_id _ (by omega) (by omega)
  have hDA : D ≤ 16 * k ∧ -(16 * k) ≤ D := by omega
  have hbal := unhide HBAL A C (by omega)
  have HA := hide hA
  have HC := hide hC
  have HD := hide hD
  have HW := hide hwD
  have HDA := hide hDA
  have hAk : A ≤ 16 * k := by omega
  have hCk : C ≤ 16 * k := by omega
  have HB2 := hide hbal
  clear hA hC hD hwD hDA HBAL hL hL' hbal
  go_wp2_with fail
  go_cut [7] (fun p wx => p = .int .i64 D ∧ ∃ X Y : Nm, NmC wx w.heap.size X ∧ NmC wx (w.heap.size + 1) Y ∧ IntAt wx X.neg X.a X.n X.cap (k + k + 10) (n * Q A) ∧ IntAt wx Y.neg Y.a Y.n Y.cap (k + k + 10) (d * Q C) ∧ NoI wx (w.heap.size + 1 + 1) ∧ NoI wx (w.heap.size + 1 + 1 + 1) ∧ Below w.heap.size w wx)
  case first =>
    have HXC := hide X
    have HYC := hide Y
    obtain ⟨x0, x1⟩ := X
    obtain ⟨y0, y1⟩ := Y
    have HZA := hide (show (if 0 < IntKind.i64.wrap (-D) then IntKind.i64.wrap (-D) else 0) = (A : Int) by rw [unhide HW]; have := unhide HA; split <;> omega)
    have HZC := hide (show (if 0 < D then D else 0) = (C : Int) by have := unhide HC; split <;> omega)
    by_cases d1 : 0 < D
    · have d2 : IntKind.i64.wrap (-D) ≤ 0 := by rw [unhide HW]; omega
      have HZA1 := hide (show (0 : Int) = (A : Int) by have := unhide HA; omega)
      have HZC1 := hide (show D = (C : Int) by have := unhide HC; omega)
      go_region_with
        (first
          | (go_at_call 107; have hq := hD1; (with_reducible refine (up_at _ _ _ _ _ C k d _ (by first | with_reducible exact unhide HZC1 | with_reducible exact unhide HZC) ((unhide HY).below hD1) (by omega) (by omega)).mono ?_); rintro r' w2 ⟨neg2, a2, n2, c2, rfl, hint2, hb2⟩; have hD2 := bthen hD1 hb2; have l2X := Nat.lt_of_lt_of_le lX hD2.size; have l2Y := Nat.lt_of_lt_of_le lY hD2.size; replace hint1 := hint1.below hb2; obtain ⟨x4, x5⟩ := (unhide HXC).below hD2; obtain ⟨y4, y5⟩ := (unhide HYC).below hD2; have F2 : ∀ o, w2.frozen? ⟨w.heap.size, o, none⟩ = false := (fun o => (hD2.frozen (p := ⟨w.heap.size, o, none⟩) lX).trans (FX0 o)); have G2 : ∀ o, w2.frozen? ⟨w.heap.size + 1, o, none⟩ = false := (fun o => (hD2.frozen (p := ⟨w.heap.size + 1, o, none⟩) lY).trans (FY0 o)))
          | (go_at_call 107; (with_reducible refine (up_at _ _ _ _ _ A k n _ (by first | with_reducible exact unhide HZA1 | with_reducible exact unhide HZA) ((unhide HX).below (Below.refl _ _).drew) (by omega) (by omega)).mono ?_); rintro r' w1 ⟨neg1, a1, n1, c1, rfl, hint1, hb1⟩; have hD1 : Below wc.heap.size wc w1 := bthen (Below.refl _ _).drew hb1; obtain ⟨y2, y3⟩ := (unhide HYC).below hD1; obtain ⟨x2, x3⟩ := (unhide HXC).below hD1; have l1X := Nat.lt_of_lt_of_le lX hD1.size; have l1Y := Nat.lt_of_lt_of_le lY hD1.size))
      all_goals
        go_wp2_with fail
        go_meet
        exact ⟨rfl, bal_put hD2 (NmC.mk x4 x5) (NmC.mk y4 y5) ⟨neg1, a1, n1, c1⟩ ⟨neg2, a2, n2, c2⟩ (hint1.mono (by omega)) (hint2.mono (by omega)) R R2 hBW⟩
    · by_cases d3 : D < 0
      · have d2 : 0 < IntKind.i64.wrap (-D) := by rw [unhide HW]; omega
        have d4 : D ≤ 0 := by omega
        have HZA1 := hide (show IntKind.i64.wrap (-D) = (A : Int) by rw [unhide HW]; have := unhide HA; omega)
        have HZC1 := hide (show (0 : Int) = (C : Int) by have := unhide HC; omega)
        go_region_with
          (first
            | (go_at_call 107; have hq := hD1; (with_reducible refine (up_at _ _ _ _ _ C k d _ (by first | with_reducible exact unhide HZC1 | with_reducible exact unhide HZC) ((unhide HY).below hD1) (by omega) (by omega)).mono ?_); rintro r' w2 ⟨neg2, a2, n2, c2, rfl, hint2, hb2⟩; have hD2 := bthen hD1 hb2; have l2X := Nat.lt_of_lt_of_le lX hD2.size; have l2Y := Nat.lt_of_lt_of_le lY hD2.size; replace hint1 := hint1.below hb2; obtain ⟨x4, x5⟩ := (unhide HXC).below hD2; obtain ⟨y4, y5⟩ := (unhide HYC).below hD2; have F2 : ∀ o, w2.frozen? ⟨w.heap.size, o, none⟩ = false := (fun o => (hD2.frozen (p := ⟨w.heap.size, o, none⟩) lX).trans (FX0 o)); have G2 : ∀ o, w2.frozen? ⟨w.heap.size + 1, o, none⟩ = false := (fun o => (hD2.frozen (p := ⟨w.heap.size + 1, o, none⟩) lY).trans (FY0 o)))
            | (go_at_call 107; (with_reducible refine (up_at _ _ _ _ _ A k n _ (by first | with_reducible exact unhide HZA1 | with_reducible exact unhide HZA) ((unhide HX).below (Below.refl _ _).drew) (by omega) (by omega)).mono ?_); rintro r' w1 ⟨neg1, a1, n1, c1, rfl, hint1, hb1⟩; have hD1 : Below wc.heap.size wc w1 := bthen (Below.refl _ _).drew hb1; obtain ⟨y2, y3⟩ := (unhide HYC).below hD1; obtain ⟨x2, x3⟩ := (unhide HXC).below hD1; have l1X := Nat.lt_of_lt_of_le lX hD1.size; have l1Y := Nat.lt_of_lt_of_le lY hD1.size))
        all_goals
          go_wp2_with fail
          go_meet
          exact ⟨rfl, bal_put hD2 (NmC.mk x4 x5) (NmC.mk y4 y5) ⟨neg1, a1, n1, c1⟩ ⟨neg2, a2, n2, c2⟩ (hint1.mono (by omega)) (hint2.mono (by omega)) R R2 hBW⟩
      · have d2 : IntKind.i64.wrap (-D) ≤ 0 := by rw [unhide HW]; omega
        have d4 : D ≤ 0 := by omega
        have HZA1 := hide (show (0 : Int) = (A : Int) by have := unhide HA; omega)
        have HZC1 := hide (show (0 : Int) = (C : Int) by have := unhide HC; omega)
        go_region_with
          (first
            | (go_at_call 107; have hq := hD1; (with_reducible refine (up_at _ _ _ _ _ C k d _ (by first | with_reducible exact unhide HZC1 | with_reducible exact unhide HZC) ((unhide HY).below hD1) (by omega) (by omega)).mono ?_); rintro r' w2 ⟨neg2, a2, n2, c2, rfl, hint2, hb2⟩; have hD2 := bthen hD1 hb2; have l2X := Nat.lt_of_lt_of_le lX hD2.size; have l2Y := Nat.lt_of_lt_of_le lY hD2.size; replace hint1 := hint1.below hb2; obtain ⟨x4, x5⟩ := (unhide HXC).below hD2; obtain ⟨y4, y5⟩ := (unhide HYC).below hD2; have F2 : ∀ o, w2.frozen? ⟨w.heap.size, o, none⟩ = false := (fun o => (hD2.frozen (p := ⟨w.heap.size, o, none⟩) lX).trans (FX0 o)); have G2 : ∀ o, w2.frozen? ⟨w.heap.size + 1, o, none⟩ = false := (fun o => (hD2.frozen (p := ⟨w.heap.size + 1, o, none⟩) lY).trans (FY0 o)))
            | (go_at_call 107; (with_reducible refine (up_at _ _ _ _ _ A k n _ (by first | with_reducible exact unhide HZA1 | with_reducible exact unhide HZA) ((unhide HX).below (Below.refl _ _).drew) (by omega) (by omega)).mono ?_); rintro r' w1 ⟨neg1, a1, n1, c1, rfl, hint1, hb1⟩; have hD1 : Below wc.heap.size wc w1 := bthen (Below.refl _ _).drew hb1; obtain ⟨y2, y3⟩ := (unhide HYC).below hD1; obtain ⟨x2, x3⟩ := (unhide HXC).below hD1; have l1X := Nat.lt_of_lt_of_le lX hD1.size; have l1Y := Nat.lt_of_lt_of_le lY hD1.size))
        all_goals
          go_wp2_with fail
          go_meet
          exact ⟨rfl, bal_put hD2 (NmC.mk x4 x5) (NmC.mk y4 y5) ⟨neg1, a1, n1, c1⟩ ⟨neg2, a2, n2, c2⟩ (hint1.mono (by omega)) (hint2.mono (by omega)) R R2 hBW⟩
  case rest =>
  obtain ⟨rfl, X, Y, hX, hY, iX, iY, R, R2, hBW⟩ := hcut
  have hQA := Q_pos A
  have hQC := Q_pos C
  have hnA : 0 < n * Q A := Int.mul_pos hn (by omega)
  have hdC : 0 < d * Q C := Int.mul_pos hd (by omega)
  obtain ⟨N1, hN1⟩ : ∃ N1, N1 = n * Q A := ⟨_, rfl⟩
  obtain ⟨D1, hD1⟩ : ∃ D1, D1 = d * Q C := ⟨_, rfl⟩
  have hm1 : 0 ≤ D → n * D1 = N1 * d * Q D.toNat := fun h => by
    have e1 : A = 0 := by have := unhide HA; omega
    have e2 : D.toNat = C := by have := unhide HC; omega
    rw [hN1, hD1, e1, e2]; simp only [Q]; grind
  have hm2 : D < 0 → n * D1 * Q (-D).toNat = N1 * d := fun h => by
    have e1 : C = 0 := by have := unhide HC; omega
    have e2 : (-D).toNat = A := by have := unhide HA; omega
    rw [hN1, hD1, e1, e2]; simp only [Q]; grind
  have HM1 := hide hm1
  have HM2 := hide hm2
  have HDA2 := unhide HDA
  have HB3 : Hid (N1 < 2 * D1 ∧ D1 < 2 * N1) := hide (by rw [hN1, hD1]; exact unhide HB2)
  rw [← hN1] at iX hnA
  rw [← hD1] at iY hdC
  clear hm1 hm2 HA HC HD HW HDA hQA hQC hN1 hD1 HB2
  have HIX := hide iX
  have HIY := hide iY
  have HXC := hide hX
  have HYC := hide hY
  have lX := hX.lt
  have lY := hY.lt
  have lR := R.lt
  have lR2 := R2.lt
  have HK := hide (show ∀ w', Below wc.heap.size wc w' → (w'.cell? ⟨w.heap.size, 0, none⟩ = some (.bool X.neg) ∧ w'.cell? ⟨w.heap.size, 1, none⟩ = some (.slice X.a X.n X.cap) ∧ w'.cell? ⟨w.heap.size + 1, 0, none⟩ = some (.bool Y.neg) ∧ w'.cell? ⟨w.heap.size + 1, 1, none⟩ = some (.slice Y.a Y.n Y.cap)) from fun w' hB => ⟨(hX.below hB).c0, (hX.below hB).c1, (hY.below hB).c0, (hY.below hB).c1⟩)
  clear iX iY hX hY
  obtain ⟨x0, x1, y0, y1⟩ := unhide HK _ (Below.refl _ _)
  have hD0 : Below wc.heap.size wc wc.drew := (Below.refl _ _).drew
  go_wp2_with fail
  go_cut [22] (fun p wx => p = .bool (decide (D1 * 3 < N1 * 2)) ∧ Below wc.heap.size wc wx)
  case first =>
    go_region_held3 (fun w' => w'.cell? ⟨w.heap.size, 0, none⟩ = some (.bool X.neg) ∧ w'.cell? ⟨w.heap.size, 1, none⟩ = some (.slice X.a X.n X.cap) ∧ w'.cell? ⟨w.heap.size + 1, 0, none⟩ = some (.bool Y.neg) ∧ w'.cell? ⟨w.heap.size + 1, 1, none⟩ = some (.slice Y.a Y.n Y.cap)) (first | exact unhide HK _ (by first | with_reducible exact hD0 | with_reducible exact hD4 | with_reducible exact hD3 | with_reducible exact hD2 | with_reducible exact hD1) | go_keep)
      (first
        | (go_at_call 33; have hq := hD3; refine (cmp_int _ _ _ _ _ _ _ _ _ _ (N1 * 2) (D1 * 3) _ ((hint1.below hb2).below hb3) hint3).mono ?_; rintro r' w4 ⟨rfl, hb4⟩; have hD4 := bthen hD3 hb4)
        | (go_at_call 52; have hq := hD2; refine (mul_int _ _ _ _ _ _ _ _ (k + k + 10) 4 D1 3 _ ((unhide HIY).below hD2) hint2 (by omega) (by omega)).mono ?_; rintro r' w3 ⟨neg3, a3, n3, c3, rfl, hint3, hb3⟩; have hD3 := bthen hD2 hb3)
        | (go_at_call 62; have hq := hD1; refine (numOf_int 3 _ (by decide) (by decide)).mono ?_; rintro r' w2 ⟨neg2, a2, n2, c2, rfl, hint2, hb2⟩; have hD2 := bthen hD1 hb2)
        | (go_at_call 107; refine (up_at _ _ _ _ _ 1 (k + k + 10) N1 _ rfl ((unhide HIX).below hD0) (by omega) (by omega)).mono ?_; rintro r' w1 ⟨neg1, a1, n1, c1, rfl, hint1, hb1⟩; have hD1 := bthen hD0 hb1))
    all_goals
      go_wp2_with fail
      go_meet
      exact ⟨congrArg _ (cmp_gtB _ _), hD4⟩
  case rest =>
  obtain ⟨rfl, hb1⟩ := hcut
  have HXC := hide ((unhide HXC).below hb1)
  have HYC := hide ((unhide HYC).below hb1)
  have HIX := hide ((unhide HIX).below hb1)
  have HIY := hide ((unhide HIY).below hb1)
  replace R := R.below hb1
  replace R2 := R2.below hb1
  replace hBW := bthen hBW hb1
  have lX := (unhide HXC).lt
  have lY := (unhide HYC).lt
  have lR := R.lt
  have lR2 := R2.lt
  have HK := hide (show ∀ w', Below wc.heap.size wc w' → (w'.cell? ⟨w.heap.size, 0, none⟩ = some (.bool X.neg) ∧ w'.cell? ⟨w.heap.size, 1, none⟩ = some (.slice X.a X.n X.cap) ∧ w'.cell? ⟨w.heap.size + 1, 0, none⟩ = some (.bool Y.neg) ∧ w'.cell? ⟨w.heap.size + 1, 1, none⟩ = some (.slice Y.a Y.n Y.cap)) from fun w' hB => ⟨((unhide HXC).below hB).c0, ((unhide HXC).below hB).c1, ((unhide HYC).below hB).c0, ((unhide HYC).below hB).c1⟩)
  clear x0 x1 y0 y1 hD0
  obtain ⟨x0, x1, y0, y1⟩ := unhide HK _ (Below.refl _ _)
  have hD0 : Below wc.heap.size wc wc.drew := (Below.refl _ _).drew
  have n1 : w.heap.size ≠ w.heap.size + 1 + 1 := by omega
  have n2 : w.heap.size ≠ w.heap.size + 1 + 1 + 1 := by omega
  have n3 : w.heap.size + 1 ≠ w.heap.size + 1 + 1 := by omega
  have n4 : w.heap.size + 1 ≠ w.heap.size + 1 + 1 + 1 := by omega
  have n5 : w.heap.size + 1 + 1 ≠ w.heap.size + 1 + 1 + 1 := by omega
  have n6 : w.heap.size + 1 + 1 + 1 ≠ w.heap.size + 1 + 1 := by omega
  have n7 : w.heap.size + 1 + 1 ≠ w.heap.size := by omega
  have n8 : w.heap.size + 1 + 1 + 1 ≠ w.heap.size := by omega
  have n9 : w.heap.size + 1 + 1 ≠ w.heap.size + 1 := by omega
  have n10 : w.heap.size + 1 + 1 + 1 ≠ w.heap.size + 1 := by omega
  by_cases hc : D1 * 3 < N1 * 2
  · have HR : Hid (Bal n d N1 (D1 * 2) (D + 1)) := hide (by
      exact bal_a hnA hdC (unhide HM1) (unhide HM2) (unhide HB3).1 (unhide HB3).2 hc)
    have HW1 := hide (show IntKind.i64.wrap (D + 1) = D + 1 from i64_id _ (by omega) (by omega))
    have Hc := hide hc
    go_wp2_with fail
    go_region_held3 (fun w' => w'.cell? ⟨w.heap.size, 0, none⟩ = some (.bool X.neg) ∧ w'.cell? ⟨w.heap.size, 1, none⟩ = some (.slice X.a X.n X.cap) ∧ w'.cell? ⟨w.heap.size + 1, 0, none⟩ = some (.bool Y.neg) ∧ w'.cell? ⟨w.heap.size + 1, 1, none⟩ = some (.slice Y.a Y.n Y.cap)) (first | exact unhide HK _ (by first | with_reducible exact hD0 | with_reducible exact hD1) | go_keep)
      (first
        | (go_at_call 107; refine (up_at _ _ _ _ _ 1 (k + k + 10) D1 _ rfl ((unhide HIY).below hD0) (by omega) (by omega)).mono ?_; rintro r' w1 ⟨neg1, a1, n1', c1, rfl, hint1, hb1⟩; have hD1 := bthen hD0 hb1; obtain ⟨q0, q1, q2⟩ := R.below hD1; obtain ⟨p0, p1, p2⟩ := R2.below hD1; obtain ⟨z0, z1, z2, z3⟩ := unhide HK _ hD1))
    all_goals
      have HE := bal_end (w := w) (K := k + k + 20) (R.below hD1) (R2.below hD1) (X := X) (Y := ⟨neg1, a1, n1', c1⟩) (((unhide HIX).below hD1).mono (by omega)) (hint1.mono (by omega)) (bthen hBW hD1)
      go_wp2_with fail
      refine bodyPost_ret (v := .tuple #[.agg #[.bool X.neg, .slice X.a X.n X.cap], .agg #[.bool neg1, .slice a1 n1' c1], .int .i64 (IntKind.i64.wrap (D + 1))]) (by simp [results, Try.results152, go_sem, q0, q1, p0, p1, n5, n6]) rfl ⟨X, ⟨neg1, a1, n1', c1⟩, N1, (D1 * 2), _, rfl, by rw [unhide HW1]; exact unhide HR, by rw [unhide HW1]; omega, by rw [unhide HW1]; omega, HE.1, HE.2.1, HE.2.2⟩
  · have Hc := hide hc
    go_wp2_with fail
    go_cut [35] (fun p wx => p = .bool (decide (N1 * 4 < D1 * 3)) ∧ Below wc.heap.size wc wx)
    case first =>
      go_region_held3 (fun w' => w'.cell? ⟨w.heap.size, 0, none⟩ = some (.bool X.neg) ∧ w'.cell? ⟨w.heap.size, 1, none⟩ = some (.slice X.a X.n X.cap) ∧ w'.cell? ⟨w.heap.size + 1, 0, none⟩ = some (.bool Y.neg) ∧ w'.cell? ⟨w.heap.size + 1, 1, none⟩ = some (.slice Y.a Y.n Y.cap)) (first | exact unhide HK _ (by first | with_reducible exact hD0 | with_reducible exact hD4 | with_reducible exact hD3 | with_reducible exact hD2 | with_reducible exact hD1) | go_keep)
        (first
          | (go_at_call 33; have hq := hD3; refine (cmp_int _ _ _ _ _ _ _ _ _ _ (N1 * 4) (D1 * 3) _ ((hint1.below hb2).below hb3) hint3).mono ?_; rintro r' w4 ⟨rfl, hb4⟩; have hD4 := bthen hD3 hb4)
          | (go_at_call 52; have hq := hD2; refine (mul_int _ _ _ _ _ _ _ _ (k + k + 10) 4 D1 3 _ ((unhide HIY).below hD2) hint2 (by omega) (by omega)).mono ?_; rintro r' w3 ⟨neg3, a3, n3, c3, rfl, hint3, hb3⟩; have hD3 := bthen hD2 hb3)
          | (go_at_call 62; have hq := hD1; refine (numOf_int 3 _ (by decide) (by decide)).mono ?_; rintro r' w2 ⟨neg2, a2, n2, c2, rfl, hint2, hb2⟩; have hD2 := bthen hD1 hb2)
          | (go_at_call 107; refine (up_at _ _ _ _ _ 2 (k + k + 10) N1 _ rfl ((unhide HIX).below hD0) (by omega) (by omega)).mono ?_; rintro r' w1 ⟨neg1, a1, n1, c1, rfl, hint1, hb1⟩; have hD1 := bthen hD0 hb1))
      all_goals
        go_wp2_with fail
        go_meet
        exact ⟨congrArg _ (cmp_ltB _ _), hD4⟩
    case rest =>
    obtain ⟨rfl, hb1⟩ := hcut
    have HXC := hide ((unhide HXC).below hb1)
    have HYC := hide ((unhide HYC).below hb1)
    have HIX := hide ((unhide HIX).below hb1)
    have HIY := hide ((unhide HIY).below hb1)
    replace R := R.below hb1
    replace R2 := R2.below hb1
    replace hBW := bthen hBW hb1
    have lX := (unhide HXC).lt
    have lY := (unhide HYC).lt
    have lR := R.lt
    have lR2 := R2.lt
    have HK := hide (show ∀ w', Below wc.heap.size wc w' → (w'.cell? ⟨w.heap.size, 0, none⟩ = some (.bool X.neg) ∧ w'.cell? ⟨w.heap.size, 1, none⟩ = some (.slice X.a X.n X.cap) ∧ w'.cell? ⟨w.heap.size + 1, 0, none⟩ = some (.bool Y.neg) ∧ w'.cell? ⟨w.heap.size + 1, 1, none⟩ = some (.slice Y.a Y.n Y.cap)) from fun w' hB => ⟨((unhide HXC).below hB).c0, ((unhide HXC).below hB).c1, ((unhide HYC).below hB).c0, ((unhide HYC).below hB).c1⟩)
    clear x0 x1 y0 y1 hD0
    obtain ⟨x0, x1, y0, y1⟩ := unhide HK _ (Below.refl _ _)
    have hD0 : Below wc.heap.size wc wc.drew := (Below.refl _ _).drew
    by_cases hc2 : N1 * 4 < D1 * 3
    · have HR : Hid (Bal n d (N1 * 2) D1 (D - 1)) := hide (by
          exact bal_b hnA hdC (unhide HM1) (unhide HM2) (unhide HB3).1 (unhide HB3).2 hc2)
      have HW1 := hide (show IntKind.i64.wrap (D - 1) = D - 1 from i64_id _ (by omega) (by omega))
      have Hc2 := hide hc2
      go_wp2_with fail
      go_region_held3 (fun w' => w'.cell? ⟨w.heap.size, 0, none⟩ = some (.bool X.neg) ∧ w'.cell? ⟨w.heap.size, 1, none⟩ = some (.slice X.a X.n X.cap) ∧ w'.cell? ⟨w.heap.size + 1, 0, none⟩ = some (.bool Y.neg) ∧ w'.cell? ⟨w.heap.size + 1, 1, none⟩ = some (.slice Y.a Y.n Y.cap)) (first | exact unhide HK _ (by first | with_reducible exact hD0 | with_reducible exact hD1) | go_keep)
        (first
          | (go_at_call 107; refine (up_at _ _ _ _ _ 1 (k + k + 10) N1 _ rfl ((unhide HIX).below hD0) (by omega) (by omega)).mono ?_; rintro r' w1 ⟨neg1, a1, n1', c1, rfl, hint1, hb1⟩; have hD1 := bthen hD0 hb1; obtain ⟨q0, q1, q2⟩ := R.below hD1; obtain ⟨p0, p1, p2⟩ := R2.below hD1; obtain ⟨z0, z1, z2, z3⟩ := unhide HK _ hD1))
      all_goals
        have HE := bal_end (w := w) (K := k + k + 20) (R.below hD1) (R2.below hD1) (X := ⟨neg1, a1, n1', c1⟩) (Y := Y) (hint1.mono (by omega)) (((unhide HIY).below hD1).mono (by omega)) (bthen hBW hD1)
        go_wp2_with fail
        refine bodyPost_ret (v := .tuple #[.agg #[.bool neg1, .slice a1 n1' c1], .agg #[.bool Y.neg, .slice Y.a Y.n Y.cap], .int .i64 (IntKind.i64.wrap (D - 1))]) (by simp [results, Try.results152, go_sem, q0, q1, p0, p1, n5, n6]) rfl ⟨⟨neg1, a1, n1', c1⟩, Y, (N1 * 2), D1, _, rfl, by rw [unhide HW1]; exact unhide HR, by rw [unhide HW1]; omega, by rw [unhide HW1]; omega, HE.1, HE.2.1, HE.2.2⟩
    · have HR : Hid (Bal n d N1 D1 D) := hide (by
          exact bal_c hnA hdC (unhide HM1) (unhide HM2) (by have := unhide Hc; omega) hc2)
      have Hc2 := hide hc2
      go_wp2_with fail
      have HR1 := R
      have HR2 := R2
      obtain ⟨q0, q1, q2⟩ := R
      obtain ⟨p0, p1, p2⟩ := R2
      go_region
      all_goals
        have HE := bal_end (w := w) (K := k + k + 20) (HR1.below (Below.refl _ _).drew) (HR2.below (Below.refl _ _).drew) (X := X) (Y := Y) (((unhide HIX).below (Below.refl _ _).drew).mono (by omega)) (((unhide HIY).below (Below.refl _ _).drew).mono (by omega)) (bthen hBW (Below.refl _ _).drew)
        go_wp2_with fail
        refine bodyPost_ret (v := .tuple #[.agg #[.bool X.neg, .slice X.a X.n X.cap], .agg #[.bool Y.neg, .slice Y.a Y.n Y.cap], .int .i64 (D)]) (by simp [results, Try.results152, go_sem, q0, q1, p0, p1, n5, n6]) rfl ⟨X, Y, N1, D1, _, rfl, by exact unhide HR, by omega, by omega, HE.1, HE.2.1, HE.2.2⟩
end Go.Proofs.Ytgmnknmjainabaa
