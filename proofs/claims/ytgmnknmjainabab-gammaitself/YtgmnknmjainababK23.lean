/-
  Texts Rlg, Nrf, Lgt: what they hold is told in the last text.
-/
import Derived.Test.YtgmnknmjainababK22
set_option linter.unnecessarySimpa false
set_option linter.unusedSimpArgs false
set_option linter.unusedVariables false
namespace Go.Proofs.Ytgmnknmjainabab
open Go.RowKit
attribute [local go_sem ↓] Go.wp_at_zero Go.wp_at_succ
structure LgSt (w wr : World) (X Y : Nm) (k : Nat) (n d : Int) : Prop where
  x : NmC wr w.heap.size X
  fx : ∀ o, wr.frozen? ⟨w.heap.size, o, none⟩ = false
  y : NmC wr (w.heap.size + 1) Y
  fy : ∀ o, wr.frozen? ⟨w.heap.size + 1, o, none⟩ = false
  ix : IntAt wr X.neg X.a X.n X.cap k n
  iy : IntAt wr Y.neg Y.a Y.n Y.cap k d
  no : NoC wr (w.heap.size + 1 + 1)
  be : Below w.heap.size w wr
theorem LgSt.below {w wr wr' : World} {X Y : Nm} {k : Nat} {n d : Int} (h : LgSt w wr X Y k n d) (hb : Below wr.heap.size wr wr') : LgSt w wr' X Y k n d :=
  ⟨h.x.below hb, fun o => (hb.frozen (p := ⟨w.heap.size, o, none⟩) h.x.lt).trans (h.fx o), h.y.below hb, fun o => (hb.frozen (p := ⟨w.heap.size + 1, o, none⟩) h.y.lt).trans (h.fy o), h.ix.below hb, h.iy.below hb, h.no.below hb, bthen h.be hb⟩
theorem NoC.offN {w : World} {B B' : Nat} (h : NoC w B) (hne : B ≠ B') (u0 u1 : Value) : NoC ((w.setCell ⟨B', 0, none⟩ u0).setCell ⟨B', 1, none⟩ u1) B := by
  obtain ⟨q0, q1, q2, q3, q4, q5⟩ := h
  exact ⟨by simp [go_sem, q0, hne, Ne.symm hne], by simp [go_sem, q1, hne, Ne.symm hne], by simp [go_sem, q2, hne, Ne.symm hne], by simp [go_sem, q3, hne, Ne.symm hne], by simp [go_sem, q4, hne, Ne.symm hne], put_fz2 q5 _ _⟩
theorem LgSt.putX {w wr : World} {X Y Z : Nm} {k : Nat} {n d m : Int} (h : LgSt w wr X Y k n d) (hz : IntAt wr Z.neg Z.a Z.n Z.cap k m) :
    LgSt w ((wr.setCell ⟨w.heap.size, 0, none⟩ (.bool Z.neg)).setCell ⟨w.heap.size, 1, none⟩ (.slice Z.a Z.n Z.cap)) Z Y k m d :=
  ⟨put_nm2 h.x Z, put_fz2 h.fx _ _, h.y.off (by omega) _ _, put_fz2 h.fy _ _, hz.put2 h.x.c0 h.x.c1 _ _, h.iy.put2 h.x.c0 h.x.c1 _ _, h.no.offN (by omega) _ _, set2 h.be (Nat.le_refl _) _ _⟩
theorem LgSt.putY {w wr : World} {X Y Z : Nm} {k : Nat} {n d m : Int} (h : LgSt w wr X Y k n d) (hz : IntAt wr Z.neg Z.a Z.n Z.cap k m) :
    LgSt w ((wr.setCell ⟨w.heap.size + 1, 0, none⟩ (.bool Z.neg)).setCell ⟨w.heap.size + 1, 1, none⟩ (.slice Z.a Z.n Z.cap)) X Z k n m :=
  ⟨h.x.off (by omega) _ _, put_fz2 h.fx _ _, put_nm2 h.y Z, put_fz2 h.fy _ _, h.ix.put2 h.y.c0 h.y.c1 _ _, hz.put2 h.y.c0 h.y.c1 _ _, h.no.offN (by omega) _ _, set2 h.be (Nat.le_succ _) _ _⟩
theorem refRatio_any (x y : Nm) (k k2 b : Nat) (n d : Int) (w : World) (h1 : IntAt w x.neg x.a x.n x.cap k n) (h2 : IntAt w y.neg y.a y.n y.cap k2 d) (hk : k ≤ 600000000) (hk2 : k2 ≤ 100000000) (hb : b ≤ 100000) (hy : 0 < d) :
    Calls Try.prog 52 #[.agg #[.bool x.neg, .slice x.a x.n x.cap], .agg #[.bool y.neg, .slice y.a y.n y.cap], .int .i64 b] w (SpanAns w b (k + b / 16 + 14) (ofI n d b).1 (ofI n d b).2) :=
  refRatio_core _ _ _ _ _ _ _ _ k k2 b n d _ h1 h2 (by omega) (by omega) hb hy (fun neg' a' n' cap' w' p1 p2 => floor_any _ _ _ _ _ _ _ _ _ k2 _ _ w' p1 p2 (by omega) hy)
theorem ofI_between {n d : Int} (b : Nat) (hd : 0 < d) (h1 : d ≤ n) (h2 : n < 2 * d) : Q b ≤ (ofI n d b).1 ∧ (ofI n d b).1 ≤ (ofI n d b).2 ∧ (ofI n d b).2 ≤ 2 * Q b := by
  have q := Q_pos b
  have g1 := Int.mul_le_mul_of_nonneg_right h1 (show 0 ≤ Q b by omega)
  have g2 := Int.mul_le_mul_of_nonneg_right (show n ≤ 2 * d by omega) (show 0 ≤ Q b by omega)
  have e1 : d * Q b = Q b * d := Int.mul_comm _ _
  have e2 : 2 * d * Q b = 2 * Q b * d := by grind
  refine ⟨?_, (Iv.of b hd).le, ?_⟩
  · show Q b ≤ n * Q b / d
    exact Int.le_ediv_of_mul_le hd (by omega)
  · show -(-(n * Q b) / d) ≤ 2 * Q b
    have : -(2 * Q b) ≤ -(n * Q b) / d := Int.le_ediv_of_mul_le hd (by rw [Int.neg_mul]; omega)
    omega
theorem cge {x y : Int} (h : y ≤ x) : 0 ≤ cmpInt x y := by unfold cmpInt; rw [if_neg (by omega)]; split <;> omega
theorem clt {x y : Int} (h : x < y) : cmpInt x y < 0 := by unfold cmpInt; rw [if_pos h]; omega
theorem iv_exp {b : Nat} {n d : Int} (hd : 0 < d) {l : Nat → Rat} (hl : Ex.IsLog l (fun _ => (n : Rat) / (d : Rat))) : Iv b (ofI n d b) (Ex.Ev l) := (Iv.of b hd).congr hl.2
theorem whole_iv {b : Nat} : Iv b (2 * Q b, 2 * Q b) (Ex.Ev (fun M => 2 * Ex.Az (zR 2 1) M)) := by
  have h := (Iv.of b (n := 2) (d := 1) (by decide))
  have e : ofI 2 1 b = (2 * Q b, 2 * Q b) := by unfold ofI; simp only [Int.ediv_one, Int.neg_neg]
  rw [e] at h
  refine h.congr ((isLog_two.2).of_eq fun M => ?_)
  have e2 : ((2 : Int) : Rat) / ((1 : Int) : Rat) = 2 := by decide +kernel
  rw [e2]
set_option maxRecDepth 100000 in
set_option maxHeartbeats 4000000 in
theorem refLog_iv (w : World) (x y : Nm) (k b J : Nat) (n d : Int) (hx : IntAt w x.neg x.a x.n x.cap k n) (hy : IntAt w y.neg y.a y.n y.cap k d) (hk : k ≤ 10000000) (hb : b ≤ 50000) (hn : 0 < n) (hd : 0 < d) (hnk : n < P k) (hdk : 2 * d < P k) (hJ1 : d ≤ n * Q J) (hJ2 : n < d * Q (J + 1)) (hJ : J ≤ 1000) :
    Calls Try.prog 111 #[.agg #[.bool x.neg, .slice x.a x.n x.cap], .agg #[.bool y.neg, .slice y.a y.n y.cap], .int .i64 b] w (fun r w' => ∃ (o : Int × Int) (l : Nat → Rat), Ex.IsLog l (fun _ => (n : Rat) / (d : Rat)) ∧ Iv b o l ∧ Abs o (3 * ((J : Int) + 1) * Q b) ∧ SpanAns w b (b / 16 + 10) o.1 o.2 r w') := by
  obtain ⟨W, hW⟩ : ∃ W, W = ((w.alloc (.cells #[.bool x.neg, .slice x.a x.n x.cap] 26)).alloc (.cells #[.bool y.neg, .slice y.a y.n y.cap] 26)).alloc (.cells #[.bool false, .slice none 0 0, .bool false, .slice none 0 0, .int .i64 0] 36) := ⟨_, rfl⟩
  have hBW : Below w.heap.size w W := by rw [hW]; exact bl3 _ _ _ _
  have st0 : LgSt w W x y k (n * Q 0) d := ⟨by rw [hW]; exact ⟨by simp [go_sem], by simp [go_sem]⟩, fun o => by rw [hW]; simp [go_sem], by rw [hW]; exact ⟨by simp [go_sem], by simp [go_sem]⟩, fun o => by rw [hW]; simp [go_sem], by rw [show n * Q 0 = n by show n * 1 = n; omega]; exact hx.below hBW, hy.below hBW, by rw [hW]; exact ⟨by simp [go_sem], by simp [go_sem], by simp [go_sem], by simp [go_sem], by simp [go_sem], fun o => by simp [go_sem]⟩, hBW⟩
  clear hx hy hBW
  obtain ⟨m, hm⟩ : ∃ m : Nat, (b : Int) + 48 = (m : Int) := ⟨b + 48, by omega⟩
  have HM := hide (show m = b + 48 by omega)
  have HJ := hide (And.intro hJ1 hJ2)
  have HN := hide (And.intro hn hd)
  have HK := hide (And.intro hnk hdk)
  have HMB := hide hm
  have hm1 : m ≤ 100000 := by omega
  have hm2 : 48 ≤ m := by omega
  clear hJ1 hJ2 hn hd hnk hdk hm
  go_enter Try.func111, Try.ntmps111
  go_wp2_with fail
  rw [← hW, unhide HMB]
  clear hW
  go_loopw [8] (fun kk wr => ∃ (j : Nat) (X : Nm), kk = .int .i64 (-(j : Int)) ∧ j ≤ J ∧ (j = 0 ∨ n * Q j < 2 * d) ∧ LgSt w wr X y k (n * Q j) d) (fun kk _ => J + 1 - (-(intOf kk)).toNat)
  case atStart => exact ⟨0, x, rfl, by omega, Or.inl rfl, st0⟩
  case round =>
    obtain ⟨j, X, rfl, hj, hj2, st⟩ := hrel
    clear st0
    have HJ2 := hide hj2
    clear hj2
    have lX := st.x.lt
    have lY := st.y.lt
    obtain ⟨x0, x1⟩ := st.x
    obtain ⟨y0, y1⟩ := st.y
    go_wp2_with fail
    refine (cmp_int _ _ _ _ _ _ _ _ _ _ (n * Q j) d _ st.ix st.iy).mono ?_
    rintro r w1 ⟨rfl, hb1⟩
    replace st := st.below hb1
    clear hb1 x0 x1 y0 y1 lX lY
    by_cases hlt : n * Q j < d
    · have hc := clt hlt
      have HLT := hide hlt
      have lX := st.x.lt
      have fx := st.fx
      obtain ⟨x0, x1⟩ := st.x
      clear hlt
      go_wp2_with fail
      refine (up_int _ _ _ _ 1 k (n * Q j) _ st.ix (by omega) (by omega)).mono ?_
      rintro r w2 ⟨neg2, a2, n2, c2, rfl, hint2, hb2⟩
      replace st := st.below hb2
      have hj3 := steps_lo (unhide HN).1 (unhide HLT) (unhide HJ).1
      have he : n * Q j * Q 1 = n * Q (j + 1) := by
        have e1 : Q 1 = 2 := rfl
        have e2 : Q (j + 1) = 2 * Q j := rfl
        rw [e1, e2]; grind
      have hlt2 : n * Q (j + 1) < 2 * d := by
        have e1 : Q 1 = 2 := rfl
        have := unhide HLT
        rw [← he, e1]; omega
      have hpos : 0 < n * Q (j + 1) := Int.mul_pos (unhide HN).1 (by have := Q_pos (j + 1); omega)
      rw [he] at hint2
      have stn := st.putX (Z := ⟨neg2, a2, n2, c2⟩) (hint2.fits (K := k) (by have := P_pos k; omega) (by have := (unhide HK).2; omega))
      have HST := hide stn
      have HS2 := hide hlt2
      clear hb2 x0 x1 fx lX hc he hlt2 hpos stn
      have lX := st.x.lt
      have fx := st.fx
      obtain ⟨x0, x1⟩ := st.x
      go_wp2_with fail
      go_roundw
      case rel => exact ⟨j + 1, _, by go_num, by omega, Or.inr (unhide HS2), unhide HST⟩
      case measure => simp [intOf]; omega
    · have hc : ¬ cmpInt (n * Q j) d < 0 := fun h => by have := cge (Int.not_lt.1 hlt); omega
      have hge := Int.not_lt.1 hlt
      have HGE := hide hge
      clear hlt hge
      go_wp2_with fail
      clear hc
      have st1 : LgSt w w1 X y k (n * Q j) (d * Q 0) := by rw [show d * Q 0 = d by show d * 1 = d; omega]; exact st
      clear st
      go_loopw [8] (fun kk wr => ∃ (i : Nat) (Y : Nm), kk = .int .i64 ((i : Int) - (j : Int)) ∧ i ≤ J ∧ (j = 0 ∨ i = 0) ∧ d * Q i ≤ n * Q j ∧ LgSt w wr X Y k (n * Q j) (d * Q i)) (fun kk _ => J + 1 - (intOf kk + j).toNat)
      case atStart => exact ⟨0, y, by go_num, by omega, Or.inr rfl, by rw [show d * Q 0 = d by show d * 1 = d; omega]; exact unhide HGE, st1⟩
      case round =>
        obtain ⟨i, Y, rfl, hi, hi2, hle, st⟩ := hrel
        clear st1
        have HI := hide (And.intro hi2 hle)
        clear hi2 hle
        have e1 : d * Q i * Q 1 = 2 * (d * Q i) := by have e1 : Q 1 = 2 := rfl; rw [e1]; omega
        have HE1 := hide e1
        clear e1
        have HKr := hide (show ∀ w', Below wr.heap.size wr w' → (w'.cell? ⟨w.heap.size, 0, none⟩ = some (.bool X.neg) ∧ w'.cell? ⟨w.heap.size, 1, none⟩ = some (.slice X.a X.n X.cap) ∧ w'.cell? ⟨w.heap.size + 1, 0, none⟩ = some (.bool Y.neg) ∧ w'.cell? ⟨w.heap.size + 1, 1, none⟩ = some (.slice Y.a Y.n Y.cap)) from fun w' hB => ⟨(st.x.below hB).c0, (st.x.below hB).c1, (st.y.below hB).c0, (st.y.below hB).c1⟩)
        have lX := st.x.lt
        have lY := st.y.lt
        obtain ⟨x0, x1, y0, y1⟩ := unhide HKr _ (Below.refl _ _)
        have hD0 : Below wr.heap.size wr wr.drew := (Below.refl _ _).drew
        have HST := hide st
        clear st
        by_cases hge : 2 * (d * Q i) ≤ n * Q j
        · have hc : 0 ≤ cmpInt (n * Q j) (d * Q i * Q 1) := by rw [unhide HE1]; exact cge hge
          have hc2 : ¬ cmpInt (n * Q j) (d * Q i * Q 1) < 0 := by omega
          have HGE2 := hide hge
          clear hge
          go_wp2_with fail
          go_region_held3 (fun w' => w'.cell? ⟨w.heap.size, 0, none⟩ = some (.bool X.neg) ∧ w'.cell? ⟨w.heap.size, 1, none⟩ = some (.slice X.a X.n X.cap) ∧ w'.cell? ⟨w.heap.size + 1, 0, none⟩ = some (.bool Y.neg) ∧ w'.cell? ⟨w.heap.size + 1, 1, none⟩ = some (.slice Y.a Y.n Y.cap)) (first | exact unhide HKr _ (by first | with_reducible exact hD0 | with_reducible exact hD2 | with_reducible exact hD1) | go_keep)
            (first
              | (go_at_call 24; have hq := hD1; refine (cmp_int _ _ _ _ _ _ _ _ _ _ (n * Q j) (d * Q i * Q 1) _ ((unhide HST).ix.below hD1) hint1).mono ?_; rintro r' w3 ⟨rfl, hb3⟩; have hD2 := bthen hD1 hb3)
              | (go_at_call 113; refine (up_int _ _ _ _ 1 k (d * Q i) _ ((unhide HST).iy.below hD0) (by omega) (by omega)).mono ?_; rintro r' w2 ⟨neg2, a2, n2, c2, rfl, hint1, hb2⟩; have hD1 := bthen hD0 hb2))
          all_goals
            have st := (unhide HST).below hD2
            have lY2 := st.y.lt
            have fy := st.fy
            clear x0 x1 y0 y1 hint1
            obtain ⟨y0, y1⟩ := st.y
            go_wp2_with fail
            refine (up_int _ _ _ _ 1 k (d * Q i) _ st.iy (by omega) (by omega)).mono ?_
            rintro r w4 ⟨neg4, a4, n4, c4, rfl, hint4, hb4⟩
            replace st := st.below hb4
            clear y0 y1 fy lY2
            have he : d * Q i * Q 1 = d * Q (i + 1) := by
              have e1 : Q 1 = 2 := rfl
              have e2 : Q (i + 1) = 2 * Q i := rfl
              rw [e1, e2]; grind
            have hle2 : d * Q (i + 1) ≤ n * Q j := by
              have := unhide HGE2
              rw [← he, unhide HE1]; exact this
            have hj0 : j = 0 := by
              rcases unhide HJ2 with h | h
              · exact h
              · have q1 := Q_pos i
                have q2 := Int.mul_le_mul_of_nonneg_left (show 1 ≤ Q i by omega) (show 0 ≤ d by have := (unhide HN).2; omega)
                have := unhide HGE2
                omega
            have hi3 : i < J := by
              have h1 := (unhide HJ).2
              have e0 : n * Q j = n := by rw [hj0]; show n * 1 = n; omega
              refine Nat.lt_of_not_le fun hn' => ?_
              have := Int.mul_le_mul_of_nonneg_left (Q_mono (show J + 1 ≤ i + 1 by omega)) (show 0 ≤ d by have := (unhide HN).2; omega)
              omega
            have hpos : 0 < d * Q (i + 1) := Int.mul_pos (unhide HN).2 (by have := Q_pos (i + 1); omega)
            have hfit : d * Q (i + 1) < P k := by
              have h1 := (unhide HK).1
              have e0 : n * Q j = n := by rw [hj0]; show n * 1 = n; omega
              omega
            rw [he] at hint4
            have stn := st.putY (Z := ⟨neg4, a4, n4, c4⟩) (hint4.fits (K := k) (by have := P_pos k; omega) hfit)
            have HSN := hide stn
            have HL2 := hide hle2
            have HJ0 := hide hj0
            clear stn hle2 hj0 he hpos hfit
            have lY2 := st.y.lt
            have fy := st.fy
            obtain ⟨y0, y1⟩ := st.y
            go_wp2_with fail
            go_roundw
            case rel => exact ⟨i + 1, _, by go_num, by omega, Or.inl (unhide HJ0), unhide HL2, unhide HSN⟩
            case measure => simp [intOf]; omega
        · have hc2 : cmpInt (n * Q j) (d * Q i * Q 1) < 0 := by rw [unhide HE1]; exact clt (by omega)
          have hc : ¬ 0 ≤ cmpInt (n * Q j) (d * Q i * Q 1) := by omega
          have HLT2 := hide (Int.not_le.1 hge)
          clear hge
          go_wp2_with fail
          go_region_held3 (fun w' => w'.cell? ⟨w.heap.size, 0, none⟩ = some (.bool X.neg) ∧ w'.cell? ⟨w.heap.size, 1, none⟩ = some (.slice X.a X.n X.cap) ∧ w'.cell? ⟨w.heap.size + 1, 0, none⟩ = some (.bool Y.neg) ∧ w'.cell? ⟨w.heap.size + 1, 1, none⟩ = some (.slice Y.a Y.n Y.cap)) (first | exact unhide HKr _ (by first | with_reducible exact hD0 | with_reducible exact hD2 | with_reducible exact hD1) | go_keep)
            (first
              | (go_at_call 24; have hq := hD1; refine (cmp_int _ _ _ _ _ _ _ _ _ _ (n * Q j) (d * Q i * Q 1) _ ((unhide HST).ix.below hD1) hint1).mono ?_; rintro r' w3 ⟨rfl, hb3⟩; have hD2 := bthen hD1 hb3)
              | (go_at_call 113; refine (up_int _ _ _ _ 1 k (d * Q i) _ ((unhide HST).iy.below hD0) (by omega) (by omega)).mono ?_; rintro r' w2 ⟨neg2, a2, n2, c2, rfl, hint1, hb2⟩; have hD1 := bthen hD0 hb2))
          all_goals
            have st := (unhide HST).below hD2
            have lX2 := st.x.lt
            have lY2 := st.y.lt
            have lR2 := st.no.lt
            clear x0 x1 y0 y1 hint1
            obtain ⟨y0, y1⟩ := st.y
            obtain ⟨x0, x1⟩ := st.x
            have hpd : 0 < d * Q i := Int.mul_pos (unhide HN).2 (by have := Q_pos i; omega)
            have hbal := bal_of (unhide HN).1 (unhide HN).2 rfl rfl (unhide HI).2 (unhide HLT2) (unhide HI).1
            have hbt := ofI_between m hpd (unhide HI).2 (unhide HLT2)
            have hl1 := ln_isLog hbal.1
            have HBAL := hide hbal
            have HBT := hide hbt
            have HL1 := hide hl1
            have hKK : Q (m + 20) < P (m / 16 + 20) := by
              rw [← Q_P]
              have h1 := Q_mono (show m + 20 + 1 ≤ 16 * (m / 16 + 20) by omega)
              have h2 : Q (m + 20 + 1) = 2 * Q (m + 20) := rfl
              have := Q_pos (m + 20)
              omega
            have h2K : 2 * Q m < P (m / 16 + 20) := by
              have h1 := Q_mono (show m + 1 ≤ m + 20 by omega)
              have h2 : Q (m + 1) = 2 * Q m := rfl
              omega
            have hqm := Q_pos m
            have HKK := hide hKK
            have H2K := hide h2K
            clear hbal hbt hl1 hKK h2K
            go_wp2_with fail
            refine (refRatio_any X Y k k m (n * Q j) (d * Q i) _ st.ix st.iy (by omega) (by omega) hm1 hpd).mono ?_
            rintro r w5 ⟨v5, rfl, hvb5, hvp5, hb5⟩
            replace st := st.below hb5
            have HV5 := hide hvb5
            replace hvp5 := hvp5.fits (K := m / 16 + 20) (unhide HBT).2.1 (by have := (unhide HBT).1; have := P_pos (m / 16 + 20); omega) (by have := (unhide HBT).2.2; have := unhide H2K; omega)
            clear hb5 hvb5 x0 x1 y0 y1 lX2 lY2 lR2
            go_wp2_with fail
            refine (rootLog_iv _ v5 (m / 16 + 20) m (m / 16 + 20) (ofI (n * Q j) (d * Q i) m) _ hvp5 (unhide HV5) (Nat.le_refl _) (unhide HL1).1 (iv_exp hpd (unhide HL1)) (unhide HBT).1 (unhide HBT).2.1 (unhide HBT).2.2 hm1 (by omega) (unhide HKK) (by omega) (by omega)).mono ?_
            rintro r w6 ⟨o6, hi6, ha6, v6, rfl, hvb6, hvp6, hb6⟩
            replace st := st.below hb6
            have HV6 := hide hvb6
            have HI6 := hide hi6
            have HA6 := hide ha6
            clear hb6 hvb6 hi6 ha6 hvp5
            go_wp2_with fail
            refine (refWhole _ 2 m hm1 (by decide) (by decide)).mono ?_
            rintro r w7 ⟨v7, rfl, hvb7, hvp7, hb7⟩
            replace st := st.below hb7
            replace hvp6 := hvp6.below hb7
            have HV7 := hide hvb7
            clear hb7 hvb7
            go_wp2_with fail
            refine (rootLog_iv _ v7 (m / 16 + 18) m (m / 16 + 20) (2 * Q m, 2 * Q m) _ hvp7 (unhide HV7) (by omega) isLog_two.1 whole_iv (by simp only []; omega) (Int.le_refl _) (Int.le_refl _) hm1 (by omega) (unhide HKK) (by omega) (by omega)).mono ?_
            rintro r w8 ⟨o8, hi8, ha8, v8, rfl, hvb8, hvp8, hb8⟩
            replace st := st.below hb8
            replace hvp6 := hvp6.below hb8
            have HV8 := hide hvb8
            have HI8 := hide hi8
            have HA8 := hide ha8
            clear hb8 hvb8 hi8 ha8 hvp7
            go_wp2_with fail
            refine (numOf_int ((i : Int) - (j : Int)) _ (by omega) (by omega)).mono ?_
            rintro r w9 ⟨neg9, a9, n9, c9, rfl, hint9, hb9⟩
            replace st := st.below hb9
            replace hvp6 := hvp6.below hb9
            replace hvp8 := hvp8.below hb9
            clear hb9
            go_wp2_with fail
            refine (numOf_int 1 _ (by decide) (by decide)).mono ?_
            rintro r w10 ⟨neg10, a10, n10, c10, rfl, hint10, hb10⟩
            replace st := st.below hb10
            replace hvp6 := hvp6.below hb10
            replace hvp8 := hvp8.below hb10
            replace hint9 := hint9.below hb10
            clear hb10
            go_wp2_with fail
            refine (refBy _ v8 ⟨neg9, a9, n9, c9⟩ ⟨neg10, a10, n10, c10⟩ (m / 16 + 20 + 30) 4 4 m o8 ((i : Int) - (j : Int)) 1 hvp8 hint9 hint10 (by omega) (by omega) (by omega) (by omega) (unhide HV8)).mono ?_
            rintro r w11 ⟨v11, rfl, hvb11, hvp11, hb11⟩
            replace st := st.below hb11
            replace hvp6 := hvp6.below hb11
            have HV11 := hide hvb11
            clear hb11 hvb11 hvp8 hint9 hint10
            go_wp2_with fail
            refine (refPlus_iv _ v6 v11 (m / 16 + 20 + 30 + 4 + 9) m o6 (byI o8 ((i : Int) - (j : Int)) 1) (hvp6.mono (by omega)) hvp11 (by omega) (unhide HV6)).mono ?_
            rintro r w12 ⟨v12, rfl, hvb12, hvp12, hb12⟩
            replace st := st.below hb12
            have HV12 := hide hvb12
            clear hb12 hvb12 hvp6 hvp11
            obtain ⟨z, hz⟩ : ∃ z : Int × Int, addI o6 (byI o8 ((i : Int) - (j : Int)) 1) = z := ⟨_, rfl⟩
            rw [hz] at hvp12
            have hziv : Iv b (downI z 48) (fun M => 2 * Ex.Az (zR (n * Q j) (d * Q i)) M + (((i : Int) - (j : Int) : Int) : Rat) * (2 * Ex.Az (zR 2 1) M)) := by
              have h1 := (unhide HI6).add ((unhide HI8).by_ ((i : Int) - (j : Int)) (d := 1) (by omega))
              rw [hz, unhide HM] at h1
              refine h1.to.congr (Ex.null_zero.of_eq fun M => ?_)
              have e : (((i : Int) - (j : Int) : Int) : Rat) / ((1 : Int) : Rat) = (((i : Int) - (j : Int) : Int) : Rat) := by rw [Rat.div_def, show ((1 : Int) : Rat)⁻¹ = 1 from by decide +kernel, Rat.mul_one]
              rw [e]; grind
            have hzl := bal_isLog (unhide HN).2 (unhide HBAL) (unhide HL1) isLog_two
            have hza : Abs z (3 * ((J : Int) + 1) * Q m) := by
              have h1 := byI_abs (p := 3 * Q m * (J : Int)) (n := (i : Int) - (j : Int)) (d := 1) (c := (J : Int)) (unhide HA8) (by omega) (by omega) (by omega) (by omega)
              have h2 := (unhide HA6).add h1
              rw [hz] at h2
              exact h2.mono (by rw [show 3 * ((J : Int) + 1) * Q m = 3 * Q m + 3 * Q m * (J : Int) by grind]; omega)
            have hqm2 : Q m = Q b * Q 48 := by rw [unhide HM, Q_add]
            have hda : Abs (downI z 48) (3 * ((J : Int) + 1) * Q b) := downI_abs 48 hza (by rw [hqm2, ← Int.mul_assoc]; omega)
            have HZI := hide hziv
            have HZL := hide hzl
            have HDA := hide hda
            have hkb : 3 * ((J : Int) + 1) * Q b < P (b / 16 + 10) := by
              rw [← Q_P]
              have h1 := Q_mono (show b + 13 ≤ 16 * (b / 16 + 10) by omega)
              have h2 : Q (b + 13) = Q b * 8192 := by rw [Q_add]; rfl
              have hq := Q_pos b
              have h3 := Int.mul_le_mul_of_nonneg_right (show 3 * ((J : Int) + 1) ≤ 8191 by omega) (show 0 ≤ Q b by omega)
              omega
            have HKB := hide hkb
            clear hziv hzl hza hqm2 hda hz hkb hpd
            obtain ⟨V, hV⟩ : ∃ V, V = w12.alloc (.cells #[.bool v12.ln, .slice v12.la v12.lN v12.lc, .bool v12.hn, .slice v12.ha v12.hN v12.hc, .int .i64 v12.bits] 36) := ⟨_, rfl⟩
            have bV : Below w12.heap.size w12 V := by rw [hV]; exact bl1 _ _
            replace st := st.below bV
            replace hvp12 := hvp12.below bV
            have lR := st.no.lt
            go_wp2_with fail
            rw [← hV]
            clear hV bV
            refine (refTurn_int _ v12 (m / 16 + 20 + 30 + 4 + 9 + 1) b z.1 z.2 hvp12 (by omega) (by have := unhide HV12; omega) (by have := unhide HV12; omega) (by omega) (by omega)).mono ?_
            rintro r w13 ⟨v13, rfl, hvb13, hvp13, hb13⟩
            rw [unhide HV12, show (m : Int) - (b : Int) = ((48 : Nat) : Int) by have := unhide HM; omega, downZ_nat, downZ_nat] at hvp13
            replace st := st.below hb13
            have HV13 := hide hvb13
            clear hb13 hvb13
            have hd4 := (unhide HDA).1
            have hd5 := (unhide HDA).2.2.2
            have hd6 := unhide HKB
            have hvf : SpAt w13 v13 (b / 16 + 10) (downI z 48).1 (downI z 48).2 := SpAt.fits (k := m / 16 + 20 + 30 + 4 + 9 + 1 + 62505) hvp13 (unhide HZI).le (by omega) (by omega)
            have hBf := st.be
            obtain ⟨q0, q1, q2, q3, q4, q5⟩ := st.no
            clear hvp13 hd4 hd5 hd6 st
            go_wp2_with fail
            refine bodyPost_ret (v := .agg #[.bool v13.ln, .slice v13.la v13.lN v13.lc, .bool v13.hn, .slice v13.ha v13.hN v13.hc, .int .i64 v13.bits]) (by simp [results, Try.results111, go_sem, q0, q1, q2, q3, q4]) rfl ⟨downI z 48, _, unhide HZL, unhide HZI, unhide HDA, v13, rfl, unhide HV13, ?_, ?_⟩
            · exact SpAt.put5 hvf q0 q1 q2 q3 q4 _ _ _ _ _
            · exact set5 hBf (by omega) _ _ _ _ _
end Go.Proofs.Ytgmnknmjainabab
namespace Go.Proofs.Ytgmnknmjainabab
open Go.RowKit
attribute [local go_sem ↓] Go.wp_at_zero Go.wp_at_succ
open Ex
theorem refRatio_z {b : Nat} (z : Int) (hz : z = (b : Int)) (x y : Nm) (k k2 : Nat) (n d : Int) (w : World) (h1 : IntAt w x.neg x.a x.n x.cap k n) (h2 : IntAt w y.neg y.a y.n y.cap k2 d) (hk : k ≤ 600000000) (hk2 : k2 ≤ 100000000) (hb : b ≤ 100000) (hy : 0 < d) :
    Calls Try.prog 52 #[.agg #[.bool x.neg, .slice x.a x.n x.cap], .agg #[.bool y.neg, .slice y.a y.n y.cap], .int .i64 z] w (SpanAns w b (k + b / 16 + 14) (ofI n d b).1 (ofI n d b).2) := by
  subst hz; exact refRatio_any x y k k2 b n d w h1 h2 hk hk2 hb hy
end Go.Proofs.Ytgmnknmjainabab
namespace Go.Proofs.Ytgmnknmjainabab
open Go.RowKit
attribute [local go_sem ↓] Go.wp_at_zero Go.wp_at_succ
open Ex
theorem lm_fitOk {n d : Int} {x m k : Nat} {s : LmSt} (o : LmOk n d x m k s) (hm : m ≤ 1000) : s.T.2 < P 100 ∧ s.U.2 < P 100 ∧ -P 100 < s.T.1 ∧ -P 100 < s.U.1 := by
  have h1 := Q_mono (show m + 128 + 1 ≤ 16 * 100 by omega)
  have h2 := Q_pos (m + 128)
  have h3 : Q (m + 128 + 1) = 2 * Q (m + 128) := rfl
  rw [Q_P] at h1
  have := o.us
  have := o.tu
  have := o.t0
  have := o.u1
  omega
theorem lm_great {n d : Int} {x m k : Nat} (hg : Q (m + 128) ≤ (addI (lmS n d x m k).U (lmT n d x k (lmS n d x m k).T)).2) : lmS n d x m (k + 1) = ⟨scaleI (lmT n d x k (lmS n d x m k).T) 1 (Q 64), scaleI (addI (lmS n d x m k).U (lmT n d x k (lmS n d x m k).T)) 1 (Q 64), (lmS n d x m k).e + 1⟩ := by
  show lmNext n d x m k (lmS n d x m k) = _
  unfold lmNext
  rw [if_pos hg]
theorem lm_little {n d : Int} {x m k : Nat} (hg : ¬ Q (m + 128) ≤ (addI (lmS n d x m k).U (lmT n d x k (lmS n d x m k).T)).2) : lmS n d x m (k + 1) = ⟨lmT n d x k (lmS n d x m k).T, addI (lmS n d x m k).U (lmT n d x k (lmS n d x m k).T), (lmS n d x m k).e⟩ := by
  show lmNext n d x m k (lmS n d x m k) = _
  unfold lmNext
  rw [if_neg hg]
theorem refLog_z {b : Nat} (z : Int) (hz : z = (b : Int)) (w : World) (x y : Nm) (k J : Nat) (n d : Int) (hx : IntAt w x.neg x.a x.n x.cap k n) (hy : IntAt w y.neg y.a y.n y.cap k d) (hk : k ≤ 10000000) (hb : b ≤ 50000) (hn : 0 < n) (hd : 0 < d) (hnk : n < P k) (hdk : 2 * d < P k) (hJ1 : d ≤ n * Q J) (hJ2 : n < d * Q (J + 1)) (hJ : J ≤ 1000) :
    Calls Try.prog 111 #[.agg #[.bool x.neg, .slice x.a x.n x.cap], .agg #[.bool y.neg, .slice y.a y.n y.cap], .int .i64 z] w (fun r w' => ∃ (lo hi : Int) (l : Nat → Rat), Ex.IsLog l (fun _ => (n : Rat) / (d : Rat)) ∧ (Iv b (lo, hi) l ∧ Abs (lo, hi) (3 * ((J : Int) + 1) * Q b)) ∧ SpanAns w b (b / 16 + 10) lo hi r w') := by
  subst hz
  exact (refLog_iv w x y k b J n d hx hy hk hb hn hd hnk hdk hJ1 hJ2 hJ).mono fun r w' ⟨o, l, h1, h2, h3, h4⟩ => ⟨o.1, o.2, l, h1, ⟨h2, h3⟩, h4⟩
structure LnW (w wr : World) (X Y : Nm) (n d : Int) (BU : Nat) (U : Sp) (m K : Nat) (c : Int × Int) : Prop where
  x : NmC wr w.heap.size X
  y : NmC wr (w.heap.size + 1) Y
  ix : IntAt wr X.neg X.a X.n X.cap 20 n
  iy : IntAt wr Y.neg Y.a Y.n Y.cap 20 d
  u : VrC wr BU U
  ub : U.bits = (m : Int)
  up : SpAt wr U K c.1 c.2
  r : NoC wr (w.heap.size + 1 + 1)
  be : Below w.heap.size w wr
  l2 : w.heap.size + 1 + 1 < BU
theorem LmW.ln {w wr : World} {X Y : Nm} {n d : Int} {BT BU BA : Nat} {T U : Sp} {A : Nm} {m k K : Nat} {a c : Int × Int} (h : LmW w wr X Y n d BT BU BA T U A m k K a c) : LnW w wr X Y n d BU U m K c := ⟨h.x, h.y, h.ix, h.iy, h.u, h.ub, h.up, h.r, h.be, h.l2⟩
theorem LnW.below {w wr : World} {X Y : Nm} {n d : Int} {BU : Nat} {U : Sp} {m K : Nat} {c : Int × Int} (h : LnW w wr X Y n d BU U m K c) {wr' : World} (hb : Below wr.heap.size wr wr') : LnW w wr' X Y n d BU U m K c :=
  ⟨h.x.below hb, h.y.below hb, h.ix.below hb, h.iy.below hb, h.u.below hb, h.ub, h.up.below hb, h.r.below hb, bthen h.be hb, h.l2⟩
theorem LnW.putU {w wr : World} {X Y : Nm} {n d : Int} {BU : Nat} {U : Sp} {m K : Nat} {c : Int × Int} (h : LnW w wr X Y n d BU U m K c) {U' : Sp} {K' : Nat} {c' : Int × Int} (hb : U'.bits = (m : Int)) (hp : SpAt wr U' K' c'.1 c'.2) : LnW w (put5w wr BU U') X Y n d BU U' m K' c' :=
  have l2 := h.l2
  ⟨h.x.offP (by omega) _, h.y.offP (by omega) _, h.ix.put h.u.c _, h.iy.put h.u.c _, h.u.put _, hb, hp.put h.u.c _, h.r.off (by omega) _, set5 h.be (by omega) _ _ _ _ _, h.l2⟩
theorem NmC.offH {w : World} {B B' : Nat} {x : Nm} (h : NmC w B x) (hne : B ≠ B') (u0 u1 : Value) : NmC ((w.setCell ⟨B', 2, none⟩ u0).setCell ⟨B', 3, none⟩ u1) B x := by
  obtain ⟨q0, q1⟩ := h
  exact ⟨by simp [go_sem, q0, hne, Ne.symm hne], by simp [go_sem, q1, hne, Ne.symm hne]⟩
theorem LnW.putH {w wr : World} {X Y : Nm} {n d : Int} {BU : Nat} {U : Sp} {m K : Nat} {c : Int × Int} (h : LnW w wr X Y n d BU U m K c) {H : Nm} {z : Int} {K' : Nat} (hK : K ≤ K') (hp : IntAt wr H.neg H.a H.n H.cap K' z) : LnW w ((wr.setCell ⟨BU, 2, none⟩ (.bool H.neg)).setCell ⟨BU, 3, none⟩ (.slice H.a H.n H.cap)) X Y n d BU ⟨U.ln, U.la, U.lN, U.lc, H.neg, H.a, H.n, H.cap, U.bits⟩ m K' (c.1, z) :=
  have l2 := h.l2
  ⟨h.x.offH (by omega) _ _, h.y.offH (by omega) _ _, h.ix.putH h.u.c.c2 h.u.c.c3 _ _, h.iy.putH h.u.c.c2 h.u.c.c3 _ _, sp_putHi h.u H, h.ub, ⟨(h.up.lo.mono hK).putH h.u.c.c2 h.u.c.c3 _ _, hp.putH h.u.c.c2 h.u.c.c3 _ _⟩, h.r.offH (by omega) _ _, (h.be.setCell (p := ⟨BU, 2, none⟩) (by show w.heap.size ≤ BU; omega) _).setCell (p := ⟨BU, 3, none⟩) (by show w.heap.size ≤ BU; omega) _, h.l2⟩
theorem lg_end {L : Rat → Nat → Rat} (hL : Lns L) {n d : Int} {b x K : Nat} (h : LmIn n d b x) (hK : 2 * x < K) (hK2 : K ≤ 25000) (hT : (lmS n d x (b + 128) K).T.2 ≤ 1) {g X l1 l2 l3 l4 : Nat → Rat} {a1 b1 a2 b2 a3 b3 a4 b4 : Int} (hg : IsGam L ((n : Rat) / (d : Rat)) g) (hX : IsLog X g)
    (g1 : IsLog l1 (fun _ => (lmL (lmS n d x (b + 128) K).U : Rat) / (Q (b + 128) : Rat))) (g2 : IsLog l2 (fun _ => (lmH (b + 128) (lmS n d x (b + 128) K).e (lmS n d x (b + 128) K).U : Rat) / (Q (b + 128) : Rat))) (g3 : IsLog l3 (fun _ => ((2 : Int) : Rat) / ((1 : Int) : Rat))) (g4 : IsLog l4 (fun _ => ((x : Int) : Rat) / ((1 : Int) : Rat)))
    (i1 : Iv (b + 40) (a1, b1) l1) (i2 : Iv (b + 40) (a2, b2) l2) (i3 : Iv (b + 40) (a3, b3) l3) (i4 : Iv (b + 40) (a4, b4) l4) : Iv b (downI (lgR (b + 40) n d ((64 * (lmS n d x (b + 128) K).e : Nat) : Int) (x : Int) (a1, b1) (a2, b2) (a3, b3) (a4, b4)) 40) X := by
  have inv1 : (1 : Rat)⁻¹ = 1 := by decide +kernel
  have e3 : ((2 : Int) : Rat) / ((1 : Int) : Rat) = 2 := by decide +kernel
  have e4 : ((x : Int) : Rat) / ((1 : Int) : Rat) = (x : Rat) := by
    have e1 : ((1 : Int) : Rat) = 1 := rfl
    have e2 : ((x : Int) : Rat) = (x : Rat) := rfl
    rw [e1, e2, Rat.div_def, inv1, Rat.mul_one]
  rw [e3] at g3
  rw [e4] at g4
  have x0 : (0 : Rat) < (x : Rat) := by exact_mod_cast (show 0 < x by have := h.xb; omega)
  obtain ⟨low, up⟩ := lm_log hL h rfl hK hK2 hT hg hX g1 g2 g3
  exact (lgR_has h.d0 i1 i2 i3 (i4.congr ((hL _ x0).uniq g4)) low up).to
theorem lm_lg {n d : Int} {x b k : Nat} {s : LmSt} (o : LmOk n d x (b + 128) k s) (hb0 : 8 ≤ b) (hb : b ≤ 400) : 0 < lmL s.U ∧ 0 < Q (b + 128) ∧ lmL s.U < P 110 ∧ 2 * Q (b + 128) < P 110 ∧ Q (b + 128) ≤ lmL s.U * Q (b + 128) ∧ lmL s.U < Q (b + 128) * Q (b + 128 + 1) ∧ 0 < lmH (b + 128) s.e s.U ∧ lmH (b + 128) s.e s.U < P 110 ∧ Q (b + 128) ≤ lmH (b + 128) s.e s.U * Q (b + 128) ∧ lmH (b + 128) s.e s.U < Q (b + 128) * Q (b + 128 + 1) := by
  have u1 := o.u1
  have ul := o.ul
  have us := o.us
  have q := Q_pos (b + 128)
  have qe := Q_pos (64 * s.e)
  have q1 := Q_pos (b + 128 + 1)
  have c0 : 0 ≤ -(-(Q (b + 128 + 1)) / Q (64 * s.e)) ∧ -(-(Q (b + 128 + 1)) / Q (64 * s.e)) ≤ Q (b + 128 + 1) := by
    have m := Int.mul_le_mul_of_nonneg_left qe (show 0 ≤ Q (b + 128 + 1) by omega)
    have r := round_abs (x := Q (b + 128 + 1)) (m := Q (b + 128 + 1)) (q := Q (64 * s.e)) (by omega) (by omega) (by omega)
    have c := dv_ceil (Q (b + 128 + 1)) (show 0 < Q (64 * s.e) by omega)
    refine ⟨Int.not_lt.1 fun hn => ?_, r.2.2.2⟩
    have := Int.mul_le_mul_of_nonneg_right (show -(-(Q (b + 128 + 1)) / Q (64 * s.e)) ≤ -1 by omega) (show 0 ≤ Q (64 * s.e) by omega)
    omega
  have eL : lmL s.U = s.U.1 - 2 := rfl
  have eH : lmH (b + 128) s.e s.U = s.U.2 + 2 + -(-(Q (b + 128 + 1)) / Q (64 * s.e)) := rfl
  have m1 := Q_mono (show b + 128 + 128 + 2 ≤ b + 128 + (b + 128 + 1) by omega)
  rw [Q_add (b + 128) (b + 128 + 1)] at m1
  have m2 := Q_mono (show b + 128 + (b + 128 + 1) ≤ 16 * 110 by omega)
  rw [Q_P, Q_add (b + 128) (b + 128 + 1)] at m2
  have m3 := Q_mono (show b + 128 + 1 ≤ b + 128 + 128 by omega)
  have e2 : Q (b + 128 + 128 + 2) = 4 * Q (b + 128 + 128) := by
    have e := Q_add (b + 128 + 128) 2
    have e4 : Q 2 = 4 := rfl
    rw [e4] at e; omega
  have e3 : Q (b + 128 + 1) = 2 * Q (b + 128) := rfl
  have k1 := Int.mul_le_mul_of_nonneg_right (show 1 ≤ lmL s.U by omega) (show 0 ≤ Q (b + 128) by omega)
  have k2 := Int.mul_le_mul_of_nonneg_right (show 1 ≤ lmH (b + 128) s.e s.U by omega) (show 0 ≤ Q (b + 128) by omega)
  refine ⟨by omega, by omega, by omega, by omega, by omega, by omega, by omega, by omega, by omega, by omega⟩
theorem lm_x4 {z : Int} (h0 : 0 < z) (h1 : z ≤ 1300) : z < P 4 ∧ 1 ≤ z * Q 11 ∧ z < 1 * Q (11 + 1) := by
  have e1 : P 4 = 18446744073709551616 := by decide +kernel
  have e2 : Q 11 = 2048 := rfl
  have e3 : Q (11 + 1) = 4096 := rfl
  rw [e1, e2, e3]
  omega
namespace Ex
theorem ex1_le (M : Nat) : ex 1 M ≤ 3 := by
  have key : ∀ m : Nat, E 1 (m + 2) ≤ 3 - tm 1 (m + 1) := fun m => by
    induction m with
    | zero => decide +kernel
    | succ m ih =>
      have e : E 1 (m + 1 + 2) = E 1 (m + 2) + tm 1 (m + 2) := rfl
      have s := tm_succ 1 (m + 1)
      have p : (0 : Rat) ≤ tm 1 (m + 2) := tm_nonneg (by grind) _
      have c : (((m + 1 : Nat) : Rat) + 1) = (m : Rat) + 2 := by push_cast; grind
      have m0 : (0 : Rat) ≤ (m : Rat) := by exact_mod_cast Nat.zero_le m
      rw [c] at s
      have q := Rat.mul_le_mul_of_nonneg_right (show (2 : Rat) ≤ (m : Rat) + 2 by grind) p
      rw [e]
      show E 1 (m + 2) + tm 1 (m + 2) ≤ 3 - tm 1 (m + 2)
      grind
  match M with
  | 0 => decide +kernel
  | 1 => decide +kernel
  | m + 2 =>
    have p : (0 : Rat) ≤ tm 1 (m + 1) := tm_nonneg (by grind) _
    have := key m
    show E 1 (m + 2) ≤ 3
    grind
theorem ex_four (n : Nat) : LeN (ex (n : Rat)) (fun _ => (Q (2 * n) : Rat)) := by
  induction n with
  | zero =>
    refine LeN.of_le 1 fun M hM => ?_
    obtain ⟨m, rfl⟩ : ∃ m, M = m + 1 := ⟨M - 1, by omega⟩
    have : ex ((0 : Nat) : Rat) (m + 1) = 1 := E_zero m
    rw [this]
    exact Rat.le_refl
  | succ n ih =>
    have c : ((n + 1 : Nat) : Rat) = (n : Rat) + 1 := by push_cast; rfl
    rw [c]
    have s := ex_add (n : Rat) 1
    have l : LeN (ex 1) (fun _ => 3) := LeN.of_le 0 fun M _ => ex1_le M
    have q0 := Qr_pos (2 * n)
    have m := ih.mul l (ex_bdd 1) (ex_nn 1) (Bdd.const _) (Nn.const (Rat.le_of_lt q0))
    refine (LeN.of_eqN s.symm).trans (m.trans (LeN.of_le 0 fun M _ => ?_))
    have e : Q (2 * (n + 1)) = 4 * Q (2 * n) := by
      have h1 := Q_add (2 * n) 2
      have h2 : Q 2 = 4 := rfl
      have h3 : 2 * n + 2 = 2 * (n + 1) := by omega
      rw [h2, h3] at h1; omega
    rw [e, Rat.intCast_mul]
    have c4 : ((4 : Int) : Rat) = 4 := rfl
    rw [c4]
    generalize (Q (2 * n) : Rat) = y at *
    grind
end Ex
theorem leN_cst {a b : Rat} (h : LeN (fun _ => a) (fun _ => b)) : a ≤ b := by
  refine Rat.not_lt.1 fun hlt => ?_
  obtain ⟨N, k⟩ := h ((a - b) / 2) (by grind)
  have := k N (Nat.le_refl _)
  grind
theorem lm_eb {n d : Int} {b x K : Nat} (h : LmIn n d b x) (hK : 2 * x < K) (hK2 : K ≤ 25000) (hT : (lmS n d x (b + 128) K).T.2 ≤ 1) : 64 * (lmS n d x (b + 128) K).e ≤ b + 128 + 2 * x + 22 := by
  obtain ⟨s1, s2⟩ := lm_span (m := b + 128) h hK hT
  have ok := lm_all (m := b + 128) h rfl K hK2
  obtain ⟨s, hs⟩ : ∃ s, s = lmS n d x (b + 128) K := ⟨_, rfl⟩
  rw [← hs] at s1 ok ⊢
  have nr : (0 : Rat) < (n : Rat) := by exact_mod_cast h.n0
  have dr : (0 : Rat) < (d : Rat) := by exact_mod_cast h.d0
  have a0 := rdiv_pos nr dr
  have x0 : (0 : Rat) ≤ (x : Rat) := by exact_mod_cast Nat.zero_le x
  have Qe := Qr_pos (64 * s.e)
  have Qm := Qr_pos (b + 128)
  have hq := h64_mul s.e
  have hp : 0 < h64 s.e := rdiv_pos (by grind) Qe
  have l1 : LeN (fun _ => (n : Rat) / (d : Rat) * ((lmL s.U : Rat) / (Q (b + 128) : Rat))) (fun _ => h64 s.e * (Q (2 * x) : Rat)) := by
    refine ((s1.cmul (c := (n : Rat) / (d : Rat)) (Rat.le_of_lt a0)).trans ?_)
    refine LeN.trans (LeN.of_le 0 fun M _ => ?_) ((ex_four x).cmul (c := h64 s.e) (Rat.le_of_lt hp))
    have u := uS_E a0 x0 M
    have m := Rat.mul_le_mul_of_nonneg_left u (Rat.le_of_lt hp)
    show (n : Rat) / (d : Rat) * (h64 s.e * uS ((n : Rat) / (d : Rat)) (x : Rat) M) ≤ h64 s.e * E (x : Rat) M
    grind
  have k := leN_cst l1
  have k2 := Rat.mul_le_mul_of_nonneg_right k (Rat.le_of_lt (Rat.mul_pos (Rat.mul_pos dr Qm) Qe))
  have dm := rdm (a := (n : Rat)) dr
  have dl := rdm (a := (lmL s.U : Rat)) Qm
  have k3 : (n : Rat) * (lmL s.U : Rat) * (Q (64 * s.e) : Rat) ≤ (Q (2 * x) : Rat) * ((d : Rat) * (Q (b + 128) : Rat)) := by
    have r1 : (n : Rat) / (d : Rat) * ((lmL s.U : Rat) / (Q (b + 128) : Rat)) * ((d : Rat) * (Q (b + 128) : Rat) * (Q (64 * s.e) : Rat)) = (n : Rat) / (d : Rat) * (d : Rat) * ((lmL s.U : Rat) / (Q (b + 128) : Rat) * (Q (b + 128) : Rat)) * (Q (64 * s.e) : Rat) := by grind
    have r2 : h64 s.e * (Q (2 * x) : Rat) * ((d : Rat) * (Q (b + 128) : Rat) * (Q (64 * s.e) : Rat)) = h64 s.e * (Q (64 * s.e) : Rat) * ((Q (2 * x) : Rat) * ((d : Rat) * (Q (b + 128) : Rat))) := by grind
    rw [r1, r2, dm, dl, hq] at k2
    grind
  have k4 : n * lmL s.U * Q (64 * s.e) ≤ Q (2 * x) * (d * Q (b + 128)) := by exact_mod_cast k3
  have q1 := Q_pos (64 * s.e)
  have q2 := Q_pos (2 * x)
  have q3 := Q_pos (b + 128)
  have u1 := ok.u1
  have eL : lmL s.U = s.U.1 - 2 := rfl
  have n0 := h.n0
  have nl : 524288 ≤ n * lmL s.U := by
    have := Int.mul_le_mul_of_nonneg_right (show 1 ≤ n by omega) (show 0 ≤ lmL s.U by omega)
    omega
  have m1 := Int.mul_le_mul_of_nonneg_right nl (show 0 ≤ Q (64 * s.e) by omega)
  have m2 := Int.mul_le_mul_of_nonneg_left (Int.mul_le_mul_of_nonneg_right h.dd (show 0 ≤ Q (b + 128) by omega)) (show 0 ≤ Q (2 * x) by omega)
  refine Nat.not_lt.1 fun hlt => ?_
  have g := Q_mono (show b + 128 + 2 * x + 23 ≤ 64 * s.e by omega)
  have e1 : Q (b + 128 + 2 * x + 23) = Q (2 * x) * Q (b + 128) * 8388608 := by
    have h1 := Q_add (b + 128 + 2 * x) 23
    have h2 := Q_add (b + 128) (2 * x)
    have h3 : Q 23 = 8388608 := rfl
    rw [h1, h2, h3, Int.mul_comm (Q (b + 128))]
  have pp := Int.mul_pos (show 0 < Q (2 * x) by omega) (show 0 < Q (b + 128) by omega)
  have r1 : Q (2 * x) * (2199023255552 * Q (b + 128)) = 2199023255552 * (Q (2 * x) * Q (b + 128)) := by grind
  generalize Q (2 * x) * Q (b + 128) = y at *
  omega
theorem lg_abs {n d : Int} {b z e : Nat} (h : LmIn n d b z) (he : 64 * e ≤ b + 128 + 2 * z + 22) {a1 b1 a2 b2 a3 b3 a4 b4 zz : Int} (hz : (z : Int) = zz) (h1 : Abs (a1, b1) (3 * (((b + 128 : Nat) : Int) + 1) * Q (b + 40))) (h2 : Abs (a2, b2) (3 * (((b + 128 : Nat) : Int) + 1) * Q (b + 40))) (h3 : Abs (a3, b3) (3 * (((1 : Nat) : Int) + 1) * Q (b + 40))) (h4 : Abs (a4, b4) (3 * (((11 : Nat) : Int) + 1) * Q (b + 40))) :
    Abs (downI (subI (addI (addI (a1, b2) (byI (a3, b3) (64 * (e : Int)) 1)) (byI (a4, b4) n d)) (zz * Q (b + 40), zz * Q (b + 40))) 40) (30000 * Q b) := by
  have q := Q_pos (b + 40)
  have qb := Q_pos b
  have b1' := h.b1
  have z1 := h.x1
  have n0 := h.n0
  have d0 := h.d0
  have A3 := byI_abs (n := 64 * (e : Int)) (d := 1) (c := 64 * (e : Int)) (p := 19200 * Q (b + 40)) h3 (by decide) (by omega) (Int.le_refl _) (by
    have m := Int.mul_le_mul_of_nonneg_left (show 64 * (e : Int) ≤ 3200 by omega) (show 0 ≤ 3 * (((1 : Nat) : Int) + 1) * Q (b + 40) by omega)
    omega)
  have A4 := byI_abs (n := n) (d := d) (c := n) (p := 7236 * Q (b + 40)) h4 d0 (by omega) (Int.le_refl _) (by
    have m := Int.mul_le_mul_of_nonneg_left h.up (show 0 ≤ 3 * (((11 : Nat) : Int) + 1) * Q (b + 40) by omega)
    have r : 3 * (((11 : Nat) : Int) + 1) * Q (b + 40) * (201 * d) = 7236 * Q (b + 40) * d := by
      have : (((11 : Nat) : Int) + 1) = 12 := rfl
      rw [this]; grind
    omega)
  obtain ⟨x1, x2, x3, x4⟩ := h1
  obtain ⟨y1, y2, y3, y4⟩ := h2
  obtain ⟨s1, s2, s3, s4⟩ := A3
  obtain ⟨t1, t2, t3, t4⟩ := A4
  simp only [] at x1 x2 x3 x4 y1 y2 y3 y4
  have m1 := Int.mul_le_mul_of_nonneg_right (show 3 * (((b + 128 : Nat) : Int) + 1) ≤ 1587 by omega) (show 0 ≤ Q (b + 40) by omega)
  have m2 := Int.mul_le_mul_of_nonneg_right (show zz ≤ 1300 by omega) (show 0 ≤ Q (b + 40) by omega)
  have m3 := Int.mul_nonneg (show 0 ≤ zz by omega) (show 0 ≤ Q (b + 40) by omega)
  have e40 : Q (b + 40) = Q b * Q 40 := Q_add b 40
  obtain ⟨P, hP⟩ : ∃ P, P = subI (addI (addI (a1, b2) (byI (a3, b3) (64 * (e : Int)) 1)) (byI (a4, b4) n d)) (zz * Q (b + 40), zz * Q (b + 40)) := ⟨_, rfl⟩
  have p1 : P.1 = a1 + (byI (a3, b3) (64 * (e : Int)) 1).1 + (byI (a4, b4) n d).1 - zz * Q (b + 40) := by rw [hP]; rfl
  have p2 : P.2 = b2 + (byI (a3, b3) (64 * (e : Int)) 1).2 + (byI (a4, b4) n d).2 - zz * Q (b + 40) := by rw [hP]; rfl
  rw [← hP]
  have q40 := Q_pos 40
  have e3 : 30000 * Q b * Q 40 = 30000 * Q (b + 40) := by rw [e40]; grind
  have r1 := round_abs (x := P.1) (m := 30000 * Q b) (q := Q 40) (by omega) (by rw [e3]; omega) (by rw [e3]; omega)
  have r2 := round_abs (x := P.2) (m := 30000 * Q b) (q := Q 40) (by omega) (by rw [e3]; omega) (by rw [e3]; omega)
  exact ⟨r1.1, r1.2.1, r2.2.2.1, r2.2.2.2⟩
end Go.Proofs.Ytgmnknmjainabab
