/-
  Texts Balw, Stp: what they hold is told in the last text.
-/
import Derived.Test.YtgmnknmjainababGreatK17
set_option linter.unnecessarySimpa false
set_option linter.unusedSimpArgs false
set_option linter.unusedVariables false
namespace Go.Proofs.YtgmnknmjainababGreat
open Go.RowKit
attribute [local go_sem ↓] Go.wp_at_zero Go.wp_at_succ
def BalAns (w : World) (k : Nat) (n d : Int) (r : Ending) (w' : World) : Prop :=
  ∃ (X Y : Nm) (n' d' c : Int), r = .returned (.tuple #[.agg #[.bool X.neg, .slice X.a X.n X.cap], .agg #[.bool Y.neg, .slice Y.a Y.n Y.cap], .int .i64 c]) ∧ Bal n d n' d' c ∧ -(16 * k + 1) ≤ c ∧ c ≤ 16 * k + 1 ∧ IntAt w' X.neg X.a X.n X.cap (k + k + 20) n' ∧ IntAt w' Y.neg Y.a Y.n Y.cap (k + k + 20) d' ∧ Below w.heap.size w w'
theorem bal_near {n d : Int} {L L' : Nat} (h1 : Q L ≤ n) (h2 : n < Q (L + 1)) (h3 : Q L' ≤ d) (h4 : d < Q (L' + 1)) (a b : Nat) (hab : L + a = L' + b) : n * Q a < 2 * (d * Q b) ∧ d * Q b < 2 * (n * Q a) := by
  have qa := Q_pos a
  have qb := Q_pos b
  have e1 : Q L * Q a = Q L' * Q b := by rw [← Q_add, ← Q_add, hab]
  have e2 : Q (L + 1) = 2 * Q L := rfl
  have e3 : Q (L' + 1) = 2 * Q L' := rfl
  have g1 := Int.mul_le_mul_of_nonneg_right h1 (show 0 ≤ Q a by omega)
  have g2 := Int.mul_lt_mul_of_pos_right h2 (show 0 < Q a by omega)
  have g3 := Int.mul_le_mul_of_nonneg_right h3 (show 0 ≤ Q b by omega)
  have g4 := Int.mul_lt_mul_of_pos_right h4 (show 0 < Q b by omega)
  rw [e2, Int.mul_assoc] at g2
  rw [e3, Int.mul_assoc] at g4
  omega
theorem bal_a {n d n1 d1 c : Int} (hn : 0 < n1) (hd : 0 < d1) (h1 : 0 ≤ c → n * d1 = n1 * d * Q c.toNat) (h2 : c < 0 → n * d1 * Q (-c).toNat = n1 * d) (g1 : n1 < 2 * d1) (g2 : d1 < 2 * n1) (hc : d1 * 3 < n1 * 2) : Bal n d n1 (d1 * 2) (c + 1) := by
  refine ⟨⟨hn, by omega, by omega, by omega⟩, fun h => ?_, fun h => ?_⟩
  · by_cases h0 : 0 ≤ c
    · have e := h1 h0
      have : (c + 1).toNat = c.toNat + 1 := by omega
      rw [this]
      have e2 : Q (c.toNat + 1) = 2 * Q c.toNat := rfl
      rw [e2]
      have : n * (d1 * 2) = 2 * (n * d1) := by grind
      rw [this, e]; grind
    · have hc : c = -1 := by omega
      have e := h2 (by omega)
      subst hc
      have e3 : Q (-(-1 : Int)).toNat = 2 := rfl
      rw [e3] at e
      have e4 : Q ((-1 : Int) + 1).toNat = 1 := rfl
      rw [e4]
      have : n * (d1 * 2) = n * d1 * 2 := by grind
      rw [this, e]; grind
  · have e := h2 (by omega)
    have : (-c).toNat = (-(c + 1)).toNat + 1 := by omega
    rw [this] at e
    have e2 : Q ((-(c + 1)).toNat + 1) = 2 * Q (-(c + 1)).toNat := rfl
    rw [e2] at e
    rw [← e]; grind
theorem bal_b {n d n1 d1 c : Int} (hn : 0 < n1) (hd : 0 < d1) (h1 : 0 ≤ c → n * d1 = n1 * d * Q c.toNat) (h2 : c < 0 → n * d1 * Q (-c).toNat = n1 * d) (g1 : n1 < 2 * d1) (g2 : d1 < 2 * n1) (hc : n1 * 4 < d1 * 3) : Bal n d (n1 * 2) d1 (c - 1) := by
  refine ⟨⟨by omega, hd, by omega, by omega⟩, fun h => ?_, fun h => ?_⟩
  · have e := h1 (by omega)
    have : c.toNat = (c - 1).toNat + 1 := by omega
    rw [this] at e
    have e2 : Q ((c - 1).toNat + 1) = 2 * Q (c - 1).toNat := rfl
    rw [e2] at e
    rw [e]; grind
  · by_cases h0 : 0 ≤ c
    · have hc : c = 0 := by omega
      have e := h1 h0
      subst hc
      have e3 : Q ((0 : Int)).toNat = 1 := rfl
      rw [e3] at e
      have e4 : Q (-((0 : Int) - 1)).toNat = 2 := rfl
      rw [e4, e]; grind
    · have e := h2 (by omega)
      have : (-(c - 1)).toNat = (-c).toNat + 1 := by omega
      rw [this]
      have e2 : Q ((-c).toNat + 1) = 2 * Q (-c).toNat := rfl
      rw [e2]
      have : n * d1 * (2 * Q (-c).toNat) = 2 * (n * d1 * Q (-c).toNat) := by grind
      rw [this, e]; grind
theorem bal_c {n d n1 d1 c : Int} (hn : 0 < n1) (hd : 0 < d1) (h1 : 0 ≤ c → n * d1 = n1 * d * Q c.toNat) (h2 : c < 0 → n * d1 * Q (-c).toNat = n1 * d) (hc : ¬ d1 * 3 < n1 * 2) (hc2 : ¬ n1 * 4 < d1 * 3) : Bal n d n1 d1 c :=
  ⟨⟨hn, hd, by omega, by omega⟩, h1, h2⟩
theorem len_dig {w : World} {neg : Bool} {a : Option Addr} {n cap k : Nat} {z : Int} {L : Nat} (h : IntAt w neg a n cap k z) (hL : Q L ≤ z) (hz : 0 ≤ z) : L < 16 * k + 1 := by
  obtain ⟨d, h1, h2, h3, h4, h5⟩ := h
  have hV := V_lt h1.dgs n
  have hV0 := V_nonneg h1.dgs n
  have hP := P_mono h4
  have eP := Q_P k
  have hz2 : z < Q (16 * k) := by
    cases neg
    · simp [sgn] at h5; omega
    · simp [sgn] at h5; have := Q_pos (16 * k); omega
  refine Nat.lt_of_not_le fun h => ?_
  have := Q_mono (show 16 * k ≤ L by omega)
  omega
theorem up_at (neg : Bool) (a : Option Addr) (n cap : Nat) (κ : Int) (A k1 : Nat) (x : Int) (w : World) (hκ : κ = (A : Int)) (h1 : IntAt w neg a n cap k1 x) (hk1 : k1 ≤ 1000000000) (hk : A ≤ 1000000000) :
    Calls Tryz.prog 95 #[.agg #[.bool neg, .slice a n cap], .int .i64 κ] w (IntAns w (A / 16 + k1 + 1) (x * Q A)) := by
  subst hκ; exact up_int neg a n cap A k1 x w h1 hk1 hk
theorem bal_put {w wc w2 : World} {x y : Nm} {K : Nat} {z1 z2 : Int} (hD : Below wc.heap.size wc w2) (hx : NmC w2 w.heap.size x) (hy : NmC w2 (w.heap.size + 1) y) (X Y : Nm) (iX : IntAt w2 X.neg X.a X.n X.cap K z1) (iY : IntAt w2 Y.neg Y.a Y.n Y.cap K z2) (R : NoI wc (w.heap.size + 1 + 1)) (R2 : NoI wc (w.heap.size + 1 + 1 + 1)) (hB : Below w.heap.size w wc) :
    ∃ X' Y' : Nm, NmC ((((w2.setCell ⟨w.heap.size, 0, none⟩ (.bool X.neg)).setCell ⟨w.heap.size, 1, none⟩ (.slice X.a X.n X.cap)).setCell ⟨w.heap.size + 1, 0, none⟩ (.bool Y.neg)).setCell ⟨w.heap.size + 1, 1, none⟩ (.slice Y.a Y.n Y.cap)) w.heap.size X' ∧ NmC ((((w2.setCell ⟨w.heap.size, 0, none⟩ (.bool X.neg)).setCell ⟨w.heap.size, 1, none⟩ (.slice X.a X.n X.cap)).setCell ⟨w.heap.size + 1, 0, none⟩ (.bool Y.neg)).setCell ⟨w.heap.size + 1, 1, none⟩ (.slice Y.a Y.n Y.cap)) (w.heap.size + 1) Y' ∧ IntAt ((((w2.setCell ⟨w.heap.size, 0, none⟩ (.bool X.neg)).setCell ⟨w.heap.size, 1, none⟩ (.slice X.a X.n X.cap)).setCell ⟨w.heap.size + 1, 0, none⟩ (.bool Y.neg)).setCell ⟨w.heap.size + 1, 1, none⟩ (.slice Y.a Y.n Y.cap)) X'.neg X'.a X'.n X'.cap K z1 ∧ IntAt ((((w2.setCell ⟨w.heap.size, 0, none⟩ (.bool X.neg)).setCell ⟨w.heap.size, 1, none⟩ (.slice X.a X.n X.cap)).setCell ⟨w.heap.size + 1, 0, none⟩ (.bool Y.neg)).setCell ⟨w.heap.size + 1, 1, none⟩ (.slice Y.a Y.n Y.cap)) Y'.neg Y'.a Y'.n Y'.cap K z2 ∧ NoI ((((w2.setCell ⟨w.heap.size, 0, none⟩ (.bool X.neg)).setCell ⟨w.heap.size, 1, none⟩ (.slice X.a X.n X.cap)).setCell ⟨w.heap.size + 1, 0, none⟩ (.bool Y.neg)).setCell ⟨w.heap.size + 1, 1, none⟩ (.slice Y.a Y.n Y.cap)) (w.heap.size + 1 + 1) ∧ NoI ((((w2.setCell ⟨w.heap.size, 0, none⟩ (.bool X.neg)).setCell ⟨w.heap.size, 1, none⟩ (.slice X.a X.n X.cap)).setCell ⟨w.heap.size + 1, 0, none⟩ (.bool Y.neg)).setCell ⟨w.heap.size + 1, 1, none⟩ (.slice Y.a Y.n Y.cap)) (w.heap.size + 1 + 1 + 1) ∧ Below w.heap.size w ((((w2.setCell ⟨w.heap.size, 0, none⟩ (.bool X.neg)).setCell ⟨w.heap.size, 1, none⟩ (.slice X.a X.n X.cap)).setCell ⟨w.heap.size + 1, 0, none⟩ (.bool Y.neg)).setCell ⟨w.heap.size + 1, 1, none⟩ (.slice Y.a Y.n Y.cap)) := by
  have hy1 := hy.off (B' := w.heap.size) (by omega) (.bool X.neg) (.slice X.a X.n X.cap)
  have hx1 := put_nm2 hx X
  have i1 := iX.put2 hx.c0 hx.c1 (.bool X.neg) (.slice X.a X.n X.cap)
  have i2 := iY.put2 hx.c0 hx.c1 (.bool X.neg) (.slice X.a X.n X.cap)
  have r1 := (R.below hD).off (B' := w.heap.size) (by omega) (.bool X.neg) (.slice X.a X.n X.cap)
  have r2 := (R2.below hD).off (B' := w.heap.size) (by omega) (.bool X.neg) (.slice X.a X.n X.cap)
  have b1 := set2 (bthen hB hD) (Nat.le_refl _) (.bool X.neg) (.slice X.a X.n X.cap)
  generalize (w2.setCell ⟨w.heap.size, 0, none⟩ (.bool X.neg)).setCell ⟨w.heap.size, 1, none⟩ (.slice X.a X.n X.cap) = V at *
  exact ⟨X, Y, hx1.off (by omega) _ _, put_nm2 hy1 Y, i1.put2 hy1.c0 hy1.c1 _ _, i2.put2 hy1.c0 hy1.c1 _ _, r1.off (by omega) _ _, r2.off (by omega) _ _, set2 b1 (Nat.le_succ _) _ _⟩
theorem cmp_gtB (x y : Int) : decide (0 < cmpInt x y) = decide (y < x) := by
  unfold cmpInt
  by_cases h1 : x < y
  · have : ¬ y < x := by omega
    simp [h1, this]
  · by_cases h2 : y < x
    · simp [h1, h2]
    · simp [h1, h2]
theorem cmp_ltB (x y : Int) : decide (cmpInt x y < 0) = decide (x < y) := by
  unfold cmpInt
  by_cases h1 : x < y
  · simp [h1]
  · by_cases h2 : y < x
    · simp [h1, h2]
    · simp [h1, h2]
theorem bal_end {w w1 : World} {X Y : Nm} {K : Nat} {z1 z2 : Int} (R : NoI w1 (w.heap.size + 1 + 1)) (R2 : NoI w1 (w.heap.size + 1 + 1 + 1)) (iX : IntAt w1 X.neg X.a X.n X.cap K z1) (iY : IntAt w1 Y.neg Y.a Y.n Y.cap K z2) (hB : Below w.heap.size w w1) :
    IntAt ((((w1.setCell ⟨w.heap.size + 1 + 1, 0, none⟩ (.bool X.neg)).setCell ⟨w.heap.size + 1 + 1, 1, none⟩ (.slice X.a X.n X.cap)).setCell ⟨w.heap.size + 1 + 1 + 1, 0, none⟩ (.bool Y.neg)).setCell ⟨w.heap.size + 1 + 1 + 1, 1, none⟩ (.slice Y.a Y.n Y.cap)) X.neg X.a X.n X.cap K z1 ∧ IntAt ((((w1.setCell ⟨w.heap.size + 1 + 1, 0, none⟩ (.bool X.neg)).setCell ⟨w.heap.size + 1 + 1, 1, none⟩ (.slice X.a X.n X.cap)).setCell ⟨w.heap.size + 1 + 1 + 1, 0, none⟩ (.bool Y.neg)).setCell ⟨w.heap.size + 1 + 1 + 1, 1, none⟩ (.slice Y.a Y.n Y.cap)) Y.neg Y.a Y.n Y.cap K z2 ∧ Below w.heap.size w ((((w1.setCell ⟨w.heap.size + 1 + 1, 0, none⟩ (.bool X.neg)).setCell ⟨w.heap.size + 1 + 1, 1, none⟩ (.slice X.a X.n X.cap)).setCell ⟨w.heap.size + 1 + 1 + 1, 0, none⟩ (.bool Y.neg)).setCell ⟨w.heap.size + 1 + 1 + 1, 1, none⟩ (.slice Y.a Y.n Y.cap)) := by
  have r2 := R2.off (B' := w.heap.size + 1 + 1) (by omega) (.bool X.neg) (.slice X.a X.n X.cap)
  have i1 := iX.put2 R.c0 R.c1 (.bool X.neg) (.slice X.a X.n X.cap)
  have i2 := iY.put2 R.c0 R.c1 (.bool X.neg) (.slice X.a X.n X.cap)
  have b1 := set2 hB (show w.heap.size ≤ w.heap.size + 1 + 1 by omega) (.bool X.neg) (.slice X.a X.n X.cap)
  generalize (w1.setCell ⟨w.heap.size + 1 + 1, 0, none⟩ (.bool X.neg)).setCell ⟨w.heap.size + 1 + 1, 1, none⟩ (.slice X.a X.n X.cap) = V at *
  exact ⟨i1.put2 r2.c0 r2.c1 _ _, i2.put2 r2.c0 r2.c1 _ _, set2 b1 (by omega) _ _⟩
set_option maxRecDepth 100000 in
set_option maxHeartbeats 4000000 in
theorem balanced_int (w : World) (x y : Nm) (k : Nat) (n d : Int) (hx : IntAt w x.neg x.a x.n x.cap k n) (hy : IntAt w y.neg y.a y.n y.cap k d) (hn : 0 < n) (hd : 0 < d) (hk : k ≤ 1000000) :
    Calls Tryz.prog 166 #[.agg #[.bool x.neg, .slice x.a x.n x.cap], .agg #[.bool y.neg, .slice y.a y.n y.cap]] w (BalAns w k n d) := by
  obtain ⟨W, hW⟩ : ∃ W, W = (((w.alloc (.cells #[.bool x.neg, .slice x.a x.n x.cap] 26)).alloc (.cells #[.bool y.neg, .slice y.a y.n y.cap] 26)).alloc (.cells #[.bool false, .slice none 0 0] 26)).alloc (.cells #[.bool false, .slice none 0 0] 26) := ⟨_, rfl⟩
  have hBW : Below w.heap.size w W := by rw [hW]; exact bl4 _ _ _ _ _
  have X : NmC W w.heap.size x := by rw [hW]; exact ⟨by simp [go_sem], by simp [go_sem]⟩
  have FX : ∀ o, W.frozen? ⟨w.heap.size, o, none⟩ = false := by rw [hW]; intro o; simp [go_sem]
  have Y : NmC W (w.heap.size + 1) y := by rw [hW]; exact ⟨by simp [go_sem], by simp [go_sem]⟩
  have FY : ∀ o, W.frozen? ⟨w.heap.size + 1, o, none⟩ = false := by rw [hW]; intro o; simp [go_sem]
  have R : NoI W (w.heap.size + 1 + 1) := by rw [hW]; exact ⟨by simp [go_sem], by simp [go_sem], fun o => by simp [go_sem]⟩
  have R2 : NoI W (w.heap.size + 1 + 1 + 1) := by rw [hW]; exact ⟨by simp [go_sem], by simp [go_sem], fun o => by simp [go_sem]⟩
  have HX := hide (hx.below hBW)
  have HY := hide (hy.below hBW)
  have lX := X.lt
  have lY := Y.lt
  have lR := R.lt
  have lR2 := R2.lt
  have HK := hide (show ∀ w', Below W.heap.size W w' → (w'.cell? ⟨w.heap.size, 0, none⟩ = some (.bool x.neg) ∧ w'.cell? ⟨w.heap.size, 1, none⟩ = some (.slice x.a x.n x.cap) ∧ w'.cell? ⟨w.heap.size + 1, 0, none⟩ = some (.bool y.neg) ∧ w'.cell? ⟨w.heap.size + 1, 1, none⟩ = some (.slice y.a y.n y.cap)) from fun w' hB => ⟨(X.below hB).c0, (X.below hB).c1, (Y.below hB).c0, (Y.below hB).c1⟩)
  go_enter Tryz.func166, Tryz.ntmps166
  go_wp2
  rw [← hW]
  clear hW hx hy
  obtain ⟨x0, x1, x2, x3⟩ := unhide HK _ (Below.refl _ _)
  have hD0 : Below W.heap.size W W.drew := (Below.refl _ _).drew
  go_cut [7] (fun p wx => ∃ (L L' : Nat) (D : Int), p = .int .i64 D ∧ D = (L : Int) - (L' : Int) ∧ Q L ≤ n ∧ n < Q (L + 1) ∧ Q L' ≤ d ∧ d < Q (L' + 1) ∧ L < 16 * k + 1 ∧ L' < 16 * k + 1 ∧ Below W.heap.size W wx)
  case first =>
    go_region_held3 (fun w' => w'.cell? ⟨w.heap.size, 0, none⟩ = some (.bool x.neg) ∧ w'.cell? ⟨w.heap.size, 1, none⟩ = some (.slice x.a x.n x.cap) ∧ w'.cell? ⟨w.heap.size + 1, 0, none⟩ = some (.bool y.neg) ∧ w'.cell? ⟨w.heap.size + 1, 1, none⟩ = some (.slice y.a y.n y.cap)) (first | exact unhide HK _ (by first | with_reducible exact hD0 | with_reducible exact hD2 | with_reducible exact hD1) | go_keep)
      (first
        | (go_at_call 120; have hq := hD1; refine (len_int _ _ _ _ _ d _ ((unhide HY).below hD1) (by omega)).mono ?_; rintro r' w2 ⟨l2, hlen2, rfl, hb2⟩; have hD2 := bthen hD1 hb2)
        | (go_at_call 120; refine (len_int _ _ _ _ _ n _ ((unhide HX).below hD0) (by omega)).mono ?_; rintro r' w1 ⟨l1, hlen1, rfl, hb1⟩; have hD1 := bthen hD0 hb1))
    all_goals
      obtain ⟨L, e1, e2, e3⟩ := hlen1.2.2 hn
      obtain ⟨L', f1, f2, f3⟩ := hlen2.2.2 hd
      have hL := len_dig (unhide HX) e2 (by omega)
      have hL' := len_dig (unhide HY) f2 (by omega)
      have HE := hide e1
      have HF := hide f1
      clear e1 f1
      go_wp2_with fail
      go_meet
      exact ⟨L, L', _, rfl, (by rw [i64_id _ (by have := unhide HE; have := unhide HF; omega) (by have := unhide HE; have := unhide HF; omega)]; have := unhide HE; have := unhide HF; omega), e2, e3, f2, f3, hL, hL', hD2⟩
  case rest =>
  obtain ⟨L, L', D, rfl, hD, e2, e3, f2, f3, hL, hL', hb0⟩ := hcut
  have hbal := bal_near e2 e3 f2 f3
  have HBAL := hide hbal
  clear hbal e2 e3 f2 f3 x0 x1 x2 x3 hD0
  replace X := X.below hb0
  replace Y := Y.below hb0
  replace R := R.below hb0
  replace R2 := R2.below hb0
  have FX0 : ∀ o, wc.frozen? ⟨w.heap.size, o, none⟩ = false := fun o => (hb0.frozen (p := ⟨w.heap.size, o, none⟩) lX).trans (FX o)
  have FY0 : ∀ o, wc.frozen? ⟨w.heap.size + 1, o, none⟩ = false := fun o => (hb0.frozen (p := ⟨w.heap.size + 1, o, none⟩) lY).trans (FY o)
  replace HX := hide ((unhide HX).below hb0)
  replace HY := hide ((unhide HY).below hb0)
  replace hBW := bthen hBW hb0
  clear HK lX lY lR lR2 FX FY hb0
  have lX := X.lt
  have lY := Y.lt
  have lR := R.lt
  have lR2 := R2.lt
  obtain ⟨A, hA⟩ : ∃ A : Nat, (A : Int) = max 0 (-D) := ⟨(max 0 (-D)).toNat, by omega⟩
  obtain ⟨C, hC⟩ : ∃ C : Nat, (C : Int) = max 0 D := ⟨(max 0 D).toNat, by omega⟩
  have hwD : IntKind.i64.wrap (-D) = -D := i64_id _ (by omega) (by omega)
  have hDA : D ≤ 16 * k ∧ -(16 * k) ≤ D := by omega
  have hbal := unhide HBAL A C (by omega)
  have HA := hide hA
  have HC := hide hC
  have HD := hide hD
  have HW := hide hwD
  have HDA := hide hDA
  have hAk : A ≤ 16 * k := by omega
  have hCk : C ≤ 16 * k := by omega
  have HB2 := hide hbal
  clear hA hC hD hwD hDA HBAL hL hL' hbal
  go_wp2_with fail
  go_cut [7] (fun p wx => p = .int .i64 D ∧ ∃ X Y : Nm, NmC wx w.heap.size X ∧ NmC wx (w.heap.size + 1) Y ∧ IntAt wx X.neg X.a X.n X.cap (k + k + 10) (n * Q A) ∧ IntAt wx Y.neg Y.a Y.n Y.cap (k + k + 10) (d * Q C) ∧ NoI wx (w.heap.size + 1 + 1) ∧ NoI wx (w.heap.size + 1 + 1 + 1) ∧ Below w.heap.size w wx)
  case first =>
    have HXC := hide X
    have HYC := hide Y
    obtain ⟨x0, x1⟩ := X
    obtain ⟨y0, y1⟩ := Y
    have HZA := hide (show (if 0 < IntKind.i64.wrap (-D) then IntKind.i64.wrap (-D) else 0) = (A : Int) by rw [unhide HW]; have := unhide HA; split <;> omega)
    have HZC := hide (show (if 0 < D then D else 0) = (C : Int) by have := unhide HC; split <;> omega)
    by_cases d1 : 0 < D
    · have d2 : IntKind.i64.wrap (-D) ≤ 0 := by rw [unhide HW]; omega
      have HZA1 := hide (show (0 : Int) = (A : Int) by have := unhide HA; omega)
      have HZC1 := hide (show D = (C : Int) by have := unhide HC; omega)
      go_region_with
        (first
          | (go_at_call 95; have hq := hD1; (with_reducible refine (up_at _ _ _ _ _ C k d _ (by first | with_reducible exact unhide HZC1 | with_reducible exact unhide HZC) ((unhide HY).below hD1) (by omega) (by omega)).mono ?_); rintro r' w2 ⟨neg2, a2, n2, c2, rfl, hint2, hb2⟩; have hD2 := bthen hD1 hb2; have l2X := Nat.lt_of_lt_of_le lX hD2.size; have l2Y := Nat.lt_of_lt_of_le lY hD2.size; replace hint1 := hint1.below hb2; obtain ⟨x4, x5⟩ := (unhide HXC).below hD2; obtain ⟨y4, y5⟩ := (unhide HYC).below hD2; have F2 : ∀ o, w2.frozen? ⟨w.heap.size, o, none⟩ = false := (fun o => (hD2.frozen (p := ⟨w.heap.size, o, none⟩) lX).trans (FX0 o)); have G2 : ∀ o, w2.frozen? ⟨w.heap.size + 1, o, none⟩ = false := (fun o => (hD2.frozen (p := ⟨w.heap.size + 1, o, none⟩) lY).trans (FY0 o)))
          | (go_at_call 95; (with_reducible refine (up_at _ _ _ _ _ A k n _ (by first | with_reducible exact unhide HZA1 | with_reducible exact unhide HZA) ((unhide HX).below (Below.refl _ _).drew) (by omega) (by omega)).mono ?_); rintro r' w1 ⟨neg1, a1, n1, c1, rfl, hint1, hb1⟩; have hD1 : Below wc.heap.size wc w1 := bthen (Below.refl _ _).drew hb1; obtain ⟨y2, y3⟩ := (unhide HYC).below hD1; obtain ⟨x2, x3⟩ := (unhide HXC).below hD1; have l1X := Nat.lt_of_lt_of_le lX hD1.size; have l1Y := Nat.lt_of_lt_of_le lY hD1.size))
      all_goals
        go_wp2_with fail
        go_meet
        exact ⟨rfl, bal_put hD2 (NmC.mk x4 x5) (NmC.mk y4 y5) ⟨neg1, a1, n1, c1⟩ ⟨neg2, a2, n2, c2⟩ (hint1.mono (by omega)) (hint2.mono (by omega)) R R2 hBW⟩
    · by_cases d3 : D < 0
      · have d2 : 0 < IntKind.i64.wrap (-D) := by rw [unhide HW]; omega
        have d4 : D ≤ 0 := by omega
        have HZA1 := hide (show IntKind.i64.wrap (-D) = (A : Int) by rw [unhide HW]; have := unhide HA; omega)
        have HZC1 := hide (show (0 : Int) = (C : Int) by have := unhide HC; omega)
        go_region_with
          (first
            | (go_at_call 95; have hq := hD1; (with_reducible refine (up_at _ _ _ _ _ C k d _ (by first | with_reducible exact unhide HZC1 | with_reducible exact unhide HZC) ((unhide HY).below hD1) (by omega) (by omega)).mono ?_); rintro r' w2 ⟨neg2, a2, n2, c2, rfl, hint2, hb2⟩; have hD2 := bthen hD1 hb2; have l2X := Nat.lt_of_lt_of_le lX hD2.size; have l2Y := Nat.lt_of_lt_of_le lY hD2.size; replace hint1 := hint1.below hb2; obtain ⟨x4, x5⟩ := (unhide HXC).below hD2; obtain ⟨y4, y5⟩ := (unhide HYC).below hD2; have F2 : ∀ o, w2.frozen? ⟨w.heap.size, o, none⟩ = false := (fun o => (hD2.frozen (p := ⟨w.heap.size, o, none⟩) lX).trans (FX0 o)); have G2 : ∀ o, w2.frozen? ⟨w.heap.size + 1, o, none⟩ = false := (fun o => (hD2.frozen (p := ⟨w.heap.size + 1, o, none⟩) lY).trans (FY0 o)))
            | (go_at_call 95; (with_reducible refine (up_at _ _ _ _ _ A k n _ (by first | with_reducible exact unhide HZA1 | with_reducible exact unhide HZA) ((unhide HX).below (Below.refl _ _).drew) (by omega) (by omega)).mono ?_); rintro r' w1 ⟨neg1, a1, n1, c1, rfl, hint1, hb1⟩; have hD1 : Below wc.heap.size wc w1 := bthen (Below.refl _ _).drew hb1; obtain ⟨y2, y3⟩ := (unhide HYC).below hD1; obtain ⟨x2, x3⟩ := (unhide HXC).below hD1; have l1X := Nat.lt_of_lt_of_le lX hD1.size; have l1Y := Nat.lt_of_lt_of_le lY hD1.size))
        all_goals
          go_wp2_with fail
          go_meet
          exact ⟨rfl, bal_put hD2 (NmC.mk x4 x5) (NmC.mk y4 y5) ⟨neg1, a1, n1, c1⟩ ⟨neg2, a2, n2, c2⟩ (hint1.mono (by omega)) (hint2.mono (by omega)) R R2 hBW⟩
      · have d2 : IntKind.i64.wrap (-D) ≤ 0 := by rw [unhide HW]; omega
        have d4 : D ≤ 0 := by omega
        have HZA1 := hide (show (0 : Int) = (A : Int) by have := unhide HA; omega)
        have HZC1 := hide (show (0 : Int) = (C : Int) by have := unhide HC; omega)
        go_region_with
          (first
            | (go_at_call 95; have hq := hD1; (with_reducible refine (up_at _ _ _ _ _ C k d _ (by first | with_reducible exact unhide HZC1 | with_reducible exact unhide HZC) ((unhide HY).below hD1) (by omega) (by omega)).mono ?_); rintro r' w2 ⟨neg2, a2, n2, c2, rfl, hint2, hb2⟩; have hD2 := bthen hD1 hb2; have l2X := Nat.lt_of_lt_of_le lX hD2.size; have l2Y := Nat.lt_of_lt_of_le lY hD2.size; replace hint1 := hint1.below hb2; obtain ⟨x4, x5⟩ := (unhide HXC).below hD2; obtain ⟨y4, y5⟩ := (unhide HYC).below hD2; have F2 : ∀ o, w2.frozen? ⟨w.heap.size, o, none⟩ = false := (fun o => (hD2.frozen (p := ⟨w.heap.size, o, none⟩) lX).trans (FX0 o)); have G2 : ∀ o, w2.frozen? ⟨w.heap.size + 1, o, none⟩ = false := (fun o => (hD2.frozen (p := ⟨w.heap.size + 1, o, none⟩) lY).trans (FY0 o)))
            | (go_at_call 95; (with_reducible refine (up_at _ _ _ _ _ A k n _ (by first | with_reducible exact unhide HZA1 | with_reducible exact unhide HZA) ((unhide HX).below (Below.refl _ _).drew) (by omega) (by omega)).mono ?_); rintro r' w1 ⟨neg1, a1, n1, c1, rfl, hint1, hb1⟩; have hD1 : Below wc.heap.size wc w1 := bthen (Below.refl _ _).drew hb1; obtain ⟨y2, y3⟩ := (unhide HYC).below hD1; obtain ⟨x2, x3⟩ := (unhide HXC).below hD1; have l1X := Nat.lt_of_lt_of_le lX hD1.size; have l1Y := Nat.lt_of_lt_of_le lY hD1.size))
        all_goals
          go_wp2_with fail
          go_meet
          exact ⟨rfl, bal_put hD2 (NmC.mk x4 x5) (NmC.mk y4 y5) ⟨neg1, a1, n1, c1⟩ ⟨neg2, a2, n2, c2⟩ (hint1.mono (by omega)) (hint2.mono (by omega)) R R2 hBW⟩
  case rest =>
  obtain ⟨rfl, X, Y, hX, hY, iX, iY, R, R2, hBW⟩ := hcut
  have hQA := Q_pos A
  have hQC := Q_pos C
  have hnA : 0 < n * Q A := Int.mul_pos hn (by omega)
  have hdC : 0 < d * Q C := Int.mul_pos hd (by omega)
  obtain ⟨N1, hN1⟩ : ∃ N1, N1 = n * Q A := ⟨_, rfl⟩
  obtain ⟨D1, hD1⟩ : ∃ D1, D1 = d * Q C := ⟨_, rfl⟩
  have hm1 : 0 ≤ D → n * D1 = N1 * d * Q D.toNat := fun h => by
    have e1 : A = 0 := by have := unhide HA; omega
    have e2 : D.toNat = C := by have := unhide HC; omega
    rw [hN1, hD1, e1, e2]; simp only [Q]; grind
  have hm2 : D < 0 → n * D1 * Q (-D).toNat = N1 * d := fun h => by
    have e1 : C = 0 := by have := unhide HC; omega
    have e2 : (-D).toNat = A := by have := unhide HA; omega
    rw [hN1, hD1, e1, e2]; simp only [Q]; grind
  have HM1 := hide hm1
  have HM2 := hide hm2
  have HDA2 := unhide HDA
  have HB3 : Hid (N1 < 2 * D1 ∧ D1 < 2 * N1) := hide (by rw [hN1, hD1]; exact unhide HB2)
  rw [← hN1] at iX hnA
  rw [← hD1] at iY hdC
  clear hm1 hm2 HA HC HD HW HDA hQA hQC hN1 hD1 HB2
  have HIX := hide iX
  have HIY := hide iY
  have HXC := hide hX
  have HYC := hide hY
  have lX := hX.lt
  have lY := hY.lt
  have lR := R.lt
  have lR2 := R2.lt
  have HK := hide (show ∀ w', Below wc.heap.size wc w' → (w'.cell? ⟨w.heap.size, 0, none⟩ = some (.bool X.neg) ∧ w'.cell? ⟨w.heap.size, 1, none⟩ = some (.slice X.a X.n X.cap) ∧ w'.cell? ⟨w.heap.size + 1, 0, none⟩ = some (.bool Y.neg) ∧ w'.cell? ⟨w.heap.size + 1, 1, none⟩ = some (.slice Y.a Y.n Y.cap)) from fun w' hB => ⟨(hX.below hB).c0, (hX.below hB).c1, (hY.below hB).c0, (hY.below hB).c1⟩)
  clear iX iY hX hY
  obtain ⟨x0, x1, y0, y1⟩ := unhide HK _ (Below.refl _ _)
  have hD0 : Below wc.heap.size wc wc.drew := (Below.refl _ _).drew
  go_wp2_with fail
  go_cut [22] (fun p wx => p = .bool (decide (D1 * 3 < N1 * 2)) ∧ Below wc.heap.size wc wx)
  case first =>
    go_region_held3 (fun w' => w'.cell? ⟨w.heap.size, 0, none⟩ = some (.bool X.neg) ∧ w'.cell? ⟨w.heap.size, 1, none⟩ = some (.slice X.a X.n X.cap) ∧ w'.cell? ⟨w.heap.size + 1, 0, none⟩ = some (.bool Y.neg) ∧ w'.cell? ⟨w.heap.size + 1, 1, none⟩ = some (.slice Y.a Y.n Y.cap)) (first | exact unhide HK _ (by first | with_reducible exact hD0 | with_reducible exact hD4 | with_reducible exact hD3 | with_reducible exact hD2 | with_reducible exact hD1) | go_keep)
      (first
        | (go_at_call 46; have hq := hD3; refine (cmp_int _ _ _ _ _ _ _ _ _ _ (N1 * 2) (D1 * 3) _ ((hint1.below hb2).below hb3) hint3).mono ?_; rintro r' w4 ⟨rfl, hb4⟩; have hD4 := bthen hD3 hb4)
        | (go_at_call 66; have hq := hD2; refine (mul_int _ _ _ _ _ _ _ _ (k + k + 10) 4 D1 3 _ ((unhide HIY).below hD2) hint2 (by omega) (by omega)).mono ?_; rintro r' w3 ⟨neg3, a3, n3, c3, rfl, hint3, hb3⟩; have hD3 := bthen hD2 hb3)
        | (go_at_call 43; have hq := hD1; refine (numOf_int 3 _ (by decide) (by decide)).mono ?_; rintro r' w2 ⟨neg2, a2, n2, c2, rfl, hint2, hb2⟩; have hD2 := bthen hD1 hb2)
        | (go_at_call 95; refine (up_at _ _ _ _ _ 1 (k + k + 10) N1 _ rfl ((unhide HIX).below hD0) (by omega) (by omega)).mono ?_; rintro r' w1 ⟨neg1, a1, n1, c1, rfl, hint1, hb1⟩; have hD1 := bthen hD0 hb1))
    all_goals
      go_wp2_with fail
      go_meet
      exact ⟨congrArg _ (cmp_gtB _ _), hD4⟩
  case rest =>
  obtain ⟨rfl, hb1⟩ := hcut
  have HXC := hide ((unhide HXC).below hb1)
  have HYC := hide ((unhide HYC).below hb1)
  have HIX := hide ((unhide HIX).below hb1)
  have HIY := hide ((unhide HIY).below hb1)
  replace R := R.below hb1
  replace R2 := R2.below hb1
  replace hBW := bthen hBW hb1
  have lX := (unhide HXC).lt
  have lY := (unhide HYC).lt
  have lR := R.lt
  have lR2 := R2.lt
  have HK := hide (show ∀ w', Below wc.heap.size wc w' → (w'.cell? ⟨w.heap.size, 0, none⟩ = some (.bool X.neg) ∧ w'.cell? ⟨w.heap.size, 1, none⟩ = some (.slice X.a X.n X.cap) ∧ w'.cell? ⟨w.heap.size + 1, 0, none⟩ = some (.bool Y.neg) ∧ w'.cell? ⟨w.heap.size + 1, 1, none⟩ = some (.slice Y.a Y.n Y.cap)) from fun w' hB => ⟨((unhide HXC).below hB).c0, ((unhide HXC).below hB).c1, ((unhide HYC).below hB).c0, ((unhide HYC).below hB).c1⟩)
  clear x0 x1 y0 y1 hD0
  obtain ⟨x0, x1, y0, y1⟩ := unhide HK _ (Below.refl _ _)
  have hD0 : Below wc.heap.size wc wc.drew := (Below.refl _ _).drew
  have n1 : w.heap.size ≠ w.heap.size + 1 + 1 := by omega
  have n2 : w.heap.size ≠ w.heap.size + 1 + 1 + 1 := by omega
  have n3 : w.heap.size + 1 ≠ w.heap.size + 1 + 1 := by omega
  have n4 : w.heap.size + 1 ≠ w.heap.size + 1 + 1 + 1 := by omega
  have n5 : w.heap.size + 1 + 1 ≠ w.heap.size + 1 + 1 + 1 := by omega
  have n6 : w.heap.size + 1 + 1 + 1 ≠ w.heap.size + 1 + 1 := by omega
  have n7 : w.heap.size + 1 + 1 ≠ w.heap.size := by omega
  have n8 : w.heap.size + 1 + 1 + 1 ≠ w.heap.size := by omega
  have n9 : w.heap.size + 1 + 1 ≠ w.heap.size + 1 := by omega
  have n10 : w.heap.size + 1 + 1 + 1 ≠ w.heap.size + 1 := by omega
  by_cases hc : D1 * 3 < N1 * 2
  · have HR : Hid (Bal n d N1 (D1 * 2) (D + 1)) := hide (by
      exact bal_a hnA hdC (unhide HM1) (unhide HM2) (unhide HB3).1 (unhide HB3).2 hc)
    have HW1 := hide (show IntKind.i64.wrap (D + 1) = D + 1 from i64_id _ (by omega) (by omega))
    have Hc := hide hc
    go_wp2_with fail
    go_region_held3 (fun w' => w'.cell? ⟨w.heap.size, 0, none⟩ = some (.bool X.neg) ∧ w'.cell? ⟨w.heap.size, 1, none⟩ = some (.slice X.a X.n X.cap) ∧ w'.cell? ⟨w.heap.size + 1, 0, none⟩ = some (.bool Y.neg) ∧ w'.cell? ⟨w.heap.size + 1, 1, none⟩ = some (.slice Y.a Y.n Y.cap)) (first | exact unhide HK _ (by first | with_reducible exact hD0 | with_reducible exact hD1) | go_keep)
      (first
        | (go_at_call 95; refine (up_at _ _ _ _ _ 1 (k + k + 10) D1 _ rfl ((unhide HIY).below hD0) (by omega) (by omega)).mono ?_; rintro r' w1 ⟨neg1, a1, n1', c1, rfl, hint1, hb1⟩; have hD1 := bthen hD0 hb1; obtain ⟨q0, q1, q2⟩ := R.below hD1; obtain ⟨p0, p1, p2⟩ := R2.below hD1; obtain ⟨z0, z1, z2, z3⟩ := unhide HK _ hD1))
    all_goals
      have HE := bal_end (w := w) (K := k + k + 20) (R.below hD1) (R2.below hD1) (X := X) (Y := ⟨neg1, a1, n1', c1⟩) (((unhide HIX).below hD1).mono (by omega)) (hint1.mono (by omega)) (bthen hBW hD1)
      go_wp2_with fail
      refine bodyPost_ret (v := .tuple #[.agg #[.bool X.neg, .slice X.a X.n X.cap], .agg #[.bool neg1, .slice a1 n1' c1], .int .i64 (IntKind.i64.wrap (D + 1))]) (by simp [results, Tryz.results166, go_sem, q0, q1, p0, p1, n5, n6]) rfl ⟨X, ⟨neg1, a1, n1', c1⟩, N1, (D1 * 2), _, rfl, by rw [unhide HW1]; exact unhide HR, by rw [unhide HW1]; omega, by rw [unhide HW1]; omega, HE.1, HE.2.1, HE.2.2⟩
  · have Hc := hide hc
    go_wp2_with fail
    go_cut [35] (fun p wx => p = .bool (decide (N1 * 4 < D1 * 3)) ∧ Below wc.heap.size wc wx)
    case first =>
      go_region_held3 (fun w' => w'.cell? ⟨w.heap.size, 0, none⟩ = some (.bool X.neg) ∧ w'.cell? ⟨w.heap.size, 1, none⟩ = some (.slice X.a X.n X.cap) ∧ w'.cell? ⟨w.heap.size + 1, 0, none⟩ = some (.bool Y.neg) ∧ w'.cell? ⟨w.heap.size + 1, 1, none⟩ = some (.slice Y.a Y.n Y.cap)) (first | exact unhide HK _ (by first | with_reducible exact hD0 | with_reducible exact hD4 | with_reducible exact hD3 | with_reducible exact hD2 | with_reducible exact hD1) | go_keep)
        (first
          | (go_at_call 46; have hq := hD3; refine (cmp_int _ _ _ _ _ _ _ _ _ _ (N1 * 4) (D1 * 3) _ ((hint1.below hb2).below hb3) hint3).mono ?_; rintro r' w4 ⟨rfl, hb4⟩; have hD4 := bthen hD3 hb4)
          | (go_at_call 66; have hq := hD2; refine (mul_int _ _ _ _ _ _ _ _ (k + k + 10) 4 D1 3 _ ((unhide HIY).below hD2) hint2 (by omega) (by omega)).mono ?_; rintro r' w3 ⟨neg3, a3, n3, c3, rfl, hint3, hb3⟩; have hD3 := bthen hD2 hb3)
          | (go_at_call 43; have hq := hD1; refine (numOf_int 3 _ (by decide) (by decide)).mono ?_; rintro r' w2 ⟨neg2, a2, n2, c2, rfl, hint2, hb2⟩; have hD2 := bthen hD1 hb2)
          | (go_at_call 95; refine (up_at _ _ _ _ _ 2 (k + k + 10) N1 _ rfl ((unhide HIX).below hD0) (by omega) (by omega)).mono ?_; rintro r' w1 ⟨neg1, a1, n1, c1, rfl, hint1, hb1⟩; have hD1 := bthen hD0 hb1))
      all_goals
        go_wp2_with fail
        go_meet
        exact ⟨congrArg _ (cmp_ltB _ _), hD4⟩
    case rest =>
    obtain ⟨rfl, hb1⟩ := hcut
    have HXC := hide ((unhide HXC).below hb1)
    have HYC := hide ((unhide HYC).below hb1)
    have HIX := hide ((unhide HIX).below hb1)
    have HIY := hide ((unhide HIY).below hb1)
    replace R := R.below hb1
    replace R2 := R2.below hb1
    replace hBW := bthen hBW hb1
    have lX := (unhide HXC).lt
    have lY := (unhide HYC).lt
    have lR := R.lt
    have lR2 := R2.lt
    have HK := hide (show ∀ w', Below wc.heap.size wc w' → (w'.cell? ⟨w.heap.size, 0, none⟩ = some (.bool X.neg) ∧ w'.cell? ⟨w.heap.size, 1, none⟩ = some (.slice X.a X.n X.cap) ∧ w'.cell? ⟨w.heap.size + 1, 0, none⟩ = some (.bool Y.neg) ∧ w'.cell? ⟨w.heap.size + 1, 1, none⟩ = some (.slice Y.a Y.n Y.cap)) from fun w' hB => ⟨((unhide HXC).below hB).c0, ((unhide HXC).below hB).c1, ((unhide HYC).below hB).c0, ((unhide HYC).below hB).c1⟩)
    clear x0 x1 y0 y1 hD0
    obtain ⟨x0, x1, y0, y1⟩ := unhide HK _ (Below.refl _ _)
    have hD0 : Below wc.heap.size wc wc.drew := (Below.refl _ _).drew
    by_cases hc2 : N1 * 4 < D1 * 3
    · have HR : Hid (Bal n d (N1 * 2) D1 (D - 1)) := hide (by
          exact bal_b hnA hdC (unhide HM1) (unhide HM2) (unhide HB3).1 (unhide HB3).2 hc2)
      have HW1 := hide (show IntKind.i64.wrap (D - 1) = D - 1 from i64_id _ (by omega) (by omega))
      have Hc2 := hide hc2
      go_wp2_with fail
      go_region_held3 (fun w' => w'.cell? ⟨w.heap.size, 0, none⟩ = some (.bool X.neg) ∧ w'.cell? ⟨w.heap.size, 1, none⟩ = some (.slice X.a X.n X.cap) ∧ w'.cell? ⟨w.heap.size + 1, 0, none⟩ = some (.bool Y.neg) ∧ w'.cell? ⟨w.heap.size + 1, 1, none⟩ = some (.slice Y.a Y.n Y.cap)) (first | exact unhide HK _ (by first | with_reducible exact hD0 | with_reducible exact hD1) | go_keep)
        (first
          | (go_at_call 95; refine (up_at _ _ _ _ _ 1 (k + k + 10) N1 _ rfl ((unhide HIX).below hD0) (by omega) (by omega)).mono ?_; rintro r' w1 ⟨neg1, a1, n1', c1, rfl, hint1, hb1⟩; have hD1 := bthen hD0 hb1; obtain ⟨q0, q1, q2⟩ := R.below hD1; obtain ⟨p0, p1, p2⟩ := R2.below hD1; obtain ⟨z0, z1, z2, z3⟩ := unhide HK _ hD1))
      all_goals
        have HE := bal_end (w := w) (K := k + k + 20) (R.below hD1) (R2.below hD1) (X := ⟨neg1, a1, n1', c1⟩) (Y := Y) (hint1.mono (by omega)) (((unhide HIY).below hD1).mono (by omega)) (bthen hBW hD1)
        go_wp2_with fail
        refine bodyPost_ret (v := .tuple #[.agg #[.bool neg1, .slice a1 n1' c1], .agg #[.bool Y.neg, .slice Y.a Y.n Y.cap], .int .i64 (IntKind.i64.wrap (D - 1))]) (by simp [results, Tryz.results166, go_sem, q0, q1, p0, p1, n5, n6]) rfl ⟨⟨neg1, a1, n1', c1⟩, Y, (N1 * 2), D1, _, rfl, by rw [unhide HW1]; exact unhide HR, by rw [unhide HW1]; omega, by rw [unhide HW1]; omega, HE.1, HE.2.1, HE.2.2⟩
    · have HR : Hid (Bal n d N1 D1 D) := hide (by
          exact bal_c hnA hdC (unhide HM1) (unhide HM2) (by have := unhide Hc; omega) hc2)
      have Hc2 := hide hc2
      go_wp2_with fail
      have HR1 := R
      have HR2 := R2
      obtain ⟨q0, q1, q2⟩ := R
      obtain ⟨p0, p1, p2⟩ := R2
      go_region
      all_goals
        have HE := bal_end (w := w) (K := k + k + 20) (HR1.below (Below.refl _ _).drew) (HR2.below (Below.refl _ _).drew) (X := X) (Y := Y) (((unhide HIX).below (Below.refl _ _).drew).mono (by omega)) (((unhide HIY).below (Below.refl _ _).drew).mono (by omega)) (bthen hBW (Below.refl _ _).drew)
        go_wp2_with fail
        refine bodyPost_ret (v := .tuple #[.agg #[.bool X.neg, .slice X.a X.n X.cap], .agg #[.bool Y.neg, .slice Y.a Y.n Y.cap], .int .i64 (D)]) (by simp [results, Tryz.results166, go_sem, q0, q1, p0, p1, n5, n6]) rfl ⟨X, Y, N1, D1, _, rfl, by exact unhide HR, by omega, by omega, HE.1, HE.2.1, HE.2.2⟩
end Go.Proofs.YtgmnknmjainababGreat
namespace Go.Proofs.YtgmnknmjainababGreat
open Go.RowKit
attribute [local go_sem ↓] Go.wp_at_zero Go.wp_at_succ
structure StSt (w wr : World) (BX BY : Nat) (X Y : Nm) (k : Nat) (p q : Int) : Prop where
  x : VnC wr BX X
  y : VnC wr BY Y
  ix : IntAt wr X.neg X.a X.n X.cap k p
  iy : IntAt wr Y.neg Y.a Y.n Y.cap k q
  n1 : NoI wr w.heap.size
  n2 : NoI wr (w.heap.size + 1)
  be : Below w.heap.size w wr
  l1 : w.heap.size + 1 < BX
  l2 : w.heap.size + 1 < BY
  ne : BX ≠ BY
theorem StSt.below {w wr wr' : World} {BX BY : Nat} {X Y : Nm} {k : Nat} {p q : Int} (h : StSt w wr BX BY X Y k p q) (hb : Below wr.heap.size wr wr') : StSt w wr' BX BY X Y k p q :=
  ⟨h.x.below hb, h.y.below hb, h.ix.below hb, h.iy.below hb, h.n1.below hb, h.n2.below hb, bthen h.be hb, h.l1, h.l2, h.ne⟩
theorem NoI.offs {w : World} {B B' : Nat} (h : NoI w B) (hne : B ≠ B') (y : Nm) : NoI (put2w w B' y) B := by
  obtain ⟨q0, q1, q2⟩ := h
  exact ⟨by simp [go_sem, q0, hne, Ne.symm hne], by simp [go_sem, q1, hne, Ne.symm hne], put_fz2 q2 _ _⟩
theorem StSt.put {w wr : World} {BX BY : Nat} {X Y X' Y' : Nm} {k k' : Nat} {p q p' q' : Int} (h : StSt w wr BX BY X Y k p q) (hx : IntAt wr X'.neg X'.a X'.n X'.cap k' p') (hy : IntAt wr Y'.neg Y'.a Y'.n Y'.cap k' q') : StSt w (put2w (put2w wr BX X') BY Y') BX BY X' Y' k' p' q' :=
  have x1 := h.x.put X'
  have y1 := h.y.off (Ne.symm h.ne) X'
  ⟨x1.off h.ne Y', y1.put Y', (hx.putv h.x X').putv y1 Y', (hy.putv h.x X').putv y1 Y', (h.n1.offs (by have := h.l1; omega) X').offs (by have := h.l2; omega) Y', (h.n2.offs (by have := h.l1; omega) X').offs (by have := h.l2; omega) Y', set2 (set2 h.be (by have := h.l1; omega) _ _) (by have := h.l2; omega) _ _, h.l1, h.l2, h.ne⟩
theorem st_end {w wr : World} {BX BY : Nat} {X Y : Nm} {k : Nat} {p q : Int} (h : StSt w wr BX BY X Y k p q) : IntAt (put2w (put2w wr w.heap.size X) (w.heap.size + 1) Y) X.neg X.a X.n X.cap k p ∧ IntAt (put2w (put2w wr w.heap.size X) (w.heap.size + 1) Y) Y.neg Y.a Y.n Y.cap k q ∧ Below w.heap.size w (put2w (put2w wr w.heap.size X) (w.heap.size + 1) Y) := by
  have n2 := h.n2.offs (B' := w.heap.size) (by omega) X
  obtain ⟨a0, a1, af⟩ := h.n1
  obtain ⟨b0, b1, bf⟩ := n2
  exact ⟨(h.ix.put2 a0 a1 _ _).put2 b0 b1 _ _, (h.iy.put2 a0 a1 _ _).put2 b0 b1 _ _, set2 (set2 h.be (Nat.le_refl _) _ _) (Nat.le_succ _) _ _⟩
set_option maxRecDepth 100000 in
set_option maxHeartbeats 6000000 in
theorem steps_int (w : World) (n d : Int) (h : StIn n d) (hn : n ≤ 4611686018427387904) :
    Calls Tryz.prog 112 #[.int .i64 n, .int .i64 d] w (fun r w' => ∃ X Y : Nm, r = .returned (.tuple #[.int .i64 (n - (stN n d : Int) * d), .agg #[.bool X.neg, .slice X.a X.n X.cap], .agg #[.bool Y.neg, .slice Y.a Y.n Y.cap]]) ∧ IntAt w' X.neg X.a X.n X.cap (4 * stN n d + 4) (stP n d (stN n d)) ∧ IntAt w' Y.neg Y.a Y.n Y.cap (4 * stN n d + 4) (stQ d (stN n d)) ∧ Below w.heap.size w w') := by
  obtain ⟨W, hW⟩ : ∃ W, W = (w.alloc (.cells #[.bool false, .slice none 0 0] 26)).alloc (.cells #[.bool false, .slice none 0 0] 26) := ⟨_, rfl⟩
  have hBW : Below w.heap.size w W := by rw [hW]; exact bl2 _ _ _
  have R1 : NoI W w.heap.size := by rw [hW]; exact (noi_new w _).below (bl1 _ _)
  have R2 : NoI W (w.heap.size + 1) := by rw [hW]; exact ⟨by simp [go_sem], by simp [go_sem], fun o => by simp [go_sem]⟩
  have d0 := h.d0
  have dd := h.dd
  have k200 := h.rest.2.2
  have H := hide h
  clear h
  go_enter Tryz.func112, Tryz.ntmps112
  go_wp2_with fail
  rw [← hW]
  clear hW
  refine (numOf_int 1 _ (by decide) (by decide)).mono ?_
  rintro r' w1 ⟨neg1, a1, n1, c1, rfl, hint1, hb1⟩
  replace R1 := R1.below hb1
  replace R2 := R2.below hb1
  replace hBW := bthen hBW hb1
  clear hb1
  go_wp2_with fail
  refine (numOf_int 1 _ (by decide) (by decide)).mono ?_
  rintro r' w2 ⟨neg2, a2, n2, c2, rfl, hint2, hb2⟩
  replace R1 := R1.below hb2
  replace R2 := R2.below hb2
  replace hBW := bthen hBW hb2
  replace hint1 := hint1.below hb2
  clear hb2
  have lR := R2.lt
  obtain ⟨V1, hV1⟩ : ∃ V1, V1 = (w2.alloc (.cells #[.bool neg1, .slice a1 n1 c1] 26)).alloc (.cells #[.bool neg2, .slice a2 n2 c2] 26) := ⟨_, rfl⟩
  have bV1 : Below w2.heap.size w2 V1 := by rw [hV1]; exact bl2 _ _ _
  have st0 : StSt w V1 w2.heap.size (w2.heap.size + 1) ⟨neg1, a1, n1, c1⟩ ⟨neg2, a2, n2, c2⟩ (4 * 0 + 4) (stP n d 0) (stQ d 0) := ⟨by rw [hV1]; exact (vnc_new w2 ⟨neg1, a1, n1, c1⟩ _).below (bl1 _ _), by rw [hV1]; exact ⟨⟨by simp [go_sem], by simp [go_sem]⟩, fun o => by simp [go_sem]⟩, hint1.below bV1, hint2.below bV1, R1.below bV1, R2.below bV1, bthen hBW bV1, lR, by omega, by omega⟩
  go_wp2_with fail
  rw [← hV1]
  clear hV1 bV1 hint1 hint2 R1 R2 hBW
  obtain ⟨BX, hBX⟩ : ∃ B, B = w2.heap.size := ⟨_, rfl⟩
  obtain ⟨BY, hBY⟩ : ∃ B', B' = w2.heap.size + 1 := ⟨_, rfl⟩
  rw [← hBY, ← hBX] at st0 ⊢
  clear hBX hBY lR
  go_loopw [0] (fun nn wr => ∃ (i : Nat) (X Y : Nm), nn = .int .i64 (n - (i : Int) * d) ∧ i ≤ stN n d ∧ StSt w wr BX BY X Y (4 * i + 4) (stP n d i) (stQ d i)) (fun nn _ => (intOf nn).toNat)
  case atStart => exact ⟨0, _, _, by simp, Nat.zero_le _, st0⟩
  case round =>
    obtain ⟨i, X, Y, rfl, hi, st⟩ := hrel
    clear st0
    have p0 := (st_at (unhide H) hi).1
    have id0 := Int.mul_nonneg (show (0 : Int) ≤ (i : Int) by omega) (show 0 ≤ d by omega)
    by_cases hin : i < stN n d
    · have hin1 : d < n - (i : Int) * d := (st_at (unhide H) hi).2 hin
      have HX := hide st.x
      have HY := hide st.y
      have HI := hide st.ix
      have HJ := hide st.iy
      have HST := hide st
      have HE1 := hide (show IntKind.i64.wrap (n - (i : Int) * d - d) = n - (i : Int) * d - d from i64_id _ (by omega) (by omega))
      have HR := hide (show -9223372036854775808 ≤ n - (i : Int) * d - d ∧ n - (i : Int) * d - d ≤ 9223372036854775807 from ⟨by omega, by omega⟩)
      clear st
      go_wp2_with fail
      have hD0 : Below wr.heap.size wr wr.drew := (Below.refl _ _).drew
      have HK7 := hide (show ∀ w', Below wr.heap.size wr w' → (w'.cell? ⟨BX, 0, none⟩ = some (.bool X.neg) ∧ w'.cell? ⟨BX, 1, none⟩ = some (.slice X.a X.n X.cap)) from fun w' hB => ⟨((unhide HX).below hB).c.c0, ((unhide HX).below hB).c.c1⟩)
      have HK8 := hide (show ∀ w', Below wr.heap.size wr w' → (w'.cell? ⟨BY, 0, none⟩ = some (.bool Y.neg) ∧ w'.cell? ⟨BY, 1, none⟩ = some (.slice Y.a Y.n Y.cap)) from fun w' hB => ⟨((unhide HY).below hB).c.c0, ((unhide HY).below hB).c.c1⟩)
      refine AnyS.start (S := fun j w' => (j = 6 ∨ j = 7 ∨ j = 10 ∨ j = 11 ∨ (w'.cell? ⟨BX, 0, none⟩ = some (.bool X.neg) ∧ w'.cell? ⟨BX, 1, none⟩ = some (.slice X.a X.n X.cap))) ∧ (j = 11 ∨ (w'.cell? ⟨BY, 0, none⟩ = some (.bool Y.neg) ∧ w'.cell? ⟨BY, 1, none⟩ = some (.slice Y.a Y.n Y.cap)))) (by kernel_rfl) ?_
      refine AnyS.take (i := 6) (oi := { dst := some 23, op := Go.Op.load 26 (Go.Operand.tmp 8), type := 26, pos := "gamma.go:37", after := #[], guard := none }) (v := .agg #[.bool Y.neg, .slice Y.a Y.n Y.cap]) (T := fun w' => w'.cell? ⟨BY, 0, none⟩ = some (.bool Y.neg) ∧ w'.cell? ⟨BY, 1, none⟩ = some (.slice Y.a Y.n Y.cap)) rfl (by kernel_rfl) (by kernel_rfl) (by kernel_rfl) (fun _ _ _ h => h) 11 1 (fun j hl hj w h => h.2.elim (fun e => absurd e (by omega)) id) (by kernel_rfl) (fun w h => ⟨Or.inl rfl, Or.inr h⟩) (Or.inl ⟨by rfl, fun w hSw => ?_⟩) (unhide HK8 _ hD0) ?_
      · obtain ⟨s0, s1⟩ := hSw; go_simp
      try simp only [Act.put, List.setIfInBounds_toArray, List.set_cons_zero, List.set_cons_succ]
      refine AnyS.take (i := 7) (oi := { dst := some 24, op := Go.Op.move (Go.Operand.tmp 1), type := 3, pos := "gamma.go:37", after := #[], guard := none }) (v := .int .i64 d) (T := fun w' => w'.cell? ⟨BY, 0, none⟩ = some (.bool Y.neg) ∧ w'.cell? ⟨BY, 1, none⟩ = some (.slice Y.a Y.n Y.cap)) rfl (by kernel_rfl) (by kernel_rfl) (by kernel_rfl) (fun _ _ _ h => h) 11 1 (fun j hl hj w h => h.2.elim (fun e => absurd e (by omega)) id) (by kernel_rfl) (fun w h => ⟨Or.inr (Or.inl rfl), Or.inr h⟩) (Or.inl ⟨by rfl, fun w hSw => ?_⟩) (unhide HK8 _ hD0) ?_
      · go_simp
      try simp only [Act.put, List.setIfInBounds_toArray, List.set_cons_zero, List.set_cons_succ]
      refine AnyS.take (i := 0) (oi := { dst := some 17, op := Go.Op.load 26 (Go.Operand.tmp 7), type := 26, pos := "gamma.go:37", after := #[], guard := none }) (v := .agg #[.bool X.neg, .slice X.a X.n X.cap]) (T := fun w' => (w'.cell? ⟨BX, 0, none⟩ = some (.bool X.neg) ∧ w'.cell? ⟨BX, 1, none⟩ = some (.slice X.a X.n X.cap)) ∧ (w'.cell? ⟨BY, 0, none⟩ = some (.bool Y.neg) ∧ w'.cell? ⟨BY, 1, none⟩ = some (.slice Y.a Y.n Y.cap))) rfl (by kernel_rfl) (by kernel_rfl) (by kernel_rfl) (fun _ _ _ h => h) 10 2 (fun j hl hj w h => ⟨h.1.elim (fun e => absurd hl (by rw [e]; decide)) (fun h => h.elim (fun e => absurd hl (by rw [e]; decide)) (fun h => h.elim (fun e => absurd e (by omega)) (fun h => h.elim (fun e => absurd e (by omega)) id))), h.2.elim (fun e => absurd e (by omega)) id⟩) (by kernel_rfl) (fun w h => ⟨Or.inr (Or.inr (Or.inr (Or.inr h.1))), Or.inr h.2⟩) (Or.inl ⟨by rfl, fun w hSw => ?_⟩) ⟨unhide HK7 _ hD0, unhide HK8 _ hD0⟩ ?_
      · obtain ⟨⟨s0, s1⟩, _⟩ := hSw; go_simp
      try simp only [Act.put, List.setIfInBounds_toArray, List.set_cons_zero, List.set_cons_succ]
      refine AnyS.take (i := 1) (oi := { dst := some 18, op := Go.Op.move (Go.Operand.tmp 0), type := 3, pos := "gamma.go:37", after := #[], guard := none }) (v := .int .i64 (n - (i : Int) * d)) (T := fun w' => (w'.cell? ⟨BX, 0, none⟩ = some (.bool X.neg) ∧ w'.cell? ⟨BX, 1, none⟩ = some (.slice X.a X.n X.cap)) ∧ (w'.cell? ⟨BY, 0, none⟩ = some (.bool Y.neg) ∧ w'.cell? ⟨BY, 1, none⟩ = some (.slice Y.a Y.n Y.cap))) rfl (by kernel_rfl) (by kernel_rfl) (by kernel_rfl) (fun _ _ _ h => h) 10 2 (fun j hl hj w h => ⟨h.1.elim (fun e => absurd hl (by rw [e]; decide)) (fun h => h.elim (fun e => absurd hl (by rw [e]; decide)) (fun h => h.elim (fun e => absurd e (by omega)) (fun h => h.elim (fun e => absurd e (by omega)) id))), h.2.elim (fun e => absurd e (by omega)) id⟩) (by kernel_rfl) (fun w h => ⟨Or.inr (Or.inr (Or.inr (Or.inr h.1))), Or.inr h.2⟩) (Or.inl ⟨by rfl, fun w hSw => ?_⟩) ⟨unhide HK7 _ hD0, unhide HK8 _ hD0⟩ ?_
      · go_simp
      try simp only [Act.put, List.setIfInBounds_toArray, List.set_cons_zero, List.set_cons_succ]
      refine AnyS.take (i := 2) (oi := { dst := some 19, op := Go.Op.move (Go.Operand.tmp 1), type := 3, pos := "gamma.go:37", after := #[], guard := none }) (v := .int .i64 d) (T := fun w' => (w'.cell? ⟨BX, 0, none⟩ = some (.bool X.neg) ∧ w'.cell? ⟨BX, 1, none⟩ = some (.slice X.a X.n X.cap)) ∧ (w'.cell? ⟨BY, 0, none⟩ = some (.bool Y.neg) ∧ w'.cell? ⟨BY, 1, none⟩ = some (.slice Y.a Y.n Y.cap))) rfl (by kernel_rfl) (by kernel_rfl) (by kernel_rfl) (fun _ _ _ h => h) 10 2 (fun j hl hj w h => ⟨h.1.elim (fun e => absurd hl (by rw [e]; decide)) (fun h => h.elim (fun e => absurd hl (by rw [e]; decide)) (fun h => h.elim (fun e => absurd e (by omega)) (fun h => h.elim (fun e => absurd e (by omega)) id))), h.2.elim (fun e => absurd e (by omega)) id⟩) (by kernel_rfl) (fun w h => ⟨Or.inr (Or.inr (Or.inr (Or.inr h.1))), Or.inr h.2⟩) (Or.inl ⟨by rfl, fun w hSw => ?_⟩) ⟨unhide HK7 _ hD0, unhide HK8 _ hD0⟩ ?_
      · go_simp
      try simp only [Act.put, List.setIfInBounds_toArray, List.set_cons_zero, List.set_cons_succ]
      refine AnyS.take (i := 3) (oi := { dst := some 20, op := Go.Op.binOp Go.BinOp.sub 3 (Go.Operand.tmp 18) (Go.Operand.tmp 19) 3, type := 3, pos := "gamma.go:37", after := #[{ on := 1, ground := Go.Ground.data }, { on := 2, ground := Go.Ground.data }], guard := none }) (v := .int .i64 (n - (i : Int) * d - d)) (T := fun w' => (w'.cell? ⟨BX, 0, none⟩ = some (.bool X.neg) ∧ w'.cell? ⟨BX, 1, none⟩ = some (.slice X.a X.n X.cap)) ∧ (w'.cell? ⟨BY, 0, none⟩ = some (.bool Y.neg) ∧ w'.cell? ⟨BY, 1, none⟩ = some (.slice Y.a Y.n Y.cap))) rfl (by kernel_rfl) (by kernel_rfl) (by kernel_rfl) (fun _ _ _ h => h) 10 2 (fun j hl hj w h => ⟨h.1.elim (fun e => absurd hl (by rw [e]; decide)) (fun h => h.elim (fun e => absurd hl (by rw [e]; decide)) (fun h => h.elim (fun e => absurd e (by omega)) (fun h => h.elim (fun e => absurd e (by omega)) id))), h.2.elim (fun e => absurd e (by omega)) id⟩) (by kernel_rfl) (fun w h => ⟨Or.inr (Or.inr (Or.inr (Or.inr h.1))), Or.inr h.2⟩) (Or.inl ⟨by rfl, fun w hSw => ?_⟩) ⟨unhide HK7 _ hD0, unhide HK8 _ hD0⟩ ?_
      · go_simp; rw [unhide HE1]
      try simp only [Act.put, List.setIfInBounds_toArray, List.set_cons_zero, List.set_cons_succ]
      refine AnyS.one (i := 4) (o := { dst := some 21, op := Go.Op.call { callee := Go.Callee.value (Go.Operand.func 43), args := #[Go.Operand.tmp 20], argTypes := #[3] }, type := 26, pos := "gamma.go:37", after := #[{ on := 3, ground := Go.Ground.data }], guard := none }) (by kernel_rfl) rfl (fun Kc hKc => ?_)
      go_simp
      refine (numOf_int (n - (i : Int) * d - d) _ (unhide HR).1 (unhide HR).2).mono ?_
      rintro r' w1 ⟨neg1, a1, n1, c1, rfl, hint1, hb1⟩
      have hD1 := bthen hD0 hb1
      clear hb1
      go_wp2_with fail
      refine hKc.out _ _ ⟨Or.inr (Or.inr (Or.inr (Or.inr (unhide HK7 _ hD1)))), Or.inr (unhide HK8 _ hD1)⟩ (fun _ => ?_)
      clear hKc Kc
      try simp only [Act.put, List.setIfInBounds_toArray, List.set_cons_zero, List.set_cons_succ]
      refine AnyS.one (i := 5) (o := { dst := some 22, op := Go.Op.call { callee := Go.Callee.value (Go.Operand.func 66), args := #[Go.Operand.tmp 17, Go.Operand.tmp 21], argTypes := #[26, 26] }, type := 26, pos := "gamma.go:37", after := #[{ on := 0, ground := Go.Ground.data }, { on := 4, ground := Go.Ground.data }, { on := 4, ground := Go.Ground.chain }], guard := none }) (by kernel_rfl) rfl (fun Kc hKc => ?_)
      go_simp
      refine (mul_int _ _ _ _ _ _ _ _ (4 * i + 4) 4 (stP n d i) (n - (i : Int) * d - d) _ ((unhide HI).below hD1) hint1 (by omega) (by omega)).mono ?_
      rintro r' w2 ⟨neg2, a2, n2, c2, rfl, hint2, hb2⟩
      have hD2 := bthen hD1 hb2
      clear hb2 hint1
      go_wp2_with fail
      refine hKc.out _ _ ⟨Or.inr (Or.inr (Or.inr (Or.inr (unhide HK7 _ hD2)))), Or.inr (unhide HK8 _ hD2)⟩ (fun _ => ?_)
      clear hKc Kc
      try simp only [Act.put, List.setIfInBounds_toArray, List.set_cons_zero, List.set_cons_succ]
      refine AnyS.one (i := 8) (o := { dst := some 25, op := Go.Op.call { callee := Go.Callee.value (Go.Operand.func 43), args := #[Go.Operand.tmp 24], argTypes := #[3] }, type := 26, pos := "gamma.go:37", after := #[{ on := 7, ground := Go.Ground.data }, { on := 5, ground := Go.Ground.chain }], guard := none }) (by kernel_rfl) rfl (fun Kc hKc => ?_)
      go_simp
      refine (numOf_int d _ (by omega) (by omega)).mono ?_
      rintro r' w3 ⟨neg3, a3, n3, c3, rfl, hint3, hb3⟩
      have hD3 := bthen hD2 hb3
      replace hint2 := hint2.below hb3
      clear hb3
      go_wp2_with fail
      refine hKc.out _ _ ⟨Or.inr (Or.inr (Or.inr (Or.inr (unhide HK7 _ hD3)))), Or.inr (unhide HK8 _ hD3)⟩ (fun _ => ?_)
      clear hKc Kc
      try simp only [Act.put, List.setIfInBounds_toArray, List.set_cons_zero, List.set_cons_succ]
      refine AnyS.one (i := 9) (o := { dst := some 26, op := Go.Op.call { callee := Go.Callee.value (Go.Operand.func 66), args := #[Go.Operand.tmp 23, Go.Operand.tmp 25], argTypes := #[26, 26] }, type := 26, pos := "gamma.go:37", after := #[{ on := 6, ground := Go.Ground.data }, { on := 8, ground := Go.Ground.data }, { on := 8, ground := Go.Ground.chain }], guard := none }) (by kernel_rfl) rfl (fun Kc hKc => ?_)
      go_simp
      refine (mul_int _ _ _ _ _ _ _ _ (4 * i + 4) 4 (stQ d i) d _ ((unhide HJ).below hD3) hint3 (by omega) (by omega)).mono ?_
      rintro r' w4 ⟨neg4, a4, n4, c4, rfl, hint4, hb4⟩
      have hD4 := bthen hD3 hb4
      replace hint2 := hint2.below hb4
      clear hb4 hint3
      go_wp2_with fail
      refine hKc.out _ _ ⟨Or.inr (Or.inr (Or.inr (Or.inr (unhide HK7 _ hD4)))), Or.inr (unhide HK8 _ hD4)⟩ (fun _ => ?_)
      clear hKc Kc
      try simp only [Act.put, List.setIfInBounds_toArray, List.set_cons_zero, List.set_cons_succ]
      have VX := (unhide HX).below hD4
      have VY := (unhide HY).below hD4
      have lX := VX.lt
      have lY := VY.lt
      have VY2 : VnC (put2w w4 BX ⟨neg2, a2, n2, c2⟩) BY Y := VY.off (Ne.symm (unhide HST).ne) ⟨neg2, a2, n2, c2⟩
      unfold put2w at VY2
      obtain ⟨⟨z0, z1⟩, zf⟩ := VX
      refine AnyS.one (i := 10) (o := { dst := none, op := Go.Op.store 26 (Go.Operand.tmp 7) (Go.Operand.tmp 22), type := 0, pos := "gamma.go:37", after := #[{ on := 5, ground := Go.Ground.data }, { on := 9, ground := Go.Ground.chain }, { on := 0, ground := Go.Ground.phase }, { on := 1, ground := Go.Ground.phase }, { on := 2, ground := Go.Ground.phase }, { on := 3, ground := Go.Ground.phase }, { on := 4, ground := Go.Ground.phase }, { on := 5, ground := Go.Ground.phase }, { on := 6, ground := Go.Ground.textOnly Go.Departure.lateStores }, { on := 7, ground := Go.Ground.textOnly Go.Departure.lateStores }, { on := 8, ground := Go.Ground.textOnly Go.Departure.lateStoresUnsure }, { on := 9, ground := Go.Ground.textOnly Go.Departure.lateStoresUnsure }], guard := none }) (by kernel_rfl) rfl (fun Kc hKc => ?_)
      go_simp
      refine hKc.out _ _ ⟨Or.inr (Or.inr (Or.inl rfl)), Or.inr ⟨VY2.c.c0, VY2.c.c1⟩⟩ (fun _ => ?_)
      clear hKc Kc z0 z1 zf
      try simp only [Act.put, List.setIfInBounds_toArray, List.set_cons_zero, List.set_cons_succ]
      have lY2 := VY2.lt
      obtain ⟨⟨z0, z1⟩, zf⟩ := VY2
      refine AnyS.last (o := { dst := none, op := Go.Op.store 26 (Go.Operand.tmp 8) (Go.Operand.tmp 26), type := 0, pos := "gamma.go:37", after := #[{ on := 9, ground := Go.Ground.data }, { on := 10, ground := Go.Ground.chain }, { on := 0, ground := Go.Ground.phase }, { on := 1, ground := Go.Ground.phase }, { on := 2, ground := Go.Ground.phase }, { on := 3, ground := Go.Ground.phase }, { on := 4, ground := Go.Ground.phase }, { on := 5, ground := Go.Ground.phase }, { on := 6, ground := Go.Ground.phase }, { on := 7, ground := Go.Ground.phase }, { on := 8, ground := Go.Ground.phase }, { on := 9, ground := Go.Ground.phase }, { on := 10, ground := Go.Ground.phase }], guard := none }) (by kernel_rfl) rfl (by kernel_rfl) (fun _ => ⟨Or.inr (Or.inr (Or.inr (Or.inl rfl))), Or.inl rfl⟩) (fun Kc hKc => ?_)
      go_simp
      refine hKc.out _ _ ?_
      clear hKc Kc z0 z1 zf HK7 HK8
      have stn := ((unhide HST).below hD4).put (X' := ⟨neg2, a2, n2, c2⟩) (Y' := ⟨neg4, a4, n4, c4⟩) hint2 hint4
      unfold put2w at stn
      have e1 : stP n d i * (n - (i : Int) * d - d) = stP n d (i + 1) := by
        show _ = stP n d i * (n - ((i : Int) + 1) * d)
        congr 1; grind
      have e2 : stQ d i * d = stQ d (i + 1) := rfl
      have e3 : n - (i : Int) * d - d = n - ((i + 1 : Nat) : Int) * d := by
        have : ((i + 1 : Nat) : Int) = (i : Int) + 1 := by omega
        rw [this]; grind
      rw [e1, e2, show 4 * i + 4 + 4 = 4 * (i + 1) + 4 by omega] at stn
      have E3 := hide e3
      clear e1 e2 e3
      go_wp2_with fail
      go_roundw
      case rel => exact ⟨i + 1, _, _, congrArg _ (unhide E3), by omega, stn⟩
      case measure => simp [intOf]; omega
    · have hin1 : ¬ d < n - (i : Int) * d := by
        have := (unhide H).rest.2.1
        have e : i = stN n d := by omega
        rw [e]; omega
      have hik : i = stN n d := by omega
      subst hik
      have lX := st.x.lt
      have lY := st.y.lt
      have q1 := st.n1
      have q2 := st.n2
      have l1 := st.l1
      have l2 := st.l2
      have lq1 := q1.lt
      have lq2 := q2.lt
      have HST := hide st
      obtain ⟨⟨x0, x1⟩, xf⟩ := st.x
      obtain ⟨⟨y0, y1⟩, yf⟩ := st.y
      obtain ⟨q10, q11, q1f⟩ := q1
      obtain ⟨q20, q21, q2f⟩ := q2
      clear st
      have m1 : w.heap.size ≠ BX := by omega
      have m2 : w.heap.size ≠ BY := by omega
      have m3 : w.heap.size + 1 ≠ BX := by omega
      have m4 : w.heap.size + 1 ≠ BY := by omega
      go_wp2_with fail
      have HE := st_end (unhide HST)
      unfold put2w at HE
      go_region
      all_goals
        go_wp2_with fail
        refine bodyPost_ret (v := .tuple #[.int .i64 (n - (stN n d : Int) * d), .agg #[.bool X.neg, .slice X.a X.n X.cap], .agg #[.bool Y.neg, .slice Y.a Y.n Y.cap]]) (by simp [results, Tryz.results112, go_sem, q10, q11, q20, q21]) rfl ⟨X, Y, rfl, ?_, ?_, ?_⟩
        · exact HE.1.below (Below.refl _ _).drew
        · exact HE.2.1.below (Below.refl _ _).drew
        · exact HE.2.2.drew
end Go.Proofs.YtgmnknmjainababGreat
