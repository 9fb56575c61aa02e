/-
  What wide.balanced answers, and that it leaves old memory alone.
  What wide.logNear answers, and that it leaves old memory alone.
-/
import Derived.Test.YtgmnknmjainabaaK12
namespace Go.Proofs.Ytgmnknmjainabaa
set_option linter.unusedVariables false
set_option linter.unusedSimpArgs false
set_option linter.unnecessarySimpa false
open Go.RowKit
attribute [local go_sem ↓] Go.wp_at_zero Go.wp_at_succ

/-- What wide.balanced answers. -/
def BalAns (w : World) (k : Nat) (n d : Int) (r : Ending) (w' : World) : Prop :=
  ∃ (X Y : Nm) (n' d' c : Int), r = .returned (.tuple #[.agg #[.bool X.neg, .slice X.a X.n X.cap], .agg #[.bool Y.neg, .slice Y.a Y.n Y.cap], .int .i64 c]) ∧ Bal n d n' d' c ∧ -(16 * k + 1) ≤ c ∧ c ≤ 16 * k + 1 ∧ IntAt w' X.neg X.a X.n X.cap (k + k + 20) n' ∧ IntAt w' Y.neg Y.a Y.n Y.cap (k + k + 20) d' ∧ Below w.heap.size w w'
theorem bal_near {n d : Int} {L L' : Nat} (h1 : Q L ≤ n) (h2 : n < Q (L + 1)) (h3 : Q L' ≤ d) (h4 : d < Q (L' + 1)) (a b : Nat) (hab : L + a = L' + b) : n * Q a < 2 * (d * Q b) ∧ d * Q b < 2 * (n * Q a) := by
  have qa := Q_pos a
  have qb := Q_pos b
  have e1 : Q L * Q a = Q L' * Q b := by rw [← Q_add, ← Q_add, hab]
  have e2 : Q (L + 1) = 2 * Q L := rfl
  have e3 : Q (L' + 1) = 2 * Q L' := rfl
  have g1 := Int.mul_le_mul_of_nonneg_right h1 (show 0 ≤ Q a by omega)
  have g2 := Int.mul_lt_mul_of_pos_right h2 (show 0 < Q a by omega)
  have g3 := Int.mul_le_mul_of_nonneg_right h3 (show 0 ≤ Q b by omega)
  have g4 := Int.mul_lt_mul_of_pos_right h4 (show 0 < Q b by omega)
  rw [e2, Int.mul_assoc] at g2
  rw [e3, Int.mul_assoc] at g4
  omega
/-- The three ways. -/
theorem bal_a {n d n1 d1 c : Int} (hn : 0 < n1) (hd : 0 < d1) (h1 : 0 ≤ c → n * d1 = n1 * d * Q c.toNat) (h2 : c < 0 → n * d1 * Q (-c).toNat = n1 * d) (g1 : n1 < 2 * d1) (g2 : d1 < 2 * n1) (hc : d1 * 3 < n1 * 2) : Bal n d n1 (d1 * 2) (c + 1) := by
  refine ⟨⟨hn, by omega, by omega, by omega⟩, fun h => ?_, fun h => ?_⟩
  · by_cases h0 : 0 ≤ c
    · have e := h1 h0
      have : (c + 1).toNat = c.toNat + 1 := by omega
      rw [this]
      have e2 : Q (c.toNat + 1) = 2 * Q c.toNat := rfl
      rw [e2]
      have : n * (d1 * 2) = 2 * (n * d1) := by grind
      rw [this, e]; grind
    · have hc : c = -1 := by omega
      have e := h2 (by omega)
      subst hc
      have e3 : Q (-(-1 : Int)).toNat = 2 := rfl
      rw [e3] at e
      have e4 : Q ((-1 : Int) + 1).toNat = 1 := rfl
      rw [e4]
      have : n * (d1 * 2) = n * d1 * 2 := by grind
      rw [this, e]; grind
  · have e := h2 (by omega)
    have : (-c).toNat = (-(c + 1)).toNat + 1 := by omega
    rw [this] at e
    have e2 : Q ((-(c + 1)).toNat + 1) = 2 * Q (-(c + 1)).toNat := rfl
    rw [e2] at e
    rw [← e]; grind
theorem bal_b {n d n1 d1 c : Int} (hn : 0 < n1) (hd : 0 < d1) (h1 : 0 ≤ c → n * d1 = n1 * d * Q c.toNat) (h2 : c < 0 → n * d1 * Q (-c).toNat = n1 * d) (g1 : n1 < 2 * d1) (g2 : d1 < 2 * n1) (hc : n1 * 4 < d1 * 3) : Bal n d (n1 * 2) d1 (c - 1) := by
  refine ⟨⟨by omega, hd, by omega, by omega⟩, fun h => ?_, fun h => ?_⟩
  · have e := h1 (by omega)
    have : c.toNat = (c - 1).toNat + 1 := by omega
    rw [this] at e
    have e2 : Q ((c - 1).toNat + 1) = 2 * Q (c - 1).toNat := rfl
    rw [e2] at e
    rw [e]; grind
  · by_cases h0 : 0 ≤ c
    · have hc : c = 0 := by omega
      have e := h1 h0
      subst hc
      have e3 : Q ((0 : Int)).toNat = 1 := rfl
      rw [e3] at e
      have e4 : Q (-((0 : Int) - 1)).toNat = 2 := rfl
      rw [e4, e]; grind
    · have e := h2 (by omega)
      have : (-(c - 1)).toNat = (-c).toNat + 1 := by omega
      rw [this]
      have e2 : Q ((-c).toNat + 1) = 2 * Q (-c).toNat := rfl
      rw [e2]
      have : n * d1 * (2 * Q (-c).toNat) = 2 * (n * d1 * Q (-c).toNat) := by grind
      rw [this, e]; grind
theorem bal_c {n d n1 d1 c : Int} (hn : 0 < n1) (hd : 0 < d1) (h1 : 0 ≤ c → n * d1 = n1 * d * Q c.toNat) (h2 : c < 0 → n * d1 * Q (-c).toNat = n1 * d) (hc : ¬ d1 * 3 < n1 * 2) (hc2 : ¬ n1 * 4 < d1 * 3) : Bal n d n1 d1 c :=
  ⟨⟨hn, hd, by omega, by omega⟩, h1, h2⟩
/-- A number of so many digits is so long at most. -/
theorem len_dig {w : World} {neg : Bool} {a : Option Addr} {n cap k : Nat} {z : Int} {L : Nat} (h : IntAt w neg a n cap k z) (hL : Q L ≤ z) (hz : 0 ≤ z) : L < 16 * k + 1 := by
  obtain ⟨d, h1, h2, h3, h4, h5⟩ := h
  have hV := V_lt h1.dgs n
  have hV0 := V_nonneg h1.dgs n
  have hP := P_mono h4
  have eP := Q_P k
  have hz2 : z < Q (16 * k) := by
    cases neg
    · simp [sgn] at h5; omega
    · simp [sgn] at h5; have := Q_pos (16 * k); omega
  refine Nat.lt_of_not_le fun h => ?_
  have := Q_mono (show 16 * k ≤ L by omega)
  omega

theorem up_at (neg : Bool) (a : Option Addr) (n cap : Nat) (κ : Int) (A k1 : Nat) (x : Int) (w : World) (hκ : κ = (A : Int)) (h1 : IntAt w neg a n cap k1 x) (hk1 : k1 ≤ 1000000000) (hk : A ≤ 1000000000) :
    Calls Try.prog 107 #[.agg #[.bool neg, .slice a n cap], .int .i64 κ] w (IntAns w (A / 16 + k1 + 1) (x * Q A)) := by
  subst hκ; exact up_int neg a n cap A k1 x w h1 hk1 hk

theorem bal_put {w wc w2 : World} {x y : Nm} {K : Nat} {z1 z2 : Int} (hD : Below wc.heap.size wc w2) (hx : NmC w2 w.heap.size x) (hy : NmC w2 (w.heap.size + 1) y) (X Y : Nm) (iX : IntAt w2 X.neg X.a X.n X.cap K z1) (iY : IntAt w2 Y.neg Y.a Y.n Y.cap K z2) (R : NoI wc (w.heap.size + 1 + 1)) (R2 : NoI wc (w.heap.size + 1 + 1 + 1)) (hB : Below w.heap.size w wc) :
    ∃ X' Y' : Nm, NmC ((((w2.setCell ⟨w.heap.size, 0, none⟩ (.bool X.neg)).setCell ⟨w.heap.size, 1, none⟩ (.slice X.a X.n X.cap)).setCell ⟨w.heap.size + 1, 0, none⟩ (.bool Y.neg)).setCell ⟨w.heap.size + 1, 1, none⟩ (.slice Y.a Y.n Y.cap)) w.heap.size X' ∧ NmC ((((w2.setCell ⟨w.heap.size, 0, none⟩ (.bool X.neg)).setCell ⟨w.heap.size, 1, none⟩ (.slice X.a X.n X.cap)).setCell ⟨w.heap.size + 1, 0, none⟩ (.bool Y.neg)).setCell ⟨w.heap.size + 1, 1, none⟩ (.slice Y.a Y.n Y.cap)) (w.heap.size + 1) Y' ∧ IntAt ((((w2.setCell ⟨w.heap.size, 0, none⟩ (.bool X.neg)).setCell ⟨w.heap.size, 1, none⟩ (.slice X.a X.n X.cap)).setCell ⟨w.heap.size + 1, 0, none⟩ (.bool Y.neg)).setCell ⟨w.heap.size + 1, 1, none⟩ (.slice Y.a Y.n Y.cap)) X'.neg X'.a X'.n X'.cap K z1 ∧ IntAt ((((w2.setCell ⟨w.heap.size, 0, none⟩ (.bool X.neg)).setCell ⟨w.heap.size, 1, none⟩ (.slice X.a X.n X.cap)).setCell ⟨w.heap.size + 1, 0, none⟩ (.bool Y.neg)).setCell ⟨w.heap.size + 1, 1, none⟩ (.slice Y.a Y.n Y.cap)) Y'.neg Y'.a Y'.n Y'.cap K z2 ∧ NoI ((((w2.setCell ⟨w.heap.size, 0, none⟩ (.bool X.neg)).setCell ⟨w.heap.size, 1, none⟩ (.slice X.a X.n X.cap)).setCell ⟨w.heap.size + 1, 0, none⟩ (.bool Y.neg)).setCell ⟨w.heap.size + 1, 1, none⟩ (.slice Y.a Y.n Y.cap)) (w.heap.size + 1 + 1) ∧ NoI ((((w2.setCell ⟨w.heap.size, 0, none⟩ (.bool X.neg)).setCell ⟨w.heap.size, 1, none⟩ (.slice X.a X.n X.cap)).setCell ⟨w.heap.size + 1, 0, none⟩ (.bool Y.neg)).setCell ⟨w.heap.size + 1, 1, none⟩ (.slice Y.a Y.n Y.cap)) (w.heap.size + 1 + 1 + 1) ∧ Below w.heap.size w ((((w2.setCell ⟨w.heap.size, 0, none⟩ (.bool X.neg)).setCell ⟨w.heap.size, 1, none⟩ (.slice X.a X.n X.cap)).setCell ⟨w.heap.size + 1, 0, none⟩ (.bool Y.neg)).setCell ⟨w.heap.size + 1, 1, none⟩ (.slice Y.a Y.n Y.cap)) := by
  have hy1 := hy.off (B' := w.heap.size) (by omega) (.bool X.neg) (.slice X.a X.n X.cap)
  have hx1 := put_nm2 hx X
  have i1 := iX.put2 hx.c0 hx.c1 (.bool X.neg) (.slice X.a X.n X.cap)
  have i2 := iY.put2 hx.c0 hx.c1 (.bool X.neg) (.slice X.a X.n X.cap)
  have r1 := (R.below hD).off (B' := w.heap.size) (by omega) (.bool X.neg) (.slice X.a X.n X.cap)
  have r2 := (R2.below hD).off (B' := w.heap.size) (by omega) (.bool X.neg) (.slice X.a X.n X.cap)
  have b1 := set2 (bthen hB hD) (Nat.le_refl _) (.bool X.neg) (.slice X.a X.n X.cap)
  generalize (w2.setCell ⟨w.heap.size, 0, none⟩ (.bool X.neg)).setCell ⟨w.heap.size, 1, none⟩ (.slice X.a X.n X.cap) = V at *
  exact ⟨X, Y, hx1.off (by omega) _ _, put_nm2 hy1 Y, i1.put2 hy1.c0 hy1.c1 _ _, i2.put2 hy1.c0 hy1.c1 _ _, r1.off (by omega) _ _, r2.off (by omega) _ _, set2 b1 (Nat.le_succ _) _ _⟩

theorem cmp_gtB (x y : Int) : decide (0 < cmpInt x y) = decide (y < x) := by
  unfold cmpInt
  by_cases h1 : x < y
  · have : ¬ y < x := by omega
    simp [h1, this]
  · by_cases h2 : y < x
    · simp [h1, h2]
    · simp [h1, h2]
theorem cmp_ltB (x y : Int) : decide (cmpInt x y < 0) = decide (x < y) := by
  unfold cmpInt
  by_cases h1 : x < y
  · simp [h1]
  · by_cases h2 : y < x
    · simp [h1, h2]
    · simp [h1, h2]

theorem bal_end {w w1 : World} {X Y : Nm} {K : Nat} {z1 z2 : Int} (R : NoI w1 (w.heap.size + 1 + 1)) (R2 : NoI w1 (w.heap.size + 1 + 1 + 1)) (iX : IntAt w1 X.neg X.a X.n X.cap K z1) (iY : IntAt w1 Y.neg Y.a Y.n Y.cap K z2) (hB : Below w.heap.size w w1) :
    IntAt ((((w1.setCell ⟨w.heap.size + 1 + 1, 0, none⟩ (.bool X.neg)).setCell ⟨w.heap.size + 1 + 1, 1, none⟩ (.slice X.a X.n X.cap)).setCell ⟨w.heap.size + 1 + 1 + 1, 0, none⟩ (.bool Y.neg)).setCell ⟨w.heap.size + 1 + 1 + 1, 1, none⟩ (.slice Y.a Y.n Y.cap)) X.neg X.a X.n X.cap K z1 ∧ IntAt ((((w1.setCell ⟨w.heap.size + 1 + 1, 0, none⟩ (.bool X.neg)).setCell ⟨w.heap.size + 1 + 1, 1, none⟩ (.slice X.a X.n X.cap)).setCell ⟨w.heap.size + 1 + 1 + 1, 0, none⟩ (.bool Y.neg)).setCell ⟨w.heap.size + 1 + 1 + 1, 1, none⟩ (.slice Y.a Y.n Y.cap)) Y.neg Y.a Y.n Y.cap K z2 ∧ Below w.heap.size w ((((w1.setCell ⟨w.heap.size + 1 + 1, 0, none⟩ (.bool X.neg)).setCell ⟨w.heap.size + 1 + 1, 1, none⟩ (.slice X.a X.n X.cap)).setCell ⟨w.heap.size + 1 + 1 + 1, 0, none⟩ (.bool Y.neg)).setCell ⟨w.heap.size + 1 + 1 + 1, 1, none⟩ (.slice Y.a Y.n Y.cap)) := by
  have r2 := R2.off (B' := w.heap.size + 1 + 1) (by omega) (.bool X.neg) (.slice X.a X.n X.cap)
  have i1 := iX.put2 R.c0 R.c1 (.bool X.neg) (.slice X.a X.n X.cap)
  have i2 := iY.put2 R.c0 R.c1 (.bool X.neg) (.slice X.a X.n X.cap)
  have b1 := set2 hB (show w.heap.size ≤ w.heap.size + 1 + 1 by omega) (.bool X.neg) (.slice X.a X.n X.cap)
  generalize (w1.setCell ⟨w.heap.size + 1 + 1, 0, none⟩ (.bool X.neg)).setCell ⟨w.heap.size + 1 + 1, 1, none⟩ (.slice X.a X.n X.cap) = V at *
  exact ⟨i1.put2 r2.c0 r2.c1 _ _, i2.put2 r2.c0 r2.c1 _ _, set2 b1 (by omega) _ _⟩

set_option maxRecDepth 100000 in
set_option maxHeartbeats 4000000 in
theorem balanced_int (w : World) (x y : Nm) (k : Nat) (n d : Int) (hx : IntAt w x.neg x.a x.n x.cap k n) (hy : IntAt w y.neg y.a y.n y.cap k d) (hn : 0 < n) (hd : 0 < d) (hk : k ≤ 1000000) :
    Calls Try.prog 152 #[.agg #[.bool x.neg, .slice x.a x.n x.cap], .agg #[.bool y.neg, .slice y.a y.n y.cap]] w (BalAns w k n d) := by
  obtain ⟨W, hW⟩ : ∃ W, W = (((w.alloc (.cells #[.bool x.neg, .slice x.a x.n x.cap] 24)).alloc (.cells #[.bool y.neg, .slice y.a y.n y.cap] 24)).alloc (.cells #[.bool false, .slice none 0 0] 24)).alloc (.cells #[.bool false, .slice none 0 0] 24) := ⟨_, rfl⟩
  have hBW : Below w.heap.size w W := by rw [hW]; exact bl4 _ _ _ _ _
  have X : NmC W w.heap.size x := by rw [hW]; exact ⟨by simp [go_sem], by simp [go_sem]⟩
  have FX : ∀ o, W.frozen? ⟨w.heap.size, o, none⟩ = false := by rw [hW]; intro o; simp [go_sem]
  have Y : NmC W (w.heap.size + 1) y := by rw [hW]; exact ⟨by simp [go_sem], by simp [go_sem]⟩
  have FY : ∀ o, W.frozen? ⟨w.heap.size + 1, o, none⟩ = false := by rw [hW]; intro o; simp [go_sem]
  have R : NoI W (w.heap.size + 1 + 1) := by rw [hW]; exact ⟨by simp [go_sem], by simp [go_sem], fun o => by simp [go_sem]⟩
  have R2 : NoI W (w.heap.size + 1 + 1 + 1) := by rw [hW]; exact ⟨by simp [go_sem], by simp [go_sem], fun o => by simp [go_sem]⟩
  have HX := hide (hx.below hBW)
  have HY := hide (hy.below hBW)
  have lX := X.lt
  have lY := Y.lt
  have lR := R.lt
  have lR2 := R2.lt
  have HK := hide (show ∀ w', Below W.heap.size W w' → (w'.cell? ⟨w.heap.size, 0, none⟩ = some (.bool x.neg) ∧ w'.cell? ⟨w.heap.size, 1, none⟩ = some (.slice x.a x.n x.cap) ∧ w'.cell? ⟨w.heap.size + 1, 0, none⟩ = some (.bool y.neg) ∧ w'.cell? ⟨w.heap.size + 1, 1, none⟩ = some (.slice y.a y.n y.cap)) from fun w' hB => ⟨(X.below hB).c0, (X.below hB).c1, (Y.below hB).c0, (Y.below hB).c1⟩)
  go_enter Try.func152, Try.ntmps152
  go_wp2
  rw [← hW]
  clear hW hx hy
  obtain ⟨x0, x1, x2, x3⟩ := unhide HK _ (Below.refl _ _)
  have hD0 : Below W.heap.size W W.drew := (Below.refl _ _).drew
  go_cut [7] (fun p wx => ∃ (L L' : Nat) (D : Int), p = .int .i64 D ∧ D = (L : Int) - (L' : Int) ∧ Q L ≤ n ∧ n < Q (L + 1) ∧ Q L' ≤ d ∧ d < Q (L' + 1) ∧ L < 16 * k + 1 ∧ L' < 16 * k + 1 ∧ Below W.heap.size W wx)
  case first =>
    go_region_held3 (fun w' => w'.cell? ⟨w.heap.size, 0, none⟩ = some (.bool x.neg) ∧ w'.cell? ⟨w.heap.size, 1, none⟩ = some (.slice x.a x.n x.cap) ∧ w'.cell? ⟨w.heap.size + 1, 0, none⟩ = some (.bool y.neg) ∧ w'.cell? ⟨w.heap.size + 1, 1, none⟩ = some (.slice y.a y.n y.cap)) (first | exact unhide HK _ (by first | with_reducible exact hD0 | with_reducible exact hD2 | with_reducible exact hD1) | go_keep)
      (first
        | (go_at_call 77; have hq := hD1; refine (len_int _ _ _ _ _ d _ ((unhide HY).below hD1) (by omega)).mono ?_; rintro r' w2 ⟨l2, hlen2, rfl, hb2⟩; have hD2 := bthen hD1 hb2)
        | (go_at_call 77; refine (len_int _ _ _ _ _ n _ ((unhide HX).below hD0) (by omega)).mono ?_; rintro r' w1 ⟨l1, hlen1, rfl, hb1⟩; have hD1 := bthen hD0 hb1))
    all_goals
      obtain ⟨L, e1, e2, e3⟩ := hlen1.2.2 hn
      obtain ⟨L', f1, f2, f3⟩ := hlen2.2.2 hd
      have hL := len_dig (unhide HX) e2 (by omega)
      have hL' := len_dig (unhide HY) f2 (by omega)
      have HE := hide e1
      have HF := hide f1
      clear e1 f1
      go_wp2_with fail
      go_meet
      exact ⟨L, L', _, rfl, (by rw [i64_id _ (by have := unhide HE; have := unhide HF; omega) (by have := unhide HE; have := unhide HF; omega)]; have := unhide HE; have := unhide HF; omega), e2, e3, f2, f3, hL, hL', hD2⟩
  case rest =>
  obtain ⟨L, L', D, rfl, hD, e2, e3, f2, f3, hL, hL', hb0⟩ := hcut
  have hbal := bal_near e2 e3 f2 f3
  have HBAL := hide hbal
  clear hbal e2 e3 f2 f3 x0 x1 x2 x3 hD0
  replace X := X.below hb0
  replace Y := Y.below hb0
  replace R := R.below hb0
  replace R2 := R2.below hb0
  have FX0 : ∀ o, wc.frozen? ⟨w.heap.size, o, none⟩ = false := fun o => (hb0.frozen (p := ⟨w.heap.size, o, none⟩) lX).trans (FX o)
  have FY0 : ∀ o, wc.frozen? ⟨w.heap.size + 1, o, none⟩ = false := fun o => (hb0.frozen (p := ⟨w.heap.size + 1, o, none⟩) lY).trans (FY o)
  replace HX := hide ((unhide HX).below hb0)
  replace HY := hide ((unhide HY).below hb0)
  replace hBW := bthen hBW hb0
  clear HK lX lY lR lR2 FX FY hb0
  have lX := X.lt
  have lY := Y.lt
  have lR := R.lt
  have lR2 := R2.lt
  obtain ⟨A, hA⟩ : ∃ A : Nat, (A : Int) = max 0 (-D) := ⟨(max 0 (-D)).toNat, by omega⟩
  obtain ⟨C, hC⟩ : ∃ C : Nat, (C : Int) = max 0 D := ⟨(max 0 D).toNat, by omega⟩
  have hwD : IntKind.i64.wrap (-D) = -D := i64_id _ (by omega) (by omega)
  have hDA : D ≤ 16 * k ∧ -(16 * k) ≤ D := by omega
  have hbal := unhide HBAL A C (by omega)
  have HA := hide hA
  have HC := hide hC
  have HD := hide hD
  have HW := hide hwD
  have HDA := hide hDA
  have hAk : A ≤ 16 * k := by omega
  have hCk : C ≤ 16 * k := by omega
  have HB2 := hide hbal
  clear hA hC hD hwD hDA HBAL hL hL' hbal
  go_wp2_with fail
  go_cut [7] (fun p wx => p = .int .i64 D ∧ ∃ X Y : Nm, NmC wx w.heap.size X ∧ NmC wx (w.heap.size + 1) Y ∧ IntAt wx X.neg X.a X.n X.cap (k + k + 10) (n * Q A) ∧ IntAt wx Y.neg Y.a Y.n Y.cap (k + k + 10) (d * Q C) ∧ NoI wx (w.heap.size + 1 + 1) ∧ NoI wx (w.heap.size + 1 + 1 + 1) ∧ Below w.heap.size w wx)
  case first =>
    have HXC := hide X
    have HYC := hide Y
    obtain ⟨x0, x1⟩ := X
    obtain ⟨y0, y1⟩ := Y
    have HZA := hide (show (if 0 < IntKind.i64.wrap (-D) then IntKind.i64.wrap (-D) else 0) = (A : Int) by rw [unhide HW]; have := unhide HA; split <;> omega)
    have HZC := hide (show (if 0 < D then D else 0) = (C : Int) by have := unhide HC; split <;> omega)
    by_cases d1 : 0 < D
    · have d2 : IntKind.i64.wrap (-D) ≤ 0 := by rw [unhide HW]; omega
      have HZA1 := hide (show (0 : Int) = (A : Int) by have := unhide HA; omega)
      have HZC1 := hide (show D = (C : Int) by have := unhide HC; omega)
      go_region_with
        (first
          | (go_at_call 107; have hq := hD1; (with_reducible refine (up_at _ _ _ _ _ C k d _ (by first | with_reducible exact unhide HZC1 | with_reducible exact unhide HZC) ((unhide HY).below hD1) (by omega) (by omega)).mono ?_); rintro r' w2 ⟨neg2, a2, n2, c2, rfl, hint2, hb2⟩; have hD2 := bthen hD1 hb2; have l2X := Nat.lt_of_lt_of_le lX hD2.size; have l2Y := Nat.lt_of_lt_of_le lY hD2.size; replace hint1 := hint1.below hb2; obtain ⟨x4, x5⟩ := (unhide HXC).below hD2; obtain ⟨y4, y5⟩ := (unhide HYC).below hD2; have F2 : ∀ o, w2.frozen? ⟨w.heap.size, o, none⟩ = false := (fun o => (hD2.frozen (p := ⟨w.heap.size, o, none⟩) lX).trans (FX0 o)); have G2 : ∀ o, w2.frozen? ⟨w.heap.size + 1, o, none⟩ = false := (fun o => (hD2.frozen (p := ⟨w.heap.size + 1, o, none⟩) lY).trans (FY0 o)))
          | (go_at_call 107; (with_reducible refine (up_at _ _ _ _ _ A k n _ (by first | with_reducible exact unhide HZA1 | with_reducible exact unhide HZA) ((unhide HX).below (Below.refl _ _).drew) (by omega) (by omega)).mono ?_); rintro r' w1 ⟨neg1, a1, n1, c1, rfl, hint1, hb1⟩; have hD1 : Below wc.heap.size wc w1 := bthen (Below.refl _ _).drew hb1; obtain ⟨y2, y3⟩ := (unhide HYC).below hD1; obtain ⟨x2, x3⟩ := (unhide HXC).below hD1; have l1X := Nat.lt_of_lt_of_le lX hD1.size; have l1Y := Nat.lt_of_lt_of_le lY hD1.size))
      all_goals
        go_wp2_with fail
        go_meet
        exact ⟨rfl, bal_put hD2 (NmC.mk x4 x5) (NmC.mk y4 y5) ⟨neg1, a1, n1, c1⟩ ⟨neg2, a2, n2, c2⟩ (hint1.mono (by omega)) (hint2.mono (by omega)) R R2 hBW⟩
    · by_cases d3 : D < 0
      · have d2 : 0 < IntKind.i64.wrap (-D) := by rw [unhide HW]; omega
        have d4 : D ≤ 0 := by omega
        have HZA1 := hide (show IntKind.i64.wrap (-D) = (A : Int) by rw [unhide HW]; have := unhide HA; omega)
        have HZC1 := hide (show (0 : Int) = (C : Int) by have := unhide HC; omega)
        go_region_with
          (first
            | (go_at_call 107; have hq := hD1; (with_reducible refine (up_at _ _ _ _ _ C k d _ (by first | with_reducible exact unhide HZC1 | with_reducible exact unhide HZC) ((unhide HY).below hD1) (by omega) (by omega)).mono ?_); rintro r' w2 ⟨neg2, a2, n2, c2, rfl, hint2, hb2⟩; have hD2 := bthen hD1 hb2; have l2X := Nat.lt_of_lt_of_le lX hD2.size; have l2Y := Nat.lt_of_lt_of_le lY hD2.size; replace hint1 := hint1.below hb2; obtain ⟨x4, x5⟩ := (unhide HXC).below hD2; obtain ⟨y4, y5⟩ := (unhide HYC).below hD2; have F2 : ∀ o, w2.frozen? ⟨w.heap.size, o, none⟩ = false := (fun o => (hD2.frozen (p := ⟨w.heap.size, o, none⟩) lX).trans (FX0 o)); have G2 : ∀ o, w2.frozen? ⟨w.heap.size + 1, o, none⟩ = false := (fun o => (hD2.frozen (p := ⟨w.heap.size + 1, o, none⟩) lY).trans (FY0 o)))
            | (go_at_call 107; (with_reducible refine (up_at _ _ _ _ _ A k n _ (by first | with_reducible exact unhide HZA1 | with_reducible exact unhide HZA) ((unhide HX).below (Below.refl _ _).drew) (by omega) (by omega)).mono ?_); rintro r' w1 ⟨neg1, a1, n1, c1, rfl, hint1, hb1⟩; have hD1 : Below wc.heap.size wc w1 := bthen (Below.refl _ _).drew hb1; obtain ⟨y2, y3⟩ := (unhide HYC).below hD1; obtain ⟨x2, x3⟩ := (unhide HXC).below hD1; have l1X := Nat.lt_of_lt_of_le lX hD1.size; have l1Y := Nat.lt_of_lt_of_le lY hD1.size))
        all_goals
          go_wp2_with fail
          go_meet
          exact ⟨rfl, bal_put hD2 (NmC.mk x4 x5) (NmC.mk y4 y5) ⟨neg1, a1, n1, c1⟩ ⟨neg2, a2, n2, c2⟩ (hint1.mono (by omega)) (hint2.mono (by omega)) R R2 hBW⟩
      · have d2 : IntKind.i64.wrap (-D) ≤ 0 := by rw [unhide HW]; omega
        have d4 : D ≤ 0 := by omega
        have HZA1 := hide (show (0 : Int) = (A : Int) by have := unhide HA; omega)
        have HZC1 := hide (show (0 : Int) = (C : Int) by have := unhide HC; omega)
        go_region_with
          (first
            | (go_at_call 107; have hq := hD1; (with_reducible refine (up_at _ _ _ _ _ C k d _ (by first | with_reducible exact unhide HZC1 | with_reducible exact unhide HZC) ((unhide HY).below hD1) (by omega) (by omega)).mono ?_); rintro r' w2 ⟨neg2, a2, n2, c2, rfl, hint2, hb2⟩; have hD2 := bthen hD1 hb2; have l2X := Nat.lt_of_lt_of_le lX hD2.size; have l2Y := Nat.lt_of_lt_of_le lY hD2.size; replace hint1 := hint1.below hb2; obtain ⟨x4, x5⟩ := (unhide HXC).below hD2; obtain ⟨y4, y5⟩ := (unhide HYC).below hD2; have F2 : ∀ o, w2.frozen? ⟨w.heap.size, o, none⟩ = false := (fun o => (hD2.frozen (p := ⟨w.heap.size, o, none⟩) lX).trans (FX0 o)); have G2 : ∀ o, w2.frozen? ⟨w.heap.size + 1, o, none⟩ = false := (fun o => (hD2.frozen (p := ⟨w.heap.size + 1, o, none⟩) lY).trans (FY0 o)))
            | (go_at_call 107; (with_reducible refine (up_at _ _ _ _ _ A k n _ (by first | with_reducible exact unhide HZA1 | with_reducible exact unhide HZA) ((unhide HX).below (Below.refl _ _).drew) (by omega) (by omega)).mono ?_); rintro r' w1 ⟨neg1, a1, n1, c1, rfl, hint1, hb1⟩; have hD1 : Below wc.heap.size wc w1 := bthen (Below.refl _ _).drew hb1; obtain ⟨y2, y3⟩ := (unhide HYC).below hD1; obtain ⟨x2, x3⟩ := (unhide HXC).below hD1; have l1X := Nat.lt_of_lt_of_le lX hD1.size; have l1Y := Nat.lt_of_lt_of_le lY hD1.size))
        all_goals
          go_wp2_with fail
          go_meet
          exact ⟨rfl, bal_put hD2 (NmC.mk x4 x5) (NmC.mk y4 y5) ⟨neg1, a1, n1, c1⟩ ⟨neg2, a2, n2, c2⟩ (hint1.mono (by omega)) (hint2.mono (by omega)) R R2 hBW⟩
  case rest =>
  obtain ⟨rfl, X, Y, hX, hY, iX, iY, R, R2, hBW⟩ := hcut
  have hQA := Q_pos A
  have hQC := Q_pos C
  have hnA : 0 < n * Q A := Int.mul_pos hn (by omega)
  have hdC : 0 < d * Q C := Int.mul_pos hd (by omega)
  obtain ⟨N1, hN1⟩ : ∃ N1, N1 = n * Q A := ⟨_, rfl⟩
  obtain ⟨D1, hD1⟩ : ∃ D1, D1 = d * Q C := ⟨_, rfl⟩
  have hm1 : 0 ≤ D → n * D1 = N1 * d * Q D.toNat := fun h => by
    have e1 : A = 0 := by have := unhide HA; omega
    have e2 : D.toNat = C := by have := unhide HC; omega
    rw [hN1, hD1, e1, e2]; simp only [Q]; grind
  have hm2 : D < 0 → n * D1 * Q (-D).toNat = N1 * d := fun h => by
    have e1 : C = 0 := by have := unhide HC; omega
    have e2 : (-D).toNat = A := by have := unhide HA; omega
    rw [hN1, hD1, e1, e2]; simp only [Q]; grind
  have HM1 := hide hm1
  have HM2 := hide hm2
  have HDA2 := unhide HDA
  have HB3 : Hid (N1 < 2 * D1 ∧ D1 < 2 * N1) := hide (by rw [hN1, hD1]; exact unhide HB2)
  rw [← hN1] at iX hnA
  rw [← hD1] at iY hdC
  clear hm1 hm2 HA HC HD HW HDA hQA hQC hN1 hD1 HB2
  have HIX := hide iX
  have HIY := hide iY
  have HXC := hide hX
  have HYC := hide hY
  have lX := hX.lt
  have lY := hY.lt
  have lR := R.lt
  have lR2 := R2.lt
  have HK := hide (show ∀ w', Below wc.heap.size wc w' → (w'.cell? ⟨w.heap.size, 0, none⟩ = some (.bool X.neg) ∧ w'.cell? ⟨w.heap.size, 1, none⟩ = some (.slice X.a X.n X.cap) ∧ w'.cell? ⟨w.heap.size + 1, 0, none⟩ = some (.bool Y.neg) ∧ w'.cell? ⟨w.heap.size + 1, 1, none⟩ = some (.slice Y.a Y.n Y.cap)) from fun w' hB => ⟨(hX.below hB).c0, (hX.below hB).c1, (hY.below hB).c0, (hY.below hB).c1⟩)
  clear iX iY hX hY
  obtain ⟨x0, x1, y0, y1⟩ := unhide HK _ (Below.refl _ _)
  have hD0 : Below wc.heap.size wc wc.drew := (Below.refl _ _).drew
  go_wp2_with fail
  go_cut [22] (fun p wx => p = .bool (decide (D1 * 3 < N1 * 2)) ∧ Below wc.heap.size wc wx)
  case first =>
    go_region_held3 (fun w' => w'.cell? ⟨w.heap.size, 0, none⟩ = some (.bool X.neg) ∧ w'.cell? ⟨w.heap.size, 1, none⟩ = some (.slice X.a X.n X.cap) ∧ w'.cell? ⟨w.heap.size + 1, 0, none⟩ = some (.bool Y.neg) ∧ w'.cell? ⟨w.heap.size + 1, 1, none⟩ = some (.slice Y.a Y.n Y.cap)) (first | exact unhide HK _ (by first | with_reducible exact hD0 | with_reducible exact hD4 | with_reducible exact hD3 | with_reducible exact hD2 | with_reducible exact hD1) | go_keep)
      (first
        | (go_at_call 33; have hq := hD3; refine (cmp_int _ _ _ _ _ _ _ _ _ _ (N1 * 2) (D1 * 3) _ ((hint1.below hb2).below hb3) hint3).mono ?_; rintro r' w4 ⟨rfl, hb4⟩; have hD4 := bthen hD3 hb4)
        | (go_at_call 52; have hq := hD2; refine (mul_int _ _ _ _ _ _ _ _ (k + k + 10) 4 D1 3 _ ((unhide HIY).below hD2) hint2 (by omega) (by omega)).mono ?_; rintro r' w3 ⟨neg3, a3, n3, c3, rfl, hint3, hb3⟩; have hD3 := bthen hD2 hb3)
        | (go_at_call 62; have hq := hD1; refine (numOf_int 3 _ (by decide) (by decide)).mono ?_; rintro r' w2 ⟨neg2, a2, n2, c2, rfl, hint2, hb2⟩; have hD2 := bthen hD1 hb2)
        | (go_at_call 107; refine (up_at _ _ _ _ _ 1 (k + k + 10) N1 _ rfl ((unhide HIX).below hD0) (by omega) (by omega)).mono ?_; rintro r' w1 ⟨neg1, a1, n1, c1, rfl, hint1, hb1⟩; have hD1 := bthen hD0 hb1))
    all_goals
      go_wp2_with fail
      go_meet
      exact ⟨congrArg _ (cmp_gtB _ _), hD4⟩
  case rest =>
  obtain ⟨rfl, hb1⟩ := hcut
  have HXC := hide ((unhide HXC).below hb1)
  have HYC := hide ((unhide HYC).below hb1)
  have HIX := hide ((unhide HIX).below hb1)
  have HIY := hide ((unhide HIY).below hb1)
  replace R := R.below hb1
  replace R2 := R2.below hb1
  replace hBW := bthen hBW hb1
  have lX := (unhide HXC).lt
  have lY := (unhide HYC).lt
  have lR := R.lt
  have lR2 := R2.lt
  have HK := hide (show ∀ w', Below wc.heap.size wc w' → (w'.cell? ⟨w.heap.size, 0, none⟩ = some (.bool X.neg) ∧ w'.cell? ⟨w.heap.size, 1, none⟩ = some (.slice X.a X.n X.cap) ∧ w'.cell? ⟨w.heap.size + 1, 0, none⟩ = some (.bool Y.neg) ∧ w'.cell? ⟨w.heap.size + 1, 1, none⟩ = some (.slice Y.a Y.n Y.cap)) from fun w' hB => ⟨((unhide HXC).below hB).c0, ((unhide HXC).below hB).c1, ((unhide HYC).below hB).c0, ((unhide HYC).below hB).c1⟩)
  clear x0 x1 y0 y1 hD0
  obtain ⟨x0, x1, y0, y1⟩ := unhide HK _ (Below.refl _ _)
  have hD0 : Below wc.heap.size wc wc.drew := (Below.refl _ _).drew
  have n1 : w.heap.size ≠ w.heap.size + 1 + 1 := by omega
  have n2 : w.heap.size ≠ w.heap.size + 1 + 1 + 1 := by omega
  have n3 : w.heap.size + 1 ≠ w.heap.size + 1 + 1 := by omega
  have n4 : w.heap.size + 1 ≠ w.heap.size + 1 + 1 + 1 := by omega
  have n5 : w.heap.size + 1 + 1 ≠ w.heap.size + 1 + 1 + 1 := by omega
  have n6 : w.heap.size + 1 + 1 + 1 ≠ w.heap.size + 1 + 1 := by omega
  have n7 : w.heap.size + 1 + 1 ≠ w.heap.size := by omega
  have n8 : w.heap.size + 1 + 1 + 1 ≠ w.heap.size := by omega
  have n9 : w.heap.size + 1 + 1 ≠ w.heap.size + 1 := by omega
  have n10 : w.heap.size + 1 + 1 + 1 ≠ w.heap.size + 1 := by omega
  by_cases hc : D1 * 3 < N1 * 2
  · have HR : Hid (Bal n d N1 (D1 * 2) (D + 1)) := hide (by
      exact bal_a hnA hdC (unhide HM1) (unhide HM2) (unhide HB3).1 (unhide HB3).2 hc)
    have HW1 := hide (show IntKind.i64.wrap (D + 1) = D + 1 from i64_id _ (by omega) (by omega))
    have Hc := hide hc
    go_wp2_with fail
    go_region_held3 (fun w' => w'.cell? ⟨w.heap.size, 0, none⟩ = some (.bool X.neg) ∧ w'.cell? ⟨w.heap.size, 1, none⟩ = some (.slice X.a X.n X.cap) ∧ w'.cell? ⟨w.heap.size + 1, 0, none⟩ = some (.bool Y.neg) ∧ w'.cell? ⟨w.heap.size + 1, 1, none⟩ = some (.slice Y.a Y.n Y.cap)) (first | exact unhide HK _ (by first | with_reducible exact hD0 | with_reducible exact hD1) | go_keep)
      (first
        | (go_at_call 107; refine (up_at _ _ _ _ _ 1 (k + k + 10) D1 _ rfl ((unhide HIY).below hD0) (by omega) (by omega)).mono ?_; rintro r' w1 ⟨neg1, a1, n1', c1, rfl, hint1, hb1⟩; have hD1 := bthen hD0 hb1; obtain ⟨q0, q1, q2⟩ := R.below hD1; obtain ⟨p0, p1, p2⟩ := R2.below hD1; obtain ⟨z0, z1, z2, z3⟩ := unhide HK _ hD1))
    all_goals
      have HE := bal_end (w := w) (K := k + k + 20) (R.below hD1) (R2.below hD1) (X := X) (Y := ⟨neg1, a1, n1', c1⟩) (((unhide HIX).below hD1).mono (by omega)) (hint1.mono (by omega)) (bthen hBW hD1)
      go_wp2_with fail
      refine bodyPost_ret (v := .tuple #[.agg #[.bool X.neg, .slice X.a X.n X.cap], .agg #[.bool neg1, .slice a1 n1' c1], .int .i64 (IntKind.i64.wrap (D + 1))]) (by simp [results, Try.results152, go_sem, q0, q1, p0, p1, n5, n6]) rfl ⟨X, ⟨neg1, a1, n1', c1⟩, N1, (D1 * 2), _, rfl, by rw [unhide HW1]; exact unhide HR, by rw [unhide HW1]; omega, by rw [unhide HW1]; omega, HE.1, HE.2.1, HE.2.2⟩
  · have Hc := hide hc
    go_wp2_with fail
    go_cut [35] (fun p wx => p = .bool (decide (N1 * 4 < D1 * 3)) ∧ Below wc.heap.size wc wx)
    case first =>
      go_region_held3 (fun w' => w'.cell? ⟨w.heap.size, 0, none⟩ = some (.bool X.neg) ∧ w'.cell? ⟨w.heap.size, 1, none⟩ = some (.slice X.a X.n X.cap) ∧ w'.cell? ⟨w.heap.size + 1, 0, none⟩ = some (.bool Y.neg) ∧ w'.cell? ⟨w.heap.size + 1, 1, none⟩ = some (.slice Y.a Y.n Y.cap)) (first | exact unhide HK _ (by first | with_reducible exact hD0 | with_reducible exact hD4 | with_reducible exact hD3 | with_reducible exact hD2 | with_reducible exact hD1) | go_keep)
        (first
          | (go_at_call 33; have hq := hD3; refine (cmp_int _ _ _ _ _ _ _ _ _ _ (N1 * 4) (D1 * 3) _ ((hint1.below hb2).below hb3) hint3).mono ?_; rintro r' w4 ⟨rfl, hb4⟩; have hD4 := bthen hD3 hb4)
          | (go_at_call 52; have hq := hD2; refine (mul_int _ _ _ _ _ _ _ _ (k + k + 10) 4 D1 3 _ ((unhide HIY).below hD2) hint2 (by omega) (by omega)).mono ?_; rintro r' w3 ⟨neg3, a3, n3, c3, rfl, hint3, hb3⟩; have hD3 := bthen hD2 hb3)
          | (go_at_call 62; have hq := hD1; refine (numOf_int 3 _ (by decide) (by decide)).mono ?_; rintro r' w2 ⟨neg2, a2, n2, c2, rfl, hint2, hb2⟩; have hD2 := bthen hD1 hb2)
          | (go_at_call 107; refine (up_at _ _ _ _ _ 2 (k + k + 10) N1 _ rfl ((unhide HIX).below hD0) (by omega) (by omega)).mono ?_; rintro r' w1 ⟨neg1, a1, n1, c1, rfl, hint1, hb1⟩; have hD1 := bthen hD0 hb1))
      all_goals
        go_wp2_with fail
        go_meet
        exact ⟨congrArg _ (cmp_ltB _ _), hD4⟩
    case rest =>
    obtain ⟨rfl, hb1⟩ := hcut
    have HXC := hide ((unhide HXC).below hb1)
    have HYC := hide ((unhide HYC).below hb1)
    have HIX := hide ((unhide HIX).below hb1)
    have HIY := hide ((unhide HIY).below hb1)
    replace R := R.below hb1
    replace R2 := R2.below hb1
    replace hBW := bthen hBW hb1
    have lX := (unhide HXC).lt
    have lY := (unhide HYC).lt
    have lR := R.lt
    have lR2 := R2.lt
    have HK := hide (show ∀ w', Below wc.heap.size wc w' → (w'.cell? ⟨w.heap.size, 0, none⟩ = some (.bool X.neg) ∧ w'.cell? ⟨w.heap.size, 1, none⟩ = some (.slice X.a X.n X.cap) ∧ w'.cell? ⟨w.heap.size + 1, 0, none⟩ = some (.bool Y.neg) ∧ w'.cell? ⟨w.heap.size + 1, 1, none⟩ = some (.slice Y.a Y.n Y.cap)) from fun w' hB => ⟨((unhide HXC).below hB).c0, ((unhide HXC).below hB).c1, ((unhide HYC).below hB).c0, ((unhide HYC).below hB).c1⟩)
    clear x0 x1 y0 y1 hD0
    obtain ⟨x0, x1, y0, y1⟩ := unhide HK _ (Below.refl _ _)
    have hD0 : Below wc.heap.size wc wc.drew := (Below.refl _ _).drew
    by_cases hc2 : N1 * 4 < D1 * 3
    · have HR : Hid (Bal n d (N1 * 2) D1 (D - 1)) := hide (by
          exact bal_b hnA hdC (unhide HM1) (unhide HM2) (unhide HB3).1 (unhide HB3).2 hc2)
      have HW1 := hide (show IntKind.i64.wrap (D - 1) = D - 1 from i64_id _ (by omega) (by omega))
      have Hc2 := hide hc2
      go_wp2_with fail
      go_region_held3 (fun w' => w'.cell? ⟨w.heap.size, 0, none⟩ = some (.bool X.neg) ∧ w'.cell? ⟨w.heap.size, 1, none⟩ = some (.slice X.a X.n X.cap) ∧ w'.cell? ⟨w.heap.size + 1, 0, none⟩ = some (.bool Y.neg) ∧ w'.cell? ⟨w.heap.size + 1, 1, none⟩ = some (.slice Y.a Y.n Y.cap)) (first | exact unhide HK _ (by first | with_reducible exact hD0 | with_reducible exact hD1) | go_keep)
        (first
          | (go_at_call 107; refine (up_at _ _ _ _ _ 1 (k + k + 10) N1 _ rfl ((unhide HIX).below hD0) (by omega) (by omega)).mono ?_; rintro r' w1 ⟨neg1, a1, n1', c1, rfl, hint1, hb1⟩; have hD1 := bthen hD0 hb1; obtain ⟨q0, q1, q2⟩ := R.below hD1; obtain ⟨p0, p1, p2⟩ := R2.below hD1; obtain ⟨z0, z1, z2, z3⟩ := unhide HK _ hD1))
      all_goals
        have HE := bal_end (w := w) (K := k + k + 20) (R.below hD1) (R2.below hD1) (X := ⟨neg1, a1, n1', c1⟩) (Y := Y) (hint1.mono (by omega)) (((unhide HIY).below hD1).mono (by omega)) (bthen hBW hD1)
        go_wp2_with fail
        refine bodyPost_ret (v := .tuple #[.agg #[.bool neg1, .slice a1 n1' c1], .agg #[.bool Y.neg, .slice Y.a Y.n Y.cap], .int .i64 (IntKind.i64.wrap (D - 1))]) (by simp [results, Try.results152, go_sem, q0, q1, p0, p1, n5, n6]) rfl ⟨⟨neg1, a1, n1', c1⟩, Y, (N1 * 2), D1, _, rfl, by rw [unhide HW1]; exact unhide HR, by rw [unhide HW1]; omega, by rw [unhide HW1]; omega, HE.1, HE.2.1, HE.2.2⟩
    · have HR : Hid (Bal n d N1 D1 D) := hide (by
          exact bal_c hnA hdC (unhide HM1) (unhide HM2) (by have := unhide Hc; omega) hc2)
      have Hc2 := hide hc2
      go_wp2_with fail
      have HR1 := R
      have HR2 := R2
      obtain ⟨q0, q1, q2⟩ := R
      obtain ⟨p0, p1, p2⟩ := R2
      go_region
      all_goals
        have HE := bal_end (w := w) (K := k + k + 20) (HR1.below (Below.refl _ _).drew) (HR2.below (Below.refl _ _).drew) (X := X) (Y := Y) (((unhide HIX).below (Below.refl _ _).drew).mono (by omega)) (((unhide HIY).below (Below.refl _ _).drew).mono (by omega)) (bthen hBW (Below.refl _ _).drew)
        go_wp2_with fail
        refine bodyPost_ret (v := .tuple #[.agg #[.bool X.neg, .slice X.a X.n X.cap], .agg #[.bool Y.neg, .slice Y.a Y.n Y.cap], .int .i64 (D)]) (by simp [results, Try.results152, go_sem, q0, q1, p0, p1, n5, n6]) rfl ⟨X, Y, N1, D1, _, rfl, by exact unhide HR, by omega, by omega, HE.1, HE.2.1, HE.2.2⟩
end Go.Proofs.Ytgmnknmjainabaa

namespace Go.Proofs.Ytgmnknmjainabaa
set_option linter.unusedVariables false
set_option linter.unusedSimpArgs false
set_option linter.unnecessarySimpa false
open Go.RowKit
attribute [local go_sem ↓] Go.wp_at_zero Go.wp_at_succ

theorem scale_iv (w : World) (s : Sp) (x y : Nm) (k k1 k2 b : Nat) (a : Int × Int) (n d : Int) (hs : SpAt w s k a.1 a.2) (h1 : IntAt w x.neg x.a x.n x.cap k1 n) (h2 : IntAt w y.neg y.a y.n y.cap k2 d) (hk : k ≤ 300000000) (hk1 : k1 ≤ 300000000) (hd : 0 < d) (hb : s.bits = (b : Int)) :
    Calls Try.prog 149 #[.agg #[.bool s.ln, .slice s.la s.lN s.lc, .bool s.hn, .slice s.ha s.hN s.hc, .int .i64 s.bits], .agg #[.bool x.neg, .slice x.a x.n x.cap], .agg #[.bool y.neg, .slice y.a y.n y.cap]] w (SpanAns w b (k + k1 + 10) (scaleI a n d).1 (scaleI a n d).2) :=
  (scale_int w s _ _ _ _ _ _ _ _ k k1 k2 a.1 a.2 n d hs h1 h2 hk hk1 hd).mono fun r w' h => by rw [hb] at h; exact h

set_option maxRecDepth 100000 in
set_option maxHeartbeats 2000000 in
theorem ln1_iv (w : World) (B0 : Nat) (s u : Sp) (k b : Nat) (n : Int) (a c : Int × Int) (hs : SpAt w s k a.1 a.2) (hu : SpAt w u k c.1 c.2) (hU : SpC w B0 u) (hk : k ≤ 100000000) (hb : s.bits = (b : Int)) (hbm : b ≤ 1000000) (hn : 1 ≤ n) (hn2 : n ≤ 1000000000000) :
    Calls Try.prog 156 #[.agg #[.bool s.ln, .slice s.la s.lN s.lc, .bool s.hn, .slice s.ha s.hN s.hc, .int .i64 s.bits], .int .i64 n, .pointer (some ⟨B0, 0, none⟩)] w (SpanAns w b (k + k + 8 + 4 + 10) (scaleI (mulI b a c) (2 * n - 1) (2 * n + 1)).1 (scaleI (mulI b a c) (2 * n - 1) (2 * n + 1)).2) := by
  obtain ⟨W, hW⟩ : ∃ W, W = (w.alloc (.cells #[.bool s.ln, .slice s.la s.lN s.lc, .bool s.hn, .slice s.ha s.hN s.hc, .int .i64 s.bits] 26)).alloc (.cells #[.bool false, .slice none 0 0, .bool false, .slice none 0 0, .int .i64 0] 26) := ⟨_, rfl⟩
  have hBW : Below w.heap.size w W := by rw [hW]; exact bl2 _ _ _
  have R : NoC W (w.heap.size + 1) := by rw [hW]; exact ⟨by simp [go_sem], by simp [go_sem], by simp [go_sem], by simp [go_sem], by simp [go_sem], fun o => by simp [go_sem]⟩
  have HS := hide (hs.below hBW)
  have HU := hide (hu.below hBW)
  have l0 := hU.lt
  obtain ⟨y0, y1, y2, y3, y4⟩ := hU
  have HB := hide hb
  clear hs hu hb
  go_enter Try.func156, Try.ntmps156
  go_wp2_with fail
  rw [← hW]
  clear hW
  refine (mul_iv _ s u k b a c (unhide HS) (unhide HU) (by omega) (unhide HB) hbm).mono ?_
  rintro r' w1 ⟨v, rfl, hvb, hvp, hb1⟩
  have HV := hide hvb
  clear hvb y0 y1 y2 y3 y4
  replace R := R.below hb1
  replace hBW := bthen hBW hb1
  go_wp2_with fail
  refine (numOf_int (2 * n - 1) _ (by omega) (by omega)).mono ?_
  rintro r' w2 ⟨neg2, a2, n2, c2, rfl, hint2, hb2⟩
  replace R := R.below hb2
  replace hBW := bthen hBW hb2
  replace hvp := hvp.below hb2
  go_wp2_with fail
  refine (numOf_int (2 * n + 1) _ (by omega) (by omega)).mono ?_
  rintro r' w3 ⟨neg3, a3, n3, c3, rfl, hint3, hb3⟩
  replace R := R.below hb3
  replace hBW := bthen hBW hb3
  replace hvp := hvp.below hb3
  replace hint2 := hint2.below hb3
  go_wp2_with fail
  refine (scale_iv _ v ⟨neg2, a2, n2, c2⟩ ⟨neg3, a3, n3, c3⟩ _ _ _ b _ (2 * n - 1) (2 * n + 1) hvp hint2 hint3 (by omega) (by omega) (by omega) (unhide HV)).mono ?_
  rintro r' w4 ⟨t, rfl, htb, htp, hb4⟩
  obtain ⟨q0, q1, q2, q3, q4, q5⟩ := R.below hb4
  replace hBW := bthen hBW hb4
  have HT := hide htb
  clear htb
  go_wp2_with fail
  refine bodyPost_ret (v := .agg #[.bool t.ln, .slice t.la t.lN t.lc, .bool t.hn, .slice t.ha t.hN t.hc, .int .i64 t.bits]) (by simp [results, Try.results156, go_sem, q0, q1, q2, q3, q4]) rfl ⟨t, rfl, unhide HT, ?_, ?_⟩
  · exact SpAt.put5 (htp.mono (by omega)) q0 q1 q2 q3 q4 _ _ _ _ _
  · exact set5 hBW (Nat.le_succ _) _ _ _ _ _

set_option maxRecDepth 100000 in
set_option maxHeartbeats 4000000 in
theorem sum_ln (p1 : Value) (f : Nat → Int × Int) (N b K KF : Nat) (s : Sp) (W : World) (hs : SpAt W s K (f 0).1 (f 0).2) (hbits : s.bits = (b : Int)) (hb : b ≤ 1000000) (hK : K ≤ 100000000) (hKF : KF ≤ 900000000) (hN : IsStop f N) (hNb : N ≤ 1000000000)
    (hle : ∀ n, (f n).1 ≤ (f n).2) (hfit : ∀ n, n ≤ N → -P K < (f n).1 ∧ (f n).2 < P K) (hfitS : ∀ n, n ≤ N → -P K < (sumI f n).1 ∧ (sumI f n).2 < P K)
    (hF : ∀ (n : Nat) (u : Sp) w', n < N → u.bits = (b : Int) → SpAt w' u K (f n).1 (f n).2 → Below W.heap.size W w' → Calls Try.prog 156 #[.agg #[.bool u.ln, .slice u.la u.lN u.lc, .bool u.hn, .slice u.ha u.hN u.hc, .int .i64 u.bits], .int .i64 ((n : Int) + 1), p1] w' (SpanAns w' b KF (f (n + 1)).1 (f (n + 1)).2)) :
    Calls Try.prog 135 #[.agg #[.bool s.ln, .slice s.la s.lN s.lc, .bool s.hn, .slice s.ha s.hN s.hc, .int .i64 s.bits], .func (.func 156) #[] #[p1]] W (SpanAns W b (K + 3) (doneI f N).1 (doneI f N).2) := by
  have HF := hide hF
  have HN := hide hN
  have HBT := hide hbits
  clear hF hN hbits
  obtain ⟨V, hV⟩ : ∃ V, V = (W.alloc (.cells #[.bool s.ln, .slice s.la s.lN s.lc, .bool s.hn, .slice s.ha s.hN s.hc, .int .i64 s.bits] 26)).alloc (.cells #[.bool false, .slice none 0 0, .bool false, .slice none 0 0, .int .i64 0] 26) := ⟨_, rfl⟩
  have hBV : Below W.heap.size W V := by rw [hV]; exact bl2 _ _ _
  have A : SpC V W.heap.size s := by rw [hV]; exact ⟨by simp [go_sem], by simp [go_sem], by simp [go_sem], by simp [go_sem], by simp [go_sem]⟩
  have R : NoC V (W.heap.size + 1) := by rw [hV]; exact ⟨by simp [go_sem], by simp [go_sem], by simp [go_sem], by simp [go_sem], by simp [go_sem], fun o => by simp [go_sem]⟩
  have HS := hide (hs.below hBV)
  have lA := A.lt
  have lR := R.lt
  clear hs
  go_enter Try.func135, Try.ntmps135
  go_wp2
  rw [← hV]
  clear hV
  go_cut [5, 6] (fun p q wx => TwoS V wx s s p q)
  case first =>
    obtain ⟨x0, x1, x2, x3, x4⟩ := A
    go_region
    all_goals
      go_wp2_with fail
      go_meet
      first
        | with_reducible exact twoS_a _ _ _ _
        | with_reducible exact twoS_b _ _ _ _
  case rest =>
  obtain ⟨B5, B6, rfl, rfl, l5, l6, hne, X, Y, hB⟩ := hcut
  have n5 : W.heap.size + 1 < B5 := by omega
  have n6 : W.heap.size + 1 < B6 := by omega
  have st0 : SumSt W wc B5 B6 b K s s s f 0 := ⟨X, Y, (unhide HS).below hB, (unhide HS).below hB, unhide HBT, unhide HBT, A.below hB, R.below hB, bthen hBV hB, n5, n6, hne⟩
  clear X Y hB A R HS l5 l6 n5 n6 hne hBV lA lR
  go_wp2_with fail
  go_loopw [7] (fun nn wr => ∃ (i : Nat) (X Y : Sp), nn = .int .i64 ((i : Int) + 1) ∧ i ≤ N ∧ SumSt W wr B5 B6 b K s X Y f i) (fun nn _ => N + 1 - (intOf nn).toNat)
  case atStart => exact ⟨0, s, s, rfl, Nat.zero_le _, st0⟩
  case round =>
    obtain ⟨i, X, Y, rfl, hi, st⟩ := hrel
    have hr0 := reach_pair (hle i)
    obtain ⟨⟨y0, y1, y2, y3, y4⟩, y5⟩ := st.y
    go_wp2_with fail
    refine (reach_int _ Y K _ _ st.yp (by omega)).mono ?_
    rintro r w1 ⟨neg1, a1, n1, c1, rfl, hint1, hb1⟩
    replace st := st.below hb1
    clear hb1 y0 y1 y2 y3 y4 y5
    go_wp2_with fail
    refine (len_int _ _ _ _ _ (reachI (f i)) _ hint1 hr0).mono ?_
    rintro r w2 ⟨l, hlen, rfl, hb2⟩
    replace st := st.below hb2
    clear hb2 hint1
    by_cases hin : i < N
    · have hl : 1 < l := by
        refine Int.not_le.1 fun hl => ?_
        have := len_one hlen hl hr0
        have := (unhide HN).2 i hin
        omega
      clear hlen
      obtain ⟨⟨y0, y1, y2, y3, y4⟩, y5⟩ := st.y
      go_wp2_with fail
      refine (unhide HF i Y _ hin st.yb st.yp st.be).mono ?_
      rintro r w3 ⟨u, rfl, hub, hup, hb3⟩
      replace st := st.below hb3
      replace hup := hup.fits (K := K) (hle _) (hfit _ (by omega)).1 (hfit _ (by omega)).2
      have HU := hide hub
      clear hb3 y0 y1 y2 y3 y4 y5 hub
      obtain ⟨V3, hV3⟩ : ∃ V3, V3 = put5w w3 B6 u := ⟨_, rfl⟩
      have X3 : VrC V3 B5 X := by rw [hV3]; exact st.x.off st.ne u
      have Y3 : VrC V3 B6 u := by rw [hV3]; exact st.y.put u
      have P3 : SpAt V3 X K (sumI f i).1 (sumI f i).2 := by rw [hV3]; exact st.xp.put st.y.c u
      have U3 : SpAt V3 u K (f (i + 1)).1 (f (i + 1)).2 := by rw [hV3]; exact hup.put st.y.c u
      have F3 : SpC V3 W.heap.size s := by rw [hV3]; exact st.fs.off (by have := st.l6; omega) u
      have R3 : NoC V3 (W.heap.size + 1) := by rw [hV3]; exact st.no.off (by have := st.l6; omega) u
      have B3 : Below W.heap.size W V3 := by rw [hV3]; exact below_put st.be (by have := st.l6; omega) u
      have xb := hide st.xb
      have l5 := st.l5
      have l6 := st.l6
      have hne := st.ne
      have lY := st.y.lt
      have lX := st.x.lt
      obtain ⟨⟨y0, y1, y2, y3, y4⟩, y5⟩ := st.y
      obtain ⟨⟨x0, x1, x2, x3, x4⟩, x5⟩ := st.x
      clear st hup
      go_wp2_with fail
      have hV3' : V3 = put5w w3 B6 u := hV3
      unfold put5w at hV3'
      rw [← hV3']
      clear hV3' y0 y1 y2 y3 y4 y5 x0 x1 x2 x3 x4 x5
      have lX3 : B5 < V3.heap.size := X3.lt
      refine (add_iv _ X u K b (sumI f i) (f (i + 1)) P3 U3 (by omega) (unhide xb)).mono ?_
      rintro r w4 ⟨v, rfl, hvb, hvp, hb4⟩
      have X4 := X3.below hb4
      have Y4 := Y3.below hb4
      have U4 := U3.below hb4
      have F4 := F3.below hb4
      have R4 := R3.below hb4
      have B4 := bthen B3 hb4
      have e : addI (sumI f i) (f (i + 1)) = sumI f (i + 1) := rfl
      rw [e] at hvp
      replace hvp := hvp.fits (K := K) (sum_le hle _) (hfitS _ (by omega)).1 (hfitS _ (by omega)).2
      have HV := hide hvb
      clear hb4 hvb X3 Y3 P3 U3 F3 R3 B3 hV3
      have stn : SumSt W (put5w w4 B5 v) B5 B6 b K s v u f (i + 1) := ⟨X4.put v, Y4.off (Ne.symm hne) v, hvp.put X4.c v, U4.put X4.c v, unhide HV, unhide HU, F4.off (by omega) v, R4.off (by omega) v, below_put B4 (by omega) v, l5, l6, hne⟩
      unfold put5w at stn
      obtain ⟨⟨x0, x1, x2, x3, x4⟩, x5⟩ := X4
      go_wp2_with fail
      go_roundw
      case rel => exact ⟨i + 1, v, u, by go_num, by omega, stn⟩
      case measure => simp [intOf]; omega
    · have hie : i = N := by omega
      subst hie
      have hl : ¬ 1 < l := by
        have h1 := (unhide HN).1
        intro hl
        obtain ⟨g1, g2, g3⟩ := hlen
        by_cases hp : 0 < reachI (f i)
        · obtain ⟨L, e1, e2, e3⟩ := g3 hp
          have : 1 ≤ L := by omega
          have := Q_mono this
          have : Q 1 = 2 := rfl
          omega
        · have := g2 (by omega); omega
      clear hlen
      obtain ⟨⟨y0, y1, y2, y3, y4⟩, y5⟩ := st.y
      go_wp2_with fail
      refine (reach_int _ Y K _ _ st.yp (by omega)).mono ?_
      rintro r w3 ⟨neg3, a3, n3, c3, rfl, hint3, hb3⟩
      replace st := st.below hb3
      clear hb3 y0 y1 y2 y3 y4 y5
      obtain ⟨V3, hV3⟩ : ∃ V3, V3 = w3.alloc (.cells #[.bool neg3, .slice a3 n3 c3] 24) := ⟨_, rfl⟩
      have bV : Below w3.heap.size w3 V3 := by rw [hV3]; exact bl1 _ _
      have L3 : NmC V3 w3.heap.size ⟨neg3, a3, n3, c3⟩ := by rw [hV3]; exact nmc_new w3 ⟨neg3, a3, n3, c3⟩ _
      have st3 := st.below bV
      have HI := hide (hint3.below bV)
      have l5 := st.l5
      have lX := st.x.lt
      have HKr := hide (show ∀ w', Below V3.heap.size V3 w' → (w'.cell? ⟨B5, 0, none⟩ = some (.bool X.ln) ∧ w'.cell? ⟨B5, 1, none⟩ = some (.slice X.la X.lN X.lc) ∧ w'.cell? ⟨B5, 2, none⟩ = some (.bool X.hn) ∧ w'.cell? ⟨B5, 3, none⟩ = some (.slice X.ha X.hN X.hc) ∧ w'.cell? ⟨B5, 4, none⟩ = some (.int .i64 X.bits) ∧ w'.cell? ⟨w3.heap.size, 0, none⟩ = some (.bool neg3) ∧ w'.cell? ⟨w3.heap.size, 1, none⟩ = some (.slice a3 n3 c3) ∧ w'.cell? ⟨W.heap.size, 4, none⟩ = some (.int .i64 s.bits)) from fun w' hB => ⟨(st3.x.c.below hB).c0, (st3.x.c.below hB).c1, (st3.x.c.below hB).c2, (st3.x.c.below hB).c3, (st3.x.c.below hB).c4, (L3.below hB).c0, (L3.below hB).c1, (st3.fs.below hB).c4⟩)
      have lL := L3.lt
      have R3 := st3.no
      have lR3 := R3.lt
      clear st L3 hint3
      go_wp2_with fail
      rw [← hV3]
      clear hV3
      obtain ⟨x0, x1, x2, x3, x4, x5, x6, x7⟩ := unhide HKr _ (Below.refl _ _)
      have hD0 : Below V3.heap.size V3 V3.drew := (Below.refl _ _).drew
      have nR1 : W.heap.size + 1 ≠ B5 := by omega
      have nR2 : W.heap.size + 1 ≠ w3.heap.size := by omega
      have nR3 : W.heap.size + 1 ≠ W.heap.size := by omega
      go_region_held3 (fun w' => w'.cell? ⟨B5, 0, none⟩ = some (.bool X.ln) ∧ w'.cell? ⟨B5, 1, none⟩ = some (.slice X.la X.lN X.lc) ∧ w'.cell? ⟨B5, 2, none⟩ = some (.bool X.hn) ∧ w'.cell? ⟨B5, 3, none⟩ = some (.slice X.ha X.hN X.hc) ∧ w'.cell? ⟨B5, 4, none⟩ = some (.int .i64 X.bits) ∧ w'.cell? ⟨w3.heap.size, 0, none⟩ = some (.bool neg3) ∧ w'.cell? ⟨w3.heap.size, 1, none⟩ = some (.slice a3 n3 c3) ∧ w'.cell? ⟨W.heap.size, 4, none⟩ = some (.int .i64 s.bits)) (first | exact unhide HKr _ (by first | with_reducible exact hD0 | with_reducible exact hD2 | with_reducible exact hD1) | go_keep)
        (first
          | (go_at_call 82; have hq := hD1; refine (add_iv _ X ⟨neg4, a4, n4, c4, neg3, a3, n3, c3, s.bits⟩ (K + 1) b (sumI f i) (-reachI (f i), reachI (f i)) ((st3.xp.below hD1).mono (by omega)) ⟨hint4, (unhide HI).below hD1⟩ (by omega) st3.xb).mono ?_; rintro r' w5 ⟨v, rfl, hvb, hvp, hb5⟩; have hD2 := bthen hD1 hb5; have HV := hide hvb; clear hvb; obtain ⟨q0, q1, q2, q3, q4, q5⟩ := R3.below hD2; obtain ⟨y0, y1, y2, y3, y4, y5, y6, y7⟩ := unhide HKr _ hD2)
          | (go_at_call 80; refine (neg_int _ _ _ _ (K + 1) (reachI (f i)) _ ((unhide HI).below hD0) (by omega)).mono ?_; rintro r' w4 ⟨neg4, a4, n4, c4, rfl, hint4, hb4⟩; have hD1 := bthen hD0 hb4))
      all_goals
        go_wp2_with fail
        refine bodyPost_ret (v := .agg #[.bool v.ln, .slice v.la v.lN v.lc, .bool v.hn, .slice v.ha v.hN v.hc, .int .i64 v.bits]) (by simp [results, Try.results135, go_sem, q0, q1, q2, q3, q4]) rfl ⟨v, rfl, unhide HV, ?_, ?_⟩
        · exact SpAt.put5 (hvp.mono (by omega)) q0 q1 q2 q3 q4 _ _ _ _ _
        · exact set5 (bthen st3.be hD2) (Nat.le_succ _) _ _ _ _ _

set_option maxRecDepth 100000 in
set_option maxHeartbeats 4000000 in
theorem logNear_iv (w : World) (x y : Nm) (k b N K : Nat) (n d : Int) (hx : IntAt w x.neg x.a x.n x.cap k n) (hy : IntAt w y.neg y.a y.n y.cap k d) (hk : k ≤ 10000000) (h1 : NearOne n d) (hb16 : 16 ≤ b) (hb : b ≤ 1000000) (hN : IsStop (lnT n d b) N) (hK : Q (b + 4) < P K) (hK2 : K ≤ 10000000) :
    Calls Try.prog 153 #[.agg #[.bool x.neg, .slice x.a x.n x.cap], .agg #[.bool y.neg, .slice y.a y.n y.cap], .int .i64 b] w (SpanAns w b (K + 7) (timesI (doneI (lnT n d b) N) 2).1 (timesI (doneI (lnT n d b) N) 2).2) := by
  obtain ⟨W, hW⟩ : ∃ W, W = ((w.alloc (.cells #[.bool x.neg, .slice x.a x.n x.cap] 24)).alloc (.cells #[.bool y.neg, .slice y.a y.n y.cap] 24)).alloc (.cells #[.bool false, .slice none 0 0, .bool false, .slice none 0 0, .int .i64 0] 26) := ⟨_, rfl⟩
  have hBW : Below w.heap.size w W := by rw [hW]; exact bl3 _ _ _ _
  have X : NmC W w.heap.size x := by rw [hW]; exact ⟨by simp [go_sem], by simp [go_sem]⟩
  have Y : NmC W (w.heap.size + 1) y := by rw [hW]; exact ⟨by simp [go_sem], by simp [go_sem]⟩
  have R : NoC W (w.heap.size + 1 + 1) := by rw [hW]; exact ⟨by simp [go_sem], by simp [go_sem], by simp [go_sem], by simp [go_sem], by simp [go_sem], fun o => by simp [go_sem]⟩
  have HX := hide (hx.below hBW)
  have HY := hide (hy.below hBW)
  have lX := X.lt
  have lY := Y.lt
  have lR := R.lt
  have hnd : 0 < n + d := by have := h1.hn; have := h1.hd; omega
  have hQb := Q_pos b
  have hQK : Q b * 16 < P K := by
    have e : Q (b + 4) = 2 * (2 * (2 * (2 * Q b))) := rfl
    omega
  have hza := zI_absB h1 hb16
  have hfitz : -P K < (zI n d b).1 ∧ (zI n d b).2 < P K := by have := hza.1; have := hza.2.2.2; omega
  have hsa := sqI_abs h1 hb16
  have hfitq : -P K < (mulI b (zI n d b) (zI n d b)).1 ∧ (mulI b (zI n d b) (zI n d b)).2 < P K := by
    have := hsa.1; have := hsa.2.2.2; have := Q_mono (show b - 3 ≤ b by omega); omega
  have HFZ := hide hfitz
  have HFQ := hide hfitq
  have HZL := hide (ofI_le (n := n - d) hnd b)
  have H1 := hide h1
  have HN := hide hN
  have HK := hide (show ∀ w', Below W.heap.size W w' → (w'.cell? ⟨w.heap.size, 0, none⟩ = some (.bool x.neg) ∧ w'.cell? ⟨w.heap.size, 1, none⟩ = some (.slice x.a x.n x.cap) ∧ w'.cell? ⟨w.heap.size + 1, 0, none⟩ = some (.bool y.neg) ∧ w'.cell? ⟨w.heap.size + 1, 1, none⟩ = some (.slice y.a y.n y.cap)) from fun w' hB => ⟨(X.below hB).c0, (X.below hB).c1, (Y.below hB).c0, (Y.below hB).c1⟩)
  clear hx hy hza hfitz hsa hfitq h1 hN
  go_enter Try.func153, Try.ntmps153
  go_wp2
  rw [← hW]
  clear hW
  obtain ⟨x0, x1, x2, x3⟩ := unhide HK _ (Below.refl _ _)
  go_cut [7] (fun p wx => ∃ (B : Nat) (u : Sp), p = .pointer (some ⟨B, 0, none⟩) ∧ W.heap.size ≤ B ∧ VrC wx B u ∧ SpAt wx u K (zI n d b).1 (zI n d b).2 ∧ u.bits = (b : Int) ∧ Below W.heap.size W wx)
  case first =>
    go_region_held3 (fun w' => w'.cell? ⟨w.heap.size, 0, none⟩ = some (.bool x.neg) ∧ w'.cell? ⟨w.heap.size, 1, none⟩ = some (.slice x.a x.n x.cap) ∧ w'.cell? ⟨w.heap.size + 1, 0, none⟩ = some (.bool y.neg) ∧ w'.cell? ⟨w.heap.size + 1, 1, none⟩ = some (.slice y.a y.n y.cap)) (exact unhide HK _ (by repeat' (first | with_reducible exact hBU3 | with_reducible exact hBU2 | with_reducible exact hBU1 | with_reducible exact Below.refl _ _ | with_reducible refine Below.drew ?_ | with_reducible refine balloc ?_ _ | with_reducible refine Below.setCell ?_ (by first | exact Nat.le_refl _ | exact hlU1 | exact hlU2 | exact hlU3) _)))
      (first
        | (go_at_call 71; have hq := hBU2; refine (wideOf_any _ _ _ _ _ _ _ _ _ _ b (n - d) (n + d) _ (hintU1.below (by first | with_reducible exact Below.refl _ _ | with_reducible exact bl1 _ _)) (hintU2.below (by first | with_reducible exact Below.refl _ _ | with_reducible exact bl1 _ _)) (by omega) hb hnd).mono ?_; rintro r wU3 ⟨vU3, rfl, hvbU3, hintU3, hbU3⟩; have HVBU3 := hide hvbU3; clear hvbU3; have hCU3 : Below wU2.heap.size wU2 wU3 := (by first | with_reducible exact hbU3 | with_reducible exact bthen (bl1 _ _) hbU3); have hBU3 := bthen hBU2 hCU3; (try with_reducible have gU3 := (noc_new wU2 26).below hbU3); replace hintU1 := hintU1.below hCU3; (try replace gU1 := gU1.below hCU3); replace hintU2 := hintU2.below hCU3; (try replace gU2 := gU2.below hCU3); have hlU3 := hBU3.size; (try have mU1 := gU1.lt); (try have eU1 := Nat.ne_of_lt mU1); (try have eU1' := Nat.ne_of_gt mU1); (try obtain ⟨zU10, zU11, zU12, zU13, zU14, zU15⟩ := gU1); (try have mU2 := gU2.lt); (try have eU2 := Nat.ne_of_lt mU2); (try have eU2' := Nat.ne_of_gt mU2); (try obtain ⟨zU20, zU21, zU22, zU23, zU24, zU25⟩ := gU2); (try have mU3 := gU3.lt); (try have eU3 := Nat.ne_of_lt mU3); (try have eU3' := Nat.ne_of_gt mU3); (try obtain ⟨zU30, zU31, zU32, zU33, zU34, zU35⟩ := gU3))
        | (go_at_call 49; have hq := hBU1; refine (add_int _ _ _ _ _ _ _ _ k k n d _ ((unhide HX).below (by first | with_reducible exact hBU1 | with_reducible exact balloc hBU1 _)) ((unhide HY).below (by first | with_reducible exact hBU1 | with_reducible exact balloc hBU1 _)) (by omega) (by omega)).mono ?_; rintro r wU2 ⟨negU2, aU2, nU2, cU2, rfl, hintU2, hbU2⟩; have hCU2 : Below wU1.heap.size wU1 wU2 := (by first | with_reducible exact hbU2 | with_reducible exact bthen (bl1 _ _) hbU2); have hBU2 := bthen hBU1 hCU2; (try with_reducible have gU2 := (noc_new wU1 26).below hbU2); replace hintU1 := hintU1.below hCU2; (try replace gU1 := gU1.below hCU2); have hlU2 := hBU2.size)
        | (go_at_call 50; refine (sub_int _ _ _ _ _ _ _ _ k k n d _ ((unhide HX).below (by first | with_reducible exact (Below.refl _ _).drew | with_reducible exact (bl1 _ _).drew)) ((unhide HY).below (by first | with_reducible exact (Below.refl _ _).drew | with_reducible exact (bl1 _ _).drew)) (by omega) (by omega)).mono ?_; rintro r wU1 ⟨negU1, aU1, nU1, cU1, rfl, hintU1, hbU1⟩; have hBU1 : Below W.heap.size W wU1 := (by first | with_reducible exact bthen (Below.refl _ _).drew hbU1 | with_reducible exact bthen (bl1 _ _).drew hbU1); (try with_reducible have gU1 := ((noc_new W 26).below (Below.refl _ _).drew).below hbU1); have hlU1 := hBU1.size))
    all_goals
      have hfinU : SpAt wU3 vU3 K (zI n d b).1 (zI n d b).2 := (hintU3.fits (K := K) (unhide HZL) (unhide HFZ).1 (unhide HFZ).2)
      go_wp2_with fail
      go_meet
      refine ⟨_, vU3, rfl, ?_, ⟨⟨?_, ?_, ?_, ?_, ?_⟩, ?_⟩, ?_, unhide HVBU3, ?_⟩
      · first | exact Nat.le_refl _ | exact hlU1 | exact hlU2 | exact hlU3
      · simp [go_sem, *]
      · simp [go_sem, *]
      · simp [go_sem, *]
      · simp [go_sem, *]
      · simp [go_sem, *]
      · intro o; simp [go_sem, *]
      · first | with_reducible exact hfinU.below (bl1 _ _) | with_reducible exact SpAt.put5 hfinU (by assumption) (by assumption) (by assumption) (by assumption) (by assumption) _ _ _ _ _
      · repeat' (first | with_reducible exact hBU3 | with_reducible exact hBU2 | with_reducible exact hBU1 | with_reducible exact Below.refl _ _ | with_reducible refine Below.drew ?_ | with_reducible refine balloc ?_ _ | with_reducible refine Below.setCell ?_ (by first | exact Nat.le_refl _ | exact hlU1 | exact hlU2 | exact hlU3) _)
  case rest =>
  obtain ⟨BU, xU, rfl, hHU, XU, hpU, hxbU, hblU⟩ := hcut
  replace R := R.below hblU
  replace hBW := bthen hBW hblU
  have lU := XU.lt
  have nRU : w.heap.size + 1 + 1 < BU := by omega
  have lR2 := R.lt
  have HXB := hide hxbU
  have HHU := hide hpU
  have FU := XU.fz
  obtain ⟨z0, z1, z2, z3, z4⟩ := XU.c
  clear hxbU hpU HX HY HK x0 x1 x2 x3 hblU X Y
  go_wp2_with fail
  refine (mul_iv _ xU xU K b (zI n d b) (zI n d b) (unhide HHU) (unhide HHU) (by omega) (unhide HXB) hb).mono ?_
  rintro r w1 ⟨v1, rfl, hvb1, hvp1, hb1⟩
  replace hvp1 := hvp1.fits (K := K) (mulI_le b) (unhide HFQ).1 (unhide HFQ).2
  replace XU := XU.below hb1
  replace HHU := hide ((unhide HHU).below hb1)
  replace R := R.below hb1
  replace hBW := bthen hBW hb1
  have HVB1 := hide hvb1
  clear hb1 hvb1 z0 z1 z2 z3 z4 FU
  obtain ⟨V, hV⟩ : ∃ V, V = w1.alloc (.cells #[.bool v1.ln, .slice v1.la v1.lN v1.lc, .bool v1.hn, .slice v1.ha v1.hN v1.hc, .int .i64 v1.bits] 26) := ⟨_, rfl⟩
  have bV : Below w1.heap.size w1 V := by rw [hV]; exact bl1 _ _
  have S1 : SpC V w1.heap.size v1 := by rw [hV]; exact spc_new w1 v1 _
  have HVP1 := hide (hvp1.below bV)
  have lU3 := XU.lt
  have Z := hide (XU.c)
  obtain ⟨z0, z1, z2, z3, z4⟩ := XU.c
  replace XU := XU.below bV
  have lR3 := R.lt
  replace R := R.below bV
  replace HHU := hide ((unhide HHU).below bV)
  replace hBW := bthen hBW bV
  clear hvp1 bV
  have HT0 := hide (lnT_abs (unhide H1) hb16)
  have HLT := hide (lnT_le (unhide H1) b)
  have HFIT : Hid (∀ j, j ≤ N → -P K < (lnT n d b j).1 ∧ (lnT n d b j).2 < P K) := hide (fun j _ => by
    obtain ⟨g1, g2, g3, g4⟩ := unhide HT0 j
    have := Q_mono (show b - 3 * j ≤ b by omega)
    omega)
  have HFITS : Hid (∀ j, j ≤ N → -P K < (sumI (lnT n d b) j).1 ∧ (sumI (lnT n d b) j).2 < P K) := hide (fun j hj => by
    obtain ⟨g1, g2, g3, g4⟩ := sum_abs2 (s := 3) (by omega) (unhide HT0) (unhide HN) j hj
    have := Q_pos (b - 3 * j)
    omega)
  have hNb : N ≤ 1000000000 := by
    obtain ⟨N', n1, n2⟩ := stop_ex (s := 3) (by omega) (unhide HT0)
    have : N ≤ N' := Nat.not_lt.1 fun hlt => by have := (unhide HN).2 N' hlt; have := n2.1; omega
    omega
  go_wp2_with fail
  rw [← hV]
  clear hV
  refine (sum_ln _ (lnT n d b) N b K (K + K + 8 + 4 + 10) xU _ (unhide HHU) (unhide HXB) hb (by omega) (by omega) (unhide HN) hNb (unhide HLT) (unhide HFIT) (unhide HFITS) (fun j u w' hj hub hup hbw => ?_)).mono ?_
  · have e := ln1_iv w' w1.heap.size u v1 K b ((j : Int) + 1) (lnT n d b j) (mulI b (zI n d b) (zI n d b)) hup ((unhide HVP1).below hbw) (S1.below hbw) (by omega) hub hb (by omega) (by omega)
    have e1 : 2 * ((j : Int) + 1) - 1 = 2 * (j : Int) + 1 := by omega
    have e2 : 2 * ((j : Int) + 1) + 1 = 2 * (j : Int) + 3 := by omega
    rw [e1, e2] at e
    exact e
  rintro r w2 ⟨v2, rfl, hvb2, hvp2, hb2⟩
  replace R := R.below hb2
  replace hBW := bthen hBW hb2
  have HV2 := hide hvb2
  clear hvb2 hb2
  have lR4 := R.lt
  obtain ⟨V2, hV2⟩ : ∃ V2, V2 = w2.alloc (.cells #[.bool v2.ln, .slice v2.la v2.lN v2.lc, .bool v2.hn, .slice v2.ha v2.hN v2.hc, .int .i64 v2.bits] 26) := ⟨_, rfl⟩
  have bV2 : Below w2.heap.size w2 V2 := by rw [hV2]; exact bl1 _ _
  replace hvp2 := hvp2.below bV2
  replace R := R.below bV2
  replace hBW := bthen hBW bV2
  go_wp2_with fail
  rw [← hV2]
  clear hV2 bV2
  refine (times_iv _ v2 (K + 3) b 2 _ hvp2 (by omega) (unhide HV2) (by omega) (by omega)).mono ?_
  rintro r w3 ⟨v, rfl, hvb, hvp, hb3⟩
  obtain ⟨q0, q1, q2, q3, q4, q5⟩ := R.below hb3
  replace hBW := bthen hBW hb3
  have HV := hide hvb
  clear hvb
  go_wp2_with fail
  refine bodyPost_ret (v := .agg #[.bool v.ln, .slice v.la v.lN v.lc, .bool v.hn, .slice v.ha v.hN v.hc, .int .i64 v.bits]) (by simp [results, Try.results153, go_sem, q0, q1, q2, q3, q4]) rfl ⟨v, rfl, unhide HV, ?_, ?_⟩
  · exact SpAt.put5 (hvp.mono (by omega)) q0 q1 q2 q3 q4 _ _ _ _ _
  · exact set5 hBW (by omega) _ _ _ _ _
end Go.Proofs.Ytgmnknmjainabaa
