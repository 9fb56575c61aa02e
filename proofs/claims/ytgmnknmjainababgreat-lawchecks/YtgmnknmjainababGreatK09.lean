/-
  What law.floor and law.below answer where the law is LawCount, and that they leave old memory alone.
  How long a number is; a number in as few digits as it takes; what is meant by being sure.
  What wide.Sure answers of what is made by the function literals of package law.
  How likely it is, by law.Below and law.Mass, that of two coins at most one, or just one, is up.
  How likely it is, by law.Below and law.Mass, that of two coins at most one, or just one, is up: the calls themselves.
  How likely it is, by law.Mass, that of two coins just one is up.
-/
import Derived.Test.YtgmnknmjainababGreatK08
namespace Go.Proofs.YtgmnknmjainababGreat
set_option linter.unusedVariables false
set_option linter.unusedSimpArgs false
set_option linter.unnecessarySimpa false
open Go.RowKit
attribute [local go_sem ↓] Go.wp_at_zero Go.wp_at_succ

theorem flo_le' (x q : Int) (hq : 0 < q) : x / q * q ≤ x := Int.ediv_mul_le _ (by omega)
theorem flo_gt' (x q : Int) (hq : 0 < q) : x < x / q * q + q := by
  have h := Int.emod_add_mul_ediv x q
  have := Int.emod_lt_of_pos x hq
  rw [Int.mul_comm]; omega
theorem floor_eq {p q z : Int} (hq : 0 < q) (h1 : z * q ≤ p) (h2 : p < z * q + q) : p / q = z := by
  have a := flo_le' p q hq
  have b := flo_gt' p q hq
  have c1 : p / q < z + 1 := by
    refine Int.not_le.1 fun h => ?_
    have h3 := Int.mul_le_mul_of_nonneg_right h (show 0 ≤ q by omega)
    have h4 : (z + 1) * q = z * q + q := by rw [Int.add_mul]; omega
    omega
  have c2 : z < p / q + 1 := by
    refine Int.not_le.1 fun h => ?_
    have h3 := Int.mul_le_mul_of_nonneg_right h (show 0 ≤ q by omega)
    have h4 : (p / q + 1) * q = p / q * q + q := by rw [Int.add_mul]; omega
    omega
  omega

theorem tdiv_bd {p q : Int} (hq : 0 < q) : (p.tdiv q * q ≤ p ∧ p < p.tdiv q * q + q) ∨ (p < p.tdiv q * q ∧ p.tdiv q * q - q < p) := by
  by_cases hp : 0 ≤ p
  · rw [Int.tdiv_eq_ediv_of_nonneg hp]
    exact Or.inl ⟨flo_le' p q hq, flo_gt' p q hq⟩
  · have e : p.tdiv q = -((-p) / q) := by
      have h1 : ((-(-p)).tdiv q) = -((-p).tdiv q) := Int.neg_tdiv _ _
      rw [Int.neg_neg] at h1
      rw [h1, Int.tdiv_eq_ediv_of_nonneg (by omega)]
    have a := flo_le' (-p) q hq
    have b := flo_gt' (-p) q hq
    rw [e, Int.neg_mul]
    by_cases hz : (-p) / q * q = -p
    · exact Or.inl ⟨by omega, by omega⟩
    · exact Or.inr ⟨by omega, by omega⟩

set_option maxRecDepth 100000 in
set_option maxHeartbeats 2000000 in
theorem floorLaw (p q : Int) (w : World) (h : rok p q) :
    Calls Tryz.prog 203 #[.agg #[.int .i64 p, .int .i64 q]] w fun z w' => z = .returned (.int .i64 (p / q)) ∧ Below w.heap.size w w' := by
  obtain ⟨h1, h2, h3, h4⟩ := h
  have hb := tdiv_bd (p := p) (q := q) (by omega)
  obtain ⟨n, hn⟩ : ∃ n, n = p.tdiv q := ⟨_, rfl⟩
  have hn' : p.tdiv q = n := hn.symm
  rw [hn'] at hb
  have hz : (q == 0) = false := by simp; omega
  have hnb : -1048577 ≤ n ∧ n ≤ 1048577 := by
    rcases hb with ⟨b1, b2⟩ | ⟨b1, b2⟩
    · constructor
      · refine Int.not_lt.1 fun h => ?_
        have := Int.mul_le_mul_of_nonneg_right (show n ≤ -1048578 by omega) (show 0 ≤ q by omega)
        omega
      · refine Int.not_lt.1 fun h => ?_
        have := Int.mul_le_mul_of_nonneg_right (show 1048578 ≤ n by omega) (show 0 ≤ q by omega)
        omega
    · constructor
      · refine Int.not_lt.1 fun h => ?_
        have := Int.mul_le_mul_of_nonneg_right (show n ≤ -1048578 by omega) (show 0 ≤ q by omega)
        omega
      · refine Int.not_lt.1 fun h => ?_
        have := Int.mul_le_mul_of_nonneg_right (show 1048578 ≤ n by omega) (show 0 ≤ q by omega)
        omega
  have hnq : -2000000 ≤ n * q ∧ n * q ≤ 2000000 := by omega
  obtain ⟨m1, m2⟩ := hnb
  obtain ⟨m3, m4⟩ := hnq
  rcases hb with ⟨b1, b2⟩ | ⟨b1, b2⟩
  · have HE := hide (floor_eq (by omega) b1 b2)
    have hng : ¬ p < n * q := by omega
    clear hn b1 b2
    go_enter Tryz.func203, Tryz.ntmps203
    go_wp2
    go_ret
    exact ⟨by rw [unhide HE]; rfl, bl1 _ _⟩
  · have HE := hide (show p / q = n - 1 from floor_eq (by omega) (by rw [Int.sub_mul]; omega) (by rw [Int.sub_mul]; omega))
    clear hn b2
    go_enter Tryz.func203, Tryz.ntmps203
    go_wp2
    go_ret
    exact ⟨by rw [unhide HE]; rfl, bl1 _ _⟩

set_option maxRecDepth 100000 in
set_option maxHeartbeats 2000000 in
theorem below_count (q r s x y : Int) (P M b : Nat) (w : World) (hxy : rok x y) (hM : min (x / y) (P : Int) + 1 = (M : Int)) (hp : P ≤ 100) (hr : 0 ≤ r) (hs : r ≤ s) (hs1 : 1 ≤ s) (hs2 : s ≤ 1024) (hb : b ≤ 1000000) :
    Calls Tryz.prog 185 #[.agg #[.int .i64 6, .int .i64 (P : Int), .int .i64 q, .int .i64 r, .int .i64 s], .agg #[.int .i64 x, .int .i64 y], .int .i64 b] w (SpanAns w b (b / 16 + 5000) (cntF (wayN P r s) M * Q b / s ^ P) (-(-(cntF (wayN P r s) M * Q b) / s ^ P))) := by
  have hfl : -1000000000 ≤ x / y ∧ x / y ≤ 1000000000 := by
    obtain ⟨h1, h2, h3, h4⟩ := hxy
    have a := flo_le' x y (by omega)
    have b := flo_gt' x y (by omega)
    constructor
    · refine Int.not_lt.1 fun h => ?_
      have := Int.mul_le_mul_of_nonneg_right (show x / y ≤ -1000000001 by omega) (show 0 ≤ y by omega)
      omega
    · refine Int.not_lt.1 fun h => ?_
      have := Int.mul_le_mul_of_nonneg_right (show 1000000001 ≤ x / y by omega) (show 0 ≤ y by omega)
      omega
  obtain ⟨W, hW⟩ : ∃ W, W = ((w.alloc (.cells #[.int .i64 6, .int .i64 (P : Int), .int .i64 q, .int .i64 r, .int .i64 s] 53)).alloc (.cells #[.int .i64 x, .int .i64 y] 23)).alloc (.cells #[.bool false, .slice none 0 0, .bool false, .slice none 0 0, .int .i64 0] 28) := ⟨_, rfl⟩
  have hBW : Below w.heap.size w W := by rw [hW]; exact bl3 _ _ _ _
  have L : W.cell? ⟨w.heap.size, 0, none⟩ = some (.int .i64 6) ∧ W.cell? ⟨w.heap.size, 1, none⟩ = some (.int .i64 (P : Int)) ∧ W.cell? ⟨w.heap.size, 2, none⟩ = some (.int .i64 q) ∧ W.cell? ⟨w.heap.size, 3, none⟩ = some (.int .i64 r) ∧ W.cell? ⟨w.heap.size, 4, none⟩ = some (.int .i64 s) ∧ W.cell? ⟨w.heap.size + 1, 0, none⟩ = some (.int .i64 x) ∧ W.cell? ⟨w.heap.size + 1, 1, none⟩ = some (.int .i64 y) := by rw [hW]; simp [go_sem]
  have R : NoC W (w.heap.size + 1 + 1) := by rw [hW]; exact ⟨by simp [go_sem], by simp [go_sem], by simp [go_sem], by simp [go_sem], by simp [go_sem], fun o => by simp [go_sem]⟩
  have lR := R.lt
  have HK := hide (show ∀ w', Below W.heap.size W w' → (w'.cell? ⟨w.heap.size, 0, none⟩ = some (.int .i64 6) ∧ w'.cell? ⟨w.heap.size, 1, none⟩ = some (.int .i64 (P : Int)) ∧ w'.cell? ⟨w.heap.size, 2, none⟩ = some (.int .i64 q) ∧ w'.cell? ⟨w.heap.size, 3, none⟩ = some (.int .i64 r) ∧ w'.cell? ⟨w.heap.size, 4, none⟩ = some (.int .i64 s) ∧ w'.cell? ⟨w.heap.size + 1, 0, none⟩ = some (.int .i64 x) ∧ w'.cell? ⟨w.heap.size + 1, 1, none⟩ = some (.int .i64 y)) from fun w' hB => by
    obtain ⟨l0, l1, l2, l3, l4, l5, l6⟩ := L
    exact ⟨(hB.cell (p := ⟨w.heap.size, 0, none⟩) (by show w.heap.size < _; omega)).trans l0, (hB.cell (p := ⟨w.heap.size, 1, none⟩) (by show w.heap.size < _; omega)).trans l1, (hB.cell (p := ⟨w.heap.size, 2, none⟩) (by show w.heap.size < _; omega)).trans l2, (hB.cell (p := ⟨w.heap.size, 3, none⟩) (by show w.heap.size < _; omega)).trans l3, (hB.cell (p := ⟨w.heap.size, 4, none⟩) (by show w.heap.size < _; omega)).trans l4, (hB.cell (p := ⟨w.heap.size + 1, 0, none⟩) (by show w.heap.size + 1 < _; omega)).trans l5, (hB.cell (p := ⟨w.heap.size + 1, 1, none⟩) (by show w.heap.size + 1 < _; omega)).trans l6⟩)
  have HM := hide hM
  clear hM L
  go_enter Tryz.func185, Tryz.ntmps185
  go_wp2
  rw [← hW]
  clear hW
  obtain ⟨l0, l1, l2, l3, l4, l5, l6⟩ := unhide HK _ (Below.refl _ _)
  have hD0 : Below W.heap.size W W.drew := (Below.refl _ _).drew
  have nA : w.heap.size ≠ w.heap.size + 1 + 1 := by omega
  have nA' : w.heap.size + 1 + 1 ≠ w.heap.size := by omega
  go_region_held3 (fun w' => w'.cell? ⟨w.heap.size, 0, none⟩ = some (.int .i64 6) ∧ w'.cell? ⟨w.heap.size, 1, none⟩ = some (.int .i64 (P : Int)) ∧ w'.cell? ⟨w.heap.size, 2, none⟩ = some (.int .i64 q) ∧ w'.cell? ⟨w.heap.size, 3, none⟩ = some (.int .i64 r) ∧ w'.cell? ⟨w.heap.size, 4, none⟩ = some (.int .i64 s) ∧ w'.cell? ⟨w.heap.size + 1, 0, none⟩ = some (.int .i64 x) ∧ w'.cell? ⟨w.heap.size + 1, 1, none⟩ = some (.int .i64 y)) (first | exact unhide HK _ (by first | with_reducible exact hD0 | with_reducible exact hD2 | with_reducible exact hD1) | go_keep)
    (first
      | (go_at_call 202; refine (count_int 6 q r s (x / y) P M b _ (unhide HM) hfl.1 hfl.2 hp hr hs hs1 hs2 hb).mono ?_; rintro r' w2 ⟨u, rfl, hub, hup, hb2⟩; have hD2 := bthen hD1 hb2; obtain ⟨q0, q1, q2, q3, q4, q5⟩ := R.below hD2; have HUB := hide hub; clear hub; obtain ⟨e0, e1, e2, e3, e4, e5, e6⟩ := unhide HK _ hD2)
      | (go_at_call 203; refine (floorLaw x y _ hxy).mono ?_; rintro r' w1 ⟨rfl, hb1⟩; have hD1 := bthen hD0 hb1))
  all_goals
    go_wp2_with fail
    refine bodyPost_ret (v := .agg #[.bool u.ln, .slice u.la u.lN u.lc, .bool u.hn, .slice u.ha u.hN u.hc, .int .i64 u.bits]) (by simp [results, Tryz.results185, go_sem, q0, q1, q2, q3, q4]) rfl ⟨u, rfl, unhide HUB, ?_, ?_⟩
    · exact SpAt.put5 hup q0 q1 q2 q3 q4 _ _ _ _ _
    · exact set5 (bthen hBW hD2) (by omega) _ _ _ _ _
end Go.Proofs.YtgmnknmjainababGreat

namespace Go.Proofs.YtgmnknmjainababGreat
set_option linter.unusedVariables false
set_option linter.unusedSimpArgs false
set_option linter.unnecessarySimpa false
open Go.RowKit
attribute [local go_sem ↓] Go.wp_at_zero Go.wp_at_succ

theorem IntAt.fits {w : World} {neg : Bool} {a : Option Addr} {n cap k K : Nat} {z : Int} (h : IntAt w neg a n cap k z) (h0 : -P K < z) (hz : z < P K) : IntAt w neg a n cap K z := by
  obtain ⟨d, h1, h2, h3, h4, h5⟩ := h
  refine ⟨d, h1, h2, h3, ?_, h5⟩
  refine len_le h1.dgs h2 ?_
  have := V_nonneg h1.dgs n
  cases neg
  · simp [sgn] at h5; omega
  · simp [sgn] at h5; omega
theorem SpAt.fits {w : World} {s : Sp} {k K : Nat} {lo hi : Int} (h : SpAt w s k lo hi) (hle : lo ≤ hi) (h0 : -P K < lo) (hz : hi < P K) : SpAt w s K lo hi := ⟨h.lo.fits h0 (by omega), h.hi.fits (by omega) hz⟩

/-- How many bits a number from 0 on has. -/
def LenIs (z l : Int) : Prop := 0 ≤ l ∧ (z = 0 → l = 0) ∧ (0 < z → ∃ L : Nat, l = (L : Int) + 1 ∧ Q L ≤ z ∧ z < Q (L + 1))

theorem len_int (neg : Bool) (a : Option Addr) (n cap k : Nat) (z : Int) (w : World) (h : IntAt w neg a n cap k z) (hz : 0 ≤ z) :
    Calls Tryz.prog 120 #[.agg #[.bool neg, .slice a n cap]] w fun r w' => ∃ l, LenIs z l ∧ r = .returned (.int .i64 l) ∧ Below w.heap.size w w' := by
  obtain ⟨d, h1, h2, h3, h4, h5⟩ := h
  refine (len_any neg a n cap d w h1).mono fun r w' ⟨e1, e2⟩ => ⟨lenZ n d, ?_, e1, e2⟩
  have hV := V_nonneg h1.dgs n
  have hv : V d n = z := by
    cases neg
    · simp [sgn] at h5; exact h5.symm
    · simp [sgn] at h5; omega
  rcases Nat.eq_zero_or_pos n with h0 | h0
  · subst h0
    have : z = 0 := by simp [V] at hv; omega
    subst this
    exact ⟨by simp [lenZ], fun _ => by simp [lenZ], fun h => by omega⟩
  · obtain ⟨L, l1, l2, l3⟩ := lenZ_Q h1.dgs h0 (by rcases h2 with h2 | h2; omega; exact h2)
    have := Q_pos L
    exact ⟨by omega, fun h => by omega, fun _ => ⟨L, l1, by omega, by omega⟩⟩

/-- What comes of a number that is made by some bits. -/
def SureOf (bits : Nat) (Pr : Nat → Int → Int → Prop) (L H : Int) : Prop :=
  ∃ (m : Nat) (lo hi : Int), Pr (bits + m) lo hi ∧ 32 ≤ m ∧ L = lo / Q m ∧ H = -(-hi / Q m) ∧ (H - L ≤ 1 ∨ narB L H (Q bits) 4 = true)

/-- What must be known of how a number is made, for an end. -/
def SureEnds (bits Kw : Nat) (Pr : Nat → Int → Int → Prop) : Prop :=
  ∀ (m : Nat) (lo hi : Int), Pr (bits + m) lo hi → lo ≤ hi ∧ hi - lo ≤ Q Kw ∧ -(P 200 * Q m) ≤ lo ∧ hi ≤ P 200 * Q m

theorem ceil_ge (x q : Int) (hq : 0 < q) : x ≤ -(-x / q) * q := by
  have h := Int.emod_add_mul_ediv (-x) q
  have := Int.emod_nonneg (-x) (show q ≠ 0 by omega)
  have e : -(-x / q) * q = -(q * (-x / q)) := by rw [Int.neg_mul, Int.mul_comm]
  rw [e]; omega
theorem ceil_lt (x q : Int) (hq : 0 < q) : -(-x / q) * q < x + q := by
  have h := Int.emod_add_mul_ediv (-x) q
  have := Int.emod_lt_of_pos (-x) hq
  have e : -(-x / q) * q = -(q * (-x / q)) := by rw [Int.neg_mul, Int.mul_comm]
  rw [e]; omega
theorem flo_le (x q : Int) (hq : 0 < q) : x / q * q ≤ x := Int.ediv_mul_le _ (by omega)
theorem flo_gt (x q : Int) (hq : 0 < q) : x < x / q * q + q := by
  have h := Int.emod_add_mul_ediv x q
  have := Int.emod_lt_of_pos x hq
  rw [Int.mul_comm]; omega

/-- Rounding to fewer bits makes it wider by less than 2. -/
theorem to_width {lo hi : Int} {m Kw : Nat} (hle : lo ≤ hi) (hw : hi - lo ≤ Q Kw) : 0 ≤ -(-hi / Q m) - lo / Q m ∧ (Kw ≤ m → -(-hi / Q m) - lo / Q m ≤ 2) ∧ (m ≤ Kw → -(-hi / Q m) - lo / Q m ≤ Q (Kw - m) + 1) := by
  have hq := Q_pos m
  have a1 := ceil_ge hi (Q m) (by omega)
  have a2 := ceil_lt hi (Q m) (by omega)
  have a3 := flo_le lo (Q m) (by omega)
  have a4 := flo_gt lo (Q m) (by omega)
  have hs : (-(-hi / Q m) - lo / Q m) * Q m = -(-hi / Q m) * Q m - lo / Q m * Q m := Int.sub_mul _ _ _
  refine ⟨?_, fun h => ?_, fun h => ?_⟩
  · refine Int.not_lt.1 fun hn => ?_
    have := Int.mul_le_mul_of_nonneg_right (show -(-hi / Q m) - lo / Q m ≤ -1 by omega) (show 0 ≤ Q m by omega)
    omega
  · have hk := Q_mono h
    refine Int.not_lt.1 fun hn => ?_
    have := Int.mul_le_mul_of_nonneg_right (show 3 ≤ -(-hi / Q m) - lo / Q m by omega) (show 0 ≤ Q m by omega)
    omega
  · have hk : Q Kw = Q (Kw - m) * Q m := by rw [← Q_add]; congr 1; omega
    refine Int.not_lt.1 fun hn => ?_
    have h5 := Int.mul_le_mul_of_nonneg_right (show Q (Kw - m) + 2 ≤ -(-hi / Q m) - lo / Q m by omega) (show 0 ≤ Q m by omega)
    have h6 : (Q (Kw - m) + 2) * Q m = Q (Kw - m) * Q m + 2 * Q m := Int.add_mul _ _ _
    omega

theorem narB_small {L H : Int} {b : Nat} (hle : L ≤ H) (h : H - L ≤ 4) : narB L H (Q b) 4 = true := by
  unfold narB
  rw [decide_eq_true_iff]
  have hq := Q_pos b
  have h1 : (H - L) * Q b ≤ 4 * Q b := Int.mul_le_mul_of_nonneg_right h (by omega)
  have h2 : 0 ≤ maxZ H (-L) := by unfold maxZ; split <;> omega
  have : 4 * (Q b + maxZ H (-L)) = 4 * Q b + 4 * maxZ H (-L) := Int.mul_add _ _ _
  omega

/-- Numbers that are rounded are in few digits. -/
theorem to_fit {lo hi : Int} {m : Nat} (h1 : -(P 200 * Q m) ≤ lo) (h2 : hi ≤ P 200 * Q m) : -P 250 < lo / Q m ∧ -(-hi / Q m) < P 250 := by
  have hq := Q_pos m
  have hp : P 200 < P 250 := by
    have e : P 250 = P 200 * P 50 := P_add 200 50
    have h3 := P_pos 200
    have h4 : P 200 * 65536 ≤ P 200 * P 50 := Int.mul_le_mul_of_nonneg_left (P_mono (show 1 ≤ 50 by omega)) (by omega)
    omega
  have a1 : -P 200 ≤ lo / Q m := by rw [Int.le_ediv_iff_mul_le (by omega), Int.neg_mul]; exact h1
  have a2 : -P 200 ≤ -hi / Q m := by rw [Int.le_ediv_iff_mul_le (by omega), Int.neg_mul]; omega
  omega

/-- Where wide.Sure is behind some tries. -/
def SureInv (Kw m t : Nat) : Prop := 32 ≤ m ∧ 1 ≤ t ∧ t ≤ m ∧ ((t ≤ 3 ∧ m ≤ Kw + 40 * t) ∨ m ≤ Kw + 40)

theorem len_bd {z l : Int} {K : Nat} (h : LenIs z l) (hz : z ≤ Q K + 1) (h0 : 0 ≤ z) : l ≤ K + 2 := by
  obtain ⟨h1, h2, h3⟩ := h
  by_cases hp : 0 < z
  · obtain ⟨L, e1, e2, e3⟩ := h3 hp
    by_cases hL : L ≤ K + 1
    · omega
    · have := Q_mono (show K + 2 ≤ L by omega)
      have e : Q (K + 2) = 2 * (2 * Q K) := rfl
      have := Q_pos K
      omega
  · have := h2 (by omega); omega

theorem len_two {z l : Int} (h : LenIs z l) (hz : z ≤ 2) (h0 : 0 ≤ z) : l ≤ 2 := by
  have := len_bd (K := 0) h (by simp [Q]; omega) h0
  omega
theorem len_one {z l : Int} (h : LenIs z l) (hl : l ≤ 1) (h0 : 0 ≤ z) : z ≤ 1 := by
  obtain ⟨h1, h2, h3⟩ := h
  by_cases hp : 0 < z
  · obtain ⟨L, e1, e2, e3⟩ := h3 hp
    have : L = 0 := by omega
    subst this
    simp [Q] at e3; omega
  · omega
end Go.Proofs.YtgmnknmjainababGreat

namespace Go.Proofs.YtgmnknmjainababGreat
set_option linter.unusedVariables false
set_option linter.unusedSimpArgs false
set_option linter.unnecessarySimpa false
open Go.RowKit
attribute [local go_sem ↓] Go.wp_at_zero Go.wp_at_succ

set_option maxRecDepth 100000 in
set_option maxHeartbeats 4000000 in
theorem sure_lawmade (p1 p2 p3 : Value) (bits Kw KD : Nat) (Pr : Nat → Int → Int → Prop) (W : World) (hb : bits ≤ 120) (hKw : Kw ≤ 900000) (hKD : KD ≤ 100000000) (hE : SureEnds bits Kw Pr)
    (hF : ∀ (m : Nat) w', 32 ≤ m → m ≤ Kw + 120 → Below W.heap.size W w' → Calls Tryz.prog 184 #[.int .i64 ((bits : Int) + m), p1, p2, p3] w' (fun r w'' => ∃ lo hi, Pr (bits + m) lo hi ∧ SpanAns w' ((bits : Int) + m) KD lo hi r w'')) :
    Calls Tryz.prog 74 #[.int .i64 bits, .func (.func 184) #[] #[p1, p2, p3]] W (fun r w' => ∃ L H, SureOf bits Pr L H ∧ SpanAns W bits 250 L H r w') := by
  have HF := hide hF
  have HE := hide hE
  clear hF hE
  have hR0 := noc_new W 28
  go_enter Tryz.func74, Tryz.ntmps74
  go_wp2_with fail
  go_loopw [5, 6] (fun mm tt wr => ∃ m t : Nat, mm = .int .i64 (m : Int) ∧ tt = .int .i64 (t : Int) ∧ SureInv Kw m t ∧ NoC wr W.heap.size ∧ Below W.heap.size W wr) (fun mm _ _ => Kw + 200 - (intOf mm).toNat)
  case atStart => exact ⟨32, 1, rfl, rfl, ⟨Nat.le_refl _, Nat.le_refl _, by omega, Or.inl ⟨by omega, by omega⟩⟩, hR0, bl1 _ _⟩
  case round =>
    obtain ⟨m, t, rfl, rfl, hinv, R, hB⟩ := hrel
    obtain ⟨hm, ht, htm, hmt⟩ := hinv
    have hmK : m ≤ Kw + 120 := by omega
    have HI := hide hmt
    clear hmt
    go_wp2_with fail
    refine (unhide HF m _ hm hmK hB).mono ?_
    rintro r w1 ⟨lo, hi, hPr, s, rfl, hsb, hsp, hb1⟩
    replace R := R.below hb1
    replace hB := bthen hB hb1
    clear hb1
    obtain ⟨e1, e2, e3, e4⟩ := unhide HE m lo hi hPr
    obtain ⟨v1, v2, v3⟩ := to_width (m := m) e1 e2
    obtain ⟨f1, f2⟩ := to_fit e3 e4
    have HPr := hide hPr
    have HV := hide (And.intro v2 v3)
    have hs0 : 0 ≤ s.bits := by omega
    have hs1 : s.bits ≤ 1000000 := by omega
    have d1 : downZ lo (s.bits - bits) = lo / Q m := by unfold downZ; rw [hsb, if_pos (by omega)]; congr 2; omega
    have d2 : downZ (-hi) (s.bits - bits) = -hi / Q m := by unfold downZ; rw [hsb, if_pos (by omega)]; congr 2; omega
    have HD1 := hide d1
    have HD2 := hide d2
    clear hPr e1 e2 e3 e4 v2 v3 d1 d2 hsb
    go_wp2_with fail
    refine (wideTo_int _ s KD bits lo hi hsp (by omega) hs0 hs1 (by omega) (by omega)).mono ?_
    rintro r w2 ⟨u, rfl, hub, hup, hb2⟩
    rw [unhide HD1, unhide HD2] at hup
    obtain ⟨L, hL⟩ : ∃ L, L = lo / Q m := ⟨_, rfl⟩
    obtain ⟨H, hH⟩ : ∃ H, H = -(-hi / Q m) := ⟨_, rfl⟩
    rw [← hL, ← hH] at hup v1
    rw [← hL] at f1
    rw [← hH] at f2
    have HV2 := hide (show (Kw ≤ m → H - L ≤ 2) ∧ (m ≤ Kw → H - L ≤ Q (Kw - m) + 1) by rw [hL, hH]; exact unhide HV)
    have HL := hide hL
    have HH := hide hH
    replace hup := hup.fits (K := 250) (by omega) f1 f2
    replace R := R.below hb2
    replace hB := bthen hB hb2
    have HUB := hide hub
    clear hb2 hL hH hub hs0 hs1 HD1 HD2 HV hsp
    have lR := R.lt
    obtain ⟨V, hV⟩ : ∃ V, V = w2.alloc (.cells #[.bool u.ln, .slice u.la u.lN u.lc, .bool u.hn, .slice u.ha u.hN u.hc, .int .i64 u.bits] 28) := ⟨_, rfl⟩
    have bV : Below w2.heap.size w2 V := by rw [hV]; exact bl1 _ _
    have U : SpC V w2.heap.size u := by rw [hV]; exact ⟨by simp, by simp, by simp, by simp, by simp⟩
    replace R := R.below bV
    replace hB := bthen hB bV
    replace hup := hup.below bV
    clear bV
    go_wp2_with fail
    rw [← hV]
    clear hV
    refine (sub_int _ _ _ _ _ _ _ _ 250 250 H L _ hup.hi hup.lo (by omega) (by omega)).mono ?_
    rintro r w3 ⟨neg3, a3, n3, c3, rfl, hint3, hb3⟩
    replace U := U.below hb3
    replace R := R.below hb3
    replace hB := bthen hB hb3
    replace hup := hup.below hb3
    clear hb3
    go_wp2_with fail
    refine (len_int _ _ _ _ _ (H - L) _ hint3 v1).mono ?_
    rintro r w4 ⟨l, hlen, rfl, hb4⟩
    replace U := U.below hb4
    replace R := R.below hb4
    replace hB := bthen hB hb4
    replace hup := hup.below hb4
    clear hb4 hint3
    have hlb : 0 ≤ l ∧ l ≤ Kw + 2 ∧ (m ≤ Kw → l ≤ Kw - m + 2) ∧ (Kw ≤ m → l ≤ 2) := by
      obtain ⟨g1, g2⟩ := unhide HV2
      refine ⟨hlen.1, ?_, fun h => ?_, fun h => ?_⟩
      · rcases Nat.le_total m Kw with h | h
        · have := len_bd (K := Kw - m) hlen (g2 h) v1; omega
        · have := len_two hlen (g1 h) v1; omega
      · have := len_bd (K := Kw - m) hlen (g2 h) v1; omega
      · exact len_two hlen (g1 h) v1
    obtain ⟨hl0, hl1, hl2, hl3⟩ := hlb
    have HL2 := hide (And.intro hl2 hl3)
    have HLen := hide hlen
    clear hl2 hl3 hlen
    have lU := U.lt
    have lR2 := R.lt
    have nRU : W.heap.size ≠ w2.heap.size := by omega
    have nRU' : w2.heap.size ≠ W.heap.size := by omega
    have HU := hide U
    obtain ⟨x0, x1, x2, x3, x4⟩ := U
    by_cases hc : l ≤ 1
    · have hN := R
      obtain ⟨q0, q1, q2, q3, q4, q5⟩ := R
      have Hc := hide hc
      go_wp2_with fail
      refine bodyPost_ret (v := .agg #[.bool u.ln, .slice u.la u.lN u.lc, .bool u.hn, .slice u.ha u.hN u.hc, .int .i64 u.bits]) (by simp [results, Tryz.results74, go_sem, q0, q1, q2, q3, q4]) rfl ⟨L, H, ⟨m, lo, hi, unhide HPr, hm, unhide HL, unhide HH, Or.inl (len_one (unhide HLen) (unhide Hc) v1)⟩, u, rfl, unhide HUB, ?_, ?_⟩
      · exact SpAt.put5 hup q0 q1 q2 q3 q4 _ _ _ _ _
      · exact set5 hB (Nat.le_refl _) _ _ _ _ _
    · by_cases ht3 : 3 ≤ t
      · have ht3' : (3 : Int) ≤ (t : Int) := by omega
        cases hn : narB L H (Q bits) 4
        · have hmK2 : m < Kw := by
            refine Nat.lt_of_not_le fun h => ?_
            have h5 := (unhide HV2).1 h
            rw [narB_small (by omega) (by omega)] at hn
            cases hn
          go_wp2_with fail
          refine (narrow_int _ u bits 4 L H hup (unhide HUB) hb (by omega)).mono ?_
          rintro r w5 ⟨rfl, hb5⟩
          rw [show narB L H (Q bits) ((4 : Nat) : Int) = false from hn]
          replace R := R.below hb5
          replace hB := bthen hB hb5
          go_wp2_with fail
          go_roundw
          case rel => exact ⟨m + l.toNat + 32, t + 1, by congr 1; omega, by congr 1, ⟨by omega, by omega, by omega, Or.inr (by have := (unhide HL2).1; omega)⟩, R, hB⟩
          case measure => simp [intOf]; omega
        · go_wp2_with fail
          refine (narrow_int _ u bits 4 L H hup (unhide HUB) hb (by omega)).mono ?_
          rintro r w5 ⟨rfl, hb5⟩
          rw [show narB L H (Q bits) ((4 : Nat) : Int) = true from hn]
          replace R := R.below hb5
          replace hB := bthen hB hb5
          replace hup := hup.below hb5
          obtain ⟨y0, y1, y2, y3, y4⟩ := (unhide HU).below hb5
          obtain ⟨q0, q1, q2, q3, q4, q5⟩ := R
          have lU2 := Nat.lt_of_lt_of_le lU hb5.size
          have lR3 := Nat.lt_of_lt_of_le lR2 hb5.size
          clear hb5 x0 x1 x2 x3 x4
          go_wp2_with fail
          refine bodyPost_ret (v := .agg #[.bool u.ln, .slice u.la u.lN u.lc, .bool u.hn, .slice u.ha u.hN u.hc, .int .i64 u.bits]) (by simp [results, Tryz.results74, go_sem, q0, q1, q2, q3, q4]) rfl ⟨L, H, ⟨m, lo, hi, unhide HPr, hm, unhide HL, unhide HH, Or.inr hn⟩, u, rfl, unhide HUB, ?_, ?_⟩
          · exact SpAt.put5 hup q0 q1 q2 q3 q4 _ _ _ _ _
          · exact set5 hB (Nat.le_refl _) _ _ _ _ _
      · have ht3' : ¬ (3 : Int) ≤ (t : Int) := by omega
        go_wp2_with fail
        go_roundw
        case rel => exact ⟨m + l.toNat + 32, t + 1, by congr 1; omega, by congr 1, ⟨by omega, by omega, by omega, by
          have g1 := (unhide HL2).1
          have g2 := (unhide HL2).2
          have g3 := unhide HI
          rcases Nat.le_total m Kw with h | h
          · have := g1 h; exact Or.inr (by omega)
          · have := g2 h; exact Or.inl ⟨by omega, by omega⟩⟩, R, hB⟩
        case measure => simp [intOf]; omega

set_option maxRecDepth 100000 in
set_option maxHeartbeats 4000000 in
theorem sure_mass (p1 p2 : Value) (bits Kw KD : Nat) (Pr : Nat → Int → Int → Prop) (W : World) (hb : bits ≤ 120) (hKw : Kw ≤ 900000) (hKD : KD ≤ 100000000) (hE : SureEnds bits Kw Pr)
    (hF : ∀ (m : Nat) w', 32 ≤ m → m ≤ Kw + 120 → Below W.heap.size W w' → Calls Tryz.prog 86 #[.int .i64 ((bits : Int) + m), p1, p2] w' (fun r w'' => ∃ lo hi, Pr (bits + m) lo hi ∧ SpanAns w' ((bits : Int) + m) KD lo hi r w'')) :
    Calls Tryz.prog 74 #[.int .i64 bits, .func (.func 86) #[] #[p1, p2]] W (fun r w' => ∃ L H, SureOf bits Pr L H ∧ SpanAns W bits 250 L H r w') := by
  have HF := hide hF
  have HE := hide hE
  clear hF hE
  have hR0 := noc_new W 28
  go_enter Tryz.func74, Tryz.ntmps74
  go_wp2_with fail
  go_loopw [5, 6] (fun mm tt wr => ∃ m t : Nat, mm = .int .i64 (m : Int) ∧ tt = .int .i64 (t : Int) ∧ SureInv Kw m t ∧ NoC wr W.heap.size ∧ Below W.heap.size W wr) (fun mm _ _ => Kw + 200 - (intOf mm).toNat)
  case atStart => exact ⟨32, 1, rfl, rfl, ⟨Nat.le_refl _, Nat.le_refl _, by omega, Or.inl ⟨by omega, by omega⟩⟩, hR0, bl1 _ _⟩
  case round =>
    obtain ⟨m, t, rfl, rfl, hinv, R, hB⟩ := hrel
    obtain ⟨hm, ht, htm, hmt⟩ := hinv
    have hmK : m ≤ Kw + 120 := by omega
    have HI := hide hmt
    clear hmt
    go_wp2_with fail
    refine (unhide HF m _ hm hmK hB).mono ?_
    rintro r w1 ⟨lo, hi, hPr, s, rfl, hsb, hsp, hb1⟩
    replace R := R.below hb1
    replace hB := bthen hB hb1
    clear hb1
    obtain ⟨e1, e2, e3, e4⟩ := unhide HE m lo hi hPr
    obtain ⟨v1, v2, v3⟩ := to_width (m := m) e1 e2
    obtain ⟨f1, f2⟩ := to_fit e3 e4
    have HPr := hide hPr
    have HV := hide (And.intro v2 v3)
    have hs0 : 0 ≤ s.bits := by omega
    have hs1 : s.bits ≤ 1000000 := by omega
    have d1 : downZ lo (s.bits - bits) = lo / Q m := by unfold downZ; rw [hsb, if_pos (by omega)]; congr 2; omega
    have d2 : downZ (-hi) (s.bits - bits) = -hi / Q m := by unfold downZ; rw [hsb, if_pos (by omega)]; congr 2; omega
    have HD1 := hide d1
    have HD2 := hide d2
    clear hPr e1 e2 e3 e4 v2 v3 d1 d2 hsb
    go_wp2_with fail
    refine (wideTo_int _ s KD bits lo hi hsp (by omega) hs0 hs1 (by omega) (by omega)).mono ?_
    rintro r w2 ⟨u, rfl, hub, hup, hb2⟩
    rw [unhide HD1, unhide HD2] at hup
    obtain ⟨L, hL⟩ : ∃ L, L = lo / Q m := ⟨_, rfl⟩
    obtain ⟨H, hH⟩ : ∃ H, H = -(-hi / Q m) := ⟨_, rfl⟩
    rw [← hL, ← hH] at hup v1
    rw [← hL] at f1
    rw [← hH] at f2
    have HV2 := hide (show (Kw ≤ m → H - L ≤ 2) ∧ (m ≤ Kw → H - L ≤ Q (Kw - m) + 1) by rw [hL, hH]; exact unhide HV)
    have HL := hide hL
    have HH := hide hH
    replace hup := hup.fits (K := 250) (by omega) f1 f2
    replace R := R.below hb2
    replace hB := bthen hB hb2
    have HUB := hide hub
    clear hb2 hL hH hub hs0 hs1 HD1 HD2 HV hsp
    have lR := R.lt
    obtain ⟨V, hV⟩ : ∃ V, V = w2.alloc (.cells #[.bool u.ln, .slice u.la u.lN u.lc, .bool u.hn, .slice u.ha u.hN u.hc, .int .i64 u.bits] 28) := ⟨_, rfl⟩
    have bV : Below w2.heap.size w2 V := by rw [hV]; exact bl1 _ _
    have U : SpC V w2.heap.size u := by rw [hV]; exact ⟨by simp, by simp, by simp, by simp, by simp⟩
    replace R := R.below bV
    replace hB := bthen hB bV
    replace hup := hup.below bV
    clear bV
    go_wp2_with fail
    rw [← hV]
    clear hV
    refine (sub_int _ _ _ _ _ _ _ _ 250 250 H L _ hup.hi hup.lo (by omega) (by omega)).mono ?_
    rintro r w3 ⟨neg3, a3, n3, c3, rfl, hint3, hb3⟩
    replace U := U.below hb3
    replace R := R.below hb3
    replace hB := bthen hB hb3
    replace hup := hup.below hb3
    clear hb3
    go_wp2_with fail
    refine (len_int _ _ _ _ _ (H - L) _ hint3 v1).mono ?_
    rintro r w4 ⟨l, hlen, rfl, hb4⟩
    replace U := U.below hb4
    replace R := R.below hb4
    replace hB := bthen hB hb4
    replace hup := hup.below hb4
    clear hb4 hint3
    have hlb : 0 ≤ l ∧ l ≤ Kw + 2 ∧ (m ≤ Kw → l ≤ Kw - m + 2) ∧ (Kw ≤ m → l ≤ 2) := by
      obtain ⟨g1, g2⟩ := unhide HV2
      refine ⟨hlen.1, ?_, fun h => ?_, fun h => ?_⟩
      · rcases Nat.le_total m Kw with h | h
        · have := len_bd (K := Kw - m) hlen (g2 h) v1; omega
        · have := len_two hlen (g1 h) v1; omega
      · have := len_bd (K := Kw - m) hlen (g2 h) v1; omega
      · exact len_two hlen (g1 h) v1
    obtain ⟨hl0, hl1, hl2, hl3⟩ := hlb
    have HL2 := hide (And.intro hl2 hl3)
    have HLen := hide hlen
    clear hl2 hl3 hlen
    have lU := U.lt
    have lR2 := R.lt
    have nRU : W.heap.size ≠ w2.heap.size := by omega
    have nRU' : w2.heap.size ≠ W.heap.size := by omega
    have HU := hide U
    obtain ⟨x0, x1, x2, x3, x4⟩ := U
    by_cases hc : l ≤ 1
    · have hN := R
      obtain ⟨q0, q1, q2, q3, q4, q5⟩ := R
      have Hc := hide hc
      go_wp2_with fail
      refine bodyPost_ret (v := .agg #[.bool u.ln, .slice u.la u.lN u.lc, .bool u.hn, .slice u.ha u.hN u.hc, .int .i64 u.bits]) (by simp [results, Tryz.results74, go_sem, q0, q1, q2, q3, q4]) rfl ⟨L, H, ⟨m, lo, hi, unhide HPr, hm, unhide HL, unhide HH, Or.inl (len_one (unhide HLen) (unhide Hc) v1)⟩, u, rfl, unhide HUB, ?_, ?_⟩
      · exact SpAt.put5 hup q0 q1 q2 q3 q4 _ _ _ _ _
      · exact set5 hB (Nat.le_refl _) _ _ _ _ _
    · by_cases ht3 : 3 ≤ t
      · have ht3' : (3 : Int) ≤ (t : Int) := by omega
        cases hn : narB L H (Q bits) 4
        · have hmK2 : m < Kw := by
            refine Nat.lt_of_not_le fun h => ?_
            have h5 := (unhide HV2).1 h
            rw [narB_small (by omega) (by omega)] at hn
            cases hn
          go_wp2_with fail
          refine (narrow_int _ u bits 4 L H hup (unhide HUB) hb (by omega)).mono ?_
          rintro r w5 ⟨rfl, hb5⟩
          rw [show narB L H (Q bits) ((4 : Nat) : Int) = false from hn]
          replace R := R.below hb5
          replace hB := bthen hB hb5
          go_wp2_with fail
          go_roundw
          case rel => exact ⟨m + l.toNat + 32, t + 1, by congr 1; omega, by congr 1, ⟨by omega, by omega, by omega, Or.inr (by have := (unhide HL2).1; omega)⟩, R, hB⟩
          case measure => simp [intOf]; omega
        · go_wp2_with fail
          refine (narrow_int _ u bits 4 L H hup (unhide HUB) hb (by omega)).mono ?_
          rintro r w5 ⟨rfl, hb5⟩
          rw [show narB L H (Q bits) ((4 : Nat) : Int) = true from hn]
          replace R := R.below hb5
          replace hB := bthen hB hb5
          replace hup := hup.below hb5
          obtain ⟨y0, y1, y2, y3, y4⟩ := (unhide HU).below hb5
          obtain ⟨q0, q1, q2, q3, q4, q5⟩ := R
          have lU2 := Nat.lt_of_lt_of_le lU hb5.size
          have lR3 := Nat.lt_of_lt_of_le lR2 hb5.size
          clear hb5 x0 x1 x2 x3 x4
          go_wp2_with fail
          refine bodyPost_ret (v := .agg #[.bool u.ln, .slice u.la u.lN u.lc, .bool u.hn, .slice u.ha u.hN u.hc, .int .i64 u.bits]) (by simp [results, Tryz.results74, go_sem, q0, q1, q2, q3, q4]) rfl ⟨L, H, ⟨m, lo, hi, unhide HPr, hm, unhide HL, unhide HH, Or.inr hn⟩, u, rfl, unhide HUB, ?_, ?_⟩
          · exact SpAt.put5 hup q0 q1 q2 q3 q4 _ _ _ _ _
          · exact set5 hB (Nat.le_refl _) _ _ _ _ _
      · have ht3' : ¬ (3 : Int) ≤ (t : Int) := by omega
        go_wp2_with fail
        go_roundw
        case rel => exact ⟨m + l.toNat + 32, t + 1, by congr 1; omega, by congr 1, ⟨by omega, by omega, by omega, by
          have g1 := (unhide HL2).1
          have g2 := (unhide HL2).2
          have g3 := unhide HI
          rcases Nat.le_total m Kw with h | h
          · have := g1 h; exact Or.inr (by omega)
          · have := g2 h; exact Or.inl ⟨by omega, by omega⟩⟩, R, hB⟩
        case measure => simp [intOf]; omega
end Go.Proofs.YtgmnknmjainababGreat

namespace Go.Proofs.YtgmnknmjainababGreat
set_option linter.unusedVariables false
set_option linter.unusedSimpArgs false
set_option linter.unnecessarySimpa false
open Go.RowKit
attribute [local go_sem ↓] Go.wp_at_zero Go.wp_at_succ

set_option maxRecDepth 100000 in
set_option maxHeartbeats 2000000 in
theorem below1_any (u : Sp) (w : World) : Calls Tryz.prog 150 #[.agg #[.bool u.ln, .slice u.la u.lN u.lc, .bool u.hn, .slice u.ha u.hN u.hc, .int .i64 u.bits]] w fun r w' => r = .returned (.agg #[.bool u.ln, .slice u.la u.lN u.lc, .bool u.hn, .slice u.ha u.hN u.hc, .int .i64 u.bits]) ∧ Below w.heap.size w w' := by
  obtain ⟨W, hW⟩ : ∃ W, W = (w.alloc (.cells #[.bool u.ln, .slice u.la u.lN u.lc, .bool u.hn, .slice u.ha u.hN u.hc, .int .i64 u.bits] 28)).alloc (.cells #[.bool false, .slice none 0 0, .bool false, .slice none 0 0, .int .i64 0] 28) := ⟨_, rfl⟩
  have hBW : Below w.heap.size w W := by rw [hW]; exact bl2 _ _ _
  have U : SpC W w.heap.size u := by rw [hW]; exact (spc_new w u _).below (bl1 _ _)
  have R : NoC W (w.heap.size + 1) := by rw [hW]; exact ⟨by simp [go_sem], by simp [go_sem], by simp [go_sem], by simp [go_sem], by simp [go_sem], fun o => by simp [go_sem]⟩
  have lR := R.lt
  have lU := U.lt
  obtain ⟨x0, x1, x2, x3, x4⟩ := U
  obtain ⟨q0, q1, q2, q3, q4, q5⟩ := R
  go_enter Tryz.func150, Tryz.ntmps150
  go_wp2
  try rw [← hW]
  clear hW
  try go_wp2
  refine bodyPost_ret (v := .agg #[.bool u.ln, .slice u.la u.lN u.lc, .bool u.hn, .slice u.ha u.hN u.hc, .int .i64 u.bits]) (by simp [results, Tryz.results150, go_sem, q0, q1, q2, q3, q4]) rfl ⟨rfl, ?_⟩
  exact bl2 _ _ _

/-- What the first literal of law.made leans on, for two coins. -/
def CoinAt (w : World) (B1 B2 B3 : Nat) : Prop :=
  w.cell? ⟨B1, 0, none⟩ = some (.func (.func 150) #[] #[]) ∧ w.cell? ⟨B2, 0, none⟩ = some (.int .i64 6) ∧ w.cell? ⟨B2, 1, none⟩ = some (.int .i64 2) ∧ w.cell? ⟨B2, 2, none⟩ = some (.int .i64 1) ∧ w.cell? ⟨B2, 3, none⟩ = some (.int .i64 1) ∧ w.cell? ⟨B2, 4, none⟩ = some (.int .i64 2) ∧ w.cell? ⟨B3, 0, none⟩ = some (.int .i64 1) ∧ w.cell? ⟨B3, 1, none⟩ = some (.int .i64 1)
theorem CoinAt.below {w w' : World} {B1 B2 B3 : Nat} (h : CoinAt w B1 B2 B3) (hb : Below w.heap.size w w') : CoinAt w' B1 B2 B3 := by
  obtain ⟨h0, h1, h2, h3, h4, h5, h6, h7⟩ := h
  have l1 := World.block_lt_of_cell? w ⟨B1, 0, none⟩ h0
  have l2 := World.block_lt_of_cell? w ⟨B2, 0, none⟩ h1
  have l3 := World.block_lt_of_cell? w ⟨B3, 0, none⟩ h6
  exact ⟨(hb.cell (p := ⟨B1, 0, none⟩) l1).trans h0, (hb.cell (p := ⟨B2, 0, none⟩) l2).trans h1, (hb.cell (p := ⟨B2, 1, none⟩) l2).trans h2, (hb.cell (p := ⟨B2, 2, none⟩) l2).trans h3, (hb.cell (p := ⟨B2, 3, none⟩) l2).trans h4, (hb.cell (p := ⟨B2, 4, none⟩) l2).trans h5, (hb.cell (p := ⟨B3, 0, none⟩) l3).trans h6, (hb.cell (p := ⟨B3, 1, none⟩) l3).trans h7⟩

set_option maxRecDepth 100000 in
set_option maxHeartbeats 2000000 in
theorem made1_coin (b : Nat) (B1 B2 B3 : Nat) (w : World) (h : CoinAt w B1 B2 B3) (hb : b ≤ 1000000) :
    Calls Tryz.prog 184 #[.int .i64 b, .pointer (some ⟨B1, 0, none⟩), .pointer (some ⟨B2, 0, none⟩), .pointer (some ⟨B3, 0, none⟩)] w (SpanAns w b (b / 16 + 5000) (3 * Q b / 4) (-(-(3 * Q b) / 4))) := by
  have l1 := World.block_lt_of_cell? w ⟨B1, 0, none⟩ h.1
  have l2 := World.block_lt_of_cell? w ⟨B2, 0, none⟩ h.2.1
  have l3 := World.block_lt_of_cell? w ⟨B3, 0, none⟩ h.2.2.2.2.2.2.1
  obtain ⟨W, hW⟩ : ∃ W, W = w.alloc (.cells #[.bool false, .slice none 0 0, .bool false, .slice none 0 0, .int .i64 0] 28) := ⟨_, rfl⟩
  have hBW : Below w.heap.size w W := by rw [hW]; exact bl1 _ _
  have R : NoC W w.heap.size := by rw [hW]; exact noc_new _ _
  have h' := h.below hBW
  have HK := hide (show ∀ w', Below W.heap.size W w' → (w'.cell? ⟨B1, 0, none⟩ = some (.func (.func 150) #[] #[]) ∧ w'.cell? ⟨B2, 0, none⟩ = some (.int .i64 6) ∧ w'.cell? ⟨B2, 1, none⟩ = some (.int .i64 2) ∧ w'.cell? ⟨B2, 2, none⟩ = some (.int .i64 1) ∧ w'.cell? ⟨B2, 3, none⟩ = some (.int .i64 1) ∧ w'.cell? ⟨B2, 4, none⟩ = some (.int .i64 2) ∧ w'.cell? ⟨B3, 0, none⟩ = some (.int .i64 1) ∧ w'.cell? ⟨B3, 1, none⟩ = some (.int .i64 1)) from fun w' hB => h'.below hB)
  have e1 : cntF (wayN (2 : Nat) 1 2) 2 = 3 := by decide
  have e2 : (2 : Int) ^ 2 = 4 := by decide
  have HC := hide (fun W b' => below_count 1 1 2 1 1 2 2 b W ⟨by omega, by omega, by omega, by omega⟩ (by decide) (by omega) (by omega) (by omega) (by omega) (by omega) (b' : b ≤ 1000000))
  rw [e1, e2] at HC
  clear h h'
  go_enter Tryz.func184, Tryz.ntmps184
  go_wp2
  rw [← hW]
  clear hW
  have lR := R.lt
  have nA : B1 ≠ w.heap.size := by omega
  have nA' : w.heap.size ≠ B1 := by omega
  have nB : B2 ≠ w.heap.size := by omega
  have nB' : w.heap.size ≠ B2 := by omega
  have nC : B3 ≠ w.heap.size := by omega
  have nC' : w.heap.size ≠ B3 := by omega
  obtain ⟨x0, x1, x2, x3, x4, x5, x6, x7⟩ := unhide HK _ (Below.refl _ _)
  have hD0 : Below W.heap.size W W.drew := (Below.refl _ _).drew
  go_region_held3 (fun w' => w'.cell? ⟨B1, 0, none⟩ = some (.func (.func 150) #[] #[]) ∧ w'.cell? ⟨B2, 0, none⟩ = some (.int .i64 6) ∧ w'.cell? ⟨B2, 1, none⟩ = some (.int .i64 2) ∧ w'.cell? ⟨B2, 2, none⟩ = some (.int .i64 1) ∧ w'.cell? ⟨B2, 3, none⟩ = some (.int .i64 1) ∧ w'.cell? ⟨B2, 4, none⟩ = some (.int .i64 2) ∧ w'.cell? ⟨B3, 0, none⟩ = some (.int .i64 1) ∧ w'.cell? ⟨B3, 1, none⟩ = some (.int .i64 1)) (first | exact unhide HK _ (by first | with_reducible exact hD0 | with_reducible exact hD2 | with_reducible exact hD1) | go_keep)
    (first
      | (go_at_call 150; refine (below1_any u _).mono ?_; rintro r' w2 ⟨rfl, hb2⟩; have hD2 := bthen hD1 hb2; replace hup := hup.below hb2; obtain ⟨q0, q1, q2, q3, q4, q5⟩ := R.below hD2; obtain ⟨y0, y1, y2, y3, y4, y5, y6, y7⟩ := unhide HK _ hD2)
      | (go_at_call 185; refine (unhide HC _ hb).mono ?_; rintro r' w1 ⟨u, rfl, hub, hup, hb1⟩; have hD1 := bthen hD0 hb1; have HUB := hide hub; clear hub))
  all_goals
    go_wp2_with fail
    refine bodyPost_ret (v := .agg #[.bool u.ln, .slice u.la u.lN u.lc, .bool u.hn, .slice u.ha u.hN u.hc, .int .i64 u.bits]) (by simp [results, Tryz.results184, go_sem, q0, q1, q2, q3, q4]) rfl ⟨u, rfl, unhide HUB, ?_, ?_⟩
    · exact SpAt.put5 hup q0 q1 q2 q3 q4 _ _ _ _ _
    · exact set5 (bthen hBW hD2) (Nat.le_refl _) _ _ _ _ _

/-- What comes of N over D, by some bits. -/
def Exact (N D : Int) (B : Nat) (lo hi : Int) : Prop := lo = N * Q B / D ∧ hi = -(-(N * Q B) / D)
theorem exact_ends {N D : Int} {bits : Nat} (hD : 0 < D) (h0 : 0 ≤ N) (h1 : N ≤ D) (hb : bits ≤ 120) : SureEnds bits 0 (Exact N D) := by
  rintro m lo hi ⟨rfl, rfl⟩
  have a1 := ceil_ge (N * Q (bits + m)) D hD
  have a2 := ceil_lt (N * Q (bits + m)) D hD
  have a3 := flo_le (N * Q (bits + m)) D hD
  have a4 := flo_gt (N * Q (bits + m)) D hD
  have hs := Int.sub_mul (-(-(N * Q (bits + m)) / D)) (N * Q (bits + m) / D) D
  have hq := Q_pos (bits + m)
  have hx0 : 0 ≤ N * Q (bits + m) := Int.mul_nonneg h0 (by omega)
  have hx1 : N * Q (bits + m) ≤ D * Q (bits + m) := Int.mul_le_mul_of_nonneg_right h1 (by omega)
  have hbig : Q (bits + m) + 1 ≤ P 200 * Q m := by
    have e : P 200 = Q 3200 := (Q_P 200).symm
    rw [e, ← Q_add]
    have h5 := Q_mono (show bits + m + 1 ≤ 3200 + m by omega)
    have e2 : Q (bits + m + 1) = 2 * Q (bits + m) := rfl
    omega
  refine ⟨?_, ?_, ?_, ?_⟩
  · refine Int.not_lt.1 fun hn => ?_
    have := Int.mul_le_mul_of_nonneg_right (show -(-(N * Q (bits + m)) / D) - N * Q (bits + m) / D ≤ -1 by omega) (show 0 ≤ D by omega)
    omega
  · show _ ≤ 1
    refine Int.not_lt.1 fun hn => ?_
    have := Int.mul_le_mul_of_nonneg_right (show 2 ≤ -(-(N * Q (bits + m)) / D) - N * Q (bits + m) / D by omega) (show 0 ≤ D by omega)
    omega
  · have : 0 ≤ N * Q (bits + m) / D := Int.ediv_nonneg hx0 (by omega)
    omega
  · refine Int.not_lt.1 fun hn => ?_
    have h6 := Int.mul_le_mul_of_nonneg_right (show Q (bits + m) + 1 ≤ -(-(N * Q (bits + m)) / D) by omega) (show 0 ≤ D by omega)
    have h7 : (Q (bits + m) + 1) * D = D * Q (bits + m) + D := by rw [Int.add_mul, Int.mul_comm (Q (bits + m))]; omega
    omega
theorem exact_sure {N D L H : Int} {bits : Nat} (z : Int) (hz : N * Q bits = D * z) (hD : 0 < D) (h : SureOf bits (Exact N D) L H) : L = z ∧ H = z := by
  obtain ⟨m, lo, hi, ⟨rfl, rfl⟩, hm, rfl, rfl, _⟩ := h
  have hq := Q_pos m
  have e : N * Q (bits + m) = D * (z * Q m) := by rw [Q_add, ← Int.mul_assoc, hz, Int.mul_assoc]
  have e2 : -(D * (z * Q m)) = D * (-(z * Q m)) := by rw [Int.mul_neg]
  rw [e, e2, Int.mul_ediv_cancel_left _ (by omega), Int.mul_ediv_cancel_left _ (by omega), Int.neg_neg]
  rw [← Int.neg_mul, Int.mul_ediv_cancel _ (by omega), Int.mul_ediv_cancel _ (by omega)]
  omega
end Go.Proofs.YtgmnknmjainababGreat

namespace Go.Proofs.YtgmnknmjainababGreat
set_option linter.unusedVariables false
set_option linter.unusedSimpArgs false
set_option linter.unnecessarySimpa false
open Go.RowKit
attribute [local go_sem ↓] Go.wp_at_zero Go.wp_at_succ

theorem coin_sure {L H : Int} (h : SureOf 20 (Exact 3 4) L H) : L = 786432 ∧ H = 786432 := exact_sure 786432 (by decide) (by decide) h
theorem half_sure {L H : Int} (h : SureOf 20 (Exact 2 4) L H) : L = 524288 ∧ H = 524288 := exact_sure 524288 (by decide) (by decide) h

set_option maxRecDepth 100000 in
set_option maxHeartbeats 2000000 in
theorem made_coin (w : World) :
    Calls Tryz.prog 149 #[.agg #[.int .i64 6, .int .i64 2, .int .i64 1, .int .i64 1, .int .i64 2], .agg #[.int .i64 1, .int .i64 1], .int .i64 20, .func (.func 150) #[] #[]] w (PairAns w 20 250 786432 786432 0) := by
  have e0 : lawE 6 2 1 1 2 = 0 := by decide
  have e1 : ratE 1 1 20 = 0 := by decide
  go_enter Tryz.func149, Tryz.ntmps149
  go_wp2_with fail
  refine (check_law 6 2 1 1 2 _).mono ?_
  rintro r' w1 ⟨rfl, hb1⟩
  rw [e0]
  have C : CoinAt w1 (w.heap.size + 1 + 1) w.heap.size (w.heap.size + 1) := CoinAt.below ⟨by simp [go_sem], by simp [go_sem], by simp [go_sem], by simp [go_sem], by simp [go_sem], by simp [go_sem], by simp [go_sem], by simp [go_sem]⟩ hb1
  have R : NoC w1 (w.heap.size + 1 + 1 + 1) := NoC.below ⟨by simp [go_sem], by simp [go_sem], by simp [go_sem], by simp [go_sem], by simp [go_sem], fun o => by simp [go_sem]⟩ hb1
  have hB : Below w.heap.size w w1 := bthen (bl4 _ _ _ _ _) hb1
  have lR := R.lt
  obtain ⟨x0, x1, x2, x3, x4, x5, x6, x7⟩ := C
  have C : CoinAt w1 (w.heap.size + 1 + 1) w.heap.size (w.heap.size + 1) := ⟨x0, x1, x2, x3, x4, x5, x6, x7⟩
  clear hb1
  go_wp2_with fail
  refine (ratioFault1 20 w1 _ (by simp) 1 1 _ _).mono ?_
  rintro r' w2 ⟨rfl, hb2⟩
  rw [e1]
  replace C := C.below hb2
  replace R := R.below hb2
  replace hB := bthen hB hb2
  clear hb2 x0 x1 x2 x3 x4 x5 x6 x7
  go_wp2_with fail
  refine (sure_lawmade _ _ _ 20 0 6000 (Exact 3 4) _ (by omega) (by omega) (by omega) (exact_ends (by decide) (by decide) (by decide) (by omega)) (fun m w' hm hm2 hbl => ?_)).mono ?_
  · have := made1_coin (20 + m) (w.heap.size + 1 + 1) w.heap.size (w.heap.size + 1) w' (C.below hbl) (by omega)
    rw [show (((20 + m : Nat) : Nat) : Int) = ((20 : Nat) : Int) + m by omega] at this
    refine this.mono fun r w'' ⟨s, g1, g2, g3, g4⟩ => ⟨_, _, ⟨rfl, rfl⟩, s, g1, g2, ⟨g3.lo.mono (by omega), g3.hi.mono (by omega)⟩, g4⟩
  rintro r' w3 ⟨L, H, hS, u, rfl, hub, hup, hb3⟩
  obtain ⟨rfl, rfl⟩ := coin_sure hS
  obtain ⟨q0, q1, q2, q3, q4, q5⟩ := R.below hb3
  replace hB := bthen hB hb3
  have HUB := hide hub
  clear hub
  go_wp2_with fail
  refine bodyPost_ret (v := .tuple #[.agg #[.bool u.ln, .slice u.la u.lN u.lc, .bool u.hn, .slice u.ha u.hN u.hc, .int .i64 u.bits], .int .i64 0]) (by simp [results, Tryz.results149, go_sem, q0, q1, q2, q3, q4]) rfl ⟨u, rfl, unhide HUB, ?_, ?_⟩
  · exact SpAt.put5 hup q0 q1 q2 q3 q4 _ _ _ _ _
  · exact set5 hB (by omega) _ _ _ _ _

set_option maxRecDepth 100000 in
set_option maxHeartbeats 2000000 in
theorem below_coin (w : World) :
    Calls Tryz.prog 79 #[.agg #[.int .i64 6, .int .i64 2, .int .i64 1, .int .i64 1, .int .i64 2], .agg #[.int .i64 1, .int .i64 1], .int .i64 20] w (PairAns w 20 250 786432 786432 0) := by
  go_enter Tryz.func79, Tryz.ntmps79
  go_wp2_with fail
  refine (made_coin _).mono ?_
  rintro r' w1 ⟨u, rfl, hub, hup, hb1⟩
  have R : NoC w1 (w.heap.size + 1 + 1) := NoC.below ⟨by simp [go_sem], by simp [go_sem], by simp [go_sem], by simp [go_sem], by simp [go_sem], fun o => by simp [go_sem]⟩ hb1
  have hB : Below w.heap.size w w1 := bthen (bl3 _ _ _ _) hb1
  obtain ⟨q0, q1, q2, q3, q4, q5⟩ := R
  have HUB := hide hub
  clear hub hb1
  go_wp2_with fail
  refine bodyPost_ret (v := .tuple #[.agg #[.bool u.ln, .slice u.la u.lN u.lc, .bool u.hn, .slice u.ha u.hN u.hc, .int .i64 u.bits], .int .i64 0]) (by simp [results, Tryz.results79, go_sem, q0, q1, q2, q3, q4]) rfl ⟨u, rfl, unhide HUB, ?_, ?_⟩
  · exact SpAt.put5 hup q0 q1 q2 q3 q4 _ _ _ _ _
  · exact set5 hB (by omega) _ _ _ _ _
end Go.Proofs.YtgmnknmjainababGreat

namespace Go.Proofs.YtgmnknmjainababGreat
set_option linter.unusedVariables false
set_option linter.unusedSimpArgs false
set_option linter.unnecessarySimpa false
open Go.RowKit
attribute [local go_sem ↓] Go.wp_at_zero Go.wp_at_succ

set_option maxRecDepth 100000 in
set_option maxHeartbeats 2000000 in
theorem massFault_coin (w : World) :
    Calls Tryz.prog 85 #[.agg #[.int .i64 6, .int .i64 2, .int .i64 1, .int .i64 1, .int .i64 2], .int .i64 1, .int .i64 20] w fun r w' => r = .returned (.int .i64 0) ∧ Below w.heap.size w w' := by
  have e0 : lawE 6 2 1 1 2 = 0 := by decide
  go_enter Tryz.func85, Tryz.ntmps85
  go_wp2_with fail
  refine (check_law 6 2 1 1 2 _).mono ?_
  rintro r' w1 ⟨rfl, hb1⟩
  rw [e0]
  have C : LwC w1 w.heap.size 6 2 1 1 2 := (lwc_new w 6 2 1 1 2 _).below hb1
  have hB : Below w.heap.size w w1 := bthen (bl1 _ _) hb1
  obtain ⟨x0, x1, x2, x3, x4⟩ := C
  clear hb1
  go_wp2_with fail
  go_ret
  exact ⟨rfl, hB⟩

set_option maxRecDepth 100000 in
set_option maxHeartbeats 2000000 in
theorem just_coin (b : Nat) (w : World) (hb : b ≤ 1000000) :
    Calls Tryz.prog 87 #[.agg #[.int .i64 6, .int .i64 2, .int .i64 1, .int .i64 1, .int .i64 2], .int .i64 1, .int .i64 b] w (SpanAns w b (b / 16 + 5000) (2 * Q b / 4) (-(-(2 * Q b) / 4))) := by
  obtain ⟨W, hW⟩ : ∃ W, W = (w.alloc (.cells #[.int .i64 6, .int .i64 2, .int .i64 1, .int .i64 1, .int .i64 2] 53)).alloc (.cells #[.bool false, .slice none 0 0, .bool false, .slice none 0 0, .int .i64 0] 28) := ⟨_, rfl⟩
  have hBW : Below w.heap.size w W := by rw [hW]; exact bl2 _ _ _
  have C : LwC W w.heap.size 6 2 1 1 2 := by rw [hW]; exact (lwc_new w 6 2 1 1 2 _).below (bl1 _ _)
  have R : NoC W (w.heap.size + 1) := by rw [hW]; exact ⟨by simp [go_sem], by simp [go_sem], by simp [go_sem], by simp [go_sem], by simp [go_sem], fun o => by simp [go_sem]⟩
  have HK := hide (show ∀ w', Below W.heap.size W w' → (w'.cell? ⟨w.heap.size, 0, none⟩ = some (.int .i64 6) ∧ w'.cell? ⟨w.heap.size, 1, none⟩ = some (.int .i64 2) ∧ w'.cell? ⟨w.heap.size, 2, none⟩ = some (.int .i64 1) ∧ w'.cell? ⟨w.heap.size, 3, none⟩ = some (.int .i64 1) ∧ w'.cell? ⟨w.heap.size, 4, none⟩ = some (.int .i64 2)) from fun w' hB => ⟨(C.below hB).c0, (C.below hB).c1, (C.below hB).c2, (C.below hB).c3, (C.below hB).c4⟩)
  have e1 : wayF ((1 : Int) ^ 1 * (2 - 1) ^ ((2 : Int).toNat - 1)) (2 - (1 : Nat)) 1 = 2 := by decide
  have e2 : (2 : Int) ^ 2 = 4 := by decide
  have HW := hide (fun W => ways_int 6 2 1 1 2 1 W (by omega) (by omega) (by omega) (by omega) (by omega))
  rw [e1] at HW
  have HP := hide (fun W => raised_int 2 2 W (by omega) (by omega) (by omega))
  rw [e2] at HP
  go_enter Tryz.func87, Tryz.ntmps87
  go_wp2
  try rw [← hW]
  clear hW e1 e2
  have lR := R.lt
  have nA : w.heap.size ≠ w.heap.size + 1 := by omega
  have nA' : w.heap.size + 1 ≠ w.heap.size := by omega
  obtain ⟨x0, x1, x2, x3, x4⟩ := unhide HK _ (Below.refl _ _)
  have hD0 : Below W.heap.size W W.drew := (Below.refl _ _).drew
  go_region_held3 (fun w' => w'.cell? ⟨w.heap.size, 0, none⟩ = some (.int .i64 6) ∧ w'.cell? ⟨w.heap.size, 1, none⟩ = some (.int .i64 2) ∧ w'.cell? ⟨w.heap.size, 2, none⟩ = some (.int .i64 1) ∧ w'.cell? ⟨w.heap.size, 3, none⟩ = some (.int .i64 1) ∧ w'.cell? ⟨w.heap.size, 4, none⟩ = some (.int .i64 2)) (first | exact unhide HK _ (by first | with_reducible exact hD0 | with_reducible exact hD3 | with_reducible exact hD2 | with_reducible exact hD1) | go_keep)
    (first
      | (go_at_call 140; have hq := hD2; refine (wideOf_any _ _ _ _ _ _ _ _ 500 500 b 2 4 _ ((hint1.below hb2).mono (by omega)) (hint2.mono (by omega)) (by omega) hb (by omega)).mono ?_; rintro r' w3 ⟨u, rfl, hub, hup, hb3⟩; have hD3 := bthen hD2 hb3; obtain ⟨q0, q1, q2, q3, q4, q5⟩ := R.below hD3; have HUB := hide hub; clear hub; obtain ⟨y0, y1, y2, y3, y4⟩ := unhide HK _ hD3)
      | (go_at_call 154; refine (unhide HP _).mono ?_; rintro r' w2 ⟨neg2, a2, n2, c2, rfl, hint2, hb2⟩; have hD2 := bthen hD1 hb2)
      | (go_at_call 153; refine (unhide HW _).mono ?_; rintro r' w1 ⟨neg1, a1, n1, c1, rfl, hint1, hb1⟩; have hD1 := bthen hD0 hb1))
  all_goals
    go_wp2_with fail
    refine bodyPost_ret (v := .agg #[.bool u.ln, .slice u.la u.lN u.lc, .bool u.hn, .slice u.ha u.hN u.hc, .int .i64 u.bits]) (by simp [results, Tryz.results87, go_sem, q0, q1, q2, q3, q4]) rfl ⟨u, rfl, unhide HUB, ?_, ?_⟩
    · exact SpAt.put5 (hup.mono (by omega)) q0 q1 q2 q3 q4 _ _ _ _ _
    · exact set5 (bthen hBW hD3) (Nat.le_succ _) _ _ _ _ _

/-- What the literal of law.Mass leans on, for two coins. -/
def HalfAt (w : World) (B1 B2 : Nat) : Prop := LwC w B1 6 2 1 1 2 ∧ w.cell? ⟨B2, 0, none⟩ = some (.int .i64 1)
theorem HalfAt.below {w w' : World} {B1 B2 : Nat} (h : HalfAt w B1 B2) (hb : Below w.heap.size w w') : HalfAt w' B1 B2 :=
  ⟨h.1.below hb, (hb.cell (p := ⟨B2, 0, none⟩) (World.block_lt_of_cell? w ⟨B2, 0, none⟩ h.2)).trans h.2⟩

set_option maxRecDepth 100000 in
set_option maxHeartbeats 2000000 in
theorem mass1_coin (b : Nat) (B1 B2 : Nat) (w : World) (h : HalfAt w B1 B2) (hb : b ≤ 1000000) :
    Calls Tryz.prog 86 #[.int .i64 b, .pointer (some ⟨B1, 0, none⟩), .pointer (some ⟨B2, 0, none⟩)] w (SpanAns w b (b / 16 + 5000) (2 * Q b / 4) (-(-(2 * Q b) / 4))) := by
  obtain ⟨⟨x0, x1, x2, x3, x4⟩, y0⟩ := h
  have l1 := World.block_lt_of_cell? w ⟨B1, 0, none⟩ x0
  have l2 := World.block_lt_of_cell? w ⟨B2, 0, none⟩ y0
  go_enter Tryz.func86, Tryz.ntmps86
  go_wp2_with fail
  refine (just_coin b _ hb).mono ?_
  rintro r' w1 ⟨u, rfl, hub, hup, hb1⟩
  obtain ⟨q0, q1, q2, q3, q4, q5⟩ := (noc_new w 28).below hb1
  have hB : Below w.heap.size w w1 := bthen (bl1 _ _) hb1
  have HUB := hide hub
  clear hub hb1
  go_wp2_with fail
  refine bodyPost_ret (v := .agg #[.bool u.ln, .slice u.la u.lN u.lc, .bool u.hn, .slice u.ha u.hN u.hc, .int .i64 u.bits]) (by simp [results, Tryz.results86, go_sem, q0, q1, q2, q3, q4]) rfl ⟨u, rfl, unhide HUB, ?_, ?_⟩
  · exact SpAt.put5 hup q0 q1 q2 q3 q4 _ _ _ _ _
  · exact set5 hB (Nat.le_refl _) _ _ _ _ _

set_option maxRecDepth 100000 in
set_option maxHeartbeats 2000000 in
theorem mass_coin (w : World) :
    Calls Tryz.prog 36 #[.agg #[.int .i64 6, .int .i64 2, .int .i64 1, .int .i64 1, .int .i64 2], .int .i64 1, .int .i64 20] w (PairAns w 20 250 524288 524288 0) := by
  go_enter Tryz.func36, Tryz.ntmps36
  go_wp2_with fail
  refine (massFault_coin _).mono ?_
  rintro r' w1 ⟨rfl, hb1⟩
  have C : HalfAt w1 w.heap.size (w.heap.size + 1) := HalfAt.below ⟨⟨by simp [go_sem], by simp [go_sem], by simp [go_sem], by simp [go_sem], by simp [go_sem]⟩, by simp [go_sem]⟩ hb1
  have R : NoC w1 (w.heap.size + 1 + 1) := NoC.below ⟨by simp [go_sem], by simp [go_sem], by simp [go_sem], by simp [go_sem], by simp [go_sem], fun o => by simp [go_sem]⟩ hb1
  have hB : Below w.heap.size w w1 := bthen (bl3 _ _ _ _) hb1
  have lR := R.lt
  clear hb1
  go_wp2_with fail
  refine (sure_mass _ _ 20 0 6000 (Exact 2 4) _ (by omega) (by omega) (by omega) (exact_ends (by decide) (by decide) (by decide) (by omega)) (fun m w' hm hm2 hbl => ?_)).mono ?_
  · have := mass1_coin (20 + m) w.heap.size (w.heap.size + 1) w' (C.below hbl) (by omega)
    rw [show (((20 + m : Nat) : Nat) : Int) = ((20 : Nat) : Int) + m by omega] at this
    refine this.mono fun r w'' ⟨s, g1, g2, g3, g4⟩ => ⟨_, _, ⟨rfl, rfl⟩, s, g1, g2, ⟨g3.lo.mono (by omega), g3.hi.mono (by omega)⟩, g4⟩
  rintro r' w3 ⟨L, H, hS, u, rfl, hub, hup, hb3⟩
  obtain ⟨rfl, rfl⟩ := half_sure hS
  obtain ⟨q0, q1, q2, q3, q4, q5⟩ := R.below hb3
  replace hB := bthen hB hb3
  have HUB := hide hub
  clear hub
  go_wp2_with fail
  refine bodyPost_ret (v := .tuple #[.agg #[.bool u.ln, .slice u.la u.lN u.lc, .bool u.hn, .slice u.ha u.hN u.hc, .int .i64 u.bits], .int .i64 0]) (by simp [results, Tryz.results36, go_sem, q0, q1, q2, q3, q4]) rfl ⟨u, rfl, unhide HUB, ?_, ?_⟩
  · exact SpAt.put5 hup q0 q1 q2 q3 q4 _ _ _ _ _
  · exact set5 hB (by omega) _ _ _ _ _
end Go.Proofs.YtgmnknmjainababGreat
