/-
  Texts NumG, NumH, NumI, NumJ, NumK, SpanA: what they hold is told in the last text.
-/
import Derived.Test.YtgmnknmjainababK05
set_option linter.unnecessarySimpa false
set_option linter.unusedSimpArgs false
set_option linter.unusedVariables false
namespace Go.Proofs.Ytgmnknmjainabab
open Go.RowKit
theorem up_alg (v x o : Int) (i q s : Nat) : v * Q s * P q + (o + x * Q s % 65536 - o) * P (i + q) + (x * Q s / 65536 - 0) * P (i + q + 1) = (v + x * P i) * Q s * P q := by
  have h1 : (o + x * Q s % 65536 - o) * P (i + q) + (x * Q s / 65536 - 0) * (65536 * P (i + q)) = x * Q s * P (i + q) := by
    rw [← Int.mul_assoc, ← Int.add_mul]; congr 1; omega
  have h2 : (v + x * P i) * Q s * P q = v * Q s * P q + x * Q s * P (i + q) := by
    rw [P_add, Int.add_mul, Int.add_mul, Int.mul_assoc x (P i), Int.mul_comm (P i) (Q s), ← Int.mul_assoc x, Int.mul_assoc (x * Q s)]
  rw [h2]
  simp only [P]; omega
set_option maxRecDepth 100000 in
set_option maxHeartbeats 1000000 in
theorem up_any (neg : Bool) (a : Option Addr) (n cap k : Nat) (d : Nat → Int) (w : World) (ha : Dig w a n cap d) (hn : n ≤ 1000000000) (hk : k ≤ 1000000000) :
    Calls Try.prog 113 #[.agg #[.bool neg, .slice a n cap], .int .i64 k] w fun r w' =>
      ∃ neg' a' n' cap', r = .returned (.agg #[.bool neg', .slice a' n' cap']) ∧ IntAt w' neg' a' n' cap' (k / 16 + n + 1) (sgn neg (V d n * Q k)) ∧ Below w.heap.size w w' := by
  obtain ⟨q, hq⟩ : ∃ q, q = k / 16 := ⟨_, rfl⟩
  obtain ⟨s, hs⟩ : ∃ s, s = k % 16 := ⟨_, rfl⟩
  have hq' : (k : Int) / 16 = (q : Int) := by omega
  have hs' : (k : Int) % 16 = (s : Int) := by omega
  have hs16 : s < 16 := by omega
  have hk' : ¬ (k : Int) < 0 := by omega
  obtain ⟨W, hW⟩ : ∃ W, W = (w.alloc (.cells #[.bool neg, .slice a n cap] 26)).alloc (.cells #[.bool false, .slice none 0 0] 26) := ⟨_, rfl⟩
  have b3 : Below w.heap.size w W := by rw [hW]; exact bl2 _ _ _
  have s3 : W.heap.size = w.heap.size + 1 + 1 := by rw [hW]; simp
  have k0 : W.cell? ⟨w.heap.size, 0, none⟩ = some (.bool neg) := by rw [hW]; simp [go_sem]
  have k3 : W.cell? ⟨w.heap.size + 1, 0, none⟩ = some (.bool false) := by rw [hW]; simp [go_sem]
  have k4 : W.cell? ⟨w.heap.size + 1, 1, none⟩ = some (.slice none 0 0) := by rw [hW]; simp [go_sem]
  have k5 : ∀ o, W.frozen? ⟨w.heap.size + 1, o, none⟩ = false := by intro o; rw [hW]; simp [go_sem]
  have HW := hide hW
  clear hW
  have hmk := run_make_row' (P := Try.prog) 24 85 (.int .u16 0) 2 Try.underlying24 Try.infoU16 rfl .i64 .i64 (q + n + 1) (by omega) (by omega)
  have hnm : ((q + n + 1 : Nat) : Int) = (q : Int) + n + 1 := by omega
  rw [hnm] at hmk
  have Hq := hide hq
  have Hs := hide hs
  clear hnm hq hs
  go_enter Try.func113, Try.ntmps113
  go_wp2
  clear hmk
  go_loopw [26] (fun ii wr => ∃ (i : Nat) (o : Nat → Int), i ≤ n ∧ ii = .int .i64 i ∧ wr.rowIs (w.heap.size + 1 + 1) 85 (q + n + 1) (fun j => .int .u16 (o j)) ∧ Dgs o ∧ V o (q + n + 1) = V d i * Q s * P q ∧ (∀ j, i + q < j → o j = 0) ∧ o (i + q) < Q s ∧ Below (w.heap.size + 1 + 1) W wr) (fun ii _ => n - (intOf ii).toNat)
  case atStart =>
    refine ⟨0, fun _ => 0, Nat.zero_le _, rfl, ?_, fun _ => ⟨by simp, by simp⟩, ?_, fun _ _ => rfl, ?_, ?_⟩
    · have := World.rowIs_made W (.int .u16 0) (q + n + 1) 85
      rw [s3, unhide HW] at this; exact this
    · rw [V_zero]; simp [V]
    · have := Q_pos s; simp; omega
    · rw [unhide HW]; exact (Below.refl _ _).alloc (by simp) _
  case round =>
    obtain ⟨i, o, hi, rfl, hrow, hod, hov, hoz, hoq, hbl⟩ := hrel
    by_cases hin : i < n
    · obtain ⟨b1, o1, rfl, hb1, hc1⟩ := ha.at_ (by omega)
      have g1 : wr.cell? ⟨b1, o1 + i, none⟩ = some (.int .u16 (d i)) := (hbl.cell (p := ⟨b1, o1 + i, none⟩) (by show b1 < _; omega)).trans ((b3.cell (p := ⟨b1, o1 + i, none⟩) hb1).trans (hc1 i hin))
      have db := ha.dgs i
      have r1 := hrow.cell (show i + q < q + n + 1 by omega)
      have r2 := hrow.frozen (i + q)
      have r3 := hrow.cell (show i + q + 1 < q + n + 1 by omega)
      have r4 := hrow.frozen (i + q + 1)
      have hz1 := hoz (i + q + 1) (by omega)
      rw [hz1] at r3
      have ob := hod (i + q)
      have HV := hide hov
      have HZ := hide hoz
      have HR := hide hrow
      have HD := hide hod
      have HZ1 := hide hz1
      clear hc1 hov hoz hrow hod hz1
      obtain ⟨c, hlow⟩ := up_low (d i) s (by omega)
      have hhigh := up_high (d i) s db.1 db.2
      have hlt := up_lt (d i) s hs16 db.1 db.2
      have hmod : d i * 2 ^ s % 4294967296 = d i * Q s := by rw [Q_pow]; omega
      have hor := or16 (o (i + q)) (d i * Q s % 65536) c s (by omega) ob.1 hoq hlow (by omega) (by omega)
      have hor2 := or16 0 (d i * Q s / 65536) (d i * Q s / 65536) 0 (by omega) (by omega) (by simp [Q]) (by simp [Q]) hhigh.1 (by omega)
      have H1 := hide (show bits .or .u16 (o (i + q)) (IntKind.u16.wrap (d i * 2 ^ s % 4294967296)) = o (i + q) + d i * Q s % 65536 by rw [hmod, wrap16]; exact hor.1)
      have H2 := hide (show bits .or .u16 0 (d i * 2 ^ s % 4294967296 / 65536) = d i * Q s / 65536 by rw [hmod, hor2.1]; omega)
      have H3 := hide hor.2
      have H4 := hide hhigh
      have hQ16 := Q_mono (show s ≤ 15 by omega)
      have e15 : Q 15 = 32768 := rfl
      rw [e15] at hQ16
      clear hlow hlt hmod hor hor2 hhigh e15
      go_wp2
      go_roundw
      case rel =>
        have h3 := unhide H3
        have h4 := unhide H4
        have hne : i + q + 1 ≠ i + q := by omega
        have hz : upd o (i + q) (o (i + q) + d i * Q s % 65536) (i + q + 1) = 0 := by simp [upd]; exact unhide HZ1
        refine ⟨i + 1, upd (upd o (i + q) (o (i + q) + d i * Q s % 65536)) (i + q + 1) (d i * Q s / 65536), by omega, by go_num, row_upd (row_upd (unhide HR) (i + q) (unhide H1)) (i + q + 1) (unhide H2), upd_dgs (upd_dgs (unhide HD) _ (by omega) h3) _ h4.1 (by omega), ?_, fun j hj => ?_, ?_, (hbl.setCell (by simp) _).setCell (by simp) _⟩
        · rw [upd_V _ _ _ _ (by omega), upd_V _ _ _ _ (by omega), hz, unhide HV]
          exact up_alg (V d i) (d i) (o (i + q)) i q s
        · have e1 : j ≠ i + q := by omega
          have e2 : j ≠ i + q + 1 := by omega
          simp only [upd, e1, e2, if_false]; exact unhide HZ j (by omega)
        · have e1 : i + 1 + q = i + q + 1 := by omega
          rw [e1]; simp only [upd, if_true]; exact h4.2
      case measure => simp [intOf]; omega
    · have hiE : i = n := by omega
      subst hiE
      have q0 : wr.cell? ⟨w.heap.size, 0, none⟩ = some (.bool neg) := (hbl.cell (p := ⟨w.heap.size, 0, none⟩) (by show w.heap.size < _; omega)).trans k0
      have q3 : wr.cell? ⟨w.heap.size + 1, 0, none⟩ = some (.bool false) := (hbl.cell (p := ⟨w.heap.size + 1, 0, none⟩) (by simp)).trans k3
      have q4 : wr.cell? ⟨w.heap.size + 1, 1, none⟩ = some (.slice none 0 0) := (hbl.cell (p := ⟨w.heap.size + 1, 1, none⟩) (by simp)).trans k4
      have q5 : ∀ o, wr.frozen? ⟨w.heap.size + 1, o, none⟩ = false := fun o => (hbl.frozen (p := ⟨w.heap.size + 1, o, none⟩) (by simp)).trans (k5 o)
      have hsw := hbl.size
      rw [s3] at hsw
      have HR := hide (rowDig hrow hod (by omega))
      have HV := hide hov
      clear hov hoz hrow hod
      go_wp2_with (go_at_call 91; refine (of_int _ _ _ _ o _ (unhide HR)).mono ?_; rintro r w2 ⟨neg', a2, n2, c2, rfl, hint, hb2⟩; obtain ⟨hsz2, hcell2, hfz2⟩ := near (w.heap.size + 1 + 1) hsw hb2)
      refine bodyPost_ret (v := .agg #[.bool neg', .slice a2 n2 c2]) (by simp [results, Try.results113, go_sem, hcell2, q3, q4]) rfl ⟨neg', a2, n2, c2, rfl, ?_, ?_⟩
      · have h0 : w2.cell? ⟨w.heap.size + 1, 0, none⟩ = some (.bool false) := by simp [hcell2, q3]
        have h1' : w2.cell? ⟨w.heap.size + 1, 1, none⟩ = some (.slice none 0 0) := by simp [hcell2, q4]
        rw [unhide HV, Int.mul_assoc, unhide Hs, unhide Hq, ← Q_split] at hint
        exact hint.put2 h0 h1' _ _
      · exact ((bthen (b3.trans (hbl.mono (by omega))) hb2).setCell (by simp) _).setCell (by simp) _
theorem up_int (neg : Bool) (a : Option Addr) (n cap k k1 : Nat) (x : Int) (w : World) (h1 : IntAt w neg a n cap k1 x) (hk1 : k1 ≤ 1000000000) (hk : k ≤ 1000000000) :
    Calls Try.prog 113 #[.agg #[.bool neg, .slice a n cap], .int .i64 k] w fun r w' =>
      ∃ neg' a' n' cap', r = .returned (.agg #[.bool neg', .slice a' n' cap']) ∧ IntAt w' neg' a' n' cap' (k / 16 + k1 + 1) (x * Q k) ∧ Below w.heap.size w w' := by
  obtain ⟨d, g1, g2, g3, g4, rfl⟩ := h1
  have hs : sgn neg (V d n * Q k) = sgn neg (V d n) * Q k := by cases neg <;> simp [sgn, Int.neg_mul]
  rw [← hs]
  exact (up_any neg a n cap k d w g1 (by omega) hk).mono fun _ _ ⟨n1, n2, n3, n4, q1, q2, q3⟩ => ⟨n1, n2, n3, n4, q1, q2.mono (by omega), q3⟩
end Go.Proofs.Ytgmnknmjainabab
namespace Go.Proofs.Ytgmnknmjainabab
open Go.RowKit
attribute [local go_sem ↓] Go.wp_at_zero Go.wp_at_succ
theorem down_digit (x y : Int) (s : Nat) (hs : s ≤ 16) (hx : 0 ≤ x) (hx1 : x < 65536) (hy : 0 ≤ y) :
    (x + 65536 * y) / Q s % 65536 * Q s + x % Q s = x + y % Q s * 65536 := by
  have h16 := Q16_split hs
  have hq := Q_pos s
  have hr := Q_pos (16 - s)
  generalize Q s = S at *
  generalize Q (16 - s) = R at *
  have e1 : (x + 65536 * y) / S = x / S + R * y := by
    rw [← h16, Int.mul_assoc, Int.add_mul_ediv_left _ _ (by omega)]
  have hxd : S * (x / S) + x % S = x := Int.mul_ediv_add_emod x S
  have hyd : S * (y / S) + y % S = y := Int.mul_ediv_add_emod y S
  have hx0 : 0 ≤ x / S := Int.ediv_nonneg hx (by omega)
  have hxR : x / S < R := Int.ediv_lt_of_lt_mul (by omega) (by rw [Int.mul_comm, h16]; exact hx1)
  have hy0 := Int.emod_nonneg y (show S ≠ 0 by omega)
  have hyS := Int.emod_lt_of_pos y (show 0 < S by omega)
  have e2 : R * y = R * (y % S) + 65536 * (y / S) := by
    have : R * y = R * (S * (y / S) + y % S) := by rw [hyd]
    rw [this, Int.mul_add, ← Int.mul_assoc, Int.mul_comm R S, h16]; omega
  have hRy : R * (y % S) ≤ R * (S - 1) := Int.mul_le_mul_of_nonneg_left (by omega) (by omega)
  have hRy0 : 0 ≤ R * (y % S) := Int.mul_nonneg (by omega) hy0
  have e3 : R * (S - 1) = 65536 - R := by rw [Int.mul_sub, Int.mul_comm R S, h16]; omega
  have e4 : (x + 65536 * y) / S % 65536 = x / S + R * (y % S) := by rw [e1, e2]; omega
  rw [e4, Int.add_mul, Int.mul_comm (x / S) S, Int.mul_assoc, Int.mul_comm (y % S) S, ← Int.mul_assoc, Int.mul_comm R S, h16]
  omega
theorem down_step (d o : Nat → Int) (n q m s : Nat) (hs : s ≤ 16) (hd : Dgs d) {v : Int} (hv : v = (dg d n (q + m) + 65536 * dg d n (q + (m + 1))) / Q s % 65536)
    (h : V o m * Q s + dg d n q % Q s = V (fun j => dg d n (q + j)) m + dg d n (q + m) % Q s * P m) :
    V (upd o m v) (m + 1) * Q s + dg d n q % Q s = V (fun j => dg d n (q + j)) (m + 1) + dg d n (q + (m + 1)) % Q s * P (m + 1) := by
  have b1 : 0 ≤ dg d n (q + m) ∧ dg d n (q + m) < 65536 := by unfold dg; have := hd (q + m); split <;> omega
  have b2 : 0 ≤ dg d n (q + (m + 1)) := by unfold dg; have := hd (q + (m + 1)); split <;> omega
  have h1 := down_digit (dg d n (q + m)) (dg d n (q + (m + 1))) s hs b1.1 b1.2 b2
  rw [← hv] at h1
  have h2 : V (upd o m v) (m + 1) = V o m + v * P m := by
    simp only [V]
    rw [V_congr m (fun j hj => by simp [upd]; omega : ∀ j, j < m → upd o m v j = o j)]
    simp [upd]
  rw [h2]
  simp only [V, P]
  generalize dg d n (q + (m + 1)) % Q s = y at *
  generalize dg d n (q + m) % Q s = z at *
  have h3 : v * Q s * P m + z * P m = dg d n (q + m) * P m + y * (65536 * P m) := by
    rw [← Int.add_mul, h1, Int.add_mul, Int.mul_assoc]
  have h4 : (V o m + v * P m) * Q s = V o m * Q s + v * Q s * P m := by
    rw [Int.add_mul, Int.mul_assoc v, Int.mul_comm (P m) (Q s), ← Int.mul_assoc]
  omega
def lostQ (d : Nat → Int) (q s i : Nat) : Int := if i ≤ q then V d i else V d q + d q % Q s * P q
theorem lost_low {d : Nat → Int} (hd : Dgs d) {q s i : Nat} (h : i < q) : lostQ d q s (i + 1) ≠ 0 ↔ (lostQ d q s i ≠ 0 ∨ d i ≠ 0) := by
  unfold lostQ
  rw [if_pos (by omega), if_pos (by omega)]
  simp only [V]
  have h1 := V_nonneg hd i
  have h2 := hd i
  have h3 := P_pos i
  have h4 : 0 ≤ d i * P i := Int.mul_nonneg h2.1 (by omega)
  by_cases h5 : d i = 0
  · simp [h5]
  · have : 1 * P i ≤ d i * P i := Int.mul_le_mul_of_nonneg_right (by omega) (by omega)
    omega
theorem lost_at {d : Nat → Int} (hd : Dgs d) (q s : Nat) : lostQ d q s (q + 1) ≠ 0 ↔ (lostQ d q s q ≠ 0 ∨ d q % Q s ≠ 0) := by
  unfold lostQ
  rw [if_neg (by omega), if_pos (by omega)]
  have h1 := V_nonneg hd q
  have h2 := Int.emod_nonneg (d q) (show Q s ≠ 0 by have := Q_pos s; omega)
  have h3 := P_pos q
  have h4 : 0 ≤ d q % Q s * P q := Int.mul_nonneg h2 (by omega)
  by_cases h5 : d q % Q s = 0
  · simp [h5]
  · have : 1 * P q ≤ d q % Q s * P q := Int.mul_le_mul_of_nonneg_right (by omega) (by omega)
    omega
theorem lost_high {d : Nat → Int} {q s i : Nat} (h : q < i) : lostQ d q s (i + 1) = lostQ d q s i := by
  unfold lostQ
  rw [if_neg (by omega), if_neg (by omega)]
theorem balloc {w w1 : World} (h : Below w.heap.size w w1) (o : Obj) : Below w.heap.size w (w1.alloc o) := h.alloc h.size o
theorem V_split (d : Nat → Int) (q m : Nat) : V d (q + m) = V d q + P q * V (fun j => d (q + j)) m := by
  induction m with
  | zero => simp [V]
  | succ m ih =>
    rw [← Nat.add_assoc]; simp only [V]; rw [ih, P_add, Int.mul_add]
    have : d (q + m) * (P q * P m) = P q * (d (q + m) * P m) := by rw [Int.mul_left_comm]
    omega
theorem down_fin {d o : Nat → Int} {n q s k m : Nat} (hd : Dgs d) (hq : q = k / 16) (hs : s = k % 16) (hm : m = n - q)
    (h : V o m * Q s + dg d n q % Q s = V (fun j => dg d n (q + j)) m + dg d n (q + m) % Q s * P m) :
    V d n = V o m * Q k + lostQ d q s n ∧ 0 ≤ lostQ d q s n ∧ lostQ d q s n < Q k := by
  have hQ : Q k = Q s * P q := by rw [hs, hq]; exact Q_split k
  have hp := P_pos q
  have hqs := Q_pos s
  have hSP : P q ≤ Q s * P q := by
    have := Int.mul_le_mul_of_nonneg_right hqs (show 0 ≤ P q by omega); omega
  unfold lostQ
  by_cases hn : n ≤ q
  · rw [if_pos hn]
    have hm0 : m = 0 := by omega
    subst hm0
    have h1 := V_nonneg hd n
    have h2 := V_lt hd n
    have h3 := P_mono hn
    simp only [V]; omega
  · rw [if_neg hn]
    have hqm : q + m = n := by omega
    have e0 : dg d n (q + m) = 0 := by rw [hqm]; simp [dg]
    have e1 : dg d n q = d q := by simp [dg]; omega
    have e2 : V (fun j => dg d n (q + j)) m = V (fun j => d (q + j)) m := V_congr m (fun j hj => by simp [dg]; omega)
    rw [e0, e1, e2] at h
    have h4 := V_split d q m
    rw [hqm] at h4
    have hr0 := Int.emod_nonneg (d q) (show Q s ≠ 0 by omega)
    have hr1 := Int.emod_lt_of_pos (d q) (show 0 < Q s by omega)
    have h5 := V_nonneg hd q
    have h6 := V_lt hd q
    have h7 : d q % Q s * P q ≤ (Q s - 1) * P q := Int.mul_le_mul_of_nonneg_right (by omega) (by omega)
    rw [Int.sub_mul] at h7
    have h8 : 0 ≤ d q % Q s * P q := Int.mul_nonneg hr0 (by omega)
    simp at h
    have h9 : P q * V (fun j => d (q + j)) m = V o m * (Q s * P q) + d q % Q s * P q := by
      rw [← h, Int.mul_comm (P q), Int.add_mul, Int.mul_assoc]
    rw [hQ]; omega
theorem div_pos_eq {M v r K : Int} (hK : 0 < K) (h : M = v * K + r) (h0 : 0 ≤ r) (h1 : r < K) : M / K = v := by
  rw [h, Int.add_comm, Int.add_mul_ediv_right _ _ (by omega), Int.ediv_eq_zero_of_lt h0 h1]; omega
theorem div_neg_eq {M v K : Int} (hK : 0 < K) (h : M = v * K) : -M / K = -v := by
  rw [h, ← Int.neg_mul, Int.mul_ediv_cancel _ (by omega)]
theorem div_neg_lost {M v r K : Int} (hK : 0 < K) (h : M = v * K + r) (h0 : 0 < r) (h1 : r < K) : -M / K = -v - 1 := by
  refine div_pos_eq (r := K - r) hK ?_ (by omega) (by omega)
  rw [h, Int.sub_mul, Int.neg_mul]; omega
set_option maxRecDepth 100000 in
set_option maxHeartbeats 8000000 in
theorem down_any (neg : Bool) (a : Option Addr) (n cap k : Nat) (d : Nat → Int) (w : World) (ha : Dig w a n cap d) (hn : n ≤ 1000000000) (hk : k ≤ 1000000000) :
    Calls Try.prog 94 #[.agg #[.bool neg, .slice a n cap], .int .i64 k] w fun r w' =>
      ∃ neg' a' n' cap', r = .returned (.agg #[.bool neg', .slice a' n' cap']) ∧ IntAt w' neg' a' n' cap' (n + 5) (sgn neg (V d n) / Q k) ∧ Below w.heap.size w w' := by
  obtain ⟨q, hq⟩ : ∃ q, q = k / 16 := ⟨_, rfl⟩
  obtain ⟨s, hs⟩ : ∃ s, s = k % 16 := ⟨_, rfl⟩
  have hq' : (k : Int) / 16 = (q : Int) := by omega
  have hs' : (k : Int) % 16 = (s : Int) := by omega
  have hs16 : s < 16 := by omega
  have hk' : ¬ (k : Int) < 0 := by omega
  obtain ⟨W, hW⟩ : ∃ W, W = (w.alloc (.cells #[.bool neg, .slice a n cap] 26)).alloc (.cells #[.bool false, .slice none 0 0] 26) := ⟨_, rfl⟩
  have b3 : Below w.heap.size w W := by rw [hW]; exact bl2 _ _ _
  have s3 : W.heap.size = w.heap.size + 1 + 1 := by rw [hW]; simp
  have k0 : W.cell? ⟨w.heap.size, 0, none⟩ = some (.bool neg) := by rw [hW]; simp [go_sem]
  have k1 : W.cell? ⟨w.heap.size, 1, none⟩ = some (.slice a n cap) := by rw [hW]; simp [go_sem]
  have k3 : W.cell? ⟨w.heap.size + 1, 0, none⟩ = some (.bool false) := by rw [hW]; simp [go_sem]
  have k4 : W.cell? ⟨w.heap.size + 1, 1, none⟩ = some (.slice none 0 0) := by rw [hW]; simp [go_sem]
  have k5 : ∀ o, W.frozen? ⟨w.heap.size + 1, o, none⟩ = false := by intro o; rw [hW]; simp [go_sem]
  have HW := hide hW
  have Hq := hide hq
  have Hs := hide hs
  clear hW hq hs
  go_enter Try.func94, Try.ntmps94
  go_wp2
  go_loopw [5, 6, 20] (fun out lost ii wr => ∃ (i m : Nat) (a' : Option Addr) (cap' : Nat) (o : Nat → Int) (b : Bool), i ≤ n ∧ ii = .int .i64 i ∧ m = i - q ∧ out = .slice a' m cap' ∧ lost = .bool b ∧ (b = true ↔ lostQ d q s i ≠ 0) ∧
      Own wr (w.heap.size + 1 + 1) 85 a' m cap' o ∧ Dgs o ∧ V o m * Q s + dg d n q % Q s = V (fun j => dg d n (q + j)) m + dg d n (q + m) % Q s * P m ∧ Below (w.heap.size + 1 + 1) W wr) (fun _ _ ii _ => n - (intOf ii).toNat)
  case atStart =>
    refine ⟨0, 0, none, 0, fun _ => 0, false, Nat.zero_le _, rfl, by omega, rfl, rfl, by simp [lostQ, V], Own.nil _ _ _ _, fun _ => ⟨by simp, by simp⟩, by simp [V, P], ?_⟩
    rw [unhide HW]; exact Below.refl _ _
  case round =>
    obtain ⟨i, m, a', cap', o, b, hi, rfl, hm, rfl, rfl, hb, hown, hod, hV, hbl⟩ := hrel
    have hsw := hbl.size
    rw [s3] at hsw
    by_cases hin : i < n
    · obtain ⟨b1, o1, rfl, hb1, hc1⟩ := ha.at_ (by omega)
      have g1 : wr.cell? ⟨b1, o1 + i, none⟩ = some (.int .u16 (d i)) := (hbl.cell (p := ⟨b1, o1 + i, none⟩) (by show b1 < _; omega)).trans ((b3.cell (p := ⟨b1, o1 + i, none⟩) hb1).trans (hc1 i hin))
      have q1 : wr.cell? ⟨w.heap.size, 1, none⟩ = some (.slice (some ⟨b1, o1, none⟩) n cap) := (hbl.cell (p := ⟨w.heap.size, 1, none⟩) (by show w.heap.size < _; omega)).trans k1
      have db := ha.dgs i
      by_cases hiq : i < q
      · have hm0 : m = 0 := by omega
        subst hm0
        have hiq' : (i : Int) < q := by omega
        have Hm := hide hm
        have HO := hide hown
        have HV := hide hV
        have HB := hide hb
        clear hm hown hV hb hc1
        have hll := lost_low (s := s) ha.dgs hiq
        cases b
        · have HL := hide (show (d i != 0) = true ↔ lostQ d q s (i + 1) ≠ 0 by rw [hll]; have := unhide HB; simp at this; simp [this])
          clear hll
          go_wp2
          go_roundw
          case rel => exact ⟨i + 1, 0, a', cap', o, _, by omega, by go_num, by omega, rfl, rfl, unhide HL, unhide HO, hod, unhide HV, hbl⟩
          case measure => simp [intOf]; omega
        · have HL := hide (show true = true ↔ lostQ d q s (i + 1) ≠ 0 by rw [hll]; have := unhide HB; simp at this; simp [this])
          clear hll
          go_wp2
          go_roundw
          case rel => exact ⟨i + 1, 0, a', cap', o, _, by omega, by go_num, by omega, rfl, rfl, unhide HL, unhide HO, hod, unhide HV, hbl⟩
          case measure => simp [intOf]; omega
      · have hiq' : ¬ (i : Int) < q := by omega
        have hmn : m ≤ n := by omega
        have Hm := hide hm
        have HO := hide hown
        have HV := hide hV
        have HB := hide hb
        clear hm hown hV hb
        have eqm : q + m = i := by have := unhide Hm; omega
        have hand : bits BinOp.and IntKind.u16 (d i) (IntKind.u16.wrap (IntKind.u16.wrap (2 ^ s) - 1)) = d i % Q s := by
          have h1 := Q_mono (show s ≤ 15 by omega)
          have e15 : Q 15 = 32768 := rfl
          have h2 := Q_pos s
          have h3 : IntKind.u16.wrap (IntKind.u16.wrap (2 ^ s) - 1) = Q s - 1 := by rw [wrap16, wrap16, Q_pow]; omega
          rw [h3]; exact and16 (d i) s (by omega) db.1 db.2
        have dgi : dg d n (q + m) = d i := by rw [eqm]; simp [dg, hin]
        by_cases hi1 : i + 1 < n
        · have g2 : wr.cell? ⟨b1, o1 + (i + 1), none⟩ = some (.int .u16 (d (i + 1))) := (hbl.cell (p := ⟨b1, o1 + (i + 1), none⟩) (by show b1 < _; omega)).trans ((b3.cell (p := ⟨b1, o1 + (i + 1), none⟩) hb1).trans (hc1 (i + 1) hi1))
          have db2 := ha.dgs (i + 1)
          have hi1' : (i : Int) + 1 < n := by omega
          have hvv : IntKind.u16.wrap (bits BinOp.or IntKind.u32 (d i) (d (i + 1) * 65536) / 2 ^ s) = (dg d n (q + m) + 65536 * dg d n (q + (m + 1))) / Q s % 65536 := by
            have e1 : dg d n (q + (m + 1)) = d (i + 1) := by rw [← Nat.add_assoc, eqm]; simp [dg, hi1]
            rw [wrap16, or32 (d i) (d (i + 1) * 65536) (d (i + 1)) db.1 db.2 (by omega) db2.1 db2.2, Q_pow, dgi, e1, Int.mul_comm (d (i + 1)) 65536]
          clear hc1 dgi eqm
          by_cases hie : i = q
          · subst hie
            have hie' : ((i : Int) == i) = true := by simp
            cases b
            · have HL := hide (show (bits BinOp.and IntKind.u16 (d i) (IntKind.u16.wrap (IntKind.u16.wrap (2 ^ s) - 1)) != 0) = true ↔ lostQ d i s (i + 1) ≠ 0 by rw [lost_at ha.dgs, hand]; have := unhide HB; simp at this; simp [this])
              clear hand
              have HE := hide (show IntKind.u16.wrap (bits BinOp.or IntKind.u32 (d i) (d (i + 1) * 65536) / 2 ^ s) = (dg d n (i + m) + 65536 * dg d n (i + (m + 1))) / Q s % 65536 by rw [hvv])
              clear hvv
              go_wp2_with (at_builtin; refine wpList_append_digit _ rfl _ _ 24 rfl (w.heap.size + 1 + 1) 85 Try.underlying24 Try.infoU16 a' m cap' o rfl ((unhide HO).alloc _) wr.heap.size 1 (IntKind.u16.wrap (bits BinOp.or IntKind.u32 (d i) (d (i + 1) * 65536) / 2 ^ s)) rfl (by simp [go_sem]) (by omega) (by simp; omega) ?_; intro a2 cap2 w1 hown1 hb2)
              go_roundw
              case rel =>
                rw [unhide HE] at hown1
                refine ⟨i + 1, m + 1, a2, cap2, upd o m ((dg d n (i + m) + 65536 * dg d n (i + (m + 1))) / Q s % 65536), _, by omega, by go_num, by have := unhide Hm; omega, rfl, rfl, unhide HL, hown1, upd_dgs hod _ (by omega) (by omega), down_step d o n i m s (by omega) ha.dgs rfl (unhide HV), ?_⟩
                exact (hbl.alloc (by omega) _).trans hb2
              case measure => simp [intOf]; omega
            · have HL := hide (show true = true ↔ lostQ d i s (i + 1) ≠ 0 by rw [lost_at ha.dgs]; have := unhide HB; simp at this; simp [this])
              clear hand
              have HE := hide (show IntKind.u16.wrap (bits BinOp.or IntKind.u32 (d i) (d (i + 1) * 65536) / 2 ^ s) = (dg d n (i + m) + 65536 * dg d n (i + (m + 1))) / Q s % 65536 by rw [hvv])
              clear hvv
              go_wp2_with (at_builtin; refine wpList_append_digit _ rfl _ _ 24 rfl (w.heap.size + 1 + 1) 85 Try.underlying24 Try.infoU16 a' m cap' o rfl ((unhide HO).alloc _) wr.heap.size 1 (IntKind.u16.wrap (bits BinOp.or IntKind.u32 (d i) (d (i + 1) * 65536) / 2 ^ s)) rfl (by simp [go_sem]) (by omega) (by simp; omega) ?_; intro a2 cap2 w1 hown1 hb2)
              go_roundw
              case rel =>
                rw [unhide HE] at hown1
                refine ⟨i + 1, m + 1, a2, cap2, upd o m ((dg d n (i + m) + 65536 * dg d n (i + (m + 1))) / Q s % 65536), _, by omega, by go_num, by have := unhide Hm; omega, rfl, rfl, unhide HL, hown1, upd_dgs hod _ (by omega) (by omega), down_step d o n i m s (by omega) ha.dgs rfl (unhide HV), ?_⟩
                exact (hbl.alloc (by omega) _).trans hb2
              case measure => simp [intOf]; omega
          · have hie' : ((i : Int) == q) = false := by simp; omega
            have HL := hide (show b = true ↔ lostQ d q s (i + 1) ≠ 0 by rw [lost_high (by omega)]; exact unhide HB)
            clear hand
            have HE := hide (show IntKind.u16.wrap (bits BinOp.or IntKind.u32 (d i) (d (i + 1) * 65536) / 2 ^ s) = (dg d n (q + m) + 65536 * dg d n (q + (m + 1))) / Q s % 65536 by rw [hvv])
            clear hvv
            go_wp2_with (at_builtin; refine wpList_append_digit _ rfl _ _ 24 rfl (w.heap.size + 1 + 1) 85 Try.underlying24 Try.infoU16 a' m cap' o rfl ((unhide HO).alloc _) wr.heap.size 1 (IntKind.u16.wrap (bits BinOp.or IntKind.u32 (d i) (d (i + 1) * 65536) / 2 ^ s)) rfl (by simp [go_sem]) (by omega) (by simp; omega) ?_; intro a2 cap2 w1 hown1 hb2)
            go_roundw
            case rel =>
              rw [unhide HE] at hown1
              refine ⟨i + 1, m + 1, a2, cap2, upd o m ((dg d n (q + m) + 65536 * dg d n (q + (m + 1))) / Q s % 65536), _, by omega, by go_num, by have := unhide Hm; omega, rfl, rfl, unhide HL, hown1, upd_dgs hod _ (by omega) (by omega), down_step d o n q m s (by omega) ha.dgs rfl (unhide HV), ?_⟩
              exact (hbl.alloc (by omega) _).trans hb2
            case measure => simp [intOf]; omega
        · have hi1' : ¬ (i : Int) + 1 < n := by omega
          have hvv : IntKind.u16.wrap (d i / 2 ^ s) = (dg d n (q + m) + 65536 * dg d n (q + (m + 1))) / Q s % 65536 := by
            have e1 : dg d n (q + (m + 1)) = 0 := by rw [← Nat.add_assoc, eqm]; simp [dg, hi1]
            rw [wrap16, Q_pow, dgi, e1]; simp
          clear hc1 dgi eqm
          by_cases hie : i = q
          · subst hie
            have hie' : ((i : Int) == i) = true := by simp
            cases b
            · have HL := hide (show (bits BinOp.and IntKind.u16 (d i) (IntKind.u16.wrap (IntKind.u16.wrap (2 ^ s) - 1)) != 0) = true ↔ lostQ d i s (i + 1) ≠ 0 by rw [lost_at ha.dgs, hand]; have := unhide HB; simp at this; simp [this])
              clear hand
              have HE := hide (show IntKind.u16.wrap (d i / 2 ^ s) = (dg d n (i + m) + 65536 * dg d n (i + (m + 1))) / Q s % 65536 by rw [hvv])
              clear hvv
              go_wp2_with (at_builtin; refine wpList_append_digit _ rfl _ _ 24 rfl (w.heap.size + 1 + 1) 85 Try.underlying24 Try.infoU16 a' m cap' o rfl ((unhide HO).alloc _) wr.heap.size 1 (IntKind.u16.wrap (d i / 2 ^ s)) rfl (by simp [go_sem]) (by omega) (by simp; omega) ?_; intro a2 cap2 w1 hown1 hb2)
              go_roundw
              case rel =>
                rw [unhide HE] at hown1
                refine ⟨i + 1, m + 1, a2, cap2, upd o m ((dg d n (i + m) + 65536 * dg d n (i + (m + 1))) / Q s % 65536), _, by omega, by go_num, by have := unhide Hm; omega, rfl, rfl, unhide HL, hown1, upd_dgs hod _ (by omega) (by omega), down_step d o n i m s (by omega) ha.dgs rfl (unhide HV), ?_⟩
                exact (hbl.alloc (by omega) _).trans hb2
              case measure => simp [intOf]; omega
            · have HL := hide (show true = true ↔ lostQ d i s (i + 1) ≠ 0 by rw [lost_at ha.dgs]; have := unhide HB; simp at this; simp [this])
              clear hand
              have HE := hide (show IntKind.u16.wrap (d i / 2 ^ s) = (dg d n (i + m) + 65536 * dg d n (i + (m + 1))) / Q s % 65536 by rw [hvv])
              clear hvv
              go_wp2_with (at_builtin; refine wpList_append_digit _ rfl _ _ 24 rfl (w.heap.size + 1 + 1) 85 Try.underlying24 Try.infoU16 a' m cap' o rfl ((unhide HO).alloc _) wr.heap.size 1 (IntKind.u16.wrap (d i / 2 ^ s)) rfl (by simp [go_sem]) (by omega) (by simp; omega) ?_; intro a2 cap2 w1 hown1 hb2)
              go_roundw
              case rel =>
                rw [unhide HE] at hown1
                refine ⟨i + 1, m + 1, a2, cap2, upd o m ((dg d n (i + m) + 65536 * dg d n (i + (m + 1))) / Q s % 65536), _, by omega, by go_num, by have := unhide Hm; omega, rfl, rfl, unhide HL, hown1, upd_dgs hod _ (by omega) (by omega), down_step d o n i m s (by omega) ha.dgs rfl (unhide HV), ?_⟩
                exact (hbl.alloc (by omega) _).trans hb2
              case measure => simp [intOf]; omega
          · have hie' : ((i : Int) == q) = false := by simp; omega
            have HL := hide (show b = true ↔ lostQ d q s (i + 1) ≠ 0 by rw [lost_high (by omega)]; exact unhide HB)
            clear hand
            have HE := hide (show IntKind.u16.wrap (d i / 2 ^ s) = (dg d n (q + m) + 65536 * dg d n (q + (m + 1))) / Q s % 65536 by rw [hvv])
            clear hvv
            go_wp2_with (at_builtin; refine wpList_append_digit _ rfl _ _ 24 rfl (w.heap.size + 1 + 1) 85 Try.underlying24 Try.infoU16 a' m cap' o rfl ((unhide HO).alloc _) wr.heap.size 1 (IntKind.u16.wrap (d i / 2 ^ s)) rfl (by simp [go_sem]) (by omega) (by simp; omega) ?_; intro a2 cap2 w1 hown1 hb2)
            go_roundw
            case rel =>
              rw [unhide HE] at hown1
              refine ⟨i + 1, m + 1, a2, cap2, upd o m ((dg d n (q + m) + 65536 * dg d n (q + (m + 1))) / Q s % 65536), _, by omega, by go_num, by have := unhide Hm; omega, rfl, rfl, unhide HL, hown1, upd_dgs hod _ (by omega) (by omega), down_step d o n q m s (by omega) ha.dgs rfl (unhide HV), ?_⟩
              exact (hbl.alloc (by omega) _).trans hb2
            case measure => simp [intOf]; omega
    · have hiE : i = n := by omega
      subst hiE
      have q0 : wr.cell? ⟨w.heap.size, 0, none⟩ = some (.bool neg) := (hbl.cell (p := ⟨w.heap.size, 0, none⟩) (by show w.heap.size < _; omega)).trans k0
      have q3 : wr.cell? ⟨w.heap.size + 1, 0, none⟩ = some (.bool false) := (hbl.cell (p := ⟨w.heap.size + 1, 0, none⟩) (by simp)).trans k3
      have q4 : wr.cell? ⟨w.heap.size + 1, 1, none⟩ = some (.slice none 0 0) := (hbl.cell (p := ⟨w.heap.size + 1, 1, none⟩) (by simp)).trans k4
      have q5 : ∀ o, wr.frozen? ⟨w.heap.size + 1, o, none⟩ = false := fun o => (hbl.frozen (p := ⟨w.heap.size + 1, o, none⟩) (by simp)).trans (k5 o)
      obtain ⟨f1, f2, f3⟩ := down_fin ha.dgs (unhide Hq) (unhide Hs) hm hV
      have hQk : 0 < Q k := by have := Q_pos k; omega
      have HR := hide (hown.dig hod (by omega))
      have hmi : m ≤ i := by omega
      have hbr : (b = true ∧ 0 < lostQ d q s i) ∨ (b = false ∧ lostQ d q s i = 0) := by
        cases b
        · right; simp at hb; exact ⟨rfl, hb⟩
        · left; simp at hb; exact ⟨rfl, by omega⟩
      clear hV hb hown hod hm
      rcases hbr with ⟨rfl, hl⟩ | ⟨rfl, hl⟩
      · cases neg
        · have HE := hide (show sgn false (V o m) = sgn false (V d i) / Q k by simp only [sgn]; exact (div_pos_eq hQk f1 f2 f3).symm)
          clear f1 f2 f3 hl
          go_wp2_with (go_at_call 91; refine (of_int _ _ _ _ o _ (unhide HR)).mono ?_; rintro r w2 ⟨neg', a2, n2, c2, rfl, hint, hb2⟩; obtain ⟨hsz2, hcell2, hfz2⟩ := near (w.heap.size + 1 + 1) hsw hb2; have hz0 := Nat.lt_of_lt_of_le (Nat.lt_succ_of_lt (Nat.lt_succ_self w.heap.size)) hsz2; have hz1 := Nat.lt_of_lt_of_le (Nat.lt_succ_self (w.heap.size + 1)) hsz2)
          refine bodyPost_ret (v := .agg #[.bool neg', .slice a2 n2 c2]) (by simp [results, Try.results94, go_sem, hcell2, hz0, hz1, q3, q4]) rfl ⟨neg', a2, n2, c2, rfl, ?_, ?_⟩
          · have h0 : w2.cell? ⟨w.heap.size + 1, 0, none⟩ = some (.bool false) := by simp [hcell2, q3]
            have h1' : w2.cell? ⟨w.heap.size + 1, 1, none⟩ = some (.slice none 0 0) := by simp [hcell2, q4]
            rw [unhide HE] at hint
            exact ((hint.put2 h0 h1' _ _).below (bl1 _ _)).mono (by omega)
          · exact balloc (((bthen (b3.trans (hbl.mono (by omega))) hb2).setCell (p := ⟨w.heap.size + 1, 0, none⟩) (Nat.le_succ _) _).setCell (p := ⟨w.heap.size + 1, 1, none⟩) (Nat.le_succ _) _) _
        · have HE := hide (show sgn true (V o m) - 1 = sgn true (V d i) / Q k by simp only [sgn]; exact (div_neg_lost hQk f1 hl f3).symm)
          clear f1 f2 f3 hl
          go_wp2_with (go_at_call 91; refine (of_int _ _ _ _ o _ (unhide HR)).mono ?_; rintro r w2 ⟨neg', a2, n2, c2, rfl, hint, hb2⟩; obtain ⟨hsz2, hcell2, hfz2⟩ := near (w.heap.size + 1 + 1) hsw hb2; have hz0 := Nat.lt_of_lt_of_le (Nat.lt_succ_of_lt (Nat.lt_succ_self w.heap.size)) hsz2; have hz1 := Nat.lt_of_lt_of_le (Nat.lt_succ_self (w.heap.size + 1)) hsz2)
          have nz : w2.heap.size ≠ w.heap.size + 1 := by omega
          have nz' : w.heap.size + 1 ≠ w2.heap.size := by omega
          go_region_held3 (fun w' => w'.cell? ⟨w2.heap.size, 0, none⟩ = some (.bool neg') ∧ w'.cell? ⟨w2.heap.size, 1, none⟩ = some (.slice a2 n2 c2)) (go_keep)
            (first
              | (go_at_call 48; refine (numOf_int 1 _ (by decide) (by decide)).mono ?_; rintro r w3 ⟨neg3, a3, n3, c3, rfl, hint3, hb3⟩; obtain ⟨hsz3, hcell3, hfz3⟩ := near (w2.heap.size + 1) (by simp) hb3)
              | (go_at_call 53; refine (sub_int _ _ _ _ _ _ _ _ m 4 _ _ _ (hint.below (bthen (bl1 _ _).drew hb3)) hint3 (by omega) (by omega)).mono ?_; rintro r w4 ⟨neg4, a4, n4, c4, rfl, hint4, hb4⟩; obtain ⟨hsz4, hcell4, hfz4⟩ := near (w2.heap.size + 1) hsz3 hb4; have y1 := Nat.le_succ_of_le hz1; have y0 : w2.cell? ⟨w.heap.size + 1, 0, none⟩ = some (.bool false) := (hcell2 _ _ (Nat.le_refl _)).trans q3; have y2 : w2.cell? ⟨w.heap.size + 1, 1, none⟩ = some (.slice none 0 0) := (hcell2 _ _ (Nat.le_refl _)).trans q4; have y3 : ∀ o, w2.frozen? ⟨w.heap.size + 1, o, none⟩ = false := fun o => (hfz2 _ _ (Nat.le_refl _)).trans (q5 o)))
          go_wp2
          have h0 : w4.cell? ⟨w.heap.size + 1, 0, none⟩ = some (.bool false) := by rw [hcell4 _ _ y1, hcell3 _ _ y1]; exact (World.cell?_alloc_past _ _ _ hz1).trans y0
          have h1' : w4.cell? ⟨w.heap.size + 1, 1, none⟩ = some (.slice none 0 0) := by rw [hcell4 _ _ y1, hcell3 _ _ y1]; exact (World.cell?_alloc_past _ _ _ hz1).trans y2
          refine bodyPost_ret (v := .agg #[.bool neg4, .slice a4 n4 c4]) (by simp [results, Try.results94, go_sem, h0, h1']) rfl ⟨neg4, a4, n4, c4, rfl, ?_, ?_⟩
          · rw [unhide HE] at hint4
            exact (hint4.put2 h0 h1' _ _).mono (by omega)
          · exact ((bthen (bthen (balloc (bthen (b3.trans (hbl.mono (by omega))) hb2) _).drew hb3) hb4).setCell (p := ⟨w.heap.size + 1, 0, none⟩) (Nat.le_succ _) _).setCell (p := ⟨w.heap.size + 1, 1, none⟩) (Nat.le_succ _) _
      · cases neg
        · have HE := hide (show sgn false (V o m) = sgn false (V d i) / Q k by simp only [sgn]; exact (div_pos_eq hQk f1 f2 f3).symm)
          clear f1 f2 f3 hl
          go_wp2_with (go_at_call 91; refine (of_int _ _ _ _ o _ (unhide HR)).mono ?_; rintro r w2 ⟨neg', a2, n2, c2, rfl, hint, hb2⟩; obtain ⟨hsz2, hcell2, hfz2⟩ := near (w.heap.size + 1 + 1) hsw hb2; have hz0 := Nat.lt_of_lt_of_le (Nat.lt_succ_of_lt (Nat.lt_succ_self w.heap.size)) hsz2; have hz1 := Nat.lt_of_lt_of_le (Nat.lt_succ_self (w.heap.size + 1)) hsz2)
          refine bodyPost_ret (v := .agg #[.bool neg', .slice a2 n2 c2]) (by simp [results, Try.results94, go_sem, hcell2, hz0, hz1, q3, q4]) rfl ⟨neg', a2, n2, c2, rfl, ?_, ?_⟩
          · have h0 : w2.cell? ⟨w.heap.size + 1, 0, none⟩ = some (.bool false) := by simp [hcell2, q3]
            have h1' : w2.cell? ⟨w.heap.size + 1, 1, none⟩ = some (.slice none 0 0) := by simp [hcell2, q4]
            rw [unhide HE] at hint
            exact ((hint.put2 h0 h1' _ _).below (bl1 _ _)).mono (by omega)
          · exact balloc (((bthen (b3.trans (hbl.mono (by omega))) hb2).setCell (p := ⟨w.heap.size + 1, 0, none⟩) (Nat.le_succ _) _).setCell (p := ⟨w.heap.size + 1, 1, none⟩) (Nat.le_succ _) _) _
        · have HE := hide (show sgn true (V o m) = sgn true (V d i) / Q k by simp only [sgn]; exact (div_neg_eq hQk (by rw [f1, hl]; omega)).symm)
          clear f1 f2 f3 hl
          go_wp2_with (go_at_call 91; refine (of_int _ _ _ _ o _ (unhide HR)).mono ?_; rintro r w2 ⟨neg', a2, n2, c2, rfl, hint, hb2⟩; obtain ⟨hsz2, hcell2, hfz2⟩ := near (w.heap.size + 1 + 1) hsw hb2; have hz0 := Nat.lt_of_lt_of_le (Nat.lt_succ_of_lt (Nat.lt_succ_self w.heap.size)) hsz2; have hz1 := Nat.lt_of_lt_of_le (Nat.lt_succ_self (w.heap.size + 1)) hsz2)
          refine bodyPost_ret (v := .agg #[.bool neg', .slice a2 n2 c2]) (by simp [results, Try.results94, go_sem, hcell2, hz0, hz1, q3, q4]) rfl ⟨neg', a2, n2, c2, rfl, ?_, ?_⟩
          · have h0 : w2.cell? ⟨w.heap.size + 1, 0, none⟩ = some (.bool false) := by simp [hcell2, q3]
            have h1' : w2.cell? ⟨w.heap.size + 1, 1, none⟩ = some (.slice none 0 0) := by simp [hcell2, q4]
            rw [unhide HE] at hint
            exact ((hint.put2 h0 h1' _ _).below (bl1 _ _)).mono (by omega)
          · exact balloc (((bthen (b3.trans (hbl.mono (by omega))) hb2).setCell (p := ⟨w.heap.size + 1, 0, none⟩) (Nat.le_succ _) _).setCell (p := ⟨w.heap.size + 1, 1, none⟩) (Nat.le_succ _) _) _
theorem down_int (neg : Bool) (a : Option Addr) (n cap k k1 : Nat) (x : Int) (w : World) (h1 : IntAt w neg a n cap k1 x) (hk1 : k1 ≤ 1000000000) (hk : k ≤ 1000000000) :
    Calls Try.prog 94 #[.agg #[.bool neg, .slice a n cap], .int .i64 k] w fun r w' =>
      ∃ neg' a' n' cap', r = .returned (.agg #[.bool neg', .slice a' n' cap']) ∧ IntAt w' neg' a' n' cap' (k1 + 5) (x / Q k) ∧ Below w.heap.size w w' := by
  obtain ⟨d, g1, g2, g3, g4, rfl⟩ := h1
  exact (down_any neg a n cap k d w g1 (by omega) hk).mono fun _ _ ⟨n1, n2, n3, n4, q1, q2, q3⟩ => ⟨n1, n2, n3, n4, q1, q2.mono (by omega), q3⟩
end Go.Proofs.Ytgmnknmjainabab
namespace Go.Proofs.Ytgmnknmjainabab
open Go.RowKit
set_option maxRecDepth 100000 in
set_option maxHeartbeats 1000000 in
theorem down_neg (neg : Bool) (a : Option Addr) (n cap k k1 : Nat) (x : Int) (w : World) (h1 : IntAt w neg a n cap k1 x) (hk1 : k1 ≤ 1000000000) (hk : k ≤ 1000000000) (hk0 : 0 < k) :
    Calls Try.prog 94 #[.agg #[.bool neg, .slice a n cap], .int .i64 (-(k : Int))] w fun r w' =>
      ∃ neg' a' n' cap', r = .returned (.agg #[.bool neg', .slice a' n' cap']) ∧ IntAt w' neg' a' n' cap' (k / 16 + k1 + 1) (x * Q k) ∧ Below w.heap.size w w' := by
  have hneg : -(k : Int) < 0 := by omega
  go_enter Try.func94, Try.ntmps94
  go_wp2_with (go_at_call 113; refine (up_int _ _ _ _ k k1 x _ (h1.below (bl2 _ _ _)) hk1 hk).mono ?_; rintro r w2 ⟨neg', a2, n2, c2, rfl, hint, hb2⟩; obtain ⟨hsz2, hcell2, hfz2⟩ := near (w.heap.size + 1 + 1) (by simp) hb2)
  have h0 : w2.cell? ⟨w.heap.size + 1, 0, none⟩ = some (.bool false) := by simp [hcell2, go_sem]
  have h1' : w2.cell? ⟨w.heap.size + 1, 1, none⟩ = some (.slice none 0 0) := by simp [hcell2, go_sem]
  refine bodyPost_ret (v := .agg #[.bool neg', .slice a2 n2 c2]) (by simp [results, Try.results94, go_sem, h0, h1']) rfl ⟨neg', a2, n2, c2, rfl, ?_, ?_⟩
  · exact hint.put2 h0 h1' _ _
  · exact ((bthen (bl2 _ _ _) hb2).setCell (p := ⟨w.heap.size + 1, 0, none⟩) (Nat.le_succ _) _).setCell (p := ⟨w.heap.size + 1, 1, none⟩) (Nat.le_succ _) _
def downZ (x k : Int) : Int := if 0 ≤ k then x / Q k.toNat else x * Q (-k).toNat
theorem down_z (neg : Bool) (a : Option Addr) (n cap k1 : Nat) (k x : Int) (w : World) (h1 : IntAt w neg a n cap k1 x) (hk1 : k1 ≤ 1000000000) (hk0 : -1000000000 ≤ k) (hk : k ≤ 1000000000) :
    Calls Try.prog 94 #[.agg #[.bool neg, .slice a n cap], .int .i64 k] w fun r w' =>
      ∃ neg' a' n' cap', r = .returned (.agg #[.bool neg', .slice a' n' cap']) ∧ IntAt w' neg' a' n' cap' ((-k).toNat / 16 + k1 + 5) (downZ x k) ∧ Below w.heap.size w w' := by
  unfold downZ
  by_cases h : 0 ≤ k
  · obtain ⟨K, rfl⟩ := Int.eq_ofNat_of_zero_le h
    rw [if_pos h, Int.toNat_natCast]
    exact (down_int neg a n cap K k1 x w h1 hk1 (by omega)).mono fun _ _ ⟨n1, n2, n3, n4, q1, q2, q3⟩ => ⟨n1, n2, n3, n4, q1, q2.mono (by omega), q3⟩
  · rw [if_neg h]
    obtain ⟨K, hK⟩ : ∃ K : Nat, k = -(K : Int) := ⟨(-k).toNat, by omega⟩
    subst hK
    rw [show (- -(K : Int)).toNat = K by omega]
    exact (down_neg neg a n cap K k1 x w h1 hk1 (by omega) (by omega)).mono fun _ _ ⟨n1, n2, n3, n4, q1, q2, q3⟩ => ⟨n1, n2, n3, n4, q1, q2.mono (by omega), q3⟩
end Go.Proofs.Ytgmnknmjainabab
namespace Go.Proofs.Ytgmnknmjainabab
open Go.RowKit
def Tp (d : Nat → Int) (j n : Nat) : Int := V (fun t => d (j + t)) (n - j)
theorem V_shift (d : Nat → Int) (m : Nat) : V d (m + 1) = d 0 + 65536 * V (fun t => d (1 + t)) m := by
  have h := V_split d 1 m
  rw [Nat.add_comm 1 m] at h
  rw [h]
  simp [V, P]
theorem Tp_top (d : Nat → Int) (n : Nat) : Tp d n n = 0 := by simp [Tp, V]
theorem Tp_zero (d : Nat → Int) (n : Nat) : Tp d 0 n = V d n := by simp [Tp]
theorem Tp_step (d : Nat → Int) (j n : Nat) (h : j < n) : Tp d j n = d j + 65536 * Tp d (j + 1) n := by
  unfold Tp
  obtain ⟨m, rfl⟩ : ∃ m, n = j + 1 + m := ⟨n - j - 1, by omega⟩
  rw [show j + 1 + m - j = m + 1 by omega, show j + 1 + m - (j + 1) = m by omega, V_shift]
  have : (fun t => d (j + (1 + t))) = (fun t => d (j + 1 + t)) := by funext t; congr 1; omega
  rw [this]; simp
theorem Tp_nonneg {d : Nat → Int} (hd : Dgs d) (j n : Nat) : 0 ≤ Tp d j n := V_nonneg (fun t => hd (j + t)) _
theorem Tp_lt {d : Nat → Int} (hd : Dgs d) (j n : Nat) : Tp d j n < P (n - j) := V_lt (fun t => hd (j + t)) _
theorem P3 : P 3 = 281474976710656 := rfl
theorem or64 (a b c : Int) (hb : 0 ≤ b) (hb1 : b < 65536) (ha : a = 65536 * c) (hc0 : 0 ≤ c) (hc1 : c < 281474976710656) : bits .or .u64 a b = a + b := by
  obtain ⟨B, rfl⟩ := Int.eq_ofNat_of_zero_le hb
  obtain ⟨C, rfl⟩ := Int.eq_ofNat_of_zero_le hc0
  have h3 := or_nat B (65536 * C) C 16 (by omega) (by omega)
  have ha' : a = ((65536 * C : Nat) : Int) := by omega
  rw [ha', u64_or_nat (65536 * C) B (by omega) (by omega), Nat.or_comm, h3]
  omega
theorem Tp_upd (o : Nat → Int) (i n : Nat) (v : Int) : Tp (upd o i v) (i + 1) n = Tp o (i + 1) n := by
  unfold Tp; exact V_congr _ (fun j _ => by simp [upd]; omega)
theorem short_step {d o : Nat → Int} {i n : Nat} (hi : i < n) {D L : Int} (hD : 0 < D) (hT : Tp d (i + 1) n = Tp o (i + 1) n * D + L) :
    Tp d i n = Tp (upd o i ((L * 65536 + d i) / D)) i n * D + (L * 65536 + d i) % D := by
  rw [Tp_step d i n hi, Tp_step (upd o i _) i n hi, Tp_upd, hT]
  have h1 : upd o i ((L * 65536 + d i) / D) i = (L * 65536 + d i) / D := by simp [upd]
  rw [h1, Int.add_mul, Int.mul_assoc]
  have h2 := Int.mul_ediv_add_emod (L * 65536 + d i) D
  rw [Int.mul_comm D] at h2
  omega
theorem short_bd {x D L : Int} (hD : 0 < D) (hx : 0 ≤ x ∧ x < 65536) (hL0 : 0 ≤ L) (hL1 : L < D) : 0 ≤ (L * 65536 + x) / D ∧ (L * 65536 + x) / D < 65536 ∧ 0 ≤ (L * 65536 + x) % D ∧ (L * 65536 + x) % D < D :=
  ⟨Int.ediv_nonneg (by omega) (by omega), Int.ediv_lt_of_lt_mul hD (by omega), Int.emod_nonneg _ (by omega), Int.emod_lt_of_pos _ hD⟩
theorem trimN_pos {d : Nat → Int} (hd : Dgs d) (n : Nat) : 0 < trimN d n ↔ V d n ≠ 0 := by
  have h1 := trimN_V d n
  have h2 := trimN_top d n
  constructor
  · intro h
    have h3 := V_ge hd (trimN d n - 1) (by omega)
    rw [show trimN d n - 1 + 1 = trimN d n by omega, h1] at h3
    have := P_pos (trimN d n - 1); omega
  · intro h
    rcases Nat.eq_zero_or_pos (trimN d n) with h0 | h0
    · rw [h0] at h1; simp [V] at h1; omega
    · exact h0
def rd (L : Int) (j : Nat) : Int := if j = 0 then L % 65536 else if j = 1 then L / 65536 % 65536 else if j = 2 then L / 4294967296 % 65536 else 0
theorem rd_dgs (L : Int) : Dgs (rd L) := by
  intro j; unfold rd; split
  · omega
  · split
    · omega
    · split <;> omega
theorem rd_V (L : Int) (h0 : 0 ≤ L) (h1 : L < 281474976710656) : V (rd L) 3 = L := by
  simp [V, rd, P]; omega
theorem dig3 (w : World) (t : TypeId) (x y z : Int) (f : Nat → Int) (hf : Dgs f) (h0 : f 0 = x) (h1 : f 1 = y) (h2 : f 2 = z) : Dig (w.alloc (.cells #[.int .u16 x, .int .u16 y, .int .u16 z] t)) (some ⟨w.heap.size, 0, none⟩) 3 3 f :=
  ⟨fun _ => ⟨w.heap.size, 0, rfl, by simp, fun j hj => by
    rw [World.cell?_alloc_at _ _ _ _ rfl, Nat.zero_add]
    match j, hj with
    | 0, _ => simp [h0]
    | 1, _ => simp [h1]
    | 2, _ => simp [h2]⟩, hf, by omega, by omega⟩
set_option maxRecDepth 100000 in
set_option maxHeartbeats 2000000 in
theorem short_any (a c : Option Addr) (n m cap cap2 : Nat) (d e : Nat → Int) (w : World) (ha : Dig w a n cap d) (hc : Dig w c m cap2 e) (hn : n ≤ 1000000000) (hm : m ≤ 3) (hpos : 0 < V e m) :
    Calls Try.prog 165 #[.slice a n cap, .slice c m cap2] w fun r w' =>
      ∃ a1 n1 c1 o a2 n2 c2 rem, r = .returned (.tuple #[.slice a1 n1 c1, .slice a2 n2 c2]) ∧ Dig w' a1 n1 c1 o ∧ n1 ≤ n ∧ (0 < n2 ↔ rem ≠ 0) ∧ n2 ≤ 3 ∧ V d n = V o n1 * V e m + rem ∧ 0 ≤ rem ∧ rem < V e m ∧ Below w.heap.size w w' := by
  have hmk := run_make_row' (P := Try.prog) 24 85 (.int .u16 0) 2 Try.underlying24 Try.infoU16 rfl .i64 .i64 n (by omega) (by omega)
  have hD : V e m < 281474976710656 := by
    have h1 := V_lt hc.dgs m
    have h2 := P_mono hm
    rw [P3] at h2; omega
  have Hmk := hide hmk
  clear hmk
  go_enter Try.func165, Try.ntmps165
  go_wp2
  go_loop [6, 7] (fun dd ii => ∃ j : Nat, j ≤ m ∧ ii = .int .i64 ((j : Int) - 1) ∧ dd = .int .u64 (Tp e j m)) (fun _ ii => (intOf ii + 1).toNat)
  case atStart => exact ⟨m, Nat.le_refl _, rfl, by rw [Tp_top]⟩
  case round =>
    obtain ⟨j, hj, rfl, rfl⟩ := hrel
    by_cases hj0 : j = 0
    · subst hj0
      rw [Tp_zero]
      have hmk := unhide Hmk
      go_wp2
      clear hmk
      obtain ⟨D, hDe⟩ : ∃ D, D = V e m := ⟨_, rfl⟩
      rw [← hDe] at hD hpos ⊢
      have hD0 : (D == 0) = false := by simp; omega
      have HDe := hide hDe
      clear hDe
      go_loopw [9, 10] (fun ll ii wr => ∃ (j : Nat) (o : Nat → Int) (L : Int), j ≤ n ∧ ii = .int .i64 ((j : Int) - 1) ∧ ll = .int .u64 L ∧ wr.rowIs w.heap.size 85 n (fun t => .int .u16 (o t)) ∧ Dgs o ∧ Tp d j n = Tp o j n * D + L ∧ 0 ≤ L ∧ L < D ∧ Below w.heap.size w wr) (fun _ ii _ => (intOf ii + 1).toNat)
      case atStart =>
        refine ⟨n, fun _ => 0, 0, Nat.le_refl _, rfl, rfl, World.rowIs_made w (.int .u16 0) n 85, fun _ => ⟨by simp, by simp⟩, ?_, by omega, by omega, bl1 _ _⟩
        rw [Tp_top, Tp_top]; simp
      case round =>
        obtain ⟨j, o, L, hj, rfl, rfl, hrow, hod, hT, hL0, hL1, hbl⟩ := hrel
        by_cases hj0 : j = 0
        · subst hj0
          rw [Tp_zero, Tp_zero] at hT
          have HT := hide hT
          have HR := hide (rowDig hrow hod (by omega))
          clear hT hrow hod
          go_wp2_with (go_at_call 143; refine (trimmed_any _ _ _ (rd L) _ (dig3 _ _ _ _ _ _ (rd_dgs L) (by simp [rd, wrap16]) (by simp [rd, wrap16]) (by simp [rd]; omega))).mono ?_; rintro r w2 ⟨rfl, hb2⟩)
          go_ret2
          refine ⟨_, n, n, o, _, trimN (rd L) 3, 3, L, rfl, (unhide HR).below (bthen (bl1 _ _) hb2), Nat.le_refl _, ?_, trimN_le _ _, ?_, hL0, ?_, bthen (balloc hbl _) hb2⟩
          · rw [trimN_pos (rd_dgs L), rd_V L hL0 (by omega)]
          · rw [← unhide HDe]; exact unhide HT
          · rw [← unhide HDe]; exact hL1
        · obtain ⟨i, rfl⟩ : ∃ i, j = i + 1 := ⟨j - 1, by omega⟩
          have e0 : ((i + 1 : Nat) : Int) - 1 = (i : Int) := by omega
          rw [e0]
          obtain ⟨b1, o1, rfl, hb1, hc1⟩ := ha.at_ (by omega)
          have g1 : wr.cell? ⟨b1, o1 + i, none⟩ = some (.int .u16 (d i)) := (hbl.cell (p := ⟨b1, o1 + i, none⟩) hb1).trans (hc1 i (by omega))
          have db := ha.dgs i
          have r1 := hrow.cell (show i < n by omega)
          have r2 := hrow.frozen i
          have hor := or64 (L * 65536) (d i) L db.1 db.2 (by omega) hL0 (by omega)
          have hin : (i : Int) < n := by omega
          have HT := hide hT
          clear hT hc1 e0
          have hst := short_step (o := o) (show i < n by omega) hpos (unhide HT)
          have sb := short_bd hpos db hL0 hL1
          have HS := hide hst
          clear hst
          go_wp2
          go_roundw
          case rel =>
            exact ⟨i, upd o i ((L * 65536 + d i) / D), (L * 65536 + d i) % D, by omega, by go_num, rfl, row_upd hrow i rfl, upd_dgs hod _ sb.1 sb.2.1, unhide HS, sb.2.2.1, sb.2.2.2, hbl.setCell (Nat.le_refl _) _⟩
          case measure => simp [intOf]; try omega
    · obtain ⟨i, rfl⟩ : ∃ i, j = i + 1 := ⟨j - 1, by omega⟩
      have e0 : ((i + 1 : Nat) : Int) - 1 = (i : Int) := by omega
      rw [e0]
      obtain ⟨b2, o2, rfl, hb2, hc2⟩ := hc.at_ (by omega)
      have g2 : w.cell? ⟨b2, o2 + i, none⟩ = some (.int .u16 (e i)) := hc2 i (by omega)
      have eb := hc.dgs i
      have t0 := Tp_nonneg hc.dgs (i + 1) m
      have t1 := Tp_lt hc.dgs (i + 1) m
      have t2 := P_mono (show m - (i + 1) ≤ 2 by omega)
      have eP2 : P 2 = 4294967296 := rfl
      rw [eP2] at t2
      have ts := Tp_step e i m (by omega)
      have H1 := hide (show bits .or .u64 (Tp e (i + 1) m * 65536) (e i) = Tp e i m by rw [or64 _ _ (Tp e (i + 1) m) eb.1 eb.2 (by omega) t0 (by omega), ts]; omega)
      have im : (i : Int) < m := by omega
      clear ts hc2 e0 eP2
      go_wp2
      go_round
      case rel => exact ⟨i, by omega, by go_num, by rw [← unhide H1]; try rfl⟩
      case measure => simp [intOf]; try omega
end Go.Proofs.Ytgmnknmjainabab
namespace Go.Proofs.Ytgmnknmjainabab
open Go.RowKit
attribute [local go_sem ↓] Go.wp_at_zero Go.wp_at_succ
def OverAns (w : World) (d e : Nat → Int) (n m : Nat) (r : Ending) (w' : World) : Prop :=
  ∃ a1 n1 c1 o a2 n2 c2 rem, r = .returned (.tuple #[.slice a1 n1 c1, .slice a2 n2 c2]) ∧ Dig w' a1 n1 c1 o ∧ n1 ≤ n + 3 ∧ (0 < n2 ↔ rem ≠ 0) ∧ n2 ≤ n + 3 ∧ V d n = V o n1 * V e m + rem ∧ 0 ≤ rem ∧ rem < V e m ∧ Below w.heap.size w w'
set_option maxRecDepth 100000 in
set_option maxHeartbeats 1000000 in
theorem over_small (a c : Option Addr) (n m cap cap2 : Nat) (d e : Nat → Int) (w : World) (ha : Dig w a n cap d) (hc : Dig w c m cap2 e) (hn : n ≤ 1000000000) (h1 : n = 0 ∨ d (n - 1) ≠ 0) (h2 : m = 0 ∨ e (m - 1) ≠ 0) (hpos : 0 < V e m)
    (hm : m ≤ 3 ∨ V d n < V e m) :
    Calls Try.prog 148 #[.slice a n cap, .slice c m cap2] w (OverAns w d e n m) := by
  have hcv := cmpZ_V ha.dgs hc.dgs n m h1 h2
  by_cases hlt : V d n < V e m
  · have hneg : cmpZ d e n m < 0 := by rw [hcv]; simp [cmpInt, hlt]
    clear hcv
    have HF := hide (show 0 < n ↔ V d n ≠ 0 by
      have := trimN_pos ha.dgs n; rwa [trimN_idem h1] at this)
    go_enter Try.func148, Try.ntmps148
    go_wp2_with (go_at_call 59; refine (compare_any _ _ _ _ _ _ d e _ ha hc).mono ?_; rintro r w0 ⟨rfl, hb0⟩)
    go_ret2
    exact ⟨none, 0, 0, fun _ => 0, a, n, cap, V d n, rfl, ⟨fun h => by omega, fun _ => ⟨by simp, by simp⟩, Nat.le_refl _, by omega⟩, by omega, unhide HF, by omega, by simp [V], V_nonneg ha.dgs n, hlt, hb0⟩
  · have hneg : ¬ cmpZ d e n m < 0 := by rw [hcv]; simp only [cmpInt, hlt, if_false]; split <;> omega
    have hm3 : m ≤ 3 := by omega
    have hm3' : (m : Int) ≤ 3 := by omega
    clear hcv
    go_enter Try.func148, Try.ntmps148
    go_wp2_with (first
      | (go_at_call 59; refine (compare_any _ _ _ _ _ _ d e _ ha hc).mono ?_; rintro r w0 ⟨rfl, hb0⟩)
      | (go_at_call 165; refine (short_any _ _ _ _ _ _ d e _ (ha.below hb0) (hc.below hb0) hn hm3 hpos).mono ?_; rintro r w1 ⟨a1, n1, c1, o, a2, n2, c2, rem, rfl, p1, p2, p3, p4, p5, p6, p7, p8⟩))
    go_ret2
    exact ⟨a1, n1, c1, o, a2, n2, c2, rem, rfl, p1, by omega, p3, by omega, p5, p6, p7, bthen hb0 p8⟩
def FloorAns (w : World) (n : Nat) (z : Int) (r : Ending) (w' : World) : Prop :=
  ∃ neg' a' n' cap', r = .returned (.agg #[.bool neg', .slice a' n' cap']) ∧ IntAt w' neg' a' n' cap' (n + 8) z ∧ Below w.heap.size w w'
set_option maxRecDepth 100000 in
set_option maxHeartbeats 4000000 in
theorem floor_core (neg : Bool) (a c : Option Addr) (n m cap cap2 : Nat) (d e : Nat → Int) (w : World) (ha : Dig w a n cap d) (hc : Dig w c m cap2 e) (hn : n ≤ 900000000) (hm : 0 < m)
    (hov : ∀ w', Dig w' a n cap d → Dig w' c m cap2 e → Calls Try.prog 148 #[.slice a n cap, .slice c m cap2] w' (OverAns w' d e n m)) :
    Calls Try.prog 105 #[.agg #[.bool neg, .slice a n cap], .agg #[.bool false, .slice c m cap2]] w (FloorAns w n (sgn neg (V d n) / V e m)) := by
  have hsg : signZ false m = 1 := by simp [signZ]; omega
  have le2 : w.heap.size ≤ w.heap.size + 1 + 1 := by omega
  have ne1 : w.heap.size ≠ w.heap.size + 1 + 1 := by omega
  have ne2 : w.heap.size + 1 + 1 ≠ w.heap.size := by omega
  cases neg
  · go_enter Try.func105, Try.ntmps105
    go_wp2_with (first
      | (go_at_call 57; refine (sign_any _ _ _ _ _ hc.room).mono ?_; rintro r w0 ⟨rfl, hb0⟩; obtain ⟨hsz0, hcell0, hfz0⟩ := near (w.heap.size + 1 + 1 + 1) (by simp) hb0; rw [hsg])
      | (go_at_call 148; refine (hov _ (ha.below (bthen (bl3 _ _ _ _) hb0)) (hc.below (bthen (bl3 _ _ _ _) hb0))).mono ?_; rintro r w1 ⟨a1, n1, c1, o, a9, n9, c9, rem, rfl, p1, p2, p3, p4, p5, p6, p7, p8⟩; obtain ⟨hsz1, hcell1, hfz1⟩ := near (w.heap.size + 1 + 1 + 1) hsz0 p8; skip)
      | (go_at_call 91; refine (of_int _ _ _ _ o _ p1).mono ?_; rintro r w2 ⟨neg', a2, n2, c2, rfl, hint, hb2⟩; obtain ⟨hsz2, hcell2, hfz2⟩ := near (w.heap.size + 1 + 1 + 1) hsz1 hb2; have hz0 := Nat.lt_of_lt_of_le (Nat.lt_succ_of_lt (Nat.lt_succ_of_lt (Nat.lt_succ_self w.heap.size))) hsz2; have hz1 := Nat.lt_of_lt_of_le (Nat.lt_succ_self (w.heap.size + 1 + 1)) hsz2))
    have h0 : w2.cell? ⟨w.heap.size + 1 + 1, 0, none⟩ = some (.bool false) := by simp [hcell2, hcell1, hcell0, go_sem]
    have h1' : w2.cell? ⟨w.heap.size + 1 + 1, 1, none⟩ = some (.slice none 0 0) := by simp [hcell2, hcell1, hcell0, go_sem]
    refine bodyPost_ret (v := .agg #[.bool neg', .slice a2 n2 c2]) (by simp [results, Try.results105, go_sem, hz0, hz1, h0, h1']) rfl ⟨neg', a2, n2, c2, rfl, ?_, ?_⟩
    · rw [show sgn false (V o n1) = sgn false (V d n) / V e m by simp only [sgn]; exact (div_pos_eq (by omega) p5 p6 p7).symm] at hint
      exact ((hint.put2 h0 h1' _ _).below (bl1 _ _)).mono (by omega)
    · exact balloc (((bthen (bthen (bthen (bl3 _ _ _ _) hb0) p8) hb2).setCell (p := ⟨w.heap.size + 1 + 1, 0, none⟩) le2 _).setCell (p := ⟨w.heap.size + 1 + 1, 1, none⟩) le2 _) _
  · go_enter Try.func105, Try.ntmps105
    go_wp2_with (first
      | (go_at_call 57; refine (sign_any _ _ _ _ _ hc.room).mono ?_; rintro r w0 ⟨rfl, hb0⟩; obtain ⟨hsz0, hcell0, hfz0⟩ := near (w.heap.size + 1 + 1 + 1) (by simp) hb0; rw [hsg])
      | (go_at_call 148; refine (hov _ (ha.below (bthen (bl3 _ _ _ _) hb0)) (hc.below (bthen (bl3 _ _ _ _) hb0))).mono ?_; rintro r w1 ⟨a1, n1, c1, o, a9, n9, c9, rem, rfl, p1, p2, p3, p4, p5, p6, p7, p8⟩; obtain ⟨hsz1, hcell1, hfz1⟩ := near (w.heap.size + 1 + 1 + 1) hsz0 p8; skip)
      | (go_at_call 91; refine (of_int _ _ _ _ o _ p1).mono ?_; rintro r w2 ⟨neg', a2, n2, c2, rfl, hint, hb2⟩; obtain ⟨hsz2, hcell2, hfz2⟩ := near (w.heap.size + 1 + 1 + 1) hsz1 hb2; have hz0 := Nat.lt_of_lt_of_le (Nat.lt_succ_of_lt (Nat.lt_succ_of_lt (Nat.lt_succ_self w.heap.size))) hsz2; have hz1 := Nat.lt_of_lt_of_le (Nat.lt_succ_self (w.heap.size + 1 + 1)) hsz2))
    · have hr : rem ≠ 0 := by have h : (!decide (rem = 0)) = true := by assumption
                              simpa using h
      have h0 : w2.cell? ⟨w.heap.size + 1 + 1, 0, none⟩ = some (.bool false) := by simp [hcell2, hcell1, hcell0, go_sem]
      have h1' : w2.cell? ⟨w.heap.size + 1 + 1, 1, none⟩ = some (.slice none 0 0) := by simp [hcell2, hcell1, hcell0, go_sem]
      have h2' : ∀ o, w2.frozen? ⟨w.heap.size + 1 + 1, o, none⟩ = false := by intro o; simp [hfz2, hfz1, hfz0, go_sem]
      have HE := hide (show sgn true (V o n1) - 1 = sgn true (V d n) / V e m by simp only [sgn]; exact (div_neg_lost (by omega) p5 (by omega) p7).symm)
      have nz : w2.heap.size ≠ w.heap.size + 1 + 1 := by omega
      have nz' : w.heap.size + 1 + 1 ≠ w2.heap.size := by omega
      have y1 := Nat.le_succ_of_le hz1
      go_region_held3 (fun w' => w'.cell? ⟨w2.heap.size, 0, none⟩ = some (.bool neg') ∧ w'.cell? ⟨w2.heap.size, 1, none⟩ = some (.slice a2 n2 c2)) (go_keep)
        (first
          | (go_at_call 48; refine (numOf_int 1 _ (by decide) (by decide)).mono ?_; rintro r w3 ⟨neg3, a3, n3, c3, rfl, hint3, hb3⟩; obtain ⟨hsz3, hcell3, hfz3⟩ := near (w2.heap.size + 1) (by simp) hb3)
          | (go_at_call 53; refine (sub_int _ _ _ _ _ _ _ _ n1 4 _ _ _ (hint.below (bthen (bl1 _ _).drew hb3)) hint3 (by omega) (by omega)).mono ?_; rintro r w4 ⟨neg4, a4, n4, c4, rfl, hint4, hb4⟩; obtain ⟨hsz4, hcell4, hfz4⟩ := near (w2.heap.size + 1) hsz3 hb4))
      go_wp2
      have h0 : w4.cell? ⟨w.heap.size + 1 + 1, 0, none⟩ = some (.bool false) := by rw [hcell4 _ _ y1, hcell3 _ _ y1]; exact (World.cell?_alloc_past _ _ _ hz1).trans h0
      have h1' : w4.cell? ⟨w.heap.size + 1 + 1, 1, none⟩ = some (.slice none 0 0) := by rw [hcell4 _ _ y1, hcell3 _ _ y1]; exact (World.cell?_alloc_past _ _ _ hz1).trans h1'
      refine bodyPost_ret (v := .agg #[.bool neg4, .slice a4 n4 c4]) (by simp [results, Try.results105, go_sem, h0, h1']) rfl ⟨neg4, a4, n4, c4, rfl, ?_, ?_⟩
      · rw [unhide HE] at hint4
        exact (hint4.put2 h0 h1' _ _).mono (by omega)
      · exact ((bthen (bthen (balloc (bthen (bthen (bthen (bl3 _ _ _ _) hb0) p8) hb2) _).drew hb3) hb4).setCell (p := ⟨w.heap.size + 1 + 1, 0, none⟩) le2 _).setCell (p := ⟨w.heap.size + 1 + 1, 1, none⟩) le2 _
    · have hr : rem = 0 := by have h : (!decide (rem = 0)) = false := by assumption
                              simpa using h
      have h0 : w2.cell? ⟨w.heap.size + 1 + 1, 0, none⟩ = some (.bool false) := by simp [hcell2, hcell1, hcell0, go_sem]
      have h1' : w2.cell? ⟨w.heap.size + 1 + 1, 1, none⟩ = some (.slice none 0 0) := by simp [hcell2, hcell1, hcell0, go_sem]
      refine bodyPost_ret (v := .agg #[.bool neg', .slice a2 n2 c2]) (by simp [results, Try.results105, go_sem, hz0, hz1, h0, h1']) rfl ⟨neg', a2, n2, c2, rfl, ?_, ?_⟩
      · rw [show sgn true (V o n1) = sgn true (V d n) / V e m by simp only [sgn]; exact (div_neg_eq (by omega) (by rw [p5, hr]; omega)).symm] at hint
        exact ((hint.put2 h0 h1' _ _).below (bl1 _ _)).mono (by omega)
      · exact balloc (((bthen (bthen (bthen (bl3 _ _ _ _) hb0) p8) hb2).setCell (p := ⟨w.heap.size + 1 + 1, 0, none⟩) le2 _).setCell (p := ⟨w.heap.size + 1 + 1, 1, none⟩) le2 _) _
theorem int_pos {w : World} {neg : Bool} {a : Option Addr} {n cap k : Nat} {y : Int} (h : IntAt w neg a n cap k y) (hy : 0 < y) : ∃ e, neg = false ∧ 0 < n ∧ Dig w a n cap e ∧ (n = 0 ∨ e (n - 1) ≠ 0) ∧ n ≤ k ∧ y = V e n := by
  obtain ⟨e, h1, h2, h3, h4, h5⟩ := h
  have hv := V_nonneg h1.dgs n
  cases neg
  · have hn : 0 < n := by
      rcases Nat.eq_zero_or_pos n with h0 | h0
      · subst h0; simp [sgn, V] at h5; omega
      · exact h0
    exact ⟨e, rfl, hn, h1, h2, h4, by simpa [sgn] using h5⟩
  · simp [sgn] at h5; omega
theorem len_le {e : Nat → Int} (he : Dgs e) {m k : Nat} (h2 : m = 0 ∨ e (m - 1) ≠ 0) (h : V e m < P k) : m ≤ k := by
  rcases Nat.lt_or_ge k m with hk | hk
  · have h3 := V_ge he (m - 1) (by omega)
    rw [show m - 1 + 1 = m by omega] at h3
    have := P_mono (show k ≤ m - 1 by omega); omega
  · exact hk
theorem floor_small (neg neg2 : Bool) (a c : Option Addr) (n m cap cap2 k k2 : Nat) (x y : Int) (w : World) (h1 : IntAt w neg a n cap k x) (h2 : IntAt w neg2 c m cap2 k2 y) (hk : k ≤ 900000000) (hy : 0 < y) (hy3 : y < 281474976710656) :
    Calls Try.prog 105 #[.agg #[.bool neg, .slice a n cap], .agg #[.bool neg2, .slice c m cap2]] w (FloorAns w k (x / y)) := by
  obtain ⟨e, rfl, f0, f1, f2, f3, rfl⟩ := int_pos h2 hy
  obtain ⟨d, g1, g2, g3, g4, rfl⟩ := h1
  have hm3 : m ≤ 3 := len_le f1.dgs f2 (by rw [P3]; exact hy3)
  exact (floor_core neg a c n m cap cap2 d e w g1 f1 (by omega) f0 (fun w' p q => over_small a c n m cap cap2 d e w' p q (by omega) g2 f2 hy (Or.inl hm3))).mono
    fun _ _ ⟨n1, n2, n3, n4, q1, q2, q3⟩ => ⟨n1, n2, n3, n4, q1, q2.mono (by omega), q3⟩
end Go.Proofs.Ytgmnknmjainabab
namespace Go.Proofs.Ytgmnknmjainabab
open Go.RowKit
structure Sp where
  ln : Bool
  la : Option Addr
  lN : Nat
  lc : Nat
  hn : Bool
  ha : Option Addr
  hN : Nat
  hc : Nat
  bits : Int
structure SpDig (w : World) (s : Sp) (d e : Nat → Int) : Prop where
  lo : Dig w s.la s.lN s.lc d
  hi : Dig w s.ha s.hN s.hc e
theorem SpDig.below {w w' : World} {s : Sp} {d e : Nat → Int} (h : SpDig w s d e) (hb : Below w.heap.size w w') : SpDig w' s d e := ⟨h.lo.below hb, h.hi.below hb⟩
def chkE (s : Sp) (d e : Nat → Int) : Int :=
  if s.bits < 1 ∨ 120 < s.bits then 3
  else if rightB s.ln s.lN d = false ∨ rightB s.hn s.hN e = false then 1
  else if 4000 < lenZ s.lN d ∨ 4000 < lenZ s.hN e then 2
  else if 0 < cmpI s.ln s.hn d e s.lN s.hN then 4
  else 0
set_option maxRecDepth 100000 in
set_option maxHeartbeats 4000000 in
theorem check_any (s : Sp) (d e : Nat → Int) (w : World) (h : SpDig w s d e) :
    Calls Try.prog 144 #[.agg #[.bool s.ln, .slice s.la s.lN s.lc, .bool s.hn, .slice s.ha s.hN s.hc, .int .i64 s.bits]] w fun r w' => r = .returned (.int .i64 (chkE s d e)) ∧ Below w.heap.size w w' := by
  by_cases c0 : s.bits < 1
  · have HC := hide (show chkE s d e = 3 by unfold chkE; simp [c0])
    go_enter Try.func144, Try.ntmps144
    go_wp2_with fail
    go_ret
    exact ⟨by rw [unhide HC]; rfl, bl1 _ _⟩
  by_cases c1 : 120 < s.bits
  · have HC := hide (show chkE s d e = 3 by unfold chkE; simp [c0, c1])
    go_enter Try.func144, Try.ntmps144
    go_wp2_with fail
    go_ret
    exact ⟨by rw [unhide HC]; rfl, bl1 _ _⟩
  by_cases c2 : rightB s.ln s.lN d = false
  · have HC := hide (show chkE s d e = 1 by unfold chkE; simp [c0, c1, c2])
    go_enter Try.func144, Try.ntmps144
    go_wp2_with fail
    refine (isRight_any _ _ _ _ d _ (h.lo.below (bl1 _ _))).mono ?_
    rintro r w1 ⟨rfl, hb1⟩
    obtain ⟨hsz1, hcell1, hfz1⟩ := near (w.heap.size + 1) (by simp) hb1
    go_wp2_with fail
    go_ret
    exact ⟨by rw [unhide HC]; rfl, bthen (bl1 _ _) hb1⟩
  have c2' : rightB s.ln s.lN d  = true := by simpa using c2
  by_cases c3 : rightB s.hn s.hN e = false
  · have HC := hide (show chkE s d e = 1 by unfold chkE; simp [c0, c1, c2, c3])
    go_enter Try.func144, Try.ntmps144
    go_wp2_with fail
    refine (isRight_any _ _ _ _ d _ (h.lo.below (bl1 _ _))).mono ?_
    rintro r w1 ⟨rfl, hb1⟩
    obtain ⟨hsz1, hcell1, hfz1⟩ := near (w.heap.size + 1) (by simp) hb1
    go_wp2_with fail
    refine (isRight_any _ _ _ _ e _ (h.hi.below (bthen (bl1 _ _) hb1))).mono ?_
    rintro r w2 ⟨rfl, hb2⟩
    obtain ⟨hsz2, hcell2, hfz2⟩ := near (w.heap.size + 1) hsz1 hb2
    go_wp2_with fail
    go_ret
    exact ⟨by rw [unhide HC]; rfl, bthen (bthen (bl1 _ _) hb1) hb2⟩
  have c3' : rightB s.hn s.hN e  = true := by simpa using c3
  by_cases c4 : 4000 < lenZ s.lN d
  · have HC := hide (show chkE s d e = 2 by unfold chkE; simp [c0, c1, c2, c3, c4])
    go_enter Try.func144, Try.ntmps144
    go_wp2_with fail
    refine (isRight_any _ _ _ _ d _ (h.lo.below (bl1 _ _))).mono ?_
    rintro r w1 ⟨rfl, hb1⟩
    obtain ⟨hsz1, hcell1, hfz1⟩ := near (w.heap.size + 1) (by simp) hb1
    go_wp2_with fail
    refine (isRight_any _ _ _ _ e _ (h.hi.below (bthen (bl1 _ _) hb1))).mono ?_
    rintro r w2 ⟨rfl, hb2⟩
    obtain ⟨hsz2, hcell2, hfz2⟩ := near (w.heap.size + 1) hsz1 hb2
    go_wp2_with fail
    refine (len_any _ _ _ _ d _ (h.lo.below (bthen (bthen (bl1 _ _) hb1) hb2))).mono ?_
    rintro r w3 ⟨rfl, hb3⟩
    obtain ⟨hsz3, hcell3, hfz3⟩ := near (w.heap.size + 1) hsz2 hb3
    go_wp2_with fail
    go_ret
    exact ⟨by rw [unhide HC]; rfl, bthen (bthen (bthen (bl1 _ _) hb1) hb2) hb3⟩
  by_cases c5 : 4000 < lenZ s.hN e
  · have HC := hide (show chkE s d e = 2 by unfold chkE; simp [c0, c1, c2, c3, c4, c5])
    go_enter Try.func144, Try.ntmps144
    go_wp2_with fail
    refine (isRight_any _ _ _ _ d _ (h.lo.below (bl1 _ _))).mono ?_
    rintro r w1 ⟨rfl, hb1⟩
    obtain ⟨hsz1, hcell1, hfz1⟩ := near (w.heap.size + 1) (by simp) hb1
    go_wp2_with fail
    refine (isRight_any _ _ _ _ e _ (h.hi.below (bthen (bl1 _ _) hb1))).mono ?_
    rintro r w2 ⟨rfl, hb2⟩
    obtain ⟨hsz2, hcell2, hfz2⟩ := near (w.heap.size + 1) hsz1 hb2
    go_wp2_with fail
    refine (len_any _ _ _ _ d _ (h.lo.below (bthen (bthen (bl1 _ _) hb1) hb2))).mono ?_
    rintro r w3 ⟨rfl, hb3⟩
    obtain ⟨hsz3, hcell3, hfz3⟩ := near (w.heap.size + 1) hsz2 hb3
    go_wp2_with fail
    refine (len_any _ _ _ _ e _ (h.hi.below (bthen (bthen (bthen (bl1 _ _) hb1) hb2) hb3))).mono ?_
    rintro r w4 ⟨rfl, hb4⟩
    obtain ⟨hsz4, hcell4, hfz4⟩ := near (w.heap.size + 1) hsz3 hb4
    go_wp2_with fail
    go_ret
    exact ⟨by rw [unhide HC]; rfl, bthen (bthen (bthen (bthen (bl1 _ _) hb1) hb2) hb3) hb4⟩
  by_cases c6 : 0 < cmpI s.ln s.hn d e s.lN s.hN
  · have HC := hide (show chkE s d e = 4 by unfold chkE; simp [c0, c1, c2, c3, c4, c5, c6])
    go_enter Try.func144, Try.ntmps144
    go_wp2_with fail
    refine (isRight_any _ _ _ _ d _ (h.lo.below (bl1 _ _))).mono ?_
    rintro r w1 ⟨rfl, hb1⟩
    obtain ⟨hsz1, hcell1, hfz1⟩ := near (w.heap.size + 1) (by simp) hb1
    go_wp2_with fail
    refine (isRight_any _ _ _ _ e _ (h.hi.below (bthen (bl1 _ _) hb1))).mono ?_
    rintro r w2 ⟨rfl, hb2⟩
    obtain ⟨hsz2, hcell2, hfz2⟩ := near (w.heap.size + 1) hsz1 hb2
    go_wp2_with fail
    refine (len_any _ _ _ _ d _ (h.lo.below (bthen (bthen (bl1 _ _) hb1) hb2))).mono ?_
    rintro r w3 ⟨rfl, hb3⟩
    obtain ⟨hsz3, hcell3, hfz3⟩ := near (w.heap.size + 1) hsz2 hb3
    go_wp2_with fail
    refine (len_any _ _ _ _ e _ (h.hi.below (bthen (bthen (bthen (bl1 _ _) hb1) hb2) hb3))).mono ?_
    rintro r w4 ⟨rfl, hb4⟩
    obtain ⟨hsz4, hcell4, hfz4⟩ := near (w.heap.size + 1) hsz3 hb4
    go_wp2_with fail
    refine (cmp_any _ _ _ _ _ _ _ _ d e _ (h.lo.below (bthen (bthen (bthen (bthen (bl1 _ _) hb1) hb2) hb3) hb4)) (h.hi.below (bthen (bthen (bthen (bthen (bl1 _ _) hb1) hb2) hb3) hb4))).mono ?_
    rintro r w5 ⟨rfl, hb5⟩
    obtain ⟨hsz5, hcell5, hfz5⟩ := near (w.heap.size + 1) hsz4 hb5
    go_wp2_with fail
    go_ret
    exact ⟨by rw [unhide HC]; rfl, bthen (bthen (bthen (bthen (bthen (bl1 _ _) hb1) hb2) hb3) hb4) hb5⟩
  have HC := hide (show chkE s d e = 0 by unfold chkE; simp [c0, c1, c2, c3, c4, c5, c6])
  go_enter Try.func144, Try.ntmps144
  go_wp2_with fail
  refine (isRight_any _ _ _ _ d _ (h.lo.below (bl1 _ _))).mono ?_
  rintro r w1 ⟨rfl, hb1⟩
  obtain ⟨hsz1, hcell1, hfz1⟩ := near (w.heap.size + 1) (by simp) hb1
  go_wp2_with fail
  refine (isRight_any _ _ _ _ e _ (h.hi.below (bthen (bl1 _ _) hb1))).mono ?_
  rintro r w2 ⟨rfl, hb2⟩
  obtain ⟨hsz2, hcell2, hfz2⟩ := near (w.heap.size + 1) hsz1 hb2
  go_wp2_with fail
  refine (len_any _ _ _ _ d _ (h.lo.below (bthen (bthen (bl1 _ _) hb1) hb2))).mono ?_
  rintro r w3 ⟨rfl, hb3⟩
  obtain ⟨hsz3, hcell3, hfz3⟩ := near (w.heap.size + 1) hsz2 hb3
  go_wp2_with fail
  refine (len_any _ _ _ _ e _ (h.hi.below (bthen (bthen (bthen (bl1 _ _) hb1) hb2) hb3))).mono ?_
  rintro r w4 ⟨rfl, hb4⟩
  obtain ⟨hsz4, hcell4, hfz4⟩ := near (w.heap.size + 1) hsz3 hb4
  go_wp2_with fail
  refine (cmp_any _ _ _ _ _ _ _ _ d e _ (h.lo.below (bthen (bthen (bthen (bthen (bl1 _ _) hb1) hb2) hb3) hb4)) (h.hi.below (bthen (bthen (bthen (bthen (bl1 _ _) hb1) hb2) hb3) hb4))).mono ?_
  rintro r w5 ⟨rfl, hb5⟩
  obtain ⟨hsz5, hcell5, hfz5⟩ := near (w.heap.size + 1) hsz4 hb5
  go_wp2_with fail
  go_ret
  exact ⟨by rw [unhide HC]; rfl, bthen (bthen (bthen (bthen (bthen (bl1 _ _) hb1) hb2) hb3) hb4) hb5⟩
end Go.Proofs.Ytgmnknmjainabab
