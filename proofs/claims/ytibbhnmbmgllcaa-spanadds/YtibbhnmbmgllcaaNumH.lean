/-
  What num.Down answers of right numbers, and that it leaves old memory alone.
-/
import Derived.Test.YtibbhnmbmgllcaaNumG
namespace Go.Proofs.Ytibbhnmbmgllcaa
set_option linter.unusedVariables false
set_option linter.unusedSimpArgs false
set_option linter.unnecessarySimpa false
open Go.RowKit
attribute [local go_sem ↓] Go.wp_at_zero Go.wp_at_succ

/-- A digit of what is moved down. -/
theorem down_digit (x y : Int) (s : Nat) (hs : s ≤ 16) (hx : 0 ≤ x) (hx1 : x < 65536) (hy : 0 ≤ y) :
    (x + 65536 * y) / Q s % 65536 * Q s + x % Q s = x + y % Q s * 65536 := by
  have h16 := Q16_split hs
  have hq := Q_pos s
  have hr := Q_pos (16 - s)
  generalize Q s = S at *
  generalize Q (16 - s) = R at *
  have e1 : (x + 65536 * y) / S = x / S + R * y := by
    rw [← h16, Int.mul_assoc, Int.add_mul_ediv_left _ _ (by omega)]
  have hxd : S * (x / S) + x % S = x := Int.mul_ediv_add_emod x S
  have hyd : S * (y / S) + y % S = y := Int.mul_ediv_add_emod y S
  have hx0 : 0 ≤ x / S := Int.ediv_nonneg hx (by omega)
  have hxR : x / S < R := Int.ediv_lt_of_lt_mul (by omega) (by rw [Int.mul_comm, h16]; exact hx1)
  have hy0 := Int.emod_nonneg y (show S ≠ 0 by omega)
  have hyS := Int.emod_lt_of_pos y (show 0 < S by omega)
  have e2 : R * y = R * (y % S) + 65536 * (y / S) := by
    have : R * y = R * (S * (y / S) + y % S) := by rw [hyd]
    rw [this, Int.mul_add, ← Int.mul_assoc, Int.mul_comm R S, h16]; omega
  have hRy : R * (y % S) ≤ R * (S - 1) := Int.mul_le_mul_of_nonneg_left (by omega) (by omega)
  have hRy0 : 0 ≤ R * (y % S) := Int.mul_nonneg (by omega) hy0
  have e3 : R * (S - 1) = 65536 - R := by rw [Int.mul_sub, Int.mul_comm R S, h16]; omega
  have e4 : (x + 65536 * y) / S % 65536 = x / S + R * (y % S) := by rw [e1, e2]; omega
  rw [e4, Int.add_mul, Int.mul_comm (x / S) S, Int.mul_assoc, Int.mul_comm (y % S) S, ← Int.mul_assoc, Int.mul_comm R S, h16]
  omega

theorem down_step (d o : Nat → Int) (n q m s : Nat) (hs : s ≤ 16) (hd : Dgs d) {v : Int} (hv : v = (dg d n (q + m) + 65536 * dg d n (q + (m + 1))) / Q s % 65536)
    (h : V o m * Q s + dg d n q % Q s = V (fun j => dg d n (q + j)) m + dg d n (q + m) % Q s * P m) :
    V (upd o m v) (m + 1) * Q s + dg d n q % Q s = V (fun j => dg d n (q + j)) (m + 1) + dg d n (q + (m + 1)) % Q s * P (m + 1) := by
  have b1 : 0 ≤ dg d n (q + m) ∧ dg d n (q + m) < 65536 := by unfold dg; have := hd (q + m); split <;> omega
  have b2 : 0 ≤ dg d n (q + (m + 1)) := by unfold dg; have := hd (q + (m + 1)); split <;> omega
  have h1 := down_digit (dg d n (q + m)) (dg d n (q + (m + 1))) s hs b1.1 b1.2 b2
  rw [← hv] at h1
  have h2 : V (upd o m v) (m + 1) = V o m + v * P m := by
    simp only [V]
    rw [V_congr m (fun j hj => by simp [upd]; omega : ∀ j, j < m → upd o m v j = o j)]
    simp [upd]
  rw [h2]
  simp only [V, P]
  generalize dg d n (q + (m + 1)) % Q s = y at *
  generalize dg d n (q + m) % Q s = z at *
  have h3 : v * Q s * P m + z * P m = dg d n (q + m) * P m + y * (65536 * P m) := by
    rw [← Int.add_mul, h1, Int.add_mul, Int.mul_assoc]
  have h4 : (V o m + v * P m) * Q s = V o m * Q s + v * Q s * P m := by
    rw [Int.add_mul, Int.mul_assoc v, Int.mul_comm (P m) (Q s), ← Int.mul_assoc]
  omega

/-- What is left behind the first i digits. -/
def lostQ (d : Nat → Int) (q s i : Nat) : Int := if i ≤ q then V d i else V d q + d q % Q s * P q
theorem lost_low {d : Nat → Int} (hd : Dgs d) {q s i : Nat} (h : i < q) : lostQ d q s (i + 1) ≠ 0 ↔ (lostQ d q s i ≠ 0 ∨ d i ≠ 0) := by
  unfold lostQ
  rw [if_pos (by omega), if_pos (by omega)]
  simp only [V]
  have h1 := V_nonneg hd i
  have h2 := hd i
  have h3 := P_pos i
  have h4 : 0 ≤ d i * P i := Int.mul_nonneg h2.1 (by omega)
  by_cases h5 : d i = 0
  · simp [h5]
  · have : 1 * P i ≤ d i * P i := Int.mul_le_mul_of_nonneg_right (by omega) (by omega)
    omega
theorem lost_at {d : Nat → Int} (hd : Dgs d) (q s : Nat) : lostQ d q s (q + 1) ≠ 0 ↔ (lostQ d q s q ≠ 0 ∨ d q % Q s ≠ 0) := by
  unfold lostQ
  rw [if_neg (by omega), if_pos (by omega)]
  have h1 := V_nonneg hd q
  have h2 := Int.emod_nonneg (d q) (show Q s ≠ 0 by have := Q_pos s; omega)
  have h3 := P_pos q
  have h4 : 0 ≤ d q % Q s * P q := Int.mul_nonneg h2 (by omega)
  by_cases h5 : d q % Q s = 0
  · simp [h5]
  · have : 1 * P q ≤ d q % Q s * P q := Int.mul_le_mul_of_nonneg_right (by omega) (by omega)
    omega
theorem lost_high {d : Nat → Int} {q s i : Nat} (h : q < i) : lostQ d q s (i + 1) = lostQ d q s i := by
  unfold lostQ
  rw [if_neg (by omega), if_neg (by omega)]

theorem balloc {w w1 : World} (h : Below w.heap.size w w1) (o : Obj) : Below w.heap.size w (w1.alloc o) := h.alloc h.size o

theorem V_split (d : Nat → Int) (q m : Nat) : V d (q + m) = V d q + P q * V (fun j => d (q + j)) m := by
  induction m with
  | zero => simp [V]
  | succ m ih =>
    rw [← Nat.add_assoc]; simp only [V]; rw [ih, P_add, Int.mul_add]
    have : d (q + m) * (P q * P m) = P q * (d (q + m) * P m) := by rw [Int.mul_left_comm]
    omega

theorem down_fin {d o : Nat → Int} {n q s k m : Nat} (hd : Dgs d) (hq : q = k / 16) (hs : s = k % 16) (hm : m = n - q)
    (h : V o m * Q s + dg d n q % Q s = V (fun j => dg d n (q + j)) m + dg d n (q + m) % Q s * P m) :
    V d n = V o m * Q k + lostQ d q s n ∧ 0 ≤ lostQ d q s n ∧ lostQ d q s n < Q k := by
  have hQ : Q k = Q s * P q := by rw [hs, hq]; exact Q_split k
  have hp := P_pos q
  have hqs := Q_pos s
  have hSP : P q ≤ Q s * P q := by
    have := Int.mul_le_mul_of_nonneg_right hqs (show 0 ≤ P q by omega); omega
  unfold lostQ
  by_cases hn : n ≤ q
  · rw [if_pos hn]
    have hm0 : m = 0 := by omega
    subst hm0
    have h1 := V_nonneg hd n
    have h2 := V_lt hd n
    have h3 := P_mono hn
    simp only [V]; omega
  · rw [if_neg hn]
    have hqm : q + m = n := by omega
    have e0 : dg d n (q + m) = 0 := by rw [hqm]; simp [dg]
    have e1 : dg d n q = d q := by simp [dg]; omega
    have e2 : V (fun j => dg d n (q + j)) m = V (fun j => d (q + j)) m := V_congr m (fun j hj => by simp [dg]; omega)
    rw [e0, e1, e2] at h
    have h4 := V_split d q m
    rw [hqm] at h4
    have hr0 := Int.emod_nonneg (d q) (show Q s ≠ 0 by omega)
    have hr1 := Int.emod_lt_of_pos (d q) (show 0 < Q s by omega)
    have h5 := V_nonneg hd q
    have h6 := V_lt hd q
    have h7 : d q % Q s * P q ≤ (Q s - 1) * P q := Int.mul_le_mul_of_nonneg_right (by omega) (by omega)
    rw [Int.sub_mul] at h7
    have h8 : 0 ≤ d q % Q s * P q := Int.mul_nonneg hr0 (by omega)
    simp at h
    have h9 : P q * V (fun j => d (q + j)) m = V o m * (Q s * P q) + d q % Q s * P q := by
      rw [← h, Int.mul_comm (P q), Int.add_mul, Int.mul_assoc]
    rw [hQ]; omega

theorem div_pos_eq {M v r K : Int} (hK : 0 < K) (h : M = v * K + r) (h0 : 0 ≤ r) (h1 : r < K) : M / K = v := by
  rw [h, Int.add_comm, Int.add_mul_ediv_right _ _ (by omega), Int.ediv_eq_zero_of_lt h0 h1]; omega
theorem div_neg_eq {M v K : Int} (hK : 0 < K) (h : M = v * K) : -M / K = -v := by
  rw [h, ← Int.neg_mul, Int.mul_ediv_cancel _ (by omega)]
theorem div_neg_lost {M v r K : Int} (hK : 0 < K) (h : M = v * K + r) (h0 : 0 < r) (h1 : r < K) : -M / K = -v - 1 := by
  refine div_pos_eq (r := K - r) hK ?_ (by omega) (by omega)
  rw [h, Int.sub_mul, Int.neg_mul]; omega

set_option maxRecDepth 100000 in
set_option maxHeartbeats 8000000 in
theorem down_any (neg : Bool) (a : Option Addr) (n cap k : Nat) (d : Nat → Int) (w : World) (ha : Dig w a n cap d) (hn : n ≤ 1000000000) (hk : k ≤ 1000000000) :
    Calls Try.prog 79 #[.agg #[.bool neg, .slice a n cap], .int .i64 k] w fun r w' =>
      ∃ neg' a' n' cap', r = .returned (.agg #[.bool neg', .slice a' n' cap']) ∧ IntAt w' neg' a' n' cap' (n + 5) (sgn neg (V d n) / Q k) ∧ Below w.heap.size w w' := by
  obtain ⟨q, hq⟩ : ∃ q, q = k / 16 := ⟨_, rfl⟩
  obtain ⟨s, hs⟩ : ∃ s, s = k % 16 := ⟨_, rfl⟩
  have hq' : (k : Int) / 16 = (q : Int) := by omega
  have hs' : (k : Int) % 16 = (s : Int) := by omega
  have hs16 : s < 16 := by omega
  have hk' : ¬ (k : Int) < 0 := by omega
  obtain ⟨W, hW⟩ : ∃ W, W = (w.alloc (.cells #[.bool neg, .slice a n cap] 24)).alloc (.cells #[.bool false, .slice none 0 0] 24) := ⟨_, rfl⟩
  have b3 : Below w.heap.size w W := by rw [hW]; exact bl2 _ _ _
  have s3 : W.heap.size = w.heap.size + 1 + 1 := by rw [hW]; simp
  have k0 : W.cell? ⟨w.heap.size, 0, none⟩ = some (.bool neg) := by rw [hW]; simp [go_sem]
  have k1 : W.cell? ⟨w.heap.size, 1, none⟩ = some (.slice a n cap) := by rw [hW]; simp [go_sem]
  have k3 : W.cell? ⟨w.heap.size + 1, 0, none⟩ = some (.bool false) := by rw [hW]; simp [go_sem]
  have k4 : W.cell? ⟨w.heap.size + 1, 1, none⟩ = some (.slice none 0 0) := by rw [hW]; simp [go_sem]
  have k5 : ∀ o, W.frozen? ⟨w.heap.size + 1, o, none⟩ = false := by intro o; rw [hW]; simp [go_sem]
  have HW := hide hW
  have Hq := hide hq
  have Hs := hide hs
  clear hW hq hs
  go_enter Try.func79, Try.ntmps79
  go_wp2
  go_loopw [5, 6, 20] (fun out lost ii wr => ∃ (i m : Nat) (a' : Option Addr) (cap' : Nat) (o : Nat → Int) (b : Bool), i ≤ n ∧ ii = .int .i64 i ∧ m = i - q ∧ out = .slice a' m cap' ∧ lost = .bool b ∧ (b = true ↔ lostQ d q s i ≠ 0) ∧
      Own wr (w.heap.size + 1 + 1) 96 a' m cap' o ∧ Dgs o ∧ V o m * Q s + dg d n q % Q s = V (fun j => dg d n (q + j)) m + dg d n (q + m) % Q s * P m ∧ Below (w.heap.size + 1 + 1) W wr) (fun _ _ ii _ => n - (intOf ii).toNat)
  case atStart =>
    refine ⟨0, 0, none, 0, fun _ => 0, false, Nat.zero_le _, rfl, by omega, rfl, rfl, by simp [lostQ, V], Own.nil _ _ _ _, fun _ => ⟨by simp, by simp⟩, by simp [V, P], ?_⟩
    rw [unhide HW]; exact Below.refl _ _
  case round =>
    obtain ⟨i, m, a', cap', o, b, hi, rfl, hm, rfl, rfl, hb, hown, hod, hV, hbl⟩ := hrel
    have hsw := hbl.size
    rw [s3] at hsw
    by_cases hin : i < n
    · obtain ⟨b1, o1, rfl, hb1, hc1⟩ := ha.at_ (by omega)
      have g1 : wr.cell? ⟨b1, o1 + i, none⟩ = some (.int .u16 (d i)) := (hbl.cell (p := ⟨b1, o1 + i, none⟩) (by show b1 < _; omega)).trans ((b3.cell (p := ⟨b1, o1 + i, none⟩) hb1).trans (hc1 i hin))
      have q1 : wr.cell? ⟨w.heap.size, 1, none⟩ = some (.slice (some ⟨b1, o1, none⟩) n cap) := (hbl.cell (p := ⟨w.heap.size, 1, none⟩) (by show w.heap.size < _; omega)).trans k1
      have db := ha.dgs i
      by_cases hiq : i < q
      · have hm0 : m = 0 := by omega
        subst hm0
        have hiq' : (i : Int) < q := by omega
        have Hm := hide hm
        have HO := hide hown
        have HV := hide hV
        have HB := hide hb
        clear hm hown hV hb hc1
        have hll := lost_low (s := s) ha.dgs hiq
        cases b
        · have HL := hide (show (d i != 0) = true ↔ lostQ d q s (i + 1) ≠ 0 by rw [hll]; have := unhide HB; simp at this; simp [this])
          clear hll
          go_wp2
          go_roundw
          case rel => exact ⟨i + 1, 0, a', cap', o, _, by omega, by go_num, by omega, rfl, rfl, unhide HL, unhide HO, hod, unhide HV, hbl⟩
          case measure => simp [intOf]; omega
        · have HL := hide (show true = true ↔ lostQ d q s (i + 1) ≠ 0 by rw [hll]; have := unhide HB; simp at this; simp [this])
          clear hll
          go_wp2
          go_roundw
          case rel => exact ⟨i + 1, 0, a', cap', o, _, by omega, by go_num, by omega, rfl, rfl, unhide HL, unhide HO, hod, unhide HV, hbl⟩
          case measure => simp [intOf]; omega
      · have hiq' : ¬ (i : Int) < q := by omega
        have hmn : m ≤ n := by omega
        have Hm := hide hm
        have HO := hide hown
        have HV := hide hV
        have HB := hide hb
        clear hm hown hV hb
        have eqm : q + m = i := by have := unhide Hm; omega
        have hand : bits BinOp.and IntKind.u16 (d i) (IntKind.u16.wrap (IntKind.u16.wrap (2 ^ s) - 1)) = d i % Q s := by
          have h1 := Q_mono (show s ≤ 15 by omega)
          have e15 : Q 15 = 32768 := rfl
          have h2 := Q_pos s
          have h3 : IntKind.u16.wrap (IntKind.u16.wrap (2 ^ s) - 1) = Q s - 1 := by rw [wrap16, wrap16, Q_pow]; omega
          rw [h3]; exact and16 (d i) s (by omega) db.1 db.2
        have dgi : dg d n (q + m) = d i := by rw [eqm]; simp [dg, hin]
        by_cases hi1 : i + 1 < n
        · have g2 : wr.cell? ⟨b1, o1 + (i + 1), none⟩ = some (.int .u16 (d (i + 1))) := (hbl.cell (p := ⟨b1, o1 + (i + 1), none⟩) (by show b1 < _; omega)).trans ((b3.cell (p := ⟨b1, o1 + (i + 1), none⟩) hb1).trans (hc1 (i + 1) hi1))
          have db2 := ha.dgs (i + 1)
          have hi1' : (i : Int) + 1 < n := by omega
          have hvv : IntKind.u16.wrap (bits BinOp.or IntKind.u32 (d i) (d (i + 1) * 65536) / 2 ^ s) = (dg d n (q + m) + 65536 * dg d n (q + (m + 1))) / Q s % 65536 := by
            have e1 : dg d n (q + (m + 1)) = d (i + 1) := by rw [← Nat.add_assoc, eqm]; simp [dg, hi1]
            rw [wrap16, or32 (d i) (d (i + 1) * 65536) (d (i + 1)) db.1 db.2 (by omega) db2.1 db2.2, Q_pow, dgi, e1, Int.mul_comm (d (i + 1)) 65536]
          clear hc1 dgi eqm
          by_cases hie : i = q
          · subst hie
            have hie' : ((i : Int) == i) = true := by simp
            cases b
            · have HL := hide (show (bits BinOp.and IntKind.u16 (d i) (IntKind.u16.wrap (IntKind.u16.wrap (2 ^ s) - 1)) != 0) = true ↔ lostQ d i s (i + 1) ≠ 0 by rw [lost_at ha.dgs, hand]; have := unhide HB; simp at this; simp [this])
              clear hand
              have HE := hide (show IntKind.u16.wrap (bits BinOp.or IntKind.u32 (d i) (d (i + 1) * 65536) / 2 ^ s) = (dg d n (i + m) + 65536 * dg d n (i + (m + 1))) / Q s % 65536 by rw [hvv])
              clear hvv
              go_wp2_with (at_builtin; refine wpList_append_digit _ rfl _ _ 22 rfl (w.heap.size + 1 + 1) 96 Try.underlying22 Try.infoU16 a' m cap' o rfl ((unhide HO).alloc _) wr.heap.size 1 (IntKind.u16.wrap (bits BinOp.or IntKind.u32 (d i) (d (i + 1) * 65536) / 2 ^ s)) rfl (by simp [go_sem]) (by omega) (by simp; omega) ?_; intro a2 cap2 w1 hown1 hb2)
              go_roundw
              case rel =>
                rw [unhide HE] at hown1
                refine ⟨i + 1, m + 1, a2, cap2, upd o m ((dg d n (i + m) + 65536 * dg d n (i + (m + 1))) / Q s % 65536), _, by omega, by go_num, by have := unhide Hm; omega, rfl, rfl, unhide HL, hown1, upd_dgs hod _ (by omega) (by omega), down_step d o n i m s (by omega) ha.dgs rfl (unhide HV), ?_⟩
                exact (hbl.alloc (by omega) _).trans hb2
              case measure => simp [intOf]; omega
            · have HL := hide (show true = true ↔ lostQ d i s (i + 1) ≠ 0 by rw [lost_at ha.dgs]; have := unhide HB; simp at this; simp [this])
              clear hand
              have HE := hide (show IntKind.u16.wrap (bits BinOp.or IntKind.u32 (d i) (d (i + 1) * 65536) / 2 ^ s) = (dg d n (i + m) + 65536 * dg d n (i + (m + 1))) / Q s % 65536 by rw [hvv])
              clear hvv
              go_wp2_with (at_builtin; refine wpList_append_digit _ rfl _ _ 22 rfl (w.heap.size + 1 + 1) 96 Try.underlying22 Try.infoU16 a' m cap' o rfl ((unhide HO).alloc _) wr.heap.size 1 (IntKind.u16.wrap (bits BinOp.or IntKind.u32 (d i) (d (i + 1) * 65536) / 2 ^ s)) rfl (by simp [go_sem]) (by omega) (by simp; omega) ?_; intro a2 cap2 w1 hown1 hb2)
              go_roundw
              case rel =>
                rw [unhide HE] at hown1
                refine ⟨i + 1, m + 1, a2, cap2, upd o m ((dg d n (i + m) + 65536 * dg d n (i + (m + 1))) / Q s % 65536), _, by omega, by go_num, by have := unhide Hm; omega, rfl, rfl, unhide HL, hown1, upd_dgs hod _ (by omega) (by omega), down_step d o n i m s (by omega) ha.dgs rfl (unhide HV), ?_⟩
                exact (hbl.alloc (by omega) _).trans hb2
              case measure => simp [intOf]; omega
          · have hie' : ((i : Int) == q) = false := by simp; omega
            have HL := hide (show b = true ↔ lostQ d q s (i + 1) ≠ 0 by rw [lost_high (by omega)]; exact unhide HB)
            clear hand
            have HE := hide (show IntKind.u16.wrap (bits BinOp.or IntKind.u32 (d i) (d (i + 1) * 65536) / 2 ^ s) = (dg d n (q + m) + 65536 * dg d n (q + (m + 1))) / Q s % 65536 by rw [hvv])
            clear hvv
            go_wp2_with (at_builtin; refine wpList_append_digit _ rfl _ _ 22 rfl (w.heap.size + 1 + 1) 96 Try.underlying22 Try.infoU16 a' m cap' o rfl ((unhide HO).alloc _) wr.heap.size 1 (IntKind.u16.wrap (bits BinOp.or IntKind.u32 (d i) (d (i + 1) * 65536) / 2 ^ s)) rfl (by simp [go_sem]) (by omega) (by simp; omega) ?_; intro a2 cap2 w1 hown1 hb2)
            go_roundw
            case rel =>
              rw [unhide HE] at hown1
              refine ⟨i + 1, m + 1, a2, cap2, upd o m ((dg d n (q + m) + 65536 * dg d n (q + (m + 1))) / Q s % 65536), _, by omega, by go_num, by have := unhide Hm; omega, rfl, rfl, unhide HL, hown1, upd_dgs hod _ (by omega) (by omega), down_step d o n q m s (by omega) ha.dgs rfl (unhide HV), ?_⟩
              exact (hbl.alloc (by omega) _).trans hb2
            case measure => simp [intOf]; omega
        · have hi1' : ¬ (i : Int) + 1 < n := by omega
          have hvv : IntKind.u16.wrap (d i / 2 ^ s) = (dg d n (q + m) + 65536 * dg d n (q + (m + 1))) / Q s % 65536 := by
            have e1 : dg d n (q + (m + 1)) = 0 := by rw [← Nat.add_assoc, eqm]; simp [dg, hi1]
            rw [wrap16, Q_pow, dgi, e1]; simp
          clear hc1 dgi eqm
          by_cases hie : i = q
          · subst hie
            have hie' : ((i : Int) == i) = true := by simp
            cases b
            · have HL := hide (show (bits BinOp.and IntKind.u16 (d i) (IntKind.u16.wrap (IntKind.u16.wrap (2 ^ s) - 1)) != 0) = true ↔ lostQ d i s (i + 1) ≠ 0 by rw [lost_at ha.dgs, hand]; have := unhide HB; simp at this; simp [this])
              clear hand
              have HE := hide (show IntKind.u16.wrap (d i / 2 ^ s) = (dg d n (i + m) + 65536 * dg d n (i + (m + 1))) / Q s % 65536 by rw [hvv])
              clear hvv
              go_wp2_with (at_builtin; refine wpList_append_digit _ rfl _ _ 22 rfl (w.heap.size + 1 + 1) 96 Try.underlying22 Try.infoU16 a' m cap' o rfl ((unhide HO).alloc _) wr.heap.size 1 (IntKind.u16.wrap (d i / 2 ^ s)) rfl (by simp [go_sem]) (by omega) (by simp; omega) ?_; intro a2 cap2 w1 hown1 hb2)
              go_roundw
              case rel =>
                rw [unhide HE] at hown1
                refine ⟨i + 1, m + 1, a2, cap2, upd o m ((dg d n (i + m) + 65536 * dg d n (i + (m + 1))) / Q s % 65536), _, by omega, by go_num, by have := unhide Hm; omega, rfl, rfl, unhide HL, hown1, upd_dgs hod _ (by omega) (by omega), down_step d o n i m s (by omega) ha.dgs rfl (unhide HV), ?_⟩
                exact (hbl.alloc (by omega) _).trans hb2
              case measure => simp [intOf]; omega
            · have HL := hide (show true = true ↔ lostQ d i s (i + 1) ≠ 0 by rw [lost_at ha.dgs]; have := unhide HB; simp at this; simp [this])
              clear hand
              have HE := hide (show IntKind.u16.wrap (d i / 2 ^ s) = (dg d n (i + m) + 65536 * dg d n (i + (m + 1))) / Q s % 65536 by rw [hvv])
              clear hvv
              go_wp2_with (at_builtin; refine wpList_append_digit _ rfl _ _ 22 rfl (w.heap.size + 1 + 1) 96 Try.underlying22 Try.infoU16 a' m cap' o rfl ((unhide HO).alloc _) wr.heap.size 1 (IntKind.u16.wrap (d i / 2 ^ s)) rfl (by simp [go_sem]) (by omega) (by simp; omega) ?_; intro a2 cap2 w1 hown1 hb2)
              go_roundw
              case rel =>
                rw [unhide HE] at hown1
                refine ⟨i + 1, m + 1, a2, cap2, upd o m ((dg d n (i + m) + 65536 * dg d n (i + (m + 1))) / Q s % 65536), _, by omega, by go_num, by have := unhide Hm; omega, rfl, rfl, unhide HL, hown1, upd_dgs hod _ (by omega) (by omega), down_step d o n i m s (by omega) ha.dgs rfl (unhide HV), ?_⟩
                exact (hbl.alloc (by omega) _).trans hb2
              case measure => simp [intOf]; omega
          · have hie' : ((i : Int) == q) = false := by simp; omega
            have HL := hide (show b = true ↔ lostQ d q s (i + 1) ≠ 0 by rw [lost_high (by omega)]; exact unhide HB)
            clear hand
            have HE := hide (show IntKind.u16.wrap (d i / 2 ^ s) = (dg d n (q + m) + 65536 * dg d n (q + (m + 1))) / Q s % 65536 by rw [hvv])
            clear hvv
            go_wp2_with (at_builtin; refine wpList_append_digit _ rfl _ _ 22 rfl (w.heap.size + 1 + 1) 96 Try.underlying22 Try.infoU16 a' m cap' o rfl ((unhide HO).alloc _) wr.heap.size 1 (IntKind.u16.wrap (d i / 2 ^ s)) rfl (by simp [go_sem]) (by omega) (by simp; omega) ?_; intro a2 cap2 w1 hown1 hb2)
            go_roundw
            case rel =>
              rw [unhide HE] at hown1
              refine ⟨i + 1, m + 1, a2, cap2, upd o m ((dg d n (q + m) + 65536 * dg d n (q + (m + 1))) / Q s % 65536), _, by omega, by go_num, by have := unhide Hm; omega, rfl, rfl, unhide HL, hown1, upd_dgs hod _ (by omega) (by omega), down_step d o n q m s (by omega) ha.dgs rfl (unhide HV), ?_⟩
              exact (hbl.alloc (by omega) _).trans hb2
            case measure => simp [intOf]; omega
    · have hiE : i = n := by omega
      subst hiE
      have q0 : wr.cell? ⟨w.heap.size, 0, none⟩ = some (.bool neg) := (hbl.cell (p := ⟨w.heap.size, 0, none⟩) (by show w.heap.size < _; omega)).trans k0
      have q3 : wr.cell? ⟨w.heap.size + 1, 0, none⟩ = some (.bool false) := (hbl.cell (p := ⟨w.heap.size + 1, 0, none⟩) (by simp)).trans k3
      have q4 : wr.cell? ⟨w.heap.size + 1, 1, none⟩ = some (.slice none 0 0) := (hbl.cell (p := ⟨w.heap.size + 1, 1, none⟩) (by simp)).trans k4
      have q5 : ∀ o, wr.frozen? ⟨w.heap.size + 1, o, none⟩ = false := fun o => (hbl.frozen (p := ⟨w.heap.size + 1, o, none⟩) (by simp)).trans (k5 o)
      obtain ⟨f1, f2, f3⟩ := down_fin ha.dgs (unhide Hq) (unhide Hs) hm hV
      have hQk : 0 < Q k := by have := Q_pos k; omega
      have HR := hide (hown.dig hod (by omega))
      have hmi : m ≤ i := by omega
      have hbr : (b = true ∧ 0 < lostQ d q s i) ∨ (b = false ∧ lostQ d q s i = 0) := by
        cases b
        · right; simp at hb; exact ⟨rfl, hb⟩
        · left; simp at hb; exact ⟨rfl, by omega⟩
      clear hV hb hown hod hm
      rcases hbr with ⟨rfl, hl⟩ | ⟨rfl, hl⟩
      · cases neg
        · have HE := hide (show sgn false (V o m) = sgn false (V d i) / Q k by simp only [sgn]; exact (div_pos_eq hQk f1 f2 f3).symm)
          clear f1 f2 f3 hl
          go_wp2_with (go_at_call 104; refine (of_int _ _ _ _ o _ (unhide HR)).mono ?_; rintro r w2 ⟨neg', a2, n2, c2, rfl, hint, hb2⟩; obtain ⟨hsz2, hcell2, hfz2⟩ := near (w.heap.size + 1 + 1) hsw hb2; have hz0 := Nat.lt_of_lt_of_le (Nat.lt_succ_of_lt (Nat.lt_succ_self w.heap.size)) hsz2; have hz1 := Nat.lt_of_lt_of_le (Nat.lt_succ_self (w.heap.size + 1)) hsz2)
          refine bodyPost_ret (v := .agg #[.bool neg', .slice a2 n2 c2]) (by simp [results, Try.results79, go_sem, hcell2, hz0, hz1, q3, q4]) rfl ⟨neg', a2, n2, c2, rfl, ?_, ?_⟩
          · have h0 : w2.cell? ⟨w.heap.size + 1, 0, none⟩ = some (.bool false) := by simp [hcell2, q3]
            have h1' : w2.cell? ⟨w.heap.size + 1, 1, none⟩ = some (.slice none 0 0) := by simp [hcell2, q4]
            rw [unhide HE] at hint
            exact ((hint.put2 h0 h1' _ _).below (bl1 _ _)).mono (by omega)
          · exact balloc (((bthen (b3.trans (hbl.mono (by omega))) hb2).setCell (p := ⟨w.heap.size + 1, 0, none⟩) (Nat.le_succ _) _).setCell (p := ⟨w.heap.size + 1, 1, none⟩) (Nat.le_succ _) _) _
        · have HE := hide (show sgn true (V o m) - 1 = sgn true (V d i) / Q k by simp only [sgn]; exact (div_neg_lost hQk f1 hl f3).symm)
          clear f1 f2 f3 hl
          go_wp2_with (go_at_call 104; refine (of_int _ _ _ _ o _ (unhide HR)).mono ?_; rintro r w2 ⟨neg', a2, n2, c2, rfl, hint, hb2⟩; obtain ⟨hsz2, hcell2, hfz2⟩ := near (w.heap.size + 1 + 1) hsw hb2; have hz0 := Nat.lt_of_lt_of_le (Nat.lt_succ_of_lt (Nat.lt_succ_self w.heap.size)) hsz2; have hz1 := Nat.lt_of_lt_of_le (Nat.lt_succ_self (w.heap.size + 1)) hsz2)
          have nz : w2.heap.size ≠ w.heap.size + 1 := by omega
          have nz' : w.heap.size + 1 ≠ w2.heap.size := by omega
          go_region_held3 (fun w' => w'.cell? ⟨w2.heap.size, 0, none⟩ = some (.bool neg') ∧ w'.cell? ⟨w2.heap.size, 1, none⟩ = some (.slice a2 n2 c2)) (go_keep)
            (first
              | (go_at_call 62; refine (numOf_int 1 _ (by decide) (by decide)).mono ?_; rintro r w3 ⟨neg3, a3, n3, c3, rfl, hint3, hb3⟩; obtain ⟨hsz3, hcell3, hfz3⟩ := near (w2.heap.size + 1) (by simp) hb3)
              | (go_at_call 50; refine (sub_int _ _ _ _ _ _ _ _ m 4 _ _ _ (hint.below (bthen (bl1 _ _).drew hb3)) hint3 (by omega) (by omega)).mono ?_; rintro r w4 ⟨neg4, a4, n4, c4, rfl, hint4, hb4⟩; obtain ⟨hsz4, hcell4, hfz4⟩ := near (w2.heap.size + 1) hsz3 hb4; have y1 := Nat.le_succ_of_le hz1; have y0 : w2.cell? ⟨w.heap.size + 1, 0, none⟩ = some (.bool false) := (hcell2 _ _ (Nat.le_refl _)).trans q3; have y2 : w2.cell? ⟨w.heap.size + 1, 1, none⟩ = some (.slice none 0 0) := (hcell2 _ _ (Nat.le_refl _)).trans q4; have y3 : ∀ o, w2.frozen? ⟨w.heap.size + 1, o, none⟩ = false := fun o => (hfz2 _ _ (Nat.le_refl _)).trans (q5 o)))
          go_wp2
          have h0 : w4.cell? ⟨w.heap.size + 1, 0, none⟩ = some (.bool false) := by rw [hcell4 _ _ y1, hcell3 _ _ y1]; exact (World.cell?_alloc_past _ _ _ hz1).trans y0
          have h1' : w4.cell? ⟨w.heap.size + 1, 1, none⟩ = some (.slice none 0 0) := by rw [hcell4 _ _ y1, hcell3 _ _ y1]; exact (World.cell?_alloc_past _ _ _ hz1).trans y2
          refine bodyPost_ret (v := .agg #[.bool neg4, .slice a4 n4 c4]) (by simp [results, Try.results79, go_sem, h0, h1']) rfl ⟨neg4, a4, n4, c4, rfl, ?_, ?_⟩
          · rw [unhide HE] at hint4
            exact (hint4.put2 h0 h1' _ _).mono (by omega)
          · exact ((bthen (bthen (balloc (bthen (b3.trans (hbl.mono (by omega))) hb2) _).drew hb3) hb4).setCell (p := ⟨w.heap.size + 1, 0, none⟩) (Nat.le_succ _) _).setCell (p := ⟨w.heap.size + 1, 1, none⟩) (Nat.le_succ _) _
      · cases neg
        · have HE := hide (show sgn false (V o m) = sgn false (V d i) / Q k by simp only [sgn]; exact (div_pos_eq hQk f1 f2 f3).symm)
          clear f1 f2 f3 hl
          go_wp2_with (go_at_call 104; refine (of_int _ _ _ _ o _ (unhide HR)).mono ?_; rintro r w2 ⟨neg', a2, n2, c2, rfl, hint, hb2⟩; obtain ⟨hsz2, hcell2, hfz2⟩ := near (w.heap.size + 1 + 1) hsw hb2; have hz0 := Nat.lt_of_lt_of_le (Nat.lt_succ_of_lt (Nat.lt_succ_self w.heap.size)) hsz2; have hz1 := Nat.lt_of_lt_of_le (Nat.lt_succ_self (w.heap.size + 1)) hsz2)
          refine bodyPost_ret (v := .agg #[.bool neg', .slice a2 n2 c2]) (by simp [results, Try.results79, go_sem, hcell2, hz0, hz1, q3, q4]) rfl ⟨neg', a2, n2, c2, rfl, ?_, ?_⟩
          · have h0 : w2.cell? ⟨w.heap.size + 1, 0, none⟩ = some (.bool false) := by simp [hcell2, q3]
            have h1' : w2.cell? ⟨w.heap.size + 1, 1, none⟩ = some (.slice none 0 0) := by simp [hcell2, q4]
            rw [unhide HE] at hint
            exact ((hint.put2 h0 h1' _ _).below (bl1 _ _)).mono (by omega)
          · exact balloc (((bthen (b3.trans (hbl.mono (by omega))) hb2).setCell (p := ⟨w.heap.size + 1, 0, none⟩) (Nat.le_succ _) _).setCell (p := ⟨w.heap.size + 1, 1, none⟩) (Nat.le_succ _) _) _
        · have HE := hide (show sgn true (V o m) = sgn true (V d i) / Q k by simp only [sgn]; exact (div_neg_eq hQk (by rw [f1, hl]; omega)).symm)
          clear f1 f2 f3 hl
          go_wp2_with (go_at_call 104; refine (of_int _ _ _ _ o _ (unhide HR)).mono ?_; rintro r w2 ⟨neg', a2, n2, c2, rfl, hint, hb2⟩; obtain ⟨hsz2, hcell2, hfz2⟩ := near (w.heap.size + 1 + 1) hsw hb2; have hz0 := Nat.lt_of_lt_of_le (Nat.lt_succ_of_lt (Nat.lt_succ_self w.heap.size)) hsz2; have hz1 := Nat.lt_of_lt_of_le (Nat.lt_succ_self (w.heap.size + 1)) hsz2)
          refine bodyPost_ret (v := .agg #[.bool neg', .slice a2 n2 c2]) (by simp [results, Try.results79, go_sem, hcell2, hz0, hz1, q3, q4]) rfl ⟨neg', a2, n2, c2, rfl, ?_, ?_⟩
          · have h0 : w2.cell? ⟨w.heap.size + 1, 0, none⟩ = some (.bool false) := by simp [hcell2, q3]
            have h1' : w2.cell? ⟨w.heap.size + 1, 1, none⟩ = some (.slice none 0 0) := by simp [hcell2, q4]
            rw [unhide HE] at hint
            exact ((hint.put2 h0 h1' _ _).below (bl1 _ _)).mono (by omega)
          · exact balloc (((bthen (b3.trans (hbl.mono (by omega))) hb2).setCell (p := ⟨w.heap.size + 1, 0, none⟩) (Nat.le_succ _) _).setCell (p := ⟨w.heap.size + 1, 1, none⟩) (Nat.le_succ _) _) _

theorem down_int (neg : Bool) (a : Option Addr) (n cap k k1 : Nat) (x : Int) (w : World) (h1 : IntAt w neg a n cap k1 x) (hk1 : k1 ≤ 1000000000) (hk : k ≤ 1000000000) :
    Calls Try.prog 79 #[.agg #[.bool neg, .slice a n cap], .int .i64 k] w fun r w' =>
      ∃ neg' a' n' cap', r = .returned (.agg #[.bool neg', .slice a' n' cap']) ∧ IntAt w' neg' a' n' cap' (k1 + 5) (x / Q k) ∧ Below w.heap.size w w' := by
  obtain ⟨d, g1, g2, g3, g4, rfl⟩ := h1
  exact (down_any neg a n cap k d w g1 (by omega) hk).mono fun _ _ ⟨n1, n2, n3, n4, q1, q2, q3⟩ => ⟨n1, n2, n3, n4, q1, q2.mono (by omega), q3⟩
end Go.Proofs.Ytibbhnmbmgllcaa
