/-
  Texts NumL, NumM, NumN, Flo, Root, Sur: what they hold is told in the last text.
-/
import Derived.Laws.CopyOwn
import Derived.Deep.RegionHeld3
import Derived.Deep.LoopGhost
import Derived.Test.YtgmnknmjainababK09
set_option linter.unnecessarySimpa false
set_option linter.unusedSimpArgs false
set_option linter.unusedVariables false
namespace Go.Proofs.Ytgmnknmjainabab
open Go.RowKit
def carryT (d : Nat → Int) (q : Int) : Nat → Int
  | 0 => 0
  | k + 1 => (carryT d q k + d k * q) / 65536
def timesD (d : Nat → Int) (q : Int) (n j : Nat) : Int := if j < n then (carryT d q j + d j * q) % 65536 else carryT d q n
theorem prod_bd {x q : Int} (hx : 0 ≤ x ∧ x < 65536) (hq : 0 ≤ q ∧ q < 65536) : 0 ≤ x * q ∧ x * q ≤ 4294836225 := mul_bd hx hq ⟨Int.le_refl 0, by omega⟩ ⟨Int.le_refl 0, by omega⟩
theorem carryT_bd {d : Nat → Int} (hd : Dgs d) {q : Int} (hq : 0 ≤ q ∧ q < 65536) (k : Nat) : 0 ≤ carryT d q k ∧ carryT d q k < 65536 := by
  induction k with
  | zero => simp [carryT]
  | succ k ih => simp only [carryT]; have := prod_bd (hd k) hq; omega
theorem timesD_dgs {d : Nat → Int} (hd : Dgs d) {q : Int} (hq : 0 ≤ q ∧ q < 65536) (n : Nat) : Dgs (timesD d q n) := by
  intro j; unfold timesD
  have := carryT_bd hd hq n
  split <;> omega
theorem times_aux (d : Nat → Int) (q : Int) (n : Nat) : ∀ k, k ≤ n → V (timesD d q n) k + carryT d q k * P k = V d k * q := by
  intro k
  induction k with
  | zero => intro _; simp [V, carryT]
  | succ k ih =>
    intro hk
    have h1 := ih (by omega)
    simp only [V, P]
    have h2 : timesD d q n k = (carryT d q k + d k * q) % 65536 := by simp [timesD]; omega
    rw [h2]
    simp only [carryT]
    have h3 : (carryT d q k + d k * q) % 65536 * P k + (carryT d q k + d k * q) / 65536 * (65536 * P k) = (carryT d q k + d k * q) * P k := by
      rw [← Int.mul_assoc, ← Int.add_mul]; congr 1; omega
    have h4 : (carryT d q k + d k * q) * P k = carryT d q k * P k + d k * q * P k := Int.add_mul _ _ _
    have h5 : (V d k + d k * P k) * q = V d k * q + d k * q * P k := by
      rw [Int.add_mul, Int.mul_assoc (d k), Int.mul_comm (P k) q, ← Int.mul_assoc]
    omega
theorem times_V (d : Nat → Int) (q : Int) (n : Nat) : V (timesD d q n) (n + 1) = V d n * q := by
  have h := times_aux d q n n (Nat.le_refl _)
  simp only [V]
  have : timesD d q n n = carryT d q n := by simp [timesD]
  rw [this]; exact h
set_option maxRecDepth 100000 in
set_option maxHeartbeats 1000000 in
theorem times_any (a : Option Addr) (n cap : Nat) (d : Nat → Int) (q : Int) (w : World) (ha : Dig w a n cap d) (hn : n ≤ 1000000000) (hq0 : 0 ≤ q) (hq1 : q < 65536) :
    Calls Try.prog 166 #[.slice a n cap, .int .u32 q] w fun r w' => ∃ a', r = .returned (.slice a' (n + 1) (n + 1)) ∧ Dig w' a' (n + 1) (n + 1) (timesD d q n) ∧ Below w.heap.size w w' := by
  have hmk := run_make_row' (P := Try.prog) 24 85 (.int .u16 0) 2 Try.underlying24 Try.infoU16 rfl .i64 .i64 (n + 1) (by omega) (by omega)
  have hnm : ((n + 1 : Nat) : Int) = (n : Int) + 1 := by omega
  rw [hnm] at hmk
  clear hnm
  go_enter Try.func166, Try.ntmps166
  go_wp2
  clear hmk
  go_loopw [6, 15] (fun cy i wr => ∃ k : Nat, k ≤ n ∧ i = .int .i64 k ∧ cy = .int .u32 (carryT d q k) ∧ wr.rowIs w.heap.size 85 (n + 1) (fun j => .int .u16 (if j < k then timesD d q n j else 0)) ∧ Below w.heap.size w wr) (fun _ i _ => n - (intOf i).toNat)
  case atStart => exact ⟨0, Nat.zero_le _, rfl, rfl, by simpa using World.rowIs_made w (.int .u16 0) (n + 1) 85, bl1 _ _⟩
  case round =>
    obtain ⟨k, hk, rfl, rfl, hrow, hbl⟩ := hrel
    have cb := carryT_bd ha.dgs ⟨hq0, hq1⟩ k
    by_cases hkn : k < n
    · obtain ⟨b1, o1, rfl, hb1, hc1⟩ := ha.at_ (by omega)
      have g1 : wr.cell? ⟨b1, o1 + k, none⟩ = some (.int .u16 (d k)) := (hbl.cell (p := ⟨b1, o1 + k, none⟩) hb1).trans (hc1 k hkn)
      have db := ha.dgs k
      have pb := prod_bd db ⟨hq0, hq1⟩
      have r1 := hrow.cell (show k < n + 1 by omega)
      have r2 := hrow.frozen k
      have H1 := hide (show (carryT d q k + d k * q) / 65536 = carryT d q (k + 1) from rfl)
      have H2 := hide (show IntKind.u16.wrap (carryT d q k + d k * q) = timesD d q n k by simp [wrap16, timesD, hkn])
      clear hc1
      go_wp2
      go_roundw
      case rel => exact ⟨k + 1, by omega, by go_num, by rw [unhide H1], row_step hrow (unhide H2), hbl.setCell (Nat.le_refl _) _⟩
      case measure => simp [intOf]; omega
    · have hkE : k = n := by omega
      subst hkE
      have r1 := hrow.cell (show k < k + 1 by omega)
      have r2 := hrow.frozen k
      have H2 := hide (show carryT d q k = timesD d q k k by simp [timesD])
      have HR := hide hrow
      clear hrow
      go_wp2
      go_ret
      refine ⟨_, rfl, rowDig ((row_step (unhide HR) (unhide H2)).congr (fun j hj => by simp [hj])) (timesD_dgs ha.dgs ⟨hq0, hq1⟩ k) (by omega), hbl.setCell (Nat.le_refl _) _⟩
end Go.Proofs.Ytgmnknmjainabab
namespace Go.Proofs.Ytgmnknmjainabab
open Go.RowKit
def over1 (u f : Nat → Int) (j i : Nat) : Int := if i < j then u i else f (i - j)
theorem over1_dgs {u f : Nat → Int} (hu : Dgs u) (hf : Dgs f) (j : Nat) : Dgs (over1 u f j) := by
  intro i; unfold over1; split
  · exact hu i
  · exact hf _
theorem over1_Tp (u f : Nat → Int) (j L : Nat) : Tp (over1 u f j) j L = V f (L - j) := by
  unfold Tp; exact V_congr _ (fun i _ => by simp only [over1]; rw [if_neg (by omega)]; congr 1; omega)
theorem V_low (u : Nat → Int) {j L : Nat} (h : j ≤ L) : V u L = V u j + P j * Tp u j L := by
  unfold Tp
  have := V_split u j (L - j)
  rw [show j + (L - j) = L by omega] at this
  exact this
theorem over1_low (u f : Nat → Int) (j : Nat) : V (over1 u f j) j = V u j := V_congr _ (fun i hi => by simp [over1, hi])
theorem div_step {u o f : Nat → Int} {j L M : Nat} {A D q : Int} (hjL : j < L) (hjM : j < M) (hA : A = V u L + D * (P (j + 1) * Tp o (j + 1) M)) (hf : V f (L - j) = Tp u j L - q * D) :
    A = V (over1 u f j) L + D * (P j * Tp (upd o j q) j M) := by
  rw [V_low (over1 u f j) (Nat.le_of_lt hjL), over1_low, over1_Tp, hf, Tp_step (upd o j q) j M hjM, Tp_upd]
  have h1 : upd o j q j = q := by simp [upd]
  rw [h1, hA, V_low u (Nat.le_of_lt hjL)]
  generalize Tp u j L = U
  generalize Tp o (j + 1) M = T
  simp only [P]
  rw [Int.mul_sub, Int.mul_add, Int.mul_add]
  have e1 : P j * (q * D) = D * (P j * q) := by rw [Int.mul_comm q D, ← Int.mul_assoc, ← Int.mul_assoc, Int.mul_comm (P j) D]
  have e2 : D * (P j * (65536 * T)) = D * (65536 * P j * T) := by rw [← Int.mul_assoc (P j), Int.mul_comm (P j) 65536]
  omega
theorem div_hat {u v : Nat → Int} {j L n : Nat} (hu : Dgs u) (hv : Dgs v) (hn : 0 < n) (hL : j + n < L) (hU : Tp u (j + 1) L < V v n) (q : Int) (hq : q * V v n ≤ Tp u j L) (hq0 : 0 ≤ q) :
    q * v (n - 1) ≤ u (j + n) * 65536 + u (j + n - 1) ∧ q < 65536 := by
  have hD := V_lt hv n
  have hT1 := Tp_step u j L (by omega)
  have hu0 := hu j
  have hDpos : 0 < V v n := by have := Tp_nonneg hu (j + 1) L; omega
  have hUlt : Tp u j L < 65536 * V v n := by omega
  have hq1 : q < 65536 := by
    rcases Int.lt_or_le q 65536 with h | h
    · exact h
    · have := Int.mul_le_mul_of_nonneg_right h (show 0 ≤ V v n by omega); omega
  refine ⟨?_, hq1⟩
  have hs := V_split (fun t => u (j + t)) (n + 1) (L - j - (n + 1))
  rw [show n + 1 + (L - j - (n + 1)) = L - j by omega] at hs
  have hs' : Tp u j L = V (fun t => u (j + t)) (n + 1) + P (n + 1) * V (fun t => u (j + (n + 1 + t))) (L - j - (n + 1)) := hs
  have hR0 := V_nonneg (fun t => hu (j + (n + 1 + t))) (L - j - (n + 1))
  have hL0 := V_nonneg (fun t => hu (j + t)) (n + 1)
  have hPn := P_pos (n + 1)
  have hP1 : P (n + 1) = 65536 * P n := rfl
  have hR : V (fun t => u (j + (n + 1 + t))) (L - j - (n + 1)) = 0 := by
    rcases Int.lt_or_le (V (fun t => u (j + (n + 1 + t))) (L - j - (n + 1))) 1 with h | h
    · omega
    · have := Int.mul_le_mul_of_nonneg_left h (show 0 ≤ P (n + 1) by omega)
      omega
  rw [hR, Int.mul_zero, Int.add_zero] at hs'
  obtain ⟨m, rfl⟩ : ∃ m, n = m + 1 := ⟨n - 1, by omega⟩
  have e1 : V (fun t => u (j + t)) (m + 1 + 1) = V (fun t => u (j + t)) m + u (j + m) * P m + u (j + (m + 1)) * (65536 * P m) := rfl
  have e2 : V v (m + 1) = V v m + v m * P m := rfl
  have b1 := V_lt (fun t => hu (j + t)) m
  have b2 := V_nonneg hv m
  have hp := P_pos m
  simp only [Nat.add_sub_cancel]
  rw [show j + (m + 1) - 1 = j + m by omega]
  have h5 : q * (v m * P m) ≤ q * V v (m + 1) := Int.mul_le_mul_of_nonneg_left (by omega) hq0
  have h6 : q * v m * P m < (u (j + (m + 1)) * 65536 + u (j + m) + 1) * P m := by
    rw [Int.mul_assoc, Int.add_mul, Int.add_mul, Int.one_mul, Int.mul_assoc (u (j + (m + 1)))]
    omega
  have h7 : q * v m < u (j + (m + 1)) * 65536 + u (j + m) + 1 := Int.lt_of_mul_lt_mul_right h6 (by omega)
  omega
theorem row_take {c : Array Value} {N n : Nat} {f : Nat → Int} (hc : ∀ i, i < N → c[i]? = some (.int .u16 (f i))) (hn : n ≤ N) : c.toList.take n = dcells f n := by
  apply List.ext_getElem?
  intro j
  rw [List.getElem?_take]
  by_cases hj : j < n
  · rw [if_pos hj, dcells_at f n j hj, Array.getElem?_toList]; exact hc j (by omega)
  · rw [if_neg hj]; symm; rw [List.getElem?_eq_none_iff, dcells_len]; omega
theorem row_own {w : World} {b t N n base : Nat} {f : Nat → Int} (h : w.rowIs b t N (fun j => .int .u16 (f j))) (hn : n ≤ N) (hN : N ≤ 4611686018427387904) (hb : base ≤ b) : Own w base t (some ⟨b, 0, none⟩) n N f := by
  obtain ⟨c, h1, h2, h3⟩ := h
  refine ⟨by rw [dcells_len]; omega, Or.inr ⟨b, N, c, rfl, hb, h1, hn, by unfold maxLen; omega, by omega, ?_⟩⟩
  rw [Nat.mul_one]; exact row_take h3 hn
set_option maxRecDepth 100000 in
set_option maxHeartbeats 1000000 in
theorem up_own (neg : Bool) (a : Option Addr) (n cap k : Nat) (d : Nat → Int) (w : World) (ha : Dig w a n cap d) (hn : n ≤ 1000000000) (hk : k ≤ 1000000000) :
    Calls Try.prog 113 #[.agg #[.bool neg, .slice a n cap], .int .i64 k] w fun r w' =>
      ∃ g n' cap' o neg', r = .returned (.agg #[.bool neg', .slice (some ⟨g, 0, none⟩) n' cap']) ∧ Own w' w.heap.size 85 (some ⟨g, 0, none⟩) n' cap' o ∧ Dgs o ∧ (n' = 0 ∨ o (n' - 1) ≠ 0) ∧ V o n' = V d n * Q k ∧ n' ≤ k / 16 + n + 1 ∧ Below w.heap.size w w' := by
  obtain ⟨q, hq⟩ : ∃ q, q = k / 16 := ⟨_, rfl⟩
  obtain ⟨s, hs⟩ : ∃ s, s = k % 16 := ⟨_, rfl⟩
  have hq' : (k : Int) / 16 = (q : Int) := by omega
  have hs' : (k : Int) % 16 = (s : Int) := by omega
  have hs16 : s < 16 := by omega
  have hk' : ¬ (k : Int) < 0 := by omega
  obtain ⟨W, hW⟩ : ∃ W, W = (w.alloc (.cells #[.bool neg, .slice a n cap] 26)).alloc (.cells #[.bool false, .slice none 0 0] 26) := ⟨_, rfl⟩
  have b3 : Below w.heap.size w W := by rw [hW]; exact bl2 _ _ _
  have s3 : W.heap.size = w.heap.size + 1 + 1 := by rw [hW]; simp
  have k0 : W.cell? ⟨w.heap.size, 0, none⟩ = some (.bool neg) := by rw [hW]; simp [go_sem]
  have k3 : W.cell? ⟨w.heap.size + 1, 0, none⟩ = some (.bool false) := by rw [hW]; simp [go_sem]
  have k4 : W.cell? ⟨w.heap.size + 1, 1, none⟩ = some (.slice none 0 0) := by rw [hW]; simp [go_sem]
  have k5 : ∀ o, W.frozen? ⟨w.heap.size + 1, o, none⟩ = false := by intro o; rw [hW]; simp [go_sem]
  have HW := hide hW
  clear hW
  have hmk := run_make_row' (P := Try.prog) 24 85 (.int .u16 0) 2 Try.underlying24 Try.infoU16 rfl .i64 .i64 (q + n + 1) (by omega) (by omega)
  have hnm : ((q + n + 1 : Nat) : Int) = (q : Int) + n + 1 := by omega
  rw [hnm] at hmk
  have Hq := hide hq
  have Hs := hide hs
  clear hnm hq hs
  go_enter Try.func113, Try.ntmps113
  go_wp2
  clear hmk
  go_loopw [26] (fun ii wr => ∃ (i : Nat) (o : Nat → Int), i ≤ n ∧ ii = .int .i64 i ∧ wr.rowIs (w.heap.size + 1 + 1) 85 (q + n + 1) (fun j => .int .u16 (o j)) ∧ Dgs o ∧ V o (q + n + 1) = V d i * Q s * P q ∧ (∀ j, i + q < j → o j = 0) ∧ o (i + q) < Q s ∧ Below (w.heap.size + 1 + 1) W wr) (fun ii _ => n - (intOf ii).toNat)
  case atStart =>
    refine ⟨0, fun _ => 0, Nat.zero_le _, rfl, ?_, fun _ => ⟨by simp, by simp⟩, ?_, fun _ _ => rfl, ?_, ?_⟩
    · have := World.rowIs_made W (.int .u16 0) (q + n + 1) 85
      rw [s3, unhide HW] at this; exact this
    · rw [V_zero]; simp [V]
    · have := Q_pos s; simp; omega
    · rw [unhide HW]; exact (Below.refl _ _).alloc (by simp) _
  case round =>
    obtain ⟨i, o, hi, rfl, hrow, hod, hov, hoz, hoq, hbl⟩ := hrel
    by_cases hin : i < n
    · obtain ⟨b1, o1, rfl, hb1, hc1⟩ := ha.at_ (by omega)
      have g1 : wr.cell? ⟨b1, o1 + i, none⟩ = some (.int .u16 (d i)) := (hbl.cell (p := ⟨b1, o1 + i, none⟩) (by show b1 < _; omega)).trans ((b3.cell (p := ⟨b1, o1 + i, none⟩) hb1).trans (hc1 i hin))
      have db := ha.dgs i
      have r1 := hrow.cell (show i + q < q + n + 1 by omega)
      have r2 := hrow.frozen (i + q)
      have r3 := hrow.cell (show i + q + 1 < q + n + 1 by omega)
      have r4 := hrow.frozen (i + q + 1)
      have hz1 := hoz (i + q + 1) (by omega)
      rw [hz1] at r3
      have ob := hod (i + q)
      have HV := hide hov
      have HZ := hide hoz
      have HR := hide hrow
      have HD := hide hod
      have HZ1 := hide hz1
      clear hc1 hov hoz hrow hod hz1
      obtain ⟨c, hlow⟩ := up_low (d i) s (by omega)
      have hhigh := up_high (d i) s db.1 db.2
      have hlt := up_lt (d i) s hs16 db.1 db.2
      have hmod : d i * 2 ^ s % 4294967296 = d i * Q s := by rw [Q_pow]; omega
      have hor := or16 (o (i + q)) (d i * Q s % 65536) c s (by omega) ob.1 hoq hlow (by omega) (by omega)
      have hor2 := or16 0 (d i * Q s / 65536) (d i * Q s / 65536) 0 (by omega) (by omega) (by simp [Q]) (by simp [Q]) hhigh.1 (by omega)
      have H1 := hide (show bits .or .u16 (o (i + q)) (IntKind.u16.wrap (d i * 2 ^ s % 4294967296)) = o (i + q) + d i * Q s % 65536 by rw [hmod, wrap16]; exact hor.1)
      have H2 := hide (show bits .or .u16 0 (d i * 2 ^ s % 4294967296 / 65536) = d i * Q s / 65536 by rw [hmod, hor2.1]; omega)
      have H3 := hide hor.2
      have H4 := hide hhigh
      have hQ16 := Q_mono (show s ≤ 15 by omega)
      have e15 : Q 15 = 32768 := rfl
      rw [e15] at hQ16
      clear hlow hlt hmod hor hor2 hhigh e15
      go_wp2
      go_roundw
      case rel =>
        have h3 := unhide H3
        have h4 := unhide H4
        have hne : i + q + 1 ≠ i + q := by omega
        have hz : upd o (i + q) (o (i + q) + d i * Q s % 65536) (i + q + 1) = 0 := by simp [upd]; exact unhide HZ1
        refine ⟨i + 1, upd (upd o (i + q) (o (i + q) + d i * Q s % 65536)) (i + q + 1) (d i * Q s / 65536), by omega, by go_num, row_upd (row_upd (unhide HR) (i + q) (unhide H1)) (i + q + 1) (unhide H2), upd_dgs (upd_dgs (unhide HD) _ (by omega) h3) _ h4.1 (by omega), ?_, fun j hj => ?_, ?_, (hbl.setCell (by simp) _).setCell (by simp) _⟩
        · rw [upd_V _ _ _ _ (by omega), upd_V _ _ _ _ (by omega), hz, unhide HV]
          exact up_alg (V d i) (d i) (o (i + q)) i q s
        · have e1 : j ≠ i + q := by omega
          have e2 : j ≠ i + q + 1 := by omega
          simp only [upd, e1, e2, if_false]; exact unhide HZ j (by omega)
        · have e1 : i + 1 + q = i + q + 1 := by omega
          rw [e1]; simp only [upd, if_true]; exact h4.2
      case measure => simp [intOf]; omega
    · have hiE : i = n := by omega
      subst hiE
      have q0 : wr.cell? ⟨w.heap.size, 0, none⟩ = some (.bool neg) := (hbl.cell (p := ⟨w.heap.size, 0, none⟩) (by show w.heap.size < _; omega)).trans k0
      have q3 : wr.cell? ⟨w.heap.size + 1, 0, none⟩ = some (.bool false) := (hbl.cell (p := ⟨w.heap.size + 1, 0, none⟩) (by simp)).trans k3
      have q4 : wr.cell? ⟨w.heap.size + 1, 1, none⟩ = some (.slice none 0 0) := (hbl.cell (p := ⟨w.heap.size + 1, 1, none⟩) (by simp)).trans k4
      have q5 : ∀ o, wr.frozen? ⟨w.heap.size + 1, o, none⟩ = false := fun o => (hbl.frozen (p := ⟨w.heap.size + 1, o, none⟩) (by simp)).trans (k5 o)
      have hsw := hbl.size
      rw [s3] at hsw
      have HR := hide (rowDig hrow hod (by omega))
      have HRow := hide hrow
      have HO := hide hod
      have HV := hide hov
      clear hov hoz hrow hod
      go_wp2_with (go_at_call 91; refine (of_any _ _ _ _ o _ (unhide HR)).mono ?_; rintro r w2 ⟨rfl, hb2⟩; obtain ⟨hsz2, hcell2, hfz2⟩ := near (w.heap.size + 1 + 1) hsw hb2)
      have tl := trimN_le o (q + i + 1)
      refine bodyPost_ret (v := .agg #[.bool (neg && decide (0 < trimN o (q + i + 1))), .slice (some ⟨w.heap.size + 1 + 1, 0, none⟩) (trimN o (q + i + 1)) (q + i + 1)]) (by simp [results, Try.results113, go_sem, hcell2, q3, q4]) rfl ⟨w.heap.size + 1 + 1, trimN o (q + i + 1), q + i + 1, o, _, rfl, ?_, unhide HO, trimN_top _ _, ?_, ?_, ?_⟩
      · refine row_own ?_ tl (by omega) (by omega)
        have hr2 : w2.rowIs (w.heap.size + 1 + 1) 85 (q + i + 1) (fun j => .int .u16 (o j)) := (unhide HRow).of_block (hb2.block _ (unhide HRow).lt)
        exact (hr2.setOther (by simp) _).setOther (by simp) _
      · rw [trimN_V, unhide HV, Int.mul_assoc, unhide Hs, unhide Hq, ← Q_split]
      · have := unhide Hq; omega
      · exact ((bthen (b3.trans (hbl.mono (by omega))) hb2).setCell (by simp) _).setCell (by simp) _
def OwnL (w : World) (g t L C : Nat) (u : Nat → Int) : Prop := ∃ cur : List Value, w.heap[g]? = some (.cells cur.toArray t (0, 0)) ∧ cur.length = C ∧ L ≤ C ∧ ∀ j, j < L → cur[j]? = some (.int .u16 (u j))
theorem OwnL.lt {w : World} {g t L C : Nat} {u : Nat → Int} (h : OwnL w g t L C u) : g < w.heap.size := by
  obtain ⟨cur, h1, _⟩ := h
  exact (Array.getElem?_eq_some_iff.1 h1).1
theorem OwnL.cell {w : World} {g t L C : Nat} {u : Nat → Int} (h : OwnL w g t L C u) {j : Nat} (hj : j < L) : w.cell? ⟨g, j, none⟩ = some (.int .u16 (u j)) := by
  obtain ⟨cur, h1, h2, h3, h4⟩ := h
  simp [World.cell?, h1, h4 j hj]
theorem OwnL.of_block {w w' : World} {g t L C : Nat} {u : Nat → Int} (h : OwnL w g t L C u) (e : w'.heap[g]? = w.heap[g]?) : OwnL w' g t L C u := by
  obtain ⟨cur, h1, h2⟩ := h
  exact ⟨cur, e.trans h1, h2⟩
theorem OwnL.below {w w' : World} {g t L C : Nat} {u : Nat → Int} (h : OwnL w g t L C u) (hb : Below w.heap.size w w') : OwnL w' g t L C u := h.of_block (hb.block _ h.lt)
theorem OwnL.dig {w : World} {g t L C : Nat} {u : Nat → Int} (h : OwnL w g t L C u) (hu : Dgs u) (off : Nat) (ho : off ≤ L) (hL : L ≤ 70368744177664) : Dig w (some ⟨g, off, none⟩) (L - off) (C - off) (fun i => u (off + i)) :=
  ⟨fun _ => ⟨g, off, rfl, h.lt, fun j hj => h.cell (by omega)⟩, fun j => hu _, by obtain ⟨_, _, _, h3, _⟩ := h; omega, by omega⟩
theorem ownL_of {w : World} {base t g L C : Nat} {u : Nat → Int} (h : Own w base t (some ⟨g, 0, none⟩) L C u) : OwnL w g t L C u ∧ base ≤ g := by
  have h' : w.ownsRow base t 1 (.slice (some ⟨g, 0, none⟩) L C) L (dcells u L) := h
  rcases h'.2 with ⟨hv, h0⟩ | ⟨g', c2, cur, hv, hb, h1, h2, h3, h4, h5⟩
  · cases hv
  · simp only [Value.slice.injEq, Option.some.injEq, Addr.mk.injEq] at hv
    obtain ⟨⟨rfl, _, _⟩, _, rfl⟩ := hv
    refine ⟨⟨cur.toList, by simpa using h1, by simp; omega, h2, fun j hj => ?_⟩, hb⟩
    have h6 := dcells_at u L j hj
    rw [← h5, List.getElem?_take, if_pos (by omega)] at h6
    exact h6
theorem OwnL.splice {w w' : World} {g t L C : Nat} {u f : Nat → Int} (h : OwnL w g t L C u) (j : Nat) (hj : j ≤ L)
    (cur : List Value) (hc : w.heap[g]? = some (.cells cur.toArray t (0, 0))) (h' : w'.heap[g]? = some (.cells (Go.splice cur j (dcells f (L - j))).toArray t (0, 0))) : OwnL w' g t L C (over1 u f j) := by
  obtain ⟨cur2, h1, h2, h3, h4⟩ := h
  have e : cur2 = cur := by
    rw [hc] at h1
    have := Option.some.inj h1
    simp only [Obj.cells.injEq] at this
    have h5 := congrArg Array.toList this.1
    simpa using h5.symm
  subst e
  refine ⟨_, h', ?_, h3, fun i hi => ?_⟩
  · rw [length_splice _ _ _ (by rw [dcells_len]; omega)]; exact h2
  · unfold Go.splice over1
    by_cases hij : i < j
    · rw [if_pos hij, List.getElem?_append_left (by rw [List.length_take]; omega), List.getElem?_take, if_pos hij]; exact h4 i hi
    · rw [if_neg hij, List.getElem?_append_right (by rw [List.length_take]; omega), List.length_take, Nat.min_eq_left (by omega), List.getElem?_append_left (by rw [dcells_len]; omega), dcells_at _ _ _ (by omega)]
theorem dcells_two (d : Nat → Int) (n : Nat) : dcells (upd (upd d n 0) (n + 1) 0) (n + 2) = dcells d n ++ [.int .u16 0, .int .u16 0] := by
  rw [show n + 2 = n + 1 + 1 from rfl, dcells_upd, dcells_upd, List.append_assoc]; rfl
theorem wpList_append_two {Pr : Program} (w : World) {ops : Array Oper} {rest : List Oper} {o : Oper} {act : Act} {Q : Exit → Act → World → Prop} (hgd : o.guard = none) (s x : Operand) (t : TypeId)
    (ho : o.op = .call { callee := .builtin .append, args := #[s, x], argTypes := #[t, t] })
    (base : Nat) (e : TypeId) (ht : Pr.underlying t = some (.slice e)) (hinfo : (Pr.info? e).map (fun i => (i.zero, i.size, i.bytes)) = some (some (.int .u16 0), 1, 2))
    (a : Option Addr) (n cap : Nat) (d : Nat → Int) (hs : act.eval s = .slice a n cap) (hown : Own w base e a n cap d) (g c : Nat) (hx : act.eval x = .slice (some ⟨g, 0, none⟩) 2 c)
    (hv : w.cell? ⟨g, 0, none⟩ = some (.int .u16 0)) (hv1 : w.cell? ⟨g, 1, none⟩ = some (.int .u16 0)) (hn : n ≤ 1000000000) (hbase : base ≤ w.heap.size)
    (h : ∀ g' cap' w', Own w' base e (some ⟨g', 0, none⟩) (n + 2) cap' (upd (upd d n 0) (n + 1) 0) → Below base w w' → wpList Pr ops Q rest (act.put o.dst (.slice (some ⟨g', 0, none⟩) (n + 2) cap')) w') : wpList Pr ops Q (o :: rest) act w := by
  obtain ⟨i, hi, hz0, hz1, hz2⟩ := info_parts hinfo
  have hlt : ∀ k, (Value.slice a n cap).ownBlock = some k → base ≤ k := fun k hk => (World.ownsRow.lt hown k hk).1
  refine wpList_append_lies w hgd s x t ho base e i (.int .u16 0) 1 2 ht hi hz0 hz1 hz2 rfl (by decide) (.slice a n cap) n (dcells d n) hs hown ⟨g, 0, none⟩ 2 c [.int .u16 0, .int .u16 0] hx rfl ?_ ?_ (by decide) ?_ ?_ hbase _ rfl ?_
  · intro j u hj
    match j, hj with
    | 0, hj => simp at hj; subst hj; rw [add_off]; exact hv
    | 1, hj => simp at hj; subst hj; rw [add_off]; exact hv1
  · intro u hu; simp at hu; subst hu; rfl
  · unfold maxLen; omega
  · omega
  · intro g' cap' w' hown' hgrow _ _
    rw [← dcells_two] at hown'
    exact h _ _ _ hown' ((Below.refl base w).grown hgrow hbase hlt)
theorem or64' (a b c : Int) (ha : 0 ≤ a) (ha1 : a < 65536) (hb : b = 65536 * c) (hc0 : 0 ≤ c) (hc1 : c < 281474976710656) : bits .or .u64 a b = a + b := by
  obtain ⟨A, rfl⟩ := Int.eq_ofNat_of_zero_le ha
  obtain ⟨C, rfl⟩ := Int.eq_ofNat_of_zero_le hc0
  have h3 := or_nat A (65536 * C) C 16 (by omega) (by omega)
  have hb' : b = ((65536 * C : Nat) : Int) := by omega
  rw [hb', u64_or_nat A (65536 * C) (by omega) (by omega), h3]
  omega
end Go.Proofs.Ytgmnknmjainabab
namespace Go.Proofs.Ytgmnknmjainabab
open Go.RowKit
attribute [local go_sem ↓] Go.wp_at_zero Go.wp_at_succ
def LongI (A D : Int) (L N J : Nat) (u o : Nat → Int) : Prop := Dgs u ∧ Dgs o ∧ A = V u L + D * (P J * Tp o J N) ∧ Tp u J L < D
theorem long_start {A : Int} {u0 v : Nat → Int} {n1 n2 N : Nat} (hu : Dgs u0) (hv : Dgs v) (hn1 : 0 < n1) (hvt : n1 = 0 ∨ v (n1 - 1) ≠ 0) (hA : V u0 n2 = A) (hN : N + n1 = n2 + 2) :
    LongI A (V v n1) (n2 + 2) N N (upd (upd u0 n2 0) (n2 + 1) 0) (fun _ => 0) := by
  have hz : Dgs (upd (upd u0 n2 0) (n2 + 1) 0) := upd_dgs (upd_dgs hu _ (by omega) (by omega)) _ (by omega) (by omega)
  refine ⟨hz, fun _ => ⟨by simp, by simp⟩, ?_, ?_⟩
  · rw [Tp_top, Int.mul_zero, Int.mul_zero, Int.add_zero, ← hA]
    show _ = V _ n2 + _ * P n2 + _ * P (n2 + 1)
    have e1 : V (upd (upd u0 n2 0) (n2 + 1) 0) n2 = V u0 n2 := V_congr _ (fun j hj => by simp only [upd]; rw [if_neg (by omega), if_neg (by omega)])
    have e2 : upd (upd u0 n2 0) (n2 + 1) 0 n2 = 0 := by simp [upd]
    have e3 : upd (upd u0 n2 0) (n2 + 1) 0 (n2 + 1) = 0 := by simp [upd]
    rw [e1, e2, e3]; omega
  · obtain ⟨k, rfl⟩ : ∃ k, n1 = k + 1 := ⟨n1 - 1, by omega⟩
    unfold Tp
    rw [show n2 + 2 - N = k + 1 by omega]
    have h1 := V_lt (fun t => hz (N + t)) k
    have h2 := V_ge hv k (by simpa using hvt)
    have e3 : upd (upd u0 n2 0) (n2 + 1) 0 (N + k) = 0 := by rw [show N + k = n2 + 1 by omega]; simp [upd]
    show V _ k + upd (upd u0 n2 0) (n2 + 1) 0 (N + k) * P k < _
    rw [e3]; omega
theorem step_copy_dig {Pr : Program} {ops : Array Oper} {o : Oper} {a : Act} {w : World} {K : Act → World → Prop} {Q : Exit → Act → World → Prop} {E : Prop} (hgd : o.guard = none) (x y : Operand) (t : TypeId)
    (ho : o.op = .call { callee := .builtin .copy, args := #[x, y], argTypes := #[t, t] }) (e : TypeId) (hut : Pr.underlying t = some (.slice e)) (hsz : (Pr.info? e).map (·.size) = some 1)
    (g j L C cd cs : Nat) (sp : Option Addr) (u f : Nat → Int) (hd : a.eval x = .slice (some ⟨g, j, none⟩) (L - j) cd) (hs : a.eval y = .slice sp (L - j) cs) (hown : OwnL w g e L C u) (hf : Dig w sp (L - j) cs f) (hj : j < L)
    (B : Nat) (w0 : World) (hb : Below B w0 w) (hBg : B ≤ g)
    (hK : ∀ w', OwnL w' g e L C (over1 u f j) → Below B w0 w' → (∀ k, k ≠ g → w'.heap[k]? = w.heap[k]?) → w'.heap.size = w.heap.size → K (a.put o.dst (goInt (dcells f (L - j)).length)) w') :
    if Region.wanted o (yielded ops a.tmps) = true then Oper.wp Pr o a w K Q else E := by
  have hw : Region.wanted o (yielded ops a.tmps) = true := by simp [Region.wanted, hgd]
  rw [if_pos hw]
  have hown' := hown
  obtain ⟨cur, h1, h2, h3, h4⟩ := hown
  obtain ⟨b, off, rfl, hblt, hcells⟩ := hf.at_ (by omega)
  have hrun := run_copy_row (P := Pr) w t t o.type e g j (L - j) cd ⟨b, off, none⟩ (L - j) cs cur.toArray e (dcells f (L - j)) hut hsz h1 (by rw [dcells_len]; simp)
    (fun i v hv => by
      obtain ⟨q1, q2⟩ := dcells_some hv
      rw [add_off, q2]; exact hcells i q1) (by rw [dcells_len]; simp; omega) (dcells_one _ _)
  unfold Oper.wp
  simp [execOp, ho, resolve, invoke, builtin, hd, hs, hrun, Result.andThen]
  refine hK _ (hown'.splice j (by omega) cur h1 ?_) (below_setRow hb hBg _) (fun k hk => setRow_other w g k _ (by first | exact hk | exact fun e => hk e.symm)) ?_
  · simpa [Go.splice] using setRow_heap w g _ _ e _ h1
  · simp [World.setRow]
theorem Try.sizeU16 : (Try.prog.info? 85).map (·.size) = some 1 := by kernel_rfl
theorem long_next {A D : Int} {L N j : Nat} {u o f : Nat → Int} {q : Int} (hjL : j < L) (hjN : j < N) (hD : 0 < D) (hA : A = V u L + D * (P (j + 1) * Tp o (j + 1) N)) (du : Dgs u) (do_ : Dgs o) (df : Dgs f) (hq : q = Tp u j L / D) (hq0 : 0 ≤ q) (hq1 : q < 65536)
    (hf : V f (L - j) = Tp u j L - D * q) : LongI A D L N j (over1 u f j) (upd o j q) := by
  refine ⟨over1_dgs du df j, upd_dgs do_ j hq0 hq1, div_step hjL hjN hA (by rw [hf, Int.mul_comm D q]), ?_⟩
  rw [over1_Tp, hf, hq]
  have h1 := Int.mul_ediv_add_emod (Tp u j L) D
  have h2 := Int.emod_lt_of_pos (Tp u j L) hD
  omega
theorem trim_cmp {d e : Nat → Int} (hd : Dgs d) (he : Dgs e) (n m : Nat) : cmpZ d e (trimN d n) (trimN e m) = cmpInt (V d n) (V e m) := by
  rw [cmpZ_V hd he _ _ (trimN_top d n) (trimN_top e m), trimN_V, trimN_V]
theorem field1 (x : Bool) (a : Option Addr) (n c : Nat) (w : World) : (Instr.field 26 (.agg #[.bool x, .slice a n c]) 1).run Try.prog w = .ok (.slice a n c) w := by kernel_rfl
set_option maxRecDepth 100000 in
set_option maxHeartbeats 4000000 in
theorem over_long (a c : Option Addr) (n m cap cap2 : Nat) (d e : Nat → Int) (w : World) (ha : Dig w a n cap d) (hc : Dig w c m cap2 e) (hn : n ≤ 900000000) (h1 : n = 0 ∨ d (n - 1) ≠ 0) (h2 : m = 0 ∨ e (m - 1) ≠ 0) (hm : 3 < m) (hge : V e m ≤ V d n) :
    Calls Try.prog 148 #[.slice a n cap, .slice c m cap2] w (OverAns w d e n m) := by
  have hcv := cmpZ_V ha.dgs hc.dgs n m h1 h2
  have hneg : ¬ cmpZ d e n m < 0 := by rw [hcv]; unfold cmpInt; rw [if_neg (by omega)]; split <;> omega
  have hm3 : ¬ (m : Int) ≤ 3 := by omega
  have hmr := hc.room
  have hml := hc.le
  have hmn : m ≤ n := len_le hc.dgs h2 (Int.lt_of_le_of_lt hge (V_lt ha.dgs n))
  have htop : 0 < e (m - 1) := by have := hc.dgs (m - 1); omega
  have htop2 := (hc.dgs (m - 1)).2
  obtain ⟨b2, o2, rfl, hb2, hc2⟩ := hc.at_ (by omega)
  have hct := hc2 (m - 1) (by omega)
  have hi : ((m : Int) - 1) = ((m - 1 : Nat) : Int) := by omega
  have hfd := field1
  clear hcv hc2
  go_enter Try.func148, Try.ntmps148
  go_wp2_with (go_at_call 59; refine (compare_any _ _ _ _ _ _ d e _ ha hc).mono ?_; rintro r w0 ⟨rfl, hb0⟩)
  have g1 : w0.cell? ⟨b2, o2 + (m - 1), none⟩ = some (.int .u16 (e (m - 1))) := (hb0.cell (p := ⟨b2, o2 + (m - 1), none⟩) hb2).trans hct
  go_loop [6] (fun k => ∃ s : Nat, k = .int .i64 s ∧ s ≤ 15 ∧ e (m - 1) * Q s < 65536) (fun k => 16 - (intOf k).toNat)
  case atStart => exact ⟨0, rfl, by omega, by simp [Q]; omega⟩
  case round =>
    obtain ⟨s, rfl, hs, hes⟩ := hrel
    have hq := Q_pos s
    have hmod : IntKind.u16.wrap (e (m - 1) * 2 ^ s) = e (m - 1) * Q s := by
      rw [wrap16, Q_pow]
      have : 0 ≤ e (m - 1) * Q s := Int.mul_nonneg (by omega) (by omega)
      omega
    by_cases hlt : e (m - 1) * Q s < 32768
    · have ht : IntKind.u16.wrap (e (m - 1) * 2 ^ s) < 32768 := by rw [hmod]; exact hlt
      have hs15 : s < 15 := by
        rcases Nat.lt_or_ge s 15 with h | h
        · exact h
        · have h5 := Q_mono h
          have e15 : Q 15 = 32768 := rfl
          have h6 := Int.mul_le_mul_of_nonneg_right (show 1 ≤ e (m - 1) by omega) (show 0 ≤ Q s by omega)
          omega
      have HN := hide (show e (m - 1) * Q (s + 1) < 65536 by simp only [Q]; rw [Int.mul_left_comm]; omega)
      clear hmod hlt hes
      go_wp2
      go_round
      case rel => exact ⟨s + 1, by go_num, by omega, unhide HN⟩
      case measure => simp [intOf]; omega
    · have ht : ¬ IntKind.u16.wrap (e (m - 1) * 2 ^ s) < 32768 := by rw [hmod]; exact hlt
      clear hmod hlt
      have he0 : 0 < V e m := by
        have h5 := V_ge hc.dgs (m - 1) (by omega)
        rw [show m - 1 + 1 = m by omega] at h5
        have := P_pos (m - 1); omega
      go_wp2_with fail
      refine (up_any false _ m cap2 s e _ (hc.below hb0) (by omega) (by omega)).mono ?_
      rintro r w1 ⟨neg1, a1, n1, c1, rfl, hint1, hb1⟩
      obtain ⟨v, rfl, hn1, hv, hvtop, hn1k, hvV⟩ := int_pos hint1 (by simp only [sgn]; exact Int.mul_pos he0 (by omega))
      obtain ⟨k1, rfl⟩ : ∃ k1, n1 = k1 + 1 := ⟨n1 - 1, by omega⟩
      have HV := hide (show V v (k1 + 1) = V e m * Q s from hvV.symm)
      have hB1 := bthen hb0 hb1
      clear hint1 hvV g1 ht
      go_wp2_with fail
      refine (up_own false _ n cap s d _ (ha.below hB1) (by omega) (by omega)).mono ?_
      rintro r w2 ⟨g0, n2, C2, u0, neg2, rfl, hown, hu0, hu0top, hu0V, hn2k, hb2'⟩
      have hn12 : k1 + 1 ≤ n2 := by
        refine len_le hv.dgs hvtop ?_
        rw [unhide HV]
        have h5 : V e m * Q s ≤ V d n * Q s := Int.mul_le_mul_of_nonneg_right hge (by omega)
        have h6 := V_lt hu0 n2
        rw [hu0V] at h6
        omega
      have hn2b : n2 ≤ 900000100 := by omega
      have HU0 := hide hu0V
      obtain ⟨N, hN⟩ : ∃ N : Nat, (n2 : Int) + 2 - ((k1 : Int) + 1) = (N : Int) := ⟨n2 + 2 - (k1 + 1), by omega⟩
      have HNn := hide (show N + (k1 + 1) = n2 + 2 by omega)
      have hN1 : 0 < N := by omega
      have hsz2 := hb2'.size
      clear hu0V hes
      have hmk := run_make_row' (P := Try.prog) 24 85 (.int .u16 0) 2 Try.underlying24 Try.infoU16 rfl .i64 .i64 N (by omega) (by omega)
      go_wp2_with (at_builtin; refine wpList_append_two _ rfl _ _ 24 rfl w1.heap.size 85 Try.underlying24 Try.infoU16 (some ⟨g0, 0, none⟩) n2 C2 u0 rfl (hown.alloc _) w2.heap.size 2 rfl (by simp [go_sem]) (by simp [go_sem]) (by omega) (by simp; omega) ?_; intro g C w3 hown3 hb3)
      clear hmk hown
      have HN := hide hN
      clear hN
      obtain ⟨hOL, hbg⟩ := ownL_of hown3
      have hB3 : Below w1.heap.size w1 w3 := (hb2'.alloc hsz2 _).trans hb3
      have hg3 := hOL.lt
      have hsz3 := hB3.size
      obtain ⟨bv, ov, rfl, hbv, hcv⟩ := hv.at_ hn1
      have hvt := hcv k1 (by omega)
      have HI := hide (long_start hu0 hv.dgs hn1 hvtop (unhide HU0) (unhide HNn))
      clear hcv hown3 hb3 hb2'
      go_loopw [11] (fun jj wr => ∃ (J : Nat) (u o : Nat → Int), J ≤ N ∧ jj = .int .i64 ((J : Int) - 1) ∧ OwnL wr g 85 (n2 + 2) C u ∧ wr.rowIs w3.heap.size 85 N (fun j => .int .u16 (o j)) ∧ LongI (V d n * Q s) (V v (k1 + 1)) (n2 + 2) N J u o ∧ Below w1.heap.size w1 wr) (fun jj _ => (intOf jj + 1).toNat)
      case atStart => exact ⟨N, _, fun _ => 0, Nat.le_refl _, rfl, hOL.below (bl1 _ _), World.rowIs_made w3 (.int .u16 0) N 85, unhide HI, hB3.alloc hsz3 _⟩
      case round =>
        obtain ⟨J, u, o, hJ, rfl, hu, hrow, hI, hBr⟩ := hrel
        have hNn := unhide HNn
        by_cases hJ0 : J = 0
        · subst hJ0
          obtain ⟨du, do_, hA, hT⟩ := hI
          have huD := hu.dig du 0 (by omega) (by omega)
          simp only [Nat.sub_zero, Nat.zero_add] at huD
          have huD2 : Dig wr (some ⟨g, 0, none⟩) (n2 + 2) C u := huD
          have hrowD := rowDig hrow do_ (by omega)
          have HA := hide hA
          have HT := hide hT
          clear hA hT hrow hu
          go_wp2_with (first
            | (go_at_call 91; refine (of_int _ _ _ _ u _ huD2).mono ?_; rintro r w5 ⟨neg5, a5, n5, c5, rfl, hint5, hb5⟩)
            | (go_at_call 94; refine (down_int _ _ _ _ s (n2 + 2) _ _ hint5 (by omega) (by omega)).mono ?_; rintro r w6 ⟨neg6, a6, n6, c6, rfl, hint6, hb6⟩))
          go_ret2
          obtain ⟨z6, p1, p2, p3, p4, p5⟩ := hint6
          simp only [sgn] at p5
          have hQ := Q_pos s
          have f0 := unhide HA
          have f1 := unhide HT
          have f2 := unhide HV
          rw [Tp_zero] at f1
          rw [Tp_zero, show P 0 = 1 from rfl, Int.one_mul, f2] at f0
          rw [f2] at f1
          have f3 : V u (n2 + 2) = Q s * (V d n - V o N * V e m) := by
            rw [Int.mul_sub, Int.mul_comm (Q s) (V d n), f0]
            have : V e m * Q s * V o N = Q s * (V o N * V e m) := by rw [Int.mul_comm (V e m), Int.mul_assoc, Int.mul_comm (V e m)]
            omega
          have hu9 := V_nonneg du (n2 + 2)
          obtain ⟨R, hR⟩ : ∃ R, R = V d n - V o N * V e m := ⟨_, rfl⟩
          rw [← hR] at f3
          have f4 : V u (n2 + 2) / Q s = R := by rw [f3, Int.mul_ediv_cancel_left _ (by omega)]
          have hR0 : 0 ≤ R := by
            rcases Int.lt_or_le R 0 with h5 | h5
            · have h6 := Int.mul_le_mul_of_nonneg_left (show R ≤ -1 by omega) (show 0 ≤ Q s by omega)
              omega
            · exact h5
          have hR1 : R < V e m := by
            rcases Int.lt_or_le R (V e m) with h5 | h5
            · exact h5
            · have h6 := Int.mul_le_mul_of_nonneg_left h5 (show 0 ≤ Q s by omega)
              rw [Int.mul_comm (Q s) (V e m)] at h6
              omega
          have hz0 := V_nonneg p1.dgs n6
          have hpos : 0 < n6 → 1 ≤ V z6 n6 := fun h5 => by
            have h6 := V_ge p1.dgs (n6 - 1) (by omega)
            rw [show n6 - 1 + 1 = n6 by omega] at h6
            have := P_pos (n6 - 1); omega
          have hz : V z6 n6 = R ∧ (0 < n6 ↔ R ≠ 0) := by
            have hn0 : n6 = 0 → V z6 n6 = 0 := fun h5 => by rw [h5]; rfl
            rw [show (if false = true then -V u (n2 + 2) else V u (n2 + 2)) = V u (n2 + 2) from rfl, f4] at p5
            cases neg6
            · have h5 : R = V z6 n6 := p5
              refine ⟨h5.symm, fun h6 => by have := hpos h6; omega, fun h6 => ?_⟩
              rcases Nat.eq_zero_or_pos n6 with h7 | h7
              · have := hn0 h7; omega
              · exact h7
            · have h5 : R = -V z6 n6 := p5
              rcases Nat.eq_zero_or_pos n6 with h7 | h7
              · have := p3 h7; cases this
              · have := hpos h7; omega
          have hn6 : n6 ≤ n := len_le p1.dgs p2 (by rw [hz.1]; have := V_lt ha.dgs n; omega)
          have hs16 : s / 16 = 0 := by omega
          exact ⟨_, N, N, o, a6, n6, c6, R, rfl, hrowD.below (bthen hb5 hb6), by omega, hz.2, by omega, by rw [hR]; omega, hR0, hR1, bthen (bthen (hB1.trans (hBr.mono hB1.size)) hb5) hb6⟩
        · obtain ⟨j, rfl⟩ : ∃ j, J = j + 1 := ⟨J - 1, by omega⟩
          have e0 : ((j + 1 : Nat) : Int) - 1 = (j : Int) := by omega
          rw [e0]
          obtain ⟨du, do_, hA, hT⟩ := hI
          have y1 := hu.cell (show j + k1 < n2 + 2 by omega)
          have y2 := hu.cell (show j + (k1 + 1) < n2 + 2 by omega)
          have y3 : wr.cell? ⟨bv, ov + k1, none⟩ = some (.int .u16 (v k1)) := (hBr.cell (p := ⟨bv, ov + k1, none⟩) hbv).trans hvt
          have i4 : (j : Int) + ((k1 : Int) + 1) < (n2 : Int) + 2 := by omega
          have i5 : (j : Int) + (k1 : Int) < (n2 : Int) + 2 := by omega
          have b1 := du (j + k1)
          have b2 := du (j + (k1 + 1))
          have b3 := hv.dgs k1
          have b4 : 0 < v k1 := by have h9 : v k1 ≠ 0 := by simpa using hvtop
                                   omega
          clear e0
          have hL9 : n2 + 2 ≤ 1000000000 := by omega
          have hCge : n2 + 2 ≤ C := by obtain ⟨_, _, _, h3, _⟩ := hu; exact h3
          have hD : 0 < V v (k1 + 1) := by have := Tp_nonneg du (j + 1) (n2 + 2); omega
          obtain ⟨qs, hqs⟩ : ∃ qs, qs = Tp u j (n2 + 2) / V v (k1 + 1) := ⟨_, rfl⟩
          have hqs0 : 0 ≤ qs := by rw [hqs]; exact Int.ediv_nonneg (Tp_nonneg du _ _) (by omega)
          have hqm : qs * V v (k1 + 1) ≤ Tp u j (n2 + 2) := by rw [hqs]; exact Int.ediv_mul_le _ (by omega)
          obtain ⟨hh1, hh2⟩ := div_hat du hv.dgs (show 0 < k1 + 1 by omega) (show j + (k1 + 1) < n2 + 2 by omega) hT qs hqm hqs0
          rw [show j + (k1 + 1) - 1 = j + k1 by omega, show k1 + 1 - 1 = k1 by omega] at hh1
          have hor : bits BinOp.or IntKind.u64 (u (j + k1)) (u (j + (k1 + 1)) * 65536) = u (j + (k1 + 1)) * 65536 + u (j + k1) := by
            rw [or64' _ _ (u (j + (k1 + 1))) b1.1 b1.2 (by omega) b2.1 (by omega)]; omega
          have HX := hide (show IntKind.u64.wrap ((bits BinOp.or IntKind.u64 (u (j + k1)) (u (j + (k1 + 1)) * 65536)).tdiv (v k1)) = (u (j + (k1 + 1)) * 65536 + u (j + k1)) / v k1 by
            rw [hor, Int.tdiv_eq_ediv_of_nonneg (by omega), IntKind.wrap_u64]
            have g5 : 0 ≤ (u (j + (k1 + 1)) * 65536 + u (j + k1)) / v k1 := Int.ediv_nonneg (by omega) (by omega)
            have g6 : (u (j + (k1 + 1)) * 65536 + u (j + k1)) / v k1 ≤ u (j + (k1 + 1)) * 65536 + u (j + k1) := Int.ediv_le_self _ (by omega)
            omega)
          have HX2 := hide (show qs ≤ (u (j + (k1 + 1)) * 65536 + u (j + k1)) / v k1 from Int.le_ediv_of_mul_le b4 hh1)
          have HQ := hide hqs
          have HA := hide hA
          have HT := hide hT
          have HM := hide hqm
          clear hor hA hT hqs hqm hh1
          go_wp2_with fail
          all_goals
            go_loopw [13, 14] (fun q x wq => ∃ Y : Int, q = .int .u64 Y ∧ qs ≤ Y ∧ Y ≤ 65535 ∧ OwnL wq g 85 (n2 + 2) C u ∧ wq.rowIs w3.heap.size 85 N (fun j => .int .u16 (o j)) ∧ Below w1.heap.size w1 wq) (fun q _ _ => (intOf q).toNat)
            case atStart =>
              first
                | exact ⟨65535, rfl, by omega, Int.le_refl _, hu, hrow, hBr⟩
                | exact ⟨_, rfl, by rw [unhide HX]; exact unhide HX2, by assumption, hu, hrow, hBr⟩
            case round =>
              obtain ⟨Y, rfl, hY0, hY1, huq, hrowq, hBq⟩ := hrel
              have hYn : 0 ≤ Y := by omega
              have j1 : (j : Int) ≤ (n2 : Int) + 2 := by omega
              have j2 : (n2 : Int) + 2 ≤ (C : Int) := by omega
              have j3 : j < C := by omega
              have hvq := hv.below hBq
              have huD := huq.dig du j (by omega) (by omega)
              have dT := timesD_dgs hv.dgs (q := Y) ⟨hYn, by omega⟩ (k1 + 1)
              have dU : Dgs (fun i => u (j + i)) := fun i => du _
              have vT := times_V v Y (k1 + 1)
              have hcmp := trim_cmp dT dU (k1 + 1 + 1) (n2 + 2 - j)
              have eU : V (fun i => u (j + i)) (n2 + 2 - j) = Tp u j (n2 + 2) := rfl
              rw [vT, eU] at hcmp
              by_cases hle : V v (k1 + 1) * Y ≤ Tp u j (n2 + 2)
              · have t1 : cmpInt (V v (k1 + 1) * Y) (Tp u j (n2 + 2)) ≤ 0 := by unfold cmpInt; split <;> (try split) <;> omega
                have hYq : Y = qs := by
                  have h5 : Y ≤ Tp u j (n2 + 2) / V v (k1 + 1) := Int.le_ediv_of_mul_le hD (by rw [Int.mul_comm]; exact hle)
                  rw [← unhide HQ] at h5; omega
                have hm9 : trimN (timesD v Y (k1 + 1)) (k1 + 1 + 1) ≤ n2 + 2 - j := by
                  refine len_le dT (trimN_top _ _) ?_
                  rw [trimN_V, vT]
                  have := Tp_lt du j (n2 + 2); omega
                have HF := hide (show V (lessD (fun i => u (j + i)) (timesD v Y (k1 + 1)) (trimN (timesD v Y (k1 + 1)) (k1 + 1 + 1))) (n2 + 2 - j) = Tp u j (n2 + 2) - V v (k1 + 1) * Y by
                  rw [less_V dU dT _ _ hm9 (by rw [trimN_V, vT, eU]; exact hle), trimN_V, vT, eU])
                have dF := lessD_dgs dU dT (trimN (timesD v Y (k1 + 1)) (k1 + 1 + 1))
                have HCM := hide hcmp
                have HYQ := hide hYq
                clear hcmp vT eU hYq
                go_wp2_with fail
                refine (times_any (some ⟨bv, ov, none⟩) (k1 + 1) c1 v Y _ hvq (by omega) hYn (by omega)).mono ?_
                rintro r wt ⟨at_, rfl, hdt, hbt⟩
                have hBt := hBq.trans (hbt.mono hBq.size)
                have huDt := huD.below hbt
                have hB0 : Below wt.heap.size wt wt.drew := (Below.refl _ _).drew
                have tl := trimN_le (timesD v Y (k1 + 1)) (k1 + 1 + 1)
                have tl2 := trimN_le (fun i => u (j + i)) (n2 + 2 - j)
                go_wp2_with fail
                go_region_held3 (fun _ => True) (trivial)
                  (first
                    | (go_at_call 59; refine (compare_any _ _ _ _ _ _ (timesD v Y (k1 + 1)) (fun i => u (j + i)) _ ((hdt.take tl).below hD2) ((huDt.take tl2).below hD2)).mono ?_; rintro r wc3 ⟨rfl, hb3⟩; have hD3 := bthen hD2 hb3; rw [unhide HCM])
                    | (go_at_call 143; have hq := hD1; refine (trimmed_any _ _ _ (fun i => u (j + i)) _ (huDt.below hD1)).mono ?_; rintro r wc2 ⟨rfl, hb2⟩; have hD2 := bthen hD1 hb2)
                    | (go_at_call 143; refine (trimmed_any _ _ _ (timesD v Y (k1 + 1)) _ (hdt.below hB0)).mono ?_; rintro r wc1 ⟨rfl, hb1⟩; have hD1 := bthen hB0 hb1))
                have hBc := hBt.trans (hD3.mono hBt.size)
                have huc := (huq.below hbt).below hD3
                have hrowc : wc3.rowIs w3.heap.size 85 N (fun j => .int .u16 (o j)) := (hrowq.of_block (hbt.block _ hrowq.lt)).of_block (hD3.block _ (Nat.lt_of_lt_of_le hrowq.lt hbt.size))
                have hdtc := hdt.below hD3
                have huDc := huDt.below hD3
                have hE0 : Below wc3.heap.size wc3 wc3.drew := (Below.refl _ _).drew
                clear hb1 hb2 hb3 hD1 hD2 hD3 hB0
                go_wp2
                go_region_held3 (fun _ => True) (trivial)
                  (first
                    | (go_at_call 143; refine (trimmed_any _ _ _ (timesD v Y (k1 + 1)) _ (hdtc.below hE0)).mono ?_; rintro r wc4 ⟨rfl, hb4⟩; have hE4 := bthen hE0 hb4)
                    | (go_at_call 139; refine (less_dig _ _ (n2 + 2 - j) _ _ _ (fun i => u (j + i)) (timesD v Y (k1 + 1)) _ (huDc.below hE4) ((hdtc.take tl).below hE4) (by omega) (by omega)).mono ?_; rintro r wc5 ⟨a5, rfl, hd5, hb5⟩; have hE5 := bthen hE4 hb5; have hu5 := huc.below hE5; have hB5 := hBc.trans (hE5.mono hBc.size))
                    | (refine step_copy_dig (by rfl) _ _ 24 (by rfl) 85 Try.underlying24 Try.sizeU16 g j (n2 + 2) C _ _ _ u _ (by rfl) (by rfl) hu5 hd5 (by omega) w1.heap.size w1 hB5 hbg ?_; intro w6 hu6 hB6 ho6 hs6))
                have hrow6 : w6.rowIs w3.heap.size 85 N (fun j => .int .u16 (o j)) := (hrowc.of_block (hE5.block _ hrowc.lt)).of_block (ho6 _ (Nat.ne_of_gt hg3))
                have r1 := hrow6.cell (show j < N by omega)
                have r2 := hrow6.frozen j
                have jN : (j : Int) < (N : Int) := by omega
                have hW16 : IntKind.u16.wrap Y = Y := by rw [wrap16]; omega
                have HLN := hide (long_next (show j < n2 + 2 by omega) (show j < N by omega) hD (unhide HA) du do_ dF ((unhide HYQ).trans (unhide HQ)) hYn (by omega) (unhide HF))
                have HR6 := hide hrow6
                clear hrow6 hrowc hu5 hd5 hb5 hE5 hE4 hb4 hE0 hrowq huq huc ho6
                go_wp2
                go_roundw
                case rel => exact ⟨j, _, _, by omega, by go_num, hu6.of_block (Go.Deep.blk_setCell_other _ _ _ _ (Nat.ne_of_lt hg3)), row_upd (unhide HR6) j (by first | rfl | exact hW16), unhide HLN, hB6.setCell hsz3 _⟩
                case measure => simp [intOf]; try omega
              · have t1 : ¬ cmpInt (V v (k1 + 1) * Y) (Tp u j (n2 + 2)) ≤ 0 := by
                  unfold cmpInt; rw [if_neg (by omega), if_pos (by omega)]; omega
                have hYq : qs < Y := by
                  rcases Int.lt_or_le qs Y with h5 | h5
                  · exact h5
                  · have h6 := Int.mul_le_mul_of_nonneg_right h5 (show 0 ≤ V v (k1 + 1) by omega)
                    have h7 := unhide HM
                    rw [Int.mul_comm Y] at h6; omega
                have HCM := hide hcmp
                clear hcmp vT eU
                go_wp2_with fail
                refine (times_any (some ⟨bv, ov, none⟩) (k1 + 1) c1 v Y _ hvq (by omega) hYn (by omega)).mono ?_
                rintro r wt ⟨at_, rfl, hdt, hbt⟩
                have hBt := hBq.trans (hbt.mono hBq.size)
                have huDt := huD.below hbt
                have hB0 : Below wt.heap.size wt wt.drew := (Below.refl _ _).drew
                have tl := trimN_le (timesD v Y (k1 + 1)) (k1 + 1 + 1)
                have tl2 := trimN_le (fun i => u (j + i)) (n2 + 2 - j)
                go_wp2_with fail
                go_region_held3 (fun _ => True) (trivial)
                  (first
                    | (go_at_call 59; refine (compare_any _ _ _ _ _ _ (timesD v Y (k1 + 1)) (fun i => u (j + i)) _ ((hdt.take tl).below hD2) ((huDt.take tl2).below hD2)).mono ?_; rintro r wc3 ⟨rfl, hb3⟩; have hD3 := bthen hD2 hb3; rw [unhide HCM])
                    | (go_at_call 143; have hq := hD1; refine (trimmed_any _ _ _ (fun i => u (j + i)) _ (huDt.below hD1)).mono ?_; rintro r wc2 ⟨rfl, hb2⟩; have hD2 := bthen hD1 hb2)
                    | (go_at_call 143; refine (trimmed_any _ _ _ (timesD v Y (k1 + 1)) _ (hdt.below hB0)).mono ?_; rintro r wc1 ⟨rfl, hb1⟩; have hD1 := bthen hB0 hb1))
                have hBc := hBt.trans (hD3.mono hBt.size)
                have huc := (huq.below hbt).below hD3
                have hrowc : wc3.rowIs w3.heap.size 85 N (fun j => .int .u16 (o j)) := (hrowq.of_block (hbt.block _ hrowq.lt)).of_block (hD3.block _ (Nat.lt_of_lt_of_le hrowq.lt hbt.size))
                clear hb1 hb2 hb3 hD1 hD2 hD3 hB0
                go_wp2
                go_roundw
                case rel => exact ⟨Y - 1, by go_num, by omega, by omega, huc, hrowc, hBc⟩
                case measure => simp [intOf]; try omega
end Go.Proofs.Ytgmnknmjainabab
namespace Go.Proofs.Ytgmnknmjainabab
open Go.RowKit
theorem over_any (a c : Option Addr) (n m cap cap2 : Nat) (d e : Nat → Int) (w : World) (ha : Dig w a n cap d) (hc : Dig w c m cap2 e) (hn : n ≤ 900000000) (h1 : n = 0 ∨ d (n - 1) ≠ 0) (h2 : m = 0 ∨ e (m - 1) ≠ 0) (hpos : 0 < V e m) :
    Calls Try.prog 148 #[.slice a n cap, .slice c m cap2] w (OverAns w d e n m) := by
  by_cases h : m ≤ 3 ∨ V d n < V e m
  · exact over_small a c n m cap cap2 d e w ha hc (by omega) h1 h2 hpos h
  · exact over_long a c n m cap cap2 d e w ha hc hn h1 h2 (by omega) (by omega)
theorem floor_any (neg neg2 : Bool) (a c : Option Addr) (n m cap cap2 k k2 : Nat) (x y : Int) (w : World) (h1 : IntAt w neg a n cap k x) (h2 : IntAt w neg2 c m cap2 k2 y) (hk : k ≤ 900000000) (hy : 0 < y) :
    Calls Try.prog 105 #[.agg #[.bool neg, .slice a n cap], .agg #[.bool neg2, .slice c m cap2]] w (FloorAns w k (x / y)) := by
  obtain ⟨e, rfl, f0, f1, f2, f3, rfl⟩ := int_pos h2 hy
  obtain ⟨d, g1, g2, g3, g4, rfl⟩ := h1
  exact (floor_core neg a c n m cap cap2 d e w g1 f1 (by omega) f0 (fun w' p q => over_any a c n m cap cap2 d e w' p q (by omega) g2 f2 hy)).mono
    fun _ _ ⟨n1, n2, n3, n4, q1, q2, q3⟩ => ⟨n1, n2, n3, n4, q1, q2.mono (by omega), q3⟩
end Go.Proofs.Ytgmnknmjainabab
namespace Go.Proofs.Ytgmnknmjainabab
open Go.RowKit
attribute [local go_sem ↓] Go.wp_at_zero Go.wp_at_succ
def RootOf (x z : Int) : Prop := 0 ≤ z ∧ (x ≤ 0 → z = 0) ∧ (0 < x → z * z ≤ x ∧ x < (z + 1) * (z + 1))
theorem IntAt.fit {w : World} {neg : Bool} {a : Option Addr} {n cap k K : Nat} {z : Int} (h : IntAt w neg a n cap k z) (h0 : 0 ≤ z) (hz : z < P K) : IntAt w neg a n cap K z := by
  obtain ⟨d, h1, h2, h3, h4, h5⟩ := h
  refine ⟨d, h1, h2, h3, ?_, h5⟩
  refine len_le h1.dgs h2 ?_
  have := V_nonneg h1.dgs n
  cases neg
  · simp [sgn] at h5; omega
  · simp [sgn] at h5; have := P_pos K; omega
theorem frozen_set' (w : World) (a b : Addr) (v : Value) : (w.setCell a v).frozen? b = w.frozen? b := by simp [go_sem]
theorem i64_id (n : Int) (h1 : -9223372036854775808 ≤ n) (h2 : n ≤ 9223372036854775807) : IntKind.i64.wrap n = n := by rw [IntKind.wrap_i64]; omega
theorem sign_int (neg : Bool) (a : Option Addr) (n cap k : Nat) (x : Int) (w : World) (h : IntAt w neg a n cap k x) :
    Calls Try.prog 57 #[.agg #[.bool neg, .slice a n cap]] w fun r w' => r = .returned (.int .i64 (cmpInt x 0)) ∧ Below w.heap.size w w' := by
  obtain ⟨d, h1, h2, h3, h4, h5⟩ := h
  have e : signZ neg n = cmpInt x 0 := by
    have hv := V_nonneg h1.dgs n
    unfold signZ cmpInt
    by_cases hn : n = 0
    · subst hn
      have : x = 0 := by rw [h5]; cases neg <;> simp [sgn, V]
      subst this; simp
    · have h6 := V_ge h1.dgs (n - 1) (by omega)
      rw [show n - 1 + 1 = n by omega] at h6
      have := P_pos (n - 1)
      rw [if_neg hn]
      cases neg
      · simp [sgn] at h5
        rw [if_neg (by simp), if_neg (by omega), if_pos (by omega)]
      · simp [sgn] at h5
        rw [if_pos rfl, if_pos (by omega)]
  exact (sign_any neg a n cap w h1.room).mono fun r w' ⟨p1, p2⟩ => ⟨by rw [p1, e], p2⟩
end Go.Proofs.Ytgmnknmjainabab
namespace Go.Proofs.Ytgmnknmjainabab
open Go.RowKit
attribute [local go_sem ↓] Go.wp_at_zero Go.wp_at_succ
theorem IntAt.fits {w : World} {neg : Bool} {a : Option Addr} {n cap k K : Nat} {z : Int} (h : IntAt w neg a n cap k z) (h0 : -P K < z) (hz : z < P K) : IntAt w neg a n cap K z := by
  obtain ⟨d, h1, h2, h3, h4, h5⟩ := h
  refine ⟨d, h1, h2, h3, ?_, h5⟩
  refine len_le h1.dgs h2 ?_
  have := V_nonneg h1.dgs n
  cases neg
  · simp [sgn] at h5; omega
  · simp [sgn] at h5; omega
theorem SpAt.fits {w : World} {s : Sp} {k K : Nat} {lo hi : Int} (h : SpAt w s k lo hi) (hle : lo ≤ hi) (h0 : -P K < lo) (hz : hi < P K) : SpAt w s K lo hi := ⟨h.lo.fits h0 (by omega), h.hi.fits (by omega) hz⟩
def LenIs (z l : Int) : Prop := 0 ≤ l ∧ (z = 0 → l = 0) ∧ (0 < z → ∃ L : Nat, l = (L : Int) + 1 ∧ Q L ≤ z ∧ z < Q (L + 1))
theorem len_int (neg : Bool) (a : Option Addr) (n cap k : Nat) (z : Int) (w : World) (h : IntAt w neg a n cap k z) (hz : 0 ≤ z) :
    Calls Try.prog 97 #[.agg #[.bool neg, .slice a n cap]] w fun r w' => ∃ l, LenIs z l ∧ r = .returned (.int .i64 l) ∧ Below w.heap.size w w' := by
  obtain ⟨d, h1, h2, h3, h4, h5⟩ := h
  refine (len_any neg a n cap d w h1).mono fun r w' ⟨e1, e2⟩ => ⟨lenZ n d, ?_, e1, e2⟩
  have hV := V_nonneg h1.dgs n
  have hv : V d n = z := by
    cases neg
    · simp [sgn] at h5; exact h5.symm
    · simp [sgn] at h5; omega
  rcases Nat.eq_zero_or_pos n with h0 | h0
  · subst h0
    have : z = 0 := by simp [V] at hv; omega
    subst this
    exact ⟨by simp [lenZ], fun _ => by simp [lenZ], fun h => by omega⟩
  · obtain ⟨L, l1, l2, l3⟩ := lenZ_Q h1.dgs h0 (by rcases h2 with h2 | h2; omega; exact h2)
    have := Q_pos L
    exact ⟨by omega, fun h => by omega, fun _ => ⟨L, l1, by omega, by omega⟩⟩
def SureOf (bits : Nat) (Pr : Nat → Int → Int → Prop) (L H : Int) : Prop :=
  ∃ (m : Nat) (lo hi : Int), Pr (bits + m) lo hi ∧ 32 ≤ m ∧ L = lo / Q m ∧ H = -(-hi / Q m) ∧ (H - L ≤ 1 ∨ narB L H (Q bits) 4 = true)
def SureEnds (bits Kw : Nat) (Pr : Nat → Int → Int → Prop) : Prop :=
  ∀ (m : Nat) (lo hi : Int), Pr (bits + m) lo hi → lo ≤ hi ∧ hi - lo ≤ Q Kw ∧ -(P 200 * Q m) ≤ lo ∧ hi ≤ P 200 * Q m
theorem ceil_ge (x q : Int) (hq : 0 < q) : x ≤ -(-x / q) * q := by
  have h := Int.emod_add_mul_ediv (-x) q
  have := Int.emod_nonneg (-x) (show q ≠ 0 by omega)
  have e : -(-x / q) * q = -(q * (-x / q)) := by rw [Int.neg_mul, Int.mul_comm]
  rw [e]; omega
theorem ceil_lt (x q : Int) (hq : 0 < q) : -(-x / q) * q < x + q := by
  have h := Int.emod_add_mul_ediv (-x) q
  have := Int.emod_lt_of_pos (-x) hq
  have e : -(-x / q) * q = -(q * (-x / q)) := by rw [Int.neg_mul, Int.mul_comm]
  rw [e]; omega
theorem flo_le (x q : Int) (hq : 0 < q) : x / q * q ≤ x := Int.ediv_mul_le _ (by omega)
theorem flo_gt (x q : Int) (hq : 0 < q) : x < x / q * q + q := by
  have h := Int.emod_add_mul_ediv x q
  have := Int.emod_lt_of_pos x hq
  rw [Int.mul_comm]; omega
theorem to_width {lo hi : Int} {m Kw : Nat} (hle : lo ≤ hi) (hw : hi - lo ≤ Q Kw) : 0 ≤ -(-hi / Q m) - lo / Q m ∧ (Kw ≤ m → -(-hi / Q m) - lo / Q m ≤ 2) ∧ (m ≤ Kw → -(-hi / Q m) - lo / Q m ≤ Q (Kw - m) + 1) := by
  have hq := Q_pos m
  have a1 := ceil_ge hi (Q m) (by omega)
  have a2 := ceil_lt hi (Q m) (by omega)
  have a3 := flo_le lo (Q m) (by omega)
  have a4 := flo_gt lo (Q m) (by omega)
  have hs : (-(-hi / Q m) - lo / Q m) * Q m = -(-hi / Q m) * Q m - lo / Q m * Q m := Int.sub_mul _ _ _
  refine ⟨?_, fun h => ?_, fun h => ?_⟩
  · refine Int.not_lt.1 fun hn => ?_
    have := Int.mul_le_mul_of_nonneg_right (show -(-hi / Q m) - lo / Q m ≤ -1 by omega) (show 0 ≤ Q m by omega)
    omega
  · have hk := Q_mono h
    refine Int.not_lt.1 fun hn => ?_
    have := Int.mul_le_mul_of_nonneg_right (show 3 ≤ -(-hi / Q m) - lo / Q m by omega) (show 0 ≤ Q m by omega)
    omega
  · have hk : Q Kw = Q (Kw - m) * Q m := by rw [← Q_add]; congr 1; omega
    refine Int.not_lt.1 fun hn => ?_
    have h5 := Int.mul_le_mul_of_nonneg_right (show Q (Kw - m) + 2 ≤ -(-hi / Q m) - lo / Q m by omega) (show 0 ≤ Q m by omega)
    have h6 : (Q (Kw - m) + 2) * Q m = Q (Kw - m) * Q m + 2 * Q m := Int.add_mul _ _ _
    omega
theorem narB_small {L H : Int} {b : Nat} (hle : L ≤ H) (h : H - L ≤ 4) : narB L H (Q b) 4 = true := by
  unfold narB
  rw [decide_eq_true_iff]
  have hq := Q_pos b
  have h1 : (H - L) * Q b ≤ 4 * Q b := Int.mul_le_mul_of_nonneg_right h (by omega)
  have h2 : 0 ≤ maxZ H (-L) := by unfold maxZ; split <;> omega
  have : 4 * (Q b + maxZ H (-L)) = 4 * Q b + 4 * maxZ H (-L) := Int.mul_add _ _ _
  omega
theorem to_fit {lo hi : Int} {m : Nat} (h1 : -(P 200 * Q m) ≤ lo) (h2 : hi ≤ P 200 * Q m) : -P 250 < lo / Q m ∧ -(-hi / Q m) < P 250 := by
  have hq := Q_pos m
  have hp : P 200 < P 250 := by
    have e : P 250 = P 200 * P 50 := P_add 200 50
    have h3 := P_pos 200
    have h4 : P 200 * 65536 ≤ P 200 * P 50 := Int.mul_le_mul_of_nonneg_left (P_mono (show 1 ≤ 50 by omega)) (by omega)
    omega
  have a1 : -P 200 ≤ lo / Q m := by rw [Int.le_ediv_iff_mul_le (by omega), Int.neg_mul]; exact h1
  have a2 : -P 200 ≤ -hi / Q m := by rw [Int.le_ediv_iff_mul_le (by omega), Int.neg_mul]; omega
  omega
def SureInv (Kw m t : Nat) : Prop := 32 ≤ m ∧ 1 ≤ t ∧ t ≤ m ∧ ((t ≤ 3 ∧ m ≤ Kw + 40 * t) ∨ m ≤ Kw + 40)
theorem len_bd {z l : Int} {K : Nat} (h : LenIs z l) (hz : z ≤ Q K + 1) (h0 : 0 ≤ z) : l ≤ K + 2 := by
  obtain ⟨h1, h2, h3⟩ := h
  by_cases hp : 0 < z
  · obtain ⟨L, e1, e2, e3⟩ := h3 hp
    by_cases hL : L ≤ K + 1
    · omega
    · have := Q_mono (show K + 2 ≤ L by omega)
      have e : Q (K + 2) = 2 * (2 * Q K) := rfl
      have := Q_pos K
      omega
  · have := h2 (by omega); omega
theorem len_two {z l : Int} (h : LenIs z l) (hz : z ≤ 2) (h0 : 0 ≤ z) : l ≤ 2 := by
  have := len_bd (K := 0) h (by simp [Q]; omega) h0
  omega
theorem len_one {z l : Int} (h : LenIs z l) (hl : l ≤ 1) (h0 : 0 ≤ z) : z ≤ 1 := by
  obtain ⟨h1, h2, h3⟩ := h
  by_cases hp : 0 < z
  · obtain ⟨L, e1, e2, e3⟩ := h3 hp
    have : L = 0 := by omega
    subst this
    simp [Q] at e3; omega
  · omega
end Go.Proofs.Ytgmnknmjainabab
