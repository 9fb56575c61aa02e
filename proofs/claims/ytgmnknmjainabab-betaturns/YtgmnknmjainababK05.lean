/-
  Texts NumB, Math, NumC, AppC, NumD, NumE, AppD, NumF, Bits: what they hold is told in the last text.
-/
import Derived.Deep.RegionHeld3
import Derived.Deep.DrawnRows
import Derived.Deep.AppendSrc
import Derived.Deep.AppendLies
import Derived.Laws.BitsAllLaws
import Derived.Test.YtgmnknmjainababK04
set_option linter.unnecessarySimpa false
set_option linter.unusedSimpArgs false
set_option linter.unusedVariables false
namespace Go.Proofs.Ytgmnknmjainabab
open Go.RowKit
set_option maxHeartbeats 400000 in
theorem trimmed_any (a : Option Addr) (n cap : Nat) (d : Nat → Int) (w : World) (h : Dig w a n cap d) :
    Calls Try.prog 143 #[.slice a n cap] w fun e w' => e = .returned (.slice a (trimN d n) cap) ∧ Below w.heap.size w w' := by
  have hr := h.room
  have hl := h.le
  go_enter Try.func143, Try.ntmps143
  go_wp2
  go_loopw [0] (fun l wr => ∃ m : Nat, m ≤ n ∧ l = .slice a m cap ∧ trimN d n = trimN d m ∧ Below w.heap.size w wr) (fun l _ => lenOf l)
  case atStart => exact ⟨n, Nat.le_refl _, rfl, rfl, Below.refl _ _⟩
  case round =>
    obtain ⟨m, hm, rfl, ht, hbl⟩ := hrel
    by_cases hm0 : m = 0
    · subst hm0
      have Ht := hide ht
      clear ht
      go_wp2
      go_ret
      exact ⟨by simp [unhide Ht, trimN], hbl⟩
    · obtain ⟨b, off, rfl, hb, hc⟩ := h.at_ (by omega)
      obtain ⟨q, rfl⟩ : ∃ q, m = q + 1 := ⟨m - 1, by omega⟩
      have hcq : wr.cell? ⟨b, off + q, none⟩ = some (.int .u16 (d q)) := (hbl.cell (p := ⟨b, off + q, none⟩) hb).trans (hc q (by omega))
      by_cases hd : d q = 0
      · have Ht := hide (show trimN d n = trimN d q by rw [ht]; simp [trimN, hd])
        clear ht
        go_wp2
        go_roundw
        case rel => exact ⟨q, by omega, rfl, unhide Ht, hbl⟩
        case measure => simp [lenOf]
      · have Ht := hide (show trimN d n = q + 1 by rw [ht]; simp [trimN, hd])
        have hd2 : (d q == 0) = false := by simpa using hd
        clear ht
        go_wp2
        go_ret
        exact ⟨by simp [unhide Ht], hbl⟩
set_option maxHeartbeats 400000 in
theorem of_any (neg : Bool) (a : Option Addr) (n cap : Nat) (d : Nat → Int) (w : World) (h : Dig w a n cap d) :
    Calls Try.prog 91 #[.bool neg, .slice a n cap] w fun e w' => e = .returned (.agg #[.bool (neg && decide (0 < trimN d n)), .slice a (trimN d n) cap]) ∧ Below w.heap.size w w' := by
  have hr := h.room
  have hl := trimN_le d n
  cases neg
  · go_enter Try.func91, Try.ntmps91
    go_wp2_with (go_at_call 143; refine (trimmed_any _ _ _ d _ (h.below (bl1 _ _))).mono ?_; rintro r w' ⟨rfl, hb⟩; obtain ⟨hcell, hfz⟩ := bcell hb; have hsz := hb.size)
    refine bodyPost_ret (v := .agg #[.bool false, .slice a (trimN d n) cap]) (by simp [results, Try.results91, go_sem, hcell, hsz]) rfl ?_
    exact ⟨by simp, by first | exact (bthen (bl1 _ _) hb) | exact (bthen (bl1 _ _) hb).setCell (Nat.le_refl _) _ | exact ((bthen (bl1 _ _) hb).setCell (Nat.le_refl _) _).setCell (Nat.le_refl _) _⟩
  · go_enter Try.func91, Try.ntmps91
    go_wp2_with (go_at_call 143; refine (trimmed_any _ _ _ d _ (h.below (bl1 _ _))).mono ?_; rintro r w' ⟨rfl, hb⟩; obtain ⟨hcell, hfz⟩ := bcell hb; have hsz := hb.size)
    refine bodyPost_ret (v := .agg #[.bool (decide (0 < trimN d n)), .slice a (trimN d n) cap]) (by simp [results, Try.results91, go_sem, hcell, hsz]) rfl ?_
    exact ⟨by simp, by first | exact (bthen (bl1 _ _) hb) | exact (bthen (bl1 _ _) hb).setCell (Nat.le_refl _) _ | exact ((bthen (bl1 _ _) hb).setCell (Nat.le_refl _) _).setCell (Nat.le_refl _) _⟩
theorem Try.infoU16 : (Try.prog.info? 85).map (fun i => (i.zero, i.size, i.bytes)) = some (some (.int .u16 0), 1, 2) := by kernel_rfl
def dg (d : Nat → Int) (n j : Nat) : Int := if j < n then d j else 0
def carryP (d e : Nat → Int) (n m : Nat) : Nat → Int
  | 0 => 0
  | k + 1 => (carryP d e n m k + dg d n k + dg e m k) / 65536
def plusD (d e : Nat → Int) (n m j : Nat) : Int := (carryP d e n m j + dg d n j + dg e m j) % 65536
theorem carryP_bd {d e : Nat → Int} (hd : Dgs d) (he : Dgs e) (n m k : Nat) : 0 ≤ carryP d e n m k ∧ carryP d e n m k ≤ 1 := by
  induction k with
  | zero => simp [carryP]
  | succ k ih =>
    simp only [carryP, dg]
    have := hd k; have := he k
    split <;> split <;> omega
theorem row_step {wr : World} {b t N k : Nat} {f : Nat → Int} (h : wr.rowIs b t N (fun j => .int .u16 (if j < k then f j else 0))) {v : Int} (hv : v = f k) :
    (wr.setCell ⟨b, k, none⟩ (.int .u16 v)).rowIs b t N (fun j => .int .u16 (if j < k + 1 then f j else 0)) := by
  refine (h.set k (.int .u16 v)).congr fun j _ => ?_
  by_cases hj : j = k
  · subst hj; simp [hv]
  · have : (j < k + 1) = (j < k) := by simp; omega
    simp [hj, this]
theorem wrap16 (x : Int) : IntKind.u16.wrap x = x % 65536 := rfl
set_option maxRecDepth 100000 in
set_option maxHeartbeats 400000 in
theorem plus_any (a c : Option Addr) (n m cap cap2 : Nat) (d e : Nat → Int) (w : World) (ha : Dig w a n cap d) (hc : Dig w c m cap2 e) (hn : n ≤ 1000000000) (hm : m ≤ 1000000000) :
    Calls Try.prog 138 #[.slice a n cap, .slice c m cap2] w fun r w' => ∃ N, N = max n m + 1 ∧ r = .returned (.slice (some ⟨w.heap.size, 0, none⟩) N N) ∧ w'.rowIs w.heap.size 85 N (fun j => .int .u16 (plusD d e n m j)) ∧ Below w.heap.size w w' := by
  obtain ⟨N, hN⟩ : ∃ N, N = max n m + 1 := ⟨_, rfl⟩
  have hN1 : N ≤ 1000000001 := by omega
  have hnN : n < N := by omega
  have hmN : m < N := by omega
  have hmk := run_make_row' (P := Try.prog) 24 85 (.int .u16 0) 2 Try.underlying24 Try.infoU16 rfl .i64 .i64 N (by omega) (by omega)
  have key : (n < m ∧ (m : Int) + 1 = N) ∨ (m ≤ n ∧ (n : Int) + 1 = N) := by omega
  have HN := hide hN
  clear hN
  rcases key with ⟨hlt, hmx⟩ | ⟨hlt, hmx⟩
  all_goals
    go_enter Try.func138, Try.ntmps138
    go_wp2
    clear hmk hlt hmx
    go_loopw [6, 17] (fun cy i wr => ∃ k : Nat, k ≤ N ∧ i = .int .i64 k ∧ cy = .int .u32 (carryP d e n m k) ∧ wr.rowIs w.heap.size 85 N (fun j => .int .u16 (if j < k then plusD d e n m j else 0)) ∧ Below w.heap.size w wr) (fun _ i _ => N - (intOf i).toNat)
    case atStart => exact ⟨0, Nat.zero_le _, rfl, rfl, by simpa using World.rowIs_made w (.int .u16 0) N 85, bl1 _ _⟩
    case round =>
      obtain ⟨k, hk, rfl, rfl, hrow, hbl⟩ := hrel
      by_cases hkN : k < N
      · have r1 := hrow.cell hkN
        have r2 := hrow.frozen k
        have cb := carryP_bd ha.dgs hc.dgs n m k
        have db := ha.dgs k
        have eb := hc.dgs k
        by_cases hkn : k < n
        · obtain ⟨b1, o1, rfl, hb1, hc1⟩ := ha.at_ (by omega)
          have g1 : wr.cell? ⟨b1, o1 + k, none⟩ = some (.int .u16 (d k)) := (hbl.cell (p := ⟨b1, o1 + k, none⟩) hb1).trans (hc1 k hkn)
          clear hc1
          by_cases hkm : k < m
          · obtain ⟨b2, o2, rfl, hb2, hc2⟩ := hc.at_ (by omega)
            have g2 : wr.cell? ⟨b2, o2 + k, none⟩ = some (.int .u16 (e k)) := (hbl.cell (p := ⟨b2, o2 + k, none⟩) hb2).trans (hc2 k hkm)
            clear hc2
            have H1 := hide (show (carryP d e n m k + d k + e k) / 65536 = carryP d e n m (k + 1) by simp [carryP, dg, hkn, hkm])
            have H2 := hide (show IntKind.u16.wrap (carryP d e n m k + d k + e k) = plusD d e n m k by simp [wrap16, plusD, dg, hkn, hkm])
            go_wp2
            go_roundw
            case rel => exact ⟨k + 1, by omega, by go_num, by rw [unhide H1], row_step hrow (unhide H2), hbl.setCell (Nat.le_refl _) _⟩
            case measure => simp [intOf]; omega
          · have H1 := hide (show (carryP d e n m k + d k) / 65536 = carryP d e n m (k + 1) by simp [carryP, dg, hkn, hkm])
            have H2 := hide (show IntKind.u16.wrap (carryP d e n m k + d k) = plusD d e n m k by simp [wrap16, plusD, dg, hkn, hkm])
            go_wp2
            go_roundw
            case rel => exact ⟨k + 1, by omega, by go_num, by rw [unhide H1], row_step hrow (unhide H2), hbl.setCell (Nat.le_refl _) _⟩
            case measure => simp [intOf]; omega
        · by_cases hkm : k < m
          · obtain ⟨b2, o2, rfl, hb2, hc2⟩ := hc.at_ (by omega)
            have g2 : wr.cell? ⟨b2, o2 + k, none⟩ = some (.int .u16 (e k)) := (hbl.cell (p := ⟨b2, o2 + k, none⟩) hb2).trans (hc2 k hkm)
            clear hc2
            have H1 := hide (show (carryP d e n m k + e k) / 65536 = carryP d e n m (k + 1) by simp [carryP, dg, hkn, hkm])
            have H2 := hide (show IntKind.u16.wrap (carryP d e n m k + e k) = plusD d e n m k by simp [wrap16, plusD, dg, hkn, hkm])
            go_wp2
            go_roundw
            case rel => exact ⟨k + 1, by omega, by go_num, by rw [unhide H1], row_step hrow (unhide H2), hbl.setCell (Nat.le_refl _) _⟩
            case measure => simp [intOf]; omega
          · have H1 := hide (show (carryP d e n m k) / 65536 = carryP d e n m (k + 1) by simp [carryP, dg, hkn, hkm])
            have H2 := hide (show carryP d e n m k = plusD d e n m k by simp [plusD, dg, hkn, hkm]; omega)
            go_wp2
            go_roundw
            case rel => exact ⟨k + 1, by omega, by go_num, by rw [unhide H1], row_step hrow (unhide H2), hbl.setCell (Nat.le_refl _) _⟩
            case measure => simp [intOf]; omega
      · have hkE : k = N := by omega
        subst hkE
        go_wp2
        go_ret
        exact ⟨_, unhide HN, rfl, hrow.congr (fun j hj => by simp [hj]), hbl⟩
def borrowL (d e : Nat → Int) (m : Nat) : Nat → Int
  | 0 => 0
  | k + 1 => if d k - borrowL d e m k - dg e m k < 0 then 1 else 0
def lessD (d e : Nat → Int) (m j : Nat) : Int := if d j - borrowL d e m j - dg e m j < 0 then d j - borrowL d e m j - dg e m j + 65536 else d j - borrowL d e m j - dg e m j
theorem borrowL_bd (d e : Nat → Int) (m k : Nat) : 0 ≤ borrowL d e m k ∧ borrowL d e m k ≤ 1 := by
  cases k with
  | zero => simp [borrowL]
  | succ k => simp only [borrowL]; split <;> omega
set_option maxRecDepth 100000 in
set_option maxHeartbeats 400000 in
theorem less_any (a c : Option Addr) (n m cap cap2 : Nat) (d e : Nat → Int) (w : World) (ha : Dig w a n cap d) (hc : Dig w c m cap2 e) (hn : n ≤ 1000000000) (hm : m ≤ 1000000000) :
    Calls Try.prog 139 #[.slice a n cap, .slice c m cap2] w fun r w' => r = .returned (.slice (some ⟨w.heap.size, 0, none⟩) n n) ∧ w'.rowIs w.heap.size 85 n (fun j => .int .u16 (lessD d e m j)) ∧ Below w.heap.size w w' := by
  have hmk := run_make_row' (P := Try.prog) 24 85 (.int .u16 0) 2 Try.underlying24 Try.infoU16 rfl .i64 .i64 n (by omega) (by omega)
  go_enter Try.func139, Try.ntmps139
  go_wp2
  clear hmk
  go_loopw [6, 14] (fun cy i wr => ∃ k : Nat, k ≤ n ∧ i = .int .i64 k ∧ cy = .int .i64 (borrowL d e m k) ∧ wr.rowIs w.heap.size 85 n (fun j => .int .u16 (if j < k then lessD d e m j else 0)) ∧ Below w.heap.size w wr) (fun _ i _ => n - (intOf i).toNat)
  case atStart => exact ⟨0, Nat.zero_le _, rfl, rfl, by simpa using World.rowIs_made w (.int .u16 0) n 85, bl1 _ _⟩
  case round =>
    obtain ⟨k, hk, rfl, rfl, hrow, hbl⟩ := hrel
    by_cases hkn : k < n
    · have r1 := hrow.cell hkn
      have r2 := hrow.frozen k
      have cb := borrowL_bd d e m k
      have db := ha.dgs k
      have eb := hc.dgs k
      obtain ⟨b1, o1, rfl, hb1, hc1⟩ := ha.at_ (by omega)
      have g1 : wr.cell? ⟨b1, o1 + k, none⟩ = some (.int .u16 (d k)) := (hbl.cell (p := ⟨b1, o1 + k, none⟩) hb1).trans (hc1 k hkn)
      clear hc1
      by_cases hkm : k < m
      · obtain ⟨b2, o2, rfl, hb2, hc2⟩ := hc.at_ (by omega)
        have g2 : wr.cell? ⟨b2, o2 + k, none⟩ = some (.int .u16 (e k)) := (hbl.cell (p := ⟨b2, o2 + k, none⟩) hb2).trans (hc2 k hkm)
        clear hc2
        by_cases hneg : d k - borrowL d e m k - e k < 0
        · have H1 := hide (show 1 = borrowL d e m (k + 1) by simp [borrowL, dg, hkm, hneg])
          have H2 := hide (show d k - borrowL d e m k - e k + 65536 = lessD d e m k by simp [lessD, dg, hkm, hneg])
          go_wp2
          go_roundw
          case rel => exact ⟨k + 1, by omega, by go_num, by rw [← unhide H1], row_step hrow (unhide H2), hbl.setCell (Nat.le_refl _) _⟩
          case measure => simp [intOf]; omega
        · have H1 := hide (show 0 = borrowL d e m (k + 1) by simp [borrowL, dg, hkm, hneg])
          have H2 := hide (show d k - borrowL d e m k - e k = lessD d e m k by simp [lessD, dg, hkm, hneg])
          go_wp2
          go_roundw
          case rel => exact ⟨k + 1, by omega, by go_num, by rw [← unhide H1], row_step hrow (unhide H2), hbl.setCell (Nat.le_refl _) _⟩
          case measure => simp [intOf]; omega
      · by_cases hneg : d k - borrowL d e m k < 0
        · have H1 := hide (show 1 = borrowL d e m (k + 1) by simp [borrowL, dg, hkm, hneg])
          have H2 := hide (show d k - borrowL d e m k + 65536 = lessD d e m k by simp [lessD, dg, hkm, hneg])
          go_wp2
          go_roundw
          case rel => exact ⟨k + 1, by omega, by go_num, by rw [← unhide H1], row_step hrow (unhide H2), hbl.setCell (Nat.le_refl _) _⟩
          case measure => simp [intOf]; omega
        · have H1 := hide (show 0 = borrowL d e m (k + 1) by simp [borrowL, dg, hkm, hneg])
          have H2 := hide (show d k - borrowL d e m k = lessD d e m k by simp [lessD, dg, hkm, hneg])
          go_wp2
          go_roundw
          case rel => exact ⟨k + 1, by omega, by go_num, by rw [← unhide H1], row_step hrow (unhide H2), hbl.setCell (Nat.le_refl _) _⟩
          case measure => simp [intOf]; omega
    · have hkE : k = n := by omega
      subst hkE
      go_wp2
      go_ret
      exact ⟨rfl, hrow.congr (fun j hj => by simp [hj]), hbl⟩
end Go.Proofs.Ytgmnknmjainabab
namespace Go.Proofs.Ytgmnknmjainabab
open Go.RowKit
theorem V_dg (d : Nat → Int) (n N : Nat) (h : n ≤ N) : V (dg d n) N = V d n := by
  induction N with
  | zero => have : n = 0 := by omega
            subst this; rfl
  | succ N ih =>
    by_cases hN : n = N + 1
    · subst hN
      apply V_congr
      intro j hj; simp [dg, hj]
    · simp only [V]
      rw [ih (by omega)]
      have : ¬ N < n := by omega
      simp [dg, this]
theorem plus_V_aux (d e : Nat → Int) (n m k : Nat) : V (plusD d e n m) k + carryP d e n m k * P k = V (dg d n) k + V (dg e m) k := by
  induction k with
  | zero => simp [V, carryP]
  | succ k ih =>
    simp only [V, P]
    have h1 : plusD d e n m k + 65536 * carryP d e n m (k + 1) = carryP d e n m k + dg d n k + dg e m k := by
      simp only [plusD, carryP]; omega
    have h2 : plusD d e n m k * P k + 65536 * carryP d e n m (k + 1) * P k = carryP d e n m k * P k + dg d n k * P k + dg e m k * P k := by
      rw [← Int.add_mul, h1, Int.add_mul, Int.add_mul]
    have h3 : carryP d e n m (k + 1) * (65536 * P k) = 65536 * carryP d e n m (k + 1) * P k := by
      rw [← Int.mul_assoc, Int.mul_comm (carryP d e n m (k + 1)) 65536]
    omega
theorem plusD_dgs (d e : Nat → Int) (n m : Nat) : Dgs (plusD d e n m) := by
  intro j; simp only [plusD]; omega
theorem plus_V {d e : Nat → Int} (hd : Dgs d) (he : Dgs e) (n m : Nat) : V (plusD d e n m) (max n m + 1) = V d n + V e m := by
  have h := plus_V_aux d e n m (max n m + 1)
  rw [V_dg d n _ (by omega), V_dg e m _ (by omega)] at h
  have c0 := carryP_bd hd he n m (max n m + 1)
  have b1 := V_lt hd n
  have b2 := V_lt he m
  have p1 : P n ≤ P (max n m) := P_mono (by omega)
  have p2 : P m ≤ P (max n m) := P_mono (by omega)
  have b3 := V_nonneg (plusD_dgs d e n m) (max n m + 1)
  have hP : P (max n m + 1) = 65536 * P (max n m) := rfl
  have hp := P_pos (max n m)
  by_cases hc : carryP d e n m (max n m + 1) = 0
  · rw [hc] at h; omega
  · have : carryP d e n m (max n m + 1) = 1 := by omega
    rw [this] at h; omega
theorem less_V_aux (d e : Nat → Int) (m k : Nat) : V (lessD d e m) k - borrowL d e m k * P k = V d k - V (dg e m) k := by
  induction k with
  | zero => simp [V, borrowL]
  | succ k ih =>
    simp only [V, P]
    have h1 : lessD d e m k - 65536 * borrowL d e m (k + 1) = d k - borrowL d e m k - dg e m k := by
      simp only [lessD, borrowL]; split <;> omega
    have h2 : lessD d e m k * P k - 65536 * borrowL d e m (k + 1) * P k = d k * P k - borrowL d e m k * P k - dg e m k * P k := by
      rw [← Int.sub_mul, h1, Int.sub_mul, Int.sub_mul]
    have h3 : borrowL d e m (k + 1) * (65536 * P k) = 65536 * borrowL d e m (k + 1) * P k := by
      rw [← Int.mul_assoc, Int.mul_comm (borrowL d e m (k + 1)) 65536]
    omega
theorem lessD_dgs {d e : Nat → Int} (hd : Dgs d) (he : Dgs e) (m : Nat) : Dgs (lessD d e m) := by
  intro j
  have := hd j; have := he j; have := borrowL_bd d e m j
  simp only [lessD, dg]; split <;> split <;> omega
theorem less_V {d e : Nat → Int} (hd : Dgs d) (he : Dgs e) (n m : Nat) (hnm : m ≤ n) (h : V e m ≤ V d n) : V (lessD d e m) n = V d n - V e m := by
  have h1 := less_V_aux d e m n
  rw [V_dg e m _ hnm] at h1
  have c0 := borrowL_bd d e m n
  have b3 := V_lt (lessD_dgs hd he m) n
  by_cases hc : borrowL d e m n = 0
  · rw [hc] at h1; omega
  · have : borrowL d e m n = 1 := by omega
    rw [this] at h1; omega
def cmpInt (x y : Int) : Int := if x < y then -1 else if y < x then 1 else 0
theorem cmpTo_V {d e : Nat → Int} (hd : Dgs d) (he : Dgs e) (n : Nat) : cmpTo d e n = cmpInt (V d n) (V e n) := by
  induction n with
  | zero => simp [cmpTo, cmpInt, V]
  | succ n ih =>
    simp only [cmpTo, V]
    have a1 := V_lt hd n
    have a2 := V_lt he n
    have a3 := V_nonneg hd n
    have a4 := V_nonneg he n
    have hp := P_pos n
    by_cases h1 : d n < e n
    · have : d n * P n + P n ≤ e n * P n := by
        have := Int.mul_le_mul_of_nonneg_right (show d n + 1 ≤ e n by omega) (show 0 ≤ P n by omega)
        rw [Int.add_mul] at this; omega
      simp only [h1, if_true, cmpInt]; rw [if_pos (by omega)]
    · by_cases h2 : e n < d n
      · have : e n * P n + P n ≤ d n * P n := by
          have := Int.mul_le_mul_of_nonneg_right (show e n + 1 ≤ d n by omega) (show 0 ≤ P n by omega)
          rw [Int.add_mul] at this; omega
        simp only [h1, h2, if_true, if_false, cmpInt]; rw [if_neg (by omega), if_pos (by omega)]
      · have : d n = e n := by omega
        simp only [h1, h2, if_false, ih, this]
        generalize e n * P n = t
        unfold cmpInt
        repeat' split
        all_goals omega
theorem V_ge {d : Nat → Int} (hd : Dgs d) (n : Nat) (h : d n ≠ 0) : P n ≤ V d (n + 1) := by
  simp only [V]
  have := V_nonneg hd n
  have := hd n
  have hp := P_pos n
  have := Int.mul_le_mul_of_nonneg_right (show 1 ≤ d n by omega) (show 0 ≤ P n by omega)
  omega
theorem cmpZ_V {d e : Nat → Int} (hd : Dgs d) (he : Dgs e) (n m : Nat) (h1 : n = 0 ∨ d (n - 1) ≠ 0) (h2 : m = 0 ∨ e (m - 1) ≠ 0) : cmpZ d e n m = cmpInt (V d n) (V e m) := by
  unfold cmpZ
  by_cases hlt : n < m
  · have := V_lt hd n
    have hm : e (m - 1) ≠ 0 := by omega
    have := V_ge he (m - 1) hm
    have e1 : m - 1 + 1 = m := by omega
    rw [e1] at this
    have := P_mono (show n ≤ m - 1 by omega)
    simp only [hlt, if_true, cmpInt]; rw [if_pos (by omega)]
  · by_cases hgt : m < n
    · have := V_lt he m
      have hm : d (n - 1) ≠ 0 := by omega
      have := V_ge hd (n - 1) hm
      have e1 : n - 1 + 1 = n := by omega
      rw [e1] at this
      have := P_mono (show m ≤ n - 1 by omega)
      simp only [hlt, hgt, if_true, if_false, cmpInt]; rw [if_neg (by omega), if_pos (by omega)]
    · have : n = m := by omega
      subst this
      simp only [hlt, if_false]; exact cmpTo_V hd he n
theorem sgn_nonneg_lt {d e : Nat → Int} (hd : Dgs d) (he : Dgs e) (neg neg2 : Bool) (n m : Nat) (h1 : n = 0 ∨ d (n - 1) ≠ 0) (h2 : m = 0 ∨ e (m - 1) ≠ 0) (h3 : n = 0 → neg = false) (h4 : m = 0 → neg2 = false) :
    cmpI neg neg2 d e n m = cmpInt (sgn neg (V d n)) (sgn neg2 (V e m)) := by
  have c := cmpZ_V hd he n m h1 h2
  have a3 := V_nonneg hd n
  have a4 := V_nonneg he m
  have pos1 : neg = true → 1 ≤ V d n := fun hn => by
    have hn0 : n ≠ 0 := fun h0 => by rw [h3 h0] at hn; cases hn
    have := V_ge hd (n - 1) (by omega)
    have e1 : n - 1 + 1 = n := by omega
    rw [e1] at this
    have := P_pos (n - 1); omega
  have pos2 : neg2 = true → 1 ≤ V e m := fun hn => by
    have hn0 : m ≠ 0 := fun h0 => by rw [h4 h0] at hn; cases hn
    have := V_ge he (m - 1) (by omega)
    have e1 : m - 1 + 1 = m := by omega
    rw [e1] at this
    have := P_pos (m - 1); omega
  generalize V d n = x at *
  generalize V e m = y at *
  clear h1 h2 h3 h4
  cases neg <;> cases neg2 <;> simp [cmpI, sgn, c] at * <;> unfold cmpInt <;> repeat' split
  all_goals omega
end Go.Proofs.Ytgmnknmjainabab
namespace Go.Proofs.Ytgmnknmjainabab
open Go.RowKit
attribute [local go_sem ↓] Go.wp_at_zero Go.wp_at_succ
theorem rowDig {w : World} {b t N : Nat} {f : Nat → Int} (h : w.rowIs b t N (fun j => .int .u16 (f j))) (hd : Dgs f) (hN : N ≤ 70368744177664) : Dig w (some ⟨b, 0, none⟩) N N f :=
  ⟨fun _ => ⟨b, 0, rfl, h.lt, fun j hj => by simpa using h.cell hj⟩, hd, Nat.le_refl _, hN⟩
theorem ofInt {w : World} {a : Option Addr} {N cap : Nat} {f : Nat → Int} (neg : Bool) (h : Dig w a N cap f) : IntAt w (neg && decide (0 < trimN f N)) a (trimN f N) cap N (sgn neg (V f N)) := by
  have hl := trimN_le f N
  have hV := trimN_V f N
  refine ⟨f, h.take hl, trimN_top f N, fun h0 => by simp [h0], hl, ?_⟩
  by_cases h0 : trimN f N = 0
  · rw [h0] at hV ⊢; rw [← hV]; cases neg <;> simp [sgn, V]
  · have : decide (0 < trimN f N) = true := by simp; omega
    rw [this, hV]; cases neg <;> rfl
theorem plus_dig (a c : Option Addr) (n m cap cap2 : Nat) (d e : Nat → Int) (w : World) (ha : Dig w a n cap d) (hc : Dig w c m cap2 e) (hn : n ≤ 1000000000) (hm : m ≤ 1000000000) :
    Calls Try.prog 138 #[.slice a n cap, .slice c m cap2] w fun r w' => ∃ a' N, Hid (N = max n m + 1) ∧ r = .returned (.slice a' N N) ∧ Dig w' a' N N (plusD d e n m) ∧ Below w.heap.size w w' :=
  (plus_any a c n m cap cap2 d e w ha hc hn hm).mono fun _ _ ⟨N, h1, h2, h3, h4⟩ => ⟨_, N, h1, h2, rowDig h3 (plusD_dgs _ _ _ _) (by omega), h4⟩
theorem less_dig (a c : Option Addr) (n m cap cap2 : Nat) (d e : Nat → Int) (w : World) (ha : Dig w a n cap d) (hc : Dig w c m cap2 e) (hn : n ≤ 1000000000) (hm : m ≤ 1000000000) :
    Calls Try.prog 139 #[.slice a n cap, .slice c m cap2] w fun r w' => ∃ a', r = .returned (.slice a' n n) ∧ Dig w' a' n n (lessD d e m) ∧ Below w.heap.size w w' :=
  (less_any a c n m cap cap2 d e w ha hc hn hm).mono fun _ _ ⟨h2, h3, h4⟩ => ⟨_, h2, rowDig h3 (lessD_dgs ha.dgs hc.dgs _) (by omega), h4⟩
theorem of_int (neg : Bool) (a : Option Addr) (n cap : Nat) (d : Nat → Int) (w : World) (h : Dig w a n cap d) :
    Calls Try.prog 91 #[.bool neg, .slice a n cap] w fun e w' => ∃ neg' a' n' cap', e = .returned (.agg #[.bool neg', .slice a' n' cap']) ∧ IntAt w' neg' a' n' cap' n (sgn neg (V d n)) ∧ Below w.heap.size w w' :=
  (of_any neg a n cap d w h).mono fun _ _ ⟨h1, h2⟩ => ⟨_, _, _, _, h1, (ofInt neg h).below h2, h2⟩
theorem cmp_int (neg neg2 : Bool) (a a2 : Option Addr) (n n2 cap cap2 k k2 : Nat) (x y : Int) (w : World) (h1 : IntAt w neg a n cap k x) (h2 : IntAt w neg2 a2 n2 cap2 k2 y) :
    Calls Try.prog 24 #[.agg #[.bool neg, .slice a n cap], .agg #[.bool neg2, .slice a2 n2 cap2]] w fun r w' => r = .returned (.int .i64 (cmpInt x y)) ∧ Below w.heap.size w w' := by
  obtain ⟨d, g1, g2, g3, g4, rfl⟩ := h1
  obtain ⟨d2, f1, f2, f3, f4, rfl⟩ := h2
  rw [← sgn_nonneg_lt g1.dgs f1.dgs neg neg2 n n2 g2 f2 g3 f3]
  exact cmp_any neg neg2 a a2 n n2 cap cap2 d d2 w g1 f1
set_option maxRecDepth 100000 in
set_option maxHeartbeats 1000000 in
theorem add_any (neg neg2 : Bool) (a c : Option Addr) (n m cap cap2 : Nat) (d e : Nat → Int) (w : World) (ha : Dig w a n cap d) (hc : Dig w c m cap2 e) (hn : n ≤ 1000000000) (hm : m ≤ 1000000000)
    (h1 : n = 0 ∨ d (n - 1) ≠ 0) (h2 : m = 0 ∨ e (m - 1) ≠ 0) :
    Calls Try.prog 86 #[.agg #[.bool neg, .slice a n cap], .agg #[.bool neg2, .slice c m cap2]] w fun r w' =>
      ∃ neg' a' n' cap', r = .returned (.agg #[.bool neg', .slice a' n' cap']) ∧ IntAt w' neg' a' n' cap' (max n m + 1) (sgn neg (V d n) + sgn neg2 (V e m)) ∧ Below w.heap.size w w' := by
  by_cases hs : neg = neg2
  · subst hs
    have hs : (neg == neg) = true := by simp
    have ne1 : w.heap.size ≠ w.heap.size + 1 + 1 := by omega
    have ne2 : w.heap.size + 1 + 1 ≠ w.heap.size := by omega
    go_enter Try.func86, Try.ntmps86
    go_wp2
    go_region_held3 (fun w' => w'.cell? ⟨w.heap.size, 0, none⟩ = some (.bool neg) ∧ w'.cell? ⟨w.heap.size, 1, none⟩ = some (.slice a n cap) ∧ w'.cell? ⟨w.heap.size + 1, 1, none⟩ = some (.slice c m cap2)) (go_keep)
      (first
        | (go_at_call 138; refine (plus_dig _ _ _ _ _ _ d e _ (ha.below (bl3 _ _ _ _).drew) (hc.below (bl3 _ _ _ _).drew) hn hm).mono ?_; rintro r w1 ⟨a', N, HN, rfl, hdig, hb⟩; obtain ⟨hsz, hcell, hfz⟩ := near (w.heap.size + 3) (by simp) hb)
        | (go_at_call 91; refine (of_int _ _ _ _ (plusD d e n m) _ hdig).mono ?_; rintro r w2 ⟨neg', a2, n2, c2, rfl, hint, hb2⟩; obtain ⟨hsz2, hcell2, hfz2⟩ := near (w.heap.size + 3) hsz hb2))
    go_wp2
    refine bodyPost_ret (v := .agg #[.bool neg', .slice a2 n2 c2]) (by simp [results, Try.results86, go_sem, hcell2, hcell]) rfl ⟨neg', a2, n2, c2, rfl, ?_, ?_⟩
    · have hV := plus_V ha.dgs hc.dgs n m
      have h0 : w2.cell? ⟨w.heap.size + 1 + 1, 0, none⟩ = some (.bool false) := by simp [hcell2, hcell, go_sem]
      have h1' : w2.cell? ⟨w.heap.size + 1 + 1, 1, none⟩ = some (.slice none 0 0) := by simp [hcell2, hcell, go_sem]
      rw [unhide HN, hV] at hint
      have e1 : sgn neg (V d n + V e m) = sgn neg (V d n) + sgn neg (V e m) := by cases neg <;> simp [sgn]; omega
      rw [e1] at hint
      exact hint.put2 h0 h1' _ _
    · exact ((bthen (bthen (bl3 _ _ _ _).drew hb) hb2).setCell (by simp; omega) _).setCell (by simp; omega) _
  · have hs2 : (neg == neg2) = false := by simpa using hs
    have ne1 : w.heap.size ≠ w.heap.size + 1 + 1 := by omega
    have ne2 : w.heap.size + 1 + 1 ≠ w.heap.size := by omega
    have hcv := cmpZ_V ha.dgs hc.dgs n m h1 h2
    by_cases hge : 0 ≤ cmpZ d e n m
    · have hle : V e m ≤ V d n := by
        rw [hcv] at hge; unfold cmpInt at hge; split at hge <;> omega
      have hmn : m ≤ n := by
        unfold cmpZ at hge; split at hge <;> omega
      have Hv := hide (show sgn neg (V (lessD d e m) n) = sgn neg (V d n) + sgn neg2 (V e m) by
        rw [less_V ha.dgs hc.dgs n m hmn hle]; cases neg <;> cases neg2 <;> simp [sgn] at * <;> omega)
      clear hcv
      go_enter Try.func86, Try.ntmps86
      go_wp2_with (go_at_call 59; refine (compare_any _ _ _ _ _ _ d e _ (ha.below (bl3 _ _ _ _)) (hc.below (bl3 _ _ _ _))).mono ?_; rintro r w0 ⟨rfl, hb0⟩; obtain ⟨hsz0, hcell0, hfz0⟩ := near (w.heap.size + 3) (by simp) hb0)
      go_region_held3 (fun w' => w'.cell? ⟨w.heap.size, 0, none⟩ = some (.bool neg) ∧ w'.cell? ⟨w.heap.size, 1, none⟩ = some (.slice a n cap) ∧ w'.cell? ⟨w.heap.size + 1, 1, none⟩ = some (.slice c m cap2)) (go_keep)
        (first
          | (go_at_call 139; refine (less_dig _ _ _ _ _ _ d e _ (ha.below (bthen (bl3 _ _ _ _) hb0).drew) (hc.below (bthen (bl3 _ _ _ _) hb0).drew) hn hm).mono ?_; rintro r w1 ⟨a', rfl, hdig, hb⟩; obtain ⟨hsz, hcell, hfz⟩ := near (w.heap.size + 3) (by exact hsz0) hb)
          | (go_at_call 91; refine (of_int _ _ _ _ (lessD d e m) _ hdig).mono ?_; rintro r w2 ⟨neg', a2, n2, c2, rfl, hint, hb2⟩; obtain ⟨hsz2, hcell2, hfz2⟩ := near (w.heap.size + 3) hsz hb2))
      go_wp2
      refine bodyPost_ret (v := .agg #[.bool neg', .slice a2 n2 c2]) (by simp [results, Try.results86, go_sem, hcell2, hcell, hcell0]) rfl ⟨neg', a2, n2, c2, rfl, ?_, ?_⟩
      · have h0 : w2.cell? ⟨w.heap.size + 1 + 1, 0, none⟩ = some (.bool false) := by simp [hcell2, hcell, hcell0, go_sem]
        have h1' : w2.cell? ⟨w.heap.size + 1 + 1, 1, none⟩ = some (.slice none 0 0) := by simp [hcell2, hcell, hcell0, go_sem]
        rw [unhide Hv] at hint
        exact (hint.put2 h0 h1' _ _).mono (by omega)
      · exact ((bthen (bthen (bthen (bl3 _ _ _ _) hb0).drew hb) hb2).setCell (by simp; omega) _).setCell (by simp; omega) _
    · have hle : V d n ≤ V e m := by
        rw [hcv] at hge; unfold cmpInt at hge; split at hge <;> omega
      have hmn : n ≤ m := by
        unfold cmpZ at hge; split at hge <;> (try split at hge) <;> omega
      have Hv := hide (show sgn neg2 (V (lessD e d n) m) = sgn neg (V d n) + sgn neg2 (V e m) by
        rw [less_V hc.dgs ha.dgs m n hmn hle]; cases neg <;> cases neg2 <;> simp [sgn] at * <;> omega)
      clear hcv
      go_enter Try.func86, Try.ntmps86
      go_wp2_with (go_at_call 59; refine (compare_any _ _ _ _ _ _ d e _ (ha.below (bl3 _ _ _ _)) (hc.below (bl3 _ _ _ _))).mono ?_; rintro r w0 ⟨rfl, hb0⟩; obtain ⟨hsz0, hcell0, hfz0⟩ := near (w.heap.size + 3) (by simp) hb0)
      go_region_held3 (fun w' => w'.cell? ⟨w.heap.size + 1, 0, none⟩ = some (.bool neg2) ∧ w'.cell? ⟨w.heap.size + 1, 1, none⟩ = some (.slice c m cap2) ∧ w'.cell? ⟨w.heap.size, 1, none⟩ = some (.slice a n cap)) (go_keep)
        (first
          | (go_at_call 139; refine (less_dig _ _ _ _ _ _ e d _ (hc.below (bthen (bl3 _ _ _ _) hb0).drew) (ha.below (bthen (bl3 _ _ _ _) hb0).drew) hm hn).mono ?_; rintro r w1 ⟨a', rfl, hdig, hb⟩; obtain ⟨hsz, hcell, hfz⟩ := near (w.heap.size + 3) (by exact hsz0) hb)
          | (go_at_call 91; refine (of_int _ _ _ _ (lessD e d n) _ hdig).mono ?_; rintro r w2 ⟨neg', a2, n2, c2, rfl, hint, hb2⟩; obtain ⟨hsz2, hcell2, hfz2⟩ := near (w.heap.size + 3) hsz hb2))
      go_wp2
      refine bodyPost_ret (v := .agg #[.bool neg', .slice a2 n2 c2]) (by simp [results, Try.results86, go_sem, hcell2, hcell, hcell0]) rfl ⟨neg', a2, n2, c2, rfl, ?_, ?_⟩
      · have h0 : w2.cell? ⟨w.heap.size + 1 + 1, 0, none⟩ = some (.bool false) := by simp [hcell2, hcell, hcell0, go_sem]
        have h1' : w2.cell? ⟨w.heap.size + 1 + 1, 1, none⟩ = some (.slice none 0 0) := by simp [hcell2, hcell, hcell0, go_sem]
        rw [unhide Hv] at hint
        exact (hint.put2 h0 h1' _ _).mono (by omega)
      · exact ((bthen (bthen (bthen (bl3 _ _ _ _) hb0).drew hb) hb2).setCell (by simp; omega) _).setCell (by simp; omega) _
end Go.Proofs.Ytgmnknmjainabab
namespace Go.Proofs.Ytgmnknmjainabab
open Go.RowKit
theorem add_off (b off j : Nat) : (⟨b, off, none⟩ : Addr).add j = ⟨b, off + j, none⟩ := by unfold Addr.add; split <;> simp_all
def dcells (d : Nat → Int) (n : Nat) : List Value := (List.range n).map fun j => .int .u16 (d j)
theorem dcells_len (d : Nat → Int) (n : Nat) : (dcells d n).length = n := by simp [dcells]
theorem dcells_at (d : Nat → Int) (n j : Nat) (hj : j < n) : (dcells d n)[j]? = some (.int .u16 (d j)) := by simp [dcells, hj]
theorem dcells_some {d : Nat → Int} {n j : Nat} {u : Value} (h : (dcells d n)[j]? = some u) : j < n ∧ u = .int .u16 (d j) := by
  by_cases hj : j < n
  · rw [dcells_at d n j hj] at h; exact ⟨hj, (Option.some.inj h).symm⟩
  · rw [List.getElem?_eq_none (by rw [dcells_len]; omega)] at h; cases h
theorem dcells_one (d : Nat → Int) (n : Nat) : ∀ u ∈ dcells d n, u.oneCell' = true := by
  intro u hu
  obtain ⟨j, _, rfl⟩ := List.mem_map.1 hu
  rfl
theorem run_append_copy {Pr : Program} (w : World) (t ty e : TypeId) (i : TypeInfo) (z : Value) (ht : Pr.underlying t = some (.slice e)) (hi : Pr.info? e = some i) (hz : i.zero = some z) (h4 : i.size = 1) (hb : i.bytes = 2)
    (b : Nat) (ad : Option Addr) (n cap : Nat) (d : Nat → Int) (hD : Dig w ad n cap d) (hn : n ≤ 1000000000) :
    ∃ a' cap' w', (Builtin.append_ #[t, t] ty #[.slice (some ⟨b, 0, none⟩) 0 0, .slice ad n cap]).run Pr w = .ok (.slice a' n cap') w' ∧ Dig w' a' n cap' d ∧ Below w.heap.size w w' := by
  by_cases h0 : n = 0
  · subst h0
    have hs : Src Pr i.size t (.slice ad 0 cap) 0 [] w := by
      cases ad with
      | none => exact Src.ofNil w ht cap
      | some ad => exact Src.ofSlice w ht ad 0 cap [] (by simp) (by simp) (by simp)
    have hr := run_append_room_src (P := Pr) w t t ty e i ht hi b 0 0 0 (.slice ad 0 cap) 0 [] hs (by omega) (by simp) (by simp)
    exact ⟨_, _, _, hr, ⟨fun h => by omega, hD.dgs, Nat.le_refl _, by omega⟩, by simp [World.setCells]; exact Below.refl _ _⟩
  · obtain ⟨b1, off, rfl, hb1, hc⟩ := hD.at_ (by omega)
    have hs : Src Pr i.size t (.slice (some ⟨b1, off, none⟩) n cap) n (dcells d n) w :=
      Src.ofSlice w ht ⟨b1, off, none⟩ n cap (dcells d n) (by rw [dcells_len, h4]; omega) (fun j u hu => by
        obtain ⟨hj, rfl⟩ := dcells_some hu
        rw [add_off]; exact hc j hj) (dcells_one d n)
    have hr := run_append_grow_src (P := Pr) w t t ty e i z ht hi hz (some ⟨b, 0, none⟩) 0 0 [] (run_firstCells_some w.drew i.size 0 ⟨b, 0, none⟩ 0 0 [] (by simp) (by simp)) (.slice (some ⟨b1, off, none⟩) n cap) n (dcells d n) hs (by omega) (by omega)
      (by rw [hb]; unfold Builtin.nextslicecap; rw [if_pos (by omega)]; omega)
    simp only [Nat.zero_add, List.nil_append] at hr
    refine ⟨_, _, _, hr, ⟨fun _ => ⟨w.heap.size, 0, rfl, ?_, fun j hj => ?_⟩, hD.dgs, grownCap_ge w n 0 e, by omega⟩, (Below.refl _ _).drew.alloc (Nat.le_refl _) _⟩
    · show w.heap.size < (w.drew.alloc _).heap.size
      simp
    · rw [World.cell?_alloc_at _ _ _ _ (show w.heap.size = w.drew.heap.size from rfl)]
      rw [Nat.zero_add, Array.getElem?_append_left (by simp [dcells_len]; exact hj)]
      simpa using dcells_at d n j hj
theorem step_append_copy {Pr : Program} {ops : Array Oper} {o : Oper} {a : Act} {w : World} {K : Act → World → Prop} {Q : Exit → Act → World → Prop} {E : Prop}
    (hg : o.guard = none) (s x : Operand) (t : TypeId) (hop : o.op = Op.call { callee := Callee.builtin Builtin.append, args := #[s, x], argTypes := #[t, t] })
    (e : TypeId) (ht : Pr.underlying t = some (.slice e)) (hinfo : (Pr.info? e).map (fun i => (i.zero, i.size, i.bytes)) = some (some (.int .u16 0), 1, 2))
    (b : Nat) (hs : a.eval s = .slice (some ⟨b, 0, none⟩) 0 0) (ad : Option Addr) (n cap : Nat) (d : Nat → Int) (hx : a.eval x = .slice ad n cap) (hD : Dig w ad n cap d) (hn : n ≤ 1000000000)
    (hK : ∀ a' cap' w', Dig w' a' n cap' d → Below w.heap.size w w' → K (a.put o.dst (.slice a' n cap')) w') :
    if Region.wanted o (yielded ops a.tmps) = true then Oper.wp Pr o a w K Q else E := by
  have hw : Region.wanted o (yielded ops a.tmps) = true := by simp [Region.wanted, hg]
  rw [if_pos hw]
  obtain ⟨i, hi, hzz⟩ := Option.map_eq_some_iff.1 hinfo
  simp only [Prod.mk.injEq] at hzz
  obtain ⟨hz, hsz, hby⟩ := hzz
  obtain ⟨a', cap', w', hrun, h1, h2⟩ := run_append_copy (Pr := Pr) w t o.type e i _ ht hi hz hsz hby b ad n cap d hD hn
  unfold Oper.wp
  simp [execOp, hop, resolve, invoke, builtin, hs, hx, hrun, Result.andThen]
  exact hK a' cap' w' h1 h2
end Go.Proofs.Ytgmnknmjainabab
namespace Go.Proofs.Ytgmnknmjainabab
open Go.RowKit
attribute [local go_sem ↓] Go.wp_at_zero Go.wp_at_succ
theorem add_int (neg neg2 : Bool) (a c : Option Addr) (n m cap cap2 k k2 : Nat) (x y : Int) (w : World) (h1 : IntAt w neg a n cap k x) (h2 : IntAt w neg2 c m cap2 k2 y) (hk : k ≤ 1000000000) (hk2 : k2 ≤ 1000000000) :
    Calls Try.prog 86 #[.agg #[.bool neg, .slice a n cap], .agg #[.bool neg2, .slice c m cap2]] w fun r w' =>
      ∃ neg' a' n' cap', r = .returned (.agg #[.bool neg', .slice a' n' cap']) ∧ IntAt w' neg' a' n' cap' (max k k2 + 1) (x + y) ∧ Below w.heap.size w w' := by
  obtain ⟨d, g1, g2, g3, g4, rfl⟩ := h1
  obtain ⟨e, f1, f2, f3, f4, rfl⟩ := h2
  exact (add_any neg neg2 a c n m cap cap2 d e w g1 f1 (by omega) (by omega) g2 f2).mono fun _ _ ⟨n1, n2, n3, n4, q1, q2, q3⟩ => ⟨n1, n2, n3, n4, q1, q2.mono (by omega), q3⟩
set_option maxRecDepth 100000 in
set_option maxHeartbeats 1000000 in
theorem sub_int (neg neg2 : Bool) (a c : Option Addr) (n m cap cap2 k k2 : Nat) (x y : Int) (w : World) (h1 : IntAt w neg a n cap k x) (h2 : IntAt w neg2 c m cap2 k2 y) (hk : k ≤ 1000000000) (hk2 : k2 ≤ 1000000000) :
    Calls Try.prog 53 #[.agg #[.bool neg, .slice a n cap], .agg #[.bool neg2, .slice c m cap2]] w fun r w' =>
      ∃ neg' a' n' cap', r = .returned (.agg #[.bool neg', .slice a' n' cap']) ∧ IntAt w' neg' a' n' cap' (max k k2 + 1) (x - y) ∧ Below w.heap.size w w' := by
  have H1 := hide h1
  obtain ⟨e, f1, f2, f3, f4, fy⟩ := h2
  have Hy := hide (show sgn (!neg2) (V e m) = -y by rw [fy]; cases neg2 <;> simp [sgn])
  have Hx := hide (show x + -y = x - y by omega)
  clear h1 fy
  have ne1 : w.heap.size ≠ w.heap.size + 1 + 1 := by omega
  have ne2 : w.heap.size + 1 + 1 ≠ w.heap.size := by omega
  go_enter Try.func53, Try.ntmps53
  go_wp2
  go_region_held3 (fun w' => w'.cell? ⟨w.heap.size, 0, none⟩ = some (.bool neg) ∧ w'.cell? ⟨w.heap.size, 1, none⟩ = some (.slice a n cap) ∧ w'.cell? ⟨w.heap.size + 1, 0, none⟩ = some (.bool neg2) ∧ w'.cell? ⟨w.heap.size + 1, 1, none⟩ = some (.slice c m cap2)) (go_keep)
    (first
      | (go_at_call 91; refine (of_int _ _ _ _ e _ (f1.below (bl3 _ _ _ _).drew)).mono ?_; rintro r w1 ⟨neg1, a1, n1, c1, rfl, hint1, hb⟩; obtain ⟨hsz, hcell, hfz⟩ := near (w.heap.size + 3) (by simp) hb)
      | (go_at_call 86; refine (add_int _ _ _ _ _ _ _ _ k m x _ _ ((unhide H1).below (bthen (bl3 _ _ _ _).drew hb)) hint1 hk (by omega)).mono ?_; rintro r w2 ⟨neg', a2, n2, c2, rfl, hint, hb2⟩; obtain ⟨hsz2, hcell2, hfz2⟩ := near (w.heap.size + 3) hsz hb2))
  go_wp2
  refine bodyPost_ret (v := .agg #[.bool neg', .slice a2 n2 c2]) (by simp [results, Try.results53, go_sem, hcell2, hcell]) rfl ⟨neg', a2, n2, c2, rfl, ?_, ?_⟩
  · have h0 : w2.cell? ⟨w.heap.size + 1 + 1, 0, none⟩ = some (.bool false) := by simp [hcell2, hcell, go_sem]
    have h1' : w2.cell? ⟨w.heap.size + 1 + 1, 1, none⟩ = some (.slice none 0 0) := by simp [hcell2, hcell, go_sem]
    rw [unhide Hy, unhide Hx] at hint
    exact (hint.put2 h0 h1' _ _).mono (by omega)
  · exact ((bthen (bthen (bl3 _ _ _ _).drew hb) hb2).setCell (by simp; omega) _).setCell (by simp; omega) _
set_option maxRecDepth 100000 in
set_option maxHeartbeats 1000000 in
theorem neg_int (neg : Bool) (a : Option Addr) (n cap k : Nat) (x : Int) (w : World) (h1 : IntAt w neg a n cap k x) (hk : k ≤ 1000000000) :
    Calls Try.prog 83 #[.agg #[.bool neg, .slice a n cap]] w fun r w' =>
      ∃ neg' a' n' cap', r = .returned (.agg #[.bool neg', .slice a' n' cap']) ∧ IntAt w' neg' a' n' cap' k (-x) ∧ Below w.heap.size w w' := by
  obtain ⟨d, f1, f2, f3, f4, fy⟩ := h1
  have Hy := hide (show sgn (!neg) (V d n) = -x by rw [fy]; cases neg <;> simp [sgn])
  clear fy
  go_enter Try.func83, Try.ntmps83
  go_wp2
  go_region_held3 (fun w' => w'.cell? ⟨w.heap.size, 0, none⟩ = some (.bool neg) ∧ w'.cell? ⟨w.heap.size, 1, none⟩ = some (.slice a n cap)) (go_keep)
    (first
      | (refine step_append_copy (by rfl) _ _ 24 (by rfl) 85 Try.underlying24 Try.infoU16 _ (by rfl) _ _ _ d (by rfl) (f1.below (bl3 _ _ _ _).drew) (by omega) ?_; intro a1 c1 w1 hdig hb; obtain ⟨hsz, hcell, hfz⟩ := near (w.heap.size + 2) (by simp) hb)
      | (go_at_call 91; refine (of_int _ _ _ _ d _ hdig).mono ?_; rintro r w2 ⟨neg', a2, n2, c2, rfl, hint, hb2⟩; obtain ⟨hsz2, hcell2, hfz2⟩ := near (w.heap.size + 2) hsz hb2))
  go_wp2
  refine bodyPost_ret (v := .agg #[.bool neg', .slice a2 n2 c2]) (by simp [results, Try.results83, go_sem, hcell2, hcell]) rfl ⟨neg', a2, n2, c2, rfl, ?_, ?_⟩
  · have h0 : w2.cell? ⟨w.heap.size + 1, 0, none⟩ = some (.bool false) := by simp [hcell2, hcell, go_sem]
    have h1' : w2.cell? ⟨w.heap.size + 1, 1, none⟩ = some (.slice none 0 0) := by simp [hcell2, hcell, go_sem]
    rw [unhide Hy] at hint
    exact (hint.put2 h0 h1' _ _).mono (by omega)
  · exact ((bthen (bthen (bl3 _ _ _ _).drew hb) hb2).setCell (by simp) _).setCell (by simp) _
end Go.Proofs.Ytgmnknmjainabab
namespace Go.Proofs.Ytgmnknmjainabab
open Go.RowKit
def upd (o : Nat → Int) (p : Nat) (v : Int) (j : Nat) : Int := if j = p then v else o j
theorem upd_dgs {o : Nat → Int} (h : Dgs o) (p : Nat) {v : Int} (h0 : 0 ≤ v) (h1 : v < 65536) : Dgs (upd o p v) := by
  intro j; unfold upd; split
  · exact ⟨h0, h1⟩
  · exact h j
theorem upd_V (o : Nat → Int) (p : Nat) (v : Int) (N : Nat) (hp : p < N) : V (upd o p v) N = V o N + (v - o p) * P p := by
  induction N with
  | zero => omega
  | succ N ih =>
    simp only [V]
    by_cases hN : p = N
    · subst hN
      have : V (upd o p v) p = V o p := V_congr p (fun j hj => by simp [upd]; omega)
      rw [this]; simp only [upd, if_true, Int.sub_mul]; omega
    · rw [ih (by omega)]
      have : upd o p v N = o N := by simp [upd]; omega
      rw [this]; omega
theorem row_upd {wr : World} {b t N : Nat} {o : Nat → Int} (h : wr.rowIs b t N (fun j => .int .u16 (o j))) (p : Nat) {v u : Int} (hv : u = v) :
    (wr.setCell ⟨b, p, none⟩ (.int .u16 u)).rowIs b t N (fun j => .int .u16 (upd o p v j)) := by
  refine (h.set p (.int .u16 u)).congr fun j _ => ?_
  subst hv
  unfold upd; split <;> rfl
theorem V_zero (n : Nat) : V (fun _ => 0) n = 0 := by
  induction n with
  | zero => rfl
  | succ n ih => simp [V, ih]
theorem mul_alg (x v y : Int) (i k : Nat) : x * (v + y * P k) * P i = x * v * P i + x * y * P (i + k) := by
  rw [P_add, Int.mul_add, Int.add_mul, ← Int.mul_assoc x y (P k), Int.mul_assoc (x * y), Int.mul_comm (P k) (P i)]
theorem mul_step {o : Nat → Int} {N p : Nat} (hp : p < N) (c x y : Int) {T : Int} (h : V o N + c * P p = T) : V (upd o p ((c + (x * y + o p)) % 65536)) N + ((c + (x * y + o p)) / 65536) * P (p + 1) = T + x * y * P p := by
  rw [upd_V _ _ _ _ hp]
  have h1 : ((c + (x * y + o p)) % 65536 - o p) * P p + (c + (x * y + o p)) / 65536 * (65536 * P p) = (c + x * y) * P p := by
    rw [← Int.mul_assoc, ← Int.add_mul]; congr 1; omega
  have h2 : (c + x * y) * P p = c * P p + x * y * P p := Int.add_mul _ _ _
  simp only [P]; omega
theorem mul_bd {x y c z : Int} (hx : 0 ≤ x ∧ x < 65536) (hy : 0 ≤ y ∧ y < 65536) (hc : 0 ≤ c ∧ c < 65536) (hz : 0 ≤ z ∧ z < 65536) :
    0 ≤ x * y ∧ x * y ≤ 4294836225 := by
  refine ⟨Int.mul_nonneg hx.1 hy.1, ?_⟩
  have h1 : x * y ≤ 65535 * y := Int.mul_le_mul_of_nonneg_right (by omega) hy.1
  omega
set_option maxRecDepth 100000 in
set_option maxHeartbeats 1000000 in
theorem mul_any (neg neg2 : Bool) (a c : Option Addr) (n m cap cap2 : Nat) (d e : Nat → Int) (w : World) (ha : Dig w a n cap d) (hc : Dig w c m cap2 e) (hn : n ≤ 1000000000) (hm : m ≤ 1000000000) :
    Calls Try.prog 84 #[.agg #[.bool neg, .slice a n cap], .agg #[.bool neg2, .slice c m cap2]] w fun r w' =>
      ∃ neg' a' n' cap', r = .returned (.agg #[.bool neg', .slice a' n' cap']) ∧ IntAt w' neg' a' n' cap' (n + m) (sgn (neg != neg2) (V d n * V e m)) ∧ Below w.heap.size w w' := by
  obtain ⟨W, hW⟩ : ∃ W, W = ((w.alloc (.cells #[.bool neg, .slice a n cap] 26)).alloc (.cells #[.bool neg2, .slice c m cap2] 26)).alloc (.cells #[.bool false, .slice none 0 0] 26) := ⟨_, rfl⟩
  have b3 : Below w.heap.size w W := by rw [hW]; exact bl3 _ _ _ _
  have s3 : W.heap.size = w.heap.size + 1 + 1 + 1 := by rw [hW]; simp
  have k0 : W.cell? ⟨w.heap.size, 0, none⟩ = some (.bool neg) := by rw [hW]; simp [go_sem]
  have k1 : W.cell? ⟨w.heap.size + 1, 0, none⟩ = some (.bool neg2) := by rw [hW]; simp [go_sem]
  have k2 : W.cell? ⟨w.heap.size + 1, 1, none⟩ = some (.slice c m cap2) := by rw [hW]; simp [go_sem]
  have k3 : W.cell? ⟨w.heap.size + 1 + 1, 0, none⟩ = some (.bool false) := by rw [hW]; simp [go_sem]
  have k4 : W.cell? ⟨w.heap.size + 1 + 1, 1, none⟩ = some (.slice none 0 0) := by rw [hW]; simp [go_sem]
  have k5 : ∀ o, W.frozen? ⟨w.heap.size + 1 + 1, o, none⟩ = false := by intro o; rw [hW]; simp [go_sem]
  have HW := hide hW
  clear hW
  have hmk := run_make_row' (P := Try.prog) 24 85 (.int .u16 0) 2 Try.underlying24 Try.infoU16 rfl .i64 .i64 (n + m) (by omega) (by omega)
  have hnm : ((n + m : Nat) : Int) = (n : Int) + m := by omega
  rw [hnm] at hmk
  clear hnm
  go_enter Try.func84, Try.ntmps84
  go_wp2
  clear hmk
  go_loopw [22] (fun ii wr => ∃ (i : Nat) (o : Nat → Int), i ≤ n ∧ ii = .int .i64 i ∧ wr.rowIs (w.heap.size + 1 + 1 + 1) 85 (n + m) (fun j => .int .u16 (o j)) ∧ Dgs o ∧ V o (n + m) = V d i * V e m ∧ (∀ j, i + m ≤ j → o j = 0) ∧ Below (w.heap.size + 1 + 1 + 1) W wr) (fun ii _ => n - (intOf ii).toNat)
  case atStart =>
    refine ⟨0, fun _ => 0, Nat.zero_le _, rfl, ?_, fun _ => ⟨by simp, by simp⟩, ?_, fun _ _ => rfl, ?_⟩
    · have := World.rowIs_made W (.int .u16 0) (n + m) 85
      rw [s3, unhide HW] at this; exact this
    · rw [V_zero]; simp [V]
    · rw [unhide HW]; exact (Below.refl _ _).alloc (by simp) _
  case round =>
    obtain ⟨i, o, hi, rfl, hrow, hod, hov, hoz, hbl⟩ := hrel
    by_cases hin : i < n
    · obtain ⟨b1, o1, rfl, hb1, hc1⟩ := ha.at_ (by omega)
      have g1 : wr.cell? ⟨b1, o1 + i, none⟩ = some (.int .u16 (d i)) := (hbl.cell (p := ⟨b1, o1 + i, none⟩) (by show b1 < _; omega)).trans ((b3.cell (p := ⟨b1, o1 + i, none⟩) hb1).trans (hc1 i hin))
      have q2 : wr.cell? ⟨w.heap.size + 1, 1, none⟩ = some (.slice c m cap2) := (hbl.cell (p := ⟨w.heap.size + 1, 1, none⟩) (by simp)).trans k2
      have db := ha.dgs i
      have HV := hide hov
      have HZ := hide hoz
      have HR := hide hrow
      have HD := hide hod
      clear hc1 hov hoz hrow hod
      go_wp2
      go_loopw [8, 30] (fun cy kk wq => ∃ (k : Nat) (o' : Nat → Int) (cz : Int), k ≤ m ∧ kk = .int .i64 k ∧ cy = .int .u32 cz ∧ 0 ≤ cz ∧ cz < 65536 ∧ wq.rowIs (w.heap.size + 1 + 1 + 1) 85 (n + m) (fun j => .int .u16 (o' j)) ∧ Dgs o' ∧ V o' (n + m) + cz * P (i + k) = V d i * V e m + d i * V e k * P i ∧ (∀ j, i + m ≤ j → o' j = 0) ∧ Below (w.heap.size + 1 + 1 + 1) W wq) (fun _ kk _ => m - (intOf kk).toNat)
      case atStart =>
        exact ⟨0, o, 0, Nat.zero_le _, rfl, rfl, by omega, by omega, unhide HR, unhide HD, by rw [unhide HV]; simp [V], unhide HZ, hbl⟩
      case round =>
        obtain ⟨k, o', cz, hk, rfl, rfl, hz0, hz1, hrow, hod, hov, hoz, hbl⟩ := hrel
        by_cases hkm : k < m
        · obtain ⟨b2, o2, rfl, hb2, hc2⟩ := hc.at_ (by omega)
          have g2 : wr.cell? ⟨b2, o2 + k, none⟩ = some (.int .u16 (e k)) := (hbl.cell (p := ⟨b2, o2 + k, none⟩) (by show b2 < _; omega)).trans ((b3.cell (p := ⟨b2, o2 + k, none⟩) hb2).trans (hc2 k hkm))
          have eb := hc.dgs k
          have r1 := hrow.cell (show i + k < n + m by omega)
          have r2 := hrow.frozen (i + k)
          have ob := hod (i + k)
          have pb := mul_bd db eb ⟨hz0, hz1⟩ ob
          clear hc2
          go_wp2
          go_roundw
          case rel =>
            refine ⟨k + 1, upd o' (i + k) ((cz + (d i * e k + o' (i + k))) % 65536), (cz + (d i * e k + o' (i + k))) / 65536, by omega, by go_num, rfl, by omega, by omega, row_upd hrow (i + k) (wrap16 _), upd_dgs hod _ (by omega) (by omega), ?_, fun j hj => ?_, hbl.setCell (by simp) _⟩
            · have h1 := mul_step (show i + k < n + m by omega) cz (d i) (e k) hov
              have h2 := mul_alg (d i) (V e k) (e k) i k
              simp only [V]
              rw [← Nat.add_assoc]; omega
            · have : j ≠ i + k := by omega
              simp [upd, this]; exact hoz j hj
          case measure => simp [intOf]; omega
        · have hkE : k = m := by omega
          subst hkE
          have r1 := hrow.cell (show i + k < n + k by omega)
          have r2 := hrow.frozen (i + k)
          have q2 : wr.cell? ⟨w.heap.size + 1, 1, none⟩ = some (.slice c k cap2) := (hbl.cell (p := ⟨w.heap.size + 1, 1, none⟩) (by simp)).trans k2
          have hoi := hoz (i + k) (by omega)
          have HV2 := hide hov
          have HZ2 := hide hoz
          have HI := hide hoi
          clear hov hoz hoi
          go_wp2
          go_roundw
          case rel =>
            refine ⟨i + 1, upd o' (i + k) cz, by omega, by go_num, row_upd hrow (i + k) rfl, upd_dgs hod _ hz0 hz1, ?_, fun j hj => ?_, hbl.setCell (by simp) _⟩
            · rw [upd_V _ _ _ _ (by omega), unhide HI, Int.sub_zero, unhide HV2]
              simp only [V]; rw [Int.add_mul, Int.mul_assoc (d i), Int.mul_comm (V e k) (P i), ← Int.mul_assoc]
            · have : j ≠ i + k := by omega
              simp [upd, this]; exact unhide HZ2 j (by omega)
          case measure => simp [intOf]; omega
    · have hiE : i = n := by omega
      subst hiE
      have q0 : wr.cell? ⟨w.heap.size, 0, none⟩ = some (.bool neg) := (hbl.cell (p := ⟨w.heap.size, 0, none⟩) (by simp; omega)).trans k0
      have q1 : wr.cell? ⟨w.heap.size + 1, 0, none⟩ = some (.bool neg2) := (hbl.cell (p := ⟨w.heap.size + 1, 0, none⟩) (by simp)).trans k1
      have q3 : wr.cell? ⟨w.heap.size + 1 + 1, 0, none⟩ = some (.bool false) := (hbl.cell (p := ⟨w.heap.size + 1 + 1, 0, none⟩) (by simp)).trans k3
      have q4 : wr.cell? ⟨w.heap.size + 1 + 1, 1, none⟩ = some (.slice none 0 0) := (hbl.cell (p := ⟨w.heap.size + 1 + 1, 1, none⟩) (by simp)).trans k4
      have q5 : ∀ o, wr.frozen? ⟨w.heap.size + 1 + 1, o, none⟩ = false := fun o => (hbl.frozen (p := ⟨w.heap.size + 1 + 1, o, none⟩) (by simp)).trans (k5 o)
      have hsw := hbl.size
      rw [s3] at hsw
      have HR := hide (rowDig hrow hod (by omega))
      have HV := hide hov
      clear hov hoz hrow hod
      go_wp2_with (go_at_call 91; refine (of_int _ _ _ _ o _ (unhide HR)).mono ?_; rintro r w2 ⟨neg', a2, n2, c2, rfl, hint, hb2⟩; obtain ⟨hsz2, hcell2, hfz2⟩ := near (w.heap.size + 1 + 1 + 1) hsw hb2)
      refine bodyPost_ret (v := .agg #[.bool neg', .slice a2 n2 c2]) (by simp [results, Try.results84, go_sem, hcell2, q3, q4]) rfl ⟨neg', a2, n2, c2, rfl, ?_, ?_⟩
      · have h0 : w2.cell? ⟨w.heap.size + 1 + 1, 0, none⟩ = some (.bool false) := by simp [hcell2, q3]
        have h1' : w2.cell? ⟨w.heap.size + 1 + 1, 1, none⟩ = some (.slice none 0 0) := by simp [hcell2, q4]
        rw [unhide HV] at hint
        exact hint.put2 h0 h1' _ _
      · exact ((bthen (b3.trans (hbl.mono (by omega))) hb2).setCell (by simp; omega) _).setCell (by simp; omega) _
theorem mul_int (neg neg2 : Bool) (a c : Option Addr) (n m cap cap2 k k2 : Nat) (x y : Int) (w : World) (h1 : IntAt w neg a n cap k x) (h2 : IntAt w neg2 c m cap2 k2 y) (hk : k ≤ 1000000000) (hk2 : k2 ≤ 1000000000) :
    Calls Try.prog 84 #[.agg #[.bool neg, .slice a n cap], .agg #[.bool neg2, .slice c m cap2]] w fun r w' =>
      ∃ neg' a' n' cap', r = .returned (.agg #[.bool neg', .slice a' n' cap']) ∧ IntAt w' neg' a' n' cap' (k + k2) (x * y) ∧ Below w.heap.size w w' := by
  obtain ⟨d, g1, g2, g3, g4, rfl⟩ := h1
  obtain ⟨e, f1, f2, f3, f4, rfl⟩ := h2
  have hs : sgn (neg != neg2) (V d n * V e m) = sgn neg (V d n) * sgn neg2 (V e m) := by
    cases neg <;> cases neg2 <;> simp [sgn, Int.neg_mul, Int.mul_neg]
  rw [← hs]
  exact (mul_any neg neg2 a c n m cap cap2 d e w g1 f1 (by omega) (by omega)).mono fun _ _ ⟨n1, n2, n3, n4, q1, q2, q3⟩ => ⟨n1, n2, n3, n4, q1, q2.mono (by omega), q3⟩
end Go.Proofs.Ytgmnknmjainabab
namespace Go.Proofs.Ytgmnknmjainabab
open Go.RowKit
def Own (w : World) (base : Nat) (e : TypeId) (a : Option Addr) (n cap : Nat) (d : Nat → Int) : Prop := w.ownsRow base e 1 (.slice a n cap) n (dcells d n)
theorem dcells_upd (d : Nat → Int) (n : Nat) (v : Int) : dcells (upd d n v) (n + 1) = dcells d n ++ [.int .u16 v] := by
  unfold dcells
  rw [List.range_succ, List.map_append]
  congr 1
  · apply List.map_congr_left
    intro j hj
    have := List.mem_range.1 hj
    have : j ≠ n := by omega
    simp [upd, this]
  · simp [upd]
theorem Own.dig {w : World} {base : Nat} {e : TypeId} {a : Option Addr} {n cap : Nat} {d : Nat → Int} (h : Own w base e a n cap d) (hd : Dgs d) (hn : n ≤ 70368744177664) : Dig w a n cap d := by
  have h' : w.ownsRow base e 1 (.slice a n cap) n (dcells d n) := h
  refine ⟨fun h0 => ?_, hd, ?_, hn⟩
  · obtain ⟨g, c2, hv, h1, h2⟩ := World.ownsRow.form h' h0
    simp only [Value.slice.injEq] at hv
    obtain ⟨rfl, _, rfl⟩ := hv
    refine ⟨g, 0, rfl, h2, fun j hj => ?_⟩
    have := World.ownsRow.cellAt h' j (by omega)
    rw [Nat.zero_add, this, dcells_at d n j hj]
  · rcases h'.2 with ⟨hv, h0⟩ | ⟨g, c2, cur, hv, _, _, hle, _⟩
    · omega
    · simp only [Value.slice.injEq] at hv
      omega
theorem Own.nil (w : World) (base : Nat) (e : TypeId) (d : Nat → Int) : Own w base e none 0 0 d := World.ownsRow_nil w base e 1
theorem Own.alloc {w : World} {base : Nat} {e : TypeId} {a : Option Addr} {n cap : Nat} {d : Nat → Int} (h : Own w base e a n cap d) (o : Obj) : Own (w.alloc o) base e a n cap d := World.ownsRow.alloc h o
theorem wpList_append_digit {Pr : Program} (w : World) {ops : Array Oper} {rest : List Oper} {o : Oper} {act : Act} {Q : Exit → Act → World → Prop} (hgd : o.guard = none) (s x : Operand) (t : TypeId)
    (ho : o.op = .call { callee := .builtin .append, args := #[s, x], argTypes := #[t, t] })
    (base : Nat) (e : TypeId) (ht : Pr.underlying t = some (.slice e)) (hinfo : (Pr.info? e).map (fun i => (i.zero, i.size, i.bytes)) = some (some (.int .u16 0), 1, 2))
    (a : Option Addr) (n cap : Nat) (d : Nat → Int) (hs : act.eval s = .slice a n cap) (hown : Own w base e a n cap d) (g c : Nat) (v : Int) (hx : act.eval x = .slice (some ⟨g, 0, none⟩) 1 c)
    (hv : w.cell? ⟨g, 0, none⟩ = some (.int .u16 v)) (hn : n ≤ 1000000000) (hbase : base ≤ w.heap.size)
    (h : ∀ a' cap' w', Own w' base e a' (n + 1) cap' (upd d n v) → Below base w w' → wpList Pr ops Q rest (act.put o.dst (.slice a' (n + 1) cap')) w') : wpList Pr ops Q (o :: rest) act w := by
  obtain ⟨i, hi, hz0, hz1, hz2⟩ := info_parts hinfo
  have hlt : ∀ k, (Value.slice a n cap).ownBlock = some k → base ≤ k := fun k hk => (World.ownsRow.lt hown k hk).1
  refine wpList_append_lies w hgd s x t ho base e i (.int .u16 0) 1 2 ht hi hz0 hz1 hz2 rfl (by decide) (.slice a n cap) n (dcells d n) hs hown ⟨g, 0, none⟩ 1 c [.int .u16 v] hx rfl ?_ ?_ (by decide) ?_ ?_ hbase _ rfl ?_
  · intro j u hj
    match j, hj with
    | 0, hj => simp at hj; subst hj; rw [add_off]; exact hv
  · intro u hu; simp at hu; subst hu; rfl
  · unfold maxLen; omega
  · omega
  · intro g' cap' w' hown' hgrow _ _
    rw [← dcells_upd] at hown'
    exact h _ _ _ hown' ((Below.refl base w).grown hgrow hbase hlt)
end Go.Proofs.Ytgmnknmjainabab
namespace Go.Proofs.Ytgmnknmjainabab
open Go.RowKit
theorem P4 : P 4 = 18446744073709551616 := rfl
theorem of_step (d : Nat → Int) (k : Nat) (u X : Int) (h : V d k + u * P k = X) : V (upd d k (u % 65536)) (k + 1) + u / 65536 * P (k + 1) = X := by
  simp only [V, P]
  have h1 : V (upd d k (u % 65536)) k = V d k := V_congr k (fun j hj => by simp [upd]; omega)
  have h2 : upd d k (u % 65536) k = u % 65536 := by simp [upd]
  rw [h1, h2]
  have h3 : u % 65536 * P k + u / 65536 * (65536 * P k) = u * P k := by
    rw [← Int.mul_assoc, ← Int.add_mul]; congr 1; omega
  omega
set_option maxRecDepth 100000 in
set_option maxHeartbeats 1000000 in
theorem numOf_aux (x X : Int) (neg : Bool) (w : World) (h0 : -9223372036854775808 ≤ x) (h1 : x ≤ 9223372036854775807) (hneg : decide (x < 0) = neg) (hX : X = if neg then -x else x) :
    Calls Try.prog 48 #[.int .i64 x] w fun r w' =>
      ∃ neg' a' n' cap', r = .returned (.agg #[.bool neg', .slice a' n' cap']) ∧ IntAt w' neg' a' n' cap' 4 x ∧ Below w.heap.size w w' := by
  cases neg
  · have hx : ¬ x < 0 := by simpa using hneg
    simp at hX
    subst hX
    have hX0 : 0 ≤ X := by omega
    clear hneg h0
    go_enter Try.func48, Try.ntmps48
    go_wp2
    go_loopw [5, 4] (fun l u wr => ∃ (k : Nat) (a : Option Addr) (cap : Nat) (d : Nat → Int) (uu : Int), l = .slice a k cap ∧ u = .int .u64 uu ∧ 0 ≤ uu ∧ uu ≤ X ∧ Own wr (w.heap.size + 1) 85 a k cap d ∧ Dgs d ∧ V d k + uu * P k = X ∧ (k = 0 ∨ d (k - 1) ≠ 0 ∨ uu ≠ 0) ∧ k ≤ 4 ∧ Below (w.heap.size + 1) (w.alloc (.cells #[.bool false, .slice none 0 0] 26)) wr) (fun _ u _ => (intOf u).toNat)
    case atStart => exact ⟨0, none, 0, fun _ => 0, X, rfl, rfl, hX0, Int.le_refl _, Own.nil _ _ _ _, fun _ => ⟨by simp, by simp⟩, by simp [V, P], Or.inl rfl, by omega, Below.refl _ _⟩
    case round =>
      obtain ⟨k, a, cap, d, uu, rfl, rfl, hu0, hu1, hown, hd, hV, htop, hk4, hbl⟩ := hrel
      have hsz := hbl.size
      simp at hsz
      by_cases hz : uu = 0
      · subst hz
        have q0 : wr.cell? ⟨w.heap.size, 0, none⟩ = some (.bool false) := (hbl.cell (p := ⟨w.heap.size, 0, none⟩) (by simp)).trans (by simp [go_sem])
        have q1 : wr.cell? ⟨w.heap.size, 1, none⟩ = some (.slice none 0 0) := (hbl.cell (p := ⟨w.heap.size, 1, none⟩) (by simp)).trans (by simp [go_sem])
        have q5 : ∀ o, wr.frozen? ⟨w.heap.size, o, none⟩ = false := fun o => (hbl.frozen (p := ⟨w.heap.size, o, none⟩) (by simp)).trans (by simp [go_sem])
        have HD := hide (hown.dig hd (by omega))
        have HV := hide hV
        have HT := hide htop
        clear hV htop hown hd
        go_wp2
        refine bodyPost_ret (v := .agg #[.bool false, .slice a k cap]) (by simp [results, Try.results48, go_sem, q0, q1]) rfl ⟨false, a, k, cap, rfl, ?_, ?_⟩
        · refine IntAt.put2 ?_ q0 q1 _ _
          have hV := unhide HV
          simp at hV
          refine ⟨d, unhide HD, ?_, fun hk0 => ?_, hk4, by rw [hV]; simp [sgn]⟩
          · have := unhide HT; omega
          · subst hk0; simp [V] at hV; first | rfl | (exfalso; omega)
        · exact (((bl1 _ _).trans (hbl.mono (by omega))).setCell (by simp) _).setCell (by simp) _
      · have hup : 0 < uu := by omega
        have hk3 : k < 4 := by
          have hk4' : P k < P 4 ∨ 4 ≤ k := by
            by_cases hh : 4 ≤ k
            · exact Or.inr hh
            · left; have : P (k + 1) ≤ P 4 := P_mono (by omega)
              have := P_pos k; simp only [P] at *; omega
          rcases hk4' with hh | hh
          · by_cases h4 : k = 4
            · subst h4; omega
            · omega
          · have h5 : P 4 ≤ P k := P_mono hh
            have h6 : 1 * P k ≤ uu * P k := Int.mul_le_mul_of_nonneg_right (by omega) (by have := P_pos k; omega)
            have h7 := V_nonneg hd k
            rw [P4] at h5; omega
        have H1 := hide (of_step d k uu X hV)
        have H2 := hide (upd_dgs hd k (v := uu % 65536) (by omega) (by omega))
        clear hV htop
        go_wp2_with (at_builtin; refine wpList_append_digit _ rfl _ _ 24 rfl (w.heap.size + 1) 85 Try.underlying24 Try.infoU16 a k cap d rfl (hown.alloc _) wr.heap.size 1 (uu % 65536) rfl (by simp [go_sem, wrap16]) (by omega) (by simp; omega) ?_; intro a' cap' w1 hown1 hb1)
        go_roundw
        case rel =>
          refine ⟨k + 1, a', cap', upd d k (uu % 65536), uu / 65536, rfl, by go_num, by omega, by omega, hown1, unhide H2, unhide H1, ?_, by omega, ?_⟩
          · right; simp [upd]; omega
          · exact (hbl.alloc (by omega) _).trans hb1
        case measure => simp [intOf]; try omega
  · have hx : x < 0 := by simpa using hneg
    simp at hX
    have hw : IntKind.u64.wrap (-IntKind.u64.wrap x) = X := by rw [IntKind.wrap_u64, IntKind.wrap_u64]; omega
    have hX0 : 0 ≤ X := by omega
    have hX1 : X ≤ 9223372036854775808 := by omega
    have HX := hide hX
    clear hX
    go_enter Try.func48, Try.ntmps48
    go_wp2
    clear hw
    go_loopw [5, 4] (fun l u wr => ∃ (k : Nat) (a : Option Addr) (cap : Nat) (d : Nat → Int) (uu : Int), l = .slice a k cap ∧ u = .int .u64 uu ∧ 0 ≤ uu ∧ uu ≤ X ∧ Own wr (w.heap.size + 1) 85 a k cap d ∧ Dgs d ∧ V d k + uu * P k = X ∧ (k = 0 ∨ d (k - 1) ≠ 0 ∨ uu ≠ 0) ∧ k ≤ 4 ∧ Below (w.heap.size + 1) (w.alloc (.cells #[.bool false, .slice none 0 0] 26)) wr) (fun _ u _ => (intOf u).toNat)
    case atStart => exact ⟨0, none, 0, fun _ => 0, X, rfl, rfl, hX0, Int.le_refl _, Own.nil _ _ _ _, fun _ => ⟨by simp, by simp⟩, by simp [V, P], Or.inl rfl, by omega, Below.refl _ _⟩
    case round =>
      obtain ⟨k, a, cap, d, uu, rfl, rfl, hu0, hu1, hown, hd, hV, htop, hk4, hbl⟩ := hrel
      have hsz := hbl.size
      simp at hsz
      by_cases hz : uu = 0
      · subst hz
        have q0 : wr.cell? ⟨w.heap.size, 0, none⟩ = some (.bool false) := (hbl.cell (p := ⟨w.heap.size, 0, none⟩) (by simp)).trans (by simp [go_sem])
        have q1 : wr.cell? ⟨w.heap.size, 1, none⟩ = some (.slice none 0 0) := (hbl.cell (p := ⟨w.heap.size, 1, none⟩) (by simp)).trans (by simp [go_sem])
        have q5 : ∀ o, wr.frozen? ⟨w.heap.size, o, none⟩ = false := fun o => (hbl.frozen (p := ⟨w.heap.size, o, none⟩) (by simp)).trans (by simp [go_sem])
        have HD := hide (hown.dig hd (by omega))
        have HV := hide hV
        have HT := hide htop
        clear hV htop hown hd
        go_wp2
        refine bodyPost_ret (v := .agg #[.bool true, .slice a k cap]) (by simp [results, Try.results48, go_sem, q0, q1]) rfl ⟨true, a, k, cap, rfl, ?_, ?_⟩
        · refine IntAt.put2 ?_ q0 q1 _ _
          have hV := unhide HV
          simp at hV
          refine ⟨d, unhide HD, ?_, fun hk0 => ?_, hk4, by rw [hV]; simp [sgn]; have := unhide HX; omega⟩
          · have := unhide HT; omega
          · subst hk0; simp [V] at hV; have := unhide HX; exfalso; omega
        · exact (((bl1 _ _).trans (hbl.mono (by omega))).setCell (by simp) _).setCell (by simp) _
      · have hup : 0 < uu := by omega
        have hk3 : k < 4 := by
          have hk4' : P k < P 4 ∨ 4 ≤ k := by
            by_cases hh : 4 ≤ k
            · exact Or.inr hh
            · left; have : P (k + 1) ≤ P 4 := P_mono (by omega)
              have := P_pos k; simp only [P] at *; omega
          rcases hk4' with hh | hh
          · by_cases h4 : k = 4
            · subst h4; omega
            · omega
          · have h5 : P 4 ≤ P k := P_mono hh
            have h6 : 1 * P k ≤ uu * P k := Int.mul_le_mul_of_nonneg_right (by omega) (by have := P_pos k; omega)
            have h7 := V_nonneg hd k
            rw [P4] at h5; omega
        have H1 := hide (of_step d k uu X hV)
        have H2 := hide (upd_dgs hd k (v := uu % 65536) (by omega) (by omega))
        clear hV htop
        go_wp2_with (at_builtin; refine wpList_append_digit _ rfl _ _ 24 rfl (w.heap.size + 1) 85 Try.underlying24 Try.infoU16 a k cap d rfl (hown.alloc _) wr.heap.size 1 (uu % 65536) rfl (by simp [go_sem, wrap16]) (by omega) (by simp; omega) ?_; intro a' cap' w1 hown1 hb1)
        go_roundw
        case rel =>
          refine ⟨k + 1, a', cap', upd d k (uu % 65536), uu / 65536, rfl, by go_num, by omega, by omega, hown1, unhide H2, unhide H1, ?_, by omega, ?_⟩
          · right; simp [upd]; omega
          · exact (hbl.alloc (by omega) _).trans hb1
        case measure => simp [intOf]; try omega
theorem numOf_int (x : Int) (w : World) (h0 : -9223372036854775808 ≤ x) (h1 : x ≤ 9223372036854775807) :
    Calls Try.prog 48 #[.int .i64 x] w fun r w' =>
      ∃ neg' a' n' cap', r = .returned (.agg #[.bool neg', .slice a' n' cap']) ∧ IntAt w' neg' a' n' cap' 4 x ∧ Below w.heap.size w w' :=
  numOf_aux x _ _ w h0 h1 rfl rfl
end Go.Proofs.Ytgmnknmjainabab
namespace Go.Proofs.Ytgmnknmjainabab
open Go.RowKit
theorem Q_nat (s : Nat) : Q s = ((2 ^ s : Nat) : Int) := by
  induction s with
  | zero => rfl
  | succ s ih => simp only [Q, ih, Nat.pow_succ]; omega
theorem Q_pow (s : Nat) : (2 : Int) ^ s = Q s := by rw [Q_nat]; simp
theorem Q_pos (s : Nat) : 1 ≤ Q s := by
  induction s with
  | zero => simp [Q]
  | succ s ih => simp only [Q]; omega
theorem Q_add (s t : Nat) : Q (s + t) = Q s * Q t := by
  induction t with
  | zero => simp [Q]
  | succ t ih => rw [Nat.add_succ]; simp only [Q]; rw [ih, Int.mul_left_comm]
theorem Q_mono {s t : Nat} (h : s ≤ t) : Q s ≤ Q t := by
  obtain ⟨u, rfl⟩ := Nat.exists_eq_add_of_le h
  rw [Q_add]
  have := Int.mul_le_mul_of_nonneg_left (Q_pos u) (show 0 ≤ Q s by have := Q_pos s; omega)
  omega
theorem Q16 : Q 16 = 65536 := rfl
theorem Q16_split {s : Nat} (h : s ≤ 16) : Q s * Q (16 - s) = 65536 := by rw [← Q_add, show s + (16 - s) = 16 by omega]; rfl
theorem Q_P (q : Nat) : Q (16 * q) = P q := by
  induction q with
  | zero => rfl
  | succ q ih => rw [Nat.mul_succ, Q_add, ih, Q16]; simp only [P]; omega
theorem Q_split (k : Nat) : Q k = Q (k % 16) * P (k / 16) := by
  rw [← Q_P, ← Q_add]; congr 1; omega
theorem or_nat (a b c s : Nat) (ha : a < 2 ^ s) (hb : b = 2 ^ s * c) : a ||| b = a + b := by
  subst hb
  rw [Nat.or_comm, ← Nat.two_pow_add_eq_or_of_lt ha c, Nat.add_comm]
theorem or16 (a b c : Int) (s : Nat) (hs : s ≤ 16) (ha : 0 ≤ a) (ha1 : a < Q s) (hb : b = Q s * c) (hb0 : 0 ≤ b) (hb1 : b < 65536) :
    bits .or .u16 a b = a + b ∧ a + b < 65536 := by
  have hQ : Q s ≤ 65536 := by rw [← Q16]; exact Q_mono hs
  have hc : 0 ≤ c := by
    rcases Int.lt_or_le c 0 with h | h
    · have := Q_pos s
      have := Int.mul_le_mul_of_nonneg_left (show c ≤ -1 by omega) (show 0 ≤ Q s by omega)
      omega
    · exact h
  obtain ⟨A, rfl⟩ := Int.eq_ofNat_of_zero_le ha
  obtain ⟨B, rfl⟩ := Int.eq_ofNat_of_zero_le hb0
  obtain ⟨C, rfl⟩ := Int.eq_ofNat_of_zero_le hc
  have hA : (A : Int) < 65536 := by omega
  rw [Q_nat] at ha1 hb
  have h1 : A < 2 ^ s := by omega
  have h2 : B = 2 ^ s * C := by have := hb; rw [← Int.natCast_mul] at this; omega
  have h3 := or_nat A B C s h1 h2
  rw [u16_or_nat A B (by omega) (by omega), h3]
  have h4 : A ||| B < 2 ^ 16 := Nat.or_lt_two_pow (by omega) (by omega)
  rw [h3] at h4
  exact ⟨by omega, by omega⟩
theorem or32 (a b c : Int) (ha : 0 ≤ a) (ha1 : a < 65536) (hb : b = 65536 * c) (hc0 : 0 ≤ c) (hc1 : c < 65536) : bits .or .u32 a b = a + b := by
  obtain ⟨A, rfl⟩ := Int.eq_ofNat_of_zero_le ha
  obtain ⟨C, rfl⟩ := Int.eq_ofNat_of_zero_le hc0
  have h3 := or_nat A (65536 * C) C 16 (by omega) (by omega)
  have hb' : b = ((65536 * C : Nat) : Int) := by omega
  rw [hb', u32_or_nat A (65536 * C) (by omega) (by omega), h3]
  omega
theorem and16 (x : Int) (s : Nat) (hs : s ≤ 16) (hx : 0 ≤ x) (hx1 : x < 65536) : bits .and .u16 x (Q s - 1) = x % Q s := by
  have hQ : Q s ≤ 65536 := by rw [← Q16]; exact Q_mono hs
  have hQ1 := Q_pos s
  obtain ⟨A, rfl⟩ := Int.eq_ofNat_of_zero_le hx
  rw [u16_and _ _ (by omega) (by omega) (by omega) (by omega)]
  have h1 : (Q s - 1).toNat = 2 ^ s - 1 := by rw [Q_nat]; omega
  rw [h1, Int.toNat_natCast, Nat.and_two_pow_sub_one_eq_mod, Q_nat]
  omega
theorem up_low (x : Int) (s : Nat) (hs : s ≤ 16) : ∃ c, x * Q s % 65536 = Q s * c := by
  refine ⟨x - Q (16 - s) * (x * Q s / 65536), ?_⟩
  have h := Q16_split hs
  rw [Int.mul_sub, ← Int.mul_assoc, h, Int.mul_comm (Q s) x]
  omega
theorem up_high (x : Int) (s : Nat) (hx : 0 ≤ x) (hx1 : x < 65536) : 0 ≤ x * Q s / 65536 ∧ x * Q s / 65536 < Q s := by
  have hQ1 := Q_pos s
  have h0 : 0 ≤ x * Q s := Int.mul_nonneg hx (by omega)
  have h1 : x * Q s + Q s ≤ 65536 * Q s := by
    have := Int.mul_le_mul_of_nonneg_right (show x + 1 ≤ 65536 by omega) (show 0 ≤ Q s by omega)
    rw [Int.add_mul] at this; omega
  omega
theorem up_lt (x : Int) (s : Nat) (hs : s < 16) (hx : 0 ≤ x) (hx1 : x < 65536) : 0 ≤ x * Q s ∧ x * Q s < 4294967296 := by
  have hQ : Q s ≤ Q 15 := Q_mono (by omega)
  have e15 : Q 15 = 32768 := rfl
  have h := up_high x s hx hx1
  have hQ1 := Q_pos s
  have h0 : 0 ≤ x * Q s := Int.mul_nonneg hx (by omega)
  omega
end Go.Proofs.Ytgmnknmjainabab
