/-
  What num.trimmed, of, plus, less, Add, Sub, Neg answer, and that they leave old memory alone.
-/
import Derived.Test.YtibbhnmbmgllcaaNumA
namespace Go.Proofs.Ytibbhnmbmgllcaa
set_option linter.unusedVariables false
set_option linter.unusedSimpArgs false
set_option linter.unnecessarySimpa false
open Go.RowKit

set_option maxHeartbeats 400000 in
theorem trimmed_any (a : Option Addr) (n cap : Nat) (d : Nat → Int) (w : World) (h : Dig w a n cap d) :
    Calls Try.prog 134 #[.slice a n cap] w fun e w' => e = .returned (.slice a (trimN d n) cap) ∧ Below w.heap.size w w' := by
  have hr := h.room
  have hl := h.le
  go_enter Try.func134, Try.ntmps134
  go_wp2
  go_loopw [0] (fun l wr => ∃ m : Nat, m ≤ n ∧ l = .slice a m cap ∧ trimN d n = trimN d m ∧ Below w.heap.size w wr) (fun l _ => lenOf l)
  case atStart => exact ⟨n, Nat.le_refl _, rfl, rfl, Below.refl _ _⟩
  case round =>
    obtain ⟨m, hm, rfl, ht, hbl⟩ := hrel
    by_cases hm0 : m = 0
    · subst hm0
      have Ht := hide ht
      clear ht
      go_wp2
      go_ret
      exact ⟨by simp [unhide Ht, trimN], hbl⟩
    · obtain ⟨b, off, rfl, hb, hc⟩ := h.at_ (by omega)
      obtain ⟨q, rfl⟩ : ∃ q, m = q + 1 := ⟨m - 1, by omega⟩
      have hcq : wr.cell? ⟨b, off + q, none⟩ = some (.int .u16 (d q)) := (hbl.cell (p := ⟨b, off + q, none⟩) hb).trans (hc q (by omega))
      by_cases hd : d q = 0
      · have Ht := hide (show trimN d n = trimN d q by rw [ht]; simp [trimN, hd])
        clear ht
        go_wp2
        go_roundw
        case rel => exact ⟨q, by omega, rfl, unhide Ht, hbl⟩
        case measure => simp [lenOf]
      · have Ht := hide (show trimN d n = q + 1 by rw [ht]; simp [trimN, hd])
        have hd2 : (d q == 0) = false := by simpa using hd
        clear ht
        go_wp2
        go_ret
        exact ⟨by simp [unhide Ht], hbl⟩

set_option maxHeartbeats 400000 in
theorem of_any (neg : Bool) (a : Option Addr) (n cap : Nat) (d : Nat → Int) (w : World) (h : Dig w a n cap d) :
    Calls Try.prog 104 #[.bool neg, .slice a n cap] w fun e w' => e = .returned (.agg #[.bool (neg && decide (0 < trimN d n)), .slice a (trimN d n) cap]) ∧ Below w.heap.size w w' := by
  have hr := h.room
  have hl := trimN_le d n
  cases neg
  · go_enter Try.func104, Try.ntmps104
    go_wp2_with (go_at_call 134; refine (trimmed_any _ _ _ d _ (h.below (bl1 _ _))).mono ?_; rintro r w' ⟨rfl, hb⟩; obtain ⟨hcell, hfz⟩ := bcell hb; have hsz := hb.size)
    refine bodyPost_ret (v := .agg #[.bool false, .slice a (trimN d n) cap]) (by simp [results, Try.results104, go_sem, hcell, hsz]) rfl ?_
    exact ⟨by simp, by first | exact (bthen (bl1 _ _) hb) | exact (bthen (bl1 _ _) hb).setCell (Nat.le_refl _) _ | exact ((bthen (bl1 _ _) hb).setCell (Nat.le_refl _) _).setCell (Nat.le_refl _) _⟩
  · go_enter Try.func104, Try.ntmps104
    go_wp2_with (go_at_call 134; refine (trimmed_any _ _ _ d _ (h.below (bl1 _ _))).mono ?_; rintro r w' ⟨rfl, hb⟩; obtain ⟨hcell, hfz⟩ := bcell hb; have hsz := hb.size)
    refine bodyPost_ret (v := .agg #[.bool (decide (0 < trimN d n)), .slice a (trimN d n) cap]) (by simp [results, Try.results104, go_sem, hcell, hsz]) rfl ?_
    exact ⟨by simp, by first | exact (bthen (bl1 _ _) hb) | exact (bthen (bl1 _ _) hb).setCell (Nat.le_refl _) _ | exact ((bthen (bl1 _ _) hb).setCell (Nat.le_refl _) _).setCell (Nat.le_refl _) _⟩

theorem Try.infoU16 : (Try.prog.info? 96).map (fun i => (i.zero, i.size, i.bytes)) = some (some (.int .u16 0), 1, 2) := by kernel_rfl

/-- What num.plus writes: the digits' sums and carries. -/
def dg (d : Nat → Int) (n j : Nat) : Int := if j < n then d j else 0
def carryP (d e : Nat → Int) (n m : Nat) : Nat → Int
  | 0 => 0
  | k + 1 => (carryP d e n m k + dg d n k + dg e m k) / 65536
def plusD (d e : Nat → Int) (n m j : Nat) : Int := (carryP d e n m j + dg d n j + dg e m j) % 65536

theorem carryP_bd {d e : Nat → Int} (hd : Dgs d) (he : Dgs e) (n m k : Nat) : 0 ≤ carryP d e n m k ∧ carryP d e n m k ≤ 1 := by
  induction k with
  | zero => simp [carryP]
  | succ k ih =>
    simp only [carryP, dg]
    have := hd k; have := he k
    split <;> split <;> omega

theorem row_step {wr : World} {b t N k : Nat} {f : Nat → Int} (h : wr.rowIs b t N (fun j => .int .u16 (if j < k then f j else 0))) {v : Int} (hv : v = f k) :
    (wr.setCell ⟨b, k, none⟩ (.int .u16 v)).rowIs b t N (fun j => .int .u16 (if j < k + 1 then f j else 0)) := by
  refine (h.set k (.int .u16 v)).congr fun j _ => ?_
  by_cases hj : j = k
  · subst hj; simp [hv]
  · have : (j < k + 1) = (j < k) := by simp; omega
    simp [hj, this]

theorem wrap16 (x : Int) : IntKind.u16.wrap x = x % 65536 := rfl

set_option maxRecDepth 100000 in
set_option maxHeartbeats 400000 in
theorem plus_any (a c : Option Addr) (n m cap cap2 : Nat) (d e : Nat → Int) (w : World) (ha : Dig w a n cap d) (hc : Dig w c m cap2 e) (hn : n ≤ 1000000000) (hm : m ≤ 1000000000) :
    Calls Try.prog 105 #[.slice a n cap, .slice c m cap2] w fun r w' => ∃ N, N = max n m + 1 ∧ r = .returned (.slice (some ⟨w.heap.size, 0, none⟩) N N) ∧ w'.rowIs w.heap.size 96 N (fun j => .int .u16 (plusD d e n m j)) ∧ Below w.heap.size w w' := by
  obtain ⟨N, hN⟩ : ∃ N, N = max n m + 1 := ⟨_, rfl⟩
  have hN1 : N ≤ 1000000001 := by omega
  have hnN : n < N := by omega
  have hmN : m < N := by omega
  have hmk := run_make_row' (P := Try.prog) 22 96 (.int .u16 0) 2 Try.underlying22 Try.infoU16 rfl .i64 .i64 N (by omega) (by omega)
  have key : (n < m ∧ (m : Int) + 1 = N) ∨ (m ≤ n ∧ (n : Int) + 1 = N) := by omega
  have HN := hide hN
  clear hN
  rcases key with ⟨hlt, hmx⟩ | ⟨hlt, hmx⟩
  all_goals
    go_enter Try.func105, Try.ntmps105
    go_wp2
    clear hmk hlt hmx
    go_loopw [6, 17] (fun cy i wr => ∃ k : Nat, k ≤ N ∧ i = .int .i64 k ∧ cy = .int .u32 (carryP d e n m k) ∧ wr.rowIs w.heap.size 96 N (fun j => .int .u16 (if j < k then plusD d e n m j else 0)) ∧ Below w.heap.size w wr) (fun _ i _ => N - (intOf i).toNat)
    case atStart => exact ⟨0, Nat.zero_le _, rfl, rfl, by simpa using World.rowIs_made w (.int .u16 0) N 96, bl1 _ _⟩
    case round =>
      obtain ⟨k, hk, rfl, rfl, hrow, hbl⟩ := hrel
      by_cases hkN : k < N
      · have r1 := hrow.cell hkN
        have r2 := hrow.frozen k
        have cb := carryP_bd ha.dgs hc.dgs n m k
        have db := ha.dgs k
        have eb := hc.dgs k
        by_cases hkn : k < n
        · obtain ⟨b1, o1, rfl, hb1, hc1⟩ := ha.at_ (by omega)
          have g1 : wr.cell? ⟨b1, o1 + k, none⟩ = some (.int .u16 (d k)) := (hbl.cell (p := ⟨b1, o1 + k, none⟩) hb1).trans (hc1 k hkn)
          clear hc1
          by_cases hkm : k < m
          · obtain ⟨b2, o2, rfl, hb2, hc2⟩ := hc.at_ (by omega)
            have g2 : wr.cell? ⟨b2, o2 + k, none⟩ = some (.int .u16 (e k)) := (hbl.cell (p := ⟨b2, o2 + k, none⟩) hb2).trans (hc2 k hkm)
            clear hc2
            have H1 := hide (show (carryP d e n m k + d k + e k) / 65536 = carryP d e n m (k + 1) by simp [carryP, dg, hkn, hkm])
            have H2 := hide (show IntKind.u16.wrap (carryP d e n m k + d k + e k) = plusD d e n m k by simp [wrap16, plusD, dg, hkn, hkm])
            go_wp2
            go_roundw
            case rel => exact ⟨k + 1, by omega, by go_num, by rw [unhide H1], row_step hrow (unhide H2), hbl.setCell (Nat.le_refl _) _⟩
            case measure => simp [intOf]; omega
          · have H1 := hide (show (carryP d e n m k + d k) / 65536 = carryP d e n m (k + 1) by simp [carryP, dg, hkn, hkm])
            have H2 := hide (show IntKind.u16.wrap (carryP d e n m k + d k) = plusD d e n m k by simp [wrap16, plusD, dg, hkn, hkm])
            go_wp2
            go_roundw
            case rel => exact ⟨k + 1, by omega, by go_num, by rw [unhide H1], row_step hrow (unhide H2), hbl.setCell (Nat.le_refl _) _⟩
            case measure => simp [intOf]; omega
        · by_cases hkm : k < m
          · obtain ⟨b2, o2, rfl, hb2, hc2⟩ := hc.at_ (by omega)
            have g2 : wr.cell? ⟨b2, o2 + k, none⟩ = some (.int .u16 (e k)) := (hbl.cell (p := ⟨b2, o2 + k, none⟩) hb2).trans (hc2 k hkm)
            clear hc2
            have H1 := hide (show (carryP d e n m k + e k) / 65536 = carryP d e n m (k + 1) by simp [carryP, dg, hkn, hkm])
            have H2 := hide (show IntKind.u16.wrap (carryP d e n m k + e k) = plusD d e n m k by simp [wrap16, plusD, dg, hkn, hkm])
            go_wp2
            go_roundw
            case rel => exact ⟨k + 1, by omega, by go_num, by rw [unhide H1], row_step hrow (unhide H2), hbl.setCell (Nat.le_refl _) _⟩
            case measure => simp [intOf]; omega
          · have H1 := hide (show (carryP d e n m k) / 65536 = carryP d e n m (k + 1) by simp [carryP, dg, hkn, hkm])
            have H2 := hide (show carryP d e n m k = plusD d e n m k by simp [plusD, dg, hkn, hkm]; omega)
            go_wp2
            go_roundw
            case rel => exact ⟨k + 1, by omega, by go_num, by rw [unhide H1], row_step hrow (unhide H2), hbl.setCell (Nat.le_refl _) _⟩
            case measure => simp [intOf]; omega
      · have hkE : k = N := by omega
        subst hkE
        go_wp2
        go_ret
        exact ⟨_, unhide HN, rfl, hrow.congr (fun j hj => by simp [hj]), hbl⟩

/-- What num.less writes. -/
def borrowL (d e : Nat → Int) (m : Nat) : Nat → Int
  | 0 => 0
  | k + 1 => if d k - borrowL d e m k - dg e m k < 0 then 1 else 0
def lessD (d e : Nat → Int) (m j : Nat) : Int := if d j - borrowL d e m j - dg e m j < 0 then d j - borrowL d e m j - dg e m j + 65536 else d j - borrowL d e m j - dg e m j

theorem borrowL_bd (d e : Nat → Int) (m k : Nat) : 0 ≤ borrowL d e m k ∧ borrowL d e m k ≤ 1 := by
  cases k with
  | zero => simp [borrowL]
  | succ k => simp only [borrowL]; split <;> omega

set_option maxRecDepth 100000 in
set_option maxHeartbeats 400000 in
theorem less_any (a c : Option Addr) (n m cap cap2 : Nat) (d e : Nat → Int) (w : World) (ha : Dig w a n cap d) (hc : Dig w c m cap2 e) (hn : n ≤ 1000000000) (hm : m ≤ 1000000000) :
    Calls Try.prog 106 #[.slice a n cap, .slice c m cap2] w fun r w' => r = .returned (.slice (some ⟨w.heap.size, 0, none⟩) n n) ∧ w'.rowIs w.heap.size 96 n (fun j => .int .u16 (lessD d e m j)) ∧ Below w.heap.size w w' := by
  have hmk := run_make_row' (P := Try.prog) 22 96 (.int .u16 0) 2 Try.underlying22 Try.infoU16 rfl .i64 .i64 n (by omega) (by omega)
  go_enter Try.func106, Try.ntmps106
  go_wp2
  clear hmk
  go_loopw [6, 14] (fun cy i wr => ∃ k : Nat, k ≤ n ∧ i = .int .i64 k ∧ cy = .int .i64 (borrowL d e m k) ∧ wr.rowIs w.heap.size 96 n (fun j => .int .u16 (if j < k then lessD d e m j else 0)) ∧ Below w.heap.size w wr) (fun _ i _ => n - (intOf i).toNat)
  case atStart => exact ⟨0, Nat.zero_le _, rfl, rfl, by simpa using World.rowIs_made w (.int .u16 0) n 96, bl1 _ _⟩
  case round =>
    obtain ⟨k, hk, rfl, rfl, hrow, hbl⟩ := hrel
    by_cases hkn : k < n
    · have r1 := hrow.cell hkn
      have r2 := hrow.frozen k
      have cb := borrowL_bd d e m k
      have db := ha.dgs k
      have eb := hc.dgs k
      obtain ⟨b1, o1, rfl, hb1, hc1⟩ := ha.at_ (by omega)
      have g1 : wr.cell? ⟨b1, o1 + k, none⟩ = some (.int .u16 (d k)) := (hbl.cell (p := ⟨b1, o1 + k, none⟩) hb1).trans (hc1 k hkn)
      clear hc1
      by_cases hkm : k < m
      · obtain ⟨b2, o2, rfl, hb2, hc2⟩ := hc.at_ (by omega)
        have g2 : wr.cell? ⟨b2, o2 + k, none⟩ = some (.int .u16 (e k)) := (hbl.cell (p := ⟨b2, o2 + k, none⟩) hb2).trans (hc2 k hkm)
        clear hc2
        by_cases hneg : d k - borrowL d e m k - e k < 0
        · have H1 := hide (show 1 = borrowL d e m (k + 1) by simp [borrowL, dg, hkm, hneg])
          have H2 := hide (show d k - borrowL d e m k - e k + 65536 = lessD d e m k by simp [lessD, dg, hkm, hneg])
          go_wp2
          go_roundw
          case rel => exact ⟨k + 1, by omega, by go_num, by rw [← unhide H1], row_step hrow (unhide H2), hbl.setCell (Nat.le_refl _) _⟩
          case measure => simp [intOf]; omega
        · have H1 := hide (show 0 = borrowL d e m (k + 1) by simp [borrowL, dg, hkm, hneg])
          have H2 := hide (show d k - borrowL d e m k - e k = lessD d e m k by simp [lessD, dg, hkm, hneg])
          go_wp2
          go_roundw
          case rel => exact ⟨k + 1, by omega, by go_num, by rw [← unhide H1], row_step hrow (unhide H2), hbl.setCell (Nat.le_refl _) _⟩
          case measure => simp [intOf]; omega
      · by_cases hneg : d k - borrowL d e m k < 0
        · have H1 := hide (show 1 = borrowL d e m (k + 1) by simp [borrowL, dg, hkm, hneg])
          have H2 := hide (show d k - borrowL d e m k + 65536 = lessD d e m k by simp [lessD, dg, hkm, hneg])
          go_wp2
          go_roundw
          case rel => exact ⟨k + 1, by omega, by go_num, by rw [← unhide H1], row_step hrow (unhide H2), hbl.setCell (Nat.le_refl _) _⟩
          case measure => simp [intOf]; omega
        · have H1 := hide (show 0 = borrowL d e m (k + 1) by simp [borrowL, dg, hkm, hneg])
          have H2 := hide (show d k - borrowL d e m k = lessD d e m k by simp [lessD, dg, hkm, hneg])
          go_wp2
          go_roundw
          case rel => exact ⟨k + 1, by omega, by go_num, by rw [← unhide H1], row_step hrow (unhide H2), hbl.setCell (Nat.le_refl _) _⟩
          case measure => simp [intOf]; omega
    · have hkE : k = n := by omega
      subst hkE
      go_wp2
      go_ret
      exact ⟨rfl, hrow.congr (fun j hj => by simp [hj]), hbl⟩
end Go.Proofs.Ytibbhnmbmgllcaa
