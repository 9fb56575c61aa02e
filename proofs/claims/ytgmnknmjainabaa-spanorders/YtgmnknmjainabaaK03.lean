/-
  What num.Up and num.Down answer where they are asked to move the other way.
  What num.short answers, and that it leaves old memory alone.
  What num.Floor answers of right numbers where the second one is more than 0 and has at most three digits, and that it leaves old memory alone.
  What span.Check and tailsureref.CheckSpan answer of whatever span, and that they leave old memory alone.
  What wide.farthest, wide.Least, wide.Most, wide.copied, tailsureref.least, greatest and Power2 answer of right numbers, and that they leave old memory alone.
-/
import Derived.Test.YtgmnknmjainabaaK02
namespace Go.Proofs.Ytgmnknmjainabaa
set_option linter.unusedVariables false
set_option linter.unusedSimpArgs false
set_option linter.unnecessarySimpa false
open Go.RowKit

set_option maxRecDepth 100000 in
set_option maxHeartbeats 1000000 in
theorem down_neg (neg : Bool) (a : Option Addr) (n cap k k1 : Nat) (x : Int) (w : World) (h1 : IntAt w neg a n cap k1 x) (hk1 : k1 ≤ 1000000000) (hk : k ≤ 1000000000) (hk0 : 0 < k) :
    Calls Try.prog 79 #[.agg #[.bool neg, .slice a n cap], .int .i64 (-(k : Int))] w fun r w' =>
      ∃ neg' a' n' cap', r = .returned (.agg #[.bool neg', .slice a' n' cap']) ∧ IntAt w' neg' a' n' cap' (k / 16 + k1 + 1) (x * Q k) ∧ Below w.heap.size w w' := by
  have hneg : -(k : Int) < 0 := by omega
  go_enter Try.func79, Try.ntmps79
  go_wp2_with (go_at_call 107; refine (up_int _ _ _ _ k k1 x _ (h1.below (bl2 _ _ _)) hk1 hk).mono ?_; rintro r w2 ⟨neg', a2, n2, c2, rfl, hint, hb2⟩; obtain ⟨hsz2, hcell2, hfz2⟩ := near (w.heap.size + 1 + 1) (by simp) hb2)
  have h0 : w2.cell? ⟨w.heap.size + 1, 0, none⟩ = some (.bool false) := by simp [hcell2, go_sem]
  have h1' : w2.cell? ⟨w.heap.size + 1, 1, none⟩ = some (.slice none 0 0) := by simp [hcell2, go_sem]
  refine bodyPost_ret (v := .agg #[.bool neg', .slice a2 n2 c2]) (by simp [results, Try.results79, go_sem, h0, h1']) rfl ⟨neg', a2, n2, c2, rfl, ?_, ?_⟩
  · exact hint.put2 h0 h1' _ _
  · exact ((bthen (bl2 _ _ _) hb2).setCell (p := ⟨w.heap.size + 1, 0, none⟩) (Nat.le_succ _) _).setCell (p := ⟨w.heap.size + 1, 1, none⟩) (Nat.le_succ _) _

set_option maxRecDepth 100000 in
set_option maxHeartbeats 1000000 in
theorem up_neg (neg : Bool) (a : Option Addr) (n cap k k1 : Nat) (x : Int) (w : World) (h1 : IntAt w neg a n cap k1 x) (hk1 : k1 ≤ 1000000000) (hk : k ≤ 1000000000) (hk0 : 0 < k) :
    Calls Try.prog 107 #[.agg #[.bool neg, .slice a n cap], .int .i64 (-(k : Int))] w fun r w' =>
      ∃ neg' a' n' cap', r = .returned (.agg #[.bool neg', .slice a' n' cap']) ∧ IntAt w' neg' a' n' cap' (k1 + 5) (x / Q k) ∧ Below w.heap.size w w' := by
  have hneg : -(k : Int) < 0 := by omega
  go_enter Try.func107, Try.ntmps107
  go_wp2_with (go_at_call 79; refine (down_int _ _ _ _ k k1 x _ (h1.below (bl2 _ _ _)) hk1 hk).mono ?_; rintro r w2 ⟨neg', a2, n2, c2, rfl, hint, hb2⟩; obtain ⟨hsz2, hcell2, hfz2⟩ := near (w.heap.size + 1 + 1) (by simp) hb2)
  have h0 : w2.cell? ⟨w.heap.size + 1, 0, none⟩ = some (.bool false) := by simp [hcell2, go_sem]
  have h1' : w2.cell? ⟨w.heap.size + 1, 1, none⟩ = some (.slice none 0 0) := by simp [hcell2, go_sem]
  refine bodyPost_ret (v := .agg #[.bool neg', .slice a2 n2 c2]) (by simp [results, Try.results107, go_sem, h0, h1']) rfl ⟨neg', a2, n2, c2, rfl, ?_, ?_⟩
  · exact hint.put2 h0 h1' _ _
  · exact ((bthen (bl2 _ _ _) hb2).setCell (p := ⟨w.heap.size + 1, 0, none⟩) (Nat.le_succ _) _).setCell (p := ⟨w.heap.size + 1, 1, none⟩) (Nat.le_succ _) _

/-- Moved by k bits down, or up where k is below 0. -/
def downZ (x k : Int) : Int := if 0 ≤ k then x / Q k.toNat else x * Q (-k).toNat

theorem down_z (neg : Bool) (a : Option Addr) (n cap k1 : Nat) (k x : Int) (w : World) (h1 : IntAt w neg a n cap k1 x) (hk1 : k1 ≤ 1000000000) (hk0 : -1000000000 ≤ k) (hk : k ≤ 1000000000) :
    Calls Try.prog 79 #[.agg #[.bool neg, .slice a n cap], .int .i64 k] w fun r w' =>
      ∃ neg' a' n' cap', r = .returned (.agg #[.bool neg', .slice a' n' cap']) ∧ IntAt w' neg' a' n' cap' ((-k).toNat / 16 + k1 + 5) (downZ x k) ∧ Below w.heap.size w w' := by
  unfold downZ
  by_cases h : 0 ≤ k
  · obtain ⟨K, rfl⟩ := Int.eq_ofNat_of_zero_le h
    rw [if_pos h, Int.toNat_natCast]
    exact (down_int neg a n cap K k1 x w h1 hk1 (by omega)).mono fun _ _ ⟨n1, n2, n3, n4, q1, q2, q3⟩ => ⟨n1, n2, n3, n4, q1, q2.mono (by omega), q3⟩
  · rw [if_neg h]
    obtain ⟨K, hK⟩ : ∃ K : Nat, k = -(K : Int) := ⟨(-k).toNat, by omega⟩
    subst hK
    rw [show (- -(K : Int)).toNat = K by omega]
    exact (down_neg neg a n cap K k1 x w h1 hk1 (by omega) (by omega)).mono fun _ _ ⟨n1, n2, n3, n4, q1, q2, q3⟩ => ⟨n1, n2, n3, n4, q1, q2.mono (by omega), q3⟩
end Go.Proofs.Ytgmnknmjainabaa

namespace Go.Proofs.Ytgmnknmjainabaa
set_option linter.unusedVariables false
set_option linter.unusedSimpArgs false
set_option linter.unnecessarySimpa false
open Go.RowKit

/-- The digits from j on. -/
def Tp (d : Nat → Int) (j n : Nat) : Int := V (fun t => d (j + t)) (n - j)

theorem V_shift (d : Nat → Int) (m : Nat) : V d (m + 1) = d 0 + 65536 * V (fun t => d (1 + t)) m := by
  have h := V_split d 1 m
  rw [Nat.add_comm 1 m] at h
  rw [h]
  simp [V, P]

theorem Tp_top (d : Nat → Int) (n : Nat) : Tp d n n = 0 := by simp [Tp, V]
theorem Tp_zero (d : Nat → Int) (n : Nat) : Tp d 0 n = V d n := by simp [Tp]
theorem Tp_step (d : Nat → Int) (j n : Nat) (h : j < n) : Tp d j n = d j + 65536 * Tp d (j + 1) n := by
  unfold Tp
  obtain ⟨m, rfl⟩ : ∃ m, n = j + 1 + m := ⟨n - j - 1, by omega⟩
  rw [show j + 1 + m - j = m + 1 by omega, show j + 1 + m - (j + 1) = m by omega, V_shift]
  have : (fun t => d (j + (1 + t))) = (fun t => d (j + 1 + t)) := by funext t; congr 1; omega
  rw [this]; simp
theorem Tp_nonneg {d : Nat → Int} (hd : Dgs d) (j n : Nat) : 0 ≤ Tp d j n := V_nonneg (fun t => hd (j + t)) _
theorem Tp_lt {d : Nat → Int} (hd : Dgs d) (j n : Nat) : Tp d j n < P (n - j) := V_lt (fun t => hd (j + t)) _

theorem P3 : P 3 = 281474976710656 := rfl

theorem or64 (a b c : Int) (hb : 0 ≤ b) (hb1 : b < 65536) (ha : a = 65536 * c) (hc0 : 0 ≤ c) (hc1 : c < 281474976710656) : bits .or .u64 a b = a + b := by
  obtain ⟨B, rfl⟩ := Int.eq_ofNat_of_zero_le hb
  obtain ⟨C, rfl⟩ := Int.eq_ofNat_of_zero_le hc0
  have h3 := or_nat B (65536 * C) C 16 (by omega) (by omega)
  have ha' : a = ((65536 * C : Nat) : Int) := by omega
  rw [ha', u64_or_nat (65536 * C) B (by omega) (by omega), Nat.or_comm, h3]
  omega

theorem Tp_upd (o : Nat → Int) (i n : Nat) (v : Int) : Tp (upd o i v) (i + 1) n = Tp o (i + 1) n := by
  unfold Tp; exact V_congr _ (fun j _ => by simp [upd]; omega)

theorem short_step {d o : Nat → Int} {i n : Nat} (hi : i < n) {D L : Int} (hD : 0 < D) (hT : Tp d (i + 1) n = Tp o (i + 1) n * D + L) :
    Tp d i n = Tp (upd o i ((L * 65536 + d i) / D)) i n * D + (L * 65536 + d i) % D := by
  rw [Tp_step d i n hi, Tp_step (upd o i _) i n hi, Tp_upd, hT]
  have h1 : upd o i ((L * 65536 + d i) / D) i = (L * 65536 + d i) / D := by simp [upd]
  rw [h1, Int.add_mul, Int.mul_assoc]
  have h2 := Int.mul_ediv_add_emod (L * 65536 + d i) D
  rw [Int.mul_comm D] at h2
  omega
theorem short_bd {x D L : Int} (hD : 0 < D) (hx : 0 ≤ x ∧ x < 65536) (hL0 : 0 ≤ L) (hL1 : L < D) : 0 ≤ (L * 65536 + x) / D ∧ (L * 65536 + x) / D < 65536 ∧ 0 ≤ (L * 65536 + x) % D ∧ (L * 65536 + x) % D < D :=
  ⟨Int.ediv_nonneg (by omega) (by omega), Int.ediv_lt_of_lt_mul hD (by omega), Int.emod_nonneg _ (by omega), Int.emod_lt_of_pos _ hD⟩

theorem trimN_pos {d : Nat → Int} (hd : Dgs d) (n : Nat) : 0 < trimN d n ↔ V d n ≠ 0 := by
  have h1 := trimN_V d n
  have h2 := trimN_top d n
  constructor
  · intro h
    have h3 := V_ge hd (trimN d n - 1) (by omega)
    rw [show trimN d n - 1 + 1 = trimN d n by omega, h1] at h3
    have := P_pos (trimN d n - 1); omega
  · intro h
    rcases Nat.eq_zero_or_pos (trimN d n) with h0 | h0
    · rw [h0] at h1; simp [V] at h1; omega
    · exact h0

/-- Three digits of a number. -/
def rd (L : Int) (j : Nat) : Int := if j = 0 then L % 65536 else if j = 1 then L / 65536 % 65536 else if j = 2 then L / 4294967296 % 65536 else 0
theorem rd_dgs (L : Int) : Dgs (rd L) := by
  intro j; unfold rd; split
  · omega
  · split
    · omega
    · split <;> omega
theorem rd_V (L : Int) (h0 : 0 ≤ L) (h1 : L < 281474976710656) : V (rd L) 3 = L := by
  simp [V, rd, P]; omega

theorem dig3 (w : World) (t : TypeId) (x y z : Int) (f : Nat → Int) (hf : Dgs f) (h0 : f 0 = x) (h1 : f 1 = y) (h2 : f 2 = z) : Dig (w.alloc (.cells #[.int .u16 x, .int .u16 y, .int .u16 z] t)) (some ⟨w.heap.size, 0, none⟩) 3 3 f :=
  ⟨fun _ => ⟨w.heap.size, 0, rfl, by simp, fun j hj => by
    rw [World.cell?_alloc_at _ _ _ _ rfl, Nat.zero_add]
    match j, hj with
    | 0, _ => simp [h0]
    | 1, _ => simp [h1]
    | 2, _ => simp [h2]⟩, hf, by omega, by omega⟩

set_option maxRecDepth 100000 in
set_option maxHeartbeats 2000000 in
theorem short_any (a c : Option Addr) (n m cap cap2 : Nat) (d e : Nat → Int) (w : World) (ha : Dig w a n cap d) (hc : Dig w c m cap2 e) (hn : n ≤ 1000000000) (hm : m ≤ 3) (hpos : 0 < V e m) :
    Calls Try.prog 147 #[.slice a n cap, .slice c m cap2] w fun r w' =>
      ∃ a1 n1 c1 o a2 n2 c2 rem, r = .returned (.tuple #[.slice a1 n1 c1, .slice a2 n2 c2]) ∧ Dig w' a1 n1 c1 o ∧ n1 ≤ n ∧ (0 < n2 ↔ rem ≠ 0) ∧ n2 ≤ 3 ∧ V d n = V o n1 * V e m + rem ∧ 0 ≤ rem ∧ rem < V e m ∧ Below w.heap.size w w' := by
  have hmk := run_make_row' (P := Try.prog) 22 96 (.int .u16 0) 2 Try.underlying22 Try.infoU16 rfl .i64 .i64 n (by omega) (by omega)
  have hD : V e m < 281474976710656 := by
    have h1 := V_lt hc.dgs m
    have h2 := P_mono hm
    rw [P3] at h2; omega
  have Hmk := hide hmk
  clear hmk
  go_enter Try.func147, Try.ntmps147
  go_wp2
  go_loop [6, 7] (fun dd ii => ∃ j : Nat, j ≤ m ∧ ii = .int .i64 ((j : Int) - 1) ∧ dd = .int .u64 (Tp e j m)) (fun _ ii => (intOf ii + 1).toNat)
  case atStart => exact ⟨m, Nat.le_refl _, rfl, by rw [Tp_top]⟩
  case round =>
    obtain ⟨j, hj, rfl, rfl⟩ := hrel
    by_cases hj0 : j = 0
    · subst hj0
      rw [Tp_zero]
      have hmk := unhide Hmk
      go_wp2
      clear hmk
      obtain ⟨D, hDe⟩ : ∃ D, D = V e m := ⟨_, rfl⟩
      rw [← hDe] at hD hpos ⊢
      have hD0 : (D == 0) = false := by simp; omega
      have HDe := hide hDe
      clear hDe
      go_loopw [9, 10] (fun ll ii wr => ∃ (j : Nat) (o : Nat → Int) (L : Int), j ≤ n ∧ ii = .int .i64 ((j : Int) - 1) ∧ ll = .int .u64 L ∧ wr.rowIs w.heap.size 96 n (fun t => .int .u16 (o t)) ∧ Dgs o ∧ Tp d j n = Tp o j n * D + L ∧ 0 ≤ L ∧ L < D ∧ Below w.heap.size w wr) (fun _ ii _ => (intOf ii + 1).toNat)
      case atStart =>
        refine ⟨n, fun _ => 0, 0, Nat.le_refl _, rfl, rfl, World.rowIs_made w (.int .u16 0) n 96, fun _ => ⟨by simp, by simp⟩, ?_, by omega, by omega, bl1 _ _⟩
        rw [Tp_top, Tp_top]; simp
      case round =>
        obtain ⟨j, o, L, hj, rfl, rfl, hrow, hod, hT, hL0, hL1, hbl⟩ := hrel
        by_cases hj0 : j = 0
        · subst hj0
          rw [Tp_zero, Tp_zero] at hT
          have HT := hide hT
          have HR := hide (rowDig hrow hod (by omega))
          clear hT hrow hod
          go_wp2_with (go_at_call 134; refine (trimmed_any _ _ _ (rd L) _ (dig3 _ _ _ _ _ _ (rd_dgs L) (by simp [rd, wrap16]) (by simp [rd, wrap16]) (by simp [rd]; omega))).mono ?_; rintro r w2 ⟨rfl, hb2⟩)
          go_ret2
          refine ⟨_, n, n, o, _, trimN (rd L) 3, 3, L, rfl, (unhide HR).below (bthen (bl1 _ _) hb2), Nat.le_refl _, ?_, trimN_le _ _, ?_, hL0, ?_, bthen (balloc hbl _) hb2⟩
          · rw [trimN_pos (rd_dgs L), rd_V L hL0 (by omega)]
          · rw [← unhide HDe]; exact unhide HT
          · rw [← unhide HDe]; exact hL1
        · obtain ⟨i, rfl⟩ : ∃ i, j = i + 1 := ⟨j - 1, by omega⟩
          have e0 : ((i + 1 : Nat) : Int) - 1 = (i : Int) := by omega
          rw [e0]
          obtain ⟨b1, o1, rfl, hb1, hc1⟩ := ha.at_ (by omega)
          have g1 : wr.cell? ⟨b1, o1 + i, none⟩ = some (.int .u16 (d i)) := (hbl.cell (p := ⟨b1, o1 + i, none⟩) hb1).trans (hc1 i (by omega))
          have db := ha.dgs i
          have r1 := hrow.cell (show i < n by omega)
          have r2 := hrow.frozen i
          have hor := or64 (L * 65536) (d i) L db.1 db.2 (by omega) hL0 (by omega)
          have hin : (i : Int) < n := by omega
          have HT := hide hT
          clear hT hc1 e0
          have hst := short_step (o := o) (show i < n by omega) hpos (unhide HT)
          have sb := short_bd hpos db hL0 hL1
          have HS := hide hst
          clear hst
          go_wp2
          go_roundw
          case rel =>
            exact ⟨i, upd o i ((L * 65536 + d i) / D), (L * 65536 + d i) % D, by omega, by go_num, rfl, row_upd hrow i rfl, upd_dgs hod _ sb.1 sb.2.1, unhide HS, sb.2.2.1, sb.2.2.2, hbl.setCell (Nat.le_refl _) _⟩
          case measure => simp [intOf]; try omega
    · obtain ⟨i, rfl⟩ : ∃ i, j = i + 1 := ⟨j - 1, by omega⟩
      have e0 : ((i + 1 : Nat) : Int) - 1 = (i : Int) := by omega
      rw [e0]
      obtain ⟨b2, o2, rfl, hb2, hc2⟩ := hc.at_ (by omega)
      have g2 : w.cell? ⟨b2, o2 + i, none⟩ = some (.int .u16 (e i)) := hc2 i (by omega)
      have eb := hc.dgs i
      have t0 := Tp_nonneg hc.dgs (i + 1) m
      have t1 := Tp_lt hc.dgs (i + 1) m
      have t2 := P_mono (show m - (i + 1) ≤ 2 by omega)
      have eP2 : P 2 = 4294967296 := rfl
      rw [eP2] at t2
      have ts := Tp_step e i m (by omega)
      have H1 := hide (show bits .or .u64 (Tp e (i + 1) m * 65536) (e i) = Tp e i m by rw [or64 _ _ (Tp e (i + 1) m) eb.1 eb.2 (by omega) t0 (by omega), ts]; omega)
      have im : (i : Int) < m := by omega
      clear ts hc2 e0 eP2
      go_wp2
      go_round
      case rel => exact ⟨i, by omega, by go_num, by rw [← unhide H1]; try rfl⟩
      case measure => simp [intOf]; try omega
end Go.Proofs.Ytgmnknmjainabaa

namespace Go.Proofs.Ytgmnknmjainabaa
set_option linter.unusedVariables false
set_option linter.unusedSimpArgs false
set_option linter.unnecessarySimpa false
open Go.RowKit
attribute [local go_sem ↓] Go.wp_at_zero Go.wp_at_succ

/-- What num.over answers: a quotient and whether something is left. -/
def OverAns (w : World) (d e : Nat → Int) (n m : Nat) (r : Ending) (w' : World) : Prop :=
  ∃ a1 n1 c1 o a2 n2 c2 rem, r = .returned (.tuple #[.slice a1 n1 c1, .slice a2 n2 c2]) ∧ Dig w' a1 n1 c1 o ∧ n1 ≤ n + 3 ∧ (0 < n2 ↔ rem ≠ 0) ∧ n2 ≤ n + 3 ∧ V d n = V o n1 * V e m + rem ∧ 0 ≤ rem ∧ rem < V e m ∧ Below w.heap.size w w'

set_option maxRecDepth 100000 in
set_option maxHeartbeats 1000000 in
theorem over_small (a c : Option Addr) (n m cap cap2 : Nat) (d e : Nat → Int) (w : World) (ha : Dig w a n cap d) (hc : Dig w c m cap2 e) (hn : n ≤ 1000000000) (h1 : n = 0 ∨ d (n - 1) ≠ 0) (h2 : m = 0 ∨ e (m - 1) ≠ 0) (hpos : 0 < V e m)
    (hm : m ≤ 3 ∨ V d n < V e m) :
    Calls Try.prog 133 #[.slice a n cap, .slice c m cap2] w (OverAns w d e n m) := by
  have hcv := cmpZ_V ha.dgs hc.dgs n m h1 h2
  by_cases hlt : V d n < V e m
  · have hneg : cmpZ d e n m < 0 := by rw [hcv]; simp [cmpInt, hlt]
    clear hcv
    have HF := hide (show 0 < n ↔ V d n ≠ 0 by
      have := trimN_pos ha.dgs n; rwa [trimN_idem h1] at this)
    go_enter Try.func133, Try.ntmps133
    go_wp2_with (go_at_call 90; refine (compare_any _ _ _ _ _ _ d e _ ha hc).mono ?_; rintro r w0 ⟨rfl, hb0⟩)
    go_ret2
    exact ⟨none, 0, 0, fun _ => 0, a, n, cap, V d n, rfl, ⟨fun h => by omega, fun _ => ⟨by simp, by simp⟩, Nat.le_refl _, by omega⟩, by omega, unhide HF, by omega, by simp [V], V_nonneg ha.dgs n, hlt, hb0⟩
  · have hneg : ¬ cmpZ d e n m < 0 := by rw [hcv]; simp only [cmpInt, hlt, if_false]; split <;> omega
    have hm3 : m ≤ 3 := by omega
    have hm3' : (m : Int) ≤ 3 := by omega
    clear hcv
    go_enter Try.func133, Try.ntmps133
    go_wp2_with (first
      | (go_at_call 90; refine (compare_any _ _ _ _ _ _ d e _ ha hc).mono ?_; rintro r w0 ⟨rfl, hb0⟩)
      | (go_at_call 147; refine (short_any _ _ _ _ _ _ d e _ (ha.below hb0) (hc.below hb0) hn hm3 hpos).mono ?_; rintro r w1 ⟨a1, n1, c1, o, a2, n2, c2, rem, rfl, p1, p2, p3, p4, p5, p6, p7, p8⟩))
    go_ret2
    exact ⟨a1, n1, c1, o, a2, n2, c2, rem, rfl, p1, by omega, p3, by omega, p5, p6, p7, bthen hb0 p8⟩

/-- What num.Floor answers, where num.over answers what it must. -/
def FloorAns (w : World) (n : Nat) (z : Int) (r : Ending) (w' : World) : Prop :=
  ∃ neg' a' n' cap', r = .returned (.agg #[.bool neg', .slice a' n' cap']) ∧ IntAt w' neg' a' n' cap' (n + 8) z ∧ Below w.heap.size w w'

set_option maxRecDepth 100000 in
set_option maxHeartbeats 4000000 in
theorem floor_core (neg : Bool) (a c : Option Addr) (n m cap cap2 : Nat) (d e : Nat → Int) (w : World) (ha : Dig w a n cap d) (hc : Dig w c m cap2 e) (hn : n ≤ 900000000) (hm : 0 < m)
    (hov : ∀ w', Dig w' a n cap d → Dig w' c m cap2 e → Calls Try.prog 133 #[.slice a n cap, .slice c m cap2] w' (OverAns w' d e n m)) :
    Calls Try.prog 103 #[.agg #[.bool neg, .slice a n cap], .agg #[.bool false, .slice c m cap2]] w (FloorAns w n (sgn neg (V d n) / V e m)) := by
  have hsg : signZ false m = 1 := by simp [signZ]; omega
  have le2 : w.heap.size ≤ w.heap.size + 1 + 1 := by omega
  have ne1 : w.heap.size ≠ w.heap.size + 1 + 1 := by omega
  have ne2 : w.heap.size + 1 + 1 ≠ w.heap.size := by omega
  cases neg
  · go_enter Try.func103, Try.ntmps103
    go_wp2_with (first
      | (go_at_call 40; refine (sign_any _ _ _ _ _ hc.room).mono ?_; rintro r w0 ⟨rfl, hb0⟩; obtain ⟨hsz0, hcell0, hfz0⟩ := near (w.heap.size + 1 + 1 + 1) (by simp) hb0; rw [hsg])
      | (go_at_call 133; refine (hov _ (ha.below (bthen (bl3 _ _ _ _) hb0)) (hc.below (bthen (bl3 _ _ _ _) hb0))).mono ?_; rintro r w1 ⟨a1, n1, c1, o, a9, n9, c9, rem, rfl, p1, p2, p3, p4, p5, p6, p7, p8⟩; obtain ⟨hsz1, hcell1, hfz1⟩ := near (w.heap.size + 1 + 1 + 1) hsz0 p8; skip)
      | (go_at_call 104; refine (of_int _ _ _ _ o _ p1).mono ?_; rintro r w2 ⟨neg', a2, n2, c2, rfl, hint, hb2⟩; obtain ⟨hsz2, hcell2, hfz2⟩ := near (w.heap.size + 1 + 1 + 1) hsz1 hb2; have hz0 := Nat.lt_of_lt_of_le (Nat.lt_succ_of_lt (Nat.lt_succ_of_lt (Nat.lt_succ_self w.heap.size))) hsz2; have hz1 := Nat.lt_of_lt_of_le (Nat.lt_succ_self (w.heap.size + 1 + 1)) hsz2))
    have h0 : w2.cell? ⟨w.heap.size + 1 + 1, 0, none⟩ = some (.bool false) := by simp [hcell2, hcell1, hcell0, go_sem]
    have h1' : w2.cell? ⟨w.heap.size + 1 + 1, 1, none⟩ = some (.slice none 0 0) := by simp [hcell2, hcell1, hcell0, go_sem]
    refine bodyPost_ret (v := .agg #[.bool neg', .slice a2 n2 c2]) (by simp [results, Try.results103, go_sem, hz0, hz1, h0, h1']) rfl ⟨neg', a2, n2, c2, rfl, ?_, ?_⟩
    · rw [show sgn false (V o n1) = sgn false (V d n) / V e m by simp only [sgn]; exact (div_pos_eq (by omega) p5 p6 p7).symm] at hint
      exact ((hint.put2 h0 h1' _ _).below (bl1 _ _)).mono (by omega)
    · exact balloc (((bthen (bthen (bthen (bl3 _ _ _ _) hb0) p8) hb2).setCell (p := ⟨w.heap.size + 1 + 1, 0, none⟩) le2 _).setCell (p := ⟨w.heap.size + 1 + 1, 1, none⟩) le2 _) _
  · go_enter Try.func103, Try.ntmps103
    go_wp2_with (first
      | (go_at_call 40; refine (sign_any _ _ _ _ _ hc.room).mono ?_; rintro r w0 ⟨rfl, hb0⟩; obtain ⟨hsz0, hcell0, hfz0⟩ := near (w.heap.size + 1 + 1 + 1) (by simp) hb0; rw [hsg])
      | (go_at_call 133; refine (hov _ (ha.below (bthen (bl3 _ _ _ _) hb0)) (hc.below (bthen (bl3 _ _ _ _) hb0))).mono ?_; rintro r w1 ⟨a1, n1, c1, o, a9, n9, c9, rem, rfl, p1, p2, p3, p4, p5, p6, p7, p8⟩; obtain ⟨hsz1, hcell1, hfz1⟩ := near (w.heap.size + 1 + 1 + 1) hsz0 p8; skip)
      | (go_at_call 104; refine (of_int _ _ _ _ o _ p1).mono ?_; rintro r w2 ⟨neg', a2, n2, c2, rfl, hint, hb2⟩; obtain ⟨hsz2, hcell2, hfz2⟩ := near (w.heap.size + 1 + 1 + 1) hsz1 hb2; have hz0 := Nat.lt_of_lt_of_le (Nat.lt_succ_of_lt (Nat.lt_succ_of_lt (Nat.lt_succ_self w.heap.size))) hsz2; have hz1 := Nat.lt_of_lt_of_le (Nat.lt_succ_self (w.heap.size + 1 + 1)) hsz2))
    · have hr : rem ≠ 0 := by have h : (!decide (rem = 0)) = true := by assumption
                              simpa using h
      have h0 : w2.cell? ⟨w.heap.size + 1 + 1, 0, none⟩ = some (.bool false) := by simp [hcell2, hcell1, hcell0, go_sem]
      have h1' : w2.cell? ⟨w.heap.size + 1 + 1, 1, none⟩ = some (.slice none 0 0) := by simp [hcell2, hcell1, hcell0, go_sem]
      have h2' : ∀ o, w2.frozen? ⟨w.heap.size + 1 + 1, o, none⟩ = false := by intro o; simp [hfz2, hfz1, hfz0, go_sem]
      have HE := hide (show sgn true (V o n1) - 1 = sgn true (V d n) / V e m by simp only [sgn]; exact (div_neg_lost (by omega) p5 (by omega) p7).symm)
      have nz : w2.heap.size ≠ w.heap.size + 1 + 1 := by omega
      have nz' : w.heap.size + 1 + 1 ≠ w2.heap.size := by omega
      have y1 := Nat.le_succ_of_le hz1
      go_region_held3 (fun w' => w'.cell? ⟨w2.heap.size, 0, none⟩ = some (.bool neg') ∧ w'.cell? ⟨w2.heap.size, 1, none⟩ = some (.slice a2 n2 c2)) (go_keep)
        (first
          | (go_at_call 62; refine (numOf_int 1 _ (by decide) (by decide)).mono ?_; rintro r w3 ⟨neg3, a3, n3, c3, rfl, hint3, hb3⟩; obtain ⟨hsz3, hcell3, hfz3⟩ := near (w2.heap.size + 1) (by simp) hb3)
          | (go_at_call 50; refine (sub_int _ _ _ _ _ _ _ _ n1 4 _ _ _ (hint.below (bthen (bl1 _ _).drew hb3)) hint3 (by omega) (by omega)).mono ?_; rintro r w4 ⟨neg4, a4, n4, c4, rfl, hint4, hb4⟩; obtain ⟨hsz4, hcell4, hfz4⟩ := near (w2.heap.size + 1) hsz3 hb4))
      go_wp2
      have h0 : w4.cell? ⟨w.heap.size + 1 + 1, 0, none⟩ = some (.bool false) := by rw [hcell4 _ _ y1, hcell3 _ _ y1]; exact (World.cell?_alloc_past _ _ _ hz1).trans h0
      have h1' : w4.cell? ⟨w.heap.size + 1 + 1, 1, none⟩ = some (.slice none 0 0) := by rw [hcell4 _ _ y1, hcell3 _ _ y1]; exact (World.cell?_alloc_past _ _ _ hz1).trans h1'
      refine bodyPost_ret (v := .agg #[.bool neg4, .slice a4 n4 c4]) (by simp [results, Try.results103, go_sem, h0, h1']) rfl ⟨neg4, a4, n4, c4, rfl, ?_, ?_⟩
      · rw [unhide HE] at hint4
        exact (hint4.put2 h0 h1' _ _).mono (by omega)
      · exact ((bthen (bthen (balloc (bthen (bthen (bthen (bl3 _ _ _ _) hb0) p8) hb2) _).drew hb3) hb4).setCell (p := ⟨w.heap.size + 1 + 1, 0, none⟩) le2 _).setCell (p := ⟨w.heap.size + 1 + 1, 1, none⟩) le2 _
    · have hr : rem = 0 := by have h : (!decide (rem = 0)) = false := by assumption
                              simpa using h
      have h0 : w2.cell? ⟨w.heap.size + 1 + 1, 0, none⟩ = some (.bool false) := by simp [hcell2, hcell1, hcell0, go_sem]
      have h1' : w2.cell? ⟨w.heap.size + 1 + 1, 1, none⟩ = some (.slice none 0 0) := by simp [hcell2, hcell1, hcell0, go_sem]
      refine bodyPost_ret (v := .agg #[.bool neg', .slice a2 n2 c2]) (by simp [results, Try.results103, go_sem, hz0, hz1, h0, h1']) rfl ⟨neg', a2, n2, c2, rfl, ?_, ?_⟩
      · rw [show sgn true (V o n1) = sgn true (V d n) / V e m by simp only [sgn]; exact (div_neg_eq (by omega) (by rw [p5, hr]; omega)).symm] at hint
        exact ((hint.put2 h0 h1' _ _).below (bl1 _ _)).mono (by omega)
      · exact balloc (((bthen (bthen (bthen (bl3 _ _ _ _) hb0) p8) hb2).setCell (p := ⟨w.heap.size + 1 + 1, 0, none⟩) le2 _).setCell (p := ⟨w.heap.size + 1 + 1, 1, none⟩) le2 _) _

theorem int_pos {w : World} {neg : Bool} {a : Option Addr} {n cap k : Nat} {y : Int} (h : IntAt w neg a n cap k y) (hy : 0 < y) : ∃ e, neg = false ∧ 0 < n ∧ Dig w a n cap e ∧ (n = 0 ∨ e (n - 1) ≠ 0) ∧ n ≤ k ∧ y = V e n := by
  obtain ⟨e, h1, h2, h3, h4, h5⟩ := h
  have hv := V_nonneg h1.dgs n
  cases neg
  · have hn : 0 < n := by
      rcases Nat.eq_zero_or_pos n with h0 | h0
      · subst h0; simp [sgn, V] at h5; omega
      · exact h0
    exact ⟨e, rfl, hn, h1, h2, h4, by simpa [sgn] using h5⟩
  · simp [sgn] at h5; omega

/-- A number of more than k digits is at least 65536 to the power of k. -/
theorem len_le {e : Nat → Int} (he : Dgs e) {m k : Nat} (h2 : m = 0 ∨ e (m - 1) ≠ 0) (h : V e m < P k) : m ≤ k := by
  rcases Nat.lt_or_ge k m with hk | hk
  · have h3 := V_ge he (m - 1) (by omega)
    rw [show m - 1 + 1 = m by omega] at h3
    have := P_mono (show k ≤ m - 1 by omega); omega
  · exact hk

theorem floor_small (neg neg2 : Bool) (a c : Option Addr) (n m cap cap2 k k2 : Nat) (x y : Int) (w : World) (h1 : IntAt w neg a n cap k x) (h2 : IntAt w neg2 c m cap2 k2 y) (hk : k ≤ 900000000) (hy : 0 < y) (hy3 : y < 281474976710656) :
    Calls Try.prog 103 #[.agg #[.bool neg, .slice a n cap], .agg #[.bool neg2, .slice c m cap2]] w (FloorAns w k (x / y)) := by
  obtain ⟨e, rfl, f0, f1, f2, f3, rfl⟩ := int_pos h2 hy
  obtain ⟨d, g1, g2, g3, g4, rfl⟩ := h1
  have hm3 : m ≤ 3 := len_le f1.dgs f2 (by rw [P3]; exact hy3)
  exact (floor_core neg a c n m cap cap2 d e w g1 f1 (by omega) f0 (fun w' p q => over_small a c n m cap cap2 d e w' p q (by omega) g2 f2 hy (Or.inl hm3))).mono
    fun _ _ ⟨n1, n2, n3, n4, q1, q2, q3⟩ => ⟨n1, n2, n3, n4, q1, q2.mono (by omega), q3⟩
end Go.Proofs.Ytgmnknmjainabaa

namespace Go.Proofs.Ytgmnknmjainabaa
set_option linter.unusedVariables false
set_option linter.unusedSimpArgs false
set_option linter.unnecessarySimpa false
open Go.RowKit

/-- A span as it lies in a frame. -/
structure Sp where
  ln : Bool
  la : Option Addr
  lN : Nat
  lc : Nat
  hn : Bool
  ha : Option Addr
  hN : Nat
  hc : Nat
  bits : Int

/-- Its digits, whatever they are. -/
structure SpDig (w : World) (s : Sp) (d e : Nat → Int) : Prop where
  lo : Dig w s.la s.lN s.lc d
  hi : Dig w s.ha s.hN s.hc e

theorem SpDig.below {w w' : World} {s : Sp} {d e : Nat → Int} (h : SpDig w s d e) (hb : Below w.heap.size w w') : SpDig w' s d e := ⟨h.lo.below hb, h.hi.below hb⟩

/-- What Check says. -/
def chkE (s : Sp) (d e : Nat → Int) : Int :=
  if s.bits < 1 ∨ 120 < s.bits then 3
  else if rightB s.ln s.lN d = false ∨ rightB s.hn s.hN e = false then 1
  else if 4000 < lenZ s.lN d ∨ 4000 < lenZ s.hN e then 2
  else if 0 < cmpI s.ln s.hn d e s.lN s.hN then 4
  else 0

theorem chkE_cases (s : Sp) (d e : Nat → Int) : chkE s d e = 0 ∨ chkE s d e = 1 ∨ chkE s d e = 2 ∨ chkE s d e = 3 ∨ chkE s d e = 4 := by
  unfold chkE; repeat' split
  all_goals simp

set_option maxHeartbeats 400000 in
theorem between_any (n l m : Int) (w : World) :
    Calls Try.prog 75 #[.int .i64 n, .int .i64 l, .int .i64 m] w fun r w' => r = .returned (.bool (decide (l ≤ n) && decide (n ≤ m))) ∧ w' = w := by
  by_cases h : l ≤ n
  · go_enter Try.func75, Try.ntmps75
    go_wp2
    go_ret
    exact ⟨by simp [h], rfl⟩
  · go_enter Try.func75, Try.ntmps75
    go_wp2
    go_ret
    exact ⟨by simp; omega, rfl⟩

set_option maxRecDepth 100000 in
set_option maxHeartbeats 4000000 in
theorem check_any (s : Sp) (d e : Nat → Int) (w : World) (h : SpDig w s d e) :
    Calls Try.prog 25 #[.agg #[.bool s.ln, .slice s.la s.lN s.lc, .bool s.hn, .slice s.ha s.hN s.hc, .int .i64 s.bits]] w fun r w' => r = .returned (.int .i64 (chkE s d e)) ∧ Below w.heap.size w w' := by
  by_cases c0 : s.bits < 1
  · have HC := hide (show chkE s d e = 3 by unfold chkE; simp [c0])
    go_enter Try.func25, Try.ntmps25
    go_wp2_with fail
    go_ret
    exact ⟨by rw [unhide HC]; rfl, bl1 _ _⟩
  by_cases c1 : 120 < s.bits
  · have HC := hide (show chkE s d e = 3 by unfold chkE; simp [c0, c1])
    go_enter Try.func25, Try.ntmps25
    go_wp2_with fail
    go_ret
    exact ⟨by rw [unhide HC]; rfl, bl1 _ _⟩
  by_cases c2 : rightB s.ln s.lN d = false
  · have HC := hide (show chkE s d e = 1 by unfold chkE; simp [c0, c1, c2])
    go_enter Try.func25, Try.ntmps25
    go_wp2_with fail
    refine (isRight_any _ _ _ _ d _ (h.lo.below (bl1 _ _))).mono ?_
    rintro r w1 ⟨rfl, hb1⟩
    obtain ⟨hsz1, hcell1, hfz1⟩ := near (w.heap.size + 1) (by simp) hb1
    go_wp2_with fail
    go_ret
    exact ⟨by rw [unhide HC]; rfl, bthen (bl1 _ _) hb1⟩
  have c2' : rightB s.ln s.lN d  = true := by simpa using c2
  by_cases c3 : rightB s.hn s.hN e = false
  · have HC := hide (show chkE s d e = 1 by unfold chkE; simp [c0, c1, c2, c3])
    go_enter Try.func25, Try.ntmps25
    go_wp2_with fail
    refine (isRight_any _ _ _ _ d _ (h.lo.below (bl1 _ _))).mono ?_
    rintro r w1 ⟨rfl, hb1⟩
    obtain ⟨hsz1, hcell1, hfz1⟩ := near (w.heap.size + 1) (by simp) hb1
    go_wp2_with fail
    refine (isRight_any _ _ _ _ e _ (h.hi.below (bthen (bl1 _ _) hb1))).mono ?_
    rintro r w2 ⟨rfl, hb2⟩
    obtain ⟨hsz2, hcell2, hfz2⟩ := near (w.heap.size + 1) hsz1 hb2
    go_wp2_with fail
    go_ret
    exact ⟨by rw [unhide HC]; rfl, bthen (bthen (bl1 _ _) hb1) hb2⟩
  have c3' : rightB s.hn s.hN e  = true := by simpa using c3
  by_cases c4 : 4000 < lenZ s.lN d
  · have HC := hide (show chkE s d e = 2 by unfold chkE; simp [c0, c1, c2, c3, c4])
    go_enter Try.func25, Try.ntmps25
    go_wp2_with fail
    refine (isRight_any _ _ _ _ d _ (h.lo.below (bl1 _ _))).mono ?_
    rintro r w1 ⟨rfl, hb1⟩
    obtain ⟨hsz1, hcell1, hfz1⟩ := near (w.heap.size + 1) (by simp) hb1
    go_wp2_with fail
    refine (isRight_any _ _ _ _ e _ (h.hi.below (bthen (bl1 _ _) hb1))).mono ?_
    rintro r w2 ⟨rfl, hb2⟩
    obtain ⟨hsz2, hcell2, hfz2⟩ := near (w.heap.size + 1) hsz1 hb2
    go_wp2_with fail
    refine (len_any _ _ _ _ d _ (h.lo.below (bthen (bthen (bl1 _ _) hb1) hb2))).mono ?_
    rintro r w3 ⟨rfl, hb3⟩
    obtain ⟨hsz3, hcell3, hfz3⟩ := near (w.heap.size + 1) hsz2 hb3
    go_wp2_with fail
    go_ret
    exact ⟨by rw [unhide HC]; rfl, bthen (bthen (bthen (bl1 _ _) hb1) hb2) hb3⟩
  by_cases c5 : 4000 < lenZ s.hN e
  · have HC := hide (show chkE s d e = 2 by unfold chkE; simp [c0, c1, c2, c3, c4, c5])
    go_enter Try.func25, Try.ntmps25
    go_wp2_with fail
    refine (isRight_any _ _ _ _ d _ (h.lo.below (bl1 _ _))).mono ?_
    rintro r w1 ⟨rfl, hb1⟩
    obtain ⟨hsz1, hcell1, hfz1⟩ := near (w.heap.size + 1) (by simp) hb1
    go_wp2_with fail
    refine (isRight_any _ _ _ _ e _ (h.hi.below (bthen (bl1 _ _) hb1))).mono ?_
    rintro r w2 ⟨rfl, hb2⟩
    obtain ⟨hsz2, hcell2, hfz2⟩ := near (w.heap.size + 1) hsz1 hb2
    go_wp2_with fail
    refine (len_any _ _ _ _ d _ (h.lo.below (bthen (bthen (bl1 _ _) hb1) hb2))).mono ?_
    rintro r w3 ⟨rfl, hb3⟩
    obtain ⟨hsz3, hcell3, hfz3⟩ := near (w.heap.size + 1) hsz2 hb3
    go_wp2_with fail
    refine (len_any _ _ _ _ e _ (h.hi.below (bthen (bthen (bthen (bl1 _ _) hb1) hb2) hb3))).mono ?_
    rintro r w4 ⟨rfl, hb4⟩
    obtain ⟨hsz4, hcell4, hfz4⟩ := near (w.heap.size + 1) hsz3 hb4
    go_wp2_with fail
    go_ret
    exact ⟨by rw [unhide HC]; rfl, bthen (bthen (bthen (bthen (bl1 _ _) hb1) hb2) hb3) hb4⟩
  by_cases c6 : 0 < cmpI s.ln s.hn d e s.lN s.hN
  · have HC := hide (show chkE s d e = 4 by unfold chkE; simp [c0, c1, c2, c3, c4, c5, c6])
    go_enter Try.func25, Try.ntmps25
    go_wp2_with fail
    refine (isRight_any _ _ _ _ d _ (h.lo.below (bl1 _ _))).mono ?_
    rintro r w1 ⟨rfl, hb1⟩
    obtain ⟨hsz1, hcell1, hfz1⟩ := near (w.heap.size + 1) (by simp) hb1
    go_wp2_with fail
    refine (isRight_any _ _ _ _ e _ (h.hi.below (bthen (bl1 _ _) hb1))).mono ?_
    rintro r w2 ⟨rfl, hb2⟩
    obtain ⟨hsz2, hcell2, hfz2⟩ := near (w.heap.size + 1) hsz1 hb2
    go_wp2_with fail
    refine (len_any _ _ _ _ d _ (h.lo.below (bthen (bthen (bl1 _ _) hb1) hb2))).mono ?_
    rintro r w3 ⟨rfl, hb3⟩
    obtain ⟨hsz3, hcell3, hfz3⟩ := near (w.heap.size + 1) hsz2 hb3
    go_wp2_with fail
    refine (len_any _ _ _ _ e _ (h.hi.below (bthen (bthen (bthen (bl1 _ _) hb1) hb2) hb3))).mono ?_
    rintro r w4 ⟨rfl, hb4⟩
    obtain ⟨hsz4, hcell4, hfz4⟩ := near (w.heap.size + 1) hsz3 hb4
    go_wp2_with fail
    refine (cmp_any _ _ _ _ _ _ _ _ d e _ (h.lo.below (bthen (bthen (bthen (bthen (bl1 _ _) hb1) hb2) hb3) hb4)) (h.hi.below (bthen (bthen (bthen (bthen (bl1 _ _) hb1) hb2) hb3) hb4))).mono ?_
    rintro r w5 ⟨rfl, hb5⟩
    obtain ⟨hsz5, hcell5, hfz5⟩ := near (w.heap.size + 1) hsz4 hb5
    go_wp2_with fail
    go_ret
    exact ⟨by rw [unhide HC]; rfl, bthen (bthen (bthen (bthen (bthen (bl1 _ _) hb1) hb2) hb3) hb4) hb5⟩
  have HC := hide (show chkE s d e = 0 by unfold chkE; simp [c0, c1, c2, c3, c4, c5, c6])
  go_enter Try.func25, Try.ntmps25
  go_wp2_with fail
  refine (isRight_any _ _ _ _ d _ (h.lo.below (bl1 _ _))).mono ?_
  rintro r w1 ⟨rfl, hb1⟩
  obtain ⟨hsz1, hcell1, hfz1⟩ := near (w.heap.size + 1) (by simp) hb1
  go_wp2_with fail
  refine (isRight_any _ _ _ _ e _ (h.hi.below (bthen (bl1 _ _) hb1))).mono ?_
  rintro r w2 ⟨rfl, hb2⟩
  obtain ⟨hsz2, hcell2, hfz2⟩ := near (w.heap.size + 1) hsz1 hb2
  go_wp2_with fail
  refine (len_any _ _ _ _ d _ (h.lo.below (bthen (bthen (bl1 _ _) hb1) hb2))).mono ?_
  rintro r w3 ⟨rfl, hb3⟩
  obtain ⟨hsz3, hcell3, hfz3⟩ := near (w.heap.size + 1) hsz2 hb3
  go_wp2_with fail
  refine (len_any _ _ _ _ e _ (h.hi.below (bthen (bthen (bthen (bl1 _ _) hb1) hb2) hb3))).mono ?_
  rintro r w4 ⟨rfl, hb4⟩
  obtain ⟨hsz4, hcell4, hfz4⟩ := near (w.heap.size + 1) hsz3 hb4
  go_wp2_with fail
  refine (cmp_any _ _ _ _ _ _ _ _ d e _ (h.lo.below (bthen (bthen (bthen (bthen (bl1 _ _) hb1) hb2) hb3) hb4)) (h.hi.below (bthen (bthen (bthen (bthen (bl1 _ _) hb1) hb2) hb3) hb4))).mono ?_
  rintro r w5 ⟨rfl, hb5⟩
  obtain ⟨hsz5, hcell5, hfz5⟩ := near (w.heap.size + 1) hsz4 hb5
  go_wp2_with fail
  go_ret
  exact ⟨by rw [unhide HC]; rfl, bthen (bthen (bthen (bthen (bthen (bl1 _ _) hb1) hb2) hb3) hb4) hb5⟩

set_option maxRecDepth 100000 in
set_option maxHeartbeats 4000000 in
theorem checkSpan_any (s : Sp) (d e : Nat → Int) (w : World) (h : SpDig w s d e) :
    Calls Try.prog 17 #[.agg #[.bool s.ln, .slice s.la s.lN s.lc, .bool s.hn, .slice s.ha s.hN s.hc, .int .i64 s.bits]] w fun r w' => r = .returned (.int .i64 (chkE s d e)) ∧ Below w.heap.size w w' := by
  by_cases c0 : s.bits < 1
  · have HC := hide (show chkE s d e = 3 by unfold chkE; simp [c0])
    have hb : (decide (1 ≤ s.bits) && decide (s.bits ≤ 120)) = false := by simp; omega
    go_enter Try.func17, Try.ntmps17
    go_wp2_with fail
    refine (between_any _ _ _ _).mono ?_
    rintro r w' ⟨rfl, rfl⟩
    go_wp2_with fail
    go_ret
    exact ⟨by rw [unhide HC]; rfl, bl1 _ _⟩
  by_cases c1 : 120 < s.bits
  · have HC := hide (show chkE s d e = 3 by unfold chkE; simp [c0, c1])
    have hb : decide (s.bits ≤ 120) = false := by simp; omega
    go_enter Try.func17, Try.ntmps17
    go_wp2_with fail
    refine (between_any _ _ _ _).mono ?_
    rintro r w' ⟨rfl, rfl⟩
    go_wp2_with fail
    go_ret
    exact ⟨by rw [unhide HC]; rfl, bl1 _ _⟩
  by_cases c2 : rightB s.ln s.lN d = false
  · have HC := hide (show chkE s d e = 1 by unfold chkE; simp [c0, c1, c2])
    have hb : (decide (1 ≤ s.bits) && decide (s.bits ≤ 120)) = true := by simp; omega
    go_enter Try.func17, Try.ntmps17
    go_wp2_with fail
    refine (between_any _ _ _ _).mono ?_
    rintro r w' ⟨rfl, rfl⟩
    go_wp2_with fail
    refine (isRight_any _ _ _ _ d _ (h.lo.below (bl1 _ _))).mono ?_
    rintro r w1 ⟨rfl, hb1⟩
    obtain ⟨hsz1, hcell1, hfz1⟩ := near (w.heap.size + 1) (by simp) hb1
    go_wp2_with fail
    go_ret
    exact ⟨by rw [unhide HC]; rfl, bthen (bl1 _ _) hb1⟩
  have c2' : rightB s.ln s.lN d  = true := by simpa using c2
  by_cases c3 : rightB s.hn s.hN e = false
  · have HC := hide (show chkE s d e = 1 by unfold chkE; simp [c0, c1, c2, c3])
    have hb : (decide (1 ≤ s.bits) && decide (s.bits ≤ 120)) = true := by simp; omega
    go_enter Try.func17, Try.ntmps17
    go_wp2_with fail
    refine (between_any _ _ _ _).mono ?_
    rintro r w' ⟨rfl, rfl⟩
    go_wp2_with fail
    refine (isRight_any _ _ _ _ d _ (h.lo.below (bl1 _ _))).mono ?_
    rintro r w1 ⟨rfl, hb1⟩
    obtain ⟨hsz1, hcell1, hfz1⟩ := near (w.heap.size + 1) (by simp) hb1
    go_wp2_with fail
    refine (isRight_any _ _ _ _ e _ (h.hi.below (bthen (bl1 _ _) hb1))).mono ?_
    rintro r w2 ⟨rfl, hb2⟩
    obtain ⟨hsz2, hcell2, hfz2⟩ := near (w.heap.size + 1) hsz1 hb2
    go_wp2_with fail
    go_ret
    exact ⟨by rw [unhide HC]; rfl, bthen (bthen (bl1 _ _) hb1) hb2⟩
  have c3' : rightB s.hn s.hN e  = true := by simpa using c3
  by_cases c4 : 4000 < lenZ s.lN d
  · have HC := hide (show chkE s d e = 2 by unfold chkE; simp [c0, c1, c2, c3, c4])
    have hb : (decide (1 ≤ s.bits) && decide (s.bits ≤ 120)) = true := by simp; omega
    go_enter Try.func17, Try.ntmps17
    go_wp2_with fail
    refine (between_any _ _ _ _).mono ?_
    rintro r w' ⟨rfl, rfl⟩
    go_wp2_with fail
    refine (isRight_any _ _ _ _ d _ (h.lo.below (bl1 _ _))).mono ?_
    rintro r w1 ⟨rfl, hb1⟩
    obtain ⟨hsz1, hcell1, hfz1⟩ := near (w.heap.size + 1) (by simp) hb1
    go_wp2_with fail
    refine (isRight_any _ _ _ _ e _ (h.hi.below (bthen (bl1 _ _) hb1))).mono ?_
    rintro r w2 ⟨rfl, hb2⟩
    obtain ⟨hsz2, hcell2, hfz2⟩ := near (w.heap.size + 1) hsz1 hb2
    go_wp2_with fail
    refine (len_any _ _ _ _ d _ (h.lo.below (bthen (bthen (bl1 _ _) hb1) hb2))).mono ?_
    rintro r w3 ⟨rfl, hb3⟩
    obtain ⟨hsz3, hcell3, hfz3⟩ := near (w.heap.size + 1) hsz2 hb3
    go_wp2_with fail
    go_ret
    exact ⟨by rw [unhide HC]; rfl, bthen (bthen (bthen (bl1 _ _) hb1) hb2) hb3⟩
  by_cases c5 : 4000 < lenZ s.hN e
  · have HC := hide (show chkE s d e = 2 by unfold chkE; simp [c0, c1, c2, c3, c4, c5])
    have hb : (decide (1 ≤ s.bits) && decide (s.bits ≤ 120)) = true := by simp; omega
    go_enter Try.func17, Try.ntmps17
    go_wp2_with fail
    refine (between_any _ _ _ _).mono ?_
    rintro r w' ⟨rfl, rfl⟩
    go_wp2_with fail
    refine (isRight_any _ _ _ _ d _ (h.lo.below (bl1 _ _))).mono ?_
    rintro r w1 ⟨rfl, hb1⟩
    obtain ⟨hsz1, hcell1, hfz1⟩ := near (w.heap.size + 1) (by simp) hb1
    go_wp2_with fail
    refine (isRight_any _ _ _ _ e _ (h.hi.below (bthen (bl1 _ _) hb1))).mono ?_
    rintro r w2 ⟨rfl, hb2⟩
    obtain ⟨hsz2, hcell2, hfz2⟩ := near (w.heap.size + 1) hsz1 hb2
    go_wp2_with fail
    refine (len_any _ _ _ _ d _ (h.lo.below (bthen (bthen (bl1 _ _) hb1) hb2))).mono ?_
    rintro r w3 ⟨rfl, hb3⟩
    obtain ⟨hsz3, hcell3, hfz3⟩ := near (w.heap.size + 1) hsz2 hb3
    go_wp2_with fail
    refine (len_any _ _ _ _ e _ (h.hi.below (bthen (bthen (bthen (bl1 _ _) hb1) hb2) hb3))).mono ?_
    rintro r w4 ⟨rfl, hb4⟩
    obtain ⟨hsz4, hcell4, hfz4⟩ := near (w.heap.size + 1) hsz3 hb4
    go_wp2_with fail
    go_ret
    exact ⟨by rw [unhide HC]; rfl, bthen (bthen (bthen (bthen (bl1 _ _) hb1) hb2) hb3) hb4⟩
  by_cases c6 : 0 < cmpI s.ln s.hn d e s.lN s.hN
  · have HC := hide (show chkE s d e = 4 by unfold chkE; simp [c0, c1, c2, c3, c4, c5, c6])
    have hb : (decide (1 ≤ s.bits) && decide (s.bits ≤ 120)) = true := by simp; omega
    go_enter Try.func17, Try.ntmps17
    go_wp2_with fail
    refine (between_any _ _ _ _).mono ?_
    rintro r w' ⟨rfl, rfl⟩
    go_wp2_with fail
    refine (isRight_any _ _ _ _ d _ (h.lo.below (bl1 _ _))).mono ?_
    rintro r w1 ⟨rfl, hb1⟩
    obtain ⟨hsz1, hcell1, hfz1⟩ := near (w.heap.size + 1) (by simp) hb1
    go_wp2_with fail
    refine (isRight_any _ _ _ _ e _ (h.hi.below (bthen (bl1 _ _) hb1))).mono ?_
    rintro r w2 ⟨rfl, hb2⟩
    obtain ⟨hsz2, hcell2, hfz2⟩ := near (w.heap.size + 1) hsz1 hb2
    go_wp2_with fail
    refine (len_any _ _ _ _ d _ (h.lo.below (bthen (bthen (bl1 _ _) hb1) hb2))).mono ?_
    rintro r w3 ⟨rfl, hb3⟩
    obtain ⟨hsz3, hcell3, hfz3⟩ := near (w.heap.size + 1) hsz2 hb3
    go_wp2_with fail
    refine (len_any _ _ _ _ e _ (h.hi.below (bthen (bthen (bthen (bl1 _ _) hb1) hb2) hb3))).mono ?_
    rintro r w4 ⟨rfl, hb4⟩
    obtain ⟨hsz4, hcell4, hfz4⟩ := near (w.heap.size + 1) hsz3 hb4
    go_wp2_with fail
    refine (cmp_any _ _ _ _ _ _ _ _ d e _ (h.lo.below (bthen (bthen (bthen (bthen (bl1 _ _) hb1) hb2) hb3) hb4)) (h.hi.below (bthen (bthen (bthen (bthen (bl1 _ _) hb1) hb2) hb3) hb4))).mono ?_
    rintro r w5 ⟨rfl, hb5⟩
    obtain ⟨hsz5, hcell5, hfz5⟩ := near (w.heap.size + 1) hsz4 hb5
    go_wp2_with fail
    go_ret
    exact ⟨by rw [unhide HC]; rfl, bthen (bthen (bthen (bthen (bthen (bl1 _ _) hb1) hb2) hb3) hb4) hb5⟩
  have HC := hide (show chkE s d e = 0 by unfold chkE; simp [c0, c1, c2, c3, c4, c5, c6])
  have hb : (decide (1 ≤ s.bits) && decide (s.bits ≤ 120)) = true := by simp; omega
  go_enter Try.func17, Try.ntmps17
  go_wp2_with fail
  refine (between_any _ _ _ _).mono ?_
  rintro r w' ⟨rfl, rfl⟩
  go_wp2_with fail
  refine (isRight_any _ _ _ _ d _ (h.lo.below (bl1 _ _))).mono ?_
  rintro r w1 ⟨rfl, hb1⟩
  obtain ⟨hsz1, hcell1, hfz1⟩ := near (w.heap.size + 1) (by simp) hb1
  go_wp2_with fail
  refine (isRight_any _ _ _ _ e _ (h.hi.below (bthen (bl1 _ _) hb1))).mono ?_
  rintro r w2 ⟨rfl, hb2⟩
  obtain ⟨hsz2, hcell2, hfz2⟩ := near (w.heap.size + 1) hsz1 hb2
  go_wp2_with fail
  refine (len_any _ _ _ _ d _ (h.lo.below (bthen (bthen (bl1 _ _) hb1) hb2))).mono ?_
  rintro r w3 ⟨rfl, hb3⟩
  obtain ⟨hsz3, hcell3, hfz3⟩ := near (w.heap.size + 1) hsz2 hb3
  go_wp2_with fail
  refine (len_any _ _ _ _ e _ (h.hi.below (bthen (bthen (bthen (bl1 _ _) hb1) hb2) hb3))).mono ?_
  rintro r w4 ⟨rfl, hb4⟩
  obtain ⟨hsz4, hcell4, hfz4⟩ := near (w.heap.size + 1) hsz3 hb4
  go_wp2_with fail
  refine (cmp_any _ _ _ _ _ _ _ _ d e _ (h.lo.below (bthen (bthen (bthen (bthen (bl1 _ _) hb1) hb2) hb3) hb4)) (h.hi.below (bthen (bthen (bthen (bthen (bl1 _ _) hb1) hb2) hb3) hb4))).mono ?_
  rintro r w5 ⟨rfl, hb5⟩
  obtain ⟨hsz5, hcell5, hfz5⟩ := near (w.heap.size + 1) hsz4 hb5
  go_wp2_with fail
  go_ret
  exact ⟨by rw [unhide HC]; rfl, bthen (bthen (bthen (bthen (bthen (bl1 _ _) hb1) hb2) hb3) hb4) hb5⟩
end Go.Proofs.Ytgmnknmjainabaa

namespace Go.Proofs.Ytgmnknmjainabaa
set_option linter.unusedVariables false
set_option linter.unusedSimpArgs false
set_option linter.unnecessarySimpa false
open Go.RowKit
attribute [local go_sem ↓] Go.wp_at_zero Go.wp_at_succ

/-- A num.Int as it lies in a frame. -/
structure Nm where
  neg : Bool
  a : Option Addr
  n : Nat
  cap : Nat

/-- A row of right numbers. -/
structure Nums (w : World) (b n k : Nat) (f : Nat → Nm) (z : Nat → Int) : Prop where
  lt : b < w.heap.size
  c0 : ∀ j, j < n → w.cell? ⟨b, j * 2, none⟩ = some (.bool (f j).neg)
  c1 : ∀ j, j < n → w.cell? ⟨b, j * 2 + 1, none⟩ = some (.slice (f j).a (f j).n (f j).cap)
  int : ∀ j, j < n → IntAt w (f j).neg (f j).a (f j).n (f j).cap k (z j)

theorem Nums.below {w w' : World} {b n k : Nat} {f : Nat → Nm} {z : Nat → Int} (h : Nums w b n k f z) (hb : Below w.heap.size w w') : Nums w' b n k f z :=
  ⟨Nat.lt_of_lt_of_le h.lt hb.size, fun j hj => (hb.cell (p := ⟨b, j * 2, none⟩) h.lt).trans (h.c0 j hj), fun j hj => (hb.cell (p := ⟨b, j * 2 + 1, none⟩) h.lt).trans (h.c1 j hj), fun j hj => (h.int j hj).below hb⟩

/-- The greatest, and the least, of n + 1 numbers. -/
def mostZ (z : Nat → Int) : Nat → Int
  | 0 => z 0
  | n + 1 => if mostZ z n < z (n + 1) then z (n + 1) else mostZ z n
def leastZ (z : Nat → Int) : Nat → Int
  | 0 => z 0
  | n + 1 => if z (n + 1) < leastZ z n then z (n + 1) else leastZ z n

theorem cmpInt_le0 {x y : Int} (h : ¬ y < x) : ¬ 0 < cmpInt x y := by
  unfold cmpInt; simp only [h, if_false]; split <;> omega
theorem cmpInt_ge0 {x y : Int} (h : ¬ x < y) : ¬ cmpInt x y < 0 := by
  unfold cmpInt; rw [if_neg h]; split <;> omega
theorem mostZ_up {z : Nat → Int} {i : Nat} (h : mostZ z (i - 1) < z i) : mostZ z (i + 1 - 1) = z i := by
  cases i with
  | zero => rfl
  | succ j => simp only [Nat.add_sub_cancel] at *; simp only [mostZ, h, if_true]
theorem mostZ_stay {z : Nat → Int} {i : Nat} (h : ¬ mostZ z (i - 1) < z i) : mostZ z (i + 1 - 1) = mostZ z (i - 1) := by
  cases i with
  | zero => rfl
  | succ j => simp only [Nat.add_sub_cancel] at *; simp only [mostZ, h, if_false]
theorem leastZ_up {z : Nat → Int} {i : Nat} (h : z i < leastZ z (i - 1)) : leastZ z (i + 1 - 1) = z i := by
  cases i with
  | zero => rfl
  | succ j => simp only [Nat.add_sub_cancel] at *; simp only [leastZ, h, if_true]
theorem leastZ_stay {z : Nat → Int} {i : Nat} (h : ¬ z i < leastZ z (i - 1)) : leastZ z (i + 1 - 1) = leastZ z (i - 1) := by
  cases i with
  | zero => rfl
  | succ j => simp only [Nat.add_sub_cancel] at *; simp only [leastZ, h, if_false]

set_option maxRecDepth 100000 in
set_option maxHeartbeats 1000000 in
theorem power2_int (k : Nat) (w : World) (hk : k ≤ 1000000000) :
    Calls Try.prog 51 #[.int .i64 k] w fun r w' =>
      ∃ neg' a' n' cap', r = .returned (.agg #[.bool neg', .slice a' n' cap']) ∧ IntAt w' neg' a' n' cap' (k / 16 + 5) (Q k) ∧ Below w.heap.size w w' := by
  go_enter Try.func51, Try.ntmps51
  go_wp2_with (first
    | (go_at_call 62; refine (numOf_int 1 _ (by decide) (by decide)).mono ?_; rintro r w1 ⟨neg1, a1, n1, c1, rfl, hint1, hb1⟩; obtain ⟨hsz1, hcell1, hfz1⟩ := near (w.heap.size + 1) (by simp) hb1)
    | (go_at_call 107; refine (up_int _ _ _ _ k 4 1 _ hint1 (by omega) hk).mono ?_; rintro r w2 ⟨neg', a2, n2, c2, rfl, hint, hb2⟩; obtain ⟨hsz2, hcell2, hfz2⟩ := near (w.heap.size + 1) hsz1 hb2))
  have h0 : w2.cell? ⟨w.heap.size, 0, none⟩ = some (.bool false) := by simp [hcell2, hcell1, go_sem]
  have h1' : w2.cell? ⟨w.heap.size, 1, none⟩ = some (.slice none 0 0) := by simp [hcell2, hcell1, go_sem]
  refine bodyPost_ret (v := .agg #[.bool neg', .slice a2 n2 c2]) (by simp [results, Try.results51, go_sem, h0, h1']) rfl ⟨neg', a2, n2, c2, rfl, ?_, ?_⟩
  · rw [Int.one_mul] at hint
    exact (hint.put2 h0 h1' _ _).mono (by omega)
  · exact ((bthen (bthen (bl1 _ _) hb1) hb2).setCell (p := ⟨w.heap.size, 0, none⟩) (Nat.le_refl _) _).setCell (p := ⟨w.heap.size, 1, none⟩) (Nat.le_refl _) _

set_option maxRecDepth 100000 in
set_option maxHeartbeats 1000000 in
theorem copied_int (neg : Bool) (a : Option Addr) (n cap k1 : Nat) (x : Int) (w : World) (h1 : IntAt w neg a n cap k1 x) (hk1 : k1 ≤ 1000000000) :
    Calls Try.prog 146 #[.agg #[.bool neg, .slice a n cap]] w fun r w' =>
      ∃ neg' a' n' cap', r = .returned (.agg #[.bool neg', .slice a' n' cap']) ∧ IntAt w' neg' a' n' cap' (k1 + 1) x ∧ Below w.heap.size w w' := by
  go_enter Try.func146, Try.ntmps146
  go_wp2_with (go_at_call 107; refine (up_int _ _ _ _ 0 k1 x _ (h1.below (bl2 _ _ _)) hk1 (by omega)).mono ?_; rintro r w2 ⟨neg', a2, n2, c2, rfl, hint, hb2⟩; obtain ⟨hsz2, hcell2, hfz2⟩ := near (w.heap.size + 1 + 1) (by simp) hb2)
  have h0 : w2.cell? ⟨w.heap.size + 1, 0, none⟩ = some (.bool false) := by simp [hcell2, go_sem]
  have h1' : w2.cell? ⟨w.heap.size + 1, 1, none⟩ = some (.slice none 0 0) := by simp [hcell2, go_sem]
  refine bodyPost_ret (v := .agg #[.bool neg', .slice a2 n2 c2]) (by simp [results, Try.results146, go_sem, h0, h1']) rfl ⟨neg', a2, n2, c2, rfl, ?_, ?_⟩
  · simp only [Q, Int.mul_one] at hint
    exact (hint.put2 h0 h1' _ _).mono (by omega)
  · exact ((bthen (bl2 _ _ _) hb2).setCell (p := ⟨w.heap.size + 1, 0, none⟩) (Nat.le_succ _) _).setCell (p := ⟨w.heap.size + 1, 1, none⟩) (Nat.le_succ _) _

set_option maxRecDepth 100000 in
set_option maxHeartbeats 2000000 in
theorem greatest_int (b n cap k : Nat) (f : Nat → Nm) (z : Nat → Int) (w : World) (h : Nums w b (n + 1) k f z) (hn : n ≤ 1000) :
    Calls Try.prog 92 #[.slice (some ⟨b, 0, none⟩) (n + 1) cap] w fun r w' =>
      ∃ neg' a' n' cap', r = .returned (.agg #[.bool neg', .slice a' n' cap']) ∧ IntAt w' neg' a' n' cap' k (mostZ z n) ∧ Below w.heap.size w w' := by
  have h00 := h.c0 0 (by omega)
  have h01 := h.c1 0 (by omega)
  simp only [Nat.zero_mul, Nat.zero_add] at h00 h01
  have hnn : (0 : Int) < (n : Int) + 1 := by omega
  have hblt := h.lt
  go_enter Try.func92, Try.ntmps92
  go_wp2
  go_loopw [4] (fun ii wr => ∃ (i : Nat) (x : Nm), i ≤ n + 1 ∧ ii = .int .i64 i ∧ wr.cell? ⟨w.heap.size + 1, 0, none⟩ = some (.bool x.neg) ∧ wr.cell? ⟨w.heap.size + 1, 1, none⟩ = some (.slice x.a x.n x.cap) ∧ (∀ o, wr.frozen? ⟨w.heap.size + 1, o, none⟩ = false) ∧ IntAt wr x.neg x.a x.n x.cap k (mostZ z (i - 1)) ∧ w.heap.size + 1 + 1 ≤ wr.heap.size ∧
      Below (w.heap.size + 1) (w.alloc (.cells #[.bool false, .slice none 0 0] 24)) wr) (fun ii _ => n + 1 - (intOf ii).toNat)
  case atStart =>
    exact ⟨0, f 0, by omega, rfl, by simp [go_sem], by simp [go_sem], by intro o; simp [go_sem], (h.int 0 (by omega)).below (bl2 _ _ _), by simp, (Below.refl _ _).alloc (by simp) _⟩
  case round =>
    obtain ⟨i, x, hi, rfl, x0, x1, x2, hx, hsw, hbl⟩ := hrel
    have hB : Below w.heap.size w wr := (bl1 _ _).trans (hbl.mono (by omega))
    by_cases hin : i < n + 1
    · have g0 := (h.below hB).c0 i hin
      have g1 := (h.below hB).c1 i hin
      have hint := (h.below hB).int i hin
      have hi0 : (0 : Int) ≤ (i : Int) := by omega
      have hi1 : (i : Int) < (n : Int) + 1 := by omega
      have hbb : b ≤ w.heap.size + 1 := by omega
      have hne : w.heap.size + 1 ≠ b := by omega
      have hne' : b ≠ w.heap.size + 1 := by omega
      have HH := hide h
      clear h h00 h01
      by_cases hc : mostZ z (i - 1) < z i
      · have hcm : cmpInt (z i) (mostZ z (i - 1)) = 1 := by unfold cmpInt; rw [if_neg (by omega), if_pos hc]
        have HZ := hide (mostZ_up hc)
        go_wp2
        go_region_held3 (fun w' => w'.cell? ⟨b, i * 2, none⟩ = some (.bool (f i).neg) ∧ w'.cell? ⟨b, i * 2 + 1, none⟩ = some (.slice (f i).a (f i).n (f i).cap) ∧ w'.cell? ⟨w.heap.size + 1, 0, none⟩ = some (.bool x.neg) ∧ w'.cell? ⟨w.heap.size + 1, 1, none⟩ = some (.slice x.a x.n x.cap)) (go_keep)
          (first
            | (go_at_call 33; refine (cmp_int _ _ _ _ _ _ _ _ k k (z i) (mostZ z (i - 1)) _ (hint.below (Below.refl _ _).drew) (hx.below (Below.refl _ _).drew)).mono ?_; rintro r w1 ⟨rfl, hb1⟩; obtain ⟨hsz1, hcell1, hfz1⟩ := near (w.heap.size + 1 + 1) (by exact hsw) hb1; rw [hcm]))
        have y0 : w1.cell? ⟨w.heap.size + 1, 0, none⟩ = some (.bool x.neg) := (hcell1 _ _ (Nat.le_refl _)).trans x0
        have y1 : w1.cell? ⟨w.heap.size + 1, 1, none⟩ = some (.slice x.a x.n x.cap) := (hcell1 _ _ (Nat.le_refl _)).trans x1
        have y2 : ∀ o, w1.frozen? ⟨w.heap.size + 1, o, none⟩ = false := fun o => (hfz1 _ _ (Nat.le_refl _)).trans (x2 o)
        go_wp2
        go_roundw
        case rel =>
          refine ⟨i + 1, f i, by omega, by go_num, by simp [go_sem, y0, y1], by simp [go_sem, y0, y1], by intro o; simp [go_sem, y2], ?_, ?_, ?_⟩
          · rw [unhide HZ]; exact ((hint.below (Below.refl _ _).drew).below hb1).put2 y0 y1 _ _
          · simpa [World.setCell] using hsz1
          · exact ((hbl.trans ((bthen (Below.refl _ _).drew hb1).mono (by omega))).setCell (p := ⟨w.heap.size + 1, 0, none⟩) (Nat.le_refl _) _).setCell (p := ⟨w.heap.size + 1, 1, none⟩) (Nat.le_refl _) _
        case measure => simp [intOf]; omega
      · have hcm : ¬ 0 < cmpInt (z i) (mostZ z (i - 1)) := cmpInt_le0 hc
        have HZ := hide (mostZ_stay hc)
        go_wp2
        go_region_held3 (fun w' => w'.cell? ⟨b, i * 2, none⟩ = some (.bool (f i).neg) ∧ w'.cell? ⟨b, i * 2 + 1, none⟩ = some (.slice (f i).a (f i).n (f i).cap) ∧ w'.cell? ⟨w.heap.size + 1, 0, none⟩ = some (.bool x.neg) ∧ w'.cell? ⟨w.heap.size + 1, 1, none⟩ = some (.slice x.a x.n x.cap)) (go_keep)
          (first
            | (go_at_call 33; refine (cmp_int _ _ _ _ _ _ _ _ k k (z i) (mostZ z (i - 1)) _ (hint.below (Below.refl _ _).drew) (hx.below (Below.refl _ _).drew)).mono ?_; rintro r w1 ⟨rfl, hb1⟩; obtain ⟨hsz1, hcell1, hfz1⟩ := near (w.heap.size + 1 + 1) (by exact hsw) hb1))
        have y0 : w1.cell? ⟨w.heap.size + 1, 0, none⟩ = some (.bool x.neg) := (hcell1 _ _ (Nat.le_refl _)).trans x0
        have y1 : w1.cell? ⟨w.heap.size + 1, 1, none⟩ = some (.slice x.a x.n x.cap) := (hcell1 _ _ (Nat.le_refl _)).trans x1
        have y2 : ∀ o, w1.frozen? ⟨w.heap.size + 1, o, none⟩ = false := fun o => (hfz1 _ _ (Nat.le_refl _)).trans (x2 o)
        go_wp2
        go_roundw
        case rel =>
          exact ⟨i + 1, x, by omega, by go_num, y0, y1, y2, by rw [unhide HZ]; exact (hx.below (Below.refl _ _).drew).below hb1, hsz1, hbl.trans ((bthen (Below.refl _ _).drew hb1).mono (by omega))⟩
        case measure => simp [intOf]; omega
    · have hiE : i = n + 1 := by omega
      subst hiE
      have q3 : wr.cell? ⟨w.heap.size, 0, none⟩ = some (.bool false) := (hbl.cell (p := ⟨w.heap.size, 0, none⟩) (Nat.lt_succ_self _)).trans (by simp [go_sem])
      have q4 : wr.cell? ⟨w.heap.size, 1, none⟩ = some (.slice none 0 0) := (hbl.cell (p := ⟨w.heap.size, 1, none⟩) (Nat.lt_succ_self _)).trans (by simp [go_sem])
      have q5 : ∀ o, wr.frozen? ⟨w.heap.size, o, none⟩ = false := fun o => (hbl.frozen (p := ⟨w.heap.size, o, none⟩) (Nat.lt_succ_self _)).trans (by simp [go_sem])
      clear h h00 h01
      go_wp2
      refine bodyPost_ret (v := .agg #[.bool x.neg, .slice x.a x.n x.cap]) (by simp [results, Try.results92, go_sem, q3, q4]) rfl ⟨x.neg, x.a, x.n, x.cap, rfl, hx.put2 q3 q4 _ _, ?_⟩
      exact (hB.setCell (p := ⟨w.heap.size, 0, none⟩) (Nat.le_refl _) _).setCell (p := ⟨w.heap.size, 1, none⟩) (Nat.le_refl _) _

set_option maxRecDepth 100000 in
set_option maxHeartbeats 2000000 in
theorem least_int (b n cap k : Nat) (f : Nat → Nm) (z : Nat → Int) (w : World) (h : Nums w b (n + 1) k f z) (hn : n ≤ 1000) :
    Calls Try.prog 91 #[.slice (some ⟨b, 0, none⟩) (n + 1) cap] w fun r w' =>
      ∃ neg' a' n' cap', r = .returned (.agg #[.bool neg', .slice a' n' cap']) ∧ IntAt w' neg' a' n' cap' k (leastZ z n) ∧ Below w.heap.size w w' := by
  have h00 := h.c0 0 (by omega)
  have h01 := h.c1 0 (by omega)
  simp only [Nat.zero_mul, Nat.zero_add] at h00 h01
  have hnn : (0 : Int) < (n : Int) + 1 := by omega
  have hblt := h.lt
  go_enter Try.func91, Try.ntmps91
  go_wp2
  go_loopw [4] (fun ii wr => ∃ (i : Nat) (x : Nm), i ≤ n + 1 ∧ ii = .int .i64 i ∧ wr.cell? ⟨w.heap.size + 1, 0, none⟩ = some (.bool x.neg) ∧ wr.cell? ⟨w.heap.size + 1, 1, none⟩ = some (.slice x.a x.n x.cap) ∧ (∀ o, wr.frozen? ⟨w.heap.size + 1, o, none⟩ = false) ∧ IntAt wr x.neg x.a x.n x.cap k (leastZ z (i - 1)) ∧ w.heap.size + 1 + 1 ≤ wr.heap.size ∧
      Below (w.heap.size + 1) (w.alloc (.cells #[.bool false, .slice none 0 0] 24)) wr) (fun ii _ => n + 1 - (intOf ii).toNat)
  case atStart =>
    exact ⟨0, f 0, by omega, rfl, by simp [go_sem], by simp [go_sem], by intro o; simp [go_sem], (h.int 0 (by omega)).below (bl2 _ _ _), by simp, (Below.refl _ _).alloc (by simp) _⟩
  case round =>
    obtain ⟨i, x, hi, rfl, x0, x1, x2, hx, hsw, hbl⟩ := hrel
    have hB : Below w.heap.size w wr := (bl1 _ _).trans (hbl.mono (by omega))
    by_cases hin : i < n + 1
    · have g0 := (h.below hB).c0 i hin
      have g1 := (h.below hB).c1 i hin
      have hint := (h.below hB).int i hin
      have hi0 : (0 : Int) ≤ (i : Int) := by omega
      have hi1 : (i : Int) < (n : Int) + 1 := by omega
      have hbb : b ≤ w.heap.size + 1 := by omega
      have hne : w.heap.size + 1 ≠ b := by omega
      have hne' : b ≠ w.heap.size + 1 := by omega
      have HH := hide h
      clear h h00 h01
      by_cases hc : z i < leastZ z (i - 1)
      · have hcm : cmpInt (z i) (leastZ z (i - 1)) = -1 := by unfold cmpInt; rw [if_pos hc]
        have HZ := hide (leastZ_up hc)
        go_wp2
        go_region_held3 (fun w' => w'.cell? ⟨b, i * 2, none⟩ = some (.bool (f i).neg) ∧ w'.cell? ⟨b, i * 2 + 1, none⟩ = some (.slice (f i).a (f i).n (f i).cap) ∧ w'.cell? ⟨w.heap.size + 1, 0, none⟩ = some (.bool x.neg) ∧ w'.cell? ⟨w.heap.size + 1, 1, none⟩ = some (.slice x.a x.n x.cap)) (go_keep)
          (first
            | (go_at_call 33; refine (cmp_int _ _ _ _ _ _ _ _ k k (z i) (leastZ z (i - 1)) _ (hint.below (Below.refl _ _).drew) (hx.below (Below.refl _ _).drew)).mono ?_; rintro r w1 ⟨rfl, hb1⟩; obtain ⟨hsz1, hcell1, hfz1⟩ := near (w.heap.size + 1 + 1) (by exact hsw) hb1; rw [hcm]))
        have y0 : w1.cell? ⟨w.heap.size + 1, 0, none⟩ = some (.bool x.neg) := (hcell1 _ _ (Nat.le_refl _)).trans x0
        have y1 : w1.cell? ⟨w.heap.size + 1, 1, none⟩ = some (.slice x.a x.n x.cap) := (hcell1 _ _ (Nat.le_refl _)).trans x1
        have y2 : ∀ o, w1.frozen? ⟨w.heap.size + 1, o, none⟩ = false := fun o => (hfz1 _ _ (Nat.le_refl _)).trans (x2 o)
        go_wp2
        go_roundw
        case rel =>
          refine ⟨i + 1, f i, by omega, by go_num, by simp [go_sem, y0, y1], by simp [go_sem, y0, y1], by intro o; simp [go_sem, y2], ?_, ?_, ?_⟩
          · rw [unhide HZ]; exact ((hint.below (Below.refl _ _).drew).below hb1).put2 y0 y1 _ _
          · simpa [World.setCell] using hsz1
          · exact ((hbl.trans ((bthen (Below.refl _ _).drew hb1).mono (by omega))).setCell (p := ⟨w.heap.size + 1, 0, none⟩) (Nat.le_refl _) _).setCell (p := ⟨w.heap.size + 1, 1, none⟩) (Nat.le_refl _) _
        case measure => simp [intOf]; omega
      · have hcm : ¬ cmpInt (z i) (leastZ z (i - 1)) < 0 := cmpInt_ge0 hc
        have HZ := hide (leastZ_stay hc)
        go_wp2
        go_region_held3 (fun w' => w'.cell? ⟨b, i * 2, none⟩ = some (.bool (f i).neg) ∧ w'.cell? ⟨b, i * 2 + 1, none⟩ = some (.slice (f i).a (f i).n (f i).cap) ∧ w'.cell? ⟨w.heap.size + 1, 0, none⟩ = some (.bool x.neg) ∧ w'.cell? ⟨w.heap.size + 1, 1, none⟩ = some (.slice x.a x.n x.cap)) (go_keep)
          (first
            | (go_at_call 33; refine (cmp_int _ _ _ _ _ _ _ _ k k (z i) (leastZ z (i - 1)) _ (hint.below (Below.refl _ _).drew) (hx.below (Below.refl _ _).drew)).mono ?_; rintro r w1 ⟨rfl, hb1⟩; obtain ⟨hsz1, hcell1, hfz1⟩ := near (w.heap.size + 1 + 1) (by exact hsw) hb1))
        have y0 : w1.cell? ⟨w.heap.size + 1, 0, none⟩ = some (.bool x.neg) := (hcell1 _ _ (Nat.le_refl _)).trans x0
        have y1 : w1.cell? ⟨w.heap.size + 1, 1, none⟩ = some (.slice x.a x.n x.cap) := (hcell1 _ _ (Nat.le_refl _)).trans x1
        have y2 : ∀ o, w1.frozen? ⟨w.heap.size + 1, o, none⟩ = false := fun o => (hfz1 _ _ (Nat.le_refl _)).trans (x2 o)
        go_wp2
        go_roundw
        case rel =>
          exact ⟨i + 1, x, by omega, by go_num, y0, y1, y2, by rw [unhide HZ]; exact (hx.below (Below.refl _ _).drew).below hb1, hsz1, hbl.trans ((bthen (Below.refl _ _).drew hb1).mono (by omega))⟩
        case measure => simp [intOf]; omega
    · have hiE : i = n + 1 := by omega
      subst hiE
      have q3 : wr.cell? ⟨w.heap.size, 0, none⟩ = some (.bool false) := (hbl.cell (p := ⟨w.heap.size, 0, none⟩) (Nat.lt_succ_self _)).trans (by simp [go_sem])
      have q4 : wr.cell? ⟨w.heap.size, 1, none⟩ = some (.slice none 0 0) := (hbl.cell (p := ⟨w.heap.size, 1, none⟩) (Nat.lt_succ_self _)).trans (by simp [go_sem])
      have q5 : ∀ o, wr.frozen? ⟨w.heap.size, o, none⟩ = false := fun o => (hbl.frozen (p := ⟨w.heap.size, o, none⟩) (Nat.lt_succ_self _)).trans (by simp [go_sem])
      clear h h00 h01
      go_wp2
      refine bodyPost_ret (v := .agg #[.bool x.neg, .slice x.a x.n x.cap]) (by simp [results, Try.results91, go_sem, q3, q4]) rfl ⟨x.neg, x.a, x.n, x.cap, rfl, hx.put2 q3 q4 _ _, ?_⟩
      exact (hB.setCell (p := ⟨w.heap.size, 0, none⟩) (Nat.le_refl _) _).setCell (p := ⟨w.heap.size, 1, none⟩) (Nat.le_refl _) _

end Go.Proofs.Ytgmnknmjainabaa
