/-
  What num.short answers, and that it leaves old memory alone.
-/
import Derived.Test.YtibbhnmbmgllcaaNumI
namespace Go.Proofs.Ytibbhnmbmgllcaa
set_option linter.unusedVariables false
set_option linter.unusedSimpArgs false
set_option linter.unnecessarySimpa false
open Go.RowKit

/-- The digits from j on. -/
def Tp (d : Nat → Int) (j n : Nat) : Int := V (fun t => d (j + t)) (n - j)

theorem V_shift (d : Nat → Int) (m : Nat) : V d (m + 1) = d 0 + 65536 * V (fun t => d (1 + t)) m := by
  have h := V_split d 1 m
  rw [Nat.add_comm 1 m] at h
  rw [h]
  simp [V, P]

theorem Tp_top (d : Nat → Int) (n : Nat) : Tp d n n = 0 := by simp [Tp, V]
theorem Tp_zero (d : Nat → Int) (n : Nat) : Tp d 0 n = V d n := by simp [Tp]
theorem Tp_step (d : Nat → Int) (j n : Nat) (h : j < n) : Tp d j n = d j + 65536 * Tp d (j + 1) n := by
  unfold Tp
  obtain ⟨m, rfl⟩ : ∃ m, n = j + 1 + m := ⟨n - j - 1, by omega⟩
  rw [show j + 1 + m - j = m + 1 by omega, show j + 1 + m - (j + 1) = m by omega, V_shift]
  have : (fun t => d (j + (1 + t))) = (fun t => d (j + 1 + t)) := by funext t; congr 1; omega
  rw [this]; simp
theorem Tp_nonneg {d : Nat → Int} (hd : Dgs d) (j n : Nat) : 0 ≤ Tp d j n := V_nonneg (fun t => hd (j + t)) _
theorem Tp_lt {d : Nat → Int} (hd : Dgs d) (j n : Nat) : Tp d j n < P (n - j) := V_lt (fun t => hd (j + t)) _

theorem P3 : P 3 = 281474976710656 := rfl

theorem or64 (a b c : Int) (hb : 0 ≤ b) (hb1 : b < 65536) (ha : a = 65536 * c) (hc0 : 0 ≤ c) (hc1 : c < 281474976710656) : bits .or .u64 a b = a + b := by
  obtain ⟨B, rfl⟩ := Int.eq_ofNat_of_zero_le hb
  obtain ⟨C, rfl⟩ := Int.eq_ofNat_of_zero_le hc0
  have h3 := or_nat B (65536 * C) C 16 (by omega) (by omega)
  have ha' : a = ((65536 * C : Nat) : Int) := by omega
  rw [ha', u64_or_nat (65536 * C) B (by omega) (by omega), Nat.or_comm, h3]
  omega

theorem Tp_upd (o : Nat → Int) (i n : Nat) (v : Int) : Tp (upd o i v) (i + 1) n = Tp o (i + 1) n := by
  unfold Tp; exact V_congr _ (fun j _ => by simp [upd]; omega)

theorem short_step {d o : Nat → Int} {i n : Nat} (hi : i < n) {D L : Int} (hD : 0 < D) (hT : Tp d (i + 1) n = Tp o (i + 1) n * D + L) :
    Tp d i n = Tp (upd o i ((L * 65536 + d i) / D)) i n * D + (L * 65536 + d i) % D := by
  rw [Tp_step d i n hi, Tp_step (upd o i _) i n hi, Tp_upd, hT]
  have h1 : upd o i ((L * 65536 + d i) / D) i = (L * 65536 + d i) / D := by simp [upd]
  rw [h1, Int.add_mul, Int.mul_assoc]
  have h2 := Int.mul_ediv_add_emod (L * 65536 + d i) D
  rw [Int.mul_comm D] at h2
  omega
theorem short_bd {x D L : Int} (hD : 0 < D) (hx : 0 ≤ x ∧ x < 65536) (hL0 : 0 ≤ L) (hL1 : L < D) : 0 ≤ (L * 65536 + x) / D ∧ (L * 65536 + x) / D < 65536 ∧ 0 ≤ (L * 65536 + x) % D ∧ (L * 65536 + x) % D < D :=
  ⟨Int.ediv_nonneg (by omega) (by omega), Int.ediv_lt_of_lt_mul hD (by omega), Int.emod_nonneg _ (by omega), Int.emod_lt_of_pos _ hD⟩

theorem trimN_pos {d : Nat → Int} (hd : Dgs d) (n : Nat) : 0 < trimN d n ↔ V d n ≠ 0 := by
  have h1 := trimN_V d n
  have h2 := trimN_top d n
  constructor
  · intro h
    have h3 := V_ge hd (trimN d n - 1) (by omega)
    rw [show trimN d n - 1 + 1 = trimN d n by omega, h1] at h3
    have := P_pos (trimN d n - 1); omega
  · intro h
    rcases Nat.eq_zero_or_pos (trimN d n) with h0 | h0
    · rw [h0] at h1; simp [V] at h1; omega
    · exact h0

/-- Three digits of a number. -/
def rd (L : Int) (j : Nat) : Int := if j = 0 then L % 65536 else if j = 1 then L / 65536 % 65536 else if j = 2 then L / 4294967296 % 65536 else 0
theorem rd_dgs (L : Int) : Dgs (rd L) := by
  intro j; unfold rd; split
  · omega
  · split
    · omega
    · split <;> omega
theorem rd_V (L : Int) (h0 : 0 ≤ L) (h1 : L < 281474976710656) : V (rd L) 3 = L := by
  simp [V, rd, P]; omega

theorem dig3 (w : World) (t : TypeId) (x y z : Int) (f : Nat → Int) (hf : Dgs f) (h0 : f 0 = x) (h1 : f 1 = y) (h2 : f 2 = z) : Dig (w.alloc (.cells #[.int .u16 x, .int .u16 y, .int .u16 z] t)) (some ⟨w.heap.size, 0, none⟩) 3 3 f :=
  ⟨fun _ => ⟨w.heap.size, 0, rfl, by simp, fun j hj => by
    rw [World.cell?_alloc_at _ _ _ _ rfl, Nat.zero_add]
    match j, hj with
    | 0, _ => simp [h0]
    | 1, _ => simp [h1]
    | 2, _ => simp [h2]⟩, hf, by omega, by omega⟩

set_option maxRecDepth 100000 in
set_option maxHeartbeats 2000000 in
theorem short_any (a c : Option Addr) (n m cap cap2 : Nat) (d e : Nat → Int) (w : World) (ha : Dig w a n cap d) (hc : Dig w c m cap2 e) (hn : n ≤ 1000000000) (hm : m ≤ 3) (hpos : 0 < V e m) :
    Calls Try.prog 147 #[.slice a n cap, .slice c m cap2] w fun r w' =>
      ∃ a1 n1 c1 o a2 n2 c2 rem, r = .returned (.tuple #[.slice a1 n1 c1, .slice a2 n2 c2]) ∧ Dig w' a1 n1 c1 o ∧ n1 ≤ n ∧ (0 < n2 ↔ rem ≠ 0) ∧ n2 ≤ 3 ∧ V d n = V o n1 * V e m + rem ∧ 0 ≤ rem ∧ rem < V e m ∧ Below w.heap.size w w' := by
  have hmk := run_make_row' (P := Try.prog) 22 96 (.int .u16 0) 2 Try.underlying22 Try.infoU16 rfl .i64 .i64 n (by omega) (by omega)
  have hD : V e m < 281474976710656 := by
    have h1 := V_lt hc.dgs m
    have h2 := P_mono hm
    rw [P3] at h2; omega
  have Hmk := hide hmk
  clear hmk
  go_enter Try.func147, Try.ntmps147
  go_wp2
  go_loop [6, 7] (fun dd ii => ∃ j : Nat, j ≤ m ∧ ii = .int .i64 ((j : Int) - 1) ∧ dd = .int .u64 (Tp e j m)) (fun _ ii => (intOf ii + 1).toNat)
  case atStart => exact ⟨m, Nat.le_refl _, rfl, by rw [Tp_top]⟩
  case round =>
    obtain ⟨j, hj, rfl, rfl⟩ := hrel
    by_cases hj0 : j = 0
    · subst hj0
      rw [Tp_zero]
      have hmk := unhide Hmk
      go_wp2
      clear hmk
      obtain ⟨D, hDe⟩ : ∃ D, D = V e m := ⟨_, rfl⟩
      rw [← hDe] at hD hpos ⊢
      have hD0 : (D == 0) = false := by simp; omega
      have HDe := hide hDe
      clear hDe
      go_loopw [9, 10] (fun ll ii wr => ∃ (j : Nat) (o : Nat → Int) (L : Int), j ≤ n ∧ ii = .int .i64 ((j : Int) - 1) ∧ ll = .int .u64 L ∧ wr.rowIs w.heap.size 96 n (fun t => .int .u16 (o t)) ∧ Dgs o ∧ Tp d j n = Tp o j n * D + L ∧ 0 ≤ L ∧ L < D ∧ Below w.heap.size w wr) (fun _ ii _ => (intOf ii + 1).toNat)
      case atStart =>
        refine ⟨n, fun _ => 0, 0, Nat.le_refl _, rfl, rfl, World.rowIs_made w (.int .u16 0) n 96, fun _ => ⟨by simp, by simp⟩, ?_, by omega, by omega, bl1 _ _⟩
        rw [Tp_top, Tp_top]; simp
      case round =>
        obtain ⟨j, o, L, hj, rfl, rfl, hrow, hod, hT, hL0, hL1, hbl⟩ := hrel
        by_cases hj0 : j = 0
        · subst hj0
          rw [Tp_zero, Tp_zero] at hT
          have HT := hide hT
          have HR := hide (rowDig hrow hod (by omega))
          clear hT hrow hod
          go_wp2_with (go_at_call 134; refine (trimmed_any _ _ _ (rd L) _ (dig3 _ _ _ _ _ _ (rd_dgs L) (by simp [rd, wrap16]) (by simp [rd, wrap16]) (by simp [rd]; omega))).mono ?_; rintro r w2 ⟨rfl, hb2⟩)
          go_ret2
          refine ⟨_, n, n, o, _, trimN (rd L) 3, 3, L, rfl, (unhide HR).below (bthen (bl1 _ _) hb2), Nat.le_refl _, ?_, trimN_le _ _, ?_, hL0, ?_, bthen (balloc hbl _) hb2⟩
          · rw [trimN_pos (rd_dgs L), rd_V L hL0 (by omega)]
          · rw [← unhide HDe]; exact unhide HT
          · rw [← unhide HDe]; exact hL1
        · obtain ⟨i, rfl⟩ : ∃ i, j = i + 1 := ⟨j - 1, by omega⟩
          have e0 : ((i + 1 : Nat) : Int) - 1 = (i : Int) := by omega
          rw [e0]
          obtain ⟨b1, o1, rfl, hb1, hc1⟩ := ha.at_ (by omega)
          have g1 : wr.cell? ⟨b1, o1 + i, none⟩ = some (.int .u16 (d i)) := (hbl.cell (p := ⟨b1, o1 + i, none⟩) hb1).trans (hc1 i (by omega))
          have db := ha.dgs i
          have r1 := hrow.cell (show i < n by omega)
          have r2 := hrow.frozen i
          have hor := or64 (L * 65536) (d i) L db.1 db.2 (by omega) hL0 (by omega)
          have hin : (i : Int) < n := by omega
          have HT := hide hT
          clear hT hc1 e0
          have hst := short_step (o := o) (show i < n by omega) hpos (unhide HT)
          have sb := short_bd hpos db hL0 hL1
          have HS := hide hst
          clear hst
          go_wp2
          go_roundw
          case rel =>
            exact ⟨i, upd o i ((L * 65536 + d i) / D), (L * 65536 + d i) % D, by omega, by go_num, rfl, row_upd hrow i rfl, upd_dgs hod _ sb.1 sb.2.1, unhide HS, sb.2.2.1, sb.2.2.2, hbl.setCell (Nat.le_refl _) _⟩
          case measure => simp [intOf]; try omega
    · obtain ⟨i, rfl⟩ : ∃ i, j = i + 1 := ⟨j - 1, by omega⟩
      have e0 : ((i + 1 : Nat) : Int) - 1 = (i : Int) := by omega
      rw [e0]
      obtain ⟨b2, o2, rfl, hb2, hc2⟩ := hc.at_ (by omega)
      have g2 : w.cell? ⟨b2, o2 + i, none⟩ = some (.int .u16 (e i)) := hc2 i (by omega)
      have eb := hc.dgs i
      have t0 := Tp_nonneg hc.dgs (i + 1) m
      have t1 := Tp_lt hc.dgs (i + 1) m
      have t2 := P_mono (show m - (i + 1) ≤ 2 by omega)
      have eP2 : P 2 = 4294967296 := rfl
      rw [eP2] at t2
      have ts := Tp_step e i m (by omega)
      have H1 := hide (show bits .or .u64 (Tp e (i + 1) m * 65536) (e i) = Tp e i m by rw [or64 _ _ (Tp e (i + 1) m) eb.1 eb.2 (by omega) t0 (by omega), ts]; omega)
      have im : (i : Int) < m := by omega
      clear ts hc2 e0 eP2
      go_wp2
      go_round
      case rel => exact ⟨i, by omega, by go_num, by rw [← unhide H1]; try rfl⟩
      case measure => simp [intOf]; try omega
end Go.Proofs.Ytibbhnmbmgllcaa
