/-
  What num.Mul answers of right numbers, and that it leaves old memory alone.
-/
import Derived.Test.YtibbhnmbmgllcaaNumD
namespace Go.Proofs.Ytibbhnmbmgllcaa
set_option linter.unusedVariables false
set_option linter.unusedSimpArgs false
set_option linter.unnecessarySimpa false
open Go.RowKit

/-- One digit put in. -/
def upd (o : Nat → Int) (p : Nat) (v : Int) (j : Nat) : Int := if j = p then v else o j

theorem upd_dgs {o : Nat → Int} (h : Dgs o) (p : Nat) {v : Int} (h0 : 0 ≤ v) (h1 : v < 65536) : Dgs (upd o p v) := by
  intro j; unfold upd; split
  · exact ⟨h0, h1⟩
  · exact h j

theorem upd_V (o : Nat → Int) (p : Nat) (v : Int) (N : Nat) (hp : p < N) : V (upd o p v) N = V o N + (v - o p) * P p := by
  induction N with
  | zero => omega
  | succ N ih =>
    simp only [V]
    by_cases hN : p = N
    · subst hN
      have : V (upd o p v) p = V o p := V_congr p (fun j hj => by simp [upd]; omega)
      rw [this]; simp only [upd, if_true, Int.sub_mul]; omega
    · rw [ih (by omega)]
      have : upd o p v N = o N := by simp [upd]; omega
      rw [this]; omega

theorem row_upd {wr : World} {b t N : Nat} {o : Nat → Int} (h : wr.rowIs b t N (fun j => .int .u16 (o j))) (p : Nat) {v u : Int} (hv : u = v) :
    (wr.setCell ⟨b, p, none⟩ (.int .u16 u)).rowIs b t N (fun j => .int .u16 (upd o p v j)) := by
  refine (h.set p (.int .u16 u)).congr fun j _ => ?_
  subst hv
  unfold upd; split <;> rfl

theorem V_zero (n : Nat) : V (fun _ => 0) n = 0 := by
  induction n with
  | zero => rfl
  | succ n ih => simp [V, ih]

theorem mul_alg (x v y : Int) (i k : Nat) : x * (v + y * P k) * P i = x * v * P i + x * y * P (i + k) := by
  rw [P_add, Int.mul_add, Int.add_mul, ← Int.mul_assoc x y (P k), Int.mul_assoc (x * y), Int.mul_comm (P k) (P i)]

/-- One step of the inner loop. -/
theorem mul_step {o : Nat → Int} {N p : Nat} (hp : p < N) (c x y : Int) {T : Int} (h : V o N + c * P p = T) : V (upd o p ((c + (x * y + o p)) % 65536)) N + ((c + (x * y + o p)) / 65536) * P (p + 1) = T + x * y * P p := by
  rw [upd_V _ _ _ _ hp]
  have h1 : ((c + (x * y + o p)) % 65536 - o p) * P p + (c + (x * y + o p)) / 65536 * (65536 * P p) = (c + x * y) * P p := by
    rw [← Int.mul_assoc, ← Int.add_mul]; congr 1; omega
  have h2 : (c + x * y) * P p = c * P p + x * y * P p := Int.add_mul _ _ _
  simp only [P]; omega

theorem mul_bd {x y c z : Int} (hx : 0 ≤ x ∧ x < 65536) (hy : 0 ≤ y ∧ y < 65536) (hc : 0 ≤ c ∧ c < 65536) (hz : 0 ≤ z ∧ z < 65536) :
    0 ≤ x * y ∧ x * y ≤ 4294836225 := by
  refine ⟨Int.mul_nonneg hx.1 hy.1, ?_⟩
  have h1 : x * y ≤ 65535 * y := Int.mul_le_mul_of_nonneg_right (by omega) hy.1
  omega

set_option maxRecDepth 100000 in
set_option maxHeartbeats 1000000 in
theorem mul_any (neg neg2 : Bool) (a c : Option Addr) (n m cap cap2 : Nat) (d e : Nat → Int) (w : World) (ha : Dig w a n cap d) (hc : Dig w c m cap2 e) (hn : n ≤ 1000000000) (hm : m ≤ 1000000000) :
    Calls Try.prog 52 #[.agg #[.bool neg, .slice a n cap], .agg #[.bool neg2, .slice c m cap2]] w fun r w' =>
      ∃ neg' a' n' cap', r = .returned (.agg #[.bool neg', .slice a' n' cap']) ∧ IntAt w' neg' a' n' cap' (n + m) (sgn (neg != neg2) (V d n * V e m)) ∧ Below w.heap.size w w' := by
  obtain ⟨W, hW⟩ : ∃ W, W = ((w.alloc (.cells #[.bool neg, .slice a n cap] 24)).alloc (.cells #[.bool neg2, .slice c m cap2] 24)).alloc (.cells #[.bool false, .slice none 0 0] 24) := ⟨_, rfl⟩
  have b3 : Below w.heap.size w W := by rw [hW]; exact bl3 _ _ _ _
  have s3 : W.heap.size = w.heap.size + 1 + 1 + 1 := by rw [hW]; simp
  have k0 : W.cell? ⟨w.heap.size, 0, none⟩ = some (.bool neg) := by rw [hW]; simp [go_sem]
  have k1 : W.cell? ⟨w.heap.size + 1, 0, none⟩ = some (.bool neg2) := by rw [hW]; simp [go_sem]
  have k2 : W.cell? ⟨w.heap.size + 1, 1, none⟩ = some (.slice c m cap2) := by rw [hW]; simp [go_sem]
  have k3 : W.cell? ⟨w.heap.size + 1 + 1, 0, none⟩ = some (.bool false) := by rw [hW]; simp [go_sem]
  have k4 : W.cell? ⟨w.heap.size + 1 + 1, 1, none⟩ = some (.slice none 0 0) := by rw [hW]; simp [go_sem]
  have k5 : ∀ o, W.frozen? ⟨w.heap.size + 1 + 1, o, none⟩ = false := by intro o; rw [hW]; simp [go_sem]
  have HW := hide hW
  clear hW
  have hmk := run_make_row' (P := Try.prog) 22 96 (.int .u16 0) 2 Try.underlying22 Try.infoU16 rfl .i64 .i64 (n + m) (by omega) (by omega)
  have hnm : ((n + m : Nat) : Int) = (n : Int) + m := by omega
  rw [hnm] at hmk
  clear hnm
  go_enter Try.func52, Try.ntmps52
  go_wp2
  clear hmk
  go_loopw [22] (fun ii wr => ∃ (i : Nat) (o : Nat → Int), i ≤ n ∧ ii = .int .i64 i ∧ wr.rowIs (w.heap.size + 1 + 1 + 1) 96 (n + m) (fun j => .int .u16 (o j)) ∧ Dgs o ∧ V o (n + m) = V d i * V e m ∧ (∀ j, i + m ≤ j → o j = 0) ∧ Below (w.heap.size + 1 + 1 + 1) W wr) (fun ii _ => n - (intOf ii).toNat)
  case atStart =>
    refine ⟨0, fun _ => 0, Nat.zero_le _, rfl, ?_, fun _ => ⟨by simp, by simp⟩, ?_, fun _ _ => rfl, ?_⟩
    · have := World.rowIs_made W (.int .u16 0) (n + m) 96
      rw [s3, unhide HW] at this; exact this
    · rw [V_zero]; simp [V]
    · rw [unhide HW]; exact (Below.refl _ _).alloc (by simp) _
  case round =>
    obtain ⟨i, o, hi, rfl, hrow, hod, hov, hoz, hbl⟩ := hrel
    by_cases hin : i < n
    · obtain ⟨b1, o1, rfl, hb1, hc1⟩ := ha.at_ (by omega)
      have g1 : wr.cell? ⟨b1, o1 + i, none⟩ = some (.int .u16 (d i)) := (hbl.cell (p := ⟨b1, o1 + i, none⟩) (by show b1 < _; omega)).trans ((b3.cell (p := ⟨b1, o1 + i, none⟩) hb1).trans (hc1 i hin))
      have q2 : wr.cell? ⟨w.heap.size + 1, 1, none⟩ = some (.slice c m cap2) := (hbl.cell (p := ⟨w.heap.size + 1, 1, none⟩) (by simp)).trans k2
      have db := ha.dgs i
      have HV := hide hov
      have HZ := hide hoz
      have HR := hide hrow
      have HD := hide hod
      clear hc1 hov hoz hrow hod
      go_wp2
      go_loopw [8, 30] (fun cy kk wq => ∃ (k : Nat) (o' : Nat → Int) (cz : Int), k ≤ m ∧ kk = .int .i64 k ∧ cy = .int .u32 cz ∧ 0 ≤ cz ∧ cz < 65536 ∧ wq.rowIs (w.heap.size + 1 + 1 + 1) 96 (n + m) (fun j => .int .u16 (o' j)) ∧ Dgs o' ∧ V o' (n + m) + cz * P (i + k) = V d i * V e m + d i * V e k * P i ∧ (∀ j, i + m ≤ j → o' j = 0) ∧ Below (w.heap.size + 1 + 1 + 1) W wq) (fun _ kk _ => m - (intOf kk).toNat)
      case atStart =>
        exact ⟨0, o, 0, Nat.zero_le _, rfl, rfl, by omega, by omega, unhide HR, unhide HD, by rw [unhide HV]; simp [V], unhide HZ, hbl⟩
      case round =>
        obtain ⟨k, o', cz, hk, rfl, rfl, hz0, hz1, hrow, hod, hov, hoz, hbl⟩ := hrel
        by_cases hkm : k < m
        · obtain ⟨b2, o2, rfl, hb2, hc2⟩ := hc.at_ (by omega)
          have g2 : wr.cell? ⟨b2, o2 + k, none⟩ = some (.int .u16 (e k)) := (hbl.cell (p := ⟨b2, o2 + k, none⟩) (by show b2 < _; omega)).trans ((b3.cell (p := ⟨b2, o2 + k, none⟩) hb2).trans (hc2 k hkm))
          have eb := hc.dgs k
          have r1 := hrow.cell (show i + k < n + m by omega)
          have r2 := hrow.frozen (i + k)
          have ob := hod (i + k)
          have pb := mul_bd db eb ⟨hz0, hz1⟩ ob
          clear hc2
          go_wp2
          go_roundw
          case rel =>
            refine ⟨k + 1, upd o' (i + k) ((cz + (d i * e k + o' (i + k))) % 65536), (cz + (d i * e k + o' (i + k))) / 65536, by omega, by go_num, rfl, by omega, by omega, row_upd hrow (i + k) (wrap16 _), upd_dgs hod _ (by omega) (by omega), ?_, fun j hj => ?_, hbl.setCell (by simp) _⟩
            · have h1 := mul_step (show i + k < n + m by omega) cz (d i) (e k) hov
              have h2 := mul_alg (d i) (V e k) (e k) i k
              simp only [V]
              rw [← Nat.add_assoc]; omega
            · have : j ≠ i + k := by omega
              simp [upd, this]; exact hoz j hj
          case measure => simp [intOf]; omega
        · have hkE : k = m := by omega
          subst hkE
          have r1 := hrow.cell (show i + k < n + k by omega)
          have r2 := hrow.frozen (i + k)
          have q2 : wr.cell? ⟨w.heap.size + 1, 1, none⟩ = some (.slice c k cap2) := (hbl.cell (p := ⟨w.heap.size + 1, 1, none⟩) (by simp)).trans k2
          have hoi := hoz (i + k) (by omega)
          have HV2 := hide hov
          have HZ2 := hide hoz
          have HI := hide hoi
          clear hov hoz hoi
          go_wp2
          go_roundw
          case rel =>
            refine ⟨i + 1, upd o' (i + k) cz, by omega, by go_num, row_upd hrow (i + k) rfl, upd_dgs hod _ hz0 hz1, ?_, fun j hj => ?_, hbl.setCell (by simp) _⟩
            · rw [upd_V _ _ _ _ (by omega), unhide HI, Int.sub_zero, unhide HV2]
              simp only [V]; rw [Int.add_mul, Int.mul_assoc (d i), Int.mul_comm (V e k) (P i), ← Int.mul_assoc]
            · have : j ≠ i + k := by omega
              simp [upd, this]; exact unhide HZ2 j (by omega)
          case measure => simp [intOf]; omega
    · have hiE : i = n := by omega
      subst hiE
      have q0 : wr.cell? ⟨w.heap.size, 0, none⟩ = some (.bool neg) := (hbl.cell (p := ⟨w.heap.size, 0, none⟩) (by simp; omega)).trans k0
      have q1 : wr.cell? ⟨w.heap.size + 1, 0, none⟩ = some (.bool neg2) := (hbl.cell (p := ⟨w.heap.size + 1, 0, none⟩) (by simp)).trans k1
      have q3 : wr.cell? ⟨w.heap.size + 1 + 1, 0, none⟩ = some (.bool false) := (hbl.cell (p := ⟨w.heap.size + 1 + 1, 0, none⟩) (by simp)).trans k3
      have q4 : wr.cell? ⟨w.heap.size + 1 + 1, 1, none⟩ = some (.slice none 0 0) := (hbl.cell (p := ⟨w.heap.size + 1 + 1, 1, none⟩) (by simp)).trans k4
      have q5 : ∀ o, wr.frozen? ⟨w.heap.size + 1 + 1, o, none⟩ = false := fun o => (hbl.frozen (p := ⟨w.heap.size + 1 + 1, o, none⟩) (by simp)).trans (k5 o)
      have hsw := hbl.size
      rw [s3] at hsw
      have HR := hide (rowDig hrow hod (by omega))
      have HV := hide hov
      clear hov hoz hrow hod
      go_wp2_with (go_at_call 104; refine (of_int _ _ _ _ o _ (unhide HR)).mono ?_; rintro r w2 ⟨neg', a2, n2, c2, rfl, hint, hb2⟩; obtain ⟨hsz2, hcell2, hfz2⟩ := near (w.heap.size + 1 + 1 + 1) hsw hb2)
      refine bodyPost_ret (v := .agg #[.bool neg', .slice a2 n2 c2]) (by simp [results, Try.results52, go_sem, hcell2, q3, q4]) rfl ⟨neg', a2, n2, c2, rfl, ?_, ?_⟩
      · have h0 : w2.cell? ⟨w.heap.size + 1 + 1, 0, none⟩ = some (.bool false) := by simp [hcell2, q3]
        have h1' : w2.cell? ⟨w.heap.size + 1 + 1, 1, none⟩ = some (.slice none 0 0) := by simp [hcell2, q4]
        rw [unhide HV] at hint
        exact hint.put2 h0 h1' _ _
      · exact ((bthen (b3.trans (hbl.mono (by omega))) hb2).setCell (by simp; omega) _).setCell (by simp; omega) _

theorem mul_int (neg neg2 : Bool) (a c : Option Addr) (n m cap cap2 k k2 : Nat) (x y : Int) (w : World) (h1 : IntAt w neg a n cap k x) (h2 : IntAt w neg2 c m cap2 k2 y) (hk : k ≤ 1000000000) (hk2 : k2 ≤ 1000000000) :
    Calls Try.prog 52 #[.agg #[.bool neg, .slice a n cap], .agg #[.bool neg2, .slice c m cap2]] w fun r w' =>
      ∃ neg' a' n' cap', r = .returned (.agg #[.bool neg', .slice a' n' cap']) ∧ IntAt w' neg' a' n' cap' (k + k2) (x * y) ∧ Below w.heap.size w w' := by
  obtain ⟨d, g1, g2, g3, g4, rfl⟩ := h1
  obtain ⟨e, f1, f2, f3, f4, rfl⟩ := h2
  have hs : sgn (neg != neg2) (V d n * V e m) = sgn neg (V d n) * sgn neg2 (V e m) := by
    cases neg <;> cases neg2 <;> simp [sgn, Int.neg_mul, Int.mul_neg]
  rw [← hs]
  exact (mul_any neg neg2 a c n m cap cap2 d e w g1 f1 (by omega) (by omega)).mono fun _ _ ⟨n1, n2, n3, n4, q1, q2, q3⟩ => ⟨n1, n2, n3, n4, q1, q2.mono (by omega), q3⟩
end Go.Proofs.Ytibbhnmbmgllcaa
