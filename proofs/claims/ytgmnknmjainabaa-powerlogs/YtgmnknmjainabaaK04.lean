/-
  What num.over answers where the lower number has more than three digits, and that it leaves old memory alone.
  What num.Floor answers of whatever right numbers, the second one more than 0, and that it leaves old memory alone.
  What span.Check and tailsureref.CheckSpan answer of whatever span, and that they leave old memory alone.
  What wide.farthest, wide.Least, wide.Most, wide.copied, tailsureref.least, greatest and Power2 answer of right numbers, and that they leave old memory alone.
-/
import Derived.Deep.RegionHeld3
import Derived.Test.YtgmnknmjainabaaK03
namespace Go.Proofs.Ytgmnknmjainabaa
set_option linter.unusedVariables false
set_option linter.unusedSimpArgs false
set_option linter.unnecessarySimpa false
open Go.RowKit
attribute [local go_sem ↓] Go.wp_at_zero Go.wp_at_succ

/-- What the long division keeps. -/
def LongI (A D : Int) (L N J : Nat) (u o : Nat → Int) : Prop := Dgs u ∧ Dgs o ∧ A = V u L + D * (P J * Tp o J N) ∧ Tp u J L < D

theorem long_start {A : Int} {u0 v : Nat → Int} {n1 n2 N : Nat} (hu : Dgs u0) (hv : Dgs v) (hn1 : 0 < n1) (hvt : n1 = 0 ∨ v (n1 - 1) ≠ 0) (hA : V u0 n2 = A) (hN : N + n1 = n2 + 2) :
    LongI A (V v n1) (n2 + 2) N N (upd (upd u0 n2 0) (n2 + 1) 0) (fun _ => 0) := by
  have hz : Dgs (upd (upd u0 n2 0) (n2 + 1) 0) := upd_dgs (upd_dgs hu _ (by omega) (by omega)) _ (by omega) (by omega)
  refine ⟨hz, fun _ => ⟨by simp, by simp⟩, ?_, ?_⟩
  · rw [Tp_top, Int.mul_zero, Int.mul_zero, Int.add_zero, ← hA]
    show _ = V _ n2 + _ * P n2 + _ * P (n2 + 1)
    have e1 : V (upd (upd u0 n2 0) (n2 + 1) 0) n2 = V u0 n2 := V_congr _ (fun j hj => by simp only [upd]; rw [if_neg (by omega), if_neg (by omega)])
    have e2 : upd (upd u0 n2 0) (n2 + 1) 0 n2 = 0 := by simp [upd]
    have e3 : upd (upd u0 n2 0) (n2 + 1) 0 (n2 + 1) = 0 := by simp [upd]
    rw [e1, e2, e3]; omega
  · obtain ⟨k, rfl⟩ : ∃ k, n1 = k + 1 := ⟨n1 - 1, by omega⟩
    unfold Tp
    rw [show n2 + 2 - N = k + 1 by omega]
    have h1 := V_lt (fun t => hz (N + t)) k
    have h2 := V_ge hv k (by simpa using hvt)
    have e3 : upd (upd u0 n2 0) (n2 + 1) 0 (N + k) = 0 := by rw [show N + k = n2 + 1 by omega]; simp [upd]
    show V _ k + upd (upd u0 n2 0) (n2 + 1) 0 (N + k) * P k < _
    rw [e3]; omega

theorem step_copy_dig {Pr : Program} {ops : Array Oper} {o : Oper} {a : Act} {w : World} {K : Act → World → Prop} {Q : Exit → Act → World → Prop} {E : Prop} (hgd : o.guard = none) (x y : Operand) (t : TypeId)
    (ho : o.op = .call { callee := .builtin .copy, args := #[x, y], argTypes := #[t, t] }) (e : TypeId) (hut : Pr.underlying t = some (.slice e)) (hsz : (Pr.info? e).map (·.size) = some 1)
    (g j L C cd cs : Nat) (sp : Option Addr) (u f : Nat → Int) (hd : a.eval x = .slice (some ⟨g, j, none⟩) (L - j) cd) (hs : a.eval y = .slice sp (L - j) cs) (hown : OwnL w g e L C u) (hf : Dig w sp (L - j) cs f) (hj : j < L)
    (B : Nat) (w0 : World) (hb : Below B w0 w) (hBg : B ≤ g)
    (hK : ∀ w', OwnL w' g e L C (over1 u f j) → Below B w0 w' → (∀ k, k ≠ g → w'.heap[k]? = w.heap[k]?) → w'.heap.size = w.heap.size → K (a.put o.dst (goInt (dcells f (L - j)).length)) w') :
    if Region.wanted o (yielded ops a.tmps) = true then Oper.wp Pr o a w K Q else E := by
  have hw : Region.wanted o (yielded ops a.tmps) = true := by simp [Region.wanted, hgd]
  rw [if_pos hw]
  have hown' := hown
  obtain ⟨cur, h1, h2, h3, h4⟩ := hown
  obtain ⟨b, off, rfl, hblt, hcells⟩ := hf.at_ (by omega)
  have hrun := run_copy_row (P := Pr) w t t o.type e g j (L - j) cd ⟨b, off, none⟩ (L - j) cs cur.toArray e (dcells f (L - j)) hut hsz h1 (by rw [dcells_len]; simp)
    (fun i v hv => by
      obtain ⟨q1, q2⟩ := dcells_some hv
      rw [add_off, q2]; exact hcells i q1) (by rw [dcells_len]; simp; omega) (dcells_one _ _)
  unfold Oper.wp
  simp [execOp, ho, resolve, invoke, builtin, hd, hs, hrun, Result.andThen]
  refine hK _ (hown'.splice j (by omega) cur h1 ?_) (below_setRow hb hBg _) (fun k hk => setRow_other w g k _ (by first | exact hk | exact fun e => hk e.symm)) ?_
  · simpa [Go.splice] using setRow_heap w g _ _ e _ h1
  · simp [World.setRow]

theorem Try.sizeU16 : (Try.prog.info? 96).map (·.size) = some 1 := by kernel_rfl

/-- One round of the long division, of its numbers. -/
theorem long_next {A D : Int} {L N j : Nat} {u o f : Nat → Int} {q : Int} (hjL : j < L) (hjN : j < N) (hD : 0 < D) (hA : A = V u L + D * (P (j + 1) * Tp o (j + 1) N)) (du : Dgs u) (do_ : Dgs o) (df : Dgs f) (hq : q = Tp u j L / D) (hq0 : 0 ≤ q) (hq1 : q < 65536)
    (hf : V f (L - j) = Tp u j L - D * q) : LongI A D L N j (over1 u f j) (upd o j q) := by
  refine ⟨over1_dgs du df j, upd_dgs do_ j hq0 hq1, div_step hjL hjN hA (by rw [hf, Int.mul_comm D q]), ?_⟩
  rw [over1_Tp, hf, hq]
  have h1 := Int.mul_ediv_add_emod (Tp u j L) D
  have h2 := Int.emod_lt_of_pos (Tp u j L) hD
  omega

theorem trim_cmp {d e : Nat → Int} (hd : Dgs d) (he : Dgs e) (n m : Nat) : cmpZ d e (trimN d n) (trimN e m) = cmpInt (V d n) (V e m) := by
  rw [cmpZ_V hd he _ _ (trimN_top d n) (trimN_top e m), trimN_V, trimN_V]

theorem field1 (x : Bool) (a : Option Addr) (n c : Nat) (w : World) : (Instr.field 24 (.agg #[.bool x, .slice a n c]) 1).run Try.prog w = .ok (.slice a n c) w := by kernel_rfl

set_option maxRecDepth 100000 in
set_option maxHeartbeats 4000000 in
theorem over_long (a c : Option Addr) (n m cap cap2 : Nat) (d e : Nat → Int) (w : World) (ha : Dig w a n cap d) (hc : Dig w c m cap2 e) (hn : n ≤ 900000000) (h1 : n = 0 ∨ d (n - 1) ≠ 0) (h2 : m = 0 ∨ e (m - 1) ≠ 0) (hm : 3 < m) (hge : V e m ≤ V d n) :
    Calls Try.prog 133 #[.slice a n cap, .slice c m cap2] w (OverAns w d e n m) := by
  have hcv := cmpZ_V ha.dgs hc.dgs n m h1 h2
  have hneg : ¬ cmpZ d e n m < 0 := by rw [hcv]; unfold cmpInt; rw [if_neg (by omega)]; split <;> omega
  have hm3 : ¬ (m : Int) ≤ 3 := by omega
  have hmr := hc.room
  have hml := hc.le
  have hmn : m ≤ n := len_le hc.dgs h2 (Int.lt_of_le_of_lt hge (V_lt ha.dgs n))
  have htop : 0 < e (m - 1) := by have := hc.dgs (m - 1); omega
  have htop2 := (hc.dgs (m - 1)).2
  obtain ⟨b2, o2, rfl, hb2, hc2⟩ := hc.at_ (by omega)
  have hct := hc2 (m - 1) (by omega)
  have hi : ((m : Int) - 1) = ((m - 1 : Nat) : Int) := by omega
  have hfd := field1
  clear hcv hc2
  go_enter Try.func133, Try.ntmps133
  go_wp2_with (go_at_call 90; refine (compare_any _ _ _ _ _ _ d e _ ha hc).mono ?_; rintro r w0 ⟨rfl, hb0⟩)
  have g1 : w0.cell? ⟨b2, o2 + (m - 1), none⟩ = some (.int .u16 (e (m - 1))) := (hb0.cell (p := ⟨b2, o2 + (m - 1), none⟩) hb2).trans hct
  go_loop [6] (fun k => ∃ s : Nat, k = .int .i64 s ∧ s ≤ 15 ∧ e (m - 1) * Q s < 65536) (fun k => 16 - (intOf k).toNat)
  case atStart => exact ⟨0, rfl, by omega, by simp [Q]; omega⟩
  case round =>
    obtain ⟨s, rfl, hs, hes⟩ := hrel
    have hq := Q_pos s
    have hmod : IntKind.u16.wrap (e (m - 1) * 2 ^ s) = e (m - 1) * Q s := by
      rw [wrap16, Q_pow]
      have : 0 ≤ e (m - 1) * Q s := Int.mul_nonneg (by omega) (by omega)
      omega
    by_cases hlt : e (m - 1) * Q s < 32768
    · have ht : IntKind.u16.wrap (e (m - 1) * 2 ^ s) < 32768 := by rw [hmod]; exact hlt
      have hs15 : s < 15 := by
        rcases Nat.lt_or_ge s 15 with h | h
        · exact h
        · have h5 := Q_mono h
          have e15 : Q 15 = 32768 := rfl
          have h6 := Int.mul_le_mul_of_nonneg_right (show 1 ≤ e (m - 1) by omega) (show 0 ≤ Q s by omega)
          omega
      have HN := hide (show e (m - 1) * Q (s + 1) < 65536 by simp only [Q]; rw [Int.mul_left_comm]; omega)
      clear hmod hlt hes
      go_wp2
      go_round
      case rel => exact ⟨s + 1, by go_num, by omega, unhide HN⟩
      case measure => simp [intOf]; omega
    · have ht : ¬ IntKind.u16.wrap (e (m - 1) * 2 ^ s) < 32768 := by rw [hmod]; exact hlt
      clear hmod hlt
      have he0 : 0 < V e m := by
        have h5 := V_ge hc.dgs (m - 1) (by omega)
        rw [show m - 1 + 1 = m by omega] at h5
        have := P_pos (m - 1); omega
      go_wp2_with fail
      refine (up_any false _ m cap2 s e _ (hc.below hb0) (by omega) (by omega)).mono ?_
      rintro r w1 ⟨neg1, a1, n1, c1, rfl, hint1, hb1⟩
      obtain ⟨v, rfl, hn1, hv, hvtop, hn1k, hvV⟩ := int_pos hint1 (by simp only [sgn]; exact Int.mul_pos he0 (by omega))
      obtain ⟨k1, rfl⟩ : ∃ k1, n1 = k1 + 1 := ⟨n1 - 1, by omega⟩
      have HV := hide (show V v (k1 + 1) = V e m * Q s from hvV.symm)
      have hB1 := bthen hb0 hb1
      clear hint1 hvV g1 ht
      go_wp2_with fail
      refine (up_own false _ n cap s d _ (ha.below hB1) (by omega) (by omega)).mono ?_
      rintro r w2 ⟨g0, n2, C2, u0, neg2, rfl, hown, hu0, hu0top, hu0V, hn2k, hb2'⟩
      have hn12 : k1 + 1 ≤ n2 := by
        refine len_le hv.dgs hvtop ?_
        rw [unhide HV]
        have h5 : V e m * Q s ≤ V d n * Q s := Int.mul_le_mul_of_nonneg_right hge (by omega)
        have h6 := V_lt hu0 n2
        rw [hu0V] at h6
        omega
      have hn2b : n2 ≤ 900000100 := by omega
      have HU0 := hide hu0V
      obtain ⟨N, hN⟩ : ∃ N : Nat, (n2 : Int) + 2 - ((k1 : Int) + 1) = (N : Int) := ⟨n2 + 2 - (k1 + 1), by omega⟩
      have HNn := hide (show N + (k1 + 1) = n2 + 2 by omega)
      have hN1 : 0 < N := by omega
      have hsz2 := hb2'.size
      clear hu0V hes
      have hmk := run_make_row' (P := Try.prog) 22 96 (.int .u16 0) 2 Try.underlying22 Try.infoU16 rfl .i64 .i64 N (by omega) (by omega)
      go_wp2_with (at_builtin; refine wpList_append_two _ rfl _ _ 22 rfl w1.heap.size 96 Try.underlying22 Try.infoU16 (some ⟨g0, 0, none⟩) n2 C2 u0 rfl (hown.alloc _) w2.heap.size 2 rfl (by simp [go_sem]) (by simp [go_sem]) (by omega) (by simp; omega) ?_; intro g C w3 hown3 hb3)
      clear hmk hown
      have HN := hide hN
      clear hN
      obtain ⟨hOL, hbg⟩ := ownL_of hown3
      have hB3 : Below w1.heap.size w1 w3 := (hb2'.alloc hsz2 _).trans hb3
      have hg3 := hOL.lt
      have hsz3 := hB3.size
      obtain ⟨bv, ov, rfl, hbv, hcv⟩ := hv.at_ hn1
      have hvt := hcv k1 (by omega)
      have HI := hide (long_start hu0 hv.dgs hn1 hvtop (unhide HU0) (unhide HNn))
      clear hcv hown3 hb3 hb2'
      go_loopw [11] (fun jj wr => ∃ (J : Nat) (u o : Nat → Int), J ≤ N ∧ jj = .int .i64 ((J : Int) - 1) ∧ OwnL wr g 96 (n2 + 2) C u ∧ wr.rowIs w3.heap.size 96 N (fun j => .int .u16 (o j)) ∧ LongI (V d n * Q s) (V v (k1 + 1)) (n2 + 2) N J u o ∧ Below w1.heap.size w1 wr) (fun jj _ => (intOf jj + 1).toNat)
      case atStart => exact ⟨N, _, fun _ => 0, Nat.le_refl _, rfl, hOL.below (bl1 _ _), World.rowIs_made w3 (.int .u16 0) N 96, unhide HI, hB3.alloc hsz3 _⟩
      case round =>
        obtain ⟨J, u, o, hJ, rfl, hu, hrow, hI, hBr⟩ := hrel
        have hNn := unhide HNn
        by_cases hJ0 : J = 0
        · subst hJ0
          obtain ⟨du, do_, hA, hT⟩ := hI
          have huD := hu.dig du 0 (by omega) (by omega)
          simp only [Nat.sub_zero, Nat.zero_add] at huD
          have huD2 : Dig wr (some ⟨g, 0, none⟩) (n2 + 2) C u := huD
          have hrowD := rowDig hrow do_ (by omega)
          have HA := hide hA
          have HT := hide hT
          clear hA hT hrow hu
          go_wp2_with (first
            | (go_at_call 104; refine (of_int _ _ _ _ u _ huD2).mono ?_; rintro r w5 ⟨neg5, a5, n5, c5, rfl, hint5, hb5⟩)
            | (go_at_call 79; refine (down_int _ _ _ _ s (n2 + 2) _ _ hint5 (by omega) (by omega)).mono ?_; rintro r w6 ⟨neg6, a6, n6, c6, rfl, hint6, hb6⟩))
          go_ret2
          obtain ⟨z6, p1, p2, p3, p4, p5⟩ := hint6
          simp only [sgn] at p5
          have hQ := Q_pos s
          have f0 := unhide HA
          have f1 := unhide HT
          have f2 := unhide HV
          rw [Tp_zero] at f1
          rw [Tp_zero, show P 0 = 1 from rfl, Int.one_mul, f2] at f0
          rw [f2] at f1
          have f3 : V u (n2 + 2) = Q s * (V d n - V o N * V e m) := by
            rw [Int.mul_sub, Int.mul_comm (Q s) (V d n), f0]
            have : V e m * Q s * V o N = Q s * (V o N * V e m) := by rw [Int.mul_comm (V e m), Int.mul_assoc, Int.mul_comm (V e m)]
            omega
          have hu9 := V_nonneg du (n2 + 2)
          obtain ⟨R, hR⟩ : ∃ R, R = V d n - V o N * V e m := ⟨_, rfl⟩
          rw [← hR] at f3
          have f4 : V u (n2 + 2) / Q s = R := by rw [f3, Int.mul_ediv_cancel_left _ (by omega)]
          have hR0 : 0 ≤ R := by
            rcases Int.lt_or_le R 0 with h5 | h5
            · have h6 := Int.mul_le_mul_of_nonneg_left (show R ≤ -1 by omega) (show 0 ≤ Q s by omega)
              omega
            · exact h5
          have hR1 : R < V e m := by
            rcases Int.lt_or_le R (V e m) with h5 | h5
            · exact h5
            · have h6 := Int.mul_le_mul_of_nonneg_left h5 (show 0 ≤ Q s by omega)
              rw [Int.mul_comm (Q s) (V e m)] at h6
              omega
          have hz0 := V_nonneg p1.dgs n6
          have hpos : 0 < n6 → 1 ≤ V z6 n6 := fun h5 => by
            have h6 := V_ge p1.dgs (n6 - 1) (by omega)
            rw [show n6 - 1 + 1 = n6 by omega] at h6
            have := P_pos (n6 - 1); omega
          have hz : V z6 n6 = R ∧ (0 < n6 ↔ R ≠ 0) := by
            have hn0 : n6 = 0 → V z6 n6 = 0 := fun h5 => by rw [h5]; rfl
            rw [show (if false = true then -V u (n2 + 2) else V u (n2 + 2)) = V u (n2 + 2) from rfl, f4] at p5
            cases neg6
            · have h5 : R = V z6 n6 := p5
              refine ⟨h5.symm, fun h6 => by have := hpos h6; omega, fun h6 => ?_⟩
              rcases Nat.eq_zero_or_pos n6 with h7 | h7
              · have := hn0 h7; omega
              · exact h7
            · have h5 : R = -V z6 n6 := p5
              rcases Nat.eq_zero_or_pos n6 with h7 | h7
              · have := p3 h7; cases this
              · have := hpos h7; omega
          have hn6 : n6 ≤ n := len_le p1.dgs p2 (by rw [hz.1]; have := V_lt ha.dgs n; omega)
          have hs16 : s / 16 = 0 := by omega
          exact ⟨_, N, N, o, a6, n6, c6, R, rfl, hrowD.below (bthen hb5 hb6), by omega, hz.2, by omega, by rw [hR]; omega, hR0, hR1, bthen (bthen (hB1.trans (hBr.mono hB1.size)) hb5) hb6⟩
        · obtain ⟨j, rfl⟩ : ∃ j, J = j + 1 := ⟨J - 1, by omega⟩
          have e0 : ((j + 1 : Nat) : Int) - 1 = (j : Int) := by omega
          rw [e0]
          obtain ⟨du, do_, hA, hT⟩ := hI
          have y1 := hu.cell (show j + k1 < n2 + 2 by omega)
          have y2 := hu.cell (show j + (k1 + 1) < n2 + 2 by omega)
          have y3 : wr.cell? ⟨bv, ov + k1, none⟩ = some (.int .u16 (v k1)) := (hBr.cell (p := ⟨bv, ov + k1, none⟩) hbv).trans hvt
          have i4 : (j : Int) + ((k1 : Int) + 1) < (n2 : Int) + 2 := by omega
          have i5 : (j : Int) + (k1 : Int) < (n2 : Int) + 2 := by omega
          have b1 := du (j + k1)
          have b2 := du (j + (k1 + 1))
          have b3 := hv.dgs k1
          have b4 : 0 < v k1 := by have h9 : v k1 ≠ 0 := by simpa using hvtop
                                   omega
          clear e0
          have hL9 : n2 + 2 ≤ 1000000000 := by omega
          have hCge : n2 + 2 ≤ C := by obtain ⟨_, _, _, h3, _⟩ := hu; exact h3
          have hD : 0 < V v (k1 + 1) := by have := Tp_nonneg du (j + 1) (n2 + 2); omega
          obtain ⟨qs, hqs⟩ : ∃ qs, qs = Tp u j (n2 + 2) / V v (k1 + 1) := ⟨_, rfl⟩
          have hqs0 : 0 ≤ qs := by rw [hqs]; exact Int.ediv_nonneg (Tp_nonneg du _ _) (by omega)
          have hqm : qs * V v (k1 + 1) ≤ Tp u j (n2 + 2) := by rw [hqs]; exact Int.ediv_mul_le _ (by omega)
          obtain ⟨hh1, hh2⟩ := div_hat du hv.dgs (show 0 < k1 + 1 by omega) (show j + (k1 + 1) < n2 + 2 by omega) hT qs hqm hqs0
          rw [show j + (k1 + 1) - 1 = j + k1 by omega, show k1 + 1 - 1 = k1 by omega] at hh1
          have hor : bits BinOp.or IntKind.u64 (u (j + k1)) (u (j + (k1 + 1)) * 65536) = u (j + (k1 + 1)) * 65536 + u (j + k1) := by
            rw [or64' _ _ (u (j + (k1 + 1))) b1.1 b1.2 (by omega) b2.1 (by omega)]; omega
          have HX := hide (show IntKind.u64.wrap ((bits BinOp.or IntKind.u64 (u (j + k1)) (u (j + (k1 + 1)) * 65536)).tdiv (v k1)) = (u (j + (k1 + 1)) * 65536 + u (j + k1)) / v k1 by
            rw [hor, Int.tdiv_eq_ediv_of_nonneg (by omega), IntKind.wrap_u64]
            have g5 : 0 ≤ (u (j + (k1 + 1)) * 65536 + u (j + k1)) / v k1 := Int.ediv_nonneg (by omega) (by omega)
            have g6 : (u (j + (k1 + 1)) * 65536 + u (j + k1)) / v k1 ≤ u (j + (k1 + 1)) * 65536 + u (j + k1) := Int.ediv_le_self _ (by omega)
            omega)
          have HX2 := hide (show qs ≤ (u (j + (k1 + 1)) * 65536 + u (j + k1)) / v k1 from Int.le_ediv_of_mul_le b4 hh1)
          have HQ := hide hqs
          have HA := hide hA
          have HT := hide hT
          have HM := hide hqm
          clear hor hA hT hqs hqm hh1
          go_wp2_with fail
          all_goals
            go_loopw [13, 14] (fun q x wq => ∃ Y : Int, q = .int .u64 Y ∧ qs ≤ Y ∧ Y ≤ 65535 ∧ OwnL wq g 96 (n2 + 2) C u ∧ wq.rowIs w3.heap.size 96 N (fun j => .int .u16 (o j)) ∧ Below w1.heap.size w1 wq) (fun q _ _ => (intOf q).toNat)
            case atStart =>
              first
                | exact ⟨65535, rfl, by omega, Int.le_refl _, hu, hrow, hBr⟩
                | exact ⟨_, rfl, by rw [unhide HX]; exact unhide HX2, by assumption, hu, hrow, hBr⟩
            case round =>
              obtain ⟨Y, rfl, hY0, hY1, huq, hrowq, hBq⟩ := hrel
              have hYn : 0 ≤ Y := by omega
              have j1 : (j : Int) ≤ (n2 : Int) + 2 := by omega
              have j2 : (n2 : Int) + 2 ≤ (C : Int) := by omega
              have j3 : j < C := by omega
              have hvq := hv.below hBq
              have huD := huq.dig du j (by omega) (by omega)
              have dT := timesD_dgs hv.dgs (q := Y) ⟨hYn, by omega⟩ (k1 + 1)
              have dU : Dgs (fun i => u (j + i)) := fun i => du _
              have vT := times_V v Y (k1 + 1)
              have hcmp := trim_cmp dT dU (k1 + 1 + 1) (n2 + 2 - j)
              have eU : V (fun i => u (j + i)) (n2 + 2 - j) = Tp u j (n2 + 2) := rfl
              rw [vT, eU] at hcmp
              by_cases hle : V v (k1 + 1) * Y ≤ Tp u j (n2 + 2)
              · have t1 : cmpInt (V v (k1 + 1) * Y) (Tp u j (n2 + 2)) ≤ 0 := by unfold cmpInt; split <;> (try split) <;> omega
                have hYq : Y = qs := by
                  have h5 : Y ≤ Tp u j (n2 + 2) / V v (k1 + 1) := Int.le_ediv_of_mul_le hD (by rw [Int.mul_comm]; exact hle)
                  rw [← unhide HQ] at h5; omega
                have hm9 : trimN (timesD v Y (k1 + 1)) (k1 + 1 + 1) ≤ n2 + 2 - j := by
                  refine len_le dT (trimN_top _ _) ?_
                  rw [trimN_V, vT]
                  have := Tp_lt du j (n2 + 2); omega
                have HF := hide (show V (lessD (fun i => u (j + i)) (timesD v Y (k1 + 1)) (trimN (timesD v Y (k1 + 1)) (k1 + 1 + 1))) (n2 + 2 - j) = Tp u j (n2 + 2) - V v (k1 + 1) * Y by
                  rw [less_V dU dT _ _ hm9 (by rw [trimN_V, vT, eU]; exact hle), trimN_V, vT, eU])
                have dF := lessD_dgs dU dT (trimN (timesD v Y (k1 + 1)) (k1 + 1 + 1))
                have HCM := hide hcmp
                have HYQ := hide hYq
                clear hcmp vT eU hYq
                go_wp2_with fail
                refine (times_any (some ⟨bv, ov, none⟩) (k1 + 1) c1 v Y _ hvq (by omega) hYn (by omega)).mono ?_
                rintro r wt ⟨at_, rfl, hdt, hbt⟩
                have hBt := hBq.trans (hbt.mono hBq.size)
                have huDt := huD.below hbt
                have hB0 : Below wt.heap.size wt wt.drew := (Below.refl _ _).drew
                have tl := trimN_le (timesD v Y (k1 + 1)) (k1 + 1 + 1)
                have tl2 := trimN_le (fun i => u (j + i)) (n2 + 2 - j)
                go_wp2_with fail
                go_region_held3 (fun _ => True) (trivial)
                  (first
                    | (go_at_call 90; refine (compare_any _ _ _ _ _ _ (timesD v Y (k1 + 1)) (fun i => u (j + i)) _ ((hdt.take tl).below hD2) ((huDt.take tl2).below hD2)).mono ?_; rintro r wc3 ⟨rfl, hb3⟩; have hD3 := bthen hD2 hb3; rw [unhide HCM])
                    | (go_at_call 134; have hq := hD1; refine (trimmed_any _ _ _ (fun i => u (j + i)) _ (huDt.below hD1)).mono ?_; rintro r wc2 ⟨rfl, hb2⟩; have hD2 := bthen hD1 hb2)
                    | (go_at_call 134; refine (trimmed_any _ _ _ (timesD v Y (k1 + 1)) _ (hdt.below hB0)).mono ?_; rintro r wc1 ⟨rfl, hb1⟩; have hD1 := bthen hB0 hb1))
                have hBc := hBt.trans (hD3.mono hBt.size)
                have huc := (huq.below hbt).below hD3
                have hrowc : wc3.rowIs w3.heap.size 96 N (fun j => .int .u16 (o j)) := (hrowq.of_block (hbt.block _ hrowq.lt)).of_block (hD3.block _ (Nat.lt_of_lt_of_le hrowq.lt hbt.size))
                have hdtc := hdt.below hD3
                have huDc := huDt.below hD3
                have hE0 : Below wc3.heap.size wc3 wc3.drew := (Below.refl _ _).drew
                clear hb1 hb2 hb3 hD1 hD2 hD3 hB0
                go_wp2
                go_region_held3 (fun _ => True) (trivial)
                  (first
                    | (go_at_call 134; refine (trimmed_any _ _ _ (timesD v Y (k1 + 1)) _ (hdtc.below hE0)).mono ?_; rintro r wc4 ⟨rfl, hb4⟩; have hE4 := bthen hE0 hb4)
                    | (go_at_call 106; refine (less_dig _ _ (n2 + 2 - j) _ _ _ (fun i => u (j + i)) (timesD v Y (k1 + 1)) _ (huDc.below hE4) ((hdtc.take tl).below hE4) (by omega) (by omega)).mono ?_; rintro r wc5 ⟨a5, rfl, hd5, hb5⟩; have hE5 := bthen hE4 hb5; have hu5 := huc.below hE5; have hB5 := hBc.trans (hE5.mono hBc.size))
                    | (refine step_copy_dig (by rfl) _ _ 22 (by rfl) 96 Try.underlying22 Try.sizeU16 g j (n2 + 2) C _ _ _ u _ (by rfl) (by rfl) hu5 hd5 (by omega) w1.heap.size w1 hB5 hbg ?_; intro w6 hu6 hB6 ho6 hs6))
                have hrow6 : w6.rowIs w3.heap.size 96 N (fun j => .int .u16 (o j)) := (hrowc.of_block (hE5.block _ hrowc.lt)).of_block (ho6 _ (Nat.ne_of_gt hg3))
                have r1 := hrow6.cell (show j < N by omega)
                have r2 := hrow6.frozen j
                have jN : (j : Int) < (N : Int) := by omega
                have hW16 : IntKind.u16.wrap Y = Y := by rw [wrap16]; omega
                have HLN := hide (long_next (show j < n2 + 2 by omega) (show j < N by omega) hD (unhide HA) du do_ dF ((unhide HYQ).trans (unhide HQ)) hYn (by omega) (unhide HF))
                have HR6 := hide hrow6
                clear hrow6 hrowc hu5 hd5 hb5 hE5 hE4 hb4 hE0 hrowq huq huc ho6
                go_wp2
                go_roundw
                case rel => exact ⟨j, _, _, by omega, by go_num, hu6.of_block (Go.Deep.blk_setCell_other _ _ _ _ (Nat.ne_of_lt hg3)), row_upd (unhide HR6) j (by first | rfl | exact hW16), unhide HLN, hB6.setCell hsz3 _⟩
                case measure => simp [intOf]; try omega
              · have t1 : ¬ cmpInt (V v (k1 + 1) * Y) (Tp u j (n2 + 2)) ≤ 0 := by
                  unfold cmpInt; rw [if_neg (by omega), if_pos (by omega)]; omega
                have hYq : qs < Y := by
                  rcases Int.lt_or_le qs Y with h5 | h5
                  · exact h5
                  · have h6 := Int.mul_le_mul_of_nonneg_right h5 (show 0 ≤ V v (k1 + 1) by omega)
                    have h7 := unhide HM
                    rw [Int.mul_comm Y] at h6; omega
                have HCM := hide hcmp
                clear hcmp vT eU
                go_wp2_with fail
                refine (times_any (some ⟨bv, ov, none⟩) (k1 + 1) c1 v Y _ hvq (by omega) hYn (by omega)).mono ?_
                rintro r wt ⟨at_, rfl, hdt, hbt⟩
                have hBt := hBq.trans (hbt.mono hBq.size)
                have huDt := huD.below hbt
                have hB0 : Below wt.heap.size wt wt.drew := (Below.refl _ _).drew
                have tl := trimN_le (timesD v Y (k1 + 1)) (k1 + 1 + 1)
                have tl2 := trimN_le (fun i => u (j + i)) (n2 + 2 - j)
                go_wp2_with fail
                go_region_held3 (fun _ => True) (trivial)
                  (first
                    | (go_at_call 90; refine (compare_any _ _ _ _ _ _ (timesD v Y (k1 + 1)) (fun i => u (j + i)) _ ((hdt.take tl).below hD2) ((huDt.take tl2).below hD2)).mono ?_; rintro r wc3 ⟨rfl, hb3⟩; have hD3 := bthen hD2 hb3; rw [unhide HCM])
                    | (go_at_call 134; have hq := hD1; refine (trimmed_any _ _ _ (fun i => u (j + i)) _ (huDt.below hD1)).mono ?_; rintro r wc2 ⟨rfl, hb2⟩; have hD2 := bthen hD1 hb2)
                    | (go_at_call 134; refine (trimmed_any _ _ _ (timesD v Y (k1 + 1)) _ (hdt.below hB0)).mono ?_; rintro r wc1 ⟨rfl, hb1⟩; have hD1 := bthen hB0 hb1))
                have hBc := hBt.trans (hD3.mono hBt.size)
                have huc := (huq.below hbt).below hD3
                have hrowc : wc3.rowIs w3.heap.size 96 N (fun j => .int .u16 (o j)) := (hrowq.of_block (hbt.block _ hrowq.lt)).of_block (hD3.block _ (Nat.lt_of_lt_of_le hrowq.lt hbt.size))
                clear hb1 hb2 hb3 hD1 hD2 hD3 hB0
                go_wp2
                go_roundw
                case rel => exact ⟨Y - 1, by go_num, by omega, by omega, huc, hrowc, hBc⟩
                case measure => simp [intOf]; try omega
end Go.Proofs.Ytgmnknmjainabaa

namespace Go.Proofs.Ytgmnknmjainabaa
set_option linter.unusedVariables false
set_option linter.unusedSimpArgs false
set_option linter.unnecessarySimpa false
open Go.RowKit

theorem over_any (a c : Option Addr) (n m cap cap2 : Nat) (d e : Nat → Int) (w : World) (ha : Dig w a n cap d) (hc : Dig w c m cap2 e) (hn : n ≤ 900000000) (h1 : n = 0 ∨ d (n - 1) ≠ 0) (h2 : m = 0 ∨ e (m - 1) ≠ 0) (hpos : 0 < V e m) :
    Calls Try.prog 133 #[.slice a n cap, .slice c m cap2] w (OverAns w d e n m) := by
  by_cases h : m ≤ 3 ∨ V d n < V e m
  · exact over_small a c n m cap cap2 d e w ha hc (by omega) h1 h2 hpos h
  · exact over_long a c n m cap cap2 d e w ha hc hn h1 h2 (by omega) (by omega)

theorem floor_any (neg neg2 : Bool) (a c : Option Addr) (n m cap cap2 k k2 : Nat) (x y : Int) (w : World) (h1 : IntAt w neg a n cap k x) (h2 : IntAt w neg2 c m cap2 k2 y) (hk : k ≤ 900000000) (hy : 0 < y) :
    Calls Try.prog 103 #[.agg #[.bool neg, .slice a n cap], .agg #[.bool neg2, .slice c m cap2]] w (FloorAns w k (x / y)) := by
  obtain ⟨e, rfl, f0, f1, f2, f3, rfl⟩ := int_pos h2 hy
  obtain ⟨d, g1, g2, g3, g4, rfl⟩ := h1
  exact (floor_core neg a c n m cap cap2 d e w g1 f1 (by omega) f0 (fun w' p q => over_any a c n m cap cap2 d e w' p q (by omega) g2 f2 hy)).mono
    fun _ _ ⟨n1, n2, n3, n4, q1, q2, q3⟩ => ⟨n1, n2, n3, n4, q1, q2.mono (by omega), q3⟩
end Go.Proofs.Ytgmnknmjainabaa

namespace Go.Proofs.Ytgmnknmjainabaa
set_option linter.unusedVariables false
set_option linter.unusedSimpArgs false
set_option linter.unnecessarySimpa false
open Go.RowKit

/-- A span as it lies in a frame. -/
structure Sp where
  ln : Bool
  la : Option Addr
  lN : Nat
  lc : Nat
  hn : Bool
  ha : Option Addr
  hN : Nat
  hc : Nat
  bits : Int

/-- Its digits, whatever they are. -/
structure SpDig (w : World) (s : Sp) (d e : Nat → Int) : Prop where
  lo : Dig w s.la s.lN s.lc d
  hi : Dig w s.ha s.hN s.hc e

theorem SpDig.below {w w' : World} {s : Sp} {d e : Nat → Int} (h : SpDig w s d e) (hb : Below w.heap.size w w') : SpDig w' s d e := ⟨h.lo.below hb, h.hi.below hb⟩

/-- What Check says. -/
def chkE (s : Sp) (d e : Nat → Int) : Int :=
  if s.bits < 1 ∨ 120 < s.bits then 3
  else if rightB s.ln s.lN d = false ∨ rightB s.hn s.hN e = false then 1
  else if 4000 < lenZ s.lN d ∨ 4000 < lenZ s.hN e then 2
  else if 0 < cmpI s.ln s.hn d e s.lN s.hN then 4
  else 0

theorem chkE_cases (s : Sp) (d e : Nat → Int) : chkE s d e = 0 ∨ chkE s d e = 1 ∨ chkE s d e = 2 ∨ chkE s d e = 3 ∨ chkE s d e = 4 := by
  unfold chkE; repeat' split
  all_goals simp

set_option maxHeartbeats 400000 in
theorem between_any (n l m : Int) (w : World) :
    Calls Try.prog 75 #[.int .i64 n, .int .i64 l, .int .i64 m] w fun r w' => r = .returned (.bool (decide (l ≤ n) && decide (n ≤ m))) ∧ w' = w := by
  by_cases h : l ≤ n
  · go_enter Try.func75, Try.ntmps75
    go_wp2
    go_ret
    exact ⟨by simp [h], rfl⟩
  · go_enter Try.func75, Try.ntmps75
    go_wp2
    go_ret
    exact ⟨by simp; omega, rfl⟩

set_option maxRecDepth 100000 in
set_option maxHeartbeats 4000000 in
theorem check_any (s : Sp) (d e : Nat → Int) (w : World) (h : SpDig w s d e) :
    Calls Try.prog 25 #[.agg #[.bool s.ln, .slice s.la s.lN s.lc, .bool s.hn, .slice s.ha s.hN s.hc, .int .i64 s.bits]] w fun r w' => r = .returned (.int .i64 (chkE s d e)) ∧ Below w.heap.size w w' := by
  by_cases c0 : s.bits < 1
  · have HC := hide (show chkE s d e = 3 by unfold chkE; simp [c0])
    go_enter Try.func25, Try.ntmps25
    go_wp2_with fail
    go_ret
    exact ⟨by rw [unhide HC]; rfl, bl1 _ _⟩
  by_cases c1 : 120 < s.bits
  · have HC := hide (show chkE s d e = 3 by unfold chkE; simp [c0, c1])
    go_enter Try.func25, Try.ntmps25
    go_wp2_with fail
    go_ret
    exact ⟨by rw [unhide HC]; rfl, bl1 _ _⟩
  by_cases c2 : rightB s.ln s.lN d = false
  · have HC := hide (show chkE s d e = 1 by unfold chkE; simp [c0, c1, c2])
    go_enter Try.func25, Try.ntmps25
    go_wp2_with fail
    refine (isRight_any _ _ _ _ d _ (h.lo.below (bl1 _ _))).mono ?_
    rintro r w1 ⟨rfl, hb1⟩
    obtain ⟨hsz1, hcell1, hfz1⟩ := near (w.heap.size + 1) (by simp) hb1
    go_wp2_with fail
    go_ret
    exact ⟨by rw [unhide HC]; rfl, bthen (bl1 _ _) hb1⟩
  have c2' : rightB s.ln s.lN d  = true := by simpa using c2
  by_cases c3 : rightB s.hn s.hN e = false
  · have HC := hide (show chkE s d e = 1 by unfold chkE; simp [c0, c1, c2, c3])
    go_enter Try.func25, Try.ntmps25
    go_wp2_with fail
    refine (isRight_any _ _ _ _ d _ (h.lo.below (bl1 _ _))).mono ?_
    rintro r w1 ⟨rfl, hb1⟩
    obtain ⟨hsz1, hcell1, hfz1⟩ := near (w.heap.size + 1) (by simp) hb1
    go_wp2_with fail
    refine (isRight_any _ _ _ _ e _ (h.hi.below (bthen (bl1 _ _) hb1))).mono ?_
    rintro r w2 ⟨rfl, hb2⟩
    obtain ⟨hsz2, hcell2, hfz2⟩ := near (w.heap.size + 1) hsz1 hb2
    go_wp2_with fail
    go_ret
    exact ⟨by rw [unhide HC]; rfl, bthen (bthen (bl1 _ _) hb1) hb2⟩
  have c3' : rightB s.hn s.hN e  = true := by simpa using c3
  by_cases c4 : 4000 < lenZ s.lN d
  · have HC := hide (show chkE s d e = 2 by unfold chkE; simp [c0, c1, c2, c3, c4])
    go_enter Try.func25, Try.ntmps25
    go_wp2_with fail
    refine (isRight_any _ _ _ _ d _ (h.lo.below (bl1 _ _))).mono ?_
    rintro r w1 ⟨rfl, hb1⟩
    obtain ⟨hsz1, hcell1, hfz1⟩ := near (w.heap.size + 1) (by simp) hb1
    go_wp2_with fail
    refine (isRight_any _ _ _ _ e _ (h.hi.below (bthen (bl1 _ _) hb1))).mono ?_
    rintro r w2 ⟨rfl, hb2⟩
    obtain ⟨hsz2, hcell2, hfz2⟩ := near (w.heap.size + 1) hsz1 hb2
    go_wp2_with fail
    refine (len_any _ _ _ _ d _ (h.lo.below (bthen (bthen (bl1 _ _) hb1) hb2))).mono ?_
    rintro r w3 ⟨rfl, hb3⟩
    obtain ⟨hsz3, hcell3, hfz3⟩ := near (w.heap.size + 1) hsz2 hb3
    go_wp2_with fail
    go_ret
    exact ⟨by rw [unhide HC]; rfl, bthen (bthen (bthen (bl1 _ _) hb1) hb2) hb3⟩
  by_cases c5 : 4000 < lenZ s.hN e
  · have HC := hide (show chkE s d e = 2 by unfold chkE; simp [c0, c1, c2, c3, c4, c5])
    go_enter Try.func25, Try.ntmps25
    go_wp2_with fail
    refine (isRight_any _ _ _ _ d _ (h.lo.below (bl1 _ _))).mono ?_
    rintro r w1 ⟨rfl, hb1⟩
    obtain ⟨hsz1, hcell1, hfz1⟩ := near (w.heap.size + 1) (by simp) hb1
    go_wp2_with fail
    refine (isRight_any _ _ _ _ e _ (h.hi.below (bthen (bl1 _ _) hb1))).mono ?_
    rintro r w2 ⟨rfl, hb2⟩
    obtain ⟨hsz2, hcell2, hfz2⟩ := near (w.heap.size + 1) hsz1 hb2
    go_wp2_with fail
    refine (len_any _ _ _ _ d _ (h.lo.below (bthen (bthen (bl1 _ _) hb1) hb2))).mono ?_
    rintro r w3 ⟨rfl, hb3⟩
    obtain ⟨hsz3, hcell3, hfz3⟩ := near (w.heap.size + 1) hsz2 hb3
    go_wp2_with fail
    refine (len_any _ _ _ _ e _ (h.hi.below (bthen (bthen (bthen (bl1 _ _) hb1) hb2) hb3))).mono ?_
    rintro r w4 ⟨rfl, hb4⟩
    obtain ⟨hsz4, hcell4, hfz4⟩ := near (w.heap.size + 1) hsz3 hb4
    go_wp2_with fail
    go_ret
    exact ⟨by rw [unhide HC]; rfl, bthen (bthen (bthen (bthen (bl1 _ _) hb1) hb2) hb3) hb4⟩
  by_cases c6 : 0 < cmpI s.ln s.hn d e s.lN s.hN
  · have HC := hide (show chkE s d e = 4 by unfold chkE; simp [c0, c1, c2, c3, c4, c5, c6])
    go_enter Try.func25, Try.ntmps25
    go_wp2_with fail
    refine (isRight_any _ _ _ _ d _ (h.lo.below (bl1 _ _))).mono ?_
    rintro r w1 ⟨rfl, hb1⟩
    obtain ⟨hsz1, hcell1, hfz1⟩ := near (w.heap.size + 1) (by simp) hb1
    go_wp2_with fail
    refine (isRight_any _ _ _ _ e _ (h.hi.below (bthen (bl1 _ _) hb1))).mono ?_
    rintro r w2 ⟨rfl, hb2⟩
    obtain ⟨hsz2, hcell2, hfz2⟩ := near (w.heap.size + 1) hsz1 hb2
    go_wp2_with fail
    refine (len_any _ _ _ _ d _ (h.lo.below (bthen (bthen (bl1 _ _) hb1) hb2))).mono ?_
    rintro r w3 ⟨rfl, hb3⟩
    obtain ⟨hsz3, hcell3, hfz3⟩ := near (w.heap.size + 1) hsz2 hb3
    go_wp2_with fail
    refine (len_any _ _ _ _ e _ (h.hi.below (bthen (bthen (bthen (bl1 _ _) hb1) hb2) hb3))).mono ?_
    rintro r w4 ⟨rfl, hb4⟩
    obtain ⟨hsz4, hcell4, hfz4⟩ := near (w.heap.size + 1) hsz3 hb4
    go_wp2_with fail
    refine (cmp_any _ _ _ _ _ _ _ _ d e _ (h.lo.below (bthen (bthen (bthen (bthen (bl1 _ _) hb1) hb2) hb3) hb4)) (h.hi.below (bthen (bthen (bthen (bthen (bl1 _ _) hb1) hb2) hb3) hb4))).mono ?_
    rintro r w5 ⟨rfl, hb5⟩
    obtain ⟨hsz5, hcell5, hfz5⟩ := near (w.heap.size + 1) hsz4 hb5
    go_wp2_with fail
    go_ret
    exact ⟨by rw [unhide HC]; rfl, bthen (bthen (bthen (bthen (bthen (bl1 _ _) hb1) hb2) hb3) hb4) hb5⟩
  have HC := hide (show chkE s d e = 0 by unfold chkE; simp [c0, c1, c2, c3, c4, c5, c6])
  go_enter Try.func25, Try.ntmps25
  go_wp2_with fail
  refine (isRight_any _ _ _ _ d _ (h.lo.below (bl1 _ _))).mono ?_
  rintro r w1 ⟨rfl, hb1⟩
  obtain ⟨hsz1, hcell1, hfz1⟩ := near (w.heap.size + 1) (by simp) hb1
  go_wp2_with fail
  refine (isRight_any _ _ _ _ e _ (h.hi.below (bthen (bl1 _ _) hb1))).mono ?_
  rintro r w2 ⟨rfl, hb2⟩
  obtain ⟨hsz2, hcell2, hfz2⟩ := near (w.heap.size + 1) hsz1 hb2
  go_wp2_with fail
  refine (len_any _ _ _ _ d _ (h.lo.below (bthen (bthen (bl1 _ _) hb1) hb2))).mono ?_
  rintro r w3 ⟨rfl, hb3⟩
  obtain ⟨hsz3, hcell3, hfz3⟩ := near (w.heap.size + 1) hsz2 hb3
  go_wp2_with fail
  refine (len_any _ _ _ _ e _ (h.hi.below (bthen (bthen (bthen (bl1 _ _) hb1) hb2) hb3))).mono ?_
  rintro r w4 ⟨rfl, hb4⟩
  obtain ⟨hsz4, hcell4, hfz4⟩ := near (w.heap.size + 1) hsz3 hb4
  go_wp2_with fail
  refine (cmp_any _ _ _ _ _ _ _ _ d e _ (h.lo.below (bthen (bthen (bthen (bthen (bl1 _ _) hb1) hb2) hb3) hb4)) (h.hi.below (bthen (bthen (bthen (bthen (bl1 _ _) hb1) hb2) hb3) hb4))).mono ?_
  rintro r w5 ⟨rfl, hb5⟩
  obtain ⟨hsz5, hcell5, hfz5⟩ := near (w.heap.size + 1) hsz4 hb5
  go_wp2_with fail
  go_ret
  exact ⟨by rw [unhide HC]; rfl, bthen (bthen (bthen (bthen (bthen (bl1 _ _) hb1) hb2) hb3) hb4) hb5⟩

set_option maxRecDepth 100000 in
set_option maxHeartbeats 4000000 in
theorem checkSpan_any (s : Sp) (d e : Nat → Int) (w : World) (h : SpDig w s d e) :
    Calls Try.prog 17 #[.agg #[.bool s.ln, .slice s.la s.lN s.lc, .bool s.hn, .slice s.ha s.hN s.hc, .int .i64 s.bits]] w fun r w' => r = .returned (.int .i64 (chkE s d e)) ∧ Below w.heap.size w w' := by
  by_cases c0 : s.bits < 1
  · have HC := hide (show chkE s d e = 3 by unfold chkE; simp [c0])
    have hb : (decide (1 ≤ s.bits) && decide (s.bits ≤ 120)) = false := by simp; omega
    go_enter Try.func17, Try.ntmps17
    go_wp2_with fail
    refine (between_any _ _ _ _).mono ?_
    rintro r w' ⟨rfl, rfl⟩
    go_wp2_with fail
    go_ret
    exact ⟨by rw [unhide HC]; rfl, bl1 _ _⟩
  by_cases c1 : 120 < s.bits
  · have HC := hide (show chkE s d e = 3 by unfold chkE; simp [c0, c1])
    have hb : decide (s.bits ≤ 120) = false := by simp; omega
    go_enter Try.func17, Try.ntmps17
    go_wp2_with fail
    refine (between_any _ _ _ _).mono ?_
    rintro r w' ⟨rfl, rfl⟩
    go_wp2_with fail
    go_ret
    exact ⟨by rw [unhide HC]; rfl, bl1 _ _⟩
  by_cases c2 : rightB s.ln s.lN d = false
  · have HC := hide (show chkE s d e = 1 by unfold chkE; simp [c0, c1, c2])
    have hb : (decide (1 ≤ s.bits) && decide (s.bits ≤ 120)) = true := by simp; omega
    go_enter Try.func17, Try.ntmps17
    go_wp2_with fail
    refine (between_any _ _ _ _).mono ?_
    rintro r w' ⟨rfl, rfl⟩
    go_wp2_with fail
    refine (isRight_any _ _ _ _ d _ (h.lo.below (bl1 _ _))).mono ?_
    rintro r w1 ⟨rfl, hb1⟩
    obtain ⟨hsz1, hcell1, hfz1⟩ := near (w.heap.size + 1) (by simp) hb1
    go_wp2_with fail
    go_ret
    exact ⟨by rw [unhide HC]; rfl, bthen (bl1 _ _) hb1⟩
  have c2' : rightB s.ln s.lN d  = true := by simpa using c2
  by_cases c3 : rightB s.hn s.hN e = false
  · have HC := hide (show chkE s d e = 1 by unfold chkE; simp [c0, c1, c2, c3])
    have hb : (decide (1 ≤ s.bits) && decide (s.bits ≤ 120)) = true := by simp; omega
    go_enter Try.func17, Try.ntmps17
    go_wp2_with fail
    refine (between_any _ _ _ _).mono ?_
    rintro r w' ⟨rfl, rfl⟩
    go_wp2_with fail
    refine (isRight_any _ _ _ _ d _ (h.lo.below (bl1 _ _))).mono ?_
    rintro r w1 ⟨rfl, hb1⟩
    obtain ⟨hsz1, hcell1, hfz1⟩ := near (w.heap.size + 1) (by simp) hb1
    go_wp2_with fail
    refine (isRight_any _ _ _ _ e _ (h.hi.below (bthen (bl1 _ _) hb1))).mono ?_
    rintro r w2 ⟨rfl, hb2⟩
    obtain ⟨hsz2, hcell2, hfz2⟩ := near (w.heap.size + 1) hsz1 hb2
    go_wp2_with fail
    go_ret
    exact ⟨by rw [unhide HC]; rfl, bthen (bthen (bl1 _ _) hb1) hb2⟩
  have c3' : rightB s.hn s.hN e  = true := by simpa using c3
  by_cases c4 : 4000 < lenZ s.lN d
  · have HC := hide (show chkE s d e = 2 by unfold chkE; simp [c0, c1, c2, c3, c4])
    have hb : (decide (1 ≤ s.bits) && decide (s.bits ≤ 120)) = true := by simp; omega
    go_enter Try.func17, Try.ntmps17
    go_wp2_with fail
    refine (between_any _ _ _ _).mono ?_
    rintro r w' ⟨rfl, rfl⟩
    go_wp2_with fail
    refine (isRight_any _ _ _ _ d _ (h.lo.below (bl1 _ _))).mono ?_
    rintro r w1 ⟨rfl, hb1⟩
    obtain ⟨hsz1, hcell1, hfz1⟩ := near (w.heap.size + 1) (by simp) hb1
    go_wp2_with fail
    refine (isRight_any _ _ _ _ e _ (h.hi.below (bthen (bl1 _ _) hb1))).mono ?_
    rintro r w2 ⟨rfl, hb2⟩
    obtain ⟨hsz2, hcell2, hfz2⟩ := near (w.heap.size + 1) hsz1 hb2
    go_wp2_with fail
    refine (len_any _ _ _ _ d _ (h.lo.below (bthen (bthen (bl1 _ _) hb1) hb2))).mono ?_
    rintro r w3 ⟨rfl, hb3⟩
    obtain ⟨hsz3, hcell3, hfz3⟩ := near (w.heap.size + 1) hsz2 hb3
    go_wp2_with fail
    go_ret
    exact ⟨by rw [unhide HC]; rfl, bthen (bthen (bthen (bl1 _ _) hb1) hb2) hb3⟩
  by_cases c5 : 4000 < lenZ s.hN e
  · have HC := hide (show chkE s d e = 2 by unfold chkE; simp [c0, c1, c2, c3, c4, c5])
    have hb : (decide (1 ≤ s.bits) && decide (s.bits ≤ 120)) = true := by simp; omega
    go_enter Try.func17, Try.ntmps17
    go_wp2_with fail
    refine (between_any _ _ _ _).mono ?_
    rintro r w' ⟨rfl, rfl⟩
    go_wp2_with fail
    refine (isRight_any _ _ _ _ d _ (h.lo.below (bl1 _ _))).mono ?_
    rintro r w1 ⟨rfl, hb1⟩
    obtain ⟨hsz1, hcell1, hfz1⟩ := near (w.heap.size + 1) (by simp) hb1
    go_wp2_with fail
    refine (isRight_any _ _ _ _ e _ (h.hi.below (bthen (bl1 _ _) hb1))).mono ?_
    rintro r w2 ⟨rfl, hb2⟩
    obtain ⟨hsz2, hcell2, hfz2⟩ := near (w.heap.size + 1) hsz1 hb2
    go_wp2_with fail
    refine (len_any _ _ _ _ d _ (h.lo.below (bthen (bthen (bl1 _ _) hb1) hb2))).mono ?_
    rintro r w3 ⟨rfl, hb3⟩
    obtain ⟨hsz3, hcell3, hfz3⟩ := near (w.heap.size + 1) hsz2 hb3
    go_wp2_with fail
    refine (len_any _ _ _ _ e _ (h.hi.below (bthen (bthen (bthen (bl1 _ _) hb1) hb2) hb3))).mono ?_
    rintro r w4 ⟨rfl, hb4⟩
    obtain ⟨hsz4, hcell4, hfz4⟩ := near (w.heap.size + 1) hsz3 hb4
    go_wp2_with fail
    go_ret
    exact ⟨by rw [unhide HC]; rfl, bthen (bthen (bthen (bthen (bl1 _ _) hb1) hb2) hb3) hb4⟩
  by_cases c6 : 0 < cmpI s.ln s.hn d e s.lN s.hN
  · have HC := hide (show chkE s d e = 4 by unfold chkE; simp [c0, c1, c2, c3, c4, c5, c6])
    have hb : (decide (1 ≤ s.bits) && decide (s.bits ≤ 120)) = true := by simp; omega
    go_enter Try.func17, Try.ntmps17
    go_wp2_with fail
    refine (between_any _ _ _ _).mono ?_
    rintro r w' ⟨rfl, rfl⟩
    go_wp2_with fail
    refine (isRight_any _ _ _ _ d _ (h.lo.below (bl1 _ _))).mono ?_
    rintro r w1 ⟨rfl, hb1⟩
    obtain ⟨hsz1, hcell1, hfz1⟩ := near (w.heap.size + 1) (by simp) hb1
    go_wp2_with fail
    refine (isRight_any _ _ _ _ e _ (h.hi.below (bthen (bl1 _ _) hb1))).mono ?_
    rintro r w2 ⟨rfl, hb2⟩
    obtain ⟨hsz2, hcell2, hfz2⟩ := near (w.heap.size + 1) hsz1 hb2
    go_wp2_with fail
    refine (len_any _ _ _ _ d _ (h.lo.below (bthen (bthen (bl1 _ _) hb1) hb2))).mono ?_
    rintro r w3 ⟨rfl, hb3⟩
    obtain ⟨hsz3, hcell3, hfz3⟩ := near (w.heap.size + 1) hsz2 hb3
    go_wp2_with fail
    refine (len_any _ _ _ _ e _ (h.hi.below (bthen (bthen (bthen (bl1 _ _) hb1) hb2) hb3))).mono ?_
    rintro r w4 ⟨rfl, hb4⟩
    obtain ⟨hsz4, hcell4, hfz4⟩ := near (w.heap.size + 1) hsz3 hb4
    go_wp2_with fail
    refine (cmp_any _ _ _ _ _ _ _ _ d e _ (h.lo.below (bthen (bthen (bthen (bthen (bl1 _ _) hb1) hb2) hb3) hb4)) (h.hi.below (bthen (bthen (bthen (bthen (bl1 _ _) hb1) hb2) hb3) hb4))).mono ?_
    rintro r w5 ⟨rfl, hb5⟩
    obtain ⟨hsz5, hcell5, hfz5⟩ := near (w.heap.size + 1) hsz4 hb5
    go_wp2_with fail
    go_ret
    exact ⟨by rw [unhide HC]; rfl, bthen (bthen (bthen (bthen (bthen (bl1 _ _) hb1) hb2) hb3) hb4) hb5⟩
  have HC := hide (show chkE s d e = 0 by unfold chkE; simp [c0, c1, c2, c3, c4, c5, c6])
  have hb : (decide (1 ≤ s.bits) && decide (s.bits ≤ 120)) = true := by simp; omega
  go_enter Try.func17, Try.ntmps17
  go_wp2_with fail
  refine (between_any _ _ _ _).mono ?_
  rintro r w' ⟨rfl, rfl⟩
  go_wp2_with fail
  refine (isRight_any _ _ _ _ d _ (h.lo.below (bl1 _ _))).mono ?_
  rintro r w1 ⟨rfl, hb1⟩
  obtain ⟨hsz1, hcell1, hfz1⟩ := near (w.heap.size + 1) (by simp) hb1
  go_wp2_with fail
  refine (isRight_any _ _ _ _ e _ (h.hi.below (bthen (bl1 _ _) hb1))).mono ?_
  rintro r w2 ⟨rfl, hb2⟩
  obtain ⟨hsz2, hcell2, hfz2⟩ := near (w.heap.size + 1) hsz1 hb2
  go_wp2_with fail
  refine (len_any _ _ _ _ d _ (h.lo.below (bthen (bthen (bl1 _ _) hb1) hb2))).mono ?_
  rintro r w3 ⟨rfl, hb3⟩
  obtain ⟨hsz3, hcell3, hfz3⟩ := near (w.heap.size + 1) hsz2 hb3
  go_wp2_with fail
  refine (len_any _ _ _ _ e _ (h.hi.below (bthen (bthen (bthen (bl1 _ _) hb1) hb2) hb3))).mono ?_
  rintro r w4 ⟨rfl, hb4⟩
  obtain ⟨hsz4, hcell4, hfz4⟩ := near (w.heap.size + 1) hsz3 hb4
  go_wp2_with fail
  refine (cmp_any _ _ _ _ _ _ _ _ d e _ (h.lo.below (bthen (bthen (bthen (bthen (bl1 _ _) hb1) hb2) hb3) hb4)) (h.hi.below (bthen (bthen (bthen (bthen (bl1 _ _) hb1) hb2) hb3) hb4))).mono ?_
  rintro r w5 ⟨rfl, hb5⟩
  obtain ⟨hsz5, hcell5, hfz5⟩ := near (w.heap.size + 1) hsz4 hb5
  go_wp2_with fail
  go_ret
  exact ⟨by rw [unhide HC]; rfl, bthen (bthen (bthen (bthen (bthen (bl1 _ _) hb1) hb2) hb3) hb4) hb5⟩
end Go.Proofs.Ytgmnknmjainabaa

namespace Go.Proofs.Ytgmnknmjainabaa
set_option linter.unusedVariables false
set_option linter.unusedSimpArgs false
set_option linter.unnecessarySimpa false
open Go.RowKit
attribute [local go_sem ↓] Go.wp_at_zero Go.wp_at_succ

/-- A num.Int as it lies in a frame. -/
structure Nm where
  neg : Bool
  a : Option Addr
  n : Nat
  cap : Nat

/-- A row of right numbers. -/
structure Nums (w : World) (b n k : Nat) (f : Nat → Nm) (z : Nat → Int) : Prop where
  lt : b < w.heap.size
  c0 : ∀ j, j < n → w.cell? ⟨b, j * 2, none⟩ = some (.bool (f j).neg)
  c1 : ∀ j, j < n → w.cell? ⟨b, j * 2 + 1, none⟩ = some (.slice (f j).a (f j).n (f j).cap)
  int : ∀ j, j < n → IntAt w (f j).neg (f j).a (f j).n (f j).cap k (z j)

theorem Nums.below {w w' : World} {b n k : Nat} {f : Nat → Nm} {z : Nat → Int} (h : Nums w b n k f z) (hb : Below w.heap.size w w') : Nums w' b n k f z :=
  ⟨Nat.lt_of_lt_of_le h.lt hb.size, fun j hj => (hb.cell (p := ⟨b, j * 2, none⟩) h.lt).trans (h.c0 j hj), fun j hj => (hb.cell (p := ⟨b, j * 2 + 1, none⟩) h.lt).trans (h.c1 j hj), fun j hj => (h.int j hj).below hb⟩

/-- The greatest, and the least, of n + 1 numbers. -/
def mostZ (z : Nat → Int) : Nat → Int
  | 0 => z 0
  | n + 1 => if mostZ z n < z (n + 1) then z (n + 1) else mostZ z n
def leastZ (z : Nat → Int) : Nat → Int
  | 0 => z 0
  | n + 1 => if z (n + 1) < leastZ z n then z (n + 1) else leastZ z n

theorem cmpInt_le0 {x y : Int} (h : ¬ y < x) : ¬ 0 < cmpInt x y := by
  unfold cmpInt; simp only [h, if_false]; split <;> omega
theorem cmpInt_ge0 {x y : Int} (h : ¬ x < y) : ¬ cmpInt x y < 0 := by
  unfold cmpInt; rw [if_neg h]; split <;> omega
theorem mostZ_up {z : Nat → Int} {i : Nat} (h : mostZ z (i - 1) < z i) : mostZ z (i + 1 - 1) = z i := by
  cases i with
  | zero => rfl
  | succ j => simp only [Nat.add_sub_cancel] at *; simp only [mostZ, h, if_true]
theorem mostZ_stay {z : Nat → Int} {i : Nat} (h : ¬ mostZ z (i - 1) < z i) : mostZ z (i + 1 - 1) = mostZ z (i - 1) := by
  cases i with
  | zero => rfl
  | succ j => simp only [Nat.add_sub_cancel] at *; simp only [mostZ, h, if_false]
theorem leastZ_up {z : Nat → Int} {i : Nat} (h : z i < leastZ z (i - 1)) : leastZ z (i + 1 - 1) = z i := by
  cases i with
  | zero => rfl
  | succ j => simp only [Nat.add_sub_cancel] at *; simp only [leastZ, h, if_true]
theorem leastZ_stay {z : Nat → Int} {i : Nat} (h : ¬ z i < leastZ z (i - 1)) : leastZ z (i + 1 - 1) = leastZ z (i - 1) := by
  cases i with
  | zero => rfl
  | succ j => simp only [Nat.add_sub_cancel] at *; simp only [leastZ, h, if_false]

set_option maxRecDepth 100000 in
set_option maxHeartbeats 1000000 in
theorem power2_int (k : Nat) (w : World) (hk : k ≤ 1000000000) :
    Calls Try.prog 51 #[.int .i64 k] w fun r w' =>
      ∃ neg' a' n' cap', r = .returned (.agg #[.bool neg', .slice a' n' cap']) ∧ IntAt w' neg' a' n' cap' (k / 16 + 5) (Q k) ∧ Below w.heap.size w w' := by
  go_enter Try.func51, Try.ntmps51
  go_wp2_with (first
    | (go_at_call 62; refine (numOf_int 1 _ (by decide) (by decide)).mono ?_; rintro r w1 ⟨neg1, a1, n1, c1, rfl, hint1, hb1⟩; obtain ⟨hsz1, hcell1, hfz1⟩ := near (w.heap.size + 1) (by simp) hb1)
    | (go_at_call 107; refine (up_int _ _ _ _ k 4 1 _ hint1 (by omega) hk).mono ?_; rintro r w2 ⟨neg', a2, n2, c2, rfl, hint, hb2⟩; obtain ⟨hsz2, hcell2, hfz2⟩ := near (w.heap.size + 1) hsz1 hb2))
  have h0 : w2.cell? ⟨w.heap.size, 0, none⟩ = some (.bool false) := by simp [hcell2, hcell1, go_sem]
  have h1' : w2.cell? ⟨w.heap.size, 1, none⟩ = some (.slice none 0 0) := by simp [hcell2, hcell1, go_sem]
  refine bodyPost_ret (v := .agg #[.bool neg', .slice a2 n2 c2]) (by simp [results, Try.results51, go_sem, h0, h1']) rfl ⟨neg', a2, n2, c2, rfl, ?_, ?_⟩
  · rw [Int.one_mul] at hint
    exact (hint.put2 h0 h1' _ _).mono (by omega)
  · exact ((bthen (bthen (bl1 _ _) hb1) hb2).setCell (p := ⟨w.heap.size, 0, none⟩) (Nat.le_refl _) _).setCell (p := ⟨w.heap.size, 1, none⟩) (Nat.le_refl _) _

set_option maxRecDepth 100000 in
set_option maxHeartbeats 1000000 in
theorem copied_int (neg : Bool) (a : Option Addr) (n cap k1 : Nat) (x : Int) (w : World) (h1 : IntAt w neg a n cap k1 x) (hk1 : k1 ≤ 1000000000) :
    Calls Try.prog 146 #[.agg #[.bool neg, .slice a n cap]] w fun r w' =>
      ∃ neg' a' n' cap', r = .returned (.agg #[.bool neg', .slice a' n' cap']) ∧ IntAt w' neg' a' n' cap' (k1 + 1) x ∧ Below w.heap.size w w' := by
  go_enter Try.func146, Try.ntmps146
  go_wp2_with (go_at_call 107; refine (up_int _ _ _ _ 0 k1 x _ (h1.below (bl2 _ _ _)) hk1 (by omega)).mono ?_; rintro r w2 ⟨neg', a2, n2, c2, rfl, hint, hb2⟩; obtain ⟨hsz2, hcell2, hfz2⟩ := near (w.heap.size + 1 + 1) (by simp) hb2)
  have h0 : w2.cell? ⟨w.heap.size + 1, 0, none⟩ = some (.bool false) := by simp [hcell2, go_sem]
  have h1' : w2.cell? ⟨w.heap.size + 1, 1, none⟩ = some (.slice none 0 0) := by simp [hcell2, go_sem]
  refine bodyPost_ret (v := .agg #[.bool neg', .slice a2 n2 c2]) (by simp [results, Try.results146, go_sem, h0, h1']) rfl ⟨neg', a2, n2, c2, rfl, ?_, ?_⟩
  · simp only [Q, Int.mul_one] at hint
    exact (hint.put2 h0 h1' _ _).mono (by omega)
  · exact ((bthen (bl2 _ _ _) hb2).setCell (p := ⟨w.heap.size + 1, 0, none⟩) (Nat.le_succ _) _).setCell (p := ⟨w.heap.size + 1, 1, none⟩) (Nat.le_succ _) _

set_option maxRecDepth 100000 in
set_option maxHeartbeats 2000000 in
theorem greatest_int (b n cap k : Nat) (f : Nat → Nm) (z : Nat → Int) (w : World) (h : Nums w b (n + 1) k f z) (hn : n ≤ 1000) :
    Calls Try.prog 92 #[.slice (some ⟨b, 0, none⟩) (n + 1) cap] w fun r w' =>
      ∃ neg' a' n' cap', r = .returned (.agg #[.bool neg', .slice a' n' cap']) ∧ IntAt w' neg' a' n' cap' k (mostZ z n) ∧ Below w.heap.size w w' := by
  have h00 := h.c0 0 (by omega)
  have h01 := h.c1 0 (by omega)
  simp only [Nat.zero_mul, Nat.zero_add] at h00 h01
  have hnn : (0 : Int) < (n : Int) + 1 := by omega
  have hblt := h.lt
  go_enter Try.func92, Try.ntmps92
  go_wp2
  go_loopw [4] (fun ii wr => ∃ (i : Nat) (x : Nm), i ≤ n + 1 ∧ ii = .int .i64 i ∧ wr.cell? ⟨w.heap.size + 1, 0, none⟩ = some (.bool x.neg) ∧ wr.cell? ⟨w.heap.size + 1, 1, none⟩ = some (.slice x.a x.n x.cap) ∧ (∀ o, wr.frozen? ⟨w.heap.size + 1, o, none⟩ = false) ∧ IntAt wr x.neg x.a x.n x.cap k (mostZ z (i - 1)) ∧ w.heap.size + 1 + 1 ≤ wr.heap.size ∧
      Below (w.heap.size + 1) (w.alloc (.cells #[.bool false, .slice none 0 0] 24)) wr) (fun ii _ => n + 1 - (intOf ii).toNat)
  case atStart =>
    exact ⟨0, f 0, by omega, rfl, by simp [go_sem], by simp [go_sem], by intro o; simp [go_sem], (h.int 0 (by omega)).below (bl2 _ _ _), by simp, (Below.refl _ _).alloc (by simp) _⟩
  case round =>
    obtain ⟨i, x, hi, rfl, x0, x1, x2, hx, hsw, hbl⟩ := hrel
    have hB : Below w.heap.size w wr := (bl1 _ _).trans (hbl.mono (by omega))
    by_cases hin : i < n + 1
    · have g0 := (h.below hB).c0 i hin
      have g1 := (h.below hB).c1 i hin
      have hint := (h.below hB).int i hin
      have hi0 : (0 : Int) ≤ (i : Int) := by omega
      have hi1 : (i : Int) < (n : Int) + 1 := by omega
      have hbb : b ≤ w.heap.size + 1 := by omega
      have hne : w.heap.size + 1 ≠ b := by omega
      have hne' : b ≠ w.heap.size + 1 := by omega
      have HH := hide h
      clear h h00 h01
      by_cases hc : mostZ z (i - 1) < z i
      · have hcm : cmpInt (z i) (mostZ z (i - 1)) = 1 := by unfold cmpInt; rw [if_neg (by omega), if_pos hc]
        have HZ := hide (mostZ_up hc)
        go_wp2
        go_region_held3 (fun w' => w'.cell? ⟨b, i * 2, none⟩ = some (.bool (f i).neg) ∧ w'.cell? ⟨b, i * 2 + 1, none⟩ = some (.slice (f i).a (f i).n (f i).cap) ∧ w'.cell? ⟨w.heap.size + 1, 0, none⟩ = some (.bool x.neg) ∧ w'.cell? ⟨w.heap.size + 1, 1, none⟩ = some (.slice x.a x.n x.cap)) (go_keep)
          (first
            | (go_at_call 33; refine (cmp_int _ _ _ _ _ _ _ _ k k (z i) (mostZ z (i - 1)) _ (hint.below (Below.refl _ _).drew) (hx.below (Below.refl _ _).drew)).mono ?_; rintro r w1 ⟨rfl, hb1⟩; obtain ⟨hsz1, hcell1, hfz1⟩ := near (w.heap.size + 1 + 1) (by exact hsw) hb1; rw [hcm]))
        have y0 : w1.cell? ⟨w.heap.size + 1, 0, none⟩ = some (.bool x.neg) := (hcell1 _ _ (Nat.le_refl _)).trans x0
        have y1 : w1.cell? ⟨w.heap.size + 1, 1, none⟩ = some (.slice x.a x.n x.cap) := (hcell1 _ _ (Nat.le_refl _)).trans x1
        have y2 : ∀ o, w1.frozen? ⟨w.heap.size + 1, o, none⟩ = false := fun o => (hfz1 _ _ (Nat.le_refl _)).trans (x2 o)
        go_wp2
        go_roundw
        case rel =>
          refine ⟨i + 1, f i, by omega, by go_num, by simp [go_sem, y0, y1], by simp [go_sem, y0, y1], by intro o; simp [go_sem, y2], ?_, ?_, ?_⟩
          · rw [unhide HZ]; exact ((hint.below (Below.refl _ _).drew).below hb1).put2 y0 y1 _ _
          · simpa [World.setCell] using hsz1
          · exact ((hbl.trans ((bthen (Below.refl _ _).drew hb1).mono (by omega))).setCell (p := ⟨w.heap.size + 1, 0, none⟩) (Nat.le_refl _) _).setCell (p := ⟨w.heap.size + 1, 1, none⟩) (Nat.le_refl _) _
        case measure => simp [intOf]; omega
      · have hcm : ¬ 0 < cmpInt (z i) (mostZ z (i - 1)) := cmpInt_le0 hc
        have HZ := hide (mostZ_stay hc)
        go_wp2
        go_region_held3 (fun w' => w'.cell? ⟨b, i * 2, none⟩ = some (.bool (f i).neg) ∧ w'.cell? ⟨b, i * 2 + 1, none⟩ = some (.slice (f i).a (f i).n (f i).cap) ∧ w'.cell? ⟨w.heap.size + 1, 0, none⟩ = some (.bool x.neg) ∧ w'.cell? ⟨w.heap.size + 1, 1, none⟩ = some (.slice x.a x.n x.cap)) (go_keep)
          (first
            | (go_at_call 33; refine (cmp_int _ _ _ _ _ _ _ _ k k (z i) (mostZ z (i - 1)) _ (hint.below (Below.refl _ _).drew) (hx.below (Below.refl _ _).drew)).mono ?_; rintro r w1 ⟨rfl, hb1⟩; obtain ⟨hsz1, hcell1, hfz1⟩ := near (w.heap.size + 1 + 1) (by exact hsw) hb1))
        have y0 : w1.cell? ⟨w.heap.size + 1, 0, none⟩ = some (.bool x.neg) := (hcell1 _ _ (Nat.le_refl _)).trans x0
        have y1 : w1.cell? ⟨w.heap.size + 1, 1, none⟩ = some (.slice x.a x.n x.cap) := (hcell1 _ _ (Nat.le_refl _)).trans x1
        have y2 : ∀ o, w1.frozen? ⟨w.heap.size + 1, o, none⟩ = false := fun o => (hfz1 _ _ (Nat.le_refl _)).trans (x2 o)
        go_wp2
        go_roundw
        case rel =>
          exact ⟨i + 1, x, by omega, by go_num, y0, y1, y2, by rw [unhide HZ]; exact (hx.below (Below.refl _ _).drew).below hb1, hsz1, hbl.trans ((bthen (Below.refl _ _).drew hb1).mono (by omega))⟩
        case measure => simp [intOf]; omega
    · have hiE : i = n + 1 := by omega
      subst hiE
      have q3 : wr.cell? ⟨w.heap.size, 0, none⟩ = some (.bool false) := (hbl.cell (p := ⟨w.heap.size, 0, none⟩) (Nat.lt_succ_self _)).trans (by simp [go_sem])
      have q4 : wr.cell? ⟨w.heap.size, 1, none⟩ = some (.slice none 0 0) := (hbl.cell (p := ⟨w.heap.size, 1, none⟩) (Nat.lt_succ_self _)).trans (by simp [go_sem])
      have q5 : ∀ o, wr.frozen? ⟨w.heap.size, o, none⟩ = false := fun o => (hbl.frozen (p := ⟨w.heap.size, o, none⟩) (Nat.lt_succ_self _)).trans (by simp [go_sem])
      clear h h00 h01
      go_wp2
      refine bodyPost_ret (v := .agg #[.bool x.neg, .slice x.a x.n x.cap]) (by simp [results, Try.results92, go_sem, q3, q4]) rfl ⟨x.neg, x.a, x.n, x.cap, rfl, hx.put2 q3 q4 _ _, ?_⟩
      exact (hB.setCell (p := ⟨w.heap.size, 0, none⟩) (Nat.le_refl _) _).setCell (p := ⟨w.heap.size, 1, none⟩) (Nat.le_refl _) _

set_option maxRecDepth 100000 in
set_option maxHeartbeats 2000000 in
theorem least_int (b n cap k : Nat) (f : Nat → Nm) (z : Nat → Int) (w : World) (h : Nums w b (n + 1) k f z) (hn : n ≤ 1000) :
    Calls Try.prog 91 #[.slice (some ⟨b, 0, none⟩) (n + 1) cap] w fun r w' =>
      ∃ neg' a' n' cap', r = .returned (.agg #[.bool neg', .slice a' n' cap']) ∧ IntAt w' neg' a' n' cap' k (leastZ z n) ∧ Below w.heap.size w w' := by
  have h00 := h.c0 0 (by omega)
  have h01 := h.c1 0 (by omega)
  simp only [Nat.zero_mul, Nat.zero_add] at h00 h01
  have hnn : (0 : Int) < (n : Int) + 1 := by omega
  have hblt := h.lt
  go_enter Try.func91, Try.ntmps91
  go_wp2
  go_loopw [4] (fun ii wr => ∃ (i : Nat) (x : Nm), i ≤ n + 1 ∧ ii = .int .i64 i ∧ wr.cell? ⟨w.heap.size + 1, 0, none⟩ = some (.bool x.neg) ∧ wr.cell? ⟨w.heap.size + 1, 1, none⟩ = some (.slice x.a x.n x.cap) ∧ (∀ o, wr.frozen? ⟨w.heap.size + 1, o, none⟩ = false) ∧ IntAt wr x.neg x.a x.n x.cap k (leastZ z (i - 1)) ∧ w.heap.size + 1 + 1 ≤ wr.heap.size ∧
      Below (w.heap.size + 1) (w.alloc (.cells #[.bool false, .slice none 0 0] 24)) wr) (fun ii _ => n + 1 - (intOf ii).toNat)
  case atStart =>
    exact ⟨0, f 0, by omega, rfl, by simp [go_sem], by simp [go_sem], by intro o; simp [go_sem], (h.int 0 (by omega)).below (bl2 _ _ _), by simp, (Below.refl _ _).alloc (by simp) _⟩
  case round =>
    obtain ⟨i, x, hi, rfl, x0, x1, x2, hx, hsw, hbl⟩ := hrel
    have hB : Below w.heap.size w wr := (bl1 _ _).trans (hbl.mono (by omega))
    by_cases hin : i < n + 1
    · have g0 := (h.below hB).c0 i hin
      have g1 := (h.below hB).c1 i hin
      have hint := (h.below hB).int i hin
      have hi0 : (0 : Int) ≤ (i : Int) := by omega
      have hi1 : (i : Int) < (n : Int) + 1 := by omega
      have hbb : b ≤ w.heap.size + 1 := by omega
      have hne : w.heap.size + 1 ≠ b := by omega
      have hne' : b ≠ w.heap.size + 1 := by omega
      have HH := hide h
      clear h h00 h01
      by_cases hc : z i < leastZ z (i - 1)
      · have hcm : cmpInt (z i) (leastZ z (i - 1)) = -1 := by unfold cmpInt; rw [if_pos hc]
        have HZ := hide (leastZ_up hc)
        go_wp2
        go_region_held3 (fun w' => w'.cell? ⟨b, i * 2, none⟩ = some (.bool (f i).neg) ∧ w'.cell? ⟨b, i * 2 + 1, none⟩ = some (.slice (f i).a (f i).n (f i).cap) ∧ w'.cell? ⟨w.heap.size + 1, 0, none⟩ = some (.bool x.neg) ∧ w'.cell? ⟨w.heap.size + 1, 1, none⟩ = some (.slice x.a x.n x.cap)) (go_keep)
          (first
            | (go_at_call 33; refine (cmp_int _ _ _ _ _ _ _ _ k k (z i) (leastZ z (i - 1)) _ (hint.below (Below.refl _ _).drew) (hx.below (Below.refl _ _).drew)).mono ?_; rintro r w1 ⟨rfl, hb1⟩; obtain ⟨hsz1, hcell1, hfz1⟩ := near (w.heap.size + 1 + 1) (by exact hsw) hb1; rw [hcm]))
        have y0 : w1.cell? ⟨w.heap.size + 1, 0, none⟩ = some (.bool x.neg) := (hcell1 _ _ (Nat.le_refl _)).trans x0
        have y1 : w1.cell? ⟨w.heap.size + 1, 1, none⟩ = some (.slice x.a x.n x.cap) := (hcell1 _ _ (Nat.le_refl _)).trans x1
        have y2 : ∀ o, w1.frozen? ⟨w.heap.size + 1, o, none⟩ = false := fun o => (hfz1 _ _ (Nat.le_refl _)).trans (x2 o)
        go_wp2
        go_roundw
        case rel =>
          refine ⟨i + 1, f i, by omega, by go_num, by simp [go_sem, y0, y1], by simp [go_sem, y0, y1], by intro o; simp [go_sem, y2], ?_, ?_, ?_⟩
          · rw [unhide HZ]; exact ((hint.below (Below.refl _ _).drew).below hb1).put2 y0 y1 _ _
          · simpa [World.setCell] using hsz1
          · exact ((hbl.trans ((bthen (Below.refl _ _).drew hb1).mono (by omega))).setCell (p := ⟨w.heap.size + 1, 0, none⟩) (Nat.le_refl _) _).setCell (p := ⟨w.heap.size + 1, 1, none⟩) (Nat.le_refl _) _
        case measure => simp [intOf]; omega
      · have hcm : ¬ cmpInt (z i) (leastZ z (i - 1)) < 0 := cmpInt_ge0 hc
        have HZ := hide (leastZ_stay hc)
        go_wp2
        go_region_held3 (fun w' => w'.cell? ⟨b, i * 2, none⟩ = some (.bool (f i).neg) ∧ w'.cell? ⟨b, i * 2 + 1, none⟩ = some (.slice (f i).a (f i).n (f i).cap) ∧ w'.cell? ⟨w.heap.size + 1, 0, none⟩ = some (.bool x.neg) ∧ w'.cell? ⟨w.heap.size + 1, 1, none⟩ = some (.slice x.a x.n x.cap)) (go_keep)
          (first
            | (go_at_call 33; refine (cmp_int _ _ _ _ _ _ _ _ k k (z i) (leastZ z (i - 1)) _ (hint.below (Below.refl _ _).drew) (hx.below (Below.refl _ _).drew)).mono ?_; rintro r w1 ⟨rfl, hb1⟩; obtain ⟨hsz1, hcell1, hfz1⟩ := near (w.heap.size + 1 + 1) (by exact hsw) hb1))
        have y0 : w1.cell? ⟨w.heap.size + 1, 0, none⟩ = some (.bool x.neg) := (hcell1 _ _ (Nat.le_refl _)).trans x0
        have y1 : w1.cell? ⟨w.heap.size + 1, 1, none⟩ = some (.slice x.a x.n x.cap) := (hcell1 _ _ (Nat.le_refl _)).trans x1
        have y2 : ∀ o, w1.frozen? ⟨w.heap.size + 1, o, none⟩ = false := fun o => (hfz1 _ _ (Nat.le_refl _)).trans (x2 o)
        go_wp2
        go_roundw
        case rel =>
          exact ⟨i + 1, x, by omega, by go_num, y0, y1, y2, by rw [unhide HZ]; exact (hx.below (Below.refl _ _).drew).below hb1, hsz1, hbl.trans ((bthen (Below.refl _ _).drew hb1).mono (by omega))⟩
        case measure => simp [intOf]; omega
    · have hiE : i = n + 1 := by omega
      subst hiE
      have q3 : wr.cell? ⟨w.heap.size, 0, none⟩ = some (.bool false) := (hbl.cell (p := ⟨w.heap.size, 0, none⟩) (Nat.lt_succ_self _)).trans (by simp [go_sem])
      have q4 : wr.cell? ⟨w.heap.size, 1, none⟩ = some (.slice none 0 0) := (hbl.cell (p := ⟨w.heap.size, 1, none⟩) (Nat.lt_succ_self _)).trans (by simp [go_sem])
      have q5 : ∀ o, wr.frozen? ⟨w.heap.size, o, none⟩ = false := fun o => (hbl.frozen (p := ⟨w.heap.size, o, none⟩) (Nat.lt_succ_self _)).trans (by simp [go_sem])
      clear h h00 h01
      go_wp2
      refine bodyPost_ret (v := .agg #[.bool x.neg, .slice x.a x.n x.cap]) (by simp [results, Try.results91, go_sem, q3, q4]) rfl ⟨x.neg, x.a, x.n, x.cap, rfl, hx.put2 q3 q4 _ _, ?_⟩
      exact (hB.setCell (p := ⟨w.heap.size, 0, none⟩) (Nat.le_refl _) _).setCell (p := ⟨w.heap.size, 1, none⟩) (Nat.le_refl _) _

end Go.Proofs.Ytgmnknmjainabaa
