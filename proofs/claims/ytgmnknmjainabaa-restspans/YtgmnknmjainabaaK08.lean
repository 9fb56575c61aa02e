/-
  What num.over answers where the lower number has more than three digits, and that it leaves old memory alone.
  What num.Floor answers of whatever right numbers, the second one more than 0, and that it leaves old memory alone.
  What span.Add answers of two small right spans, and that tailsurelaw.spanBegun answers true, and that they leave old memory alone.
  That tailsurelaw.SpanAdds answers true of right spans by the same bits, and leaves old memory alone.
  That tailsurelaw.SpanAdds answers true of whatever spans, and leaves old memory alone: its ways put together.
  What tailsureref.Down, Up, Ratio, RatioOf, RightRatio, RightBits and Turn answer, where the lower number is less than 2 to the power of 48, and that they leave old memory alone.
  What tailsureref.Ratio answers, and that it leaves old memory alone.
  What num.Root answers, and that it leaves old memory alone.
  What tailsureref.HasNought answers of right spans, and that it leaves old memory alone; ceil and wide.ceil of whatever numbers.
  How long a number is; a number in as few digits as it takes; what is meant by being sure.
  The sums of powers over factorials, over ratios: the power of a sum is the product of the powers, but for what is at last smaller than anything; who is more has more. Plain arithmetic: no statement of the seat is proved here.
-/
import Derived.Deep.RegionHeld3
import Derived.Deep.LoopGhost
import Derived.Test.YtgmnknmjainabaaK07
namespace Go.Proofs.Ytgmnknmjainabaa
set_option linter.unusedVariables false
set_option linter.unusedSimpArgs false
set_option linter.unnecessarySimpa false
open Go.RowKit
attribute [local go_sem ↓] Go.wp_at_zero Go.wp_at_succ

/-- What the long division keeps. -/
def LongI (A D : Int) (L N J : Nat) (u o : Nat → Int) : Prop := Dgs u ∧ Dgs o ∧ A = V u L + D * (P J * Tp o J N) ∧ Tp u J L < D

theorem long_start {A : Int} {u0 v : Nat → Int} {n1 n2 N : Nat} (hu : Dgs u0) (hv : Dgs v) (hn1 : 0 < n1) (hvt : n1 = 0 ∨ v (n1 - 1) ≠ 0) (hA : V u0 n2 = A) (hN : N + n1 = n2 + 2) :
    LongI A (V v n1) (n2 + 2) N N (upd (upd u0 n2 0) (n2 + 1) 0) (fun _ => 0) := by
  have hz : Dgs (upd (upd u0 n2 0) (n2 + 1) 0) := upd_dgs (upd_dgs hu _ (by omega) (by omega)) _ (by omega) (by omega)
  refine ⟨hz, fun _ => ⟨by simp, by simp⟩, ?_, ?_⟩
  · rw [Tp_top, Int.mul_zero, Int.mul_zero, Int.add_zero, ← hA]
    show _ = V _ n2 + _ * P n2 + _ * P (n2 + 1)
    have e1 : V (upd (upd u0 n2 0) (n2 + 1) 0) n2 = V u0 n2 := V_congr _ (fun j hj => by simp only [upd]; rw [if_neg (by omega), if_neg (by omega)])
    have e2 : upd (upd u0 n2 0) (n2 + 1) 0 n2 = 0 := by simp [upd]
    have e3 : upd (upd u0 n2 0) (n2 + 1) 0 (n2 + 1) = 0 := by simp [upd]
    rw [e1, e2, e3]; omega
  · obtain ⟨k, rfl⟩ : ∃ k, n1 = k + 1 := ⟨n1 - 1, by omega⟩
    unfold Tp
    rw [show n2 + 2 - N = k + 1 by omega]
    have h1 := V_lt (fun t => hz (N + t)) k
    have h2 := V_ge hv k (by simpa using hvt)
    have e3 : upd (upd u0 n2 0) (n2 + 1) 0 (N + k) = 0 := by rw [show N + k = n2 + 1 by omega]; simp [upd]
    show V _ k + upd (upd u0 n2 0) (n2 + 1) 0 (N + k) * P k < _
    rw [e3]; omega

theorem step_copy_dig {Pr : Program} {ops : Array Oper} {o : Oper} {a : Act} {w : World} {K : Act → World → Prop} {Q : Exit → Act → World → Prop} {E : Prop} (hgd : o.guard = none) (x y : Operand) (t : TypeId)
    (ho : o.op = .call { callee := .builtin .copy, args := #[x, y], argTypes := #[t, t] }) (e : TypeId) (hut : Pr.underlying t = some (.slice e)) (hsz : (Pr.info? e).map (·.size) = some 1)
    (g j L C cd cs : Nat) (sp : Option Addr) (u f : Nat → Int) (hd : a.eval x = .slice (some ⟨g, j, none⟩) (L - j) cd) (hs : a.eval y = .slice sp (L - j) cs) (hown : OwnL w g e L C u) (hf : Dig w sp (L - j) cs f) (hj : j < L)
    (B : Nat) (w0 : World) (hb : Below B w0 w) (hBg : B ≤ g)
    (hK : ∀ w', OwnL w' g e L C (over1 u f j) → Below B w0 w' → (∀ k, k ≠ g → w'.heap[k]? = w.heap[k]?) → w'.heap.size = w.heap.size → K (a.put o.dst (goInt (dcells f (L - j)).length)) w') :
    if Region.wanted o (yielded ops a.tmps) = true then Oper.wp Pr o a w K Q else E := by
  have hw : Region.wanted o (yielded ops a.tmps) = true := by simp [Region.wanted, hgd]
  rw [if_pos hw]
  have hown' := hown
  obtain ⟨cur, h1, h2, h3, h4⟩ := hown
  obtain ⟨b, off, rfl, hblt, hcells⟩ := hf.at_ (by omega)
  have hrun := run_copy_row (P := Pr) w t t o.type e g j (L - j) cd ⟨b, off, none⟩ (L - j) cs cur.toArray e (dcells f (L - j)) hut hsz h1 (by rw [dcells_len]; simp)
    (fun i v hv => by
      obtain ⟨q1, q2⟩ := dcells_some hv
      rw [add_off, q2]; exact hcells i q1) (by rw [dcells_len]; simp; omega) (dcells_one _ _)
  unfold Oper.wp
  simp [execOp, ho, resolve, invoke, builtin, hd, hs, hrun, Result.andThen]
  refine hK _ (hown'.splice j (by omega) cur h1 ?_) (below_setRow hb hBg _) (fun k hk => setRow_other w g k _ (by first | exact hk | exact fun e => hk e.symm)) ?_
  · simpa [Go.splice] using setRow_heap w g _ _ e _ h1
  · simp [World.setRow]

theorem Try.sizeU16 : (Try.prog.info? 96).map (·.size) = some 1 := by kernel_rfl

/-- One round of the long division, of its numbers. -/
theorem long_next {A D : Int} {L N j : Nat} {u o f : Nat → Int} {q : Int} (hjL : j < L) (hjN : j < N) (hD : 0 < D) (hA : A = V u L + D * (P (j + 1) * Tp o (j + 1) N)) (du : Dgs u) (do_ : Dgs o) (df : Dgs f) (hq : q = Tp u j L / D) (hq0 : 0 ≤ q) (hq1 : q < 65536)
    (hf : V f (L - j) = Tp u j L - D * q) : LongI A D L N j (over1 u f j) (upd o j q) := by
  refine ⟨over1_dgs du df j, upd_dgs do_ j hq0 hq1, div_step hjL hjN hA (by rw [hf, Int.mul_comm D q]), ?_⟩
  rw [over1_Tp, hf, hq]
  have h1 := Int.mul_ediv_add_emod (Tp u j L) D
  have h2 := Int.emod_lt_of_pos (Tp u j L) hD
  omega

theorem trim_cmp {d e : Nat → Int} (hd : Dgs d) (he : Dgs e) (n m : Nat) : cmpZ d e (trimN d n) (trimN e m) = cmpInt (V d n) (V e m) := by
  rw [cmpZ_V hd he _ _ (trimN_top d n) (trimN_top e m), trimN_V, trimN_V]

theorem field1 (x : Bool) (a : Option Addr) (n c : Nat) (w : World) : (Instr.field 24 (.agg #[.bool x, .slice a n c]) 1).run Try.prog w = .ok (.slice a n c) w := by kernel_rfl

set_option maxRecDepth 100000 in
set_option maxHeartbeats 4000000 in
theorem over_long (a c : Option Addr) (n m cap cap2 : Nat) (d e : Nat → Int) (w : World) (ha : Dig w a n cap d) (hc : Dig w c m cap2 e) (hn : n ≤ 900000000) (h1 : n = 0 ∨ d (n - 1) ≠ 0) (h2 : m = 0 ∨ e (m - 1) ≠ 0) (hm : 3 < m) (hge : V e m ≤ V d n) :
    Calls Try.prog 133 #[.slice a n cap, .slice c m cap2] w (OverAns w d e n m) := by
  have hcv := cmpZ_V ha.dgs hc.dgs n m h1 h2
  have hneg : ¬ cmpZ d e n m < 0 := by rw [hcv]; unfold cmpInt; rw [if_neg (by omega)]; split <;> omega
  have hm3 : ¬ (m : Int) ≤ 3 := by omega
  have hmr := hc.room
  have hml := hc.le
  have hmn : m ≤ n := len_le hc.dgs h2 (Int.lt_of_le_of_lt hge (V_lt ha.dgs n))
  have htop : 0 < e (m - 1) := by have := hc.dgs (m - 1); omega
  have htop2 := (hc.dgs (m - 1)).2
  obtain ⟨b2, o2, rfl, hb2, hc2⟩ := hc.at_ (by omega)
  have hct := hc2 (m - 1) (by omega)
  have hi : ((m : Int) - 1) = ((m - 1 : Nat) : Int) := by omega
  have hfd := field1
  clear hcv hc2
  go_enter Try.func133, Try.ntmps133
  go_wp2_with (go_at_call 90; refine (compare_any _ _ _ _ _ _ d e _ ha hc).mono ?_; rintro r w0 ⟨rfl, hb0⟩)
  have g1 : w0.cell? ⟨b2, o2 + (m - 1), none⟩ = some (.int .u16 (e (m - 1))) := (hb0.cell (p := ⟨b2, o2 + (m - 1), none⟩) hb2).trans hct
  go_loop [6] (fun k => ∃ s : Nat, k = .int .i64 s ∧ s ≤ 15 ∧ e (m - 1) * Q s < 65536) (fun k => 16 - (intOf k).toNat)
  case atStart => exact ⟨0, rfl, by omega, by simp [Q]; omega⟩
  case round =>
    obtain ⟨s, rfl, hs, hes⟩ := hrel
    have hq := Q_pos s
    have hmod : IntKind.u16.wrap (e (m - 1) * 2 ^ s) = e (m - 1) * Q s := by
      rw [wrap16, Q_pow]
      have : 0 ≤ e (m - 1) * Q s := Int.mul_nonneg (by omega) (by omega)
      omega
    by_cases hlt : e (m - 1) * Q s < 32768
    · have ht : IntKind.u16.wrap (e (m - 1) * 2 ^ s) < 32768 := by rw [hmod]; exact hlt
      have hs15 : s < 15 := by
        rcases Nat.lt_or_ge s 15 with h | h
        · exact h
        · have h5 := Q_mono h
          have e15 : Q 15 = 32768 := rfl
          have h6 := Int.mul_le_mul_of_nonneg_right (show 1 ≤ e (m - 1) by omega) (show 0 ≤ Q s by omega)
          omega
      have HN := hide (show e (m - 1) * Q (s + 1) < 65536 by simp only [Q]; rw [Int.mul_left_comm]; omega)
      clear hmod hlt hes
      go_wp2
      go_round
      case rel => exact ⟨s + 1, by go_num, by omega, unhide HN⟩
      case measure => simp [intOf]; omega
    · have ht : ¬ IntKind.u16.wrap (e (m - 1) * 2 ^ s) < 32768 := by rw [hmod]; exact hlt
      clear hmod hlt
      have he0 : 0 < V e m := by
        have h5 := V_ge hc.dgs (m - 1) (by omega)
        rw [show m - 1 + 1 = m by omega] at h5
        have := P_pos (m - 1); omega
      go_wp2_with fail
      refine (up_any false _ m cap2 s e _ (hc.below hb0) (by omega) (by omega)).mono ?_
      rintro r w1 ⟨neg1, a1, n1, c1, rfl, hint1, hb1⟩
      obtain ⟨v, rfl, hn1, hv, hvtop, hn1k, hvV⟩ := int_pos hint1 (by simp only [sgn]; exact Int.mul_pos he0 (by omega))
      obtain ⟨k1, rfl⟩ : ∃ k1, n1 = k1 + 1 := ⟨n1 - 1, by omega⟩
      have HV := hide (show V v (k1 + 1) = V e m * Q s from hvV.symm)
      have hB1 := bthen hb0 hb1
      clear hint1 hvV g1 ht
      go_wp2_with fail
      refine (up_own false _ n cap s d _ (ha.below hB1) (by omega) (by omega)).mono ?_
      rintro r w2 ⟨g0, n2, C2, u0, neg2, rfl, hown, hu0, hu0top, hu0V, hn2k, hb2'⟩
      have hn12 : k1 + 1 ≤ n2 := by
        refine len_le hv.dgs hvtop ?_
        rw [unhide HV]
        have h5 : V e m * Q s ≤ V d n * Q s := Int.mul_le_mul_of_nonneg_right hge (by omega)
        have h6 := V_lt hu0 n2
        rw [hu0V] at h6
        omega
      have hn2b : n2 ≤ 900000100 := by omega
      have HU0 := hide hu0V
      obtain ⟨N, hN⟩ : ∃ N : Nat, (n2 : Int) + 2 - ((k1 : Int) + 1) = (N : Int) := ⟨n2 + 2 - (k1 + 1), by omega⟩
      have HNn := hide (show N + (k1 + 1) = n2 + 2 by omega)
      have hN1 : 0 < N := by omega
      have hsz2 := hb2'.size
      clear hu0V hes
      have hmk := run_make_row' (P := Try.prog) 22 96 (.int .u16 0) 2 Try.underlying22 Try.infoU16 rfl .i64 .i64 N (by omega) (by omega)
      go_wp2_with (at_builtin; refine wpList_append_two _ rfl _ _ 22 rfl w1.heap.size 96 Try.underlying22 Try.infoU16 (some ⟨g0, 0, none⟩) n2 C2 u0 rfl (hown.alloc _) w2.heap.size 2 rfl (by simp [go_sem]) (by simp [go_sem]) (by omega) (by simp; omega) ?_; intro g C w3 hown3 hb3)
      clear hmk hown
      have HN := hide hN
      clear hN
      obtain ⟨hOL, hbg⟩ := ownL_of hown3
      have hB3 : Below w1.heap.size w1 w3 := (hb2'.alloc hsz2 _).trans hb3
      have hg3 := hOL.lt
      have hsz3 := hB3.size
      obtain ⟨bv, ov, rfl, hbv, hcv⟩ := hv.at_ hn1
      have hvt := hcv k1 (by omega)
      have HI := hide (long_start hu0 hv.dgs hn1 hvtop (unhide HU0) (unhide HNn))
      clear hcv hown3 hb3 hb2'
      go_loopw [11] (fun jj wr => ∃ (J : Nat) (u o : Nat → Int), J ≤ N ∧ jj = .int .i64 ((J : Int) - 1) ∧ OwnL wr g 96 (n2 + 2) C u ∧ wr.rowIs w3.heap.size 96 N (fun j => .int .u16 (o j)) ∧ LongI (V d n * Q s) (V v (k1 + 1)) (n2 + 2) N J u o ∧ Below w1.heap.size w1 wr) (fun jj _ => (intOf jj + 1).toNat)
      case atStart => exact ⟨N, _, fun _ => 0, Nat.le_refl _, rfl, hOL.below (bl1 _ _), World.rowIs_made w3 (.int .u16 0) N 96, unhide HI, hB3.alloc hsz3 _⟩
      case round =>
        obtain ⟨J, u, o, hJ, rfl, hu, hrow, hI, hBr⟩ := hrel
        have hNn := unhide HNn
        by_cases hJ0 : J = 0
        · subst hJ0
          obtain ⟨du, do_, hA, hT⟩ := hI
          have huD := hu.dig du 0 (by omega) (by omega)
          simp only [Nat.sub_zero, Nat.zero_add] at huD
          have huD2 : Dig wr (some ⟨g, 0, none⟩) (n2 + 2) C u := huD
          have hrowD := rowDig hrow do_ (by omega)
          have HA := hide hA
          have HT := hide hT
          clear hA hT hrow hu
          go_wp2_with (first
            | (go_at_call 104; refine (of_int _ _ _ _ u _ huD2).mono ?_; rintro r w5 ⟨neg5, a5, n5, c5, rfl, hint5, hb5⟩)
            | (go_at_call 79; refine (down_int _ _ _ _ s (n2 + 2) _ _ hint5 (by omega) (by omega)).mono ?_; rintro r w6 ⟨neg6, a6, n6, c6, rfl, hint6, hb6⟩))
          go_ret2
          obtain ⟨z6, p1, p2, p3, p4, p5⟩ := hint6
          simp only [sgn] at p5
          have hQ := Q_pos s
          have f0 := unhide HA
          have f1 := unhide HT
          have f2 := unhide HV
          rw [Tp_zero] at f1
          rw [Tp_zero, show P 0 = 1 from rfl, Int.one_mul, f2] at f0
          rw [f2] at f1
          have f3 : V u (n2 + 2) = Q s * (V d n - V o N * V e m) := by
            rw [Int.mul_sub, Int.mul_comm (Q s) (V d n), f0]
            have : V e m * Q s * V o N = Q s * (V o N * V e m) := by rw [Int.mul_comm (V e m), Int.mul_assoc, Int.mul_comm (V e m)]
            omega
          have hu9 := V_nonneg du (n2 + 2)
          obtain ⟨R, hR⟩ : ∃ R, R = V d n - V o N * V e m := ⟨_, rfl⟩
          rw [← hR] at f3
          have f4 : V u (n2 + 2) / Q s = R := by rw [f3, Int.mul_ediv_cancel_left _ (by omega)]
          have hR0 : 0 ≤ R := by
            rcases Int.lt_or_le R 0 with h5 | h5
            · have h6 := Int.mul_le_mul_of_nonneg_left (show R ≤ -1 by omega) (show 0 ≤ Q s by omega)
              omega
            · exact h5
          have hR1 : R < V e m := by
            rcases Int.lt_or_le R (V e m) with h5 | h5
            · exact h5
            · have h6 := Int.mul_le_mul_of_nonneg_left h5 (show 0 ≤ Q s by omega)
              rw [Int.mul_comm (Q s) (V e m)] at h6
              omega
          have hz0 := V_nonneg p1.dgs n6
          have hpos : 0 < n6 → 1 ≤ V z6 n6 := fun h5 => by
            have h6 := V_ge p1.dgs (n6 - 1) (by omega)
            rw [show n6 - 1 + 1 = n6 by omega] at h6
            have := P_pos (n6 - 1); omega
          have hz : V z6 n6 = R ∧ (0 < n6 ↔ R ≠ 0) := by
            have hn0 : n6 = 0 → V z6 n6 = 0 := fun h5 => by rw [h5]; rfl
            rw [show (if false = true then -V u (n2 + 2) else V u (n2 + 2)) = V u (n2 + 2) from rfl, f4] at p5
            cases neg6
            · have h5 : R = V z6 n6 := p5
              refine ⟨h5.symm, fun h6 => by have := hpos h6; omega, fun h6 => ?_⟩
              rcases Nat.eq_zero_or_pos n6 with h7 | h7
              · have := hn0 h7; omega
              · exact h7
            · have h5 : R = -V z6 n6 := p5
              rcases Nat.eq_zero_or_pos n6 with h7 | h7
              · have := p3 h7; cases this
              · have := hpos h7; omega
          have hn6 : n6 ≤ n := len_le p1.dgs p2 (by rw [hz.1]; have := V_lt ha.dgs n; omega)
          have hs16 : s / 16 = 0 := by omega
          exact ⟨_, N, N, o, a6, n6, c6, R, rfl, hrowD.below (bthen hb5 hb6), by omega, hz.2, by omega, by rw [hR]; omega, hR0, hR1, bthen (bthen (hB1.trans (hBr.mono hB1.size)) hb5) hb6⟩
        · obtain ⟨j, rfl⟩ : ∃ j, J = j + 1 := ⟨J - 1, by omega⟩
          have e0 : ((j + 1 : Nat) : Int) - 1 = (j : Int) := by omega
          rw [e0]
          obtain ⟨du, do_, hA, hT⟩ := hI
          have y1 := hu.cell (show j + k1 < n2 + 2 by omega)
          have y2 := hu.cell (show j + (k1 + 1) < n2 + 2 by omega)
          have y3 : wr.cell? ⟨bv, ov + k1, none⟩ = some (.int .u16 (v k1)) := (hBr.cell (p := ⟨bv, ov + k1, none⟩) hbv).trans hvt
          have i4 : (j : Int) + ((k1 : Int) + 1) < (n2 : Int) + 2 := by omega
          have i5 : (j : Int) + (k1 : Int) < (n2 : Int) + 2 := by omega
          have b1 := du (j + k1)
          have b2 := du (j + (k1 + 1))
          have b3 := hv.dgs k1
          have b4 : 0 < v k1 := by have h9 : v k1 ≠ 0 := by simpa using hvtop
                                   omega
          clear e0
          have hL9 : n2 + 2 ≤ 1000000000 := by omega
          have hCge : n2 + 2 ≤ C := by obtain ⟨_, _, _, h3, _⟩ := hu; exact h3
          have hD : 0 < V v (k1 + 1) := by have := Tp_nonneg du (j + 1) (n2 + 2); omega
          obtain ⟨qs, hqs⟩ : ∃ qs, qs = Tp u j (n2 + 2) / V v (k1 + 1) := ⟨_, rfl⟩
          have hqs0 : 0 ≤ qs := by rw [hqs]; exact Int.ediv_nonneg (Tp_nonneg du _ _) (by omega)
          have hqm : qs * V v (k1 + 1) ≤ Tp u j (n2 + 2) := by rw [hqs]; exact Int.ediv_mul_le _ (by omega)
          obtain ⟨hh1, hh2⟩ := div_hat du hv.dgs (show 0 < k1 + 1 by omega) (show j + (k1 + 1) < n2 + 2 by omega) hT qs hqm hqs0
          rw [show j + (k1 + 1) - 1 = j + k1 by omega, show k1 + 1 - 1 = k1 by omega] at hh1
          have hor : bits BinOp.or IntKind.u64 (u (j + k1)) (u (j + (k1 + 1)) * 65536) = u (j + (k1 + 1)) * 65536 + u (j + k1) := by
            rw [or64' _ _ (u (j + (k1 + 1))) b1.1 b1.2 (by omega) b2.1 (by omega)]; omega
          have HX := hide (show IntKind.u64.wrap ((bits BinOp.or IntKind.u64 (u (j + k1)) (u (j + (k1 + 1)) * 65536)).tdiv (v k1)) = (u (j + (k1 + 1)) * 65536 + u (j + k1)) / v k1 by
            rw [hor, Int.tdiv_eq_ediv_of_nonneg (by omega), IntKind.wrap_u64]
            have g5 : 0 ≤ (u (j + (k1 + 1)) * 65536 + u (j + k1)) / v k1 := Int.ediv_nonneg (by omega) (by omega)
            have g6 : (u (j + (k1 + 1)) * 65536 + u (j + k1)) / v k1 ≤ u (j + (k1 + 1)) * 65536 + u (j + k1) := Int.ediv_le_self _ (by omega)
            omega)
          have HX2 := hide (show qs ≤ (u (j + (k1 + 1)) * 65536 + u (j + k1)) / v k1 from Int.le_ediv_of_mul_le b4 hh1)
          have HQ := hide hqs
          have HA := hide hA
          have HT := hide hT
          have HM := hide hqm
          clear hor hA hT hqs hqm hh1
          go_wp2_with fail
          all_goals
            go_loopw [13, 14] (fun q x wq => ∃ Y : Int, q = .int .u64 Y ∧ qs ≤ Y ∧ Y ≤ 65535 ∧ OwnL wq g 96 (n2 + 2) C u ∧ wq.rowIs w3.heap.size 96 N (fun j => .int .u16 (o j)) ∧ Below w1.heap.size w1 wq) (fun q _ _ => (intOf q).toNat)
            case atStart =>
              first
                | exact ⟨65535, rfl, by omega, Int.le_refl _, hu, hrow, hBr⟩
                | exact ⟨_, rfl, by rw [unhide HX]; exact unhide HX2, by assumption, hu, hrow, hBr⟩
            case round =>
              obtain ⟨Y, rfl, hY0, hY1, huq, hrowq, hBq⟩ := hrel
              have hYn : 0 ≤ Y := by omega
              have j1 : (j : Int) ≤ (n2 : Int) + 2 := by omega
              have j2 : (n2 : Int) + 2 ≤ (C : Int) := by omega
              have j3 : j < C := by omega
              have hvq := hv.below hBq
              have huD := huq.dig du j (by omega) (by omega)
              have dT := timesD_dgs hv.dgs (q := Y) ⟨hYn, by omega⟩ (k1 + 1)
              have dU : Dgs (fun i => u (j + i)) := fun i => du _
              have vT := times_V v Y (k1 + 1)
              have hcmp := trim_cmp dT dU (k1 + 1 + 1) (n2 + 2 - j)
              have eU : V (fun i => u (j + i)) (n2 + 2 - j) = Tp u j (n2 + 2) := rfl
              rw [vT, eU] at hcmp
              by_cases hle : V v (k1 + 1) * Y ≤ Tp u j (n2 + 2)
              · have t1 : cmpInt (V v (k1 + 1) * Y) (Tp u j (n2 + 2)) ≤ 0 := by unfold cmpInt; split <;> (try split) <;> omega
                have hYq : Y = qs := by
                  have h5 : Y ≤ Tp u j (n2 + 2) / V v (k1 + 1) := Int.le_ediv_of_mul_le hD (by rw [Int.mul_comm]; exact hle)
                  rw [← unhide HQ] at h5; omega
                have hm9 : trimN (timesD v Y (k1 + 1)) (k1 + 1 + 1) ≤ n2 + 2 - j := by
                  refine len_le dT (trimN_top _ _) ?_
                  rw [trimN_V, vT]
                  have := Tp_lt du j (n2 + 2); omega
                have HF := hide (show V (lessD (fun i => u (j + i)) (timesD v Y (k1 + 1)) (trimN (timesD v Y (k1 + 1)) (k1 + 1 + 1))) (n2 + 2 - j) = Tp u j (n2 + 2) - V v (k1 + 1) * Y by
                  rw [less_V dU dT _ _ hm9 (by rw [trimN_V, vT, eU]; exact hle), trimN_V, vT, eU])
                have dF := lessD_dgs dU dT (trimN (timesD v Y (k1 + 1)) (k1 + 1 + 1))
                have HCM := hide hcmp
                have HYQ := hide hYq
                clear hcmp vT eU hYq
                go_wp2_with fail
                refine (times_any (some ⟨bv, ov, none⟩) (k1 + 1) c1 v Y _ hvq (by omega) hYn (by omega)).mono ?_
                rintro r wt ⟨at_, rfl, hdt, hbt⟩
                have hBt := hBq.trans (hbt.mono hBq.size)
                have huDt := huD.below hbt
                have hB0 : Below wt.heap.size wt wt.drew := (Below.refl _ _).drew
                have tl := trimN_le (timesD v Y (k1 + 1)) (k1 + 1 + 1)
                have tl2 := trimN_le (fun i => u (j + i)) (n2 + 2 - j)
                go_wp2_with fail
                go_region_held3 (fun _ => True) (trivial)
                  (first
                    | (go_at_call 90; refine (compare_any _ _ _ _ _ _ (timesD v Y (k1 + 1)) (fun i => u (j + i)) _ ((hdt.take tl).below hD2) ((huDt.take tl2).below hD2)).mono ?_; rintro r wc3 ⟨rfl, hb3⟩; have hD3 := bthen hD2 hb3; rw [unhide HCM])
                    | (go_at_call 134; have hq := hD1; refine (trimmed_any _ _ _ (fun i => u (j + i)) _ (huDt.below hD1)).mono ?_; rintro r wc2 ⟨rfl, hb2⟩; have hD2 := bthen hD1 hb2)
                    | (go_at_call 134; refine (trimmed_any _ _ _ (timesD v Y (k1 + 1)) _ (hdt.below hB0)).mono ?_; rintro r wc1 ⟨rfl, hb1⟩; have hD1 := bthen hB0 hb1))
                have hBc := hBt.trans (hD3.mono hBt.size)
                have huc := (huq.below hbt).below hD3
                have hrowc : wc3.rowIs w3.heap.size 96 N (fun j => .int .u16 (o j)) := (hrowq.of_block (hbt.block _ hrowq.lt)).of_block (hD3.block _ (Nat.lt_of_lt_of_le hrowq.lt hbt.size))
                have hdtc := hdt.below hD3
                have huDc := huDt.below hD3
                have hE0 : Below wc3.heap.size wc3 wc3.drew := (Below.refl _ _).drew
                clear hb1 hb2 hb3 hD1 hD2 hD3 hB0
                go_wp2
                go_region_held3 (fun _ => True) (trivial)
                  (first
                    | (go_at_call 134; refine (trimmed_any _ _ _ (timesD v Y (k1 + 1)) _ (hdtc.below hE0)).mono ?_; rintro r wc4 ⟨rfl, hb4⟩; have hE4 := bthen hE0 hb4)
                    | (go_at_call 106; refine (less_dig _ _ (n2 + 2 - j) _ _ _ (fun i => u (j + i)) (timesD v Y (k1 + 1)) _ (huDc.below hE4) ((hdtc.take tl).below hE4) (by omega) (by omega)).mono ?_; rintro r wc5 ⟨a5, rfl, hd5, hb5⟩; have hE5 := bthen hE4 hb5; have hu5 := huc.below hE5; have hB5 := hBc.trans (hE5.mono hBc.size))
                    | (refine step_copy_dig (by rfl) _ _ 22 (by rfl) 96 Try.underlying22 Try.sizeU16 g j (n2 + 2) C _ _ _ u _ (by rfl) (by rfl) hu5 hd5 (by omega) w1.heap.size w1 hB5 hbg ?_; intro w6 hu6 hB6 ho6 hs6))
                have hrow6 : w6.rowIs w3.heap.size 96 N (fun j => .int .u16 (o j)) := (hrowc.of_block (hE5.block _ hrowc.lt)).of_block (ho6 _ (Nat.ne_of_gt hg3))
                have r1 := hrow6.cell (show j < N by omega)
                have r2 := hrow6.frozen j
                have jN : (j : Int) < (N : Int) := by omega
                have hW16 : IntKind.u16.wrap Y = Y := by rw [wrap16]; omega
                have HLN := hide (long_next (show j < n2 + 2 by omega) (show j < N by omega) hD (unhide HA) du do_ dF ((unhide HYQ).trans (unhide HQ)) hYn (by omega) (unhide HF))
                have HR6 := hide hrow6
                clear hrow6 hrowc hu5 hd5 hb5 hE5 hE4 hb4 hE0 hrowq huq huc ho6
                go_wp2
                go_roundw
                case rel => exact ⟨j, _, _, by omega, by go_num, hu6.of_block (Go.Deep.blk_setCell_other _ _ _ _ (Nat.ne_of_lt hg3)), row_upd (unhide HR6) j (by first | rfl | exact hW16), unhide HLN, hB6.setCell hsz3 _⟩
                case measure => simp [intOf]; try omega
              · have t1 : ¬ cmpInt (V v (k1 + 1) * Y) (Tp u j (n2 + 2)) ≤ 0 := by
                  unfold cmpInt; rw [if_neg (by omega), if_pos (by omega)]; omega
                have hYq : qs < Y := by
                  rcases Int.lt_or_le qs Y with h5 | h5
                  · exact h5
                  · have h6 := Int.mul_le_mul_of_nonneg_right h5 (show 0 ≤ V v (k1 + 1) by omega)
                    have h7 := unhide HM
                    rw [Int.mul_comm Y] at h6; omega
                have HCM := hide hcmp
                clear hcmp vT eU
                go_wp2_with fail
                refine (times_any (some ⟨bv, ov, none⟩) (k1 + 1) c1 v Y _ hvq (by omega) hYn (by omega)).mono ?_
                rintro r wt ⟨at_, rfl, hdt, hbt⟩
                have hBt := hBq.trans (hbt.mono hBq.size)
                have huDt := huD.below hbt
                have hB0 : Below wt.heap.size wt wt.drew := (Below.refl _ _).drew
                have tl := trimN_le (timesD v Y (k1 + 1)) (k1 + 1 + 1)
                have tl2 := trimN_le (fun i => u (j + i)) (n2 + 2 - j)
                go_wp2_with fail
                go_region_held3 (fun _ => True) (trivial)
                  (first
                    | (go_at_call 90; refine (compare_any _ _ _ _ _ _ (timesD v Y (k1 + 1)) (fun i => u (j + i)) _ ((hdt.take tl).below hD2) ((huDt.take tl2).below hD2)).mono ?_; rintro r wc3 ⟨rfl, hb3⟩; have hD3 := bthen hD2 hb3; rw [unhide HCM])
                    | (go_at_call 134; have hq := hD1; refine (trimmed_any _ _ _ (fun i => u (j + i)) _ (huDt.below hD1)).mono ?_; rintro r wc2 ⟨rfl, hb2⟩; have hD2 := bthen hD1 hb2)
                    | (go_at_call 134; refine (trimmed_any _ _ _ (timesD v Y (k1 + 1)) _ (hdt.below hB0)).mono ?_; rintro r wc1 ⟨rfl, hb1⟩; have hD1 := bthen hB0 hb1))
                have hBc := hBt.trans (hD3.mono hBt.size)
                have huc := (huq.below hbt).below hD3
                have hrowc : wc3.rowIs w3.heap.size 96 N (fun j => .int .u16 (o j)) := (hrowq.of_block (hbt.block _ hrowq.lt)).of_block (hD3.block _ (Nat.lt_of_lt_of_le hrowq.lt hbt.size))
                clear hb1 hb2 hb3 hD1 hD2 hD3 hB0
                go_wp2
                go_roundw
                case rel => exact ⟨Y - 1, by go_num, by omega, by omega, huc, hrowc, hBc⟩
                case measure => simp [intOf]; try omega
end Go.Proofs.Ytgmnknmjainabaa

namespace Go.Proofs.Ytgmnknmjainabaa
set_option linter.unusedVariables false
set_option linter.unusedSimpArgs false
set_option linter.unnecessarySimpa false
open Go.RowKit

theorem over_any (a c : Option Addr) (n m cap cap2 : Nat) (d e : Nat → Int) (w : World) (ha : Dig w a n cap d) (hc : Dig w c m cap2 e) (hn : n ≤ 900000000) (h1 : n = 0 ∨ d (n - 1) ≠ 0) (h2 : m = 0 ∨ e (m - 1) ≠ 0) (hpos : 0 < V e m) :
    Calls Try.prog 133 #[.slice a n cap, .slice c m cap2] w (OverAns w d e n m) := by
  by_cases h : m ≤ 3 ∨ V d n < V e m
  · exact over_small a c n m cap cap2 d e w ha hc (by omega) h1 h2 hpos h
  · exact over_long a c n m cap cap2 d e w ha hc hn h1 h2 (by omega) (by omega)

theorem floor_any (neg neg2 : Bool) (a c : Option Addr) (n m cap cap2 k k2 : Nat) (x y : Int) (w : World) (h1 : IntAt w neg a n cap k x) (h2 : IntAt w neg2 c m cap2 k2 y) (hk : k ≤ 900000000) (hy : 0 < y) :
    Calls Try.prog 103 #[.agg #[.bool neg, .slice a n cap], .agg #[.bool neg2, .slice c m cap2]] w (FloorAns w k (x / y)) := by
  obtain ⟨e, rfl, f0, f1, f2, f3, rfl⟩ := int_pos h2 hy
  obtain ⟨d, g1, g2, g3, g4, rfl⟩ := h1
  exact (floor_core neg a c n m cap cap2 d e w g1 f1 (by omega) f0 (fun w' p q => over_any a c n m cap cap2 d e w' p q (by omega) g2 f2 hy)).mono
    fun _ _ ⟨n1, n2, n3, n4, q1, q2, q3⟩ => ⟨n1, n2, n3, n4, q1, q2.mono (by omega), q3⟩
end Go.Proofs.Ytgmnknmjainabaa

namespace Go.Proofs.Ytgmnknmjainabaa
set_option linter.unusedVariables false
set_option linter.unusedSimpArgs false
set_option linter.unnecessarySimpa false
open Go.RowKit
attribute [local go_sem ↓] Go.wp_at_zero Go.wp_at_succ

set_option maxRecDepth 100000 in
set_option maxHeartbeats 2000000 in
theorem spanAdd_ok (w : World) (s t : Sp) (d e d' e' : Nat → Int) (k : Nat) (lo hi lo' hi' : Int) (hs : SpDig w s d e) (ht : SpDig w t d' e') (c1 : chkE s d e = 0) (c2 : chkE t d' e' = 0) (hbt : s.bits = t.bits) (ps : SpAt w s k lo hi) (pt : SpAt w t k lo' hi')
    (hk : k ≤ 249) (l1 : lo ≤ hi) (l2 : lo' ≤ hi') (b1 : 1 ≤ s.bits) (b2 : s.bits ≤ 120) :
    Calls Try.prog 27 #[.agg #[.bool s.ln, .slice s.la s.lN s.lc, .bool s.hn, .slice s.ha s.hN s.hc, .int .i64 s.bits], .agg #[.bool t.ln, .slice t.la t.lN t.lc, .bool t.hn, .slice t.ha t.hN t.hc, .int .i64 t.bits]] w (PairAns w s.bits (k + 1) (lo + lo') (hi + hi') 0) := by
  have HM := hide (fun p1 p2 B W cap hS hF => made_ok_Add p1 p2 B W (pr s t) (pr d d') (pr e e') 2 cap (by omega) hS (fun z hz => by
    have e1 : (fun j => chkE (pr s t j) (pr d d' j) (pr e e' j)) = (fun j => pr (chkE s d e) (chkE t d' e') j) := by
      funext j; unfold pr; split <;> rfl
    have e2 : (fun j => (pr s t j).bits) = (fun j => pr s.bits t.bits j) := by
      funext j; unfold pr; split <;> rfl
    rw [e1, e2] at hz
    rw [flt2 hz]; simp [fltE2, c1, c2, hbt]) s.bits (k + 1) (lo + lo') (hi + hi') hF (by omega) (by omega) b1 b2)
  have HS := hide (fun W hS hT => spans2 W s t d e d' e' 26 hS hT)
  clear c1 c2 hbt b1 b2 l1 l2
  go_enter Try.func27, Try.ntmps27
  go_wp2_with fail
  obtain ⟨W, hW⟩ : ∃ W, W = ((w.alloc (.cells #[.bool s.ln, .slice s.la s.lN s.lc, .bool s.hn, .slice s.ha s.hN s.hc, .int .i64 s.bits] 26)).alloc (.cells #[.bool t.ln, .slice t.la t.lN t.lc, .bool t.hn, .slice t.ha t.hN t.hc, .int .i64 t.bits] 26)).alloc (.cells #[.bool false, .slice none 0 0, .bool false, .slice none 0 0, .int .i64 0] 26) := ⟨_, rfl⟩
  have s3 : W.heap.size = w.heap.size + 1 + 1 + 1 := by rw [hW]; simp
  have hBW : Below w.heap.size w W := by rw [hW]; exact bl3 _ _ _ _
  have a0 : W.cell? ⟨w.heap.size, 0, none⟩ = some (.bool s.ln) := by rw [hW]; simp [go_sem]
  have a1 : W.cell? ⟨w.heap.size, 1, none⟩ = some (.slice s.la s.lN s.lc) := by rw [hW]; simp [go_sem]
  have a2 : W.cell? ⟨w.heap.size, 2, none⟩ = some (.bool s.hn) := by rw [hW]; simp [go_sem]
  have a3 : W.cell? ⟨w.heap.size, 3, none⟩ = some (.slice s.ha s.hN s.hc) := by rw [hW]; simp [go_sem]
  have a4 : W.cell? ⟨w.heap.size, 4, none⟩ = some (.int .i64 s.bits) := by rw [hW]; simp [go_sem]
  have g0 : W.cell? ⟨w.heap.size + 1, 0, none⟩ = some (.bool t.ln) := by rw [hW]; simp [go_sem]
  have g1 : W.cell? ⟨w.heap.size + 1, 1, none⟩ = some (.slice t.la t.lN t.lc) := by rw [hW]; simp [go_sem]
  have g2 : W.cell? ⟨w.heap.size + 1, 2, none⟩ = some (.bool t.hn) := by rw [hW]; simp [go_sem]
  have g3 : W.cell? ⟨w.heap.size + 1, 3, none⟩ = some (.slice t.ha t.hN t.hc) := by rw [hW]; simp [go_sem]
  have g4 : W.cell? ⟨w.heap.size + 1, 4, none⟩ = some (.int .i64 t.bits) := by rw [hW]; simp [go_sem]
  have r0 : W.cell? ⟨w.heap.size + 1 + 1, 0, none⟩ = some (.bool false) := by rw [hW]; simp [go_sem]
  have r1 : W.cell? ⟨w.heap.size + 1 + 1, 1, none⟩ = some (.slice none 0 0) := by rw [hW]; simp [go_sem]
  have r2 : W.cell? ⟨w.heap.size + 1 + 1, 2, none⟩ = some (.bool false) := by rw [hW]; simp [go_sem]
  have r3 : W.cell? ⟨w.heap.size + 1 + 1, 3, none⟩ = some (.slice none 0 0) := by rw [hW]; simp [go_sem]
  have r4 : W.cell? ⟨w.heap.size + 1 + 1, 4, none⟩ = some (.int .i64 0) := by rw [hW]; simp [go_sem]
  have r5 : ∀ o, W.frozen? ⟨w.heap.size + 1 + 1, o, none⟩ = false := by intro o; rw [hW]; simp [go_sem]
  rw [← hW, ← s3]
  clear hW
  have n0 : w.heap.size < W.heap.size := by omega
  have n1 : w.heap.size + 1 < W.heap.size := by omega
  have n2 : w.heap.size + 1 + 1 < W.heap.size := by omega
  refine (unhide HM _ _ _ _ _ (unhide HS W (hs.below hBW) (ht.below hBW)) (fun w' hB => add1_int w' _ _ s t k lo hi lo' hi' ((ps.below hBW).below (bthen (bl1 _ _) hB)) ((pt.below hBW).below (bthen (bl1 _ _) hB)) (by omega)
    (((bthen (bl1 _ _) hB).cell (p := ⟨w.heap.size, 0, none⟩) n0).trans a0) (((bthen (bl1 _ _) hB).cell (p := ⟨w.heap.size, 1, none⟩) n0).trans a1) (((bthen (bl1 _ _) hB).cell (p := ⟨w.heap.size, 2, none⟩) n0).trans a2) (((bthen (bl1 _ _) hB).cell (p := ⟨w.heap.size, 3, none⟩) n0).trans a3) (((bthen (bl1 _ _) hB).cell (p := ⟨w.heap.size, 4, none⟩) n0).trans a4)
    (((bthen (bl1 _ _) hB).cell (p := ⟨w.heap.size + 1, 0, none⟩) n1).trans g0) (((bthen (bl1 _ _) hB).cell (p := ⟨w.heap.size + 1, 1, none⟩) n1).trans g1) (((bthen (bl1 _ _) hB).cell (p := ⟨w.heap.size + 1, 2, none⟩) n1).trans g2) (((bthen (bl1 _ _) hB).cell (p := ⟨w.heap.size + 1, 3, none⟩) n1).trans g3) (((bthen (bl1 _ _) hB).cell (p := ⟨w.heap.size + 1, 4, none⟩) n1).trans g4))).mono ?_
  rintro r w1 ⟨u, rfl, hub, hup, hb1⟩
  have hB1 : Below W.heap.size W w1 := bthen (bl1 _ _) hb1
  have q0 := (hB1.cell (p := ⟨w.heap.size + 1 + 1, 0, none⟩) n2).trans r0
  have q1 := (hB1.cell (p := ⟨w.heap.size + 1 + 1, 1, none⟩) n2).trans r1
  have q2 := (hB1.cell (p := ⟨w.heap.size + 1 + 1, 2, none⟩) n2).trans r2
  have q3 := (hB1.cell (p := ⟨w.heap.size + 1 + 1, 3, none⟩) n2).trans r3
  have q4 := (hB1.cell (p := ⟨w.heap.size + 1 + 1, 4, none⟩) n2).trans r4
  have q5 : ∀ o, w1.frozen? ⟨w.heap.size + 1 + 1, o, none⟩ = false := fun o => (hB1.frozen (p := ⟨w.heap.size + 1 + 1, o, none⟩) n2).trans (r5 o)
  have HB := hide hub
  clear hub
  go_wp2_with fail
  refine bodyPost_ret (v := .tuple #[.agg #[.bool u.ln, .slice u.la u.lN u.lc, .bool u.hn, .slice u.ha u.hN u.hc, .int .i64 u.bits], .int .i64 0]) (by simp [results, Try.results27, go_sem, q0, q1, q2, q3, q4]) rfl ⟨u, rfl, unhide HB, ?_, ?_⟩
  · exact SpAt.put5 hup q0 q1 q2 q3 q4 _ _ _ _ _
  · exact set5 (bthen hBW hB1) (by omega) _ _ _ _ _

set_option maxRecDepth 100000 in
set_option maxHeartbeats 4000000 in
theorem spanBegun_any (w : World) : Calls Try.prog 24 #[] w fun r w' => r = .returned (.bool true) ∧ Below w.heap.size w w' := by
  have e1 : (1 : Int) * Q 8 / 3 = 85 := by decide
  have e2 : -(-((1 : Int) * Q 8) / 3) = 86 := by decide
  have HO := hide (fun W => spanOf_ok 1 3 8 W (by omega) (by omega) (by omega) (by omega) (by omega) (by omega))
  rw [e1, e2] at HO
  clear e1 e2
  go_enter Try.func24, Try.ntmps24
  go_wp2_with fail
  refine (unhide HO _).mono ?_
  rintro r w1 ⟨s, rfl, hsb, hsp, hb1⟩
  obtain ⟨dd, ee, hdig, hchk⟩ := chk_small hsp (by omega) (by omega) (by omega) (by omega)
  have HB := hide hsb
  have HC := hide hchk
  have hs1 : 1 ≤ s.bits := by omega
  have hs2 : s.bits ≤ 120 := by omega
  clear hsb hchk
  go_wp2_with fail
  refine (spanAdd_ok _ s s dd ee dd ee 100 85 86 85 86 (hdig.below (bl1 _ _)) (hdig.below (bl1 _ _)) (unhide HC) (unhide HC) rfl (hsp.below (bl1 _ _)) (hsp.below (bl1 _ _)) (by omega) (by omega) (by omega) hs1 hs2).mono ?_
  rintro r w2 ⟨t, rfl, htb, htp, hb2⟩
  have hB2 : Below w.heap.size w w2 := bthen (balloc hb1 _) hb2
  have hB12 : Below w1.heap.size w1 w2 := bthen (bl1 _ _) hb2
  have HB2 := hide htb
  clear htb
  obtain ⟨hsz2, hcell2, hfz2⟩ := near (w1.heap.size + 1) (by simp) hb2
  have z1 := Nat.lt_of_lt_of_le (Nat.lt_succ_self w1.heap.size) hsz2
  have a0 : w2.cell? ⟨w1.heap.size, 0, none⟩ = some (.bool s.ln) := by simp [hcell2]
  have a1 : w2.cell? ⟨w1.heap.size, 1, none⟩ = some (.slice s.la s.lN s.lc) := by simp [hcell2]
  have a2 : w2.cell? ⟨w1.heap.size, 2, none⟩ = some (.bool s.hn) := by simp [hcell2]
  have a3 : w2.cell? ⟨w1.heap.size, 3, none⟩ = some (.slice s.ha s.hN s.hc) := by simp [hcell2]
  go_wp2_with fail
  obtain ⟨W, hW⟩ : ∃ W, W = w2.alloc (.cells #[.bool t.ln, .slice t.la t.lN t.lc, .bool t.hn, .slice t.ha t.hN t.hc, .int .i64 t.bits] 26) := ⟨_, rfl⟩
  have hBW : Below w2.heap.size w2 W := by rw [hW]; exact bl1 _ _
  have g0 : W.cell? ⟨w2.heap.size, 0, none⟩ = some (.bool t.ln) := by rw [hW]; simp
  have g1 : W.cell? ⟨w2.heap.size, 1, none⟩ = some (.slice t.la t.lN t.lc) := by rw [hW]; simp
  have hl2 : w2.heap.size < W.heap.size := by rw [hW]; simp
  have hl1 : w1.heap.size < W.heap.size := Nat.lt_trans z1 hl2
  have HS := hide ((hsp.below hB12).below hBW)
  have HT := hide (htp.below hBW)
  have HK := hide (show ∀ w', Below W.heap.size W w' → (w'.cell? ⟨w1.heap.size, 0, none⟩ = some (.bool s.ln) ∧ w'.cell? ⟨w1.heap.size, 1, none⟩ = some (.slice s.la s.lN s.lc) ∧ w'.cell? ⟨w1.heap.size, 2, none⟩ = some (.bool s.hn) ∧ w'.cell? ⟨w1.heap.size, 3, none⟩ = some (.slice s.ha s.hN s.hc) ∧ w'.cell? ⟨w2.heap.size, 0, none⟩ = some (.bool t.ln) ∧ w'.cell? ⟨w2.heap.size, 1, none⟩ = some (.slice t.la t.lN t.lc)) from fun w' hB =>
    ⟨(hB.cell (p := ⟨w1.heap.size, 0, none⟩) hl1).trans ((hBW.cell (p := ⟨w1.heap.size, 0, none⟩) z1).trans a0), (hB.cell (p := ⟨w1.heap.size, 1, none⟩) hl1).trans ((hBW.cell (p := ⟨w1.heap.size, 1, none⟩) z1).trans a1), (hB.cell (p := ⟨w1.heap.size, 2, none⟩) hl1).trans ((hBW.cell (p := ⟨w1.heap.size, 2, none⟩) z1).trans a2), (hB.cell (p := ⟨w1.heap.size, 3, none⟩) hl1).trans ((hBW.cell (p := ⟨w1.heap.size, 3, none⟩) z1).trans a3), (hB.cell (p := ⟨w2.heap.size, 0, none⟩) hl2).trans g0, (hB.cell (p := ⟨w2.heap.size, 1, none⟩) hl2).trans g1⟩)
  have hBw : Below w.heap.size w W := bthen hB2 hBW
  have f1 : cmpInt 85 85 = 0 := rfl
  have f2 : cmpInt 86 86 = 0 := rfl
  have f3 : cmpInt (85 + 85) 170 = 0 := rfl
  have F1 := hide f1
  have F2 := hide f2
  have F3 := hide f3
  obtain ⟨k0, k1, k2, k3, k4, k5⟩ := unhide HK W (Below.refl _ _)
  rw [← hW]
  clear hW a0 a1 a2 a3 g0 g1 hcell2 hfz2 hb2 hb1 hdig hsp htp hBW hB2 hB12 HO f1 f2 f3
  go_region_held3 (fun w' => w'.cell? ⟨w1.heap.size, 0, none⟩ = some (.bool s.ln) ∧ w'.cell? ⟨w1.heap.size, 1, none⟩ = some (.slice s.la s.lN s.lc) ∧ w'.cell? ⟨w1.heap.size, 2, none⟩ = some (.bool s.hn) ∧ w'.cell? ⟨w1.heap.size, 3, none⟩ = some (.slice s.ha s.hN s.hc) ∧ w'.cell? ⟨w2.heap.size, 0, none⟩ = some (.bool t.ln) ∧ w'.cell? ⟨w2.heap.size, 1, none⟩ = some (.slice t.la t.lN t.lc)) (exact unhide HK _ (by first | exact (Below.refl _ _).drew | exact hB8 | exact hB7 | exact hB6 | exact hB5 | exact hB4 | exact hB3))
    (first
      | (go_at_call 62; have hq := hB6; refine (numOf_int 170 _ (by decide) (by decide)).mono ?_; rintro r w7 ⟨neg7, a7, n7, c7, rfl, hint7, hb7⟩; have hB7 := bthen hB6 hb7)
      | (go_at_call 62; have hq := hB4; refine (numOf_int 86 _ (by decide) (by decide)).mono ?_; rintro r w5 ⟨neg5, a5, n5, c5, rfl, hint5, hb5⟩; have hB5 := bthen hB4 hb5)
      | (go_at_call 62; refine (numOf_int 85 _ (by decide) (by decide)).mono ?_; rintro r w3 ⟨neg3, a3, n3, c3, rfl, hint3, hb3⟩; have hB3 : Below W.heap.size W w3 := bthen (Below.refl _ _).drew hb3)
      | (go_at_call 33; have hq := hB7; refine (cmp_int _ _ _ _ _ _ _ _ 101 4 (85 + 85) 170 _ ((unhide HT).lo.below hB7) hint7).mono ?_; rintro r w8 ⟨rfl, hb8⟩; have hB8 := bthen hB7 hb8; rw [unhide F3])
      | (go_at_call 33; have hq := hB5; refine (cmp_int _ _ _ _ _ _ _ _ 100 4 86 86 _ ((unhide HS).hi.below hB5) hint5).mono ?_; rintro r w6 ⟨rfl, hb6⟩; have hB6 := bthen hB5 hb6; rw [unhide F2])
      | (go_at_call 33; refine (cmp_int _ _ _ _ _ _ _ _ 100 4 85 85 _ ((unhide HS).lo.below hB3) hint3).mono ?_; rintro r w4 ⟨rfl, hb4⟩; have hB4 := bthen hB3 hb4; rw [unhide F1]))
  go_wp2
  go_ret
  exact ⟨rfl, bthen hBw hB8⟩
end Go.Proofs.Ytgmnknmjainabaa

namespace Go.Proofs.Ytgmnknmjainabaa
set_option linter.unusedVariables false
set_option linter.unusedSimpArgs false
set_option linter.unnecessarySimpa false
open Go.RowKit
attribute [local go_sem ↓] Go.wp_at_zero Go.wp_at_succ

theorem noc_new' (w : World) (B : Nat) (hB : w.heap.size = B) (T : TypeId) : NoC (w.alloc (.cells #[.bool false, .slice none 0 0, .bool false, .slice none 0 0, .int .i64 0] T)) B := by subst hB; exact noc_new w T

end Go.Proofs.Ytgmnknmjainabaa

namespace Go.Proofs.Ytgmnknmjainabaa
set_option linter.unusedVariables false
set_option linter.unusedSimpArgs false
set_option linter.unnecessarySimpa false
open Go.RowKit
attribute [local go_sem ↓] Go.wp_at_zero Go.wp_at_succ

theorem downZ_le {x y k : Int} (h : x ≤ y) : downZ x k ≤ downZ y k := by
  unfold downZ
  split
  · exact Int.ediv_le_ediv (by have := Q_pos k.toNat; omega) h
  · exact Int.mul_le_mul_of_nonneg_right h (by have := Q_pos (-k).toNat; omega)
theorem downZ_ceil (x k : Int) : downZ x k ≤ -(downZ (-x) k) := by
  unfold downZ
  split
  · have hq := Q_pos k.toNat
    have h1 := Int.mul_ediv_add_emod x (Q k.toNat)
    have h2 := Int.mul_ediv_add_emod (-x) (Q k.toNat)
    have h3 := Int.emod_nonneg x (show Q k.toNat ≠ 0 by omega)
    have h4 := Int.emod_nonneg (-x) (show Q k.toNat ≠ 0 by omega)
    generalize x / Q k.toNat = a at *
    generalize -x / Q k.toNat = b at *
    generalize x % Q k.toNat = c at *
    generalize -x % Q k.toNat = e at *
    rcases Int.lt_or_le (-b) a with h | h
    · exfalso
      have h5 : Q k.toNat * (a + b) = Q k.toNat * a + Q k.toNat * b := Int.mul_add _ _ _
      have h6 : Q k.toNat * 1 ≤ Q k.toNat * (a + b) := Int.mul_le_mul_of_nonneg_left (by omega) (by omega)
      omega
    · exact h
  · rw [Int.neg_mul, Int.neg_neg]; exact Int.le_refl _
theorem least_le_most (z : Nat → Int) (n : Nat) : leastZ z n ≤ mostZ z n := by
  have h : ∀ n, leastZ z n ≤ z 0 ∧ z 0 ≤ mostZ z n := by
    intro n
    induction n with
    | zero => exact ⟨Int.le_refl _, Int.le_refl _⟩
    | succ n ih =>
      refine ⟨?_, ?_⟩
      · simp only [leastZ]; split <;> omega
      · simp only [mostZ]; split <;> omega
  have := h n
  omega
theorem minZ_le (a b c e : Int) (h : a ≤ c) : minZ a b ≤ maxZ c e := by
  unfold minZ maxZ; split <;> split <;> omega

theorem flt0 {x y b1 b2 : Int} (h : fltE2 x y b1 b2 = 0) : x = 0 ∧ y = 0 ∧ b1 = b2 := by
  unfold fltE2 at h
  by_cases hx : x = 0
  · by_cases hy : y = 0
    · by_cases hb : b1 = b2
      · exact ⟨hx, hy, hb⟩
      · simp [hx, hy, hb] at h
    · simp [hx, hy] at h
  · simp [hx] at h

end Go.Proofs.Ytgmnknmjainabaa

namespace Go.Proofs.Ytgmnknmjainabaa
set_option linter.unusedVariables false
set_option linter.unusedSimpArgs false
set_option linter.unnecessarySimpa false
open Go.RowKit
attribute [local go_sem ↓] Go.wp_at_zero Go.wp_at_succ

/-- A number lies in a block. -/
structure NmC (w : World) (B : Nat) (x : Nm) : Prop where
  c0 : w.cell? ⟨B, 0, none⟩ = some (.bool x.neg)
  c1 : w.cell? ⟨B, 1, none⟩ = some (.slice x.a x.n x.cap)
theorem NmC.lt {w : World} {B : Nat} {x : Nm} (h : NmC w B x) : B < w.heap.size := World.block_lt_of_cell? w ⟨B, 0, none⟩ h.c0
theorem NmC.below {w w' : World} {B : Nat} {x : Nm} (h : NmC w B x) (hb : Below w.heap.size w w') : NmC w' B x :=
  ⟨(hb.cell (p := ⟨B, 0, none⟩) h.lt).trans h.c0, (hb.cell (p := ⟨B, 1, none⟩) h.lt).trans h.c1⟩
theorem nmc_new (w : World) (x : Nm) (T : TypeId) : NmC (w.alloc (.cells #[.bool x.neg, .slice x.a x.n x.cap] T)) w.heap.size x := ⟨by simp, by simp⟩
/-- The number 0 in a block that may be written. -/
structure NoI (w : World) (B : Nat) : Prop where
  c0 : w.cell? ⟨B, 0, none⟩ = some (.bool false)
  c1 : w.cell? ⟨B, 1, none⟩ = some (.slice none 0 0)
  fz : ∀ o, w.frozen? ⟨B, o, none⟩ = false
theorem NoI.lt {w : World} {B : Nat} (h : NoI w B) : B < w.heap.size := World.block_lt_of_cell? w ⟨B, 0, none⟩ h.c0
theorem NoI.below {w w' : World} {B : Nat} (h : NoI w B) (hb : Below w.heap.size w w') : NoI w' B :=
  ⟨(hb.cell (p := ⟨B, 0, none⟩) h.lt).trans h.c0, (hb.cell (p := ⟨B, 1, none⟩) h.lt).trans h.c1, fun o => (hb.frozen (p := ⟨B, o, none⟩) h.lt).trans (h.fz o)⟩
theorem set2 {B B' : Nat} {a w : World} (h : Below B a w) (hB : B ≤ B') (u0 u1 : Value) : Below B a ((w.setCell ⟨B', 0, none⟩ u0).setCell ⟨B', 1, none⟩ u1) :=
  (h.setCell (p := ⟨B', 0, none⟩) hB u0).setCell (p := ⟨B', 1, none⟩) hB u1

/-- A number, as a call answers it. -/
def IntAns (w : World) (k : Nat) (z : Int) (r : Ending) (w' : World) : Prop :=
  ∃ neg' a' n' cap', r = .returned (.agg #[.bool neg', .slice a' n' cap']) ∧ IntAt w' neg' a' n' cap' k z ∧ Below w.heap.size w w'
theorem IntAns.mono {w : World} {k k' : Nat} {z : Int} {r : Ending} {w' : World} (h : IntAns w k z r w') (hk : k ≤ k') : IntAns w k' z r w' := by
  obtain ⟨n1, n2, n3, n4, h1, h2, h3⟩ := h
  exact ⟨n1, n2, n3, n4, h1, h2.mono hk, h3⟩

end Go.Proofs.Ytgmnknmjainabaa

namespace Go.Proofs.Ytgmnknmjainabaa
set_option linter.unusedVariables false
set_option linter.unusedSimpArgs false
set_option linter.unnecessarySimpa false
open Go.RowKit
attribute [local go_sem ↓] Go.wp_at_zero Go.wp_at_succ

theorem noi_new (w : World) (T : TypeId) : NoI (w.alloc (.cells #[.bool false, .slice none 0 0] T)) w.heap.size := ⟨by simp, by simp, fun o => by simp [go_sem]⟩

end Go.Proofs.Ytgmnknmjainabaa

namespace Go.Proofs.Ytgmnknmjainabaa
set_option linter.unusedVariables false
set_option linter.unusedSimpArgs false
set_option linter.unnecessarySimpa false
open Go.RowKit
attribute [local go_sem ↓] Go.wp_at_zero Go.wp_at_succ

/-- A variable that may be written. -/
def FzP (w : World) (p : Value) : Prop := ∀ B, p = .pointer (some ⟨B, 0, none⟩) → ∀ o, w.frozen? ⟨B, o, none⟩ = false

/-- The greatest number whose square is not more. -/
def RootOf (x z : Int) : Prop := 0 ≤ z ∧ (x ≤ 0 → z = 0) ∧ (0 < x → z * z ≤ x ∧ x < (z + 1) * (z + 1))

theorem IntAt.fit {w : World} {neg : Bool} {a : Option Addr} {n cap k K : Nat} {z : Int} (h : IntAt w neg a n cap k z) (h0 : 0 ≤ z) (hz : z < P K) : IntAt w neg a n cap K z := by
  obtain ⟨d, h1, h2, h3, h4, h5⟩ := h
  refine ⟨d, h1, h2, h3, ?_, h5⟩
  refine len_le h1.dgs h2 ?_
  have := V_nonneg h1.dgs n
  cases neg
  · simp [sgn] at h5; omega
  · simp [sgn] at h5; have := P_pos K; omega

theorem frozen_set' (w : World) (a b : Addr) (v : Value) : (w.setCell a v).frozen? b = w.frozen? b := by simp [go_sem]
theorem i64_id (n : Int) (h1 : -9223372036854775808 ≤ n) (h2 : n ≤ 9223372036854775807) : IntKind.i64.wrap n = n := by rw [IntKind.wrap_i64]; omega

theorem sign_int (neg : Bool) (a : Option Addr) (n cap k : Nat) (x : Int) (w : World) (h : IntAt w neg a n cap k x) :
    Calls Try.prog 40 #[.agg #[.bool neg, .slice a n cap]] w fun r w' => r = .returned (.int .i64 (cmpInt x 0)) ∧ Below w.heap.size w w' := by
  obtain ⟨d, h1, h2, h3, h4, h5⟩ := h
  have e : signZ neg n = cmpInt x 0 := by
    have hv := V_nonneg h1.dgs n
    unfold signZ cmpInt
    by_cases hn : n = 0
    · subst hn
      have : x = 0 := by rw [h5]; cases neg <;> simp [sgn, V]
      subst this; simp
    · have h6 := V_ge h1.dgs (n - 1) (by omega)
      rw [show n - 1 + 1 = n by omega] at h6
      have := P_pos (n - 1)
      rw [if_neg hn]
      cases neg
      · simp [sgn] at h5
        rw [if_neg (by simp), if_neg (by omega), if_pos (by omega)]
      · simp [sgn] at h5
        rw [if_pos rfl, if_pos (by omega)]
  exact (sign_any neg a n cap w h1.room).mono fun r w' ⟨p1, p2⟩ => ⟨by rw [p1, e], p2⟩

end Go.Proofs.Ytgmnknmjainabaa

namespace Go.Proofs.Ytgmnknmjainabaa
set_option linter.unusedVariables false
set_option linter.unusedSimpArgs false
set_option linter.unnecessarySimpa false
open Go.RowKit
attribute [local go_sem ↓] Go.wp_at_zero Go.wp_at_succ

theorem ceil_any (neg neg2 : Bool) (a c : Option Addr) (n m cap cap2 k k2 : Nat) (x y : Int) (w : World) (h1 : IntAt w neg a n cap k x) (h2 : IntAt w neg2 c m cap2 k2 y) (hk : k ≤ 800000000) (hy : 0 < y) :
    Calls Try.prog 123 #[.agg #[.bool neg, .slice a n cap], .agg #[.bool neg2, .slice c m cap2]] w (FloorAns w k (-(-x / y))) :=
  ceil_core neg neg2 a c n m cap cap2 k k2 x y w h1 h2 hk (fun w' neg' a' n' cap' g1 g2 => floor_any neg' neg2 a' c n' m cap' cap2 k k2 (-x) y w' g1 g2 (by omega) hy)
end Go.Proofs.Ytgmnknmjainabaa

namespace Go.Proofs.Ytgmnknmjainabaa
set_option linter.unusedVariables false
set_option linter.unusedSimpArgs false
set_option linter.unnecessarySimpa false
open Go.RowKit
attribute [local go_sem ↓] Go.wp_at_zero Go.wp_at_succ

theorem ceil_ge (x q : Int) (hq : 0 < q) : x ≤ -(-x / q) * q := by
  have h := Int.emod_add_mul_ediv (-x) q
  have := Int.emod_nonneg (-x) (show q ≠ 0 by omega)
  have e : -(-x / q) * q = -(q * (-x / q)) := by rw [Int.neg_mul, Int.mul_comm]
  rw [e]; omega
theorem flo_le (x q : Int) (hq : 0 < q) : x / q * q ≤ x := Int.ediv_mul_le _ (by omega)
end Go.Proofs.Ytgmnknmjainabaa

namespace Go.Proofs.Ytgmnknmjainabaa.Ex
set_option linter.unusedVariables false
/-- the sum of the first n. -/
def S (f : Nat → Rat) : Nat → Rat
  | 0 => 0
  | n + 1 => S f n + f n

theorem S_add (f g : Nat → Rat) (n : Nat) : S (fun i => f i + g i) n = S f n + S g n := by
  induction n with
  | zero => simp [S]; try grind
  | succ n ih => simp only [S, ih]; grind
theorem S_mul (c : Rat) (f : Nat → Rat) (n : Nat) : S (fun i => c * f i) n = c * S f n := by
  induction n with
  | zero => simp [S]; try grind
  | succ n ih => simp only [S, ih]; grind
theorem S_congr {f g : Nat → Rat} (n : Nat) (h : ∀ i, i < n → f i = g i) : S f n = S g n := by
  induction n with
  | zero => rfl
  | succ n ih => simp only [S]; rw [ih (fun i hi => h i (by omega)), h n (by omega)]
theorem S_first (f : Nat → Rat) (n : Nat) : S f (n + 1) = f 0 + S (fun i => f (i + 1)) n := by
  induction n with
  | zero => simp [S]; grind
  | succ n ih => rw [S, ih]; simp only [S]; grind
/-- x to the power of k over k's factorial. -/
def tm (x : Rat) : Nat → Rat
  | 0 => 1
  | n + 1 => tm x n * x / ((n : Rat) + 1)
theorem pos1 (n : Nat) : (0 : Rat) < (n : Rat) + 1 := by
  have : (0:Rat) ≤ (n : Rat) := by exact_mod_cast Nat.zero_le n
  grind
theorem tm_succ (x : Rat) (n : Nat) : ((n : Rat) + 1) * tm x (n + 1) = x * tm x n := by
  simp only [tm]
  have := pos1 n
  grind
/-- Cauchy's product. -/
def cv (a b : Nat → Rat) (n : Nat) : Rat := S (fun i => a i * b (n - i)) (n + 1)
theorem cv_tm (x y : Rat) (n : Nat) : cv (tm x) (tm y) n = tm (x + y) n := by
  induction n with
  | zero => simp [cv, S, tm]; grind
  | succ n ih =>
    have h := pos1 n
    have h1 : ((n : Rat) + 1) * cv (tm x) (tm y) (n + 1) = (x + y) * cv (tm x) (tm y) n := by
      have e1 : ((n : Rat) + 1) * cv (tm x) (tm y) (n + 1) = S (fun i => (i : Rat) * tm x i * tm y (n + 1 - i) + tm x i * ((n + 1 - i : Nat) : Rat) * tm y (n + 1 - i)) (n + 2) := by
        unfold cv
        rw [← S_mul]
        refine S_congr _ fun i hi => ?_
        have : ((n : Rat) + 1) = (i : Rat) + ((n + 1 - i : Nat) : Rat) := by
          have : (n + 1 : Nat) = i + (n + 1 - i) := by omega
          have := congrArg (fun k : Nat => (k : Rat)) this
          simp at this
          grind
        rw [this]; grind
      rw [e1, S_add]
      have e2 : S (fun i => (i : Rat) * tm x i * tm y (n + 1 - i)) (n + 2) = x * cv (tm x) (tm y) n := by
        rw [S_first]
        simp
        rw [Rat.zero_add]
        unfold cv
        rw [← S_mul]
        refine S_congr _ fun i hi => ?_
        have := tm_succ x i
        grind
      have e3 : S (fun i => tm x i * ((n + 1 - i : Nat) : Rat) * tm y (n + 1 - i)) (n + 2) = y * cv (tm x) (tm y) n := by
        rw [S]
        simp
        rw [Rat.add_zero]
        unfold cv
        rw [← S_mul]
        refine S_congr _ fun i hi => ?_
        have e : n + 1 - i = (n - i) + 1 := by omega
        rw [e]
        have := tm_succ y (n - i)
        simp
        grind
      rw [e2, e3]; grind
    have h2 := tm_succ (x + y) n
    rw [ih] at h1
    have : ((n : Rat) + 1) * cv (tm x) (tm y) (n + 1) = ((n : Rat) + 1) * tm (x + y) (n + 1) := by rw [h1, h2]
    have hz : ((n : Rat) + 1) ≠ 0 := by grind
    have h5 : ((n : Rat) + 1) * (cv (tm x) (tm y) (n + 1) - tm (x + y) (n + 1)) = 0 := by grind
    rcases Rat.mul_eq_zero.1 h5 with h6 | h6
    · exact absurd h6 hz
    · grind

/-- The sum of the first M. -/
def E (x : Rat) (M : Nat) : Rat := S (tm x) M

theorem E_add (x y : Rat) (M : Nat) : E (x + y) M = S (fun i => tm x i * E y (M - i)) M := by
  induction M with
  | zero => rfl
  | succ M ih =>
    have h1 : E (x + y) (M + 1) = E (x + y) M + tm (x + y) M := rfl
    rw [h1, ih, ← cv_tm]
    have h2 : S (fun i => tm x i * E y (M + 1 - i)) (M + 1) = S (fun i => tm x i * E y (M - i) + tm x i * tm y (M - i)) (M + 1) := by
      refine S_congr _ fun i hi => ?_
      have e : M + 1 - i = (M - i) + 1 := by omega
      have e2 : E y ((M - i) + 1) = E y (M - i) + tm y (M - i) := rfl
      rw [e, e2]; grind
    rw [h2, S_add]
    have h3 : S (fun i => tm x i * E y (M - i)) (M + 1) = S (fun i => tm x i * E y (M - i)) M := by
      simp only [S]
      have : M - M = 0 := by omega
      rw [this]
      have : E y 0 = 0 := rfl
      rw [this]; grind
    rw [h3]; rfl

theorem E_diff (x y : Rat) (M : Nat) : E x M * E y M - E (x + y) M = S (fun i => tm x i * (E y M - E y (M - i))) M := by
  rw [E_add]
  have h1 : E x M * E y M = S (fun i => E y M * tm x i) M := by rw [S_mul]; unfold E; grind
  rw [h1]
  have h2 : S (fun i => E y M * tm x i) M = S (fun i => tm x i * (E y M - E y (M - i))) M + S (fun i => tm x i * E y (M - i)) M := by
    rw [← S_add]
    refine S_congr _ fun i hi => ?_
    grind
  rw [h2]; grind

/-- No farther from 0. -/
def AB (t b : Rat) : Prop := -b ≤ t ∧ t ≤ b
theorem AB.nonneg {t b : Rat} (h : AB t b) : 0 ≤ b := by obtain ⟨h1, h2⟩ := h; grind
theorem AB.mul {s t a b : Rat} (h : AB s a) (k : AB t b) : AB (s * t) (a * b) := by
  obtain ⟨h1, h2⟩ := h
  obtain ⟨k1, k2⟩ := k
  have p1 := Rat.mul_nonneg (show 0 ≤ a - s by grind) (show 0 ≤ b + t by grind)
  have p2 := Rat.mul_nonneg (show 0 ≤ a + s by grind) (show 0 ≤ b - t by grind)
  have p3 := Rat.mul_nonneg (show 0 ≤ a - s by grind) (show 0 ≤ b - t by grind)
  have p4 := Rat.mul_nonneg (show 0 ≤ a + s by grind) (show 0 ≤ b + t by grind)
  constructor <;> grind
theorem AB.add {s t a b : Rat} (h : AB s a) (k : AB t b) : AB (s + t) (a + b) := by
  obtain ⟨h1, h2⟩ := h
  obtain ⟨k1, k2⟩ := k
  constructor <;> grind
theorem AB.mono {s a b : Rat} (h : AB s a) (k : a ≤ b) : AB s b := by
  obtain ⟨h1, h2⟩ := h
  constructor <;> grind
theorem AB.neg {s a : Rat} (h : AB s a) : AB (-s) a := by
  obtain ⟨h1, h2⟩ := h
  constructor <;> grind
theorem S_AB {f g : Nat → Rat} (n : Nat) (h : ∀ i, i < n → AB (f i) (g i)) : AB (S f n) (S g n) := by
  induction n with
  | zero => simp only [S]; constructor <;> grind
  | succ n ih => simp only [S]; exact (ih (fun i hi => h i (by omega))).add (h n (by omega))

/-- 1 over 4 to the power of n. -/
def q4 : Nat → Rat
  | 0 => 1
  | n + 1 => q4 n / 4
theorem q4_pos (n : Nat) : 0 < q4 n := by
  induction n with
  | zero => simp only [q4]; grind
  | succ n ih => simp only [q4]; grind
theorem q4_add (a b : Nat) : q4 (a + b) = q4 a * q4 b := by
  induction b with
  | zero => simp only [q4, Nat.add_zero]; grind
  | succ b ih => rw [← Nat.add_assoc]; simp only [q4, ih]; grind

theorem E_sub (y : Rat) (K : Rat) (hK : ∀ i, AB (tm y i) (K * q4 i)) (a i : Nat) : AB (E y (a + i) - E y a) (2 * K * (q4 a - q4 (a + i))) := by
  induction i with
  | zero => simp only [Nat.add_zero]; constructor <;> grind
  | succ i ih =>
    have e : E y (a + (i + 1)) = E y (a + i) + tm y (a + i) := rfl
    have e2 : q4 (a + (i + 1)) = q4 (a + i) / 4 := rfl
    rw [e, e2]
    have h := hK (a + i)
    have hn := h.nonneg
    have := ih.add h
    have h3 : E y (a + i) + tm y (a + i) - E y a = E y (a + i) - E y a + tm y (a + i) := by grind
    rw [h3]
    refine this.mono ?_
    grind

theorem S_const (c : Rat) (n : Nat) : S (fun _ => c) n = n * c := by
  induction n with
  | zero => simp [S]
  | succ n ih =>
    simp only [S, ih]
    have : ((n + 1 : Nat) : Rat) = (n : Rat) + 1 := by simp
    rw [this]; grind

/-- The power of a sum is nearly the product of the powers. -/
theorem E_mul (x y K L : Rat) (hK : ∀ i, AB (tm x i) (K * q4 i)) (hL : ∀ i, AB (tm y i) (L * q4 i)) (M : Nat) : AB (E x M * E y M - E (x + y) M) (M * (2 * K * L * q4 M)) := by
  rw [E_diff, ← S_const]
  refine S_AB _ fun i hi => ?_
  have h1 := E_sub y L hL (M - i) i
  rw [show M - i + i = M by omega] at h1
  have h2 := (hK i).mul h1
  refine h2.mono ?_
  have e : q4 M = q4 i * q4 (M - i) := by rw [← q4_add]; congr 1; omega
  have hL0 := (hL M).nonneg
  have hK0 := (hK M).nonneg
  have p := q4_pos M
  have pK : 0 ≤ K := by
    have := (hK 0).nonneg
    simp only [q4] at this; grind
  have pL : 0 ≤ L := by
    have := (hL 0).nonneg
    simp only [q4] at this; grind
  have p5 := Rat.mul_nonneg (Rat.mul_nonneg pK pL) (Rat.mul_nonneg (Rat.le_of_lt (q4_pos i)) (Rat.le_of_lt p))
  rw [e] at p5 ⊢
  grind

/-- What is added is at last smaller than each power of 1 over 4. -/
theorem tm_step (x : Rat) (n : Nat) (c : Rat) (hx : AB (4 * x) ((n : Rat) + 1)) (h : AB (tm x n) (c * q4 n)) : AB (tm x (n + 1)) (c * q4 (n + 1)) := by
  have hp := pos1 n
  have e := tm_succ x n
  have h2 := hx.mul h
  have q := q4_pos n
  have e2 : q4 (n + 1) = q4 n / 4 := rfl
  rw [e2]
  have h3 : 4 * x * tm x n = 4 * ((n : Rat) + 1) * tm x (n + 1) := by grind
  rw [h3] at h2
  obtain ⟨g1, g2⟩ := h2
  constructor
  · refine Rat.not_lt.1 fun hn => ?_
    have := Rat.mul_pos hp (show 0 < -(c * (q4 n / 4)) - tm x (n + 1) by grind)
    grind
  · refine Rat.not_lt.1 fun hn => ?_
    have := Rat.mul_pos hp (show 0 < tm x (n + 1) - c * (q4 n / 4) by grind)
    grind

theorem AB.self (t : Rat) : ∃ b, AB t b := by
  by_cases h : 0 ≤ t
  · exact ⟨t, by constructor <;> grind⟩
  · exact ⟨-t, by constructor <;> grind⟩

theorem tm_upto (x : Rat) (n : Nat) : ∃ K, 0 ≤ K ∧ ∀ i, i ≤ n → AB (tm x i) (K * q4 i) := by
  induction n with
  | zero => exact ⟨1, by grind, fun i hi => by
      have : i = 0 := by omega
      subst this
      simp only [tm, q4]; constructor <;> grind⟩
  | succ n ih =>
    obtain ⟨K, h0, h⟩ := ih
    obtain ⟨b, hb⟩ := AB.self (tm x (n + 1))
    have q := q4_pos (n + 1)
    have hb0 := hb.nonneg
    have hq : b / q4 (n + 1) * q4 (n + 1) = b := by grind
    have hd : 0 ≤ b / q4 (n + 1) := by
      refine Rat.not_lt.1 fun hn => ?_
      have := Rat.mul_pos q (show 0 < -(b / q4 (n + 1)) by grind)
      grind
    refine ⟨K + b / q4 (n + 1), by grind, fun i hi => ?_⟩
    have qi := q4_pos i
    by_cases hin : i = n + 1
    · subst hin
      refine hb.mono ?_
      have := Rat.mul_nonneg h0 (Rat.le_of_lt q)
      grind
    · refine (h i (by omega)).mono ?_
      have := Rat.mul_nonneg hd (Rat.le_of_lt qi)
      grind

theorem rat_nat (x : Rat) : ∃ n : Nat, AB x (n : Rat) := by
  refine ⟨x.floor.natAbs + 1, ?_⟩
  have h1 := Rat.lt_floor_add_one x
  have h2 := Rat.floor_le x
  have h3 : ((x.floor + 1 : Int) : Rat) ≤ ((x.floor.natAbs + 1 : Nat) : Rat) := by
    have : x.floor + 1 ≤ ((x.floor.natAbs + 1 : Nat) : Int) := by omega
    exact_mod_cast this
  have h4 : -((x.floor.natAbs + 1 : Nat) : Rat) ≤ (x.floor : Rat) := by
    have : (0 : Int) ≤ x.floor + ((x.floor.natAbs + 1 : Nat) : Int) := by omega
    have h5 : (0 : Rat) ≤ ((x.floor + ((x.floor.natAbs + 1 : Nat) : Int) : Int) : Rat) := by exact_mod_cast this
    have h6 : ((x.floor + ((x.floor.natAbs + 1 : Nat) : Int) : Int) : Rat) = (x.floor : Rat) + ((x.floor.natAbs + 1 : Nat) : Rat) := by rw [Rat.intCast_add]; rfl
    grind
  constructor <;> grind

theorem tm_bd (x : Rat) : ∃ K, 0 ≤ K ∧ ∀ i, AB (tm x i) (K * q4 i) := by
  obtain ⟨n, hn⟩ := rat_nat (4 * x)
  obtain ⟨K, h0, h⟩ := tm_upto x n
  refine ⟨K, h0, fun i => ?_⟩
  by_cases hi : i ≤ n
  · exact h i hi
  · obtain ⟨j, rfl⟩ : ∃ j, i = n + j := ⟨i - n, by omega⟩
    clear hi
    induction j with
    | zero => exact h n (Nat.le_refl _)
    | succ j ih =>
      refine tm_step x (n + j) K (hn.mono ?_) ih
      have h1 : ((n + j : Nat) : Rat) = (n : Rat) + j := by simp
      have h2 : (0 : Rat) ≤ (j : Rat) := by exact_mod_cast Nat.zero_le j
      rw [h1]; grind

/-- Two sequences that come together, fast. -/
def Near (f g : Nat → Rat) : Prop := ∃ K, 0 ≤ K ∧ ∀ M : Nat, AB (f M - g M) (K * (M * q4 M))
theorem near_bd (M : Nat) : 0 ≤ (M : Rat) * q4 M := Rat.mul_nonneg (by exact_mod_cast Nat.zero_le M) (Rat.le_of_lt (q4_pos M))
theorem Near.refl (f : Nat → Rat) : Near f f := ⟨0, by grind, fun M => by constructor <;> grind⟩
theorem Near.symm {f g : Nat → Rat} (h : Near f g) : Near g f := by
  obtain ⟨K, h0, h⟩ := h
  refine ⟨K, h0, fun M => ?_⟩
  have := (h M).neg
  have e : -(f M - g M) = g M - f M := by grind
  rw [e] at this; exact this
theorem Near.trans {f g h : Nat → Rat} (h1 : Near f g) (h2 : Near g h) : Near f h := by
  obtain ⟨K, k0, h1⟩ := h1
  obtain ⟨L, l0, h2⟩ := h2
  refine ⟨K + L, by grind, fun M => ?_⟩
  have := (h1 M).add (h2 M)
  have e : f M - g M + (g M - h M) = f M - h M := by grind
  rw [e] at this
  refine this.mono ?_
  grind
/-- Bounded. -/
def Bd (f : Nat → Rat) : Prop := ∃ K, ∀ M, AB (f M) K
theorem Bd.mul {f g : Nat → Rat} (h1 : Bd f) (h2 : Bd g) : Bd (fun M => f M * g M) := by
  obtain ⟨K, h1⟩ := h1
  obtain ⟨L, h2⟩ := h2
  exact ⟨K * L, fun M => (h1 M).mul (h2 M)⟩
theorem Near.mul {f f' g g' : Nat → Rat} (h1 : Near f f') (h2 : Near g g') (b1 : Bd f) (b2 : Bd g') : Near (fun M => f M * g M) (fun M => f' M * g' M) := by
  obtain ⟨K, k0, h1⟩ := h1
  obtain ⟨L, l0, h2⟩ := h2
  obtain ⟨A, b1⟩ := b1
  obtain ⟨B, b2⟩ := b2
  have a0 := (b1 0).nonneg
  have b0 := (b2 0).nonneg
  refine ⟨A * L + K * B, ?_, fun M => ?_⟩
  · have := Rat.mul_nonneg a0 l0
    have := Rat.mul_nonneg k0 b0
    grind
  · have e : f M * g M - f' M * g' M = f M * (g M - g' M) + (f M - f' M) * g' M := by grind
    show AB (f M * g M - f' M * g' M) _
    rw [e]
    refine (((b1 M).mul (h2 M)).add ((h1 M).mul (b2 M))).mono ?_
    grind

def two : Nat → Rat
  | 0 => 1
  | t + 1 => 2 * two t
theorem nat_q4 (M : Nat) : (M : Rat) * ((M : Rat) + 1) * q4 M ≤ 1 := by
  induction M with
  | zero => simp only [q4]; grind
  | succ M ih =>
    have e : ((M + 1 : Nat) : Rat) = (M : Rat) + 1 := by simp
    have e2 : q4 (M + 1) = q4 M / 4 := rfl
    have q := q4_pos M
    have hM : (0 : Rat) ≤ (M : Rat) := by exact_mod_cast Nat.zero_le M
    rw [e, e2]
    rcases Nat.eq_zero_or_pos M with h | h
    · subst h
      simp only [q4]; grind
    · have h1 : (1 : Rat) ≤ (M : Rat) := by exact_mod_cast h
      have p := Rat.mul_nonneg (Rat.mul_nonneg (show 0 ≤ (M : Rat) + 1 by grind) (show 0 ≤ 3 * (M : Rat) - 2 by grind)) (Rat.le_of_lt q)
      grind

/-- Bounds of what comes together are in order. -/
theorem Near.le {f g : Nat → Rat} (h : Near f g) {a b : Rat} {N : Nat} (h1 : ∀ M, N ≤ M → a ≤ f M) (h2 : ∀ M, N ≤ M → g M ≤ b) : a ≤ b := by
  obtain ⟨K, k0, h⟩ := h
  refine Rat.not_lt.1 fun hlt => ?_
  have hd : 0 < a - b := by grind
  obtain ⟨n, hn1, hn2⟩ := rat_nat (K / (a - b))
  have hKn : K ≤ (a - b) * n := by
    have e : K / (a - b) * (a - b) = K := by grind
    have := Rat.mul_nonneg (show 0 ≤ (n : Rat) - K / (a - b) by grind) (Rat.le_of_lt hd)
    grind
  obtain ⟨M, hM⟩ : ∃ M : Nat, M = N + n + 1 := ⟨_, rfl⟩
  have g1 := h1 M (by omega)
  have g2 := h2 M (by omega)
  obtain ⟨g3, g4⟩ := h M
  have q := q4_pos M
  have u := nat_q4 M
  have hMn : (n : Rat) + 1 ≤ (M : Rat) := by
    have : n + 1 ≤ M := by omega
    have h5 : ((n + 1 : Nat) : Rat) ≤ (M : Rat) := by exact_mod_cast this
    have h6 : ((n + 1 : Nat) : Rat) = (n : Rat) + 1 := by simp
    rw [h6] at h5; exact h5
  have hn0 : (0 : Rat) ≤ (n : Rat) := by exact_mod_cast Nat.zero_le n
  have hMq := near_bd M
  -- (a - b) <= K M q4 M <= (a - b) n M q4 M < a - b
  have s1 := Rat.mul_nonneg (show 0 ≤ (a - b) * n - K by grind) hMq
  have s2 := Rat.mul_nonneg (show 0 ≤ (M : Rat) - n by grind) hMq
  have s3 := Rat.mul_nonneg (Rat.le_of_lt hd) s2
  have s4 := Rat.mul_nonneg (Rat.le_of_lt hd) (show 0 ≤ 1 - (M : Rat) * ((M : Rat) + 1) * q4 M by grind)
  have s5 := Rat.mul_pos hd (show 0 < (M : Rat) * q4 M from Rat.mul_pos (by grind) q)
  grind

theorem tm_nonneg {x : Rat} (h : 0 ≤ x) (n : Nat) : 0 ≤ tm x n := by
  induction n with
  | zero => simp only [tm]; grind
  | succ n ih =>
    have e := tm_succ x n
    have hp := pos1 n
    refine Rat.not_lt.1 fun hn => ?_
    have h1 := Rat.mul_pos hp (show 0 < -tm x (n + 1) by grind)
    have h2 := Rat.mul_nonneg h ih
    grind
theorem E_one {x : Rat} (h : 0 ≤ x) {M : Nat} (hM : 1 ≤ M) : 1 ≤ E x M := by
  obtain ⟨n, rfl⟩ : ∃ n, M = n + 1 := ⟨M - 1, by omega⟩
  clear hM
  induction n with
  | zero => simp only [E, S, tm]; grind
  | succ n ih =>
    have e : E x (n + 1 + 1) = E x (n + 1) + tm x (n + 1) := rfl
    have := tm_nonneg h (n + 1)
    rw [e]; grind

end Go.Proofs.Ytgmnknmjainabaa.Ex
