/-
  What wide.LogGamma makes. Plain arithmetic: no statement of the seat is proved here.
  A region that draws its order and ends in a store that overwrites what the region has read: a load may be taken first where the store waits for it. No statement of the seat is proved here.
  A region that draws its order and ends in stores that overwrite what the region has read: what holds behind an operation may hang on its number. No statement of the seat is proved here.
  What wide.upToOne, wide.overExp and wide.RareOne answer, and that they leave old memory alone.
  What wide.RareOne and tailsureref.raisedInt answer, and that they leave old memory alone.
  What wide.balanced answers, and that it leaves old memory alone.
-/
import Derived.Deep.RegionHeld3
import Derived.Test.YtgmnknmjainababK12
namespace Go.Proofs.Ytgmnknmjainabab
set_option linter.unusedVariables false
open Ex

/-- What is known of a logarithm of the gamma function. -/
structure LgPr (x : Nat → Rat) (B W : Nat) (l u : Int) : Prop where
  le : l ≤ u
  wd : u - l ≤ Q W
  ab : Abs (l, u) (Q (B + W))
  iv : Iv B (l, u) x
/-- Spans of logarithms: their bounds. -/
structure LbOk (B : Nat) (o : Int × Int) : Prop where
  le : o.1 ≤ o.2
  ab : Abs o (60000 * Q B)
  wd : o.2 - o.1 ≤ 60000000
theorem lb_of {B N N2 : Nat} {n' d' c : Int} (hB : 16 ≤ B) (hB2 : B ≤ 1000) (h : NearOne n' d') (hN : IsStop (lnT n' d' B) N) (hN2 : IsStop (lnT 2 1 B) N2) (k : Nat) (hk : k ≤ 900) (h1 : -(16 * (k : Int) + 1) ≤ c) (h2 : c ≤ 16 * (k : Int) + 1) : LbOk B (lnOf (doneI (lnT n' d' B) N) (doneI (lnT 2 1 B) N2) c) := by
  obtain ⟨b1, b2, b3⟩ := log_bound (k := c) h hB hN hN2 (16 * (k : Int) + 1) h1 h2
  have q := Q_pos B
  refine ⟨b1, b2.mono ?_, ?_⟩
  · have m := Int.mul_le_mul_of_nonneg_right (show 16 * (k : Int) + 1 + 1 ≤ 15000 by omega) (show 0 ≤ 4 * Q B by omega)
    omega
  · have m := Int.mul_le_mul (show 16 * (k : Int) + 1 + 1 ≤ 14402 by omega) (show 2 * (((B : Int) / 3 + 2) * 6 + 2) ≤ 4030 by omega) (by omega) (by omega)
    omega
theorem lgam_ok {n d : Int} {g lp x l1 l2 : Nat → Rat} {B : Nat} {a o1 o2 o : Int × Int} (h : StIn n d) (hB0 : 40 ≤ B) (hB : B ≤ 1000) (ha : GaV g B a) (ls : LsIn a B o1 o2 l1 l2) (hp : IsLog lp (fun _ => (stP n d (stN n d) : Rat) / (stQ d (stN n d) : Rat))) (io : Iv B o lp) (k1 : LbOk B o1) (k2 : LbOk B o2) (k3 : LbOk B o) (hx : IsLog x (gmV n d g)) (hgp : ∃ c : Rat, 0 < c ∧ ∃ N : Nat, ∀ M, N ≤ M → c ≤ g M) {L : Rat → Nat → Rat} (hL : Lns L) : LgPr x B 46 (o1.1 + o.1) (o2.2 + o.2) := by
  obtain ⟨lg, hlg⟩ := log_seq hL ha.iv.bdd hgp
  have i1 := ls_has ls ha.iv hlg
  have both := hp.add hlg
  have i2 : Iv B (addI (o1.1, o2.2) o) (fun M => lg M + lp M) := i1.add io
  have iv : Iv B (o1.1 + o.1, o2.2 + o.2) x := by
    have n := hx.uniq (both.congr_r (r' := gmV n d g) (null_zero.of_eq fun M => by unfold gmV; grind))
    exact i2.congr (n.of_eq fun M => by grind)
  have q := Q_pos B
  have big := QB_big hB0 hB
  have BB := Int.mul_nonneg (show (0 : Int) ≤ (B : Int) by omega) (show (0 : Int) ≤ (B : Int) by omega)
  have B2 := Int.mul_le_mul (show (B : Int) ≤ 1000 by omega) (show (B : Int) ≤ 1000 by omega) (by omega) (by omega)
  have a0 : 0 < a.1 := by have := ha.lo; omega
  have al := ha.le
  have twice : a.2 ≤ 2 * a.1 := by
    have m := Int.mul_le_mul_of_nonneg_right big (show 0 ≤ a.2 by omega)
    have r := ha.rel
    have s : 16 * (a.2 - a.1) ≤ a.2 := by
      refine Int.le_of_mul_le_mul_right (a := Q B) ?_ (by omega)
      have r1 : 16 * (a.2 - a.1) * Q B = 16 * ((a.2 - a.1) * Q B) := by grind
      have r2 : 16 * (10000000 * ((B : Int) * (B : Int))) * a.2 = 16 * (10000000 * ((B : Int) * (B : Int)) * a.2) := by grind
      have r3 : Q B * a.2 = a.2 * Q B := Int.mul_comm _ _
      omega
    omega
  have w := ls_wide ls (C := 20000000000000) (by
    have m1 := Int.mul_le_mul_of_nonneg_left twice (show 0 ≤ 10000000 * ((B : Int) * (B : Int)) by omega)
    have m2 := Int.mul_le_mul_of_nonneg_right (show 10000000 * ((B : Int) * (B : Int)) ≤ 10000000000000 by omega) (show 0 ≤ 2 * a.1 by omega)
    have := ha.rel
    omega)
  have e46 : Q 46 = 70368744177664 := rfl
  have w1 := k1.wd
  have w2 := k2.wd
  have w3 := k3.wd
  have l3 := k3.le
  have le : o1.1 + o.1 ≤ o2.2 + o.2 := iv.le
  refine ⟨le, by omega, ?_, iv⟩
  have eB : Q (B + 46) = Q B * Q 46 := Q_add B 46
  rw [e46] at eB
  obtain ⟨x1, x2, x3, x4⟩ := k1.ab
  obtain ⟨y1, y2, y3, y4⟩ := k2.ab
  obtain ⟨z1, z2, z3, z4⟩ := k3.ab
  exact ⟨by show _ ≤ o1.1 + o.1; omega, by show o1.1 + o.1 ≤ _; omega, by show _ ≤ o2.2 + o.2; omega, by show o2.2 + o.2 ≤ _; omega⟩
/-- That of the beta function. -/
theorem lbeta_ok {x y z : Nat → Rat} {B : Nat} {l1 u1 l2 u2 l3 u3 : Int} (h1 : LgPr x B 46 l1 u1) (h2 : LgPr y B 46 l2 u2) (h3 : LgPr z B 46 l3 u3) : LgPr (fun M => x M + y M - z M) B 48 (l1 + l2 - u3) (u1 + u2 - l3) := by
  have iv : Iv B (subI (addI (l1, u1) (l2, u2)) (l3, u3)) (fun M => x M + y M - z M) := (h1.iv.add h2.iv).sub h3.iv
  have e46 : Q 46 = 70368744177664 := rfl
  have e48 : Q 48 = 281474976710656 := rfl
  have a1 := h1.wd
  have a2 := h2.wd
  have a3 := h3.wd
  have b1 := h1.le
  have b2 := h2.le
  have b3 := h3.le
  have e1 : Q (B + 46) = Q B * Q 46 := Q_add B 46
  have e2 : Q (B + 48) = Q B * Q 48 := Q_add B 48
  rw [e46] at e1
  rw [e48] at e2
  have q := Q_pos B
  obtain ⟨x1, x2, x3, x4⟩ := h1.ab
  obtain ⟨y1, y2, y3, y4⟩ := h2.ab
  obtain ⟨z1, z2, z3, z4⟩ := h3.ab
  simp only [] at x1 x2 x3 x4 y1 y2 y3 y4 z1 z2 z3 z4
  refine ⟨by omega, by omega, ?_, iv⟩
  exact ⟨by show _ ≤ l1 + l2 - u3; omega, by show l1 + l2 - u3 ≤ _; omega, by show _ ≤ u1 + u2 - l3; omega, by show u1 + u2 - l3 ≤ _; omega⟩
end Go.Proofs.Ytgmnknmjainabab

namespace Go.Proofs.Ytgmnknmjainabab
set_option linter.unusedVariables false
open Go

section
variable {Pg : Program} {ops : Array Oper} {Q : Exit → Act → World → Prop} {md : Region.Mode} {S : World → Prop} {l : Nat}

/-- Whatever order is picked from here on, and S holds behind every operation but the one of number l. -/
def AnyL (Pg : Program) (md : Region.Mode) (ops : Array Oper) (Q : Exit → Act → World → Prop) (S : World → Prop) (l : Nat) : Nat → Array Bool → Act → World → Prop
  | 0, listed, a, w => Region.ready md ops listed = [] ∧ Q .normal a w
  | fuel + 1, listed, a, w =>
    (Region.ready md ops listed = [] → Q .normal a w) ∧
    ∀ i ∈ Region.ready md ops listed, wpOp Pg ops Q i (fun a' w' => (i ≠ l → S w') ∧ AnyL Pg md ops Q S l fuel (listed.setIfInBounds i true) a' w') a w

theorem AnyL.any : ∀ (fuel : Nat) (listed : Array Bool) (a : Act) (w : World), AnyL Pg md ops Q S l fuel listed a w → wpAny Pg md ops Q fuel listed a w
  | 0, _, _, _, h => h
  | fuel + 1, _, _, _, h => ⟨h.1, fun i hi => wpOp_mono (fun a' w' h' => AnyL.any fuel _ a' w' h'.2) (h.2 i hi)⟩

/-- Number l waits for number i. -/
def waits (md : Region.Mode) (ops : Array Oper) (l i : Nat) : Bool :=
  match ops[l]? with
  | some o => o.after.any (fun e => Region.binds md e && e.on == i)
  | none => false

theorem waits_not {i : Nat} {listed : Array Bool} (hw : waits md ops l i = true) (hi : i ∈ Region.ready md ops listed) (hl : l ∈ Region.ready md ops listed) : False := by
  obtain ⟨_, ol, hol, hall⟩ := mem_ready.1 hl
  obtain ⟨h0, oi, hoi, _⟩ := mem_ready.1 hi
  unfold waits at hw
  rw [hol] at hw
  simp only [Array.any_eq_true'] at hw
  obtain ⟨e, he, h2⟩ := hw
  simp only [Bool.and_eq_true, beq_iff_eq] at h2
  have h1 := hall e he h2.1
  rw [h2.2] at h1
  rcases Nat.lt_or_ge i listed.size with h' | h'
  · simp [h'] at h0 h1; rw [h0] at h1; cases h1
  · simp [Array.getElem?_eq_none h'] at h1

theorem AnyL.first {i : Nat} {oi : Oper} {v : Value} (hi : ops[i]? = some oi) (hsel : ∀ (j : Nat) (o : Oper) cs b, ops[j]? = some o → o.op ≠ .select cs b)
    (hQ : ∀ c a w, Q (.panic c) (a.put oi.dst v) w → Q (.panic c) a w) (hwt : waits md ops l i = true) :
    ∀ (fuel : Nat) (listed : Array Bool) (a : Act) (w : World),
      (∀ j oj, ops[j]? = some oj → j ≠ i → listed.getD j true = false → (∀ e ∈ oj.after, Region.binds md e = true → e.on ≠ i) → oi.apart ops oj = true) →
      i ∈ Region.ready md ops listed → YieldsIf Pg ops S oi v a → S w →
      AnyL Pg md ops Q S l fuel (listed.setIfInBounds i true) (a.put oi.dst v) w → AnyL Pg md ops Q S l (fuel + 1) listed a w := by
  intro fuel
  induction fuel with
  | zero =>
    intro listed a w _ hr hy hS H
    refine ⟨fun h => (by rw [h] at hr; cases hr), fun j hj => ?_⟩
    by_cases hji : j = i
    · subst hji; exact hy.wpOp hi hS ⟨fun _ => hS, H⟩
    · have := ready_mono hj hji
      rw [H.1] at this
      cases this
  | succ fuel ih =>
    intro listed a w hfree hr hy hS H
    refine ⟨fun h => (by rw [h] at hr; cases hr), fun j hj => ?_⟩
    by_cases hji : j = i
    · subst hji; exact hy.wpOp hi hS ⟨fun _ => hS, H⟩
    · have hjl : j ≠ l := fun h => waits_not hwt hr (h ▸ hj)
      have h1 := H.2 j (ready_mono hj hji)
      obtain ⟨hjun, oj, hoj, hall⟩ := mem_ready.1 hj
      have hnot : ∀ e ∈ oj.after, Region.binds md e = true → e.on ≠ i := fun e he hb heq => by
        have h1 := hall e he hb
        have h0 := (mem_ready.1 hr).1
        rw [heq] at h1
        rcases Nat.lt_or_ge i listed.size with h' | h'
        · simp [h'] at h0 h1; rw [h0] at h1; cases h1
        · simp [Array.getElem?_eq_none h'] at h1
      have h2 := wpOp_putIf hoj (hfree j oj hoj hji hjun hnot) (fun cs b => hsel i oi cs b hi) (fun cs b => hsel j oj cs b hoj) hQ hy h1
      have hfree' : ∀ k ok, ops[k]? = some ok → k ≠ i → (listed.setIfInBounds j true).getD k true = false →
          (∀ e ∈ ok.after, Region.binds md e = true → e.on ≠ i) → oi.apart ops ok = true := fun k ok hk hki hun hno => by
        refine hfree k ok hk hki ?_ hno
        by_cases hjk : j = k
        · subst hjk; exact hjun
        · rw [getD_set_ne true hjk] at hun; exact hun
      refine wpOp_mono (fun a' w' h3 => ⟨fun _ => h3.2.1 hjl, ih (listed.setIfInBounds j true) a' w' hfree' (ready_mono hr (Ne.symm hji)) h3.1 (h3.2.1 hjl) ?_⟩) h2
      rw [Array.setIfInBounds_comm _ _ hji]
      exact h3.2.2

/-- Take number i first: it yields v in every world that meets S. -/
theorem AnyL.take {i : Nat} {oi : Oper} {v : Value} {fuel : Nat} {listed : Array Bool} {a : Act} {w : World} (hi : ops[i]? = some oi)
    (hs : Region.noSelect ops = true) (hf : Region.free md ops listed i = true) (hr : (Region.ready md ops listed).contains i = true) (hwt : waits md ops l i = true)
    (hQ : ∀ c a w, Q (.panic c) (a.put oi.dst v) w → Q (.panic c) a w) (hy : YieldsIf Pg ops S oi v a) (hS : S w)
    (h : AnyL Pg md ops Q S l fuel (listed.setIfInBounds i true) (a.put oi.dst v) w) : AnyL Pg md ops Q S l (fuel + 1) listed a w :=
  AnyL.first hi (Region.noSelect_spec hs) hQ hwt fuel listed a w (Region.free_spec hi hf) (by simpa using hr) hy hS h

/-- Just number i may come up, and it is not l. -/
theorem AnyL.one {i : Nat} {o : Oper} {fuel : Nat} {listed : Array Bool} {a : Act} {w : World} (hr : Region.ready md ops listed = [i]) (ho : ops[i]? = some o)
    (h : ∀ K' : Act → World → Prop, Shut (∀ a w, S w → (S w → AnyL Pg md ops Q S l fuel (listed.setIfInBounds i true) a w) → K' a w) → if Region.wanted o (yielded ops a.tmps) = true then Oper.wp Pg o a w K' Q else K' (a.put o.dst undef) w) :
    AnyL Pg md ops Q S l (fuel + 1) listed a w :=
  ⟨fun h0 => absurd (hr ▸ h0) (by simp), fun j hj => by
    rw [hr] at hj
    have hj' : j = i := by simpa using hj
    subst hj'
    exact wpOp_step ho (fun K' hK => h K' (fun a w hS hW => hK a w ⟨fun _ => hS, hW hS⟩))⟩

/-- Number l is the last. -/
theorem AnyL.last {o : Oper} {fuel : Nat} {listed : Array Bool} {a : Act} {w : World} (hr : Region.ready md ops listed = [l]) (ho : ops[l]? = some o)
    (hd : Region.ready md ops (listed.setIfInBounds l true) = [])
    (h : ∀ K' : Act → World → Prop, Shut (∀ a w, Q .normal a w → K' a w) → if Region.wanted o (yielded ops a.tmps) = true then Oper.wp Pg o a w K' Q else K' (a.put o.dst undef) w) :
    AnyL Pg md ops Q S l (fuel + 1) listed a w :=
  ⟨fun h0 => absurd (hr ▸ h0) (by simp), fun j hj => by
    rw [hr] at hj
    have hj' : j = l := by simpa using hj
    subst hj'
    refine wpOp_step ho (fun K' hK => h K' (fun a w hW => hK a w ⟨fun h => absurd rfl h, ?_⟩))
    cases fuel with
    | zero => exact ⟨hd, hW⟩
    | succ fuel => exact ⟨fun _ => hW, by rw [hd]; simp⟩⟩

theorem AnyL.start {id : Nat} {a : Act} {w : World} (hm : Pg.follows .mixedOrders = true) (hS : S w.drew)
    (h : S w.drew → AnyL Pg .any ops Q S l ops.size (Array.replicate ops.size false) a w.drew) : (Code.region id ops true).wp Pg Q a w :=
  wp_region_any hm (AnyL.any _ _ _ _ (h hS))
end
end Go.Proofs.Ytgmnknmjainabab

namespace Go.Proofs.Ytgmnknmjainabab
set_option linter.unusedVariables false
open Go

section
variable {Pg : Program} {ops : Array Oper} {Q : Exit → Act → World → Prop} {md : Region.Mode} {S : Nat → World → Prop}

/-- Whatever order is picked from here on, and S i holds behind the operation of number i. -/
def AnyS (Pg : Program) (md : Region.Mode) (ops : Array Oper) (Q : Exit → Act → World → Prop) (S : Nat → World → Prop) : Nat → Array Bool → Act → World → Prop
  | 0, listed, a, w => Region.ready md ops listed = [] ∧ Q .normal a w
  | fuel + 1, listed, a, w =>
    (Region.ready md ops listed = [] → Q .normal a w) ∧
    ∀ i ∈ Region.ready md ops listed, wpOp Pg ops Q i (fun a' w' => S i w' ∧ AnyS Pg md ops Q S fuel (listed.setIfInBounds i true) a' w') a w

theorem AnyS.any : ∀ (fuel : Nat) (listed : Array Bool) (a : Act) (w : World), AnyS Pg md ops Q S fuel listed a w → wpAny Pg md ops Q fuel listed a w
  | 0, _, _, _, h => h
  | fuel + 1, _, _, _, h => ⟨h.1, fun i hi => wpOp_mono (fun a' w' h' => AnyS.any fuel _ a' w' h'.2) (h.2 i hi)⟩

theorem AnyS.first {i : Nat} {oi : Oper} {v : Value} {T : World → Prop} (hi : ops[i]? = some oi) (hsel : ∀ (j : Nat) (o : Oper) cs b, ops[j]? = some o → o.op ≠ .select cs b)
    (hQ : ∀ c a w, Q (.panic c) (a.put oi.dst v) w → Q (.panic c) a w) (hi' : ∀ w, T w → S i w) :
    ∀ (fuel : Nat) (listed : Array Bool) (a : Act) (w : World), (∀ j, listed.getD j true = false → waits md ops j i = true ∨ ∀ w, S j w → T w) →
      (∀ j oj, ops[j]? = some oj → j ≠ i → listed.getD j true = false → (∀ e ∈ oj.after, Region.binds md e = true → e.on ≠ i) → oi.apart ops oj = true) →
      i ∈ Region.ready md ops listed → YieldsIf Pg ops T oi v a → T w → S i w →
      AnyS Pg md ops Q S fuel (listed.setIfInBounds i true) (a.put oi.dst v) w → AnyS Pg md ops Q S (fuel + 1) listed a w := by
  intro fuel
  induction fuel with
  | zero =>
    intro listed a w hT _ hr hy hT' hS H
    refine ⟨fun h => (by rw [h] at hr; cases hr), fun j hj => ?_⟩
    by_cases hji : j = i
    · subst hji; exact hy.wpOp hi hT' ⟨hS, H⟩
    · have := ready_mono hj hji
      rw [H.1] at this
      cases this
  | succ fuel ih =>
    intro listed a w hT hfree hr hy hT' hS H
    refine ⟨fun h => (by rw [h] at hr; cases hr), fun j hj => ?_⟩
    by_cases hji : j = i
    · subst hji; exact hy.wpOp hi hT' ⟨hS, H⟩
    · have hjT : ∀ w, S j w → T w := by
        rcases hT j (mem_ready.1 hj).1 with h | h
        · exact absurd hj (fun hj => waits_not h hr hj)
        · exact h
      have h1 := H.2 j (ready_mono hj hji)
      obtain ⟨hjun, oj, hoj, hall⟩ := mem_ready.1 hj
      have hnot : ∀ e ∈ oj.after, Region.binds md e = true → e.on ≠ i := fun e he hb heq => by
        have h1 := hall e he hb
        have h0 := (mem_ready.1 hr).1
        rw [heq] at h1
        rcases Nat.lt_or_ge i listed.size with h' | h'
        · simp [h'] at h0 h1; rw [h0] at h1; cases h1
        · simp [Array.getElem?_eq_none h'] at h1
      have h2 := wpOp_putIf hoj (hfree j oj hoj hji hjun hnot) (fun cs b => hsel i oi cs b hi) (fun cs b => hsel j oj cs b hoj) hQ hy h1
      have hfree' : ∀ k ok, ops[k]? = some ok → k ≠ i → (listed.setIfInBounds j true).getD k true = false →
          (∀ e ∈ ok.after, Region.binds md e = true → e.on ≠ i) → oi.apart ops ok = true := fun k ok hk hki hun hno => by
        refine hfree k ok hk hki ?_ hno
        by_cases hjk : j = k
        · subst hjk; exact hjun
        · rw [getD_set_ne true hjk] at hun; exact hun
      have hT2 : ∀ k, (listed.setIfInBounds j true).getD k true = false → waits md ops k i = true ∨ ∀ w, S k w → T w := fun k hk => by
        refine hT k ?_
        by_cases hjk : j = k
        · subst hjk; exact hjun
        · rw [getD_set_ne true hjk] at hk; exact hk
      refine wpOp_mono (fun a' w' h3 => ⟨h3.2.1, ih (listed.setIfInBounds j true) a' w' hT2 hfree' (ready_mono hr (Ne.symm hji)) h3.1 (hjT w' h3.2.1) (hi' _ (hjT w' h3.2.1)) ?_⟩) h2
      rw [Array.setIfInBounds_comm _ _ hji]
      exact h3.2.2

/-- Take number i first: it yields v in every world that meets T; T holds behind each operation that does not wait for it. -/
theorem AnyS.take {i : Nat} {oi : Oper} {v : Value} {T : World → Prop} {fuel : Nat} {listed : Array Bool} {a : Act} {w : World} (hi : ops[i]? = some oi)
    (hs : Region.noSelect ops = true) (hf : Region.free md ops listed i = true) (hr : (Region.ready md ops listed).contains i = true)
    (hQ : ∀ c a w, Q (.panic c) (a.put oi.dst v) w → Q (.panic c) a w) (k m : Nat) (hk : ∀ j, listed.getD j true = false → j < k ∨ k + m ≤ j → ∀ w, S j w → T w) (hlate : (List.range m).all (fun j => waits md ops (k + j) i) = true)
    (hi' : ∀ w, T w → S i w) (hy : YieldsIf Pg ops T oi v a) (hTw : T w)
    (h : AnyS Pg md ops Q S fuel (listed.setIfInBounds i true) (a.put oi.dst v) w) : AnyS Pg md ops Q S (fuel + 1) listed a w :=
  AnyS.first hi (Region.noSelect_spec hs) hQ hi' fuel listed a w (fun j hj => by
    by_cases h1 : j < k ∨ k + m ≤ j
    · exact Or.inr (hk j hj h1)
    · refine Or.inl ?_
      have := (List.all_eq_true.1 hlate) (j - k) (List.mem_range.2 (by omega))
      have e : k + (j - k) = j := by omega
      rw [e] at this
      exact this) (Region.free_spec hi hf) (by simpa using hr) hy hTw (hi' _ hTw) h

/-- Just number i may come up. -/
theorem AnyS.one {i : Nat} {o : Oper} {fuel : Nat} {listed : Array Bool} {a : Act} {w : World} (hr : Region.ready md ops listed = [i]) (ho : ops[i]? = some o)
    (h : ∀ K' : Act → World → Prop, Shut (∀ a w, S i w → (S i w → AnyS Pg md ops Q S fuel (listed.setIfInBounds i true) a w) → K' a w) → if Region.wanted o (yielded ops a.tmps) = true then Oper.wp Pg o a w K' Q else K' (a.put o.dst undef) w) :
    AnyS Pg md ops Q S (fuel + 1) listed a w :=
  ⟨fun h0 => absurd (hr ▸ h0) (by simp), fun j hj => by
    rw [hr] at hj
    have hj' : j = i := by simpa using hj
    subst hj'
    exact wpOp_step ho (fun K' hK => h K' (fun a w hS hW => hK a w ⟨hS, hW hS⟩))⟩

/-- Number l is the last. -/
theorem AnyS.last {l : Nat} {o : Oper} {fuel : Nat} {listed : Array Bool} {a : Act} {w : World} (hr : Region.ready md ops listed = [l]) (ho : ops[l]? = some o)
    (hd : Region.ready md ops (listed.setIfInBounds l true) = []) (hSl : ∀ w, S l w)
    (h : ∀ K' : Act → World → Prop, Shut (∀ a w, Q .normal a w → K' a w) → if Region.wanted o (yielded ops a.tmps) = true then Oper.wp Pg o a w K' Q else K' (a.put o.dst undef) w) :
    AnyS Pg md ops Q S (fuel + 1) listed a w :=
  ⟨fun h0 => absurd (hr ▸ h0) (by simp), fun j hj => by
    rw [hr] at hj
    have hj' : j = l := by simpa using hj
    subst hj'
    refine wpOp_step ho (fun K' hK => h K' (fun a w hW => hK a w ⟨hSl w, ?_⟩))
    cases fuel with
    | zero => exact ⟨hd, hW⟩
    | succ fuel => exact ⟨fun _ => hW, by rw [hd]; simp⟩⟩

theorem AnyS.start {id : Nat} {a : Act} {w : World} (hm : Pg.follows .mixedOrders = true)
    (h : AnyS Pg .any ops Q S ops.size (Array.replicate ops.size false) a w.drew) : (Code.region id ops true).wp Pg Q a w :=
  wp_region_any hm (AnyS.any _ _ _ _ h)
end
end Go.Proofs.Ytgmnknmjainabab

namespace Go.Proofs.Ytgmnknmjainabab
set_option linter.unusedVariables false
set_option linter.unusedSimpArgs false
set_option linter.unnecessarySimpa false
open Go.RowKit
attribute [local go_sem ↓] Go.wp_at_zero Go.wp_at_succ

theorem sp_putHi {w : World} {B : Nat} {s : Sp} (h : VrC w B s) (x : Nm) : VrC ((w.setCell ⟨B, 2, none⟩ (.bool x.neg)).setCell ⟨B, 3, none⟩ (.slice x.a x.n x.cap)) B ⟨s.ln, s.la, s.lN, s.lc, x.neg, x.a, x.n, x.cap, s.bits⟩ := by
  obtain ⟨⟨q0, q1, q2, q3, q4⟩, q5⟩ := h
  exact ⟨⟨by simp [go_sem, q0], by simp [go_sem, q1], by simp [go_sem, q2], by simp [go_sem, q3], by simp [go_sem, q4]⟩, fun o => by rw [frozen_set', frozen_set']; exact q5 o⟩
theorem NoC.offH {w : World} {B B' : Nat} (h : NoC w B) (hne : B ≠ B') (u0 u1 : Value) : NoC ((w.setCell ⟨B', 2, none⟩ u0).setCell ⟨B', 3, none⟩ u1) B := by
  obtain ⟨q0, q1, q2, q3, q4, q5⟩ := h
  exact ⟨by simp [go_sem, q0, hne, Ne.symm hne], by simp [go_sem, q1, hne, Ne.symm hne], by simp [go_sem, q2, hne, Ne.symm hne], by simp [go_sem, q3, hne, Ne.symm hne], by simp [go_sem, q4, hne, Ne.symm hne], fun o => by rw [frozen_set', frozen_set']; exact q5 o⟩
theorem IntAt.putH {w : World} {neg : Bool} {a : Option Addr} {n cap k : Nat} {z : Int} (h : IntAt w neg a n cap k z) {B : Nat} {x0 : Bool} {y0 : Option Addr} {y1 y2 : Nat} (h0 : w.cell? ⟨B, 2, none⟩ = some (.bool x0))
    (h1 : w.cell? ⟨B, 3, none⟩ = some (.slice y0 y1 y2)) (u0 u1 : Value) : IntAt ((w.setCell ⟨B, 2, none⟩ u0).setCell ⟨B, 3, none⟩ u1) neg a n cap k z := by
  have hne : (⟨B, 2, none⟩ : Addr) ≠ ⟨B, 3, none⟩ := by simp
  have h2 : (w.setCell ⟨B, 2, none⟩ u0).cell? ⟨B, 3, none⟩ = some (.slice y0 y1 y2) := (World.cell?_setCell_other _ _ _ _ hne).trans h1
  exact (h.store h0 (fun _ e => by cases e) u0).store h2 (fun _ e => by cases e) u1

end Go.Proofs.Ytgmnknmjainabab

namespace Go.Proofs.Ytgmnknmjainabab
set_option linter.unusedVariables false
set_option linter.unusedSimpArgs false
set_option linter.unnecessarySimpa false
open Go.RowKit
attribute [local go_sem ↓] Go.wp_at_zero Go.wp_at_succ

/-- A number in a block that may be written. -/
structure VnC (w : World) (B : Nat) (x : Nm) : Prop where
  c : NmC w B x
  fz : ∀ o, w.frozen? ⟨B, o, none⟩ = false
theorem VnC.lt {w : World} {B : Nat} {x : Nm} (h : VnC w B x) : B < w.heap.size := h.c.lt
theorem VnC.below {w w' : World} {B : Nat} {x : Nm} (h : VnC w B x) (hb : Below w.heap.size w w') : VnC w' B x :=
  ⟨h.c.below hb, fun o => (hb.frozen (p := ⟨B, o, none⟩) h.lt).trans (h.fz o)⟩
abbrev put2w (w : World) (B : Nat) (x : Nm) : World := (w.setCell ⟨B, 0, none⟩ (.bool x.neg)).setCell ⟨B, 1, none⟩ (.slice x.a x.n x.cap)
theorem VnC.put {w : World} {B : Nat} {x : Nm} (h : VnC w B x) (y : Nm) : VnC (put2w w B y) B y := ⟨put_nm2 h.c y, put_fz2 h.fz _ _⟩
theorem VnC.off {w : World} {B B' : Nat} {x : Nm} (h : VnC w B x) (hne : B ≠ B') (y : Nm) : VnC (put2w w B' y) B x := ⟨h.c.off hne _ _, put_fz2 h.fz _ _⟩
theorem IntAt.putv {w : World} {neg : Bool} {a : Option Addr} {n cap k : Nat} {z : Int} (h : IntAt w neg a n cap k z) {B : Nat} {x : Nm} (hx : VnC w B x) (y : Nm) : IntAt (put2w w B y) neg a n cap k z := h.put2 hx.c.c0 hx.c.c1 _ _
theorem NoC.offv {w : World} {B B' : Nat} (h : NoC w B) (hne : B ≠ B') (y : Nm) : NoC (put2w w B' y) B := by
  obtain ⟨q0, q1, q2, q3, q4, q5⟩ := h
  exact ⟨by simp [go_sem, q0, hne, Ne.symm hne], by simp [go_sem, q1, hne, Ne.symm hne], by simp [go_sem, q2, hne, Ne.symm hne], by simp [go_sem, q3, hne, Ne.symm hne], by simp [go_sem, q4, hne, Ne.symm hne], put_fz2 q5 _ _⟩
theorem vnc_new (w : World) (x : Nm) (T : TypeId) : VnC (w.alloc (.cells #[.bool x.neg, .slice x.a x.n x.cap] T)) w.heap.size x := ⟨⟨by simp, by simp⟩, fun o => by simp [go_sem]⟩

/-- Where wide.RareOne is. -/
structure RaSt (w wr : World) (B : Nat) (X : Nm) (p q : Int) (k : Nat) (v : Int) : Prop where
  a : RaC wr w.heap.size p q
  x : VnC wr B X
  i : IntAt wr X.neg X.a X.n X.cap k v
  no : NoC wr (w.heap.size + 1)
  be : Below w.heap.size w wr
  l : w.heap.size + 1 < B
theorem RaSt.below {w wr wr' : World} {B : Nat} {X : Nm} {p q : Int} {k : Nat} {v : Int} (h : RaSt w wr B X p q k v) (hb : Below wr.heap.size wr wr') : RaSt w wr' B X p q k v :=
  ⟨h.a.below hb, h.x.below hb, h.i.below hb, h.no.below hb, bthen h.be hb, h.l⟩
theorem RaC.offv {w : World} {B B' : Nat} {p q : Int} (h : RaC w B p q) (hne : B ≠ B') (y : Nm) : RaC (put2w w B' y) B p q := by
  obtain ⟨q0, q1⟩ := h
  constructor <;> simp [go_sem, q0, q1, hne, Ne.symm hne]
theorem RaSt.put {w wr : World} {B : Nat} {X Y : Nm} {p q : Int} {k k' : Nat} {v v' : Int} (h : RaSt w wr B X p q k v) (hy : IntAt wr Y.neg Y.a Y.n Y.cap k' v') : RaSt w (put2w wr B Y) B Y p q k' v' :=
  ⟨h.a.offv (by have := h.l; omega) Y, h.x.put Y, hy.putv h.x Y, h.no.offv (by have := h.l; omega) Y, set2 h.be (by have := h.l; omega) _ _, h.l⟩

end Go.Proofs.Ytgmnknmjainabab

namespace Go.Proofs.Ytgmnknmjainabab
set_option linter.unusedVariables false
set_option linter.unusedSimpArgs false
set_option linter.unnecessarySimpa false
open Go.RowKit
attribute [local go_sem ↓] Go.wp_at_zero Go.wp_at_succ

/-- What wide.balanced answers. -/
def BalAns (w : World) (k : Nat) (n d : Int) (r : Ending) (w' : World) : Prop :=
  ∃ (X Y : Nm) (n' d' c : Int), r = .returned (.tuple #[.agg #[.bool X.neg, .slice X.a X.n X.cap], .agg #[.bool Y.neg, .slice Y.a Y.n Y.cap], .int .i64 c]) ∧ Bal n d n' d' c ∧ -(16 * k + 1) ≤ c ∧ c ≤ 16 * k + 1 ∧ IntAt w' X.neg X.a X.n X.cap (k + k + 20) n' ∧ IntAt w' Y.neg Y.a Y.n Y.cap (k + k + 20) d' ∧ Below w.heap.size w w'
theorem bal_near {n d : Int} {L L' : Nat} (h1 : Q L ≤ n) (h2 : n < Q (L + 1)) (h3 : Q L' ≤ d) (h4 : d < Q (L' + 1)) (a b : Nat) (hab : L + a = L' + b) : n * Q a < 2 * (d * Q b) ∧ d * Q b < 2 * (n * Q a) := by
  have qa := Q_pos a
  have qb := Q_pos b
  have e1 : Q L * Q a = Q L' * Q b := by rw [← Q_add, ← Q_add, hab]
  have e2 : Q (L + 1) = 2 * Q L := rfl
  have e3 : Q (L' + 1) = 2 * Q L' := rfl
  have g1 := Int.mul_le_mul_of_nonneg_right h1 (show 0 ≤ Q a by omega)
  have g2 := Int.mul_lt_mul_of_pos_right h2 (show 0 < Q a by omega)
  have g3 := Int.mul_le_mul_of_nonneg_right h3 (show 0 ≤ Q b by omega)
  have g4 := Int.mul_lt_mul_of_pos_right h4 (show 0 < Q b by omega)
  rw [e2, Int.mul_assoc] at g2
  rw [e3, Int.mul_assoc] at g4
  omega
/-- The three ways. -/
theorem bal_a {n d n1 d1 c : Int} (hn : 0 < n1) (hd : 0 < d1) (h1 : 0 ≤ c → n * d1 = n1 * d * Q c.toNat) (h2 : c < 0 → n * d1 * Q (-c).toNat = n1 * d) (g1 : n1 < 2 * d1) (g2 : d1 < 2 * n1) (hc : d1 * 3 < n1 * 2) : Bal n d n1 (d1 * 2) (c + 1) := by
  refine ⟨⟨hn, by omega, by omega, by omega⟩, fun h => ?_, fun h => ?_⟩
  · by_cases h0 : 0 ≤ c
    · have e := h1 h0
      have : (c + 1).toNat = c.toNat + 1 := by omega
      rw [this]
      have e2 : Q (c.toNat + 1) = 2 * Q c.toNat := rfl
      rw [e2]
      have : n * (d1 * 2) = 2 * (n * d1) := by grind
      rw [this, e]; grind
    · have hc : c = -1 := by omega
      have e := h2 (by omega)
      subst hc
      have e3 : Q (-(-1 : Int)).toNat = 2 := rfl
      rw [e3] at e
      have e4 : Q ((-1 : Int) + 1).toNat = 1 := rfl
      rw [e4]
      have : n * (d1 * 2) = n * d1 * 2 := by grind
      rw [this, e]; grind
  · have e := h2 (by omega)
    have : (-c).toNat = (-(c + 1)).toNat + 1 := by omega
    rw [this] at e
    have e2 : Q ((-(c + 1)).toNat + 1) = 2 * Q (-(c + 1)).toNat := rfl
    rw [e2] at e
    rw [← e]; grind
theorem bal_b {n d n1 d1 c : Int} (hn : 0 < n1) (hd : 0 < d1) (h1 : 0 ≤ c → n * d1 = n1 * d * Q c.toNat) (h2 : c < 0 → n * d1 * Q (-c).toNat = n1 * d) (g1 : n1 < 2 * d1) (g2 : d1 < 2 * n1) (hc : n1 * 4 < d1 * 3) : Bal n d (n1 * 2) d1 (c - 1) := by
  refine ⟨⟨by omega, hd, by omega, by omega⟩, fun h => ?_, fun h => ?_⟩
  · have e := h1 (by omega)
    have : c.toNat = (c - 1).toNat + 1 := by omega
    rw [this] at e
    have e2 : Q ((c - 1).toNat + 1) = 2 * Q (c - 1).toNat := rfl
    rw [e2] at e
    rw [e]; grind
  · by_cases h0 : 0 ≤ c
    · have hc : c = 0 := by omega
      have e := h1 h0
      subst hc
      have e3 : Q ((0 : Int)).toNat = 1 := rfl
      rw [e3] at e
      have e4 : Q (-((0 : Int) - 1)).toNat = 2 := rfl
      rw [e4, e]; grind
    · have e := h2 (by omega)
      have : (-(c - 1)).toNat = (-c).toNat + 1 := by omega
      rw [this]
      have e2 : Q ((-c).toNat + 1) = 2 * Q (-c).toNat := rfl
      rw [e2]
      have : n * d1 * (2 * Q (-c).toNat) = 2 * (n * d1 * Q (-c).toNat) := by grind
      rw [this, e]; grind
theorem bal_c {n d n1 d1 c : Int} (hn : 0 < n1) (hd : 0 < d1) (h1 : 0 ≤ c → n * d1 = n1 * d * Q c.toNat) (h2 : c < 0 → n * d1 * Q (-c).toNat = n1 * d) (hc : ¬ d1 * 3 < n1 * 2) (hc2 : ¬ n1 * 4 < d1 * 3) : Bal n d n1 d1 c :=
  ⟨⟨hn, hd, by omega, by omega⟩, h1, h2⟩
/-- A number of so many digits is so long at most. -/
theorem len_dig {w : World} {neg : Bool} {a : Option Addr} {n cap k : Nat} {z : Int} {L : Nat} (h : IntAt w neg a n cap k z) (hL : Q L ≤ z) (hz : 0 ≤ z) : L < 16 * k + 1 := by
  obtain ⟨d, h1, h2, h3, h4, h5⟩ := h
  have hV := V_lt h1.dgs n
  have hV0 := V_nonneg h1.dgs n
  have hP := P_mono h4
  have eP := Q_P k
  have hz2 : z < Q (16 * k) := by
    cases neg
    · simp [sgn] at h5; omega
    · simp [sgn] at h5; have := Q_pos (16 * k); omega
  refine Nat.lt_of_not_le fun h => ?_
  have := Q_mono (show 16 * k ≤ L by omega)
  omega

theorem up_at (neg : Bool) (a : Option Addr) (n cap : Nat) (κ : Int) (A k1 : Nat) (x : Int) (w : World) (hκ : κ = (A : Int)) (h1 : IntAt w neg a n cap k1 x) (hk1 : k1 ≤ 1000000000) (hk : A ≤ 1000000000) :
    Calls Try.prog 113 #[.agg #[.bool neg, .slice a n cap], .int .i64 κ] w (IntAns w (A / 16 + k1 + 1) (x * Q A)) := by
  subst hκ; exact up_int neg a n cap A k1 x w h1 hk1 hk

theorem bal_put {w wc w2 : World} {x y : Nm} {K : Nat} {z1 z2 : Int} (hD : Below wc.heap.size wc w2) (hx : NmC w2 w.heap.size x) (hy : NmC w2 (w.heap.size + 1) y) (X Y : Nm) (iX : IntAt w2 X.neg X.a X.n X.cap K z1) (iY : IntAt w2 Y.neg Y.a Y.n Y.cap K z2) (R : NoI wc (w.heap.size + 1 + 1)) (R2 : NoI wc (w.heap.size + 1 + 1 + 1)) (hB : Below w.heap.size w wc) :
    ∃ X' Y' : Nm, NmC ((((w2.setCell ⟨w.heap.size, 0, none⟩ (.bool X.neg)).setCell ⟨w.heap.size, 1, none⟩ (.slice X.a X.n X.cap)).setCell ⟨w.heap.size + 1, 0, none⟩ (.bool Y.neg)).setCell ⟨w.heap.size + 1, 1, none⟩ (.slice Y.a Y.n Y.cap)) w.heap.size X' ∧ NmC ((((w2.setCell ⟨w.heap.size, 0, none⟩ (.bool X.neg)).setCell ⟨w.heap.size, 1, none⟩ (.slice X.a X.n X.cap)).setCell ⟨w.heap.size + 1, 0, none⟩ (.bool Y.neg)).setCell ⟨w.heap.size + 1, 1, none⟩ (.slice Y.a Y.n Y.cap)) (w.heap.size + 1) Y' ∧ IntAt ((((w2.setCell ⟨w.heap.size, 0, none⟩ (.bool X.neg)).setCell ⟨w.heap.size, 1, none⟩ (.slice X.a X.n X.cap)).setCell ⟨w.heap.size + 1, 0, none⟩ (.bool Y.neg)).setCell ⟨w.heap.size + 1, 1, none⟩ (.slice Y.a Y.n Y.cap)) X'.neg X'.a X'.n X'.cap K z1 ∧ IntAt ((((w2.setCell ⟨w.heap.size, 0, none⟩ (.bool X.neg)).setCell ⟨w.heap.size, 1, none⟩ (.slice X.a X.n X.cap)).setCell ⟨w.heap.size + 1, 0, none⟩ (.bool Y.neg)).setCell ⟨w.heap.size + 1, 1, none⟩ (.slice Y.a Y.n Y.cap)) Y'.neg Y'.a Y'.n Y'.cap K z2 ∧ NoI ((((w2.setCell ⟨w.heap.size, 0, none⟩ (.bool X.neg)).setCell ⟨w.heap.size, 1, none⟩ (.slice X.a X.n X.cap)).setCell ⟨w.heap.size + 1, 0, none⟩ (.bool Y.neg)).setCell ⟨w.heap.size + 1, 1, none⟩ (.slice Y.a Y.n Y.cap)) (w.heap.size + 1 + 1) ∧ NoI ((((w2.setCell ⟨w.heap.size, 0, none⟩ (.bool X.neg)).setCell ⟨w.heap.size, 1, none⟩ (.slice X.a X.n X.cap)).setCell ⟨w.heap.size + 1, 0, none⟩ (.bool Y.neg)).setCell ⟨w.heap.size + 1, 1, none⟩ (.slice Y.a Y.n Y.cap)) (w.heap.size + 1 + 1 + 1) ∧ Below w.heap.size w ((((w2.setCell ⟨w.heap.size, 0, none⟩ (.bool X.neg)).setCell ⟨w.heap.size, 1, none⟩ (.slice X.a X.n X.cap)).setCell ⟨w.heap.size + 1, 0, none⟩ (.bool Y.neg)).setCell ⟨w.heap.size + 1, 1, none⟩ (.slice Y.a Y.n Y.cap)) := by
  have hy1 := hy.off (B' := w.heap.size) (by omega) (.bool X.neg) (.slice X.a X.n X.cap)
  have hx1 := put_nm2 hx X
  have i1 := iX.put2 hx.c0 hx.c1 (.bool X.neg) (.slice X.a X.n X.cap)
  have i2 := iY.put2 hx.c0 hx.c1 (.bool X.neg) (.slice X.a X.n X.cap)
  have r1 := (R.below hD).off (B' := w.heap.size) (by omega) (.bool X.neg) (.slice X.a X.n X.cap)
  have r2 := (R2.below hD).off (B' := w.heap.size) (by omega) (.bool X.neg) (.slice X.a X.n X.cap)
  have b1 := set2 (bthen hB hD) (Nat.le_refl _) (.bool X.neg) (.slice X.a X.n X.cap)
  generalize (w2.setCell ⟨w.heap.size, 0, none⟩ (.bool X.neg)).setCell ⟨w.heap.size, 1, none⟩ (.slice X.a X.n X.cap) = V at *
  exact ⟨X, Y, hx1.off (by omega) _ _, put_nm2 hy1 Y, i1.put2 hy1.c0 hy1.c1 _ _, i2.put2 hy1.c0 hy1.c1 _ _, r1.off (by omega) _ _, r2.off (by omega) _ _, set2 b1 (Nat.le_succ _) _ _⟩

theorem cmp_gtB (x y : Int) : decide (0 < cmpInt x y) = decide (y < x) := by
  unfold cmpInt
  by_cases h1 : x < y
  · have : ¬ y < x := by omega
    simp [h1, this]
  · by_cases h2 : y < x
    · simp [h1, h2]
    · simp [h1, h2]
theorem cmp_ltB (x y : Int) : decide (cmpInt x y < 0) = decide (x < y) := by
  unfold cmpInt
  by_cases h1 : x < y
  · simp [h1]
  · by_cases h2 : y < x
    · simp [h1, h2]
    · simp [h1, h2]

theorem bal_end {w w1 : World} {X Y : Nm} {K : Nat} {z1 z2 : Int} (R : NoI w1 (w.heap.size + 1 + 1)) (R2 : NoI w1 (w.heap.size + 1 + 1 + 1)) (iX : IntAt w1 X.neg X.a X.n X.cap K z1) (iY : IntAt w1 Y.neg Y.a Y.n Y.cap K z2) (hB : Below w.heap.size w w1) :
    IntAt ((((w1.setCell ⟨w.heap.size + 1 + 1, 0, none⟩ (.bool X.neg)).setCell ⟨w.heap.size + 1 + 1, 1, none⟩ (.slice X.a X.n X.cap)).setCell ⟨w.heap.size + 1 + 1 + 1, 0, none⟩ (.bool Y.neg)).setCell ⟨w.heap.size + 1 + 1 + 1, 1, none⟩ (.slice Y.a Y.n Y.cap)) X.neg X.a X.n X.cap K z1 ∧ IntAt ((((w1.setCell ⟨w.heap.size + 1 + 1, 0, none⟩ (.bool X.neg)).setCell ⟨w.heap.size + 1 + 1, 1, none⟩ (.slice X.a X.n X.cap)).setCell ⟨w.heap.size + 1 + 1 + 1, 0, none⟩ (.bool Y.neg)).setCell ⟨w.heap.size + 1 + 1 + 1, 1, none⟩ (.slice Y.a Y.n Y.cap)) Y.neg Y.a Y.n Y.cap K z2 ∧ Below w.heap.size w ((((w1.setCell ⟨w.heap.size + 1 + 1, 0, none⟩ (.bool X.neg)).setCell ⟨w.heap.size + 1 + 1, 1, none⟩ (.slice X.a X.n X.cap)).setCell ⟨w.heap.size + 1 + 1 + 1, 0, none⟩ (.bool Y.neg)).setCell ⟨w.heap.size + 1 + 1 + 1, 1, none⟩ (.slice Y.a Y.n Y.cap)) := by
  have r2 := R2.off (B' := w.heap.size + 1 + 1) (by omega) (.bool X.neg) (.slice X.a X.n X.cap)
  have i1 := iX.put2 R.c0 R.c1 (.bool X.neg) (.slice X.a X.n X.cap)
  have i2 := iY.put2 R.c0 R.c1 (.bool X.neg) (.slice X.a X.n X.cap)
  have b1 := set2 hB (show w.heap.size ≤ w.heap.size + 1 + 1 by omega) (.bool X.neg) (.slice X.a X.n X.cap)
  generalize (w1.setCell ⟨w.heap.size + 1 + 1, 0, none⟩ (.bool X.neg)).setCell ⟨w.heap.size + 1 + 1, 1, none⟩ (.slice X.a X.n X.cap) = V at *
  exact ⟨i1.put2 r2.c0 r2.c1 _ _, i2.put2 r2.c0 r2.c1 _ _, set2 b1 (by omega) _ _⟩

set_option maxRecDepth 100000 in
set_option maxHeartbeats 4000000 in
theorem balanced_int (w : World) (x y : Nm) (k : Nat) (n d : Int) (hx : IntAt w x.neg x.a x.n x.cap k n) (hy : IntAt w y.neg y.a y.n y.cap k d) (hn : 0 < n) (hd : 0 < d) (hk : k ≤ 1000000) :
    Calls Try.prog 155 #[.agg #[.bool x.neg, .slice x.a x.n x.cap], .agg #[.bool y.neg, .slice y.a y.n y.cap]] w (BalAns w k n d) := by
  obtain ⟨W, hW⟩ : ∃ W, W = (((w.alloc (.cells #[.bool x.neg, .slice x.a x.n x.cap] 26)).alloc (.cells #[.bool y.neg, .slice y.a y.n y.cap] 26)).alloc (.cells #[.bool false, .slice none 0 0] 26)).alloc (.cells #[.bool false, .slice none 0 0] 26) := ⟨_, rfl⟩
  have hBW : Below w.heap.size w W := by rw [hW]; exact bl4 _ _ _ _ _
  have X : NmC W w.heap.size x := by rw [hW]; exact ⟨by simp [go_sem], by simp [go_sem]⟩
  have FX : ∀ o, W.frozen? ⟨w.heap.size, o, none⟩ = false := by rw [hW]; intro o; simp [go_sem]
  have Y : NmC W (w.heap.size + 1) y := by rw [hW]; exact ⟨by simp [go_sem], by simp [go_sem]⟩
  have FY : ∀ o, W.frozen? ⟨w.heap.size + 1, o, none⟩ = false := by rw [hW]; intro o; simp [go_sem]
  have R : NoI W (w.heap.size + 1 + 1) := by rw [hW]; exact ⟨by simp [go_sem], by simp [go_sem], fun o => by simp [go_sem]⟩
  have R2 : NoI W (w.heap.size + 1 + 1 + 1) := by rw [hW]; exact ⟨by simp [go_sem], by simp [go_sem], fun o => by simp [go_sem]⟩
  have HX := hide (hx.below hBW)
  have HY := hide (hy.below hBW)
  have lX := X.lt
  have lY := Y.lt
  have lR := R.lt
  have lR2 := R2.lt
  have HK := hide (show ∀ w', Below W.heap.size W w' → (w'.cell? ⟨w.heap.size, 0, none⟩ = some (.bool x.neg) ∧ w'.cell? ⟨w.heap.size, 1, none⟩ = some (.slice x.a x.n x.cap) ∧ w'.cell? ⟨w.heap.size + 1, 0, none⟩ = some (.bool y.neg) ∧ w'.cell? ⟨w.heap.size + 1, 1, none⟩ = some (.slice y.a y.n y.cap)) from fun w' hB => ⟨(X.below hB).c0, (X.below hB).c1, (Y.below hB).c0, (Y.below hB).c1⟩)
  go_enter Try.func155, Try.ntmps155
  go_wp2
  rw [← hW]
  clear hW hx hy
  obtain ⟨x0, x1, x2, x3⟩ := unhide HK _ (Below.refl _ _)
  have hD0 : Below W.heap.size W W.drew := (Below.refl _ _).drew
  go_cut [7] (fun p wx => ∃ (L L' : Nat) (D : Int), p = .int .i64 D ∧ D = (L : Int) - (L' : Int) ∧ Q L ≤ n ∧ n < Q (L + 1) ∧ Q L' ≤ d ∧ d < Q (L' + 1) ∧ L < 16 * k + 1 ∧ L' < 16 * k + 1 ∧ Below W.heap.size W wx)
  case first =>
    go_region_held3 (fun w' => w'.cell? ⟨w.heap.size, 0, none⟩ = some (.bool x.neg) ∧ w'.cell? ⟨w.heap.size, 1, none⟩ = some (.slice x.a x.n x.cap) ∧ w'.cell? ⟨w.heap.size + 1, 0, none⟩ = some (.bool y.neg) ∧ w'.cell? ⟨w.heap.size + 1, 1, none⟩ = some (.slice y.a y.n y.cap)) (first | exact unhide HK _ (by first | with_reducible exact hD0 | with_reducible exact hD2 | with_reducible exact hD1) | go_keep)
      (first
        | (go_at_call 97; have hq := hD1; refine (len_int _ _ _ _ _ d _ ((unhide HY).below hD1) (by omega)).mono ?_; rintro r' w2 ⟨l2, hlen2, rfl, hb2⟩; have hD2 := bthen hD1 hb2)
        | (go_at_call 97; refine (len_int _ _ _ _ _ n _ ((unhide HX).below hD0) (by omega)).mono ?_; rintro r' w1 ⟨l1, hlen1, rfl, hb1⟩; have hD1 := bthen hD0 hb1))
    all_goals
      obtain ⟨L, e1, e2, e3⟩ := hlen1.2.2 hn
      obtain ⟨L', f1, f2, f3⟩ := hlen2.2.2 hd
      have hL := len_dig (unhide HX) e2 (by omega)
      have hL' := len_dig (unhide HY) f2 (by omega)
      have HE := hide e1
      have HF := hide f1
      clear e1 f1
      go_wp2_with fail
      go_meet
      exact ⟨L, L', _, rfl, (by rw [i64_id _ (by have := unhide HE; have := unhide HF; omega) (by have := unhide HE; have := unhide HF; omega)]; have := unhide HE; have := unhide HF; omega), e2, e3, f2, f3, hL, hL', hD2⟩
  case rest =>
  obtain ⟨L, L', D, rfl, hD, e2, e3, f2, f3, hL, hL', hb0⟩ := hcut
  have hbal := bal_near e2 e3 f2 f3
  have HBAL := hide hbal
  clear hbal e2 e3 f2 f3 x0 x1 x2 x3 hD0
  replace X := X.below hb0
  replace Y := Y.below hb0
  replace R := R.below hb0
  replace R2 := R2.below hb0
  have FX0 : ∀ o, wc.frozen? ⟨w.heap.size, o, none⟩ = false := fun o => (hb0.frozen (p := ⟨w.heap.size, o, none⟩) lX).trans (FX o)
  have FY0 : ∀ o, wc.frozen? ⟨w.heap.size + 1, o, none⟩ = false := fun o => (hb0.frozen (p := ⟨w.heap.size + 1, o, none⟩) lY).trans (FY o)
  replace HX := hide ((unhide HX).below hb0)
  replace HY := hide ((unhide HY).below hb0)
  replace hBW := bthen hBW hb0
  clear HK lX lY lR lR2 FX FY hb0
  have lX := X.lt
  have lY := Y.lt
  have lR := R.lt
  have lR2 := R2.lt
  obtain ⟨A, hA⟩ : ∃ A : Nat, (A : Int) = max 0 (-D) := ⟨(max 0 (-D)).toNat, by omega⟩
  obtain ⟨C, hC⟩ : ∃ C : Nat, (C : Int) = max 0 D := ⟨(max 0 D).toNat, by omega⟩
  have hwD : IntKind.i64.wrap (-D) = -D := i64_id _ (by omega) (by omega)
  have hDA : D ≤ 16 * k ∧ -(16 * k) ≤ D := by omega
  have hbal := unhide HBAL A C (by omega)
  have HA := hide hA
  have HC := hide hC
  have HD := hide hD
  have HW := hide hwD
  have HDA := hide hDA
  have hAk : A ≤ 16 * k := by omega
  have hCk : C ≤ 16 * k := by omega
  have HB2 := hide hbal
  clear hA hC hD hwD hDA HBAL hL hL' hbal
  go_wp2_with fail
  go_cut [7] (fun p wx => p = .int .i64 D ∧ ∃ X Y : Nm, NmC wx w.heap.size X ∧ NmC wx (w.heap.size + 1) Y ∧ IntAt wx X.neg X.a X.n X.cap (k + k + 10) (n * Q A) ∧ IntAt wx Y.neg Y.a Y.n Y.cap (k + k + 10) (d * Q C) ∧ NoI wx (w.heap.size + 1 + 1) ∧ NoI wx (w.heap.size + 1 + 1 + 1) ∧ Below w.heap.size w wx)
  case first =>
    have HXC := hide X
    have HYC := hide Y
    obtain ⟨x0, x1⟩ := X
    obtain ⟨y0, y1⟩ := Y
    have HZA := hide (show (if 0 < IntKind.i64.wrap (-D) then IntKind.i64.wrap (-D) else 0) = (A : Int) by rw [unhide HW]; have := unhide HA; split <;> omega)
    have HZC := hide (show (if 0 < D then D else 0) = (C : Int) by have := unhide HC; split <;> omega)
    by_cases d1 : 0 < D
    · have d2 : IntKind.i64.wrap (-D) ≤ 0 := by rw [unhide HW]; omega
      have HZA1 := hide (show (0 : Int) = (A : Int) by have := unhide HA; omega)
      have HZC1 := hide (show D = (C : Int) by have := unhide HC; omega)
      go_region_with
        (first
          | (go_at_call 113; have hq := hD1; (with_reducible refine (up_at _ _ _ _ _ C k d _ (by first | with_reducible exact unhide HZC1 | with_reducible exact unhide HZC) ((unhide HY).below hD1) (by omega) (by omega)).mono ?_); rintro r' w2 ⟨neg2, a2, n2, c2, rfl, hint2, hb2⟩; have hD2 := bthen hD1 hb2; have l2X := Nat.lt_of_lt_of_le lX hD2.size; have l2Y := Nat.lt_of_lt_of_le lY hD2.size; replace hint1 := hint1.below hb2; obtain ⟨x4, x5⟩ := (unhide HXC).below hD2; obtain ⟨y4, y5⟩ := (unhide HYC).below hD2; have F2 : ∀ o, w2.frozen? ⟨w.heap.size, o, none⟩ = false := (fun o => (hD2.frozen (p := ⟨w.heap.size, o, none⟩) lX).trans (FX0 o)); have G2 : ∀ o, w2.frozen? ⟨w.heap.size + 1, o, none⟩ = false := (fun o => (hD2.frozen (p := ⟨w.heap.size + 1, o, none⟩) lY).trans (FY0 o)))
          | (go_at_call 113; (with_reducible refine (up_at _ _ _ _ _ A k n _ (by first | with_reducible exact unhide HZA1 | with_reducible exact unhide HZA) ((unhide HX).below (Below.refl _ _).drew) (by omega) (by omega)).mono ?_); rintro r' w1 ⟨neg1, a1, n1, c1, rfl, hint1, hb1⟩; have hD1 : Below wc.heap.size wc w1 := bthen (Below.refl _ _).drew hb1; obtain ⟨y2, y3⟩ := (unhide HYC).below hD1; obtain ⟨x2, x3⟩ := (unhide HXC).below hD1; have l1X := Nat.lt_of_lt_of_le lX hD1.size; have l1Y := Nat.lt_of_lt_of_le lY hD1.size))
      all_goals
        go_wp2_with fail
        go_meet
        exact ⟨rfl, bal_put hD2 (NmC.mk x4 x5) (NmC.mk y4 y5) ⟨neg1, a1, n1, c1⟩ ⟨neg2, a2, n2, c2⟩ (hint1.mono (by omega)) (hint2.mono (by omega)) R R2 hBW⟩
    · by_cases d3 : D < 0
      · have d2 : 0 < IntKind.i64.wrap (-D) := by rw [unhide HW]; omega
        have d4 : D ≤ 0 := by omega
        have HZA1 := hide (show IntKind.i64.wrap (-D) = (A : Int) by rw [unhide HW]; have := unhide HA; omega)
        have HZC1 := hide (show (0 : Int) = (C : Int) by have := unhide HC; omega)
        go_region_with
          (first
            | (go_at_call 113; have hq := hD1; (with_reducible refine (up_at _ _ _ _ _ C k d _ (by first | with_reducible exact unhide HZC1 | with_reducible exact unhide HZC) ((unhide HY).below hD1) (by omega) (by omega)).mono ?_); rintro r' w2 ⟨neg2, a2, n2, c2, rfl, hint2, hb2⟩; have hD2 := bthen hD1 hb2; have l2X := Nat.lt_of_lt_of_le lX hD2.size; have l2Y := Nat.lt_of_lt_of_le lY hD2.size; replace hint1 := hint1.below hb2; obtain ⟨x4, x5⟩ := (unhide HXC).below hD2; obtain ⟨y4, y5⟩ := (unhide HYC).below hD2; have F2 : ∀ o, w2.frozen? ⟨w.heap.size, o, none⟩ = false := (fun o => (hD2.frozen (p := ⟨w.heap.size, o, none⟩) lX).trans (FX0 o)); have G2 : ∀ o, w2.frozen? ⟨w.heap.size + 1, o, none⟩ = false := (fun o => (hD2.frozen (p := ⟨w.heap.size + 1, o, none⟩) lY).trans (FY0 o)))
            | (go_at_call 113; (with_reducible refine (up_at _ _ _ _ _ A k n _ (by first | with_reducible exact unhide HZA1 | with_reducible exact unhide HZA) ((unhide HX).below (Below.refl _ _).drew) (by omega) (by omega)).mono ?_); rintro r' w1 ⟨neg1, a1, n1, c1, rfl, hint1, hb1⟩; have hD1 : Below wc.heap.size wc w1 := bthen (Below.refl _ _).drew hb1; obtain ⟨y2, y3⟩ := (unhide HYC).below hD1; obtain ⟨x2, x3⟩ := (unhide HXC).below hD1; have l1X := Nat.lt_of_lt_of_le lX hD1.size; have l1Y := Nat.lt_of_lt_of_le lY hD1.size))
        all_goals
          go_wp2_with fail
          go_meet
          exact ⟨rfl, bal_put hD2 (NmC.mk x4 x5) (NmC.mk y4 y5) ⟨neg1, a1, n1, c1⟩ ⟨neg2, a2, n2, c2⟩ (hint1.mono (by omega)) (hint2.mono (by omega)) R R2 hBW⟩
      · have d2 : IntKind.i64.wrap (-D) ≤ 0 := by rw [unhide HW]; omega
        have d4 : D ≤ 0 := by omega
        have HZA1 := hide (show (0 : Int) = (A : Int) by have := unhide HA; omega)
        have HZC1 := hide (show (0 : Int) = (C : Int) by have := unhide HC; omega)
        go_region_with
          (first
            | (go_at_call 113; have hq := hD1; (with_reducible refine (up_at _ _ _ _ _ C k d _ (by first | with_reducible exact unhide HZC1 | with_reducible exact unhide HZC) ((unhide HY).below hD1) (by omega) (by omega)).mono ?_); rintro r' w2 ⟨neg2, a2, n2, c2, rfl, hint2, hb2⟩; have hD2 := bthen hD1 hb2; have l2X := Nat.lt_of_lt_of_le lX hD2.size; have l2Y := Nat.lt_of_lt_of_le lY hD2.size; replace hint1 := hint1.below hb2; obtain ⟨x4, x5⟩ := (unhide HXC).below hD2; obtain ⟨y4, y5⟩ := (unhide HYC).below hD2; have F2 : ∀ o, w2.frozen? ⟨w.heap.size, o, none⟩ = false := (fun o => (hD2.frozen (p := ⟨w.heap.size, o, none⟩) lX).trans (FX0 o)); have G2 : ∀ o, w2.frozen? ⟨w.heap.size + 1, o, none⟩ = false := (fun o => (hD2.frozen (p := ⟨w.heap.size + 1, o, none⟩) lY).trans (FY0 o)))
            | (go_at_call 113; (with_reducible refine (up_at _ _ _ _ _ A k n _ (by first | with_reducible exact unhide HZA1 | with_reducible exact unhide HZA) ((unhide HX).below (Below.refl _ _).drew) (by omega) (by omega)).mono ?_); rintro r' w1 ⟨neg1, a1, n1, c1, rfl, hint1, hb1⟩; have hD1 : Below wc.heap.size wc w1 := bthen (Below.refl _ _).drew hb1; obtain ⟨y2, y3⟩ := (unhide HYC).below hD1; obtain ⟨x2, x3⟩ := (unhide HXC).below hD1; have l1X := Nat.lt_of_lt_of_le lX hD1.size; have l1Y := Nat.lt_of_lt_of_le lY hD1.size))
        all_goals
          go_wp2_with fail
          go_meet
          exact ⟨rfl, bal_put hD2 (NmC.mk x4 x5) (NmC.mk y4 y5) ⟨neg1, a1, n1, c1⟩ ⟨neg2, a2, n2, c2⟩ (hint1.mono (by omega)) (hint2.mono (by omega)) R R2 hBW⟩
  case rest =>
  obtain ⟨rfl, X, Y, hX, hY, iX, iY, R, R2, hBW⟩ := hcut
  have hQA := Q_pos A
  have hQC := Q_pos C
  have hnA : 0 < n * Q A := Int.mul_pos hn (by omega)
  have hdC : 0 < d * Q C := Int.mul_pos hd (by omega)
  obtain ⟨N1, hN1⟩ : ∃ N1, N1 = n * Q A := ⟨_, rfl⟩
  obtain ⟨D1, hD1⟩ : ∃ D1, D1 = d * Q C := ⟨_, rfl⟩
  have hm1 : 0 ≤ D → n * D1 = N1 * d * Q D.toNat := fun h => by
    have e1 : A = 0 := by have := unhide HA; omega
    have e2 : D.toNat = C := by have := unhide HC; omega
    rw [hN1, hD1, e1, e2]; simp only [Q]; grind
  have hm2 : D < 0 → n * D1 * Q (-D).toNat = N1 * d := fun h => by
    have e1 : C = 0 := by have := unhide HC; omega
    have e2 : (-D).toNat = A := by have := unhide HA; omega
    rw [hN1, hD1, e1, e2]; simp only [Q]; grind
  have HM1 := hide hm1
  have HM2 := hide hm2
  have HDA2 := unhide HDA
  have HB3 : Hid (N1 < 2 * D1 ∧ D1 < 2 * N1) := hide (by rw [hN1, hD1]; exact unhide HB2)
  rw [← hN1] at iX hnA
  rw [← hD1] at iY hdC
  clear hm1 hm2 HA HC HD HW HDA hQA hQC hN1 hD1 HB2
  have HIX := hide iX
  have HIY := hide iY
  have HXC := hide hX
  have HYC := hide hY
  have lX := hX.lt
  have lY := hY.lt
  have lR := R.lt
  have lR2 := R2.lt
  have HK := hide (show ∀ w', Below wc.heap.size wc w' → (w'.cell? ⟨w.heap.size, 0, none⟩ = some (.bool X.neg) ∧ w'.cell? ⟨w.heap.size, 1, none⟩ = some (.slice X.a X.n X.cap) ∧ w'.cell? ⟨w.heap.size + 1, 0, none⟩ = some (.bool Y.neg) ∧ w'.cell? ⟨w.heap.size + 1, 1, none⟩ = some (.slice Y.a Y.n Y.cap)) from fun w' hB => ⟨(hX.below hB).c0, (hX.below hB).c1, (hY.below hB).c0, (hY.below hB).c1⟩)
  clear iX iY hX hY
  obtain ⟨x0, x1, y0, y1⟩ := unhide HK _ (Below.refl _ _)
  have hD0 : Below wc.heap.size wc wc.drew := (Below.refl _ _).drew
  go_wp2_with fail
  go_cut [22] (fun p wx => p = .bool (decide (D1 * 3 < N1 * 2)) ∧ Below wc.heap.size wc wx)
  case first =>
    go_region_held3 (fun w' => w'.cell? ⟨w.heap.size, 0, none⟩ = some (.bool X.neg) ∧ w'.cell? ⟨w.heap.size, 1, none⟩ = some (.slice X.a X.n X.cap) ∧ w'.cell? ⟨w.heap.size + 1, 0, none⟩ = some (.bool Y.neg) ∧ w'.cell? ⟨w.heap.size + 1, 1, none⟩ = some (.slice Y.a Y.n Y.cap)) (first | exact unhide HK _ (by first | with_reducible exact hD0 | with_reducible exact hD4 | with_reducible exact hD3 | with_reducible exact hD2 | with_reducible exact hD1) | go_keep)
      (first
        | (go_at_call 24; have hq := hD3; refine (cmp_int _ _ _ _ _ _ _ _ _ _ (N1 * 2) (D1 * 3) _ ((hint1.below hb2).below hb3) hint3).mono ?_; rintro r' w4 ⟨rfl, hb4⟩; have hD4 := bthen hD3 hb4)
        | (go_at_call 84; have hq := hD2; refine (mul_int _ _ _ _ _ _ _ _ (k + k + 10) 4 D1 3 _ ((unhide HIY).below hD2) hint2 (by omega) (by omega)).mono ?_; rintro r' w3 ⟨neg3, a3, n3, c3, rfl, hint3, hb3⟩; have hD3 := bthen hD2 hb3)
        | (go_at_call 48; have hq := hD1; refine (numOf_int 3 _ (by decide) (by decide)).mono ?_; rintro r' w2 ⟨neg2, a2, n2, c2, rfl, hint2, hb2⟩; have hD2 := bthen hD1 hb2)
        | (go_at_call 113; refine (up_at _ _ _ _ _ 1 (k + k + 10) N1 _ rfl ((unhide HIX).below hD0) (by omega) (by omega)).mono ?_; rintro r' w1 ⟨neg1, a1, n1, c1, rfl, hint1, hb1⟩; have hD1 := bthen hD0 hb1))
    all_goals
      go_wp2_with fail
      go_meet
      exact ⟨congrArg _ (cmp_gtB _ _), hD4⟩
  case rest =>
  obtain ⟨rfl, hb1⟩ := hcut
  have HXC := hide ((unhide HXC).below hb1)
  have HYC := hide ((unhide HYC).below hb1)
  have HIX := hide ((unhide HIX).below hb1)
  have HIY := hide ((unhide HIY).below hb1)
  replace R := R.below hb1
  replace R2 := R2.below hb1
  replace hBW := bthen hBW hb1
  have lX := (unhide HXC).lt
  have lY := (unhide HYC).lt
  have lR := R.lt
  have lR2 := R2.lt
  have HK := hide (show ∀ w', Below wc.heap.size wc w' → (w'.cell? ⟨w.heap.size, 0, none⟩ = some (.bool X.neg) ∧ w'.cell? ⟨w.heap.size, 1, none⟩ = some (.slice X.a X.n X.cap) ∧ w'.cell? ⟨w.heap.size + 1, 0, none⟩ = some (.bool Y.neg) ∧ w'.cell? ⟨w.heap.size + 1, 1, none⟩ = some (.slice Y.a Y.n Y.cap)) from fun w' hB => ⟨((unhide HXC).below hB).c0, ((unhide HXC).below hB).c1, ((unhide HYC).below hB).c0, ((unhide HYC).below hB).c1⟩)
  clear x0 x1 y0 y1 hD0
  obtain ⟨x0, x1, y0, y1⟩ := unhide HK _ (Below.refl _ _)
  have hD0 : Below wc.heap.size wc wc.drew := (Below.refl _ _).drew
  have n1 : w.heap.size ≠ w.heap.size + 1 + 1 := by omega
  have n2 : w.heap.size ≠ w.heap.size + 1 + 1 + 1 := by omega
  have n3 : w.heap.size + 1 ≠ w.heap.size + 1 + 1 := by omega
  have n4 : w.heap.size + 1 ≠ w.heap.size + 1 + 1 + 1 := by omega
  have n5 : w.heap.size + 1 + 1 ≠ w.heap.size + 1 + 1 + 1 := by omega
  have n6 : w.heap.size + 1 + 1 + 1 ≠ w.heap.size + 1 + 1 := by omega
  have n7 : w.heap.size + 1 + 1 ≠ w.heap.size := by omega
  have n8 : w.heap.size + 1 + 1 + 1 ≠ w.heap.size := by omega
  have n9 : w.heap.size + 1 + 1 ≠ w.heap.size + 1 := by omega
  have n10 : w.heap.size + 1 + 1 + 1 ≠ w.heap.size + 1 := by omega
  by_cases hc : D1 * 3 < N1 * 2
  · have HR : Hid (Bal n d N1 (D1 * 2) (D + 1)) := hide (by
      exact bal_a hnA hdC (unhide HM1) (unhide HM2) (unhide HB3).1 (unhide HB3).2 hc)
    have HW1 := hide (show IntKind.i64.wrap (D + 1) = D + 1 from i64_id _ (by omega) (by omega))
    have Hc := hide hc
    go_wp2_with fail
    go_region_held3 (fun w' => w'.cell? ⟨w.heap.size, 0, none⟩ = some (.bool X.neg) ∧ w'.cell? ⟨w.heap.size, 1, none⟩ = some (.slice X.a X.n X.cap) ∧ w'.cell? ⟨w.heap.size + 1, 0, none⟩ = some (.bool Y.neg) ∧ w'.cell? ⟨w.heap.size + 1, 1, none⟩ = some (.slice Y.a Y.n Y.cap)) (first | exact unhide HK _ (by first | with_reducible exact hD0 | with_reducible exact hD1) | go_keep)
      (first
        | (go_at_call 113; refine (up_at _ _ _ _ _ 1 (k + k + 10) D1 _ rfl ((unhide HIY).below hD0) (by omega) (by omega)).mono ?_; rintro r' w1 ⟨neg1, a1, n1', c1, rfl, hint1, hb1⟩; have hD1 := bthen hD0 hb1; obtain ⟨q0, q1, q2⟩ := R.below hD1; obtain ⟨p0, p1, p2⟩ := R2.below hD1; obtain ⟨z0, z1, z2, z3⟩ := unhide HK _ hD1))
    all_goals
      have HE := bal_end (w := w) (K := k + k + 20) (R.below hD1) (R2.below hD1) (X := X) (Y := ⟨neg1, a1, n1', c1⟩) (((unhide HIX).below hD1).mono (by omega)) (hint1.mono (by omega)) (bthen hBW hD1)
      go_wp2_with fail
      refine bodyPost_ret (v := .tuple #[.agg #[.bool X.neg, .slice X.a X.n X.cap], .agg #[.bool neg1, .slice a1 n1' c1], .int .i64 (IntKind.i64.wrap (D + 1))]) (by simp [results, Try.results155, go_sem, q0, q1, p0, p1, n5, n6]) rfl ⟨X, ⟨neg1, a1, n1', c1⟩, N1, (D1 * 2), _, rfl, by rw [unhide HW1]; exact unhide HR, by rw [unhide HW1]; omega, by rw [unhide HW1]; omega, HE.1, HE.2.1, HE.2.2⟩
  · have Hc := hide hc
    go_wp2_with fail
    go_cut [35] (fun p wx => p = .bool (decide (N1 * 4 < D1 * 3)) ∧ Below wc.heap.size wc wx)
    case first =>
      go_region_held3 (fun w' => w'.cell? ⟨w.heap.size, 0, none⟩ = some (.bool X.neg) ∧ w'.cell? ⟨w.heap.size, 1, none⟩ = some (.slice X.a X.n X.cap) ∧ w'.cell? ⟨w.heap.size + 1, 0, none⟩ = some (.bool Y.neg) ∧ w'.cell? ⟨w.heap.size + 1, 1, none⟩ = some (.slice Y.a Y.n Y.cap)) (first | exact unhide HK _ (by first | with_reducible exact hD0 | with_reducible exact hD4 | with_reducible exact hD3 | with_reducible exact hD2 | with_reducible exact hD1) | go_keep)
        (first
          | (go_at_call 24; have hq := hD3; refine (cmp_int _ _ _ _ _ _ _ _ _ _ (N1 * 4) (D1 * 3) _ ((hint1.below hb2).below hb3) hint3).mono ?_; rintro r' w4 ⟨rfl, hb4⟩; have hD4 := bthen hD3 hb4)
          | (go_at_call 84; have hq := hD2; refine (mul_int _ _ _ _ _ _ _ _ (k + k + 10) 4 D1 3 _ ((unhide HIY).below hD2) hint2 (by omega) (by omega)).mono ?_; rintro r' w3 ⟨neg3, a3, n3, c3, rfl, hint3, hb3⟩; have hD3 := bthen hD2 hb3)
          | (go_at_call 48; have hq := hD1; refine (numOf_int 3 _ (by decide) (by decide)).mono ?_; rintro r' w2 ⟨neg2, a2, n2, c2, rfl, hint2, hb2⟩; have hD2 := bthen hD1 hb2)
          | (go_at_call 113; refine (up_at _ _ _ _ _ 2 (k + k + 10) N1 _ rfl ((unhide HIX).below hD0) (by omega) (by omega)).mono ?_; rintro r' w1 ⟨neg1, a1, n1, c1, rfl, hint1, hb1⟩; have hD1 := bthen hD0 hb1))
      all_goals
        go_wp2_with fail
        go_meet
        exact ⟨congrArg _ (cmp_ltB _ _), hD4⟩
    case rest =>
    obtain ⟨rfl, hb1⟩ := hcut
    have HXC := hide ((unhide HXC).below hb1)
    have HYC := hide ((unhide HYC).below hb1)
    have HIX := hide ((unhide HIX).below hb1)
    have HIY := hide ((unhide HIY).below hb1)
    replace R := R.below hb1
    replace R2 := R2.below hb1
    replace hBW := bthen hBW hb1
    have lX := (unhide HXC).lt
    have lY := (unhide HYC).lt
    have lR := R.lt
    have lR2 := R2.lt
    have HK := hide (show ∀ w', Below wc.heap.size wc w' → (w'.cell? ⟨w.heap.size, 0, none⟩ = some (.bool X.neg) ∧ w'.cell? ⟨w.heap.size, 1, none⟩ = some (.slice X.a X.n X.cap) ∧ w'.cell? ⟨w.heap.size + 1, 0, none⟩ = some (.bool Y.neg) ∧ w'.cell? ⟨w.heap.size + 1, 1, none⟩ = some (.slice Y.a Y.n Y.cap)) from fun w' hB => ⟨((unhide HXC).below hB).c0, ((unhide HXC).below hB).c1, ((unhide HYC).below hB).c0, ((unhide HYC).below hB).c1⟩)
    clear x0 x1 y0 y1 hD0
    obtain ⟨x0, x1, y0, y1⟩ := unhide HK _ (Below.refl _ _)
    have hD0 : Below wc.heap.size wc wc.drew := (Below.refl _ _).drew
    by_cases hc2 : N1 * 4 < D1 * 3
    · have HR : Hid (Bal n d (N1 * 2) D1 (D - 1)) := hide (by
          exact bal_b hnA hdC (unhide HM1) (unhide HM2) (unhide HB3).1 (unhide HB3).2 hc2)
      have HW1 := hide (show IntKind.i64.wrap (D - 1) = D - 1 from i64_id _ (by omega) (by omega))
      have Hc2 := hide hc2
      go_wp2_with fail
      go_region_held3 (fun w' => w'.cell? ⟨w.heap.size, 0, none⟩ = some (.bool X.neg) ∧ w'.cell? ⟨w.heap.size, 1, none⟩ = some (.slice X.a X.n X.cap) ∧ w'.cell? ⟨w.heap.size + 1, 0, none⟩ = some (.bool Y.neg) ∧ w'.cell? ⟨w.heap.size + 1, 1, none⟩ = some (.slice Y.a Y.n Y.cap)) (first | exact unhide HK _ (by first | with_reducible exact hD0 | with_reducible exact hD1) | go_keep)
        (first
          | (go_at_call 113; refine (up_at _ _ _ _ _ 1 (k + k + 10) N1 _ rfl ((unhide HIX).below hD0) (by omega) (by omega)).mono ?_; rintro r' w1 ⟨neg1, a1, n1', c1, rfl, hint1, hb1⟩; have hD1 := bthen hD0 hb1; obtain ⟨q0, q1, q2⟩ := R.below hD1; obtain ⟨p0, p1, p2⟩ := R2.below hD1; obtain ⟨z0, z1, z2, z3⟩ := unhide HK _ hD1))
      all_goals
        have HE := bal_end (w := w) (K := k + k + 20) (R.below hD1) (R2.below hD1) (X := ⟨neg1, a1, n1', c1⟩) (Y := Y) (hint1.mono (by omega)) (((unhide HIY).below hD1).mono (by omega)) (bthen hBW hD1)
        go_wp2_with fail
        refine bodyPost_ret (v := .tuple #[.agg #[.bool neg1, .slice a1 n1' c1], .agg #[.bool Y.neg, .slice Y.a Y.n Y.cap], .int .i64 (IntKind.i64.wrap (D - 1))]) (by simp [results, Try.results155, go_sem, q0, q1, p0, p1, n5, n6]) rfl ⟨⟨neg1, a1, n1', c1⟩, Y, (N1 * 2), D1, _, rfl, by rw [unhide HW1]; exact unhide HR, by rw [unhide HW1]; omega, by rw [unhide HW1]; omega, HE.1, HE.2.1, HE.2.2⟩
    · have HR : Hid (Bal n d N1 D1 D) := hide (by
          exact bal_c hnA hdC (unhide HM1) (unhide HM2) (by have := unhide Hc; omega) hc2)
      have Hc2 := hide hc2
      go_wp2_with fail
      have HR1 := R
      have HR2 := R2
      obtain ⟨q0, q1, q2⟩ := R
      obtain ⟨p0, p1, p2⟩ := R2
      go_region
      all_goals
        have HE := bal_end (w := w) (K := k + k + 20) (HR1.below (Below.refl _ _).drew) (HR2.below (Below.refl _ _).drew) (X := X) (Y := Y) (((unhide HIX).below (Below.refl _ _).drew).mono (by omega)) (((unhide HIY).below (Below.refl _ _).drew).mono (by omega)) (bthen hBW (Below.refl _ _).drew)
        go_wp2_with fail
        refine bodyPost_ret (v := .tuple #[.agg #[.bool X.neg, .slice X.a X.n X.cap], .agg #[.bool Y.neg, .slice Y.a Y.n Y.cap], .int .i64 (D)]) (by simp [results, Try.results155, go_sem, q0, q1, p0, p1, n5, n6]) rfl ⟨X, Y, N1, D1, _, rfl, by exact unhide HR, by omega, by omega, HE.1, HE.2.1, HE.2.2⟩
end Go.Proofs.Ytgmnknmjainabab
