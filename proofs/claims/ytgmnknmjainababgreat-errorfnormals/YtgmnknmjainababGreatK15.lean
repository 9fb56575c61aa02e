/-
  A region that draws its order and ends in a store that overwrites what the region has read: a load may be taken first where the store waits for it. No statement of the seat is proved here.
  What wide.upToOne, wide.overExp and wide.RareOne answer, and that they leave old memory alone.
  What wide.small answers of a little number, what wide.nearlyOne answers.
  What wide.Erf answers, and that it leaves old memory alone.
-/
import Derived.Deep.RegionHeld3
import Derived.Test.YtgmnknmjainababGreatK14
namespace Go.Proofs.YtgmnknmjainababGreat
set_option linter.unusedVariables false
open Go

section
variable {Pg : Program} {ops : Array Oper} {Q : Exit → Act → World → Prop} {md : Region.Mode} {S : World → Prop} {l : Nat}

/-- Whatever order is picked from here on, and S holds behind every operation but the one of number l. -/
def AnyL (Pg : Program) (md : Region.Mode) (ops : Array Oper) (Q : Exit → Act → World → Prop) (S : World → Prop) (l : Nat) : Nat → Array Bool → Act → World → Prop
  | 0, listed, a, w => Region.ready md ops listed = [] ∧ Q .normal a w
  | fuel + 1, listed, a, w =>
    (Region.ready md ops listed = [] → Q .normal a w) ∧
    ∀ i ∈ Region.ready md ops listed, wpOp Pg ops Q i (fun a' w' => (i ≠ l → S w') ∧ AnyL Pg md ops Q S l fuel (listed.setIfInBounds i true) a' w') a w

theorem AnyL.any : ∀ (fuel : Nat) (listed : Array Bool) (a : Act) (w : World), AnyL Pg md ops Q S l fuel listed a w → wpAny Pg md ops Q fuel listed a w
  | 0, _, _, _, h => h
  | fuel + 1, _, _, _, h => ⟨h.1, fun i hi => wpOp_mono (fun a' w' h' => AnyL.any fuel _ a' w' h'.2) (h.2 i hi)⟩

/-- Number l waits for number i. -/
def waits (md : Region.Mode) (ops : Array Oper) (l i : Nat) : Bool :=
  match ops[l]? with
  | some o => o.after.any (fun e => Region.binds md e && e.on == i)
  | none => false

theorem waits_not {i : Nat} {listed : Array Bool} (hw : waits md ops l i = true) (hi : i ∈ Region.ready md ops listed) (hl : l ∈ Region.ready md ops listed) : False := by
  obtain ⟨_, ol, hol, hall⟩ := mem_ready.1 hl
  obtain ⟨h0, oi, hoi, _⟩ := mem_ready.1 hi
  unfold waits at hw
  rw [hol] at hw
  simp only [Array.any_eq_true'] at hw
  obtain ⟨e, he, h2⟩ := hw
  simp only [Bool.and_eq_true, beq_iff_eq] at h2
  have h1 := hall e he h2.1
  rw [h2.2] at h1
  rcases Nat.lt_or_ge i listed.size with h' | h'
  · simp [h'] at h0 h1; rw [h0] at h1; cases h1
  · simp [Array.getElem?_eq_none h'] at h1

theorem AnyL.first {i : Nat} {oi : Oper} {v : Value} (hi : ops[i]? = some oi) (hsel : ∀ (j : Nat) (o : Oper) cs b, ops[j]? = some o → o.op ≠ .select cs b)
    (hQ : ∀ c a w, Q (.panic c) (a.put oi.dst v) w → Q (.panic c) a w) (hwt : waits md ops l i = true) :
    ∀ (fuel : Nat) (listed : Array Bool) (a : Act) (w : World),
      (∀ j oj, ops[j]? = some oj → j ≠ i → listed.getD j true = false → (∀ e ∈ oj.after, Region.binds md e = true → e.on ≠ i) → oi.apart ops oj = true) →
      i ∈ Region.ready md ops listed → YieldsIf Pg ops S oi v a → S w →
      AnyL Pg md ops Q S l fuel (listed.setIfInBounds i true) (a.put oi.dst v) w → AnyL Pg md ops Q S l (fuel + 1) listed a w := by
  intro fuel
  induction fuel with
  | zero =>
    intro listed a w _ hr hy hS H
    refine ⟨fun h => (by rw [h] at hr; cases hr), fun j hj => ?_⟩
    by_cases hji : j = i
    · subst hji; exact hy.wpOp hi hS ⟨fun _ => hS, H⟩
    · have := ready_mono hj hji
      rw [H.1] at this
      cases this
  | succ fuel ih =>
    intro listed a w hfree hr hy hS H
    refine ⟨fun h => (by rw [h] at hr; cases hr), fun j hj => ?_⟩
    by_cases hji : j = i
    · subst hji; exact hy.wpOp hi hS ⟨fun _ => hS, H⟩
    · have hjl : j ≠ l := fun h => waits_not hwt hr (h ▸ hj)
      have h1 := H.2 j (ready_mono hj hji)
      obtain ⟨hjun, oj, hoj, hall⟩ := mem_ready.1 hj
      have hnot : ∀ e ∈ oj.after, Region.binds md e = true → e.on ≠ i := fun e he hb heq => by
        have h1 := hall e he hb
        have h0 := (mem_ready.1 hr).1
        rw [heq] at h1
        rcases Nat.lt_or_ge i listed.size with h' | h'
        · simp [h'] at h0 h1; rw [h0] at h1; cases h1
        · simp [Array.getElem?_eq_none h'] at h1
      have h2 := wpOp_putIf hoj (hfree j oj hoj hji hjun hnot) (fun cs b => hsel i oi cs b hi) (fun cs b => hsel j oj cs b hoj) hQ hy h1
      have hfree' : ∀ k ok, ops[k]? = some ok → k ≠ i → (listed.setIfInBounds j true).getD k true = false →
          (∀ e ∈ ok.after, Region.binds md e = true → e.on ≠ i) → oi.apart ops ok = true := fun k ok hk hki hun hno => by
        refine hfree k ok hk hki ?_ hno
        by_cases hjk : j = k
        · subst hjk; exact hjun
        · rw [getD_set_ne true hjk] at hun; exact hun
      refine wpOp_mono (fun a' w' h3 => ⟨fun _ => h3.2.1 hjl, ih (listed.setIfInBounds j true) a' w' hfree' (ready_mono hr (Ne.symm hji)) h3.1 (h3.2.1 hjl) ?_⟩) h2
      rw [Array.setIfInBounds_comm _ _ hji]
      exact h3.2.2

/-- Take number i first: it yields v in every world that meets S. -/
theorem AnyL.take {i : Nat} {oi : Oper} {v : Value} {fuel : Nat} {listed : Array Bool} {a : Act} {w : World} (hi : ops[i]? = some oi)
    (hs : Region.noSelect ops = true) (hf : Region.free md ops listed i = true) (hr : (Region.ready md ops listed).contains i = true) (hwt : waits md ops l i = true)
    (hQ : ∀ c a w, Q (.panic c) (a.put oi.dst v) w → Q (.panic c) a w) (hy : YieldsIf Pg ops S oi v a) (hS : S w)
    (h : AnyL Pg md ops Q S l fuel (listed.setIfInBounds i true) (a.put oi.dst v) w) : AnyL Pg md ops Q S l (fuel + 1) listed a w :=
  AnyL.first hi (Region.noSelect_spec hs) hQ hwt fuel listed a w (Region.free_spec hi hf) (by simpa using hr) hy hS h

/-- Just number i may come up, and it is not l. -/
theorem AnyL.one {i : Nat} {o : Oper} {fuel : Nat} {listed : Array Bool} {a : Act} {w : World} (hr : Region.ready md ops listed = [i]) (ho : ops[i]? = some o)
    (h : ∀ K' : Act → World → Prop, Shut (∀ a w, S w → (S w → AnyL Pg md ops Q S l fuel (listed.setIfInBounds i true) a w) → K' a w) → if Region.wanted o (yielded ops a.tmps) = true then Oper.wp Pg o a w K' Q else K' (a.put o.dst undef) w) :
    AnyL Pg md ops Q S l (fuel + 1) listed a w :=
  ⟨fun h0 => absurd (hr ▸ h0) (by simp), fun j hj => by
    rw [hr] at hj
    have hj' : j = i := by simpa using hj
    subst hj'
    exact wpOp_step ho (fun K' hK => h K' (fun a w hS hW => hK a w ⟨fun _ => hS, hW hS⟩))⟩

/-- Number l is the last. -/
theorem AnyL.last {o : Oper} {fuel : Nat} {listed : Array Bool} {a : Act} {w : World} (hr : Region.ready md ops listed = [l]) (ho : ops[l]? = some o)
    (hd : Region.ready md ops (listed.setIfInBounds l true) = [])
    (h : ∀ K' : Act → World → Prop, Shut (∀ a w, Q .normal a w → K' a w) → if Region.wanted o (yielded ops a.tmps) = true then Oper.wp Pg o a w K' Q else K' (a.put o.dst undef) w) :
    AnyL Pg md ops Q S l (fuel + 1) listed a w :=
  ⟨fun h0 => absurd (hr ▸ h0) (by simp), fun j hj => by
    rw [hr] at hj
    have hj' : j = l := by simpa using hj
    subst hj'
    refine wpOp_step ho (fun K' hK => h K' (fun a w hW => hK a w ⟨fun h => absurd rfl h, ?_⟩))
    cases fuel with
    | zero => exact ⟨hd, hW⟩
    | succ fuel => exact ⟨fun _ => hW, by rw [hd]; simp⟩⟩

theorem AnyL.start {id : Nat} {a : Act} {w : World} (hm : Pg.follows .mixedOrders = true) (hS : S w.drew)
    (h : S w.drew → AnyL Pg .any ops Q S l ops.size (Array.replicate ops.size false) a w.drew) : (Code.region id ops true).wp Pg Q a w :=
  wp_region_any hm (AnyL.any _ _ _ _ (h hS))
end
end Go.Proofs.YtgmnknmjainababGreat

namespace Go.Proofs.YtgmnknmjainababGreat
set_option linter.unusedVariables false
set_option linter.unusedSimpArgs false
set_option linter.unnecessarySimpa false
open Go.RowKit
attribute [local go_sem ↓] Go.wp_at_zero Go.wp_at_succ

theorem minZ_cap (x q : Int) : minZ x q = if x ≤ q then x else q := by unfold minZ; split <;> split <;> omega
theorem fieldP1 (x y : Bool) (a a' : Option Addr) (n c n' c' : Nat) (b : Int) (w : World) : (Instr.field 28 (.agg #[.bool x, .slice a n c, .bool y, .slice a' n' c', .int .i64 b]) 1).run Tryz.prog w = .ok (.agg #[.bool y, .slice a' n' c']) w := by kernel_rfl
theorem sp_putHi {w : World} {B : Nat} {s : Sp} (h : VrC w B s) (x : Nm) : VrC ((w.setCell ⟨B, 2, none⟩ (.bool x.neg)).setCell ⟨B, 3, none⟩ (.slice x.a x.n x.cap)) B ⟨s.ln, s.la, s.lN, s.lc, x.neg, x.a, x.n, x.cap, s.bits⟩ := by
  obtain ⟨⟨q0, q1, q2, q3, q4⟩, q5⟩ := h
  exact ⟨⟨by simp [go_sem, q0], by simp [go_sem, q1], by simp [go_sem, q2], by simp [go_sem, q3], by simp [go_sem, q4]⟩, fun o => by rw [frozen_set', frozen_set']; exact q5 o⟩
theorem NoC.offH {w : World} {B B' : Nat} (h : NoC w B) (hne : B ≠ B') (u0 u1 : Value) : NoC ((w.setCell ⟨B', 2, none⟩ u0).setCell ⟨B', 3, none⟩ u1) B := by
  obtain ⟨q0, q1, q2, q3, q4, q5⟩ := h
  exact ⟨by simp [go_sem, q0, hne, Ne.symm hne], by simp [go_sem, q1, hne, Ne.symm hne], by simp [go_sem, q2, hne, Ne.symm hne], by simp [go_sem, q3, hne, Ne.symm hne], by simp [go_sem, q4, hne, Ne.symm hne], fun o => by rw [frozen_set', frozen_set']; exact q5 o⟩
theorem IntAt.putH {w : World} {neg : Bool} {a : Option Addr} {n cap k : Nat} {z : Int} (h : IntAt w neg a n cap k z) {B : Nat} {x0 : Bool} {y0 : Option Addr} {y1 y2 : Nat} (h0 : w.cell? ⟨B, 2, none⟩ = some (.bool x0))
    (h1 : w.cell? ⟨B, 3, none⟩ = some (.slice y0 y1 y2)) (u0 u1 : Value) : IntAt ((w.setCell ⟨B, 2, none⟩ u0).setCell ⟨B, 3, none⟩ u1) neg a n cap k z := by
  have hne : (⟨B, 2, none⟩ : Addr) ≠ ⟨B, 3, none⟩ := by simp
  have h2 : (w.setCell ⟨B, 2, none⟩ u0).cell? ⟨B, 3, none⟩ = some (.slice y0 y1 y2) := (World.cell?_setCell_other _ _ _ _ hne).trans h1
  exact (h.store h0 (fun _ e => by cases e) u0).store h2 (fun _ e => by cases e) u1

set_option maxRecDepth 100000 in
set_option maxHeartbeats 4000000 in
theorem upToOne_int (w : World) (s : Sp) (k b : Nat) (lo hi : Int) (hs : SpAt w s k lo hi) (hbits : s.bits = (b : Int)) (hb : b ≤ 100000) (hk0 : b / 16 + 24 ≤ k) (hk : k ≤ 100000000) :
    Calls Tryz.prog 145 #[.agg #[.bool s.ln, .slice s.la s.lN s.lc, .bool s.hn, .slice s.ha s.hN s.hc, .int .i64 s.bits]] w (SpanAns w b (k + 1) lo (minZ hi (Q b))) := by
  obtain ⟨W, hW⟩ : ∃ W, W = (w.alloc (.cells #[.bool s.ln, .slice s.la s.lN s.lc, .bool s.hn, .slice s.ha s.hN s.hc, .int .i64 s.bits] 28)).alloc (.cells #[.bool false, .slice none 0 0, .bool false, .slice none 0 0, .int .i64 0] 28) := ⟨_, rfl⟩
  have hBW : Below w.heap.size w W := by rw [hW]; exact bl2 _ _ _
  have A : VrC W w.heap.size s := by rw [hW]; exact ⟨⟨by simp [go_sem], by simp [go_sem], by simp [go_sem], by simp [go_sem], by simp [go_sem]⟩, fun o => by simp [go_sem]⟩
  have R : NoC W (w.heap.size + 1) := by rw [hW]; exact ⟨by simp [go_sem], by simp [go_sem], by simp [go_sem], by simp [go_sem], by simp [go_sem], fun o => by simp [go_sem]⟩
  have HBW := hide hBW
  have HS := hide (hs.below hBW)
  have HB := hide hbits
  have HA := hide A
  have HR := hide R
  have HO := hide (show -(-(1 * Q b) / 1) = Q b by rw [Int.ediv_one]; omega)
  have HK := hide (show ∀ w', Below W.heap.size W w' → (w'.cell? ⟨w.heap.size, 2, none⟩ = some (.bool s.hn) ∧ w'.cell? ⟨w.heap.size, 3, none⟩ = some (.slice s.ha s.hN s.hc) ∧ w'.cell? ⟨w.heap.size, 4, none⟩ = some (.int .i64 s.bits)) from fun w' hB => ⟨(A.below hB).c.c2, (A.below hB).c.c3, (A.below hB).c.c4⟩)
  have hD0 : Below W.heap.size W W.drew := (Below.refl _ _).drew
  clear hs hbits hBW A R
  go_enter Tryz.func145, Tryz.ntmps145
  go_wp2
  rw [← hW]
  clear hW
  refine AnyL.start (S := fun w' => w'.cell? ⟨w.heap.size, 2, none⟩ = some (.bool s.hn) ∧ w'.cell? ⟨w.heap.size, 3, none⟩ = some (.slice s.ha s.hN s.hc) ∧ w'.cell? ⟨w.heap.size, 4, none⟩ = some (.int .i64 s.bits)) (l := 9) (by kernel_rfl) (unhide HK _ hD0) (fun hHeld => ?_)
  refine AnyL.take (i := 0) (oi := { dst := some 3, op := Go.Op.fieldAddr 28 (Go.Operand.tmp 1) 1, type := 0, pos := "part.go:53", after := #[], guard := none }) (v := .pointer (some ⟨w.heap.size, 2, none⟩)) rfl (by kernel_rfl) (by kernel_rfl) (by kernel_rfl) (by kernel_rfl) (fun _ _ _ h => h) (Or.inl ⟨by rfl, fun w hSw => ?_⟩) hHeld ?_
  · obtain ⟨s0, s1, s2⟩ := hSw; go_simp
  try simp only [Act.put, List.setIfInBounds_toArray, List.set_cons_zero, List.set_cons_succ]
  refine AnyL.take (i := 1) (oi := { dst := some 4, op := Go.Op.load 26 (Go.Operand.tmp 3), type := 26, pos := "part.go:53", after := #[{ on := 0, ground := Go.Ground.data }], guard := none }) (v := .agg #[.bool s.hn, .slice s.ha s.hN s.hc]) rfl (by kernel_rfl) (by kernel_rfl) (by kernel_rfl) (by kernel_rfl) (fun _ _ _ h => h) (Or.inl ⟨by rfl, fun w hSw => ?_⟩) hHeld ?_
  · obtain ⟨s0, s1, s2⟩ := hSw; go_simp
  try simp only [Act.put, List.setIfInBounds_toArray, List.set_cons_zero, List.set_cons_succ]
  refine AnyL.take (i := 2) (oi := { dst := some 5, op := Go.Op.fieldAddr 28 (Go.Operand.tmp 1) 2, type := 0, pos := "part.go:53", after := #[], guard := none }) (v := .pointer (some ⟨w.heap.size, 4, none⟩)) rfl (by kernel_rfl) (by kernel_rfl) (by kernel_rfl) (by kernel_rfl) (fun _ _ _ h => h) (Or.inl ⟨by rfl, fun w hSw => ?_⟩) hHeld ?_
  · obtain ⟨s0, s1, s2⟩ := hSw; go_simp
  try simp only [Act.put, List.setIfInBounds_toArray, List.set_cons_zero, List.set_cons_succ]
  refine AnyL.take (i := 3) (oi := { dst := some 6, op := Go.Op.load 3 (Go.Operand.tmp 5), type := 3, pos := "part.go:53", after := #[{ on := 2, ground := Go.Ground.data }], guard := none }) (v := .int .i64 s.bits) rfl (by kernel_rfl) (by kernel_rfl) (by kernel_rfl) (by kernel_rfl) (fun _ _ _ h => h) (Or.inl ⟨by rfl, fun w hSw => ?_⟩) hHeld ?_
  · obtain ⟨s0, s1, s2⟩ := hSw; go_simp
  try simp only [Act.put, List.setIfInBounds_toArray, List.set_cons_zero, List.set_cons_succ]
  refine AnyL.one (i := 4) (o := { dst := some 7, op := Go.Op.call { callee := Go.Callee.value (Go.Operand.func 133), args := #[Go.Operand.tmp 6], argTypes := #[3] }, type := 28, pos := "part.go:53", after := #[{ on := 3, ground := Go.Ground.data }], guard := none }) (by kernel_rfl) rfl (fun Kc hKc => ?_)
  go_simp
  rw [unhide HB]
  refine (one_int _ b (by omega)).mono ?_
  rintro r' w1 ⟨v1, rfl, hvb1, hs1, hb⟩
  have hD1 := bthen hD0 hb
  clear hb hvb1
  go_wp2_with fail
  refine hKc.out _ _ (unhide HK _ hD1) (fun hHeld => ?_)
  clear hKc Kc
  try simp only [Act.put, List.setIfInBounds_toArray, List.set_cons_zero, List.set_cons_succ]
  refine AnyL.take (i := 5) (oi := { dst := some 8, op := Go.Op.field 28 (Go.Operand.tmp 7) 1, type := 26, pos := "part.go:53", after := #[{ on := 4, ground := Go.Ground.data }], guard := none }) (v := .agg #[.bool v1.hn, .slice v1.ha v1.hN v1.hc]) rfl (by kernel_rfl) (by kernel_rfl) (by kernel_rfl) (by kernel_rfl) (fun _ _ _ h => h) (Or.inl ⟨by rfl, fun w hSw => ?_⟩) hHeld ?_
  · obtain ⟨s0, s1, s2⟩ := hSw; (have hf1 := fieldP1; go_simp)
  try simp only [Act.put, List.setIfInBounds_toArray, List.set_cons_zero, List.set_cons_succ]
  refine AnyL.one (i := 6) (o := { dst := some 9, op := Go.Op.buildSlice 104 2 #[(0, Go.Operand.tmp 4), (1, Go.Operand.tmp 8)], type := 104, pos := "part.go:53", after := #[{ on := 1, ground := Go.Ground.data }, { on := 5, ground := Go.Ground.data }], guard := none }) (by kernel_rfl) rfl (fun Kc hKc => ?_)
  go_simp
  refine hKc.out _ _ (unhide HK _ (balloc hD1 _)) (fun hHeld => ?_)
  clear hKc Kc
  try simp only [Act.put, List.setIfInBounds_toArray, List.set_cons_zero, List.set_cons_succ]
  refine AnyL.one (i := 7) (o := { dst := some 10, op := Go.Op.call { callee := Go.Callee.value (Go.Operand.func 177), args := #[Go.Operand.tmp 9], argTypes := #[104] }, type := 26, pos := "part.go:53", after := #[{ on := 6, ground := Go.Ground.data }, { on := 4, ground := Go.Ground.chain }], guard := none }) (by kernel_rfl) rfl (fun Kc hKc => ?_)
  go_simp
  refine (least2 w1 _ rfl ⟨s.hn, s.ha, s.hN, s.hc⟩ ⟨v1.hn, v1.ha, v1.hN, v1.hc⟩ k hi (Q b) _ _ ((unhide HS).hi.below hD1) ((unhide HO ▸ hs1.hi).mono hk0) (by omega)).mono ?_
  rintro r' w2 ⟨neg2, a2, n2, c2, rfl, hint2, hb2⟩
  have hD2 := bthen hD1 hb2
  clear hb2
  go_wp2_with fail
  refine hKc.out _ _ (unhide HK _ hD2) (fun hHeld => ?_)
  clear hKc Kc
  try simp only [Act.put, List.setIfInBounds_toArray, List.set_cons_zero, List.set_cons_succ]
  refine AnyL.take (i := 8) (oi := { dst := some 11, op := Go.Op.fieldAddr 28 (Go.Operand.tmp 1) 1, type := 0, pos := "part.go:53", after := #[{ on := 0, ground := Go.Ground.phase }, { on := 1, ground := Go.Ground.phase }, { on := 2, ground := Go.Ground.phase }, { on := 3, ground := Go.Ground.phase }, { on := 4, ground := Go.Ground.phase }, { on := 5, ground := Go.Ground.phase }, { on := 6, ground := Go.Ground.phase }, { on := 7, ground := Go.Ground.phase }], guard := none }) (v := .pointer (some ⟨w.heap.size, 2, none⟩)) rfl (by kernel_rfl) (by kernel_rfl) (by kernel_rfl) (by kernel_rfl) (fun _ _ _ h => h) (Or.inl ⟨by rfl, fun w hSw => ?_⟩) hHeld ?_
  · obtain ⟨s0, s1, s2⟩ := hSw; go_simp
  try simp only [Act.put, List.setIfInBounds_toArray, List.set_cons_zero, List.set_cons_succ]
  have V2 := (unhide HA).below hD2
  have lA := V2.lt
  obtain ⟨⟨y0, y1, y2, y3, y4⟩, y5⟩ := V2
  refine AnyL.last (o := { dst := none, op := Go.Op.store 26 (Go.Operand.tmp 11) (Go.Operand.tmp 10), type := 0, pos := "part.go:53", after := #[{ on := 8, ground := Go.Ground.data }, { on := 7, ground := Go.Ground.data }, { on := 7, ground := Go.Ground.chain }, { on := 0, ground := Go.Ground.phase }, { on := 1, ground := Go.Ground.phase }, { on := 2, ground := Go.Ground.phase }, { on := 3, ground := Go.Ground.phase }, { on := 4, ground := Go.Ground.phase }, { on := 5, ground := Go.Ground.phase }, { on := 6, ground := Go.Ground.phase }, { on := 7, ground := Go.Ground.phase }], guard := none }) (by kernel_rfl) rfl (by kernel_rfl) (fun Kc hKc => ?_)
  go_simp
  refine hKc.out _ _ ?_
  clear hKc Kc
  have R2 := (unhide HR).below hD2
  obtain ⟨V, hV⟩ : ∃ V, V = ((w2.setCell ⟨w.heap.size, 2, none⟩ (.bool neg2)).setCell ⟨w.heap.size, 3, none⟩ (.slice a2 n2 c2)) := ⟨_, rfl⟩
  have R3 : NoC V (w.heap.size + 1) := by rw [hV]; exact R2.offH (by omega) _ _
  have A3 : VrC V w.heap.size ⟨s.ln, s.la, s.lN, s.lc, neg2, a2, n2, c2, s.bits⟩ := by rw [hV]; exact sp_putHi ((unhide HA).below hD2) ⟨neg2, a2, n2, c2⟩
  have i1 : IntAt V s.ln s.la s.lN s.lc k lo := by rw [hV]; exact ((unhide HS).lo.below hD2).putH y2 y3 _ _
  have i2 : IntAt V neg2 a2 n2 c2 (k + 1) (minZ hi (Q b)) := by rw [hV]; exact hint2.putH y2 y3 _ _
  have hB3 : Below w.heap.size w V := by rw [hV]; exact ((bthen (unhide HBW) hD2).setCell (p := ⟨w.heap.size, 2, none⟩) (Nat.le_refl _) _).setCell (p := ⟨w.heap.size, 3, none⟩) (Nat.le_refl _) _
  rw [← hV]
  clear hV y0 y1 y2 y3 y4 y5 lA
  have lA := A3.lt
  have lR := R3.lt
  obtain ⟨⟨y0, y1, y2, y3, y4⟩, y5⟩ := A3
  obtain ⟨q0, q1, q2, q3, q4, q5⟩ := R3
  go_wp2_with fail
  refine bodyPost_ret (v := .agg #[.bool s.ln, .slice s.la s.lN s.lc, .bool neg2, .slice a2 n2 c2, .int .i64 s.bits]) (by simp [results, Tryz.results145, go_sem, q0, q1, q2, q3, q4]) rfl ⟨⟨s.ln, s.la, s.lN, s.lc, neg2, a2, n2, c2, s.bits⟩, rfl, unhide HB, ?_, ?_⟩
  · exact SpAt.put5 (show SpAt V ⟨s.ln, s.la, s.lN, s.lc, neg2, a2, n2, c2, s.bits⟩ (k + 1) lo (minZ hi (Q b)) from ⟨i1.mono (by omega), i2⟩) q0 q1 q2 q3 q4 _ _ _ _ _
  · exact set5 hB3 (Nat.le_succ _) _ _ _ _ _

end Go.Proofs.YtgmnknmjainababGreat

namespace Go.Proofs.YtgmnknmjainababGreat
set_option linter.unusedVariables false
set_option linter.unusedSimpArgs false
set_option linter.unnecessarySimpa false
open Go.RowKit
attribute [local go_sem ↓] Go.wp_at_zero Go.wp_at_succ

theorem or_zero64 (a : Int) (h0 : 0 ≤ a) (h1 : a < 65536) : bits .or .i64 0 a = a := by
  simp [bits]
  have e0 : (2 : Int) ^ IntKind.i64.bits = 18446744073709551616 := rfl
  have e : a % 2 ^ IntKind.i64.bits = a := Int.emod_eq_of_lt h0 (by rw [e0]; omega)
  rw [e, show max a 0 = a by omega]
  exact i64_id _ (by omega) (by omega)

set_option maxRecDepth 100000 in
set_option maxHeartbeats 2000000 in
theorem small_one (neg : Bool) (a : Option Addr) (n cap : Nat) (z : Int) (w : World) (h : IntAt w neg a n cap 1 z) (h0 : 0 ≤ z) :
    Calls Tryz.prog 158 #[.agg #[.bool neg, .slice a n cap]] w fun r w' => r = .returned (.int .i64 z) ∧ Below w.heap.size w w' := by
  obtain ⟨d, g1, g2, g3, g4, g5⟩ := h
  have hd := g1.dgs
  rcases (show n = 0 ∨ n = 1 by omega) with rfl | rfl
  · have hz : z = 0 := by rw [g5]; unfold sgn; split <;> rfl
    subst hz
    clear g1 g2 g3 g4 g5 hd h0
    go_enter Tryz.func158, Tryz.ntmps158
    go_wp2_with fail
    go_loopw [3, 4] (fun oo ii wr => oo = .int .i64 0 ∧ ii = .int .i64 (-1) ∧ Below w.heap.size w wr) (fun _ ii _ => 0)
    case atStart => exact ⟨rfl, by go_num, bl1 _ _⟩
    case round =>
      obtain ⟨rfl, rfl, hB⟩ := hrel
      go_wp2_with fail
      exact bodyPost_ret (v := .int .i64 0) (by simp [results, Tryz.results158]) rfl ⟨rfl, hB⟩
  · have hv : V d 1 = d 0 := by show V d 0 + d 0 * P 0 = d 0; show 0 + d 0 * 1 = d 0; omega
    have hneg : neg = false := by
      cases neg
      · rfl
      · have h1 := (hd 0).1
        rw [hv] at g5
        have : z = -d 0 := g5
        have : d 0 ≠ 0 := by rcases g2 with g | g; exact absurd g (by omega); exact g
        omega
    subst hneg
    have hz : z = d 0 := by rw [g5, hv]; rfl
    subst hz
    obtain ⟨b1, o1, rfl, l1, hc1⟩ := g1.at_ (by omega)
    have c0 := hc1 0 (by omega)
    have hd0 := (hd 0).1
    have hd1 := (hd 0).2
    have HO := hide (or_zero64 (d 0) hd0 hd1)
    have H0 := hide (show IntKind.i64.wrap (d 0) = d 0 from i64_id _ (by omega) (by omega))
    simp only [Nat.add_zero] at c0
    clear hc1 g2 g3 g4 g5 hv h0 hd g1
    go_enter Tryz.func158, Tryz.ntmps158
    go_wp2_with fail
    go_loopw [3, 4] (fun oo ii wr => ((oo = .int .i64 0 ∧ ii = .int .i64 0) ∨ (oo = .int .i64 (d 0) ∧ ii = .int .i64 (-1))) ∧ Below w.heap.size w wr ∧ wr.cell? ⟨w.heap.size, 1, none⟩ = some (.slice (some ⟨b1, o1, none⟩) 1 cap)) (fun _ ii _ => (intOf ii + 1).toNat)
    case atStart => exact ⟨Or.inl ⟨rfl, by go_num⟩, bl1 _ _, by simp [go_sem]⟩
    case round =>
      obtain ⟨hh, hB, hx⟩ := hrel
      have c1 : wr.cell? ⟨b1, o1, none⟩ = some (.int .u16 (d 0)) := (hB.cell (p := ⟨b1, o1, none⟩) l1).trans c0
      rcases hh with ⟨rfl, rfl⟩ | ⟨rfl, rfl⟩
      · go_wp2_with fail
        first
          | rw [unhide HO]
          | skip
        go_roundw
        case rel => exact ⟨Or.inr ⟨by first | rfl | (rw [unhide HO]) | (simp [unhide HO]), by go_num⟩, hB, hx⟩
        case measure => simp [intOf]
      · go_wp2_with fail
        exact bodyPost_ret (v := .int .i64 (d 0)) (by simp [results, Tryz.results158]) rfl ⟨rfl, hB⟩

theorem sp_putLoE {w : World} {B : Nat} {s : Sp} (h : VrC w B s) (x : Nm) : VrC ((w.setCell ⟨B, 0, none⟩ (.bool x.neg)).setCell ⟨B, 1, none⟩ (.slice x.a x.n x.cap)) B ⟨x.neg, x.a, x.n, x.cap, s.hn, s.ha, s.hN, s.hc, s.bits⟩ := by
  obtain ⟨⟨q0, q1, q2, q3, q4⟩, q5⟩ := h
  exact ⟨⟨by simp [go_sem, q0], by simp [go_sem, q1], by simp [go_sem, q2], by simp [go_sem, q3], by simp [go_sem, q4]⟩, fun o => by rw [frozen_set', frozen_set']; exact q5 o⟩
theorem NoC.offLE {w : World} {B B' : Nat} (h : NoC w B) (hne : B ≠ B') (u0 u1 : Value) : NoC ((w.setCell ⟨B', 0, none⟩ u0).setCell ⟨B', 1, none⟩ u1) B := by
  obtain ⟨q0, q1, q2, q3, q4, q5⟩ := h
  exact ⟨by simp [go_sem, q0, hne, Ne.symm hne], by simp [go_sem, q1, hne, Ne.symm hne], by simp [go_sem, q2, hne, Ne.symm hne], by simp [go_sem, q3, hne, Ne.symm hne], by simp [go_sem, q4, hne, Ne.symm hne], fun o => by rw [frozen_set', frozen_set']; exact q5 o⟩
theorem IntAt.putLE {w : World} {neg : Bool} {a : Option Addr} {n cap k : Nat} {z : Int} (h : IntAt w neg a n cap k z) {B : Nat} {x0 : Bool} {y0 : Option Addr} {y1 y2 : Nat} (h0 : w.cell? ⟨B, 0, none⟩ = some (.bool x0))
    (h1 : w.cell? ⟨B, 1, none⟩ = some (.slice y0 y1 y2)) (u0 u1 : Value) : IntAt ((w.setCell ⟨B, 0, none⟩ u0).setCell ⟨B, 1, none⟩ u1) neg a n cap k z := by
  have hne : (⟨B, 0, none⟩ : Addr) ≠ ⟨B, 1, none⟩ := by simp
  have h2 : (w.setCell ⟨B, 0, none⟩ u0).cell? ⟨B, 1, none⟩ = some (.slice y0 y1 y2) := (World.cell?_setCell_other _ _ _ _ hne).trans h1
  exact (h.store h0 (fun _ e => by cases e) u0).store h2 (fun _ e => by cases e) u1

set_option maxRecDepth 100000 in
set_option maxHeartbeats 4000000 in
theorem nearlyOne_int (w : World) (b : Nat) (hb : b ≤ 100000) :
    Calls Tryz.prog 157 #[.int .i64 b] w (SpanAns w b (b / 16 + 30) (Q b - 1) (Q b)) := by
  obtain ⟨W, hW⟩ : ∃ W, W = w.alloc (.cells #[.bool false, .slice none 0 0, .bool false, .slice none 0 0, .int .i64 0] 28) := ⟨_, rfl⟩
  have hBW : Below w.heap.size w W := by rw [hW]; exact bl1 _ _
  have R : NoC W w.heap.size := by rw [hW]; exact ⟨by simp [go_sem], by simp [go_sem], by simp [go_sem], by simp [go_sem], by simp [go_sem], fun o => by simp [go_sem]⟩
  have HO1 := hide (show 1 * Q b / 1 = Q b by rw [Int.ediv_one]; omega)
  have HO2 := hide (show -(-(1 * Q b) / 1) = Q b by rw [Int.ediv_one]; omega)
  go_enter Tryz.func157, Tryz.ntmps157
  go_wp2_with fail
  rw [← hW]
  clear hW
  refine (one_int _ b (by omega)).mono ?_
  rintro r' w1 ⟨v1, rfl, hvb1, hs1, hb1⟩
  replace R := R.below hb1
  replace hBW := bthen hBW hb1
  have lR1 := R.lt
  have HB := hide hvb1
  clear hvb1 hb1
  obtain ⟨V1, hV1⟩ : ∃ V, V = w1.alloc (.cells #[.bool v1.ln, .slice v1.la v1.lN v1.lc, .bool v1.hn, .slice v1.ha v1.hN v1.hc, .int .i64 v1.bits] 28) := ⟨_, rfl⟩
  have bV : Below w1.heap.size w1 V1 := by rw [hV1]; exact bl1 _ _
  have A : VrC V1 w1.heap.size v1 := by rw [hV1]; exact ⟨spc_new _ _ _, fun o => by simp [go_sem]⟩
  have HS := hide (show SpAt V1 v1 (b / 16 + 24) (Q b) (Q b) from by have := hs1.below bV; rw [unhide HO1, unhide HO2] at this; exact this)
  replace R := R.below bV
  replace hBW := bthen hBW bV
  have HBW := hide hBW
  have HA := hide A
  have HR := hide R
  have hD0 : Below V1.heap.size V1 V1.drew := (Below.refl _ _).drew
  have HK := hide (show ∀ w', Below V1.heap.size V1 w' → (w'.cell? ⟨w1.heap.size, 0, none⟩ = some (.bool v1.ln) ∧ w'.cell? ⟨w1.heap.size, 1, none⟩ = some (.slice v1.la v1.lN v1.lc)) from fun w' hB => ⟨(A.below hB).c.c0, (A.below hB).c.c1⟩)
  clear hs1 A R hBW bV
  go_wp2_with fail
  rw [← hV1]
  clear hV1
  refine AnyL.start (S := fun w' => w'.cell? ⟨w1.heap.size, 0, none⟩ = some (.bool v1.ln) ∧ w'.cell? ⟨w1.heap.size, 1, none⟩ = some (.slice v1.la v1.lN v1.lc)) (l := 5) (by kernel_rfl) (unhide HK _ hD0) (fun hHeld => ?_)
  refine AnyL.take (i := 0) (oi := { dst := some 6, op := Go.Op.fieldAddr 28 (Go.Operand.tmp 3) 0, type := 0, pos := "part.go:60", after := #[], guard := none }) (v := .pointer (some ⟨w1.heap.size, 0, none⟩)) rfl (by kernel_rfl) (by kernel_rfl) (by kernel_rfl) (by kernel_rfl) (fun _ _ _ h => h) (Or.inl ⟨by rfl, fun w hSw => ?_⟩) hHeld ?_
  · obtain ⟨s0, s1⟩ := hSw; go_simp
  try simp only [Act.put, List.setIfInBounds_toArray, List.set_cons_zero, List.set_cons_succ]
  refine AnyL.take (i := 1) (oi := { dst := some 7, op := Go.Op.load 26 (Go.Operand.tmp 6), type := 26, pos := "part.go:60", after := #[{ on := 0, ground := Go.Ground.data }], guard := none }) (v := .agg #[.bool v1.ln, .slice v1.la v1.lN v1.lc]) rfl (by kernel_rfl) (by kernel_rfl) (by kernel_rfl) (by kernel_rfl) (fun _ _ _ h => h) (Or.inl ⟨by rfl, fun w hSw => ?_⟩) hHeld ?_
  · obtain ⟨s0, s1⟩ := hSw; go_simp
  try simp only [Act.put, List.setIfInBounds_toArray, List.set_cons_zero, List.set_cons_succ]
  refine AnyL.one (i := 2) (o := { dst := some 8, op := Go.Op.call { callee := Go.Callee.value (Go.Operand.func 43), args := #[Go.Operand.const (Go.Value.int Go.IntKind.i64 1)], argTypes := #[3] }, type := 26, pos := "part.go:60", after := #[], guard := none }) (by kernel_rfl) rfl (fun Kc hKc => ?_)
  go_simp
  refine (numOf_int 1 _ (by omega) (by omega)).mono ?_
  rintro r' w2 ⟨neg2, a2, n2, c2, rfl, hint2, hb2⟩
  have hD1 := bthen hD0 hb2
  clear hb2
  go_wp2_with fail
  refine hKc.out _ _ (unhide HK _ hD1) (fun hHeld => ?_)
  clear hKc Kc
  try simp only [Act.put, List.setIfInBounds_toArray, List.set_cons_zero, List.set_cons_succ]
  refine AnyL.one (i := 3) (o := { dst := some 9, op := Go.Op.call { callee := Go.Callee.value (Go.Operand.func 72), args := #[Go.Operand.tmp 7, Go.Operand.tmp 8], argTypes := #[26, 26] }, type := 26, pos := "part.go:60", after := #[{ on := 1, ground := Go.Ground.data }, { on := 2, ground := Go.Ground.data }, { on := 2, ground := Go.Ground.chain }], guard := none }) (by kernel_rfl) rfl (fun Kc hKc => ?_)
  go_simp
  refine (sub_int _ _ _ _ _ _ _ _ (b / 16 + 24) 4 (Q b) 1 _ ((unhide HS).lo.below hD1) hint2 (by omega) (by omega)).mono ?_
  rintro r' w3 ⟨neg3, a3, n3, c3, rfl, hint3, hb3⟩
  have hD2 := bthen hD1 hb3
  clear hb3
  go_wp2_with fail
  refine hKc.out _ _ (unhide HK _ hD2) (fun hHeld => ?_)
  clear hKc Kc
  try simp only [Act.put, List.setIfInBounds_toArray, List.set_cons_zero, List.set_cons_succ]
  refine AnyL.take (i := 4) (oi := { dst := some 10, op := Go.Op.fieldAddr 28 (Go.Operand.tmp 3) 0, type := 0, pos := "part.go:60", after := #[{ on := 0, ground := Go.Ground.phase }, { on := 1, ground := Go.Ground.phase }, { on := 2, ground := Go.Ground.phase }, { on := 3, ground := Go.Ground.phase }], guard := none }) (v := .pointer (some ⟨w1.heap.size, 0, none⟩)) rfl (by kernel_rfl) (by kernel_rfl) (by kernel_rfl) (by kernel_rfl) (fun _ _ _ h => h) (Or.inl ⟨by rfl, fun w hSw => ?_⟩) hHeld ?_
  · obtain ⟨s0, s1⟩ := hSw; go_simp
  try simp only [Act.put, List.setIfInBounds_toArray, List.set_cons_zero, List.set_cons_succ]
  refine AnyL.last (o := { dst := none, op := Go.Op.store 26 (Go.Operand.tmp 10) (Go.Operand.tmp 9), type := 0, pos := "part.go:60", after := #[{ on := 4, ground := Go.Ground.data }, { on := 3, ground := Go.Ground.data }, { on := 3, ground := Go.Ground.chain }, { on := 0, ground := Go.Ground.phase }, { on := 1, ground := Go.Ground.phase }, { on := 2, ground := Go.Ground.phase }, { on := 3, ground := Go.Ground.phase }], guard := none }) (by kernel_rfl) rfl (by kernel_rfl) (fun Kc hKc => ?_)
  have V2 := (unhide HA).below hD2
  have lA := V2.lt
  obtain ⟨⟨y0, y1, y2, y3, y4⟩, y5⟩ := V2
  go_simp
  refine hKc.out _ _ ?_
  clear hKc Kc
  have R2 := (unhide HR).below hD2
  obtain ⟨V, hV⟩ : ∃ V, V = ((w3.setCell ⟨w1.heap.size, 0, none⟩ (.bool neg3)).setCell ⟨w1.heap.size, 1, none⟩ (.slice a3 n3 c3)) := ⟨_, rfl⟩
  have R3 : NoC V w.heap.size := by rw [hV]; exact R2.offLE (by omega) _ _
  have A3 : VrC V w1.heap.size ⟨neg3, a3, n3, c3, v1.hn, v1.ha, v1.hN, v1.hc, v1.bits⟩ := by rw [hV]; exact sp_putLoE ((unhide HA).below hD2) ⟨neg3, a3, n3, c3⟩
  have i1 : IntAt V neg3 a3 n3 c3 (b / 16 + 30) (Q b - 1) := by rw [hV]; exact (hint3.mono (by omega)).putLE y0 y1 _ _
  have i2 : IntAt V v1.hn v1.ha v1.hN v1.hc (b / 16 + 30) (Q b) := by rw [hV]; exact (((unhide HS).hi.below hD2).mono (by omega)).putLE y0 y1 _ _
  have hB3 : Below w.heap.size w V := by rw [hV]; exact ((bthen (unhide HBW) hD2).setCell (p := ⟨w1.heap.size, 0, none⟩) (Nat.le_of_lt lR1) _).setCell (p := ⟨w1.heap.size, 1, none⟩) (Nat.le_of_lt lR1) _
  rw [← hV]
  clear hV y0 y1 y2 y3 y4 y5 lA
  have lA := A3.lt
  have lR := R3.lt
  obtain ⟨⟨y0, y1, y2, y3, y4⟩, y5⟩ := A3
  obtain ⟨q0, q1, q2, q3, q4, q5⟩ := R3
  go_wp2_with fail
  refine bodyPost_ret (v := .agg #[.bool neg3, .slice a3 n3 c3, .bool v1.hn, .slice v1.ha v1.hN v1.hc, .int .i64 v1.bits]) (by simp [results, Tryz.results157, go_sem, q0, q1, q2, q3, q4]) rfl ⟨⟨neg3, a3, n3, c3, v1.hn, v1.ha, v1.hN, v1.hc, v1.bits⟩, rfl, unhide HB, ?_, ?_⟩
  · exact SpAt.put5 (show SpAt V ⟨neg3, a3, n3, c3, v1.hn, v1.ha, v1.hN, v1.hc, v1.bits⟩ (b / 16 + 30) (Q b - 1) (Q b) from ⟨i1, i2⟩) q0 q1 q2 q3 q4 _ _ _ _ _
  · exact set5 hB3 (Nat.le_refl _) _ _ _ _ _
end Go.Proofs.YtgmnknmjainababGreat

namespace Go.Proofs.YtgmnknmjainababGreat
set_option linter.unusedVariables false
set_option linter.unusedSimpArgs false
set_option linter.unnecessarySimpa false
open Go.RowKit
attribute [local go_sem ↓] Go.wp_at_zero Go.wp_at_succ

theorem up_one (neg : Bool) (a : Option Addr) (n cap k1 : Nat) (x : Int) (w : World) (h1 : IntAt w neg a n cap k1 x) (hk1 : k1 ≤ 1000000000) :
    Calls Tryz.prog 95 #[.agg #[.bool neg, .slice a n cap], .int .i64 1] w fun r w' =>
      ∃ neg' a' n' cap', r = .returned (.agg #[.bool neg', .slice a' n' cap']) ∧ IntAt w' neg' a' n' cap' (k1 + 1) (2 * x) ∧ Below w.heap.size w w' :=
  (up_int neg a n cap 1 k1 x w h1 hk1 (by omega)).mono fun r w' ⟨q1, q2, q3, q4, e, h, hb⟩ => ⟨q1, q2, q3, q4, e, by
    have e1 : x * Q 1 = 2 * x := by have : Q 1 = 2 := rfl; rw [this]; omega
    have e2 : 1 / 16 + k1 + 1 = k1 + 1 := by omega
    rw [e1, e2] at h; exact h, hb⟩

set_option maxRecDepth 100000 in
set_option maxHeartbeats 8000000 in
theorem erf_far (w : World) (x y : Nm) (n d : Int) (b : Nat) (hx : IntAt w x.neg x.a x.n x.cap 8 n) (hy : IntAt w y.neg y.a y.n y.cap 8 d) (hb40 : 40 ≤ b) (hb : b ≤ 10000) (hge : d * (b : Int) ≤ n) :
    Calls Tryz.prog 94 #[.agg #[.bool x.neg, .slice x.a x.n x.cap], .agg #[.bool y.neg, .slice y.a y.n y.cap], .int .i64 b] w (SpanAns w b (b / 16 + 30) (Q b - 1) (Q b)) := by
  obtain ⟨W, hW⟩ : ∃ W, W = ((w.alloc (.cells #[.bool x.neg, .slice x.a x.n x.cap] 26)).alloc (.cells #[.bool y.neg, .slice y.a y.n y.cap] 26)).alloc (.cells #[.bool false, .slice none 0 0, .bool false, .slice none 0 0, .int .i64 0] 28) := ⟨_, rfl⟩
  have hBW : Below w.heap.size w W := by rw [hW]; exact bl3 _ _ _ _
  have X : NmC W w.heap.size x := by rw [hW]; exact ⟨by simp [go_sem], by simp [go_sem]⟩
  have Y : NmC W (w.heap.size + 1) y := by rw [hW]; exact ⟨by simp [go_sem], by simp [go_sem]⟩
  have R : NoC W (w.heap.size + 1 + 1) := by rw [hW]; exact ⟨by simp [go_sem], by simp [go_sem], by simp [go_sem], by simp [go_sem], by simp [go_sem], fun o => by simp [go_sem]⟩
  have HX := hide (hx.below hBW)
  have HY := hide (hy.below hBW)
  have lX := X.lt
  have lY := Y.lt
  have lR := R.lt
  have HK := hide (show ∀ w', Below W.heap.size W w' → (w'.cell? ⟨w.heap.size, 0, none⟩ = some (.bool x.neg) ∧ w'.cell? ⟨w.heap.size, 1, none⟩ = some (.slice x.a x.n x.cap) ∧ w'.cell? ⟨w.heap.size + 1, 0, none⟩ = some (.bool y.neg) ∧ w'.cell? ⟨w.heap.size + 1, 1, none⟩ = some (.slice y.a y.n y.cap)) from fun w' hB => ⟨(X.below hB).c0, (X.below hB).c1, (Y.below hB).c0, (Y.below hB).c1⟩)
  have hB0 : Below W.heap.size W W.drew := (Below.refl _ _).drew
  clear hx hy
  have HC : Hid (cmpInt n (d * (b : Int)) = if n = d * (b : Int) then 0 else 1) := hide (by unfold cmpInt; split <;> (try split) <;> (try split) <;> omega)
  have HCC : Hid (0 ≤ (if n = d * (b : Int) then (0 : Int) else 1)) := hide (by split <;> omega)
  obtain ⟨cc, hcc⟩ : ∃ cc : Int, cc = (if n = d * (b : Int) then (0 : Int) else 1) := ⟨_, rfl⟩
  rw [← hcc] at HC HCC
  have hc0 : 0 ≤ cc := unhide HCC
  clear hcc HCC
  go_enter Tryz.func94, Tryz.ntmps94
  go_wp2
  rw [← hW]
  clear hW
  obtain ⟨x0, x1, x2, x3⟩ := unhide HK _ (Below.refl _ _)
  go_region_held3 (fun w' => w'.cell? ⟨w.heap.size, 0, none⟩ = some (.bool x.neg) ∧ w'.cell? ⟨w.heap.size, 1, none⟩ = some (.slice x.a x.n x.cap) ∧ w'.cell? ⟨w.heap.size + 1, 0, none⟩ = some (.bool y.neg) ∧ w'.cell? ⟨w.heap.size + 1, 1, none⟩ = some (.slice y.a y.n y.cap)) (first | exact unhide HK _ (by first | with_reducible exact hB0 | with_reducible exact hB3 | with_reducible exact hB2 | with_reducible exact hB1) | go_keep)
    (first
      | (go_at_call 46; have hq := hB2; refine (cmp_int _ _ _ _ _ _ _ _ 8 (8 + 4) n (d * (b : Int)) _ ((unhide HX).below hB2) hint2).mono ?_; rintro r w3 ⟨rfl, hb3⟩; rw [unhide HC]; have hB3 := bthen hB2 hb3; have i0 := unhide HK _ hB3)
      | (go_at_call 66; have hq := hB1; refine (mul_int _ _ _ _ _ _ _ _ 8 4 d (b : Int) _ ((unhide HY).below hB1) hint1 (by omega) (by omega)).mono ?_; rintro r w2 ⟨neg2, a2, n2, c2, rfl, hint2, hb2⟩; have hB2 := bthen hB1 hb2)
      | (go_at_call 43; refine (numOf_int (b : Int) _ (by omega) (by omega)).mono ?_; rintro r w1 ⟨neg1, a1, n1, c1, rfl, hint1, hb1⟩; have hB1 := bthen hB0 hb1))
  all_goals
    have R3 := R.below hB3
    replace hBW := bthen hBW hB3
    have lR3 := R3.lt
    clear x0 x1 x2 x3 i0 hint2 hint1
    go_wp2_with fail
    refine (nearlyOne_int _ b (by omega)).mono ?_
    rintro r w4 ⟨t, rfl, htb, htp, hb4⟩
    obtain ⟨q0, q1, q2, q3, q4, q5⟩ := R3.below hb4
    replace hBW := bthen hBW hb4
    have HT := hide htb
    clear htb
    go_wp2_with fail
    refine bodyPost_ret (v := .agg #[.bool t.ln, .slice t.la t.lN t.lc, .bool t.hn, .slice t.ha t.hN t.hc, .int .i64 t.bits]) (by simp [results, Tryz.results94, go_sem, q0, q1, q2, q3, q4]) rfl ⟨t, rfl, unhide HT, ?_, ?_⟩
    · exact SpAt.put5 htp q0 q1 q2 q3 q4 _ _ _ _ _
    · exact set5 hBW (by omega) _ _ _ _ _

set_option maxRecDepth 100000 in
set_option maxHeartbeats 8000000 in
theorem erf_iv (w : World) (x y : Nm) (n d : Int) (b : Nat) (hx : IntAt w x.neg x.a x.n x.cap 8 n) (hy : IntAt w y.neg y.a y.n y.cap 8 d) (hb40 : 40 ≤ b) (hb : b ≤ 10000) (xr : Nat → Rat) (M t N N5 N9 : Nat) (l : Int) (h : ErIn n d xr) (hlt : n < d * (b : Int)) (hM : M ≤ 3 * b + 8523) (hM2 : IsRise (erT n d b) (erTurn n d) M) (hl : LenIs (reachI (ofI n d b)) l) (ht : (t : Int) = max 0 (l - b + 8)) (ht16 : t ≤ 16) (hA : Abs (downI (ofI n d b) t) (Q (b - 8))) (hN : IsStop (expT b (downI (ofI n d b) t)) N) (h5 : IsStop (agT 5 b) N5) (h9 : IsStop (agT 239 b) N9) :
    Calls Tryz.prog 94 #[.agg #[.bool x.neg, .slice x.a x.n x.cap], .agg #[.bool y.neg, .slice y.a y.n y.cap], .int .i64 b] w (SpanAns w b 3000 (cap1 b (erQ n d b M t N N5 N9)).1 (cap1 b (erQ n d b M t N N5 N9)).2) := by
  obtain ⟨W, hW⟩ : ∃ W, W = ((w.alloc (.cells #[.bool x.neg, .slice x.a x.n x.cap] 26)).alloc (.cells #[.bool y.neg, .slice y.a y.n y.cap] 26)).alloc (.cells #[.bool false, .slice none 0 0, .bool false, .slice none 0 0, .int .i64 0] 28) := ⟨_, rfl⟩
  have hBW : Below w.heap.size w W := by rw [hW]; exact bl3 _ _ _ _
  have X : NmC W w.heap.size x := by rw [hW]; exact ⟨by simp [go_sem], by simp [go_sem]⟩
  have Y : NmC W (w.heap.size + 1) y := by rw [hW]; exact ⟨by simp [go_sem], by simp [go_sem]⟩
  have R : NoC W (w.heap.size + 1 + 1) := by rw [hW]; exact ⟨by simp [go_sem], by simp [go_sem], by simp [go_sem], by simp [go_sem], by simp [go_sem], fun o => by simp [go_sem]⟩
  have HX := hide (hx.below hBW)
  have HY := hide (hy.below hBW)
  have lX := X.lt
  have lY := Y.lt
  have lR := R.lt
  have HK := hide (show ∀ w', Below W.heap.size W w' → (w'.cell? ⟨w.heap.size, 0, none⟩ = some (.bool x.neg) ∧ w'.cell? ⟨w.heap.size, 1, none⟩ = some (.slice x.a x.n x.cap) ∧ w'.cell? ⟨w.heap.size + 1, 0, none⟩ = some (.bool y.neg) ∧ w'.cell? ⟨w.heap.size + 1, 1, none⟩ = some (.slice y.a y.n y.cap)) from fun w' hB => ⟨(X.below hB).c0, (X.below hB).c1, (Y.below hB).c0, (Y.below hB).c1⟩)
  have hB0 : Below W.heap.size W W.drew := (Below.refl _ _).drew
  clear hx hy
  have d0 : 0 < d := h.d0
  have HC : Hid (cmpInt n (d * (b : Int)) = -1) := hide (by unfold cmpInt; rw [if_pos hlt])
  have HH := hide h
  have hQK : ∀ j : Nat, j ≤ 15900 → Q j < P 1000 := fun j hj => by
    rw [← Q_P]
    have h1 := Q_mono (show j + 1 ≤ 16 * 1000 by omega)
    have h2 : Q (j + 1) = 2 * Q j := rfl
    have := Q_pos j
    omega
  have HQK := hide hQK
  have HF0 : Hid ((erF n d b).1 ≤ (erF n d b).2 ∧ -P 1000 < (erF n d b).1 ∧ (erF n d b).2 < P 1000) := hide (by
    obtain ⟨f1, f2, f3, f4, f5⟩ := erF_ok h b
    have := hQK (b + 4) (by omega)
    have := Q_pos (b + 4)
    exact ⟨f2, by omega, by omega⟩)
  have HTF : Hid (∀ j, j ≤ M → -P 1000 < (erT n d b j).1 ∧ (erT n d b j).2 < P 1000) := hide (fun j _ => by
    obtain ⟨f1, f2, f3, f4⟩ := erT_each h b j
    have := hQK (b + 2740) (by omega)
    have := Q_pos (b + 2740)
    exact ⟨by omega, by omega⟩)
  have HTS : Hid (∀ j, j ≤ M → -P 1000 < (sumI (erT n d b) j).1 ∧ (sumI (erT n d b) j).2 < P 1000) := hide (fun j hj => by
    obtain ⟨f1, f2, f3, f4⟩ := erT_sum h b hb j (by omega)
    have := hQK (b + 2760) (by omega)
    have := Q_pos (b + 2760)
    exact ⟨by omega, by omega⟩)
  have HTL := hide (fun j => (erT_each h b j).2.1)
  have HT0 := hide (fun j => (erT_each h b j).1)
  have HPB : Hid ((erP b N5 N9).1 ≤ (erP b N5 N9).2 ∧ -P 1000 < (erP b N5 N9).1 ∧ (erP b N5 N9).2 < P 1000) := hide (by
    obtain ⟨R', hR'⟩ := Ex.piR_ex
    obtain ⟨f1, f2, f3, f4, f5⟩ := erP_ok hR' (by omega) hb h5 h9
    have := hQK (b + 4) (by omega)
    have e : Q (b + 4) = 2 * (2 * (2 * (2 * Q b))) := rfl
    have := Q_pos b
    exact ⟨f2, by omega, by omega⟩)
  have HDN : Hid (¬ ((erDn n d b t N N5 N9).1 ≤ 0 ∧ 0 ≤ (erDn n d b t N N5 N9).2) ∧ (erDn n d b t N N5 N9).1 ≤ (erDn n d b t N N5 N9).2) := hide (by
    obtain ⟨R', hR'⟩ := Ex.piR_ex
    obtain ⟨f1, f2, f3, f4, f5⟩ := erDn_ok hR' h hb40 hb ht16 hA hN h5 h9
    have := Q_pos b
    exact ⟨by omega, f2⟩)
  have HSL : Hid ((erSer n d b M).1 * 2 ≤ (erSer n d b M).2 * 2) := hide (by
    obtain ⟨f1, f2, f3, f4, f5⟩ := erSer_ok h hb hM hM2
    omega)
  have HQ4 : Hid (Q (b + 4) < P 1000) := hide (hQK _ (by omega))
  have HEB : Hid (Q (b + eb t) < P 1000) := hide (hQK _ (by have := eb_mono (show t ≤ 17 by omega); rw [eb_17] at this; omega))
  have htn : erTurn n d ≤ 303 := er_turn h.n0 h.d0 h.up
  have HZ : Hid (2 * n / d = (erTurn n d : Int) ∧ 0 ≤ 2 * n / d ∧ 2 * n / d < P 1 ∧ -P 1 < 2 * n / d) := hide (by
    have z0 : 0 ≤ 2 * n / d := Int.ediv_nonneg (by have := h.n0; omega) (by omega)
    have e : 2 * n / d = (erTurn n d : Int) := by unfold erTurn; omega
    have p1 : P 1 = 65536 := rfl
    exact ⟨e, z0, by omega, by omega⟩)
  have HOL := hide (ofI_le (n := n) d0 b)
  have HM := hide hM2
  have Hl := hide hl
  have HTT := hide ht
  have HAA := hide hA
  have HN := hide hN
  have H5 := hide h5
  have H9 := hide h9
  clear h hlt hM2 hl ht hA hN h5 h9 hQK
  go_enter Tryz.func94, Tryz.ntmps94
  go_wp2
  rw [← hW]
  clear hW
  obtain ⟨x0, x1, x2, x3⟩ := unhide HK _ (Below.refl _ _)
  go_region_held3 (fun w' => w'.cell? ⟨w.heap.size, 0, none⟩ = some (.bool x.neg) ∧ w'.cell? ⟨w.heap.size, 1, none⟩ = some (.slice x.a x.n x.cap) ∧ w'.cell? ⟨w.heap.size + 1, 0, none⟩ = some (.bool y.neg) ∧ w'.cell? ⟨w.heap.size + 1, 1, none⟩ = some (.slice y.a y.n y.cap)) (first | exact unhide HK _ (by first | with_reducible exact hB0 | with_reducible exact hB3 | with_reducible exact hB2 | with_reducible exact hB1) | go_keep)
    (first
      | (go_at_call 46; have hq := hB2; refine (cmp_int _ _ _ _ _ _ _ _ 8 (8 + 4) n (d * (b : Int)) _ ((unhide HX).below hB2) hint2).mono ?_; rintro r w3 ⟨rfl, hb3⟩; rw [unhide HC]; have hB3 := bthen hB2 hb3; have i0 := unhide HK _ hB3)
      | (go_at_call 66; have hq := hB1; refine (mul_int _ _ _ _ _ _ _ _ 8 4 d (b : Int) _ ((unhide HY).below hB1) hint1 (by omega) (by omega)).mono ?_; rintro r w2 ⟨neg2, a2, n2, c2, rfl, hint2, hb2⟩; have hB2 := bthen hB1 hb2)
      | (go_at_call 43; refine (numOf_int (b : Int) _ (by omega) (by omega)).mono ?_; rintro r w1 ⟨neg1, a1, n1, c1, rfl, hint1, hb1⟩; have hB1 := bthen hB0 hb1))
  all_goals
    have R3 := R.below hB3
    have X3 := X.below hB3
    have Y3 := Y.below hB3
    have HX3 := hide ((unhide HX).below hB3)
    have HY3 := hide ((unhide HY).below hB3)
    replace hBW := bthen hBW hB3
    clear x0 x1 x2 x3 i0 hint2 hint1 HK HX HY X Y R
    obtain ⟨x0, x1⟩ := X3
    obtain ⟨x2, x3⟩ := Y3
    have lX3 := NmC.lt ⟨x0, x1⟩
    have lY3 := NmC.lt ⟨x2, x3⟩
    go_wp2_with fail
    refine (up_one _ _ _ _ 8 n _ (unhide HX3) (by omega)).mono ?_
    rintro r w4 ⟨neg4, a4, n4, c4, rfl, hint4, hb4⟩
    replace R3 := R3.below hb4
    have X4 : NmC w4 w.heap.size x := NmC.below ⟨x0, x1⟩ hb4
    have Y4 : NmC w4 (w.heap.size + 1) y := NmC.below ⟨x2, x3⟩ hb4
    replace HX3 := hide ((unhide HX3).below hb4)
    replace HY3 := hide ((unhide HY3).below hb4)
    replace hBW := bthen hBW hb4
    clear x0 x1 x2 x3 hb4 lX3 lY3
    obtain ⟨V4, hV4⟩ : ∃ V, V = w4.alloc (.cells #[.bool neg4, .slice a4 n4 c4] 26) := ⟨_, rfl⟩
    have bV4 : Below w4.heap.size w4 V4 := by rw [hV4]; exact bl1 _ _
    have D4 : NmC V4 w4.heap.size ⟨neg4, a4, n4, c4⟩ := by rw [hV4]; exact nmc_new w4 ⟨neg4, a4, n4, c4⟩ _
    have HD4 := hide (hint4.below bV4)
    have lD : w.heap.size + 1 + 1 < w4.heap.size := R3.lt
    have lX4 := X4.lt
    have lY4 := Y4.lt
    have Xk := hide (X4.below bV4)
    have Yk := hide (Y4.below bV4)
    have Dk := hide D4
    obtain ⟨x0, x1⟩ := X4
    obtain ⟨x2, x3⟩ := Y4
    replace R3 := R3.below bV4
    replace HX3 := hide ((unhide HX3).below bV4)
    replace HY3 := hide ((unhide HY3).below bV4)
    replace hBW := bthen hBW bV4
    clear hint4 bV4 D4
    go_wp2_with fail
    rw [← hV4]
    clear hV4 x0 x1 x2 x3 lX4 lY4
    refine (floor_any _ _ _ _ _ _ _ _ 9 8 (2 * n) d _ (unhide HD4) (unhide HY3) (by omega) d0).mono ?_
    rintro r w5 ⟨neg5, a5, n5, c5, rfl, hint5, hb5⟩
    replace R3 := R3.below hb5
    have X4 := (unhide Xk).below hb5
    have Y4 := (unhide Yk).below hb5
    have D4 := (unhide Dk).below hb5
    replace HX3 := hide ((unhide HX3).below hb5)
    replace HY3 := hide ((unhide HY3).below hb5)
    replace HD4 := hide ((unhide HD4).below hb5)
    replace hBW := bthen hBW hb5
    clear hb5 Xk Yk Dk
    go_wp2_with fail
    refine (small_one _ _ _ _ (2 * n / d) _ (hint5.fits (unhide HZ).2.2.2 (unhide HZ).2.2.1) (unhide HZ).2.1).mono ?_
    rintro r w6 ⟨rfl, hb6⟩
    rw [(unhide HZ).1]
    replace R3 := R3.below hb6
    replace X4 := X4.below hb6
    replace Y4 := Y4.below hb6
    replace D4 := D4.below hb6
    replace HX3 := hide ((unhide HX3).below hb6)
    replace HY3 := hide ((unhide HY3).below hb6)
    replace HD4 := hide ((unhide HD4).below hb6)
    replace hBW := bthen hBW hb6
    clear hb6 hint5
    have lX4 := X4.lt
    have lY4 := Y4.lt
    obtain ⟨x0, x1⟩ := X4
    obtain ⟨x2, x3⟩ := Y4
    go_wp2_with fail
    refine (wideOf_any _ _ _ _ _ _ _ _ 8 8 b n d _ (unhide HX3) (unhide HY3) (by omega) (by omega) d0).mono ?_
    rintro r w7 ⟨v7, rfl, hvb7, hvp7, hb7⟩
    have HV7 := hide hvb7
    replace R3 := R3.below hb7
    have X4 : NmC w7 w.heap.size x := NmC.below ⟨x0, x1⟩ hb7
    have Y4 : NmC w7 (w.heap.size + 1) y := NmC.below ⟨x2, x3⟩ hb7
    replace D4 := D4.below hb7
    replace HX3 := hide ((unhide HX3).below hb7)
    replace HY3 := hide ((unhide HY3).below hb7)
    replace HD4 := hide ((unhide HD4).below hb7)
    replace hBW := bthen hBW hb7
    clear hb7 hvb7 x0 x1 x2 x3 lX4 lY4
    go_wp2_with fail
    refine (wideRoot_int _ v7 _ b _ _ hvp7 (by omega) (by omega) (unhide HV7)).mono ?_
    rintro r w8 ⟨v8, rfl, hvb8, hvp8, hb8⟩
    have HV8 := hide hvb8
    have HP8 := hide (show SpAt w8 v8 1000 (erF n d b).1 (erF n d b).2 from hvp8.fits (unhide HF0).1 (unhide HF0).2.1 (unhide HF0).2.2)
    replace R3 := R3.below hb8
    replace X4 := X4.below hb8
    replace Y4 := Y4.below hb8
    replace D4 := D4.below hb8
    replace HX3 := hide ((unhide HX3).below hb8)
    replace HY3 := hide ((unhide HY3).below hb8)
    replace HD4 := hide ((unhide HD4).below hb8)
    replace hBW := bthen hBW hb8
    clear hb8 hvb8 hvp8 hvp7 HV7
    have HFN := hide (show ∀ (j : Nat) (u : Sp) w', j < M → u.bits = (b : Int) → SpAt w' u 1000 (erT n d b j).1 (erT n d b j).2 → Below w8.heap.size w8 w' → Calls Tryz.prog 160 #[.agg #[.bool u.ln, .slice u.la u.lN u.lc, .bool u.hn, .slice u.ha u.hN u.hc, .int .i64 u.bits], .int .i64 ((j : Int) + 1), .pointer (some ⟨w4.heap.size, 0, none⟩), .pointer (some ⟨w.heap.size + 1, 0, none⟩)] w' (SpanAns w' b 1019 (erT n d b (j + 1)).1 (erT n d b (j + 1)).2) from fun j u w' hj hub hup hbw => er1_iv w' w4.heap.size (w.heap.size + 1) u ⟨neg4, a4, n4, c4⟩ y 1000 9 8 b ((j : Int) + 1) (erT n d b j) (2 * n) d hup ((unhide HD4).below hbw) ((unhide HY3).below hbw) (D4.below hbw) (Y4.below hbw) (by omega) (by omega) (by omega) hub (by omega) (by omega) d0)
    go_wp2_with fail
    refine (rise_erf _ _ (erT n d b) (erTurn n d) M b 1000 1019 v8 _ (unhide HP8) (unhide HV8) (by omega) (by omega) (by omega) (by omega) (unhide HM) (by omega) (by omega) (unhide HTL) (unhide HT0) (unhide HTF) (unhide HTS) (unhide HFN)).mono ?_
    rintro r w9 ⟨v, rfl, hvb9, hvp9, hb9⟩
    have HV9 := hide hvb9
    have HP9 := hide (show SpAt w9 v 1003 (erSer n d b M).1 (erSer n d b M).2 from hvp9)
    replace R3 := R3.below hb9
    replace X4 := X4.below hb9
    replace Y4 := Y4.below hb9
    replace HX3 := hide ((unhide HX3).below hb9)
    replace HY3 := hide ((unhide HY3).below hb9)
    replace hBW := bthen hBW hb9
    have lR9 := R3.lt
    clear hb9 hvb9 hvp9 HP8 HFN D4 HD4 HTL HT0 HTF HTS HM HV8
    obtain ⟨V9, hV9⟩ : ∃ V, V = w9.alloc (.cells #[.bool v.ln, .slice v.la v.lN v.lc, .bool v.hn, .slice v.ha v.hN v.hc, .int .i64 v.bits] 28) := ⟨_, rfl⟩
    have bV9 : Below w9.heap.size w9 V9 := by rw [hV9]; exact bl1 _ _
    have S9 : SpC V9 w9.heap.size v := by rw [hV9]; exact spc_new w9 v _
    replace HP9 := hide ((unhide HP9).below bV9)
    replace R3 := R3.below bV9
    replace X4 := X4.below bV9
    replace Y4 := Y4.below bV9
    replace HX3 := hide ((unhide HX3).below bV9)
    replace HY3 := hide ((unhide HY3).below bV9)
    replace hBW := bthen hBW bV9
    clear bV9
    have lX9 := X4.lt
    have lY9 := Y4.lt
    have lS9 := S9.lt
    have lRR := R3.lt
    have HK6 := hide (show ∀ w', Below V9.heap.size V9 w' → (w'.cell? ⟨w9.heap.size, 0, none⟩ = some (.bool v.ln) ∧ w'.cell? ⟨w9.heap.size, 1, none⟩ = some (.slice v.la v.lN v.lc) ∧ w'.cell? ⟨w9.heap.size, 2, none⟩ = some (.bool v.hn) ∧ w'.cell? ⟨w9.heap.size, 3, none⟩ = some (.slice v.ha v.hN v.hc) ∧ w'.cell? ⟨w9.heap.size, 4, none⟩ = some (.int .i64 v.bits) ∧ w'.cell? ⟨w.heap.size, 0, none⟩ = some (.bool x.neg) ∧ w'.cell? ⟨w.heap.size, 1, none⟩ = some (.slice x.a x.n x.cap) ∧ w'.cell? ⟨w.heap.size + 1, 0, none⟩ = some (.bool y.neg) ∧ w'.cell? ⟨w.heap.size + 1, 1, none⟩ = some (.slice y.a y.n y.cap)) from fun w' hB => ⟨(S9.below hB).c0, (S9.below hB).c1, (S9.below hB).c2, (S9.below hB).c3, (S9.below hB).c4, (X4.below hB).c0, (X4.below hB).c1, (Y4.below hB).c0, (Y4.below hB).c1⟩)
    have hD0 : Below V9.heap.size V9 V9.drew := (Below.refl _ _).drew
    go_wp2_with fail
    rw [← hV9]
    clear hV9
    obtain ⟨x0, x1, x2, x3, x4, x5, x6, x7, x8⟩ := unhide HK6 _ (Below.refl _ _)
    have nR1 : w.heap.size + 1 + 1 ≠ w9.heap.size := by omega
    have nR2 : w.heap.size + 1 + 1 ≠ w.heap.size + 1 := by omega
    have nR3 : w.heap.size + 1 + 1 ≠ w.heap.size := by omega
    go_region_held3 (fun w' => w'.cell? ⟨w9.heap.size, 0, none⟩ = some (.bool v.ln) ∧ w'.cell? ⟨w9.heap.size, 1, none⟩ = some (.slice v.la v.lN v.lc) ∧ w'.cell? ⟨w9.heap.size, 2, none⟩ = some (.bool v.hn) ∧ w'.cell? ⟨w9.heap.size, 3, none⟩ = some (.slice v.ha v.hN v.hc) ∧ w'.cell? ⟨w9.heap.size, 4, none⟩ = some (.int .i64 v.bits) ∧ w'.cell? ⟨w.heap.size, 0, none⟩ = some (.bool x.neg) ∧ w'.cell? ⟨w.heap.size, 1, none⟩ = some (.slice x.a x.n x.cap) ∧ w'.cell? ⟨w.heap.size + 1, 0, none⟩ = some (.bool y.neg) ∧ w'.cell? ⟨w.heap.size + 1, 1, none⟩ = some (.slice y.a y.n y.cap)) (first | exact unhide HK6 _ (by first | with_reducible exact hD0 | with_reducible exact hD8 | with_reducible exact hD7 | with_reducible exact hD6 | with_reducible exact hD5 | with_reducible exact hD4 | with_reducible exact hD3 | with_reducible exact hD2 | with_reducible exact hD1) | go_keep)
      (first
        | (go_at_call 145; have hq := hD7; refine (upToOne_int _ f7 _ b _ _ hfp7 (unhide F7) (by omega) (by omega) (by omega)).mono ?_; rintro r g8 ⟨f8, rfl, hfb8, hfp8, hg8⟩; have F8 := hide hfb8; clear hfb8; have hD8 := bthen hD7 hg8; obtain ⟨q0, q1, q2, q3, q4, q5⟩ := R3.below hD8; obtain ⟨i0, i1, i2, i3, i4, i5, i6, i7, i8⟩ := unhide HK6 _ hD8)
        | (go_at_call 146; have hq := hD6; refine (wideDiv_any _ f1 f6 2008 b _ _ _ _ ((hfp1.below (bthen hg2 (bthen hg3 (bthen hg4 (bthen hg5 hg6))))).mono (by omega)) hfp6 (by omega) (by omega) (unhide F1) (unhide HSL) (unhide HDN).1 (unhide HDN).2).mono ?_; rintro r g7 ⟨f7, rfl, hfb7, hfp7, hg7⟩; have F7 := hide hfb7; clear hfb7; have hD7 := bthen hD6 hg7)
        | (go_at_call 162; have hq := hD5; refine (mul_iv _ f3 f5 1000 b (erP b N5 N9) (erX n d b t N) (hfp3.below (bthen hg4 hg5)) hfp5 (by omega) (unhide F3) (by omega)).mono ?_; rintro r g6 ⟨f6, rfl, hfb6, hfp6, hg6⟩; clear hfb6; have hD6 := bthen hD5 hg6)
        | (go_at_call 147; have hq := hD4; refine (wideExp_iv _ f4 1000 b t N (ofI n d b) l hfp4 (unhide F4) (unhide HOL) (by omega) (by omega) (unhide Hl) (unhide HTT) (by omega) (unhide HAA) (unhide HN) (unhide HEB) (by omega)).mono ?_; rintro r g5 ⟨f5, rfl, hfb5, hfp5, hg5⟩; clear hfb5; have hD5 := bthen hD4 hg5)
        | (go_at_call 140; have hq := hD3; refine (wideOf_any _ _ _ _ _ _ _ _ 8 8 b n d _ ((unhide HX3).below hD3) ((unhide HY3).below hD3) (by omega) (by omega) d0).mono ?_; rintro r g4 ⟨f4, rfl, hfb4, hfp4', hg4⟩; have hfp4 := hfp4'.mono (show 8 + b / 16 + 20 ≤ 1000 by omega); have F4 := hide hfb4; clear hfb4 hfp4'; have hD4 := bthen hD3 hg4)
        | (go_at_call 159; have hq := hD2; refine (wideRoot_int _ f2 1008 b _ _ hfp2 (by omega) (by omega) (unhide F2)).mono ?_; rintro r g3 ⟨f3, rfl, hfb3, hfp3', hg3⟩; have hfp3 := SpAt.fits (K := 1000) (show SpAt g3 f3 _ (erP b N5 N9).1 (erP b N5 N9).2 from hfp3') (unhide HPB).1 (unhide HPB).2.1 (unhide HPB).2.2; have F3 := hide hfb3; clear hfb3 hfp3'; have hD3 := bthen hD2 hg3)
        | (go_at_call 163; have hq := hD1; refine (pi_iv _ b N5 N9 1000 (by omega) (by omega) (unhide H5) (unhide H9) (unhide HQ4) (by omega)).mono ?_; rintro r g2 ⟨f2, rfl, hfb2, hfp2, hg2⟩; have F2 := hide hfb2; clear hfb2; have hD2 := bthen hD1 hg2)
        | (go_at_call 161; refine (times_iv _ v 1003 b 2 _ ((unhide HP9).below hD0) (by omega) (unhide HV9) (by omega) (by omega)).mono ?_; rintro r g1 ⟨f1, rfl, hfb1, hfp1, hg1⟩; have F1 := hide hfb1; clear hfb1; have hD1 := bthen hD0 hg1))
    all_goals
      go_wp2_with fail
      refine bodyPost_ret (v := .agg #[.bool f8.ln, .slice f8.la f8.lN f8.lc, .bool f8.hn, .slice f8.ha f8.hN f8.hc, .int .i64 f8.bits]) (by simp [results, Tryz.results94, go_sem, q0, q1, q2, q3, q4]) rfl ⟨f8, rfl, unhide F8, ?_, ?_⟩
      · have hz := SpAt.put5 hfp8 q0 q1 q2 q3 q4 (.bool f8.ln) (.slice f8.la f8.lN f8.lc) (.bool f8.hn) (.slice f8.ha f8.hN f8.hc) (.int .i64 f8.bits)
        rw [minZ_cap] at hz
        exact hz.mono (by omega)
      · exact set5 (bthen hBW hD8) (by omega) _ _ _ _ _
end Go.Proofs.YtgmnknmjainababGreat
