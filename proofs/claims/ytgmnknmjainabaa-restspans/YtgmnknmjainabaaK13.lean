/-
  Answers, copies of them, and the loop that spoils what came.
  The statement of memory, walked.
  How a span that is handed to a statement is opened: its ends' digits, within the form's own reach; no statement of the seat is proved here.
-/
import Derived.Deep.Light
import Derived.Test.YtgmnknmjainabaaRows
import Derived.ProofKit
import Derived.OpenShut
import Derived.SizedLaws
import Derived.ChangeOld
import Derived.Test.YtgmnknmjainabaaK12
namespace Go.Proofs.Ytgmnknmjainabaa
set_option linter.unusedVariables false
set_option linter.unusedSimpArgs false
set_option linter.unnecessarySimpa false
open Go.RowKit
attribute [local go_sem ↓] Go.wp_at_zero Go.wp_at_succ

/-- Seven. -/
def pr7 {α : Type} (a0 a1 a2 a3 a4 a5 a6 : α) : Nat → α
  | 0 => a0
  | 1 => a1
  | 2 => a2
  | 3 => a3
  | 4 => a4
  | 5 => a5
  | _ => a6
/-- An answer: its numbers, and that its digits lie in blocks from lo on, below hi, that may be written. -/
structure An (w : World) (lo hi : Nat) (u : Sp) (b L H : Int) : Prop where
  at_ : SpAt w u 70000 L H
  bits : u.bits = b
  l : Wr lo hi w u.la u.lN
  h : Wr lo hi w u.ha u.hN
  le : hi ≤ w.heap.size
theorem Wr.wide {lo hi hi' : Nat} {w : World} {a : Option Addr} {n : Nat} (h : Wr lo hi w a n) (hh : hi ≤ hi') : Wr lo hi' w a n := fun h0 => by
  obtain ⟨b, off, h1, h2, h3, h4⟩ := h h0
  exact ⟨b, off, h1, h2, Nat.lt_of_lt_of_le h3 hh, h4⟩
theorem an_new {m : Nat} {w : World} {u : Sp} {b L H : Int} (h1 : SpAt w u 70000 L H) (h2 : u.bits = b) (h3 : MineS m w u) : An w m w.heap.size u b L H := by
  obtain ⟨d, g1, _⟩ := h1.lo
  obtain ⟨e, g2, _⟩ := h1.hi
  exact ⟨h1, h2, wr_of h3.lo g1, wr_of h3.hi g2, Nat.le_refl _⟩
theorem An.below {w w' : World} {lo hi : Nat} {u : Sp} {b L H : Int} (h : An w lo hi u b L H) (hb : Below w.heap.size w w') : An w' lo hi u b L H :=
  ⟨h.at_.below hb, h.bits, h.l.below h.le hb, h.h.below h.le hb, Nat.le_trans h.le hb.size⟩
theorem Dig.out {m lo hi : Nat} {w w' : World} {a : Option Addr} {n cap : Nat} {d : Nat → Int} (h : Dig w a n cap d) (hn : 0 < n → ∀ b off, a = some ⟨b, off, none⟩ → ¬ (lo ≤ b ∧ b < hi)) (ho : Out lo hi w w') : Dig w' a n cap d :=
  ⟨fun h0 => by
    obtain ⟨b, off, h1, h2, h3⟩ := h.at_ h0
    exact ⟨b, off, h1, Nat.lt_of_lt_of_le h2 ho.size, fun j hj => (ho.cell (p := ⟨b, off + j, none⟩) h2 (hn h0 b off h1)).trans (h3 j hj)⟩, h.dgs, h.le, h.room⟩
theorem IntAt.out {lo hi : Nat} {w w' : World} {neg : Bool} {a : Option Addr} {n cap k : Nat} {z : Int} (h : IntAt w neg a n cap k z) (hn : 0 < n → ∀ b off, a = some ⟨b, off, none⟩ → ¬ (lo ≤ b ∧ b < hi)) (ho : Out lo hi w w') : IntAt w' neg a n cap k z := by
  obtain ⟨d, h2, h3⟩ := h
  exact ⟨d, Dig.out (m := 0) h2 hn ho, h3⟩
theorem Mine.off {m lo hi : Nat} {w : World} {a : Option Addr} {n : Nat} (h : Mine m w a n) (hm : hi ≤ m) : 0 < n → ∀ b off, a = some ⟨b, off, none⟩ → ¬ (lo ≤ b ∧ b < hi) := fun h0 b off e => by
  obtain ⟨b', off', h1, h2, _⟩ := h h0
  rw [h1] at e
  obtain ⟨rfl, rfl⟩ : b' = b ∧ off' = off := by simpa using e
  omega
theorem Mine.out {m lo hi : Nat} {w w' : World} {a : Option Addr} {n : Nat} (h : Mine m w a n) (hm : hi ≤ m) (ho : Out lo hi w w') : Mine m w' a n := fun h0 => by
  obtain ⟨b, off, h1, h2, h3, h4⟩ := h h0
  exact ⟨b, off, h1, h2, Nat.lt_of_lt_of_le h3 ho.size, fun o => (ho.frozen (p := ⟨b, o, none⟩) h3 (fun e => by have := e.2; simp only [] at this; omega)).trans (h4 o)⟩
theorem Wr.off {lo hi lo' hi' : Nat} {w : World} {a : Option Addr} {n : Nat} (h : Wr lo' hi' w a n) (hd : hi ≤ lo' ∨ hi' ≤ lo) : 0 < n → ∀ b off, a = some ⟨b, off, none⟩ → ¬ (lo ≤ b ∧ b < hi) := fun h0 b off e => by
  obtain ⟨b', off', h1, h2, _⟩ := h h0
  rw [h1] at e
  obtain ⟨rfl, rfl⟩ : b' = b ∧ off' = off := by simpa using e
  rcases hd with hd | hd <;> omega
theorem Wr.out {lo hi lo' hi' : Nat} {w w' : World} {a : Option Addr} {n : Nat} (h : Wr lo' hi' w a n) (hh : hi' ≤ w.heap.size) (hd : hi ≤ lo' ∨ hi' ≤ lo) (ho : Out lo hi w w') : Wr lo' hi' w' a n := fun h0 => by
  obtain ⟨b, off, h1, h2, h3, h4, h5⟩ := h h0
  have hn : ¬ (lo ≤ b ∧ b < hi) := by omega
  refine ⟨b, off, h1, h2, h3, fun o => (ho.frozen (p := ⟨b, o, none⟩) (show b < _ by omega) hn).trans (h4 o), fun j hj => ?_⟩
  obtain ⟨v, hv⟩ := h5 j hj
  exact ⟨v, (ho.cell (p := ⟨b, off + j, none⟩) (show b < _ by omega) hn).trans hv⟩
theorem An.out {w w' : World} {lo hi lo' hi' : Nat} {u : Sp} {b L H : Int} (h : An w lo' hi' u b L H) (hd : hi ≤ lo' ∨ hi' ≤ lo) (ho : Out lo hi w w') : An w' lo' hi' u b L H :=
  ⟨⟨h.at_.lo.out (h.l.off hd) ho, h.at_.hi.out (h.h.off hd) ho⟩, h.bits, h.l.out h.le hd ho, h.h.out h.le hd ho, Nat.le_trans h.le ho.size⟩
/-- A copy of an answer. -/
structure Cp (w : World) (m : Nat) (u : Sp) (b L H : Int) : Prop where
  at_ : SpAt w u 70000 L H
  bits : u.bits = b
  m : MineS m w u
theorem Cp.below {w w' : World} {m : Nat} {u : Sp} {b L H : Int} (h : Cp w m u b L H) (hb : Below w.heap.size w w') : Cp w' m u b L H := ⟨h.at_.below hb, h.bits, h.m.below hb⟩
theorem Cp.out {w w' : World} {m lo hi : Nat} {u : Sp} {b L H : Int} (h : Cp w m u b L H) (hm : hi ≤ m) (ho : Out lo hi w w') : Cp w' m u b L H :=
  ⟨⟨h.at_.lo.out (h.m.lo.off hm) ho, h.at_.hi.out (h.m.hi.off hm) ho⟩, h.bits, ⟨h.m.lo.out hm ho, h.m.hi.out hm ho⟩⟩
theorem out_below {B lo hi : Nat} {V w w' : World} (h : Below B V w) (ho : Out lo hi w w') (h1 : B ≤ lo) (h2 : B ≤ w.heap.size) : Below B V w' :=
  h.trans ⟨ho.os, ho.tape, ho.output, ho.size, fun k hk => ho.block k (by omega) (by omega)⟩
/-- A span whose digits lie in no cell of the row. -/
def Far (r : Option Nat) (u : Sp) : Prop := (0 < u.lN → ∀ b off, u.la = some ⟨b, off, none⟩ → some b ≠ r) ∧ (0 < u.hN → ∀ b off, u.ha = some ⟨b, off, none⟩ → some b ≠ r)
theorem Dig.grown {w w' : World} {r : Option Nat} {a : Option Addr} {n cap : Nat} {d : Nat → Int} (h : Dig w a n cap d) (hg : w.grownBy w' r) (hs : w.heap.size ≤ w'.heap.size) (hn : 0 < n → ∀ b off, a = some ⟨b, off, none⟩ → some b ≠ r) : Dig w' a n cap d :=
  ⟨fun h0 => by
    obtain ⟨b, off, h1, h2, h3⟩ := h.at_ h0
    exact ⟨b, off, h1, Nat.lt_of_lt_of_le h2 hs, fun j hj => (hg.cell_far ⟨b, off + j, none⟩ h2 (hn h0 b off h1)).trans (h3 j hj)⟩, h.dgs, h.le, h.room⟩
theorem IntAt.grown {w w' : World} {r : Option Nat} {neg : Bool} {a : Option Addr} {n cap k : Nat} {z : Int} (h : IntAt w neg a n cap k z) (hg : w.grownBy w' r) (hs : w.heap.size ≤ w'.heap.size) (hn : 0 < n → ∀ b off, a = some ⟨b, off, none⟩ → some b ≠ r) : IntAt w' neg a n cap k z := by
  obtain ⟨d, h2, h3⟩ := h
  exact ⟨d, h2.grown hg hs hn, h3⟩
theorem Mine.grown {m : Nat} {w w' : World} {r : Option Nat} {a : Option Addr} {n : Nat} (h : Mine m w a n) (hg : w.grownBy w' r) (hs : w.heap.size ≤ w'.heap.size) (hn : 0 < n → ∀ b off, a = some ⟨b, off, none⟩ → some b ≠ r) : Mine m w' a n := fun h0 => by
  obtain ⟨b, off, h1, h2, h3, h4⟩ := h h0
  exact ⟨b, off, h1, h2, Nat.lt_of_lt_of_le h3 hs, fun o => (hg.frozen_far ⟨b, o, none⟩ h3 (hn h0 b off h1)).trans (h4 o)⟩
theorem Cp.grown {w w' : World} {r : Option Nat} {m : Nat} {u : Sp} {b L H : Int} (h : Cp w m u b L H) (hg : w.grownBy w' r) (hs : w.heap.size ≤ w'.heap.size) (hf : Far r u) : Cp w' m u b L H :=
  ⟨⟨h.at_.lo.grown hg hs hf.1, h.at_.hi.grown hg hs hf.2⟩, h.bits, ⟨h.m.lo.grown hg hs hf.1, h.m.hi.grown hg hs hf.2⟩⟩
theorem far_new {w w' : World} {r : Option Nat} {m : Nat} {u : Sp} {b L H : Int} (h : Cp w m u b L H) (hr : ∀ k, r = some k → k < m) : Far r u := by
  refine ⟨fun h0 b off e e2 => ?_, fun h0 b off e e2 => ?_⟩
  · obtain ⟨b', off', h1, h2, _⟩ := h.m.lo h0
    rw [h1] at e
    obtain ⟨rfl, rfl⟩ : b' = b ∧ off' = off := by simpa using e
    have := hr b' e2.symm
    omega
  · obtain ⟨b', off', h1, h2, _⟩ := h.m.hi h0
    rw [h1] at e
    obtain ⟨rfl, rfl⟩ : b' = b ∧ off' = off := by simpa using e
    have := hr b' e2.symm
    omega
theorem far_old {w : World} {m : Nat} {u : Sp} {b L H : Int} (h : Cp w m u b L H) {g : Nat} (hr : w.heap.size ≤ g) : Far (some g) u := by
  refine ⟨fun h0 b off e e2 => ?_, fun h0 b off e e2 => ?_⟩
  · obtain ⟨b', off', h1, h2, h3, _⟩ := h.m.lo h0
    rw [h1] at e
    obtain ⟨rfl, rfl⟩ : b' = b ∧ off' = off := by simpa using e
    have : b' = g := by simpa using e2
    omega
  · obtain ⟨b', off', h1, h2, h3, _⟩ := h.m.hi h0
    rw [h1] at e
    obtain ⟨rfl, rfl⟩ : b' = b ∧ off' = off := by simpa using e
    have : b' = g := by simpa using e2
    omega
theorem Cp.mono {w : World} {m m' : Nat} {u : Sp} {b L H : Int} (h : Cp w m u b L H) (hm : m' ≤ m) : Cp w m' u b L H := ⟨h.at_, h.bits, ⟨h.m.lo.mono hm, h.m.hi.mono hm⟩⟩
/-- Where the loop that spoils what came is, ahead of its round k. -/
structure Spl (V : World) (base gN : Nat) (RL RH : Nat → Nat) (fN : Nat → Sp) (b L H : Nat → Int) (k : Nat) (a : Option Addr) (cap : Nat) (f : Nat → Sp) (w : World) : Prop where
  own : OwnS w base a k cap f
  cps : ∀ j, j < k → Cp w base (f j) (b j) (L j) (H j)
  far : ∀ j, j < k → Far (Value.slice a k cap).ownBlock (f j)
  ans : ∀ j, k ≤ j → j < 7 → An w (RL j) (RH j) (fN j) (b j) (L j) (H j)
  row : RowC w gN 7 fN
  bel : Below V.heap.size V w
  sz : base ≤ w.heap.size
/-- What stays the same in it. -/
structure SplK (V : World) (base gN M : Nat) (RL RH : Nat → Nat) : Prop where
  r1 : ∀ j, j < 7 → V.heap.size ≤ RL j
  r2 : ∀ j, j < 7 → RH j ≤ M
  r3 : ∀ j, j < 7 → ∀ k, k < 7 → k < j → RH k ≤ RL j
  g : M ≤ gN
  gb : gN < base
  vb : V.heap.size ≤ base
theorem Spl.below {V : World} {base gN : Nat} {RL RH : Nat → Nat} {fN : Nat → Sp} {b L H : Nat → Int} {k : Nat} {a : Option Addr} {cap : Nat} {f : Nat → Sp} {w w' : World} (h : Spl V base gN RL RH fN b L H k a cap f w) (hb : Below w.heap.size w w') : Spl V base gN RL RH fN b L H k a cap f w' :=
  ⟨h.own.below hb, fun j hj => (h.cps j hj).below hb, h.far, fun j h1 h2 => (h.ans j h1 h2).below hb, h.row.below hb, bthen h.bel hb, Nat.le_trans h.sz hb.size⟩
/-- Behind append: what came is copied, and not yet spoilt. -/
structure Spm (V : World) (base gN : Nat) (RL RH : Nat → Nat) (fN : Nat → Sp) (b L H : Nat → Int) (k : Nat) (a : Option Addr) (cap : Nat) (f : Nat → Sp) (w : World) : Prop where
  own : OwnS w base a (k + 1) cap f
  cps : ∀ j, j < k + 1 → Cp w base (f j) (b j) (L j) (H j)
  far : ∀ j, j < k + 1 → Far (Value.slice a (k + 1) cap).ownBlock (f j)
  ans : ∀ j, k ≤ j → j < 7 → An w (RL j) (RH j) (fN j) (b j) (L j) (H j)
  row : RowC w gN 7 fN
  bel : Below V.heap.size V w
  sz : base ≤ w.heap.size
theorem Spm.below {V : World} {base gN : Nat} {RL RH : Nat → Nat} {fN : Nat → Sp} {b L H : Nat → Int} {k : Nat} {a : Option Addr} {cap : Nat} {f : Nat → Sp} {w w' : World} (h : Spm V base gN RL RH fN b L H k a cap f w) (hb : Below w.heap.size w w') : Spm V base gN RL RH fN b L H k a cap f w' :=
  ⟨h.own.below hb, fun j hj => (h.cps j hj).below hb, h.far, fun j h1 h2 => (h.ans j h1 h2).below hb, h.row.below hb, bthen h.bel hb, Nat.le_trans h.sz hb.size⟩
theorem grown_out {base : Nat} {w w' : World} {r : Option Nat} (hg : w.grownBy w' r) (hb : Below base w w') : Out base w.heap.size w w' :=
  ⟨hb.os, hb.tape, hb.output, hb.size, fun k hk hn => hb.block k (by omega)⟩
theorem Spl.append {V : World} {base gN M : Nat} {RL RH : Nat → Nat} {fN : Nat → Sp} {b L H : Nat → Int} {k : Nat} {a : Option Addr} {cap : Nat} {f : Nat → Sp} {w w' : World} (K : SplK V base gN M RL RH) (hk : k < 7) (h : Spl V base gN RL RH fN b L H k a cap f w) {m : Nat} {u : Sp} (hc : Cp w m u (b k) (L k) (H k)) (hm : base ≤ m) (hmr : ∀ i, (Value.slice a k cap).ownBlock = some i → i < m)
    {g cap' : Nat} (ho : OwnS w' base (some ⟨g, 0, none⟩) (k + 1) cap' (updS f k u)) (hg : w.grownBy w' (Value.slice a k cap).ownBlock) (hb : Below base w w') (he : (Value.slice a k cap).ownBlock = some g ∨ g = w.heap.size) :
    Spm V base gN RL RH fN b L H k (some ⟨g, 0, none⟩) cap' (updS f k u) w' := by
  have hs := hb.size
  have fu : Far (Value.slice a k cap).ownBlock u := far_new (w' := w) hc hmr
  have o := grown_out hg hb
  have M1 := K.r2
  have M2 := K.g
  have M3 := K.gb
  refine ⟨ho, fun j hj => ?_, fun j hj => ?_, fun j h1 h2 => (h.ans j h1 h2).out (Or.inr ?_) o, h.row.out o (by omega), out_below h.bel o K.vb (Nat.le_trans K.vb h.sz), Nat.le_trans h.sz hs⟩
  · by_cases e : j = k
    · subst e; rw [updS_at]; exact (hc.grown hg hs fu).mono hm
    · rw [updS_off f k u e]; exact (h.cps j (by omega)).grown hg hs (h.far j (by omega))
  · show Far (some g) _
    rcases he with he | he
    · rw [← he]
      by_cases e : j = k
      · subst e; rw [updS_at]; exact fu
      · rw [updS_off f k u e]; exact h.far j (by omega)
    · by_cases e : j = k
      · subst e; rw [updS_at]; exact far_old hc (by omega)
      · rw [updS_off f k u e]; exact far_old (h.cps j (by omega)) (by omega)
  · have := M1 j h2; omega
theorem Spm.spoilt {V : World} {base gN M : Nat} {RL RH : Nat → Nat} {fN : Nat → Sp} {b L H : Nat → Int} {k : Nat} {a : Option Addr} {cap : Nat} {f : Nat → Sp} {w w' : World} (K : SplK V base gN M RL RH) (hk : k < 7) (h : Spm V base gN RL RH fN b L H k a cap f w) (o : Out (RL k) (RH k) w w') : Spl V base gN RL RH fN b L H (k + 1) a cap f w' := by
  have M1 := K.r2 k hk
  have M2 := K.g
  have M3 := K.gb
  exact ⟨h.own.out o (by omega), fun j hj => (h.cps j hj).out (by omega) o, h.far, fun j h1 h2 => (h.ans j (by omega) h2).out (Or.inl (K.r3 j h2 k hk (by omega))) o, h.row.out o (by omega), out_below h.bel o (K.r1 k hk) (Nat.le_trans K.vb h.sz), Nat.le_trans h.sz o.size⟩
theorem wpList_append_span1 (w : World) {ops : Array Oper} {rest : List Oper} {o : Oper} {act : Act} {Q : Exit → Act → World → Prop} (hgd : o.guard = none) (s x : Operand) (t : TypeId)
    (ho : o.op = .call { callee := .builtin .append, args := #[s, x], argTypes := #[t, t] })
    (base : Nat) (ht : Try.prog.underlying t = some (.slice 26))
    (a : Option Addr) (n cap : Nat) (f : Nat → Sp) (hs : act.eval s = .slice a n cap) (hown : OwnS w base a n cap f) (g c : Nat) (u : Sp) (hx : act.eval x = .slice (some ⟨g, 0, none⟩) 1 c)
    (hv : ∀ j v, (spCells u)[j]? = some v → w.cell? ⟨g, j, none⟩ = some v) (hn : n < 7) (hbase : base ≤ w.heap.size)
    (h : ∀ g' cap' w', OwnS w' base (some ⟨g', 0, none⟩) (n + 1) cap' (updS f n u) → w.grownBy w' (Value.slice a n cap).ownBlock → ((Value.slice a n cap).ownBlock = some g' ∨ g' = w.heap.size) → Below base w w' → wpList Try.prog ops Q rest (act.put o.dst (.slice (some ⟨g', 0, none⟩) (n + 1) cap')) w') : wpList Try.prog ops Q (o :: rest) act w := by
  obtain ⟨i, hi, hz0, hz1, hz2⟩ := info_parts Try.infoSpan
  have hlt : ∀ k, (Value.slice a n cap).ownBlock = some k → base ≤ k := fun k hk => (World.ownsRow.lt hown k hk).1
  refine wpList_append_lies w hgd s x t ho base 26 i _ 5 72 ht hi hz0 hz1 hz2 rfl (by decide) (.slice a n cap) n (rowCells f n) hs hown ⟨g, 0, none⟩ 1 c (spCells u) hx rfl ?_ ?_ (by omega) ?_ ?_ hbase _ rfl ?_
  · intro j v hj
    rw [add_off, Nat.zero_add]; exact hv j v hj
  · exact fun v hv => rowCells_one (fun _ => u) 1 v (by simpa [rowCells] using hv)
  · unfold maxLen; omega
  · omega
  · intro g' cap' w' hown' hgrow hat _
    rw [← rowCells_upd] at hown'
    exact h _ _ _ hown' hgrow hat ((Below.refl base w).grown hgrow hbase hlt)
theorem new_span1 (w : World) (u : Sp) (T : TypeId) (W : Nat) (hW : w.heap.size = W) : ∀ j v, (spCells u)[j]? = some v → (w.alloc (.cells #[.bool u.ln, .slice u.la u.lN u.lc, .bool u.hn, .slice u.ha u.hN u.hc, .int .i64 u.bits] T)).cell? ⟨W, j, none⟩ = some v :=
  new_spans w _ T (fun _ => u) 1 (by simp [rowCells, spCells]) W hW
theorem An.room {w : World} {lo hi : Nat} {u : Sp} {b L H : Int} (h : An w lo hi u b L H) : u.lN ≤ 70368744177664 ∧ u.hN ≤ 70368744177664 := by
  obtain ⟨d, g1, _⟩ := h.at_.lo
  obtain ⟨e, g2, _⟩ := h.at_.hi
  exact ⟨g1.room, g2.room⟩
theorem copy_of {w : World} {s : Sp} {k : Nat} {L H : Int} (h : SpAt w s k L H) : ∃ d e, SpDig w s d e ∧ ∀ (w' : World) (u : Sp), SpDig w' u d e → Lk u s → SpAt w' u k L H := by
  obtain ⟨d, g1, g2, g3, g4, g5⟩ := h.lo
  obtain ⟨e, f1, f2, f3, f4, f5⟩ := h.hi
  refine ⟨d, e, ⟨g1, f1⟩, fun w' u hu hl => ⟨⟨d, hu.lo, ?_, ?_, ?_, ?_⟩, ⟨e, hu.hi, ?_, ?_, ?_, ?_⟩⟩⟩
  · rw [hl.lN]; exact g2
  · rw [hl.lN, hl.ln]; exact g3
  · rw [hl.lN]; exact g4
  · rw [hl.lN, hl.ln]; exact g5
  · rw [hl.hN]; exact f2
  · rw [hl.hN, hl.hn]; exact f3
  · rw [hl.hN]; exact f4
  · rw [hl.hN, hl.hn]; exact f5
theorem sameDigits_eq (neg neg2 : Bool) (a c : Option Addr) (n n2 cap cap2 : Nat) (d : Nat → Int) (w : World) (e1 : neg = neg2) (e2 : n = n2) (h1 : Dig w a n cap d) (h2 : Dig w c n2 cap2 d) :
    Calls Try.prog 69 #[.agg #[.bool neg, .slice a n cap], .agg #[.bool neg2, .slice c n2 cap2]] w fun r w' => r = .returned (.bool true) ∧ Below w.heap.size w w' := by
  subst e1 e2
  exact sameDigits_true neg a c n cap cap2 d w h1 h2
theorem meas7 {k : Nat} (h : k < 7) : 7 - (intOf (Value.int IntKind.i64 ((k : Int) + 1))).toNat < 7 - (intOf (Value.int IntKind.i64 (k : Int))).toNat := by
  simp only [intOf]; omega
theorem seven {P : Nat → Prop} (h0 : P 0) (h1 : P 1) (h2 : P 2) (h3 : P 3) (h4 : P 4) (h5 : P 5) (h6 : P 6) : ∀ j, j < 7 → P j
  | 0, _ => h0
  | 1, _ => h1
  | 2, _ => h2
  | 3, _ => h3
  | 4, _ => h4
  | 5, _ => h5
  | 6, _ => h6
theorem An.wide {w : World} {lo hi hi' : Nat} {u : Sp} {b L H : Int} (h : An w lo hi u b L H) (h1 : hi ≤ hi') (h2 : hi' ≤ w.heap.size) : An w lo hi' u b L H :=
  ⟨h.at_, h.bits, h.l.wide h1, h.h.wide h1, h2⟩
end Go.Proofs.Ytgmnknmjainabaa

namespace Go.Proofs.Ytgmnknmjainabaa
set_option linter.unusedVariables false
set_option linter.unusedSimpArgs false
set_option linter.unnecessarySimpa false
open Go.RowKit
attribute [local go_sem ↓] Go.wp_at_zero Go.wp_at_succ

set_option maxRecDepth 100000 in
set_option maxHeartbeats 4000000 in
theorem law_restSpans (s t : Sp) (bt : Int) (d e d' e' : Nat → Int) (w : World) (hs : SpDig w s d e) (ht : SpDig w t d' e') :
    Calls Try.prog 14 #[.agg #[.bool s.ln, .slice s.la s.lN s.lc, .bool s.hn, .slice s.ha s.hN s.hc, .int .i64 s.bits], .agg #[.bool t.ln, .slice t.la t.lN t.lc, .bool t.hn, .slice t.ha t.hN t.hc, .int .i64 t.bits], .int .i64 bt] w fun r w' => r = .returned (.bool true) ∧ Below w.heap.size w w' := by
  obtain ⟨W, hW⟩ : ∃ W, W = (w.alloc (.cells #[.bool s.ln, .slice s.la s.lN s.lc, .bool s.hn, .slice s.ha s.hN s.hc, .int .i64 s.bits] 26)).alloc (.cells #[.bool t.ln, .slice t.la t.lN t.lc, .bool t.hn, .slice t.ha t.hN t.hc, .int .i64 t.bits] 26) := ⟨_, rfl⟩
  have hBW : Below w.heap.size w W := by rw [hW]; exact bl2 _ _ _
  have A : SpC W w.heap.size s := by rw [hW]; exact ⟨by simp [go_sem], by simp [go_sem], by simp [go_sem], by simp [go_sem], by simp [go_sem]⟩
  have G : SpC W (w.heap.size + 1) t := by rw [hW]; exact ⟨by simp [go_sem], by simp [go_sem], by simp [go_sem], by simp [go_sem], by simp [go_sem]⟩
  have HS := hide (hs.below hBW)
  have HT := hide (ht.below hBW)
  clear hs ht
  go_enter Try.func14, Try.ntmps14
  go_wp2_with fail
  rw [← hW]
  clear hW
  refine (spanBegun_any _).mono ?_
  rintro r w0 ⟨rfl, hb0⟩
  replace A := A.below hb0
  replace G := G.below hb0
  replace hBW := bthen hBW hb0
  replace HS := hide ((unhide HS).below hb0)
  replace HT := hide ((unhide HT).below hb0)
  clear hb0
  have HK := hide (show ∀ w', Below w0.heap.size w0 w' → (w'.cell? ⟨w.heap.size, 0, none⟩ = some (.bool s.ln) ∧ w'.cell? ⟨w.heap.size, 1, none⟩ = some (.slice s.la s.lN s.lc) ∧ w'.cell? ⟨w.heap.size, 2, none⟩ = some (.bool s.hn) ∧ w'.cell? ⟨w.heap.size, 3, none⟩ = some (.slice s.ha s.hN s.hc) ∧ w'.cell? ⟨w.heap.size, 4, none⟩ = some (.int .i64 s.bits) ∧ w'.cell? ⟨w.heap.size + 1, 0, none⟩ = some (.bool t.ln) ∧ w'.cell? ⟨w.heap.size + 1, 1, none⟩ = some (.slice t.la t.lN t.lc) ∧ w'.cell? ⟨w.heap.size + 1, 2, none⟩ = some (.bool t.hn) ∧ w'.cell? ⟨w.heap.size + 1, 3, none⟩ = some (.slice t.ha t.hN t.hc) ∧ w'.cell? ⟨w.heap.size + 1, 4, none⟩ = some (.int .i64 t.bits)) from fun w' hB => by
    obtain ⟨x0, x1, x2, x3, x4⟩ := A.below hB
    obtain ⟨y0, y1, y2, y3, y4⟩ := G.below hB
    exact ⟨x0, x1, x2, x3, x4, y0, y1, y2, y3, y4⟩)
  have lA := A.lt
  have lG := G.lt
  obtain ⟨i0, i1, i2, i3, i4, i5, i6, i7, i8, i9⟩ := unhide HK _ (Below.refl _ _)
  go_wp2_with fail
  go_cut [7, 8] (fun p q wx => TwoD w0 wx s t d e d' e' p q)
  case first =>
    go_region_held3 (fun w' => w'.cell? ⟨w.heap.size, 0, none⟩ = some (.bool s.ln) ∧ w'.cell? ⟨w.heap.size, 1, none⟩ = some (.slice s.la s.lN s.lc) ∧ w'.cell? ⟨w.heap.size, 2, none⟩ = some (.bool s.hn) ∧ w'.cell? ⟨w.heap.size, 3, none⟩ = some (.slice s.ha s.hN s.hc) ∧ w'.cell? ⟨w.heap.size, 4, none⟩ = some (.int .i64 s.bits) ∧ w'.cell? ⟨w.heap.size + 1, 0, none⟩ = some (.bool t.ln) ∧ w'.cell? ⟨w.heap.size + 1, 1, none⟩ = some (.slice t.la t.lN t.lc) ∧ w'.cell? ⟨w.heap.size + 1, 2, none⟩ = some (.bool t.hn) ∧ w'.cell? ⟨w.heap.size + 1, 3, none⟩ = some (.slice t.ha t.hN t.hc) ∧ w'.cell? ⟨w.heap.size + 1, 4, none⟩ = some (.int .i64 t.bits)) (exact unhide HK _ (by repeat' (first | with_reducible exact hBU2 | with_reducible exact hBU1 | with_reducible exact Below.refl _ _ | with_reducible refine Below.drew ?_ | with_reducible refine balloc ?_ _ | with_reducible refine Below.setCell ?_ (by first | with_reducible exact Nat.le_refl _ | with_reducible exact Nat.le_succ _ | with_reducible exact hlU1 | with_reducible exact Nat.le_succ_of_le hlU1 | with_reducible exact hlU2 | with_reducible exact Nat.le_succ_of_le hlU2) _)))
      (first
        | (go_at_call 67; have hq := hBU1; refine (lcopied2 t d' e' _ ((unhide HT).below (by repeat' (first | with_reducible exact hBU1 | with_reducible exact Below.refl _ _ | with_reducible refine Below.drew ?_ | with_reducible refine balloc ?_ _)))).mono ?_; rintro r wU2 ⟨vU2, rfl, hvbU2, hintU2, hbU2⟩; have HVBU2 := hide hvbU2; clear hvbU2; have hCU2 : Below wU1.heap.size wU1 wU2 := (by first | with_reducible exact hbU2 | with_reducible exact bthen (bl1 _ _) hbU2 | with_reducible exact bthen (bl2 _ _ _) hbU2); have hBU2 := bthen hBU1 hCU2; (first | with_reducible have gaU2 := (noc_new wU1 26).below hbU2 | with_reducible have gaU2 := ((noc_new wU1 26).below (bl1 _ _)).below hbU2 | skip); (try with_reducible have gbU2 := (noc_new' (wU1.alloc _) (wU1.heap.size + 1) (hs1 _ _) 26).below hbU2); replace hintU1 := hintU1.below hCU2; (try have maU1 := gaU1.lt); (try have mbU1 := gbU1.lt); (try replace gaU1 := gaU1.below hCU2); (try replace gbU1 := gbU1.below hCU2); have hlU2 := hBU2.size; (try have eaU1 := gaU1); (try obtain ⟨zaU10, zaU11, zaU12, zaU13, zaU14, zaU15⟩ := eaU1); (try have yaU1 := gaU1.lt); (try have ebU1 := gbU1); (try obtain ⟨zbU10, zbU11, zbU12, zbU13, zbU14, zbU15⟩ := ebU1); (try have ybU1 := gbU1.lt); (try have eaU2 := gaU2); (try obtain ⟨zaU20, zaU21, zaU22, zaU23, zaU24, zaU25⟩ := eaU2); (try have yaU2 := gaU2.lt); (try have ebU2 := gbU2); (try obtain ⟨zbU20, zbU21, zbU22, zbU23, zbU24, zbU25⟩ := ebU2); (try have ybU2 := gbU2.lt))
        | (go_at_call 67; refine (lcopied2 s d e _ ((unhide HS).below (by repeat' (first | with_reducible exact Below.refl _ _ | with_reducible refine Below.drew ?_ | with_reducible refine balloc ?_ _)))).mono ?_; rintro r wU1 ⟨vU1, rfl, hvbU1, hintU1, hbU1⟩; have HVBU1 := hide hvbU1; clear hvbU1; have hBU1 : Below w0.heap.size w0 wU1 := (by first | with_reducible exact bthen (Below.refl _ _).drew hbU1 | with_reducible exact bthen (bl1 _ _).drew hbU1 | with_reducible exact bthen (bl2 _ _ _).drew hbU1); (first | with_reducible have gaU1 := ((noc_new w0 26).below (Below.refl _ _).drew).below hbU1 | with_reducible have gaU1 := ((noc_new w0 26).below (bl1 _ _).drew).below hbU1 | skip); (try with_reducible have gbU1 := ((noc_new' (w0.alloc _) (w0.heap.size + 1) (hs1 _ _) 26).below (Below.refl _ _).drew).below hbU1); have hlU1 := hBU1.size))
    all_goals
      have hiXU := hintU1
      have hiYU := hintU2
      go_wp2_with fail
      go_meet
      first
        | with_reducible exact twoD_aa (x := vU1) (y := vU2) hBU2 hiXU hiYU (unhide HVBU1) (unhide HVBU2)
        | with_reducible exact twoD_aa' (x := vU1) (y := vU2) hBU2 hiXU hiYU (unhide HVBU1) (unhide HVBU2)
        | with_reducible exact twoD_sa (x := vU1) (y := vU2) hBU2 hiXU hiYU (unhide HVBU1) (unhide HVBU2) (by assumption) (by first | with_reducible exact Nat.le_refl _ | with_reducible exact Nat.le_succ _ | with_reducible exact hlU1 | with_reducible exact Nat.le_succ_of_le hlU1 | with_reducible exact hlU2 | with_reducible exact Nat.le_succ_of_le hlU2)
        | with_reducible exact twoD_as (x := vU1) (y := vU2) hBU2 hiXU hiYU (unhide HVBU1) (unhide HVBU2) (by assumption) (by first | with_reducible exact Nat.le_refl _ | with_reducible exact Nat.le_succ _ | with_reducible exact hlU1 | with_reducible exact Nat.le_succ_of_le hlU1 | with_reducible exact hlU2 | with_reducible exact Nat.le_succ_of_le hlU2)
        | with_reducible exact twoD_ss (x := vU1) (y := vU2) hBU2 hiXU hiYU (unhide HVBU1) (unhide HVBU2) (by assumption) (by assumption) (by first | with_reducible exact Nat.le_refl _ | with_reducible exact Nat.le_succ _ | with_reducible exact hlU1 | with_reducible exact Nat.le_succ_of_le hlU1 | with_reducible exact hlU2 | with_reducible exact Nat.le_succ_of_le hlU2) (by first | with_reducible exact Nat.le_refl _ | with_reducible exact Nat.le_succ _ | with_reducible exact hlU1 | with_reducible exact Nat.le_succ_of_le hlU1 | with_reducible exact hlU2 | with_reducible exact Nat.le_succ_of_le hlU2) (by omega)
  case rest =>
  obtain ⟨BU, CU, xU, yU, rfl, rfl, hHU, hJU, hneU, XU, YU, hxU, hyU, bxU, byU, hblU⟩ := hcut
  obtain ⟨V, hV⟩ : ∃ V, V = wc := ⟨_, rfl⟩
  subst hV
  clear i0 i1 i2 i3 i4 i5 i6 i7 i8 i9 HK
  replace A := A.below hblU
  replace G := G.below hblU
  replace HS := hide ((unhide HS).below hblU)
  replace HT := hide ((unhide HT).below hblU)
  replace hBW := bthen hBW hblU
  have HX := hide hxU
  have HY := hide hyU
  have HLX := hide bxU
  have HLY := hide byU
  clear hblU hxU hyU bxU byU lA lG
  obtain ⟨b0, L0, H0, er0, HC0⟩ := frAdd xU yU d e d' e'
  replace HC0 := hide HC0
  obtain ⟨b1, L1, H1, er1, HC1⟩ := frMul xU yU d e d' e'
  replace HC1 := hide HC1
  obtain ⟨b2, L2, H2, er2, HC2⟩ := frHull xU yU d e d' e'
  replace HC2 := hide HC2
  obtain ⟨b3, L3, H3, er3, HC3⟩ := frMeet xU yU d e d' e'
  replace HC3 := hide HC3
  obtain ⟨b4, L4, H4, er4, HC4⟩ := frTo xU bt d e
  replace HC4 := hide HC4
  obtain ⟨b5, L5, H5, er5, HC5⟩ := frRoot xU d e
  replace HC5 := hide HC5
  obtain ⟨b6, L6, H6, er6, HC6⟩ := frDiv xU yU d e d' e'
  replace HC6 := hide HC6
  go_wp2_with fail
  go_loopw [9, 10] (fun was ii wr => ∃ i : Nat, i ≤ 2 ∧ ii = .int .i64 i ∧ Below V.heap.size V wr ∧ (i = 0 ∨ ∃ g cap f, was = .slice (some ⟨g, 0, none⟩) 7 cap ∧ RowC wr g 7 f ∧ ∀ j, j < 7 → SpAt wr (f j) 70000 (pr7 L0 L1 L2 L3 L4 L5 L6 j) (pr7 H0 H1 H2 H3 H4 H5 H6 j) ∧ (f j).bits = pr7 b0 b1 b2 b3 b4 b5 b6 j)) (fun _ ii _ => 2 - (intOf ii).toNat)
  case atStart => exact ⟨0, by omega, rfl, Below.refl _ _, Or.inl rfl⟩
  case round =>
    obtain ⟨i, hi, rfl, hB, hWas⟩ := hrel
    have HW := hide hWas
    clear hWas
    by_cases hin : i < 2
    · have hin' : (i : Int) < 2 := by omega
      obtain ⟨⟨x0, x1, x2, x3, x4⟩, x5⟩ := XU.below hB
      obtain ⟨⟨y0, y1, y2, y3, y4⟩, y5⟩ := YU.below hB
      have lX := (XU.below hB).lt
      have lY := (YU.below hB).lt
      go_wp2_with fail
      refine (unhide HC0 _ ((unhide HX).below hB) ((unhide HY).below hB)).mono ?_
      rintro r w1 ⟨u0, rfl, hub, hup, hb, fr⟩
      have AN0 := hide (an_new hup hub fr)
      have hC1 : Below wr.heap.size wr w1 := hb
      have hD1 := bthen hB hb
      clear hub hup hb fr x0 x1 x2 x3 x4 x5 y0 y1 y2 y3 y4 y5 lX lY
      obtain ⟨⟨x0, x1, x2, x3, x4⟩, x5⟩ := XU.below hD1
      obtain ⟨⟨y0, y1, y2, y3, y4⟩, y5⟩ := YU.below hD1
      have lX := (XU.below hD1).lt
      have lY := (YU.below hD1).lt
      obtain ⟨V1, hV1⟩ : ∃ V', V' = w1.alloc (.cells #[.bool u0.ln, .slice u0.la u0.lN u0.lc, .bool u0.hn, .slice u0.ha u0.hN u0.hc, .int .i64 u0.bits] 26) := ⟨_, rfl⟩
      have hE1 : Below w1.heap.size w1 V1 := by rw [hV1]; exact bl1 _ _
      have U0 : SpC V1 w1.heap.size u0 := by rw [hV1]; exact spc_new _ _ _
      have hB1 := bthen hD1 hE1
      go_wp2_with fail
      rw [← hV1]
      clear hV1
      refine (unhide HC1 _ ((unhide HX).below hB1) ((unhide HY).below hB1)).mono ?_
      rintro r w2 ⟨u1, rfl, hub, hup, hb, fr⟩
      have AN1 := hide (an_new hup hub fr)
      have hC2 : Below V1.heap.size V1 w2 := hb
      have hD2 := bthen hB1 hb
      clear hub hup hb fr x0 x1 x2 x3 x4 x5 y0 y1 y2 y3 y4 y5 lX lY
      obtain ⟨⟨x0, x1, x2, x3, x4⟩, x5⟩ := XU.below hD2
      obtain ⟨⟨y0, y1, y2, y3, y4⟩, y5⟩ := YU.below hD2
      have lX := (XU.below hD2).lt
      have lY := (YU.below hD2).lt
      obtain ⟨V2, hV2⟩ : ∃ V', V' = w2.alloc (.cells #[.bool u1.ln, .slice u1.la u1.lN u1.lc, .bool u1.hn, .slice u1.ha u1.hN u1.hc, .int .i64 u1.bits] 26) := ⟨_, rfl⟩
      have hE2 : Below w2.heap.size w2 V2 := by rw [hV2]; exact bl1 _ _
      have U1 : SpC V2 w2.heap.size u1 := by rw [hV2]; exact spc_new _ _ _
      have hB2 := bthen hD2 hE2
      go_wp2_with fail
      rw [← hV2]
      clear hV2
      refine (unhide HC2 _ ((unhide HX).below hB2) ((unhide HY).below hB2)).mono ?_
      rintro r w3 ⟨u2, rfl, hub, hup, hb, fr⟩
      have AN2 := hide (an_new hup hub fr)
      have hC3 : Below V2.heap.size V2 w3 := hb
      have hD3 := bthen hB2 hb
      clear hub hup hb fr x0 x1 x2 x3 x4 x5 y0 y1 y2 y3 y4 y5 lX lY
      obtain ⟨⟨x0, x1, x2, x3, x4⟩, x5⟩ := XU.below hD3
      obtain ⟨⟨y0, y1, y2, y3, y4⟩, y5⟩ := YU.below hD3
      have lX := (XU.below hD3).lt
      have lY := (YU.below hD3).lt
      obtain ⟨V3, hV3⟩ : ∃ V', V' = w3.alloc (.cells #[.bool u2.ln, .slice u2.la u2.lN u2.lc, .bool u2.hn, .slice u2.ha u2.hN u2.hc, .int .i64 u2.bits] 26) := ⟨_, rfl⟩
      have hE3 : Below w3.heap.size w3 V3 := by rw [hV3]; exact bl1 _ _
      have U2 : SpC V3 w3.heap.size u2 := by rw [hV3]; exact spc_new _ _ _
      have hB3 := bthen hD3 hE3
      go_wp2_with fail
      rw [← hV3]
      clear hV3
      refine (unhide HC3 _ ((unhide HX).below hB3) ((unhide HY).below hB3)).mono ?_
      rintro r w4 ⟨u3, rfl, hub, hup, hb, fr⟩
      have AN3 := hide (an_new hup hub fr)
      have hC4 : Below V3.heap.size V3 w4 := hb
      have hD4 := bthen hB3 hb
      clear hub hup hb fr x0 x1 x2 x3 x4 x5 y0 y1 y2 y3 y4 y5 lX lY
      obtain ⟨⟨x0, x1, x2, x3, x4⟩, x5⟩ := XU.below hD4
      obtain ⟨⟨y0, y1, y2, y3, y4⟩, y5⟩ := YU.below hD4
      have lX := (XU.below hD4).lt
      have lY := (YU.below hD4).lt
      obtain ⟨V4, hV4⟩ : ∃ V', V' = w4.alloc (.cells #[.bool u3.ln, .slice u3.la u3.lN u3.lc, .bool u3.hn, .slice u3.ha u3.hN u3.hc, .int .i64 u3.bits] 26) := ⟨_, rfl⟩
      have hE4 : Below w4.heap.size w4 V4 := by rw [hV4]; exact bl1 _ _
      have U3 : SpC V4 w4.heap.size u3 := by rw [hV4]; exact spc_new _ _ _
      have hB4 := bthen hD4 hE4
      go_wp2_with fail
      rw [← hV4]
      clear hV4
      refine (unhide HC4 _ ((unhide HX).below hB4)).mono ?_
      rintro r w5 ⟨u4, rfl, hub, hup, hb, fr⟩
      have AN4 := hide (an_new hup hub fr)
      have hC5 : Below V4.heap.size V4 w5 := hb
      have hD5 := bthen hB4 hb
      clear hub hup hb fr x0 x1 x2 x3 x4 x5 y0 y1 y2 y3 y4 y5 lX lY
      obtain ⟨⟨x0, x1, x2, x3, x4⟩, x5⟩ := XU.below hD5
      obtain ⟨⟨y0, y1, y2, y3, y4⟩, y5⟩ := YU.below hD5
      have lX := (XU.below hD5).lt
      have lY := (YU.below hD5).lt
      obtain ⟨V5, hV5⟩ : ∃ V', V' = w5.alloc (.cells #[.bool u4.ln, .slice u4.la u4.lN u4.lc, .bool u4.hn, .slice u4.ha u4.hN u4.hc, .int .i64 u4.bits] 26) := ⟨_, rfl⟩
      have hE5 : Below w5.heap.size w5 V5 := by rw [hV5]; exact bl1 _ _
      have U4 : SpC V5 w5.heap.size u4 := by rw [hV5]; exact spc_new _ _ _
      have hB5 := bthen hD5 hE5
      go_wp2_with fail
      rw [← hV5]
      clear hV5
      refine (unhide HC5 _ ((unhide HX).below hB5)).mono ?_
      rintro r w6 ⟨u5, rfl, hub, hup, hb, fr⟩
      have AN5 := hide (an_new hup hub fr)
      have hC6 : Below V5.heap.size V5 w6 := hb
      have hD6 := bthen hB5 hb
      clear hub hup hb fr x0 x1 x2 x3 x4 x5 y0 y1 y2 y3 y4 y5 lX lY
      obtain ⟨⟨x0, x1, x2, x3, x4⟩, x5⟩ := XU.below hD6
      obtain ⟨⟨y0, y1, y2, y3, y4⟩, y5⟩ := YU.below hD6
      have lX := (XU.below hD6).lt
      have lY := (YU.below hD6).lt
      obtain ⟨V6, hV6⟩ : ∃ V', V' = w6.alloc (.cells #[.bool u5.ln, .slice u5.la u5.lN u5.lc, .bool u5.hn, .slice u5.ha u5.hN u5.hc, .int .i64 u5.bits] 26) := ⟨_, rfl⟩
      have hE6 : Below w6.heap.size w6 V6 := by rw [hV6]; exact bl1 _ _
      have U5 : SpC V6 w6.heap.size u5 := by rw [hV6]; exact spc_new _ _ _
      have hB6 := bthen hD6 hE6
      go_wp2_with fail
      rw [← hV6]
      clear hV6
      refine (unhide HC6 _ ((unhide HX).below hB6) ((unhide HY).below hB6)).mono ?_
      rintro r w7 ⟨u6, rfl, hub, hup, hb, fr⟩
      have AN6 := hide (an_new hup hub fr)
      have hC7 : Below V6.heap.size V6 w7 := hb
      have hD7 := bthen hB6 hb
      clear hub hup hb fr x0 x1 x2 x3 x4 x5 y0 y1 y2 y3 y4 y5 lX lY
      obtain ⟨⟨x0, x1, x2, x3, x4⟩, x5⟩ := XU.below hD7
      obtain ⟨⟨y0, y1, y2, y3, y4⟩, y5⟩ := YU.below hD7
      have lX := (XU.below hD7).lt
      have lY := (YU.below hD7).lt
      obtain ⟨V7, hV7⟩ : ∃ V', V' = w7.alloc (.cells #[.bool u6.ln, .slice u6.la u6.lN u6.lc, .bool u6.hn, .slice u6.ha u6.hN u6.hc, .int .i64 u6.bits] 26) := ⟨_, rfl⟩
      have hE7 : Below w7.heap.size w7 V7 := by rw [hV7]; exact bl1 _ _
      have U6 : SpC V7 w7.heap.size u6 := by rw [hV7]; exact spc_new _ _ _
      have hB7 := bthen hD7 hE7
      have Z5 : Below V6.heap.size V6 w7 := hC7
      have Z4 : Below V5.heap.size V5 w7 := bthen hC6 (bthen hE6 Z5)
      have Z3 : Below V4.heap.size V4 w7 := bthen hC5 (bthen hE5 Z4)
      have Z2 : Below V3.heap.size V3 w7 := bthen hC4 (bthen hE4 Z3)
      have Z1 : Below V2.heap.size V2 w7 := bthen hC3 (bthen hE3 Z2)
      have Z0 : Below V1.heap.size V1 w7 := bthen hC2 (bthen hE2 Z1)
      have l0 := (U0.below Z0).lt
      obtain ⟨a00, a01, a02, a03, a04⟩ := U0.below Z0
      have l1 := (U1.below Z1).lt
      obtain ⟨a10, a11, a12, a13, a14⟩ := U1.below Z1
      have l2 := (U2.below Z2).lt
      obtain ⟨a20, a21, a22, a23, a24⟩ := U2.below Z2
      have l3 := (U3.below Z3).lt
      obtain ⟨a30, a31, a32, a33, a34⟩ := U3.below Z3
      have l4 := (U4.below Z4).lt
      obtain ⟨a40, a41, a42, a43, a44⟩ := U4.below Z4
      have l5 := (U5.below Z5).lt
      obtain ⟨a50, a51, a52, a53, a54⟩ := U5.below Z5
      go_wp2_with (at_builtin; refine wpList_append_spans _ rfl _ _ 77 rfl (w7.heap.size + 1) Try.underlying77 none 0 0 (pr7 u0 u1 u2 u3 u4 u5 u6) rfl (OwnS.nil _ _ _) (w7.heap.size + 1) 7 7 (pr7 u0 u1 u2 u3 u4 u5 u6) rfl (new_spans _ _ _ _ 7 rfl _ (by simp)) (by omega) 7 rfl (by omega) (by simp) (pr7 u0 u1 u2 u3 u4 u5 u6) (by simp [rowCells]) ?_; intro aN cN w8 ownN hb8)
      have s7 : V7.heap.size = w7.heap.size + 1 := by rw [hV7]; simp
      have hF8 : Below V7.heap.size V7 w8 := by rw [s7, hV7]; exact ((Below.refl _ _).alloc (by simp) _).trans hb8
      clear a00 a01 a02 a03 a04 l0
      clear a10 a11 a12 a13 a14 l1
      clear a20 a21 a22 a23 a24 l2
      clear a30 a31 a32 a33 a34 l3
      clear a40 a41 a42 a43 a44 l4
      clear a50 a51 a52 a53 a54 l5
      clear x0 x1 x2 x3 x4 x5 y0 y1 y2 y3 y4 y5 lX lY hb8
      have Y7 : Below V7.heap.size V7 w8 := hF8
      have Y6 : Below V6.heap.size V6 w8 := bthen hC7 (bthen hE7 Y7)
      have Y5 : Below V5.heap.size V5 w8 := bthen hC6 (bthen hE6 Y6)
      have Y4 : Below V4.heap.size V4 w8 := bthen hC5 (bthen hE5 Y5)
      have Y3 : Below V3.heap.size V3 w8 := bthen hC4 (bthen hE4 Y4)
      have Y2 : Below V2.heap.size V2 w8 := bthen hC3 (bthen hE3 Y3)
      have Y1 : Below V1.heap.size V1 w8 := bthen hC2 (bthen hE2 Y2)
      have t0 : wr.heap.size ≤ V1.heap.size := Nat.le_trans hC1.size hE1.size
      have AM0 := (((unhide AN0).below hE1).wide hE1.size (Nat.le_refl _)).below Y1
      have t1 : V1.heap.size ≤ V2.heap.size := Nat.le_trans hC2.size hE2.size
      have AM1 := (((unhide AN1).below hE2).wide hE2.size (Nat.le_refl _)).below Y2
      have t2 : V2.heap.size ≤ V3.heap.size := Nat.le_trans hC3.size hE3.size
      have AM2 := (((unhide AN2).below hE3).wide hE3.size (Nat.le_refl _)).below Y3
      have t3 : V3.heap.size ≤ V4.heap.size := Nat.le_trans hC4.size hE4.size
      have AM3 := (((unhide AN3).below hE4).wide hE4.size (Nat.le_refl _)).below Y4
      have t4 : V4.heap.size ≤ V5.heap.size := Nat.le_trans hC5.size hE5.size
      have AM4 := (((unhide AN4).below hE5).wide hE5.size (Nat.le_refl _)).below Y5
      have t5 : V5.heap.size ≤ V6.heap.size := Nat.le_trans hC6.size hE6.size
      have AM5 := (((unhide AN5).below hE6).wide hE6.size (Nat.le_refl _)).below Y6
      have t6 : V6.heap.size ≤ V7.heap.size := Nat.le_trans hC7.size hE7.size
      have AM6 := (((unhide AN6).below hE7).wide hE7.size (Nat.le_refl _)).below Y7
      have HAN := hide (show ∀ j, j < 7 → An w8 ((pr7 wr.heap.size V1.heap.size V2.heap.size V3.heap.size V4.heap.size V5.heap.size V6.heap.size) j) ((pr7 V1.heap.size V2.heap.size V3.heap.size V4.heap.size V5.heap.size V6.heap.size V7.heap.size) j) ((pr7 u0 u1 u2 u3 u4 u5 u6) j) ((pr7 b0 b1 b2 b3 b4 b5 b6) j) ((pr7 L0 L1 L2 L3 L4 L5 L6) j) ((pr7 H0 H1 H2 H3 H4 H5 H6) j) from seven AM0 AM1 AM2 AM3 AM4 AM5 AM6)
      have t9 : V.heap.size ≤ wr.heap.size := hB.size
      have t8 : V7.heap.size ≤ w8.heap.size := hF8.size
      have HR1 := hide (show ∀ j, j < 7 → V.heap.size ≤ (pr7 wr.heap.size V1.heap.size V2.heap.size V3.heap.size V4.heap.size V5.heap.size V6.heap.size) j from seven (by simp only [pr7]; omega) (by simp only [pr7]; omega) (by simp only [pr7]; omega) (by simp only [pr7]; omega) (by simp only [pr7]; omega) (by simp only [pr7]; omega) (by simp only [pr7]; omega))
      have HR2 := hide (show ∀ j, j < 7 → (pr7 V1.heap.size V2.heap.size V3.heap.size V4.heap.size V5.heap.size V6.heap.size V7.heap.size) j ≤ V7.heap.size from seven (by simp only [pr7]; omega) (by simp only [pr7]; omega) (by simp only [pr7]; omega) (by simp only [pr7]; omega) (by simp only [pr7]; omega) (by simp only [pr7]; omega) (by simp only [pr7]; omega))
      have HR3 := hide (show ∀ j, j < 7 → ∀ k, k < 7 → k < j → (pr7 V1.heap.size V2.heap.size V3.heap.size V4.heap.size V5.heap.size V6.heap.size V7.heap.size) k ≤ (pr7 wr.heap.size V1.heap.size V2.heap.size V3.heap.size V4.heap.size V5.heap.size V6.heap.size) j from seven (seven (by intro h; simp only [pr7]; omega) (by intro h; simp only [pr7]; omega) (by intro h; simp only [pr7]; omega) (by intro h; simp only [pr7]; omega) (by intro h; simp only [pr7]; omega) (by intro h; simp only [pr7]; omega) (by intro h; simp only [pr7]; omega)) (seven (by intro h; simp only [pr7]; omega) (by intro h; simp only [pr7]; omega) (by intro h; simp only [pr7]; omega) (by intro h; simp only [pr7]; omega) (by intro h; simp only [pr7]; omega) (by intro h; simp only [pr7]; omega) (by intro h; simp only [pr7]; omega)) (seven (by intro h; simp only [pr7]; omega) (by intro h; simp only [pr7]; omega) (by intro h; simp only [pr7]; omega) (by intro h; simp only [pr7]; omega) (by intro h; simp only [pr7]; omega) (by intro h; simp only [pr7]; omega) (by intro h; simp only [pr7]; omega)) (seven (by intro h; simp only [pr7]; omega) (by intro h; simp only [pr7]; omega) (by intro h; simp only [pr7]; omega) (by intro h; simp only [pr7]; omega) (by intro h; simp only [pr7]; omega) (by intro h; simp only [pr7]; omega) (by intro h; simp only [pr7]; omega)) (seven (by intro h; simp only [pr7]; omega) (by intro h; simp only [pr7]; omega) (by intro h; simp only [pr7]; omega) (by intro h; simp only [pr7]; omega) (by intro h; simp only [pr7]; omega) (by intro h; simp only [pr7]; omega) (by intro h; simp only [pr7]; omega)) (seven (by intro h; simp only [pr7]; omega) (by intro h; simp only [pr7]; omega) (by intro h; simp only [pr7]; omega) (by intro h; simp only [pr7]; omega) (by intro h; simp only [pr7]; omega) (by intro h; simp only [pr7]; omega) (by intro h; simp only [pr7]; omega)) (seven (by intro h; simp only [pr7]; omega) (by intro h; simp only [pr7]; omega) (by intro h; simp only [pr7]; omega) (by intro h; simp only [pr7]; omega) (by intro h; simp only [pr7]; omega) (by intro h; simp only [pr7]; omega) (by intro h; simp only [pr7]; omega)))
      obtain ⟨gN, rfl, hgN, rowN⟩ := ownN.row (by omega)
      have hB8 : Below V.heap.size V w8 := bthen hB7 hF8
      have hR8 : Below wr.heap.size wr w8 := bthen hC1 (bthen hE1 Y1)
      clear ownN AM0 AN0 U0 AM1 AN1 U1 AM2 AN2 U2 AM3 AN3 U3 AM4 AN4 U4 AM5 AN5 U5 AM6 AN6 U6 Z0 Z1 Z2 Z3 Z4 Z5 Y1 Y2 Y3 Y4 Y5 Y6 Y7 hC1 hD1 hE1 hC2 hD2 hE2 hC3 hD3 hE3 hC4 hD4 hE4 hC5 hD5 hE5 hC6 hD6 hE6 hC7 hD7 hE7 hB1 hB2 hB3 hB4 hB5 hB6 hB7 hF8 hV7
      obtain ⟨RL, hRL⟩ : ∃ R, R = (pr7 wr.heap.size V1.heap.size V2.heap.size V3.heap.size V4.heap.size V5.heap.size V6.heap.size) := ⟨_, rfl⟩
      obtain ⟨RH, hRH⟩ : ∃ R, R = (pr7 V1.heap.size V2.heap.size V3.heap.size V4.heap.size V5.heap.size V6.heap.size V7.heap.size) := ⟨_, rfl⟩
      obtain ⟨fN, hfN⟩ : ∃ R, R = (pr7 u0 u1 u2 u3 u4 u5 u6) := ⟨_, rfl⟩
      rw [← hRL, ← hRH, ← hfN] at HAN
      rw [← hRL] at HR1
      rw [← hRH] at HR2
      rw [← hRL, ← hRH] at HR3
      rw [← hfN] at rowN
      clear hRL hRH hfN
      rw [← s7] at hgN
      have HgN := hide hgN
      clear hgN s7 t0 t1 t2 t3 t4 t5 t6 t9
      have HT8 := hide t8
      clear t8
      go_wp2_with fail
      go_loopw [26] (fun kk wq => ∃ k : Nat, k ≤ 7 ∧ kk = .int .i64 k ∧ Below w8.heap.size w8 wq) (fun kk _ => 7 - (intOf kk).toNat)
      case atStart => exact ⟨0, by omega, rfl, Below.refl _ _⟩
      case round =>
        obtain ⟨k, hk, rfl, hq⟩ := hrel
        by_cases hkn : k < 7
        · have hkn' : (k : Int) < 7 := by omega
          rcases (show i = 0 ∨ i = 1 by omega) with rfl | rfl
          · go_wp2_with fail
            go_quiet (fail)
            go_wp2_with fail
            go_roundw
            case rel =>
              go_light
              refine ⟨_, _, _, _, _, _, _, _, _, _, _, _, _, _, _, _, _, _, _, _, _, _, ⟨k + 1, hkn, rfl, ?_⟩, rfl⟩
              exact hq.trans ⟨rfl, rfl, rfl, Nat.le_refl _, fun _ _ => rfl⟩
            case measure =>
              show 7 - (intOf (Value.int IntKind.i64 ((k : Int) + 1))).toNat < 7 - (intOf (Value.int IntKind.i64 (k : Int))).toNat
              exact meas7 hkn
          · rcases unhide HW with h | ⟨gW, cW, fW, rfl, rowW, valW⟩
            · omega
            have rW := (rowW.below hR8).below hq
            obtain ⟨vW1, vW2⟩ := valW k hkn
            have SW := hide ((vW1.below hR8).below hq)
            have SN := hide ((unhide HAN k hkn).at_.below hq)
            have BB := hide ((unhide HAN k hkn).bits.trans vW2.symm)
            have HKq := hide (show ∀ w', Below wr.heap.size wr w' → (w'.cell? ⟨gN, k * 5, none⟩ = some (.bool (fN k).ln) ∧ w'.cell? ⟨gN, k * 5 + 1, none⟩ = some (.slice (fN k).la (fN k).lN (fN k).lc) ∧ w'.cell? ⟨gN, k * 5 + 2, none⟩ = some (.bool (fN k).hn) ∧ w'.cell? ⟨gN, k * 5 + 3, none⟩ = some (.slice (fN k).ha (fN k).hN (fN k).hc) ∧ w'.cell? ⟨gN, k * 5 + 4, none⟩ = some (.int .i64 (fN k).bits) ∧ w'.cell? ⟨gW, k * 5, none⟩ = some (.bool (fW k).ln) ∧ w'.cell? ⟨gW, k * 5 + 1, none⟩ = some (.slice (fW k).la (fW k).lN (fW k).lc) ∧ w'.cell? ⟨gW, k * 5 + 2, none⟩ = some (.bool (fW k).hn) ∧ w'.cell? ⟨gW, k * 5 + 3, none⟩ = some (.slice (fW k).ha (fW k).hN (fW k).hc) ∧ w'.cell? ⟨gW, k * 5 + 4, none⟩ = some (.int .i64 (fW k).bits)) from fun w' hb => ⟨((rowN.below hq).below hb).c0 k hkn, ((rowN.below hq).below hb).c1 k hkn, ((rowN.below hq).below hb).c2 k hkn, ((rowN.below hq).below hb).c3 k hkn, ((rowN.below hq).below hb).c4 k hkn, (rW.below hb).c0 k hkn, (rW.below hb).c1 k hkn, (rW.below hb).c2 k hkn, (rW.below hb).c3 k hkn, (rW.below hb).c4 k hkn⟩)
            have lN := (rowN.below hq).lt
            have lW := rW.lt
            have hk0 : (0 : Int) ≤ (k : Int) := by omega
            obtain ⟨n0, n1, n2, n3, n4, n5, n6, n7, n8, n9⟩ := unhide HKq _ (Below.refl _ _)
            clear rW vW1 vW2 rowW valW HW
            go_wp2_with fail
            go_region_held3 (fun w' => w'.cell? ⟨gN, k * 5, none⟩ = some (.bool (fN k).ln) ∧ w'.cell? ⟨gN, k * 5 + 1, none⟩ = some (.slice (fN k).la (fN k).lN (fN k).lc) ∧ w'.cell? ⟨gN, k * 5 + 2, none⟩ = some (.bool (fN k).hn) ∧ w'.cell? ⟨gN, k * 5 + 3, none⟩ = some (.slice (fN k).ha (fN k).hN (fN k).hc) ∧ w'.cell? ⟨gN, k * 5 + 4, none⟩ = some (.int .i64 (fN k).bits) ∧ w'.cell? ⟨gW, k * 5, none⟩ = some (.bool (fW k).ln) ∧ w'.cell? ⟨gW, k * 5 + 1, none⟩ = some (.slice (fW k).la (fW k).lN (fW k).lc) ∧ w'.cell? ⟨gW, k * 5 + 2, none⟩ = some (.bool (fW k).hn) ∧ w'.cell? ⟨gW, k * 5 + 3, none⟩ = some (.slice (fW k).ha (fW k).hN (fW k).hc) ∧ w'.cell? ⟨gW, k * 5 + 4, none⟩ = some (.int .i64 (fW k).bits)) (exact unhide HKq _ (by repeat' (first | with_reducible exact hQ1 | with_reducible exact Below.refl _ _ | with_reducible refine Below.drew ?_)))
              (first | (go_at_call 32; refine (same_true _ (fN k) (fW k) 70000 _ _ ((unhide SN).below (by repeat' (first | with_reducible exact Below.refl _ _ | with_reducible refine Below.drew ?_))) ((unhide SW).below (by repeat' (first | with_reducible exact Below.refl _ _ | with_reducible refine Below.drew ?_))) (unhide BB)).mono ?_; rintro r wX ⟨rfl, hbX⟩; have hQ1 : Below wr.heap.size wr wX := bthen (by repeat' (first | with_reducible exact Below.refl _ _ | with_reducible refine Below.drew ?_)) hbX))
            all_goals
              go_wp2_with fail
              go_roundw
              case rel =>
                go_light
                refine ⟨_, _, _, _, _, _, _, _, _, _, _, _, _, _, _, _, _, _, _, _, _, _, ⟨k + 1, hkn, rfl, ?_⟩, rfl⟩
                exact bthen hq hQ1
              case measure =>
                show 7 - (intOf (Value.int IntKind.i64 ((k : Int) + 1))).toNat < 7 - (intOf (Value.int IntKind.i64 (k : Int))).toNat
                exact meas7 hkn
        · have hkE : k = 7 := by omega
          subst hkE
          have KK := hide (show SplK V wr.heap.size gN V7.heap.size RL RH from ⟨unhide HR1, unhide HR2, unhide HR3, unhide HgN, (rowN.below hq).lt, Nat.le_trans hB8.size hq.size⟩)
          have S0 : Spl V wr.heap.size gN RL RH fN (pr7 b0 b1 b2 b3 b4 b5 b6) (pr7 L0 L1 L2 L3 L4 L5 L6) (pr7 H0 H1 H2 H3 H4 H5 H6) 0 none 0 fN wr := ⟨OwnS.nil _ _ _, fun j hj => absurd hj (Nat.not_lt_zero j), fun j hj => absurd hj (Nat.not_lt_zero j), fun j _ h2 => (unhide HAN j h2).below hq, rowN.below hq, bthen hB8 hq, Nat.le_refl _⟩
          clear HAN HR1 HR2 HR3 HgN HT8 rowN hB8 hR8 HW hq hk hkn
          obtain ⟨Wq, hWq⟩ : ∃ W, W = wr := ⟨_, rfl⟩
          subst hWq
          go_wp2_with fail
          go_loopw [9, 27] (fun was kk wq => ∃ (k : Nat) (a : Option Addr) (cap : Nat) (f : Nat → Sp), k ≤ 7 ∧ kk = .int .i64 k ∧ was = .slice a k cap ∧ Spl V Wq.heap.size gN RL RH fN (pr7 b0 b1 b2 b3 b4 b5 b6) (pr7 L0 L1 L2 L3 L4 L5 L6) (pr7 H0 H1 H2 H3 H4 H5 H6) k a cap f wq) (fun _ kk _ => 7 - (intOf kk).toNat)
          case atStart => exact ⟨0, none, 0, fN, by omega, rfl, rfl, S0⟩
          case round =>
            clear S0
            obtain ⟨k, a, cap, f, hk, rfl, rfl, st⟩ := hrel
            by_cases hkn : k < 7
            · have hkn' : (k : Int) < 7 := by omega
              have hk0 : (0 : Int) ≤ (k : Int) := by omega
              have n0 := st.row.c0 k hkn
              have n1 := st.row.c1 k hkn
              have n2 := st.row.c2 k hkn
              have n3 := st.row.c3 k hkn
              have n4 := st.row.c4 k hkn
              have lN := st.row.lt
              have ST := hide st
              have AK := hide (st.ans k (Nat.le_refl _) hkn)
              have SZ := hide st.sz
              have hRow := hide (show ∀ i, (Value.slice a k cap).ownBlock = some i → i < wr.heap.size from fun i hi => (World.ownsRow.lt st.own i hi).2)
              clear st
              go_wp2_with fail
              obtain ⟨d9, e9, D9, E9⟩ := copy_of (unhide AK).at_
              refine (lcopiedSpan_any (fN k) d9 e9 _ D9).mono ?_
              rintro r w9 ⟨u, rfl, q1, q2, q3, q4, q5, q6, q7, q8⟩
              have CP := hide (show Cp w9 wr.heap.size u ((pr7 b0 b1 b2 b3 b4 b5 b6) k) ((pr7 L0 L1 L2 L3 L4 L5 L6) k) ((pr7 H0 H1 H2 H3 H4 H5 H6) k) from ⟨E9 _ _ q6 ⟨q1, q2, q3, q4, q5⟩, q5.trans (unhide AK).bits, q8⟩)
              have ST9 := hide ((unhide ST).below q7)
              have hq7 := hide q7
              clear q1 q2 q3 q4 q5 q6 q7 q8 n0 n1 n2 n3 n4 lN D9 E9 AK ST
              go_wp2_with (at_builtin; refine wpList_append_span1 _ rfl _ _ 77 rfl Wq.heap.size Try.underlying77 a k cap f rfl ((unhide ST9).below (bl1 _ _)).own w9.heap.size 1 u rfl (new_span1 _ _ _ _ rfl) hkn ((unhide ST9).below (bl1 _ _)).sz ?_; intro g9 c9 w10 o10 g10 e10 b10; have SM := hide (Spl.append (unhide KK) hkn ((unhide ST9).below (bl1 _ _)) ((unhide CP).below (bl1 _ _)) (unhide SZ) (unhide hRow) o10 g10 b10 e10); have n0 := (unhide SM).row.c0 k hkn; have n1 := (unhide SM).row.c1 k hkn; have n2 := (unhide SM).row.c2 k hkn; have n3 := (unhide SM).row.c3 k hkn; have n4 := (unhide SM).row.c4 k hkn; have lN := (unhide SM).row.lt; clear o10 g10 e10 b10)
              have AK2 := hide ((unhide SM).ans k (Nat.le_refl _) hkn)
              refine (spoil_any (fN k) (RL k) (RH k) _ (unhide AK2).l (unhide AK2).h (unhide AK2).le (unhide AK2).room.1 (unhide AK2).room.2).mono ?_
              rintro r w11 ⟨rfl, o11⟩
              have st11 := hide (Spm.spoilt (unhide KK) hkn (unhide SM) o11)
              clear o11 n0 n1 n2 n3 n4 lN SM AK2 ST9 CP hq7
              go_wp2_with fail
              go_roundw
              case rel =>
                go_light
                refine ⟨_, _, _, _, _, _, _, _, _, _, _, _, _, _, _, _, _, _, _, _, _, ⟨k + 1, some ⟨g9, 0, none⟩, c9, updS f k u, hkn, rfl, rfl, unhide st11⟩, rfl⟩
              case measure =>
                show 7 - (intOf (Value.int IntKind.i64 ((k : Int) + 1))).toNat < 7 - (intOf (Value.int IntKind.i64 (k : Int))).toNat
                exact meas7 hkn
            · have hkE : k = 7 := by omega
              subst hkE
              obtain ⟨g9, rfl, _, row9⟩ := st.own.row (by omega)
              have VAL := hide st.cps
              have hBq := st.bel
              have ROW9 := hide row9
              clear row9 st hk hkn
              obtain ⟨⟨x0, x1, x2, x3, x4⟩, x5⟩ := XU.below hBq
              obtain ⟨⟨y0, y1, y2, y3, y4⟩, y5⟩ := YU.below hBq
              obtain ⟨s0, s1, s2, s3, s4⟩ := A.below hBq
              obtain ⟨t0, t1, t2, t3, t4⟩ := G.below hBq
              have lX := (XU.below hBq).lt
              have lY := (YU.below hBq).lt
              have lA := (A.below hBq).lt
              have lG := (G.below hBq).lt
              go_wp2_with fail
              refine (sameDigits_eq _ _ _ _ _ _ _ _ d _ (unhide HLX).ln (unhide HLX).lN ((unhide HX).below hBq).lo ((unhide HS).below hBq).lo).mono ?_
              rintro r wd0 ⟨rfl, hd0⟩
              have hBd0 := bthen hBq hd0
              have hQd0 := hd0
              clear x0 x1 x2 x3 x4 x5 y0 y1 y2 y3 y4 y5 s0 s1 s2 s3 s4 t0 t1 t2 t3 t4 lX lY lA lG
              obtain ⟨⟨x0, x1, x2, x3, x4⟩, x5⟩ := XU.below hBd0
              obtain ⟨⟨y0, y1, y2, y3, y4⟩, y5⟩ := YU.below hBd0
              obtain ⟨s0, s1, s2, s3, s4⟩ := A.below hBd0
              obtain ⟨t0, t1, t2, t3, t4⟩ := G.below hBd0
              have lX := (XU.below hBd0).lt
              have lY := (YU.below hBd0).lt
              have lA := (A.below hBd0).lt
              have lG := (G.below hBd0).lt
              go_wp2_with fail
              refine (sameDigits_eq _ _ _ _ _ _ _ _ e _ (unhide HLX).hn (unhide HLX).hN ((unhide HX).below hBd0).hi ((unhide HS).below hBd0).hi).mono ?_
              rintro r wd1 ⟨rfl, hd1⟩
              have hBd1 := bthen hBd0 hd1
              have hQd1 := bthen hQd0 hd1
              clear x0 x1 x2 x3 x4 x5 y0 y1 y2 y3 y4 y5 s0 s1 s2 s3 s4 t0 t1 t2 t3 t4 lX lY lA lG
              obtain ⟨⟨x0, x1, x2, x3, x4⟩, x5⟩ := XU.below hBd1
              obtain ⟨⟨y0, y1, y2, y3, y4⟩, y5⟩ := YU.below hBd1
              obtain ⟨s0, s1, s2, s3, s4⟩ := A.below hBd1
              obtain ⟨t0, t1, t2, t3, t4⟩ := G.below hBd1
              have lX := (XU.below hBd1).lt
              have lY := (YU.below hBd1).lt
              have lA := (A.below hBd1).lt
              have lG := (G.below hBd1).lt
              go_wp2_with fail
              refine (sameDigits_eq _ _ _ _ _ _ _ _ d' _ (unhide HLY).ln (unhide HLY).lN ((unhide HY).below hBd1).lo ((unhide HT).below hBd1).lo).mono ?_
              rintro r wd2 ⟨rfl, hd2⟩
              have hBd2 := bthen hBd1 hd2
              have hQd2 := bthen hQd1 hd2
              clear x0 x1 x2 x3 x4 x5 y0 y1 y2 y3 y4 y5 s0 s1 s2 s3 s4 t0 t1 t2 t3 t4 lX lY lA lG
              obtain ⟨⟨x0, x1, x2, x3, x4⟩, x5⟩ := XU.below hBd2
              obtain ⟨⟨y0, y1, y2, y3, y4⟩, y5⟩ := YU.below hBd2
              obtain ⟨s0, s1, s2, s3, s4⟩ := A.below hBd2
              obtain ⟨t0, t1, t2, t3, t4⟩ := G.below hBd2
              have lX := (XU.below hBd2).lt
              have lY := (YU.below hBd2).lt
              have lA := (A.below hBd2).lt
              have lG := (G.below hBd2).lt
              go_wp2_with fail
              refine (sameDigits_eq _ _ _ _ _ _ _ _ e' _ (unhide HLY).hn (unhide HLY).hN ((unhide HY).below hBd2).hi ((unhide HT).below hBd2).hi).mono ?_
              rintro r wd3 ⟨rfl, hd3⟩
              have hBd3 := bthen hBd2 hd3
              have hQd3 := bthen hQd2 hd3
              clear x0 x1 x2 x3 x4 x5 y0 y1 y2 y3 y4 y5 s0 s1 s2 s3 s4 t0 t1 t2 t3 t4 lX lY lA lG
              obtain ⟨⟨x0, x1, x2, x3, x4⟩, x5⟩ := XU.below hBd3
              obtain ⟨⟨y0, y1, y2, y3, y4⟩, y5⟩ := YU.below hBd3
              obtain ⟨s0, s1, s2, s3, s4⟩ := A.below hBd3
              obtain ⟨t0, t1, t2, t3, t4⟩ := G.below hBd3
              have lX := (XU.below hBd3).lt
              have lY := (YU.below hBd3).lt
              have lA := (A.below hBd3).lt
              have lG := (G.below hBd3).lt
              clear x0 x1 x2 x3 x4 x5 y0 y1 y2 y3 y4 y5 s0 s1 s2 s3 s4 t0 t1 t2 t3 t4 lX lY lA lG
              go_wp2_with fail
              go_roundw
              case rel =>
                go_light
                exact ⟨i + 1, hin, rfl, hBd3, Or.inr ⟨g9, cap, f, rfl, (unhide ROW9).below hQd3, fun j hj => ⟨(unhide VAL j hj).at_.below hQd3, (unhide VAL j hj).bits⟩⟩⟩
              case measure =>
                simp only [intOf]; omega
    · have hiE : i = 2 := by omega
      subst hiE
      clear HW
      go_wp2_with fail
      exact bodyPost_ret (v := .bool true) (by simp [results, Try.results14]) rfl ⟨rfl, bthen hBW hB⟩
end Go.Proofs.Ytgmnknmjainabaa

namespace Go.Proofs.Ytgmnknmjainabaa
set_option linter.unusedVariables false
set_option linter.unusedSimpArgs false
set_option linter.unnecessarySimpa false
open Go.ChangeShapes Go.WideShapes Go.ChangeAt Go.RowKit

theorem Try.own : ownKnob Try.prog.godebug = none := by kernel_rfl
theorem Try.laidOut : laidOutB Try.prog = true := by kernel_rfl
theorem Try.cellsSpan : Try.prog.cellsOf 26 = 5 := by kernel_rfl
theorem Try.cellsInt : Try.prog.cellsOf 24 = 2 := by kernel_rfl
theorem Try.cellsI : Try.prog.cellsOf 3 = 1 := by kernel_rfl
theorem Try.cellsB : Try.prog.cellsOf 4 = 1 := by kernel_rfl
theorem Try.cellsDs : Try.prog.cellsOf 22 = 1 := by kernel_rfl
theorem Try.cellsD : Try.prog.cellsOf 96 = 1 := by kernel_rfl
theorem Try.bytesD : Try.prog.bytesOf 96 = 2 := by kernel_rfl

set_option maxRecDepth 100000 in
theorem open_nm {H : Type} {enc : TypeId × Value → H} {W : World} {fuel : Nat} {c0 c1 : Value} {x : DataW H × List MemPlace}
    (h : DataW.trod enc Try.prog W 0 (fun _ => true) true fuel 24 [c0, c1] = some x) (hw : ∀ m ∈ x.1.weights Try.prog 24, m ≤ reachBytes) :
    ∃ neg a n cap d, c0 = .bool neg ∧ c1 = .slice a n cap ∧ Dig W a n cap d := by
  obtain ⟨y0, y1, m, hx, _, h0, h1⟩ := trod_struct2 Try.underlying24 h
  simp [Try.cellsB] at h0
  simp [Try.cellsDs] at h1
  obtain ⟨neg, e0, _⟩ := DataW.trod_bool Try.underlying4 h0
  simp at e0
  rcases open_ints Try.underlying22 Try.underlying96 Try.cellsD h1 with ⟨hcs, _⟩ | ⟨a, len, cap, zs, hcs, _, hl, hm, hz, hy, hcell, hwz⟩
  · simp at hcs
    exact ⟨neg, none, 0, 0, fun _ => 0, e0, hcs, fun h => by omega, fun _ => ⟨by simp, by simp⟩, Nat.le_refl _, by omega⟩
  · simp at hcs hz
    have hbound : cap ≤ 70368744177664 := by
      have h2 := hw ((zs.take len).length * 2 + (zs.drop len).length * 2) (by
        rw [hx, hy]
        simp [DataW.weights, DataW.weightsEach, Try.underlying24, Try.underlying22, Try.bytesD, lits]
        right; left; omega)
      simp [reachBytes, hz] at h2
      omega
    have hspot : 0 < cap → a.spot = none := fun h0 => by
      have hc := hcell 0 (by omega)
      have := World.cell?_spot hc
      simpa [Addr.add] using this
    obtain ⟨b, off, spot⟩ := a
    refine ⟨neg, some ⟨b, off, spot⟩, len, cap, fun j => zs.getD j 0, e0, hcs, fun h0 => ?_, fun j => ?_, hl, by omega⟩
    · have hs := hspot (by omega)
      simp at hs
      subst hs
      have hc0 := hcell 0 (by omega)
      refine ⟨b, off, rfl, World.block_lt_of_cell? W ⟨b, off, none⟩ (by simpa [Addr.add] using hc0), fun j hj => ?_⟩
      have := hcell j (by omega)
      rw [show (⟨b, off, none⟩ : Addr).add j = ⟨b, off + j, none⟩ by unfold Addr.add; split <;> simp_all] at this
      exact this
    · have := range_u16 hwz j
      simp at this ⊢
      omega

set_option maxRecDepth 100000 in
theorem open_sp {H : Type} {enc : TypeId × Value → H} {W : World} {base : Nat} {r : Reach} {v : Value} {dd : DataW H} {p : List MemPlace} (hv : Value.okWide Try.prog W r base 26 v)
    (h : DataW.Trod enc Try.prog W 0 (fun _ => true) true 26 v dd p) (hw : ∀ m ∈ dd.weights Try.prog 26, m ≤ reachBytes) :
    ∃ (s : Sp) (d e : Nat → Int), v = .agg #[.bool s.ln, .slice s.la s.lN s.lc, .bool s.hn, .slice s.ha s.hN s.hc, .int .i64 s.bits] ∧ SpDig W s d e := by
  obtain ⟨cs, rfl, hsz⟩ := okWide_struct Try.underlying26 hv
  rw [Try.cellsSpan] at hsz
  obtain ⟨l⟩ := cs
  match l, hsz with
  | [c0, c1, c2, c3, c4], _ =>
  obtain ⟨fuel, hf⟩ := h
  obtain ⟨xs, n, _, hx, _, hlen, hfl⟩ := DataW.trod_struct Try.underlying26 hf
  match xs, hlen with
  | [y0, y1, y2], _ =>
  have t0 := hfl 0 _ rfl
  have t1 := hfl 1 _ rfl
  have t2 := hfl 2 _ rfl
  simp [Value.cells, Try.cellsInt] at t0
  simp [Value.cells, Try.cellsInt] at t1
  simp [Value.cells, Try.cellsI] at t2
  simp only [Prod.mk.injEq] at hx
  obtain ⟨hd, _⟩ := hx
  have w0 : ∀ m ∈ y0.1.weights Try.prog 24, m ≤ reachBytes := fun m hm => hw m (by rw [hd]; simp [DataW.weights, DataW.weightsEach, Try.underlying26]; exact Or.inl hm)
  have w1 : ∀ m ∈ y1.1.weights Try.prog 24, m ≤ reachBytes := fun m hm => hw m (by rw [hd]; simp [DataW.weights, DataW.weightsEach, Try.underlying26]; exact Or.inr (Or.inl hm))
  obtain ⟨ln, la, lN, lc, d, rfl, rfl, hl⟩ := open_nm t0 w0
  obtain ⟨hn, ha, hN, hc, e, rfl, rfl, hh⟩ := open_nm t1 w1
  obtain ⟨bits, e2, _, _⟩ := DataW.trod_int Try.underlying3 t2
  simp at e2
  subst e2
  exact ⟨⟨ln, la, lN, lc, hn, ha, hN, hc, bits⟩, d, e, rfl, ⟨hl, hh⟩⟩
end Go.Proofs.Ytgmnknmjainabaa
