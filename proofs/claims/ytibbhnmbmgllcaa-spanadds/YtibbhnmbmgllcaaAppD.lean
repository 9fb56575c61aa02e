/-
  A law for 'l = append(l, x)' of one digit, onto a slice that the call itself has made; old memory is left alone.
-/
import Derived.Test.YtibbhnmbmgllcaaNumE
import Derived.Deep.AppendLies
namespace Go.Proofs.Ytibbhnmbmgllcaa
set_option linter.unusedVariables false
set_option linter.unusedSimpArgs false
set_option linter.unnecessarySimpa false
open Go.RowKit

/-- The slice is the call's own, in a block from base on, and holds the digits. -/
def Own (w : World) (base : Nat) (e : TypeId) (a : Option Addr) (n cap : Nat) (d : Nat → Int) : Prop := w.ownsRow base e 1 (.slice a n cap) n (dcells d n)

theorem dcells_upd (d : Nat → Int) (n : Nat) (v : Int) : dcells (upd d n v) (n + 1) = dcells d n ++ [.int .u16 v] := by
  unfold dcells
  rw [List.range_succ, List.map_append]
  congr 1
  · apply List.map_congr_left
    intro j hj
    have := List.mem_range.1 hj
    have : j ≠ n := by omega
    simp [upd, this]
  · simp [upd]

theorem Own.dig {w : World} {base : Nat} {e : TypeId} {a : Option Addr} {n cap : Nat} {d : Nat → Int} (h : Own w base e a n cap d) (hd : Dgs d) (hn : n ≤ 70368744177664) : Dig w a n cap d := by
  have h' : w.ownsRow base e 1 (.slice a n cap) n (dcells d n) := h
  refine ⟨fun h0 => ?_, hd, ?_, hn⟩
  · obtain ⟨g, c2, hv, h1, h2⟩ := World.ownsRow.form h' h0
    simp only [Value.slice.injEq] at hv
    obtain ⟨rfl, _, rfl⟩ := hv
    refine ⟨g, 0, rfl, h2, fun j hj => ?_⟩
    have := World.ownsRow.cellAt h' j (by omega)
    rw [Nat.zero_add, this, dcells_at d n j hj]
  · rcases h'.2 with ⟨hv, h0⟩ | ⟨g, c2, cur, hv, _, _, hle, _⟩
    · omega
    · simp only [Value.slice.injEq] at hv
      omega

theorem Own.nil (w : World) (base : Nat) (e : TypeId) (d : Nat → Int) : Own w base e none 0 0 d := World.ownsRow_nil w base e 1
theorem Own.alloc {w : World} {base : Nat} {e : TypeId} {a : Option Addr} {n cap : Nat} {d : Nat → Int} (h : Own w base e a n cap d) (o : Obj) : Own (w.alloc o) base e a n cap d := World.ownsRow.alloc h o

theorem wpList_append_digit {Pr : Program} (w : World) {ops : Array Oper} {rest : List Oper} {o : Oper} {act : Act} {Q : Exit → Act → World → Prop} (hgd : o.guard = none) (s x : Operand) (t : TypeId)
    (ho : o.op = .call { callee := .builtin .append, args := #[s, x], argTypes := #[t, t] })
    (base : Nat) (e : TypeId) (ht : Pr.underlying t = some (.slice e)) (hinfo : (Pr.info? e).map (fun i => (i.zero, i.size, i.bytes)) = some (some (.int .u16 0), 1, 2))
    (a : Option Addr) (n cap : Nat) (d : Nat → Int) (hs : act.eval s = .slice a n cap) (hown : Own w base e a n cap d) (g c : Nat) (v : Int) (hx : act.eval x = .slice (some ⟨g, 0, none⟩) 1 c)
    (hv : w.cell? ⟨g, 0, none⟩ = some (.int .u16 v)) (hn : n ≤ 1000000000) (hbase : base ≤ w.heap.size)
    (h : ∀ a' cap' w', Own w' base e a' (n + 1) cap' (upd d n v) → Below base w w' → wpList Pr ops Q rest (act.put o.dst (.slice a' (n + 1) cap')) w') : wpList Pr ops Q (o :: rest) act w := by
  obtain ⟨i, hi, hz0, hz1, hz2⟩ := info_parts hinfo
  have hlt : ∀ k, (Value.slice a n cap).ownBlock = some k → base ≤ k := fun k hk => (World.ownsRow.lt hown k hk).1
  refine wpList_append_lies w hgd s x t ho base e i (.int .u16 0) 1 2 ht hi hz0 hz1 hz2 rfl (by decide) (.slice a n cap) n (dcells d n) hs hown ⟨g, 0, none⟩ 1 c [.int .u16 v] hx rfl ?_ ?_ (by decide) ?_ ?_ hbase _ rfl ?_
  · intro j u hj
    match j, hj with
    | 0, hj => simp at hj; subst hj; rw [add_off]; exact hv
  · intro u hu; simp at hu; subst hu; rfl
  · unfold maxLen; omega
  · omega
  · intro g' cap' w' hown' hgrow _ _
    rw [← dcells_upd] at hown'
    exact h _ _ _ hown' ((Below.refl base w).grown hgrow hbase hlt)
end Go.Proofs.Ytibbhnmbmgllcaa
