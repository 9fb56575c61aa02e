/-
  A law for 'append([]uint16{}, l...)': the new slice holds the same digits; old memory is left alone.
-/
import Derived.Test.YtibbhnmbmgllcaaNumC
namespace Go.Proofs.Ytibbhnmbmgllcaa
set_option linter.unusedVariables false
set_option linter.unusedSimpArgs false
set_option linter.unnecessarySimpa false
open Go.RowKit

theorem add_off (b off j : Nat) : (⟨b, off, none⟩ : Addr).add j = ⟨b, off + j, none⟩ := by unfold Addr.add; split <;> simp_all

/-- The digits as cells. -/
def dcells (d : Nat → Int) (n : Nat) : List Value := (List.range n).map fun j => .int .u16 (d j)
theorem dcells_len (d : Nat → Int) (n : Nat) : (dcells d n).length = n := by simp [dcells]
theorem dcells_at (d : Nat → Int) (n j : Nat) (hj : j < n) : (dcells d n)[j]? = some (.int .u16 (d j)) := by simp [dcells, hj]
theorem dcells_some {d : Nat → Int} {n j : Nat} {u : Value} (h : (dcells d n)[j]? = some u) : j < n ∧ u = .int .u16 (d j) := by
  by_cases hj : j < n
  · rw [dcells_at d n j hj] at h; exact ⟨hj, (Option.some.inj h).symm⟩
  · rw [List.getElem?_eq_none (by rw [dcells_len]; omega)] at h; cases h
theorem dcells_one (d : Nat → Int) (n : Nat) : ∀ u ∈ dcells d n, u.oneCell' = true := by
  intro u hu
  obtain ⟨j, _, rfl⟩ := List.mem_map.1 hu
  rfl

theorem run_append_copy {Pr : Program} (w : World) (t ty e : TypeId) (i : TypeInfo) (z : Value) (ht : Pr.underlying t = some (.slice e)) (hi : Pr.info? e = some i) (hz : i.zero = some z) (h4 : i.size = 1) (hb : i.bytes = 2)
    (b : Nat) (ad : Option Addr) (n cap : Nat) (d : Nat → Int) (hD : Dig w ad n cap d) (hn : n ≤ 1000000000) :
    ∃ a' cap' w', (Builtin.append_ #[t, t] ty #[.slice (some ⟨b, 0, none⟩) 0 0, .slice ad n cap]).run Pr w = .ok (.slice a' n cap') w' ∧ Dig w' a' n cap' d ∧ Below w.heap.size w w' := by
  by_cases h0 : n = 0
  · subst h0
    have hs : Src Pr i.size t (.slice ad 0 cap) 0 [] w := by
      cases ad with
      | none => exact Src.ofNil w ht cap
      | some ad => exact Src.ofSlice w ht ad 0 cap [] (by simp) (by simp) (by simp)
    have hr := run_append_room_src (P := Pr) w t t ty e i ht hi b 0 0 0 (.slice ad 0 cap) 0 [] hs (by omega) (by simp) (by simp)
    exact ⟨_, _, _, hr, ⟨fun h => by omega, hD.dgs, Nat.le_refl _, by omega⟩, by simp [World.setCells]; exact Below.refl _ _⟩
  · obtain ⟨b1, off, rfl, hb1, hc⟩ := hD.at_ (by omega)
    have hs : Src Pr i.size t (.slice (some ⟨b1, off, none⟩) n cap) n (dcells d n) w :=
      Src.ofSlice w ht ⟨b1, off, none⟩ n cap (dcells d n) (by rw [dcells_len, h4]; omega) (fun j u hu => by
        obtain ⟨hj, rfl⟩ := dcells_some hu
        rw [add_off]; exact hc j hj) (dcells_one d n)
    have hr := run_append_grow_src (P := Pr) w t t ty e i z ht hi hz (some ⟨b, 0, none⟩) 0 0 [] (run_firstCells_some w.drew i.size 0 ⟨b, 0, none⟩ 0 0 [] (by simp) (by simp)) (.slice (some ⟨b1, off, none⟩) n cap) n (dcells d n) hs (by omega) (by omega)
      (by rw [hb]; unfold Builtin.nextslicecap; rw [if_pos (by omega)]; omega)
    simp only [Nat.zero_add, List.nil_append] at hr
    refine ⟨_, _, _, hr, ⟨fun _ => ⟨w.heap.size, 0, rfl, ?_, fun j hj => ?_⟩, hD.dgs, grownCap_ge w n 0 e, by omega⟩, (Below.refl _ _).drew.alloc (Nat.le_refl _) _⟩
    · show w.heap.size < (w.drew.alloc _).heap.size
      simp
    · rw [World.cell?_alloc_at _ _ _ _ (show w.heap.size = w.drew.heap.size from rfl)]
      rw [Nat.zero_add, Array.getElem?_append_left (by simp [dcells_len]; exact hj)]
      simpa using dcells_at d n j hj

theorem step_append_copy {Pr : Program} {ops : Array Oper} {o : Oper} {a : Act} {w : World} {K : Act → World → Prop} {Q : Exit → Act → World → Prop} {E : Prop}
    (hg : o.guard = none) (s x : Operand) (t : TypeId) (hop : o.op = Op.call { callee := Callee.builtin Builtin.append, args := #[s, x], argTypes := #[t, t] })
    (e : TypeId) (ht : Pr.underlying t = some (.slice e)) (hinfo : (Pr.info? e).map (fun i => (i.zero, i.size, i.bytes)) = some (some (.int .u16 0), 1, 2))
    (b : Nat) (hs : a.eval s = .slice (some ⟨b, 0, none⟩) 0 0) (ad : Option Addr) (n cap : Nat) (d : Nat → Int) (hx : a.eval x = .slice ad n cap) (hD : Dig w ad n cap d) (hn : n ≤ 1000000000)
    (hK : ∀ a' cap' w', Dig w' a' n cap' d → Below w.heap.size w w' → K (a.put o.dst (.slice a' n cap')) w') :
    if Region.wanted o (yielded ops a.tmps) = true then Oper.wp Pr o a w K Q else E := by
  have hw : Region.wanted o (yielded ops a.tmps) = true := by simp [Region.wanted, hg]
  rw [if_pos hw]
  obtain ⟨i, hi, hzz⟩ := Option.map_eq_some_iff.1 hinfo
  simp only [Prod.mk.injEq] at hzz
  obtain ⟨hz, hsz, hby⟩ := hzz
  obtain ⟨a', cap', w', hrun, h1, h2⟩ := run_append_copy (Pr := Pr) w t o.type e i _ ht hi hz hsz hby b ad n cap d hD hn
  unfold Oper.wp
  simp [execOp, hop, resolve, invoke, builtin, hs, hx, hrun, Result.andThen]
  exact hK a' cap' w' h1 h2
end Go.Proofs.Ytibbhnmbmgllcaa
