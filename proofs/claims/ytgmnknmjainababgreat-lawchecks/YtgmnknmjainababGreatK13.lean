/-
  How a span that is handed to a statement is opened: its ends' digits, within the form's own reach; no statement of the seat is proved here.
-/
import Derived.Test.YtgmnknmjainababGreatRows
import Derived.ProofKit
import Derived.OpenShut
import Derived.SizedLaws
import Derived.ChangeOld
import Derived.Test.YtgmnknmjainababGreatK12
namespace Go.Proofs.YtgmnknmjainababGreat
set_option linter.unusedVariables false
set_option linter.unusedSimpArgs false
set_option linter.unnecessarySimpa false
open Go.ChangeShapes Go.WideShapes Go.ChangeAt Go.RowKit

theorem Tryz.own : ownKnob Tryz.prog.godebug = none := by kernel_rfl
theorem Tryz.laidOut : laidOutB Tryz.prog = true := by kernel_rfl
theorem Tryz.cellsSpan : Tryz.prog.cellsOf 28 = 5 := by kernel_rfl
theorem Tryz.cellsInt : Tryz.prog.cellsOf 26 = 2 := by kernel_rfl
theorem Tryz.cellsI : Tryz.prog.cellsOf 3 = 1 := by kernel_rfl
theorem Tryz.cellsB : Tryz.prog.cellsOf 4 = 1 := by kernel_rfl
theorem Tryz.cellsDs : Tryz.prog.cellsOf 24 = 1 := by kernel_rfl
theorem Tryz.cellsD : Tryz.prog.cellsOf 98 = 1 := by kernel_rfl
theorem Tryz.bytesD : Tryz.prog.bytesOf 98 = 2 := by kernel_rfl

set_option maxRecDepth 100000 in
theorem open_nm {H : Type} {enc : TypeId × Value → H} {W : World} {fuel : Nat} {c0 c1 : Value} {x : DataW H × List MemPlace}
    (h : DataW.trod enc Tryz.prog W 0 (fun _ => true) true fuel 26 [c0, c1] = some x) (hw : ∀ m ∈ x.1.weights Tryz.prog 26, m ≤ reachBytes) :
    ∃ neg a n cap d, c0 = .bool neg ∧ c1 = .slice a n cap ∧ Dig W a n cap d := by
  obtain ⟨y0, y1, m, hx, _, h0, h1⟩ := trod_struct2 Tryz.underlying26 h
  simp [Tryz.cellsB] at h0
  simp [Tryz.cellsDs] at h1
  obtain ⟨neg, e0, _⟩ := DataW.trod_bool Tryz.underlying4 h0
  simp at e0
  rcases open_ints Tryz.underlying24 Tryz.underlying98 Tryz.cellsD h1 with ⟨hcs, _⟩ | ⟨a, len, cap, zs, hcs, _, hl, hm, hz, hy, hcell, hwz⟩
  · simp at hcs
    exact ⟨neg, none, 0, 0, fun _ => 0, e0, hcs, fun h => by omega, fun _ => ⟨by simp, by simp⟩, Nat.le_refl _, by omega⟩
  · simp at hcs hz
    have hbound : cap ≤ 70368744177664 := by
      have h2 := hw ((zs.take len).length * 2 + (zs.drop len).length * 2) (by
        rw [hx, hy]
        simp [DataW.weights, DataW.weightsEach, Tryz.underlying26, Tryz.underlying24, Tryz.bytesD, lits]
        right; left; omega)
      simp [reachBytes, hz] at h2
      omega
    have hspot : 0 < cap → a.spot = none := fun h0 => by
      have hc := hcell 0 (by omega)
      have := World.cell?_spot hc
      simpa [Addr.add] using this
    obtain ⟨b, off, spot⟩ := a
    refine ⟨neg, some ⟨b, off, spot⟩, len, cap, fun j => zs.getD j 0, e0, hcs, fun h0 => ?_, fun j => ?_, hl, by omega⟩
    · have hs := hspot (by omega)
      simp at hs
      subst hs
      have hc0 := hcell 0 (by omega)
      refine ⟨b, off, rfl, World.block_lt_of_cell? W ⟨b, off, none⟩ (by simpa [Addr.add] using hc0), fun j hj => ?_⟩
      have := hcell j (by omega)
      rw [show (⟨b, off, none⟩ : Addr).add j = ⟨b, off + j, none⟩ by unfold Addr.add; split <;> simp_all] at this
      exact this
    · have := range_u16 hwz j
      simp at this ⊢
      omega

set_option maxRecDepth 100000 in
theorem open_sp {H : Type} {enc : TypeId × Value → H} {W : World} {base : Nat} {r : Reach} {v : Value} {dd : DataW H} {p : List MemPlace} (hv : Value.okWide Tryz.prog W r base 28 v)
    (h : DataW.Trod enc Tryz.prog W 0 (fun _ => true) true 28 v dd p) (hw : ∀ m ∈ dd.weights Tryz.prog 28, m ≤ reachBytes) :
    ∃ (s : Sp) (d e : Nat → Int), v = .agg #[.bool s.ln, .slice s.la s.lN s.lc, .bool s.hn, .slice s.ha s.hN s.hc, .int .i64 s.bits] ∧ SpDig W s d e := by
  obtain ⟨cs, rfl, hsz⟩ := okWide_struct Tryz.underlying28 hv
  rw [Tryz.cellsSpan] at hsz
  obtain ⟨l⟩ := cs
  match l, hsz with
  | [c0, c1, c2, c3, c4], _ =>
  obtain ⟨fuel, hf⟩ := h
  obtain ⟨xs, n, _, hx, _, hlen, hfl⟩ := DataW.trod_struct Tryz.underlying28 hf
  match xs, hlen with
  | [y0, y1, y2], _ =>
  have t0 := hfl 0 _ rfl
  have t1 := hfl 1 _ rfl
  have t2 := hfl 2 _ rfl
  simp [Value.cells, Tryz.cellsInt] at t0
  simp [Value.cells, Tryz.cellsInt] at t1
  simp [Value.cells, Tryz.cellsI] at t2
  simp only [Prod.mk.injEq] at hx
  obtain ⟨hd, _⟩ := hx
  have w0 : ∀ m ∈ y0.1.weights Tryz.prog 26, m ≤ reachBytes := fun m hm => hw m (by rw [hd]; simp [DataW.weights, DataW.weightsEach, Tryz.underlying28]; exact Or.inl hm)
  have w1 : ∀ m ∈ y1.1.weights Tryz.prog 26, m ≤ reachBytes := fun m hm => hw m (by rw [hd]; simp [DataW.weights, DataW.weightsEach, Tryz.underlying28]; exact Or.inr (Or.inl hm))
  obtain ⟨ln, la, lN, lc, d, rfl, rfl, hl⟩ := open_nm t0 w0
  obtain ⟨hn, ha, hN, hc, e, rfl, rfl, hh⟩ := open_nm t1 w1
  obtain ⟨bits, e2, _, _⟩ := DataW.trod_int Tryz.underlying3 t2
  simp at e2
  subst e2
  exact ⟨⟨ln, la, lN, lc, hn, ha, hN, hc, bits⟩, d, e, rfl, ⟨hl, hh⟩⟩
end Go.Proofs.YtgmnknmjainababGreat
