/-
  What the statement of memory does with spans: copied, copiedSpan, sameDigits, spoil.
  What tailsurelaw.spoil changes.
  Rows of spans: what append makes of them.
  What num.times answers, and that it leaves old memory alone.
  The long way of num.over: what it leans on: num.Up's digits are the call's own, digits laid over others, append of two digits; no statement of the seat is proved here.
-/
import Derived.Laws.CopyOwn
import Derived.Test.YtgmnknmjainabaaK06
namespace Go.Proofs.Ytgmnknmjainabaa
set_option linter.unusedVariables false
set_option linter.unusedSimpArgs false
set_option linter.unnecessarySimpa false
open Go.RowKit
attribute [local go_sem ↓] Go.wp_at_zero Go.wp_at_succ
theorem run_append_copy_lg {Pr : Program} (w : World) (t ty e : TypeId) (i : TypeInfo) (z : Value) (ht : Pr.underlying t = some (.slice e)) (hi : Pr.info? e = some i) (hz : i.zero = some z) (h4 : i.size = 1) (hb : i.bytes = 2)
    (b : Nat) (ad : Option Addr) (n cap : Nat) (d : Nat → Int) (hD : Dig w ad n cap d) (hn : n ≤ 70368744177664) :
    ∃ a' cap' w', (Builtin.append_ #[t, t] ty #[.slice (some ⟨b, 0, none⟩) 0 0, .slice ad n cap]).run Pr w = .ok (.slice a' n cap') w' ∧ Dig w' a' n cap' d ∧ Below w.heap.size w w' ∧ Mine w.heap.size w' a' n := by
  by_cases h0 : n = 0
  · subst h0
    have hs : Src Pr i.size t (.slice ad 0 cap) 0 [] w := by
      cases ad with
      | none => exact Src.ofNil w ht cap
      | some ad => exact Src.ofSlice w ht ad 0 cap [] (by simp) (by simp) (by simp)
    have hr := run_append_room_src (P := Pr) w t t ty e i ht hi b 0 0 0 (.slice ad 0 cap) 0 [] hs (by omega) (by simp) (by simp)
    exact ⟨_, _, _, hr, ⟨fun h => by omega, hD.dgs, Nat.le_refl _, by omega⟩, by simp [World.setCells]; exact Below.refl _ _, Mine.nil _ _ _⟩
  · obtain ⟨b1, off, rfl, hb1, hc⟩ := hD.at_ (by omega)
    have hs : Src Pr i.size t (.slice (some ⟨b1, off, none⟩) n cap) n (dcells d n) w :=
      Src.ofSlice w ht ⟨b1, off, none⟩ n cap (dcells d n) (by rw [dcells_len, h4]; omega) (fun j u hu => by
        obtain ⟨hj, rfl⟩ := dcells_some hu
        rw [add_off]; exact hc j hj) (dcells_one d n)
    have hr := run_append_grow_src (P := Pr) w t t ty e i z ht hi hz (some ⟨b, 0, none⟩) 0 0 [] (run_firstCells_some w.drew i.size 0 ⟨b, 0, none⟩ 0 0 [] (by simp) (by simp)) (.slice (some ⟨b1, off, none⟩) n cap) n (dcells d n) hs (by omega) (by omega)
      (by rw [hb]; unfold Builtin.nextslicecap; rw [if_pos (by omega)]; omega)
    simp only [Nat.zero_add, List.nil_append] at hr
    refine ⟨_, _, _, hr, ⟨fun _ => ⟨w.heap.size, 0, rfl, ?_, fun j hj => ?_⟩, hD.dgs, grownCap_ge w n 0 e, by omega⟩, (Below.refl _ _).drew.alloc (Nat.le_refl _) _, fun _ => ⟨w.heap.size, 0, rfl, Nat.le_refl _, ?_, fun o => ?_⟩⟩
    · show w.heap.size < (w.drew.alloc _).heap.size
      simp
    · rw [World.cell?_alloc_at _ _ _ _ (show w.heap.size = w.drew.heap.size from rfl)]
      rw [Nat.zero_add, Array.getElem?_append_left (by simp [dcells_len]; exact hj)]
      simpa using dcells_at d n j hj
    · show w.heap.size < (w.drew.alloc _).heap.size
      simp
    · simp [go_sem]

theorem step_append_copy_lg {Pr : Program} {ops : Array Oper} {o : Oper} {a : Act} {w : World} {K : Act → World → Prop} {Q : Exit → Act → World → Prop} {E : Prop}
    (hg : o.guard = none) (s x : Operand) (t : TypeId) (hop : o.op = Op.call { callee := Callee.builtin Builtin.append, args := #[s, x], argTypes := #[t, t] })
    (e : TypeId) (ht : Pr.underlying t = some (.slice e)) (hinfo : (Pr.info? e).map (fun i => (i.zero, i.size, i.bytes)) = some (some (.int .u16 0), 1, 2))
    (b : Nat) (hs : a.eval s = .slice (some ⟨b, 0, none⟩) 0 0) (ad : Option Addr) (n cap : Nat) (d : Nat → Int) (hx : a.eval x = .slice ad n cap) (hD : Dig w ad n cap d) (hn : n ≤ 70368744177664)
    (hK : ∀ a' cap' w', Dig w' a' n cap' d → Below w.heap.size w w' → Mine w.heap.size w' a' n → K (a.put o.dst (.slice a' n cap')) w') :
    if Region.wanted o (yielded ops a.tmps) = true then Oper.wp Pr o a w K Q else E := by
  have hw : Region.wanted o (yielded ops a.tmps) = true := by simp [Region.wanted, hg]
  rw [if_pos hw]
  obtain ⟨i, hi, hzz⟩ := Option.map_eq_some_iff.1 hinfo
  simp only [Prod.mk.injEq] at hzz
  obtain ⟨hz, hsz, hby⟩ := hzz
  obtain ⟨a', cap', w', hrun, h1, h2, h3⟩ := run_append_copy_lg (Pr := Pr) w t o.type e i _ ht hi hz hsz hby b ad n cap d hD hn
  unfold Oper.wp
  simp [execOp, hop, resolve, invoke, builtin, hs, hx, hrun, Result.andThen]
  exact hK a' cap' w' h1 h2 h3

theorem Dig.put2 {w : World} {a : Option Addr} {n cap : Nat} {d : Nat → Int} (h : Dig w a n cap d) {B : Nat} {x0 : Bool} {y0 : Option Addr} {y1 y2 : Nat} (h0 : w.cell? ⟨B, 0, none⟩ = some (.bool x0))
    (h1 : w.cell? ⟨B, 1, none⟩ = some (.slice y0 y1 y2)) (u0 u1 : Value) : Dig ((w.setCell ⟨B, 0, none⟩ u0).setCell ⟨B, 1, none⟩ u1) a n cap d := by
  have hne : (⟨B, 0, none⟩ : Addr) ≠ ⟨B, 1, none⟩ := by simp
  have h2 : (w.setCell ⟨B, 0, none⟩ u0).cell? ⟨B, 1, none⟩ = some (.slice y0 y1 y2) := (World.cell?_setCell_other _ _ _ _ hne).trans h1
  exact (h.store h0 (fun _ e => by cases e) u0).store h2 (fun _ e => by cases e) u1

set_option maxRecDepth 100000 in
set_option maxHeartbeats 1000000 in
theorem lcopied_any (neg : Bool) (a : Option Addr) (n cap : Nat) (d : Nat → Int) (w : World) (h1 : Dig w a n cap d) :
    Calls Try.prog 121 #[.agg #[.bool neg, .slice a n cap]] w fun r w' =>
      ∃ a' cap', r = .returned (.agg #[.bool neg, .slice a' n cap']) ∧ Dig w' a' n cap' d ∧ Below w.heap.size w w' ∧ Mine w.heap.size w' a' n := by
  have hn := h1.room
  go_enter Try.func121, Try.ntmps121
  go_wp2
  go_region_held3 (fun w' => w'.cell? ⟨w.heap.size, 0, none⟩ = some (.bool neg) ∧ w'.cell? ⟨w.heap.size, 1, none⟩ = some (.slice a n cap)) (go_keep)
    (first | (refine step_append_copy_lg (by rfl) _ _ 22 (by rfl) 96 Try.underlying22 Try.infoU16 _ (by rfl) _ _ _ d (by rfl) (h1.below (bl3 _ _ _ _).drew) hn ?_; intro a1 c1 w1 hdig hb fr1; obtain ⟨hsz, hcell, hfz⟩ := near (w.heap.size + 2) (by simp) hb))
  go_wp2
  have h0 : w1.cell? ⟨w.heap.size + 1, 0, none⟩ = some (.bool false) := by simp [hcell, go_sem]
  have h1' : w1.cell? ⟨w.heap.size + 1, 1, none⟩ = some (.slice none 0 0) := by simp [hcell, go_sem]
  refine bodyPost_ret (v := .agg #[.bool neg, .slice a1 n c1]) (by simp [results, Try.results121, go_sem, h0, h1']) rfl ⟨a1, c1, rfl, ?_, ?_, ?_⟩
  · exact hdig.put2 h0 h1' _ _
  · exact ((bthen (bl3 _ _ _ _).drew hb).setCell (by simp) _).setCell (by simp) _
  · exact ((fr1.mono (bl3 _ _ _ _).drew.size).set _ _).set _ _

theorem SpDig.put5 {w : World} {s : Sp} {d e : Nat → Int} (h : SpDig w s d e) {B : Nat} {x0 x2 : Bool} {y0 y3 : Option Addr} {y1 y2 y4 y5 : Nat} {i : Int} (h0 : w.cell? ⟨B, 0, none⟩ = some (.bool x0)) (h1 : w.cell? ⟨B, 1, none⟩ = some (.slice y0 y1 y2)) (h2 : w.cell? ⟨B, 2, none⟩ = some (.bool x2)) (h3 : w.cell? ⟨B, 3, none⟩ = some (.slice y3 y4 y5)) (h4 : w.cell? ⟨B, 4, none⟩ = some (.int .i64 i)) (u0 u1 u2 u3 u4 : Value) :
    SpDig (((((w.setCell ⟨B, 0, none⟩ u0).setCell ⟨B, 1, none⟩ u1).setCell ⟨B, 2, none⟩ u2).setCell ⟨B, 3, none⟩ u3).setCell ⟨B, 4, none⟩ u4) s d e := by
  have g : ∀ {a : Option Addr} {n cap : Nat} {f : Nat → Int}, Dig w a n cap f → Dig (((((w.setCell ⟨B, 0, none⟩ u0).setCell ⟨B, 1, none⟩ u1).setCell ⟨B, 2, none⟩ u2).setCell ⟨B, 3, none⟩ u3).setCell ⟨B, 4, none⟩ u4) a n cap f := fun h => by
    refine ((((h.store h0 (fun _ e => by cases e) u0).store (v := .slice y0 y1 y2) ?_ (fun _ e => by cases e) u1).store (v := .bool x2) ?_ (fun _ e => by cases e) u2).store (v := .slice y3 y4 y5) ?_ (fun _ e => by cases e) u3).store (v := .int .i64 i) ?_ (fun _ e => by cases e) u4
    · simp [go_sem, h1]
    · simp [go_sem, h2]
    · simp [go_sem, h3]
    · simp [go_sem, h4]
  exact ⟨g h.lo, g h.hi⟩
/-- A span with the same numbers, in new memory. -/
def CopyAns (w : World) (s : Sp) (d e : Nat → Int) (r : Ending) (w' : World) : Prop :=
  ∃ u : Sp, r = .returned (.agg #[.bool u.ln, .slice u.la u.lN u.lc, .bool u.hn, .slice u.ha u.hN u.hc, .int .i64 u.bits]) ∧ u.ln = s.ln ∧ u.lN = s.lN ∧ u.hn = s.hn ∧ u.hN = s.hN ∧ u.bits = s.bits ∧ SpDig w' u d e ∧ Below w.heap.size w w' ∧ MineS w.heap.size w' u

set_option maxRecDepth 100000 in
set_option maxHeartbeats 1000000 in
theorem lcopiedSpan_any (s : Sp) (d e : Nat → Int) (w : World) (hs : SpDig w s d e) :
    Calls Try.prog 67 #[.agg #[.bool s.ln, .slice s.la s.lN s.lc, .bool s.hn, .slice s.ha s.hN s.hc, .int .i64 s.bits]] w (CopyAns w s d e) := by
  obtain ⟨W, hW⟩ : ∃ W, W = (w.alloc (.cells #[.bool s.ln, .slice s.la s.lN s.lc, .bool s.hn, .slice s.ha s.hN s.hc, .int .i64 s.bits] 26)).alloc (.cells #[.bool false, .slice none 0 0, .bool false, .slice none 0 0, .int .i64 0] 26) := ⟨_, rfl⟩
  have hBW : Below w.heap.size w W := by rw [hW]; exact bl2 _ _ _
  have A : SpC W w.heap.size s := by rw [hW]; exact ⟨by simp [go_sem], by simp [go_sem], by simp [go_sem], by simp [go_sem], by simp [go_sem]⟩
  have R : NoC W (w.heap.size + 1) := by rw [hW]; exact ⟨by simp [go_sem], by simp [go_sem], by simp [go_sem], by simp [go_sem], by simp [go_sem], fun o => by simp [go_sem]⟩
  have HS := hide (hs.below hBW)
  have lA := A.lt
  have lR := R.lt
  have hB0 : Below W.heap.size W W.drew := (Below.refl _ _).drew
  have HK := hide (show ∀ w', Below W.heap.size W w' → (w'.cell? ⟨w.heap.size, 0, none⟩ = some (.bool s.ln) ∧ w'.cell? ⟨w.heap.size, 1, none⟩ = some (.slice s.la s.lN s.lc) ∧ w'.cell? ⟨w.heap.size, 2, none⟩ = some (.bool s.hn) ∧ w'.cell? ⟨w.heap.size, 3, none⟩ = some (.slice s.ha s.hN s.hc) ∧ w'.cell? ⟨w.heap.size, 4, none⟩ = some (.int .i64 s.bits)) from fun w' hB => by
    obtain ⟨x0, x1, x2, x3, x4⟩ := A.below hB
    exact ⟨x0, x1, x2, x3, x4⟩)
  go_enter Try.func67, Try.ntmps67
  go_wp2
  obtain ⟨x0, x1, x2, x3, x4⟩ := A
  rw [← hW]
  clear hW
  go_region_held3 (fun w' => w'.cell? ⟨w.heap.size, 0, none⟩ = some (.bool s.ln) ∧ w'.cell? ⟨w.heap.size, 1, none⟩ = some (.slice s.la s.lN s.lc) ∧ w'.cell? ⟨w.heap.size, 2, none⟩ = some (.bool s.hn) ∧ w'.cell? ⟨w.heap.size, 3, none⟩ = some (.slice s.ha s.hN s.hc) ∧ w'.cell? ⟨w.heap.size, 4, none⟩ = some (.int .i64 s.bits)) (first | exact unhide HK _ (by first | with_reducible exact hB0 | with_reducible exact hB2 | with_reducible exact hB1) | go_keep)
    (first
      | (go_at_call 121; have hq := hB1; refine (lcopied_any _ _ _ _ e _ ((unhide HS).hi.below hB1)).mono ?_; rintro r w2 ⟨a2, c2, rfl, hdig2, hb2, fr2⟩; replace hdig1 := hdig1.below hb2; have fr1 := fr1.below hb2; have hB2 := bthen hB1 hb2; obtain ⟨q0, q1, q2, q3, q4, q5⟩ := R.below hB2; obtain ⟨i0, i1, i2, i3, i4⟩ := unhide HK _ hB2)
      | (go_at_call 121; refine (lcopied_any _ _ _ _ d _ ((unhide HS).lo.below hB0)).mono ?_; rintro r w1 ⟨a1, c1, rfl, hdig1, hb1, fr1⟩; have hB1 := bthen hB0 hb1))
  go_wp2
  refine bodyPost_ret (v := .agg #[.bool s.ln, .slice a1 s.lN c1, .bool s.hn, .slice a2 s.hN c2, .int .i64 s.bits]) (by simp [results, Try.results67, go_sem, q0, q1, q2, q3, q4]) rfl ⟨⟨s.ln, a1, s.lN, c1, s.hn, a2, s.hN, c2, s.bits⟩, rfl, rfl, rfl, rfl, rfl, rfl, ?_, ?_, ?_⟩
  · exact SpDig.put5 ⟨hdig1, hdig2⟩ q0 q1 q2 q3 q4 _ _ _ _ _
  · exact set5 (bthen hBW hB2) (Nat.le_succ _) _ _ _ _ _
  · exact MineS.put5 _ _ _ _ _ _ (h := ⟨fr1.mono (bthen hBW hB0).size, fr2.mono (bthen hBW hB1).size⟩)

set_option maxRecDepth 100000 in
set_option maxHeartbeats 1000000 in
theorem sameDigits_true (neg : Bool) (a c : Option Addr) (n cap cap2 : Nat) (d : Nat → Int) (w : World) (h1 : Dig w a n cap d) (h2 : Dig w c n cap2 d) :
    Calls Try.prog 69 #[.agg #[.bool neg, .slice a n cap], .agg #[.bool neg, .slice c n cap2]] w fun r w' => r = .returned (.bool true) ∧ Below w.heap.size w w' := by
  have hr := h1.room
  have hng : (neg != neg) = false := by simp
  have hnn : ((n : Int) != (n : Int)) = false := by simp
  go_enter Try.func69, Try.ntmps69
  go_wp2
  go_loopw [5] (fun ii wr => ∃ i : Nat, i ≤ n ∧ ii = .int .i64 i ∧ wr.cell? ⟨w.heap.size, 1, none⟩ = some (.slice a n cap) ∧ wr.cell? ⟨w.heap.size + 1, 1, none⟩ = some (.slice c n cap2) ∧ Below w.heap.size w wr) (fun ii _ => n - (intOf ii).toNat)
  case atStart => exact ⟨0, Nat.zero_le _, rfl, by simp [go_sem], by simp [go_sem], bl2 _ _ _⟩
  case round =>
    obtain ⟨i, hi, rfl, x1, y1, hB⟩ := hrel
    by_cases hin : i < n
    · obtain ⟨b1, o1, rfl, hb1, hc1⟩ := (h1.below hB).at_ (by omega)
      obtain ⟨b2, o2, rfl, hb2, hc2⟩ := (h2.below hB).at_ (by omega)
      have g1 := hc1 i hin
      have g2 := hc2 i hin
      have hdd : (d i != d i) = false := by simp
      clear hc1 hc2
      go_wp2
      go_region
      all_goals
        go_wp2
        go_roundw
        case rel => exact ⟨i + 1, by omega, by go_num, x1, y1, hB.drew⟩
        case measure => simp [intOf]; omega
    · have hiE : i = n := by omega
      subst hiE
      go_wp2
      exact bodyPost_ret (v := .bool true) (by simp [results, Try.results69]) rfl ⟨rfl, hB⟩
end Go.Proofs.Ytgmnknmjainabaa

namespace Go.Proofs.Ytgmnknmjainabaa
set_option linter.unusedVariables false
set_option linter.unusedSimpArgs false
set_option linter.unnecessarySimpa false
open Go.RowKit
attribute [local go_sem ↓] Go.wp_at_zero Go.wp_at_succ

/-- Of what was there, only blocks from lo on, below hi, may have turned. -/
structure Out (lo hi : Nat) (w w' : World) : Prop where
  os : w'.os = w.os
  tape : w'.tape = w.tape
  output : w'.output = w.output
  size : w.heap.size ≤ w'.heap.size
  block : ∀ k, k < w.heap.size → ¬ (lo ≤ k ∧ k < hi) → w'.heap[k]? = w.heap[k]?
theorem Out.of {lo hi : Nat} {w w' : World} (h : Below w.heap.size w w') : Out lo hi w w' := ⟨h.os, h.tape, h.output, h.size, fun k hk _ => h.block k hk⟩
theorem Out.then {lo hi : Nat} {w w1 w2 : World} (h : Out lo hi w w1) (k : Out lo hi w1 w2) : Out lo hi w w2 :=
  ⟨k.os.trans h.os, k.tape.trans h.tape, k.output.trans h.output, Nat.le_trans h.size k.size, fun i hi hn => (k.block i (Nat.lt_of_lt_of_le hi h.size) hn).trans (h.block i hi hn)⟩
theorem Out.set {lo hi : Nat} {w w1 : World} (h : Out lo hi w w1) {p : Addr} (h1 : lo ≤ p.block) (h2 : p.block < hi) (u : Value) : Out lo hi w (w1.setCell p u) :=
  ⟨h.os, h.tape, h.output, by simpa [World.setCell] using h.size, fun k hk hn => (Below.heap_setCell _ _ _ _ (fun e => hn ⟨by omega, by omega⟩)).trans (h.block k hk hn)⟩
theorem Out.cell {lo hi : Nat} {w w' : World} (h : Out lo hi w w') {p : Addr} (hp : p.block < w.heap.size) (hn : ¬ (lo ≤ p.block ∧ p.block < hi)) : w'.cell? p = w.cell? p := World.cell?_of_block (w := w) (h.block p.block hp hn)
theorem Out.frozen {lo hi : Nat} {w w' : World} (h : Out lo hi w w') {p : Addr} (hp : p.block < w.heap.size) (hn : ¬ (lo ≤ p.block ∧ p.block < hi)) : w'.frozen? p = w.frozen? p := World.frozen?_of_block (w := w) (h.block p.block hp hn)
/-- Digits that may be written, in blocks from lo on, below hi. -/
def Wr (lo hi : Nat) (w : World) (a : Option Addr) (n : Nat) : Prop :=
  0 < n → ∃ b off, a = some ⟨b, off, none⟩ ∧ lo ≤ b ∧ b < hi ∧ (∀ o, w.frozen? ⟨b, o, none⟩ = false) ∧ ∀ j, j < n → ∃ v, w.cell? ⟨b, off + j, none⟩ = some (.int .u16 v)
theorem wr_of {m : Nat} {w : World} {a : Option Addr} {n cap : Nat} {d : Nat → Int} (h : Mine m w a n) (hd : Dig w a n cap d) : Wr m w.heap.size w a n := fun h0 => by
  obtain ⟨b, off, h1, h2, h3, h4⟩ := h h0
  obtain ⟨b', off', g1, g2, g3⟩ := hd.at_ h0
  rw [h1] at g1
  obtain ⟨rfl, rfl⟩ : b = b' ∧ off = off' := by simpa using g1
  exact ⟨b, off, h1, h2, h3, h4, fun j hj => ⟨_, g3 j hj⟩⟩
theorem Wr.below {lo hi : Nat} {w w' : World} {a : Option Addr} {n : Nat} (h : Wr lo hi w a n) (hh : hi ≤ w.heap.size) (hb : Below w.heap.size w w') : Wr lo hi w' a n := fun h0 => by
  obtain ⟨b, off, h1, h2, h3, h4, h5⟩ := h h0
  refine ⟨b, off, h1, h2, h3, fun o => (hb.frozen (p := ⟨b, o, none⟩) (show b < _ by omega)).trans (h4 o), fun j hj => ?_⟩
  obtain ⟨v, hv⟩ := h5 j hj
  exact ⟨v, (hb.cell (p := ⟨b, off + j, none⟩) (show b < _ by omega)).trans hv⟩
theorem Wr.set {lo hi : Nat} {w : World} {a : Option Addr} {n : Nat} (h : Wr lo hi w a n) (p : Addr) (x : Int) {u : Value} (hp : w.cell? p = some u) : Wr lo hi (w.setCell p (.int .u16 x)) a n := fun h0 => by
  obtain ⟨b, off, h1, h2, h3, h4, h5⟩ := h h0
  refine ⟨b, off, h1, h2, h3, fun o => by rw [World.frozen?_setCell]; exact h4 o, fun j hj => ?_⟩
  by_cases e : p = ⟨b, off + j, none⟩
  · subst e; exact ⟨x, World.cell?_setCell_same _ _ _ hp⟩
  · obtain ⟨v, hv⟩ := h5 j hj
    exact ⟨v, (World.cell?_setCell_other _ _ _ _ e).trans hv⟩
/-- Where tailsurelaw.spoil is. -/
structure Spo (W wr : World) (lo hi : Nat) (s : Sp) : Prop where
  out : Out lo hi W wr
  l : Wr lo hi wr s.la s.lN
  h : Wr lo hi wr s.ha s.hN
theorem Spo.set {W wr : World} {lo hi : Nat} {s : Sp} (h : Spo W wr lo hi s) {p : Addr} (h1 : lo ≤ p.block) (h2 : p.block < hi) (x : Int) {u : Value} (hp : wr.cell? p = some u) : Spo W (wr.setCell p (.int .u16 x)) lo hi s :=
  ⟨h.out.set h1 h2 _, h.l.set p x hp, h.h.set p x hp⟩
theorem Spo.sp {W wr : World} {lo hi B : Nat} {s : Sp} (h : Spo W wr lo hi s) (A : SpC W B s) (hB : hi ≤ B) : SpC wr B s := by
  have hn : ¬ (lo ≤ B ∧ B < hi) := by omega
  exact ⟨(h.out.cell (p := ⟨B, 0, none⟩) A.lt hn).trans A.c0, (h.out.cell (p := ⟨B, 1, none⟩) A.lt hn).trans A.c1, (h.out.cell (p := ⟨B, 2, none⟩) A.lt hn).trans A.c2, (h.out.cell (p := ⟨B, 3, none⟩) A.lt hn).trans A.c3, (h.out.cell (p := ⟨B, 4, none⟩) A.lt hn).trans A.c4⟩

set_option maxRecDepth 100000 in
set_option maxHeartbeats 1000000 in
theorem spoil_any (s : Sp) (lo hi : Nat) (w : World) (hl : Wr lo hi w s.la s.lN) (hh : Wr lo hi w s.ha s.hN) (hhi : hi ≤ w.heap.size) (r1 : s.lN ≤ 70368744177664) (r2 : s.hN ≤ 70368744177664) :
    Calls Try.prog 68 #[.agg #[.bool s.ln, .slice s.la s.lN s.lc, .bool s.hn, .slice s.ha s.hN s.hc, .int .i64 s.bits]] w fun r w' => r = .returned (.tuple #[]) ∧ Out lo hi w w' := by
  obtain ⟨W, hW⟩ : ∃ W, W = w.alloc (.cells #[.bool s.ln, .slice s.la s.lN s.lc, .bool s.hn, .slice s.ha s.hN s.hc, .int .i64 s.bits] 26) := ⟨_, rfl⟩
  have hBW : Below w.heap.size w W := by rw [hW]; exact bl1 _ _
  have A : SpC W w.heap.size s := by rw [hW]; exact spc_new _ _ _
  have st0 : Spo W W lo hi s := ⟨Out.of (Below.refl _ _), hl.below hhi hBW, hh.below hhi hBW⟩
  have HA := hide A
  have HO := hide (Out.of (lo := lo) (hi := hi) hBW)
  clear hl hh hBW A
  go_enter Try.func68, Try.ntmps68
  go_wp2_with fail
  rw [← hW]
  clear hW
  go_loopw [2] (fun ii wr => ∃ i : Nat, i ≤ s.lN ∧ ii = .int .i64 i ∧ Spo W wr lo hi s) (fun ii _ => s.lN - (intOf ii).toNat)
  case atStart => exact ⟨0, Nat.zero_le _, rfl, st0⟩
  case round =>
    obtain ⟨i, hi1, rfl, st⟩ := hrel
    have lA := (st.sp (unhide HA) hhi).lt
    obtain ⟨x0, x1, x2, x3, x4⟩ := st.sp (unhide HA) hhi
    by_cases hin : i < s.lN
    · obtain ⟨b, off, e1, g1, g2, g3, g4⟩ := st.l (by omega)
      obtain ⟨v, g5⟩ := g4 i hin
      rw [e1] at x1
      clear g4
      go_wp2_with fail
      go_roundw
      case rel => exact ⟨i + 1, by omega, by go_num, st.set (p := ⟨b, off + i, none⟩) g1 g2 _ g5⟩
      case measure => simp [intOf]; omega
    · have hiE : ¬ (i : Int) < s.lN := by omega
      go_wp2_with fail
      clear x0 x1 x2 x3 x4 lA
      go_loopw [3] (fun ii wr => ∃ i : Nat, i ≤ s.hN ∧ ii = .int .i64 i ∧ Spo W wr lo hi s) (fun ii _ => s.hN - (intOf ii).toNat)
      case atStart => exact ⟨0, Nat.zero_le _, rfl, st⟩
      case round =>
        obtain ⟨k, hi2, rfl, st⟩ := hrel
        have lA := (st.sp (unhide HA) hhi).lt
        obtain ⟨x0, x1, x2, x3, x4⟩ := st.sp (unhide HA) hhi
        by_cases hkn : k < s.hN
        · obtain ⟨b, off, e1, g1, g2, g3, g4⟩ := st.h (by omega)
          obtain ⟨v, g5⟩ := g4 k hkn
          rw [e1] at x3
          clear g4
          go_wp2_with fail
          go_roundw
          case rel => exact ⟨k + 1, by omega, by go_num, st.set (p := ⟨b, off + k, none⟩) g1 g2 _ g5⟩
          case measure => simp [intOf]; omega
        · have hkE : ¬ (k : Int) < s.hN := by omega
          go_wp2_with fail
          exact bodyPost_end (v := .tuple #[]) (by simp [results, Try.results68]) rfl ⟨rfl, (unhide HO).then st.out⟩
end Go.Proofs.Ytgmnknmjainabaa

namespace Go.Proofs.Ytgmnknmjainabaa
set_option linter.unusedVariables false
set_option linter.unusedSimpArgs false
set_option linter.unnecessarySimpa false
open Go.RowKit
attribute [local go_sem ↓] Go.wp_at_zero Go.wp_at_succ

def spCells (s : Sp) : List Value := [.bool s.ln, .slice s.la s.lN s.lc, .bool s.hn, .slice s.ha s.hN s.hc, .int .i64 s.bits]
def rowCells (f : Nat → Sp) : Nat → List Value
  | 0 => []
  | n + 1 => rowCells f n ++ spCells (f n)
theorem rowCells_len (f : Nat → Sp) (n : Nat) : (rowCells f n).length = n * 5 := by
  induction n with
  | zero => rfl
  | succ n ih => simp [rowCells, ih, spCells]; omega
theorem rowCells_at (f : Nat → Sp) (n j c : Nat) (hj : j < n) (hc : c < 5) : (rowCells f n)[j * 5 + c]? = (spCells (f j))[c]? := by
  induction n with
  | zero => omega
  | succ n ih =>
    have hl := rowCells_len f n
    show (rowCells f n ++ spCells (f n))[j * 5 + c]? = _
    by_cases h : j < n
    · rw [List.getElem?_append_left (by omega)]; exact ih h
    · have : j = n := by omega
      subst this
      rw [List.getElem?_append_right (by omega), hl, show j * 5 + c - j * 5 = c by omega]
theorem rowCells_congr {f g : Nat → Sp} (n : Nat) (h : ∀ j, j < n → f j = g j) : rowCells f n = rowCells g n := by
  induction n with
  | zero => rfl
  | succ n ih => show rowCells f n ++ spCells (f n) = rowCells g n ++ spCells (g n); rw [ih (fun j hj => h j (by omega)), h n (by omega)]
theorem rowCells_one (f : Nat → Sp) (n : Nat) : ∀ u ∈ rowCells f n, u.oneCell' = true := by
  induction n with
  | zero => intro u hu; simp [rowCells] at hu
  | succ n ih =>
    intro u hu
    rcases List.mem_append.1 (show u ∈ rowCells f n ++ spCells (f n) from hu) with h | h
    · exact ih u h
    · simp [spCells] at h
      rcases h with rfl | rfl | rfl | rfl | rfl <;> rfl
def updS (f : Nat → Sp) (n : Nat) (v : Sp) (j : Nat) : Sp := if j = n then v else f j
theorem updS_at (f : Nat → Sp) (n : Nat) (v : Sp) : updS f n v n = v := if_pos rfl
theorem updS_off (f : Nat → Sp) (n : Nat) (v : Sp) {j : Nat} (h : j ≠ n) : updS f n v j = f j := if_neg h
theorem rowCells_upd (f : Nat → Sp) (n : Nat) (v : Sp) : rowCells (updS f n v) (n + 1) = rowCells f n ++ spCells v := by
  show rowCells (updS f n v) n ++ spCells (updS f n v n) = _
  rw [updS_at, rowCells_congr n (fun j hj => updS_off f n v (by omega))]
/-- The slice of spans is the call's own, in a block from base on. -/
def OwnS (w : World) (base : Nat) (a : Option Addr) (n cap : Nat) (f : Nat → Sp) : Prop := w.ownsRow base 26 5 (.slice a n cap) n (rowCells f n)
/-- The cells of a row of spans. -/
structure RowC (w : World) (g n : Nat) (f : Nat → Sp) : Prop where
  lt : g < w.heap.size
  c0 : ∀ j, j < n → w.cell? ⟨g, j * 5, none⟩ = some (.bool (f j).ln)
  c1 : ∀ j, j < n → w.cell? ⟨g, j * 5 + 1, none⟩ = some (.slice (f j).la (f j).lN (f j).lc)
  c2 : ∀ j, j < n → w.cell? ⟨g, j * 5 + 2, none⟩ = some (.bool (f j).hn)
  c3 : ∀ j, j < n → w.cell? ⟨g, j * 5 + 3, none⟩ = some (.slice (f j).ha (f j).hN (f j).hc)
  c4 : ∀ j, j < n → w.cell? ⟨g, j * 5 + 4, none⟩ = some (.int .i64 (f j).bits)
theorem RowC.below {w w' : World} {g n : Nat} {f : Nat → Sp} (h : RowC w g n f) (hb : Below w.heap.size w w') : RowC w' g n f :=
  ⟨Nat.lt_of_lt_of_le h.lt hb.size, fun j hj => (hb.cell (p := ⟨g, _, none⟩) h.lt).trans (h.c0 j hj), fun j hj => (hb.cell (p := ⟨g, _, none⟩) h.lt).trans (h.c1 j hj), fun j hj => (hb.cell (p := ⟨g, _, none⟩) h.lt).trans (h.c2 j hj), fun j hj => (hb.cell (p := ⟨g, _, none⟩) h.lt).trans (h.c3 j hj), fun j hj => (hb.cell (p := ⟨g, _, none⟩) h.lt).trans (h.c4 j hj)⟩
theorem RowC.out {lo hi : Nat} {w w' : World} {g n : Nat} {f : Nat → Sp} (h : RowC w g n f) (ho : Out lo hi w w') (hn : ¬ (lo ≤ g ∧ g < hi)) : RowC w' g n f :=
  ⟨Nat.lt_of_lt_of_le h.lt ho.size, fun j hj => (ho.cell (p := ⟨g, _, none⟩) h.lt hn).trans (h.c0 j hj), fun j hj => (ho.cell (p := ⟨g, _, none⟩) h.lt hn).trans (h.c1 j hj), fun j hj => (ho.cell (p := ⟨g, _, none⟩) h.lt hn).trans (h.c2 j hj), fun j hj => (ho.cell (p := ⟨g, _, none⟩) h.lt hn).trans (h.c3 j hj), fun j hj => (ho.cell (p := ⟨g, _, none⟩) h.lt hn).trans (h.c4 j hj)⟩
theorem OwnS.row {w : World} {base : Nat} {a : Option Addr} {n cap : Nat} {f : Nat → Sp} (h : OwnS w base a n cap f) (h0 : 0 < n) : ∃ g, a = some ⟨g, 0, none⟩ ∧ base ≤ g ∧ RowC w g n f := by
  have h' : w.ownsRow base 26 5 (.slice a n cap) n (rowCells f n) := h
  obtain ⟨g, c2, hv, h1, h2⟩ := World.ownsRow.form h' h0
  simp only [Value.slice.injEq] at hv
  obtain ⟨rfl, _, rfl⟩ := hv
  have hc := World.ownsRow.cells h' (g := g) rfl
  have ha : ∀ j c u, j < n → c < 5 → (spCells (f j))[c]? = some u → w.cell? ⟨g, j * 5 + c, none⟩ = some u := fun j c u hj hc5 hu => by
    have := hc (j * 5 + c) u ((rowCells_at f n j c hj hc5).trans hu)
    rwa [add_off, Nat.zero_add] at this
  exact ⟨g, rfl, (World.ownsRow.lt h' g rfl).1, h2, fun j hj => ha j 0 _ hj (by omega) rfl, fun j hj => ha j 1 _ hj (by omega) rfl, fun j hj => ha j 2 _ hj (by omega) rfl, fun j hj => ha j 3 _ hj (by omega) rfl, fun j hj => ha j 4 _ hj (by omega) rfl⟩
theorem OwnS.nil (w : World) (base : Nat) (f : Nat → Sp) : OwnS w base none 0 0 f := World.ownsRow_nil w base _ 5
theorem OwnS.below {w w' : World} {base : Nat} {a : Option Addr} {n cap : Nat} {f : Nat → Sp} (h : OwnS w base a n cap f) (hb : Below w.heap.size w w') : OwnS w' base a n cap f := by
  have h' : w.ownsRow base 26 5 (.slice a n cap) n (rowCells f n) := h
  refine ⟨h'.1, ?_⟩
  rcases h'.2 with hn | ⟨g, c2, cur, hv, hg, hgg, rest⟩
  · exact .inl hn
  · obtain ⟨hlt, _⟩ := Array.getElem?_eq_some_iff.1 hgg
    exact .inr ⟨g, c2, cur, hv, hg, (hb.block g hlt).trans hgg, rest⟩
theorem OwnS.out {lo hi : Nat} {w w' : World} {base : Nat} {a : Option Addr} {n cap : Nat} {f : Nat → Sp} (h : OwnS w base a n cap f) (ho : Out lo hi w w') (hn9 : hi ≤ base) : OwnS w' base a n cap f := by
  have h' : w.ownsRow base 26 5 (.slice a n cap) n (rowCells f n) := h
  refine ⟨h'.1, ?_⟩
  rcases h'.2 with hn | ⟨g, c2, cur, hv, hg, hgg, rest⟩
  · exact .inl hn
  · obtain ⟨hlt, _⟩ := Array.getElem?_eq_some_iff.1 hgg
    exact .inr ⟨g, c2, cur, hv, hg, (ho.block g hlt (by omega)).trans hgg, rest⟩
theorem Try.infoSpan : (Try.prog.info? 26).map (fun i => (i.zero, i.size, i.bytes)) = some (some (.agg #[.bool false, .slice none 0 0, .bool false, .slice none 0 0, .int .i64 0]), 5, 72) := by kernel_rfl
/-- A row of spans with m more. -/
theorem wpList_append_spans (w : World) {ops : Array Oper} {rest : List Oper} {o : Oper} {act : Act} {Q : Exit → Act → World → Prop} (hgd : o.guard = none) (s x : Operand) (t : TypeId)
    (ho : o.op = .call { callee := .builtin .append, args := #[s, x], argTypes := #[t, t] })
    (base : Nat) (ht : Try.prog.underlying t = some (.slice 26))
    (a : Option Addr) (n cap : Nat) (f : Nat → Sp) (hs : act.eval s = .slice a n cap) (hown : OwnS w base a n cap f) (g m c : Nat) (f' : Nat → Sp) (hx : act.eval x = .slice (some ⟨g, 0, none⟩) m c)
    (hv : ∀ j u, (rowCells f' m)[j]? = some u → w.cell? ⟨g, j, none⟩ = some u) (hm : 0 < m) (nm : Nat) (hnm : n + m = nm) (hn : nm ≤ 1000) (hbase : base ≤ w.heap.size) (F : Nat → Sp) (hF : rowCells F nm = rowCells f n ++ rowCells f' m)
    (h : ∀ a' cap' w', OwnS w' base a' nm cap' F → Below base w w' → wpList Try.prog ops Q rest (act.put o.dst (.slice a' nm cap')) w') : wpList Try.prog ops Q (o :: rest) act w := by
  subst hnm
  obtain ⟨i, hi, hz0, hz1, hz2⟩ := info_parts Try.infoSpan
  have hlt : ∀ k, (Value.slice a n cap).ownBlock = some k → base ≤ k := fun k hk => (World.ownsRow.lt hown k hk).1
  refine wpList_append_lies w hgd s x t ho base 26 i _ 5 72 ht hi hz0 hz1 hz2 rfl (by decide) (.slice a n cap) n (rowCells f n) hs hown ⟨g, 0, none⟩ m c (rowCells f' m) hx (rowCells_len _ _) ?_ (rowCells_one _ _) hm ?_ ?_ hbase _ rfl ?_
  · intro j u hj
    rw [add_off, Nat.zero_add]; exact hv j u hj
  · unfold maxLen; omega
  · omega
  · intro g' cap' w' hown' hgrow _ _
    rw [← hF] at hown'
    exact h _ _ _ hown' ((Below.refl base w).grown hgrow hbase hlt)
/-- What a new block of spans holds. -/
theorem new_spans (w : World) (arr : Array Value) (T : TypeId) (f : Nat → Sp) (m : Nat) (h : arr.toList = rowCells f m) (W : Nat) (hW : w.heap.size = W) : ∀ j u, (rowCells f m)[j]? = some u → (w.alloc (.cells arr T)).cell? ⟨W, j, none⟩ = some u := by
  subst hW
  intro j u hu
  rw [World.cell?_alloc_at _ _ _ _ rfl]
  rw [← h] at hu
  simpa using hu
end Go.Proofs.Ytgmnknmjainabaa

namespace Go.Proofs.Ytgmnknmjainabaa
set_option linter.unusedVariables false
set_option linter.unusedSimpArgs false
set_option linter.unnecessarySimpa false
open Go.RowKit

/-- What num.times writes: carries and digits. -/
def carryT (d : Nat → Int) (q : Int) : Nat → Int
  | 0 => 0
  | k + 1 => (carryT d q k + d k * q) / 65536
def timesD (d : Nat → Int) (q : Int) (n j : Nat) : Int := if j < n then (carryT d q j + d j * q) % 65536 else carryT d q n

theorem prod_bd {x q : Int} (hx : 0 ≤ x ∧ x < 65536) (hq : 0 ≤ q ∧ q < 65536) : 0 ≤ x * q ∧ x * q ≤ 4294836225 := mul_bd hx hq ⟨Int.le_refl 0, by omega⟩ ⟨Int.le_refl 0, by omega⟩
theorem carryT_bd {d : Nat → Int} (hd : Dgs d) {q : Int} (hq : 0 ≤ q ∧ q < 65536) (k : Nat) : 0 ≤ carryT d q k ∧ carryT d q k < 65536 := by
  induction k with
  | zero => simp [carryT]
  | succ k ih => simp only [carryT]; have := prod_bd (hd k) hq; omega
theorem timesD_dgs {d : Nat → Int} (hd : Dgs d) {q : Int} (hq : 0 ≤ q ∧ q < 65536) (n : Nat) : Dgs (timesD d q n) := by
  intro j; unfold timesD
  have := carryT_bd hd hq n
  split <;> omega
theorem times_aux (d : Nat → Int) (q : Int) (n : Nat) : ∀ k, k ≤ n → V (timesD d q n) k + carryT d q k * P k = V d k * q := by
  intro k
  induction k with
  | zero => intro _; simp [V, carryT]
  | succ k ih =>
    intro hk
    have h1 := ih (by omega)
    simp only [V, P]
    have h2 : timesD d q n k = (carryT d q k + d k * q) % 65536 := by simp [timesD]; omega
    rw [h2]
    simp only [carryT]
    have h3 : (carryT d q k + d k * q) % 65536 * P k + (carryT d q k + d k * q) / 65536 * (65536 * P k) = (carryT d q k + d k * q) * P k := by
      rw [← Int.mul_assoc, ← Int.add_mul]; congr 1; omega
    have h4 : (carryT d q k + d k * q) * P k = carryT d q k * P k + d k * q * P k := Int.add_mul _ _ _
    have h5 : (V d k + d k * P k) * q = V d k * q + d k * q * P k := by
      rw [Int.add_mul, Int.mul_assoc (d k), Int.mul_comm (P k) q, ← Int.mul_assoc]
    omega
theorem times_V (d : Nat → Int) (q : Int) (n : Nat) : V (timesD d q n) (n + 1) = V d n * q := by
  have h := times_aux d q n n (Nat.le_refl _)
  simp only [V]
  have : timesD d q n n = carryT d q n := by simp [timesD]
  rw [this]; exact h

set_option maxRecDepth 100000 in
set_option maxHeartbeats 1000000 in
theorem times_any (a : Option Addr) (n cap : Nat) (d : Nat → Int) (q : Int) (w : World) (ha : Dig w a n cap d) (hn : n ≤ 1000000000) (hq0 : 0 ≤ q) (hq1 : q < 65536) :
    Calls Try.prog 148 #[.slice a n cap, .int .u32 q] w fun r w' => ∃ a', r = .returned (.slice a' (n + 1) (n + 1)) ∧ Dig w' a' (n + 1) (n + 1) (timesD d q n) ∧ Below w.heap.size w w' := by
  have hmk := run_make_row' (P := Try.prog) 22 96 (.int .u16 0) 2 Try.underlying22 Try.infoU16 rfl .i64 .i64 (n + 1) (by omega) (by omega)
  have hnm : ((n + 1 : Nat) : Int) = (n : Int) + 1 := by omega
  rw [hnm] at hmk
  clear hnm
  go_enter Try.func148, Try.ntmps148
  go_wp2
  clear hmk
  go_loopw [6, 15] (fun cy i wr => ∃ k : Nat, k ≤ n ∧ i = .int .i64 k ∧ cy = .int .u32 (carryT d q k) ∧ wr.rowIs w.heap.size 96 (n + 1) (fun j => .int .u16 (if j < k then timesD d q n j else 0)) ∧ Below w.heap.size w wr) (fun _ i _ => n - (intOf i).toNat)
  case atStart => exact ⟨0, Nat.zero_le _, rfl, rfl, by simpa using World.rowIs_made w (.int .u16 0) (n + 1) 96, bl1 _ _⟩
  case round =>
    obtain ⟨k, hk, rfl, rfl, hrow, hbl⟩ := hrel
    have cb := carryT_bd ha.dgs ⟨hq0, hq1⟩ k
    by_cases hkn : k < n
    · obtain ⟨b1, o1, rfl, hb1, hc1⟩ := ha.at_ (by omega)
      have g1 : wr.cell? ⟨b1, o1 + k, none⟩ = some (.int .u16 (d k)) := (hbl.cell (p := ⟨b1, o1 + k, none⟩) hb1).trans (hc1 k hkn)
      have db := ha.dgs k
      have pb := prod_bd db ⟨hq0, hq1⟩
      have r1 := hrow.cell (show k < n + 1 by omega)
      have r2 := hrow.frozen k
      have H1 := hide (show (carryT d q k + d k * q) / 65536 = carryT d q (k + 1) from rfl)
      have H2 := hide (show IntKind.u16.wrap (carryT d q k + d k * q) = timesD d q n k by simp [wrap16, timesD, hkn])
      clear hc1
      go_wp2
      go_roundw
      case rel => exact ⟨k + 1, by omega, by go_num, by rw [unhide H1], row_step hrow (unhide H2), hbl.setCell (Nat.le_refl _) _⟩
      case measure => simp [intOf]; omega
    · have hkE : k = n := by omega
      subst hkE
      have r1 := hrow.cell (show k < k + 1 by omega)
      have r2 := hrow.frozen k
      have H2 := hide (show carryT d q k = timesD d q k k by simp [timesD])
      have HR := hide hrow
      clear hrow
      go_wp2
      go_ret
      refine ⟨_, rfl, rowDig ((row_step (unhide HR) (unhide H2)).congr (fun j hj => by simp [hj])) (timesD_dgs ha.dgs ⟨hq0, hq1⟩ k) (by omega), hbl.setCell (Nat.le_refl _) _⟩
end Go.Proofs.Ytgmnknmjainabaa

namespace Go.Proofs.Ytgmnknmjainabaa
set_option linter.unusedVariables false
set_option linter.unusedSimpArgs false
set_option linter.unnecessarySimpa false
open Go.RowKit

/-- Digits from j on laid over others. -/
def over1 (u f : Nat → Int) (j i : Nat) : Int := if i < j then u i else f (i - j)

theorem over1_dgs {u f : Nat → Int} (hu : Dgs u) (hf : Dgs f) (j : Nat) : Dgs (over1 u f j) := by
  intro i; unfold over1; split
  · exact hu i
  · exact hf _
theorem over1_Tp (u f : Nat → Int) (j L : Nat) : Tp (over1 u f j) j L = V f (L - j) := by
  unfold Tp; exact V_congr _ (fun i _ => by simp only [over1]; rw [if_neg (by omega)]; congr 1; omega)
theorem V_low (u : Nat → Int) {j L : Nat} (h : j ≤ L) : V u L = V u j + P j * Tp u j L := by
  unfold Tp
  have := V_split u j (L - j)
  rw [show j + (L - j) = L by omega] at this
  exact this
theorem over1_low (u f : Nat → Int) (j : Nat) : V (over1 u f j) j = V u j := V_congr _ (fun i hi => by simp [over1, hi])

/-- One step of the long division. -/
theorem div_step {u o f : Nat → Int} {j L M : Nat} {A D q : Int} (hjL : j < L) (hjM : j < M) (hA : A = V u L + D * (P (j + 1) * Tp o (j + 1) M)) (hf : V f (L - j) = Tp u j L - q * D) :
    A = V (over1 u f j) L + D * (P j * Tp (upd o j q) j M) := by
  rw [V_low (over1 u f j) (Nat.le_of_lt hjL), over1_low, over1_Tp, hf, Tp_step (upd o j q) j M hjM, Tp_upd]
  have h1 : upd o j q j = q := by simp [upd]
  rw [h1, hA, V_low u (Nat.le_of_lt hjL)]
  generalize Tp u j L = U
  generalize Tp o (j + 1) M = T
  simp only [P]
  rw [Int.mul_sub, Int.mul_add, Int.mul_add]
  have e1 : P j * (q * D) = D * (P j * q) := by rw [Int.mul_comm q D, ← Int.mul_assoc, ← Int.mul_assoc, Int.mul_comm (P j) D]
  have e2 : D * (P j * (65536 * T)) = D * (65536 * P j * T) := by rw [← Int.mul_assoc (P j), Int.mul_comm (P j) 65536]
  omega

/-- What the upper digits tell of the quotient: it is never too small. -/
theorem div_hat {u v : Nat → Int} {j L n : Nat} (hu : Dgs u) (hv : Dgs v) (hn : 0 < n) (hL : j + n < L) (hU : Tp u (j + 1) L < V v n) (q : Int) (hq : q * V v n ≤ Tp u j L) (hq0 : 0 ≤ q) :
    q * v (n - 1) ≤ u (j + n) * 65536 + u (j + n - 1) ∧ q < 65536 := by
  have hD := V_lt hv n
  have hT1 := Tp_step u j L (by omega)
  have hu0 := hu j
  have hDpos : 0 < V v n := by have := Tp_nonneg hu (j + 1) L; omega
  have hUlt : Tp u j L < 65536 * V v n := by omega
  have hq1 : q < 65536 := by
    rcases Int.lt_or_le q 65536 with h | h
    · exact h
    · have := Int.mul_le_mul_of_nonneg_right h (show 0 ≤ V v n by omega); omega
  refine ⟨?_, hq1⟩
  -- the digits above j + n are nought
  have hs := V_split (fun t => u (j + t)) (n + 1) (L - j - (n + 1))
  rw [show n + 1 + (L - j - (n + 1)) = L - j by omega] at hs
  have hs' : Tp u j L = V (fun t => u (j + t)) (n + 1) + P (n + 1) * V (fun t => u (j + (n + 1 + t))) (L - j - (n + 1)) := hs
  have hR0 := V_nonneg (fun t => hu (j + (n + 1 + t))) (L - j - (n + 1))
  have hL0 := V_nonneg (fun t => hu (j + t)) (n + 1)
  have hPn := P_pos (n + 1)
  have hP1 : P (n + 1) = 65536 * P n := rfl
  have hR : V (fun t => u (j + (n + 1 + t))) (L - j - (n + 1)) = 0 := by
    rcases Int.lt_or_le (V (fun t => u (j + (n + 1 + t))) (L - j - (n + 1))) 1 with h | h
    · omega
    · have := Int.mul_le_mul_of_nonneg_left h (show 0 ≤ P (n + 1) by omega)
      omega
  rw [hR, Int.mul_zero, Int.add_zero] at hs'
  obtain ⟨m, rfl⟩ : ∃ m, n = m + 1 := ⟨n - 1, by omega⟩
  have e1 : V (fun t => u (j + t)) (m + 1 + 1) = V (fun t => u (j + t)) m + u (j + m) * P m + u (j + (m + 1)) * (65536 * P m) := rfl
  have e2 : V v (m + 1) = V v m + v m * P m := rfl
  have b1 := V_lt (fun t => hu (j + t)) m
  have b2 := V_nonneg hv m
  have hp := P_pos m
  simp only [Nat.add_sub_cancel]
  rw [show j + (m + 1) - 1 = j + m by omega]
  have h5 : q * (v m * P m) ≤ q * V v (m + 1) := Int.mul_le_mul_of_nonneg_left (by omega) hq0
  have h6 : q * v m * P m < (u (j + (m + 1)) * 65536 + u (j + m) + 1) * P m := by
    rw [Int.mul_assoc, Int.add_mul, Int.add_mul, Int.one_mul, Int.mul_assoc (u (j + (m + 1)))]
    omega
  have h7 : q * v m < u (j + (m + 1)) * 65536 + u (j + m) + 1 := Int.lt_of_mul_lt_mul_right h6 (by omega)
  omega

theorem row_take {c : Array Value} {N n : Nat} {f : Nat → Int} (hc : ∀ i, i < N → c[i]? = some (.int .u16 (f i))) (hn : n ≤ N) : c.toList.take n = dcells f n := by
  apply List.ext_getElem?
  intro j
  rw [List.getElem?_take]
  by_cases hj : j < n
  · rw [if_pos hj, dcells_at f n j hj, Array.getElem?_toList]; exact hc j (by omega)
  · rw [if_neg hj]; symm; rw [List.getElem?_eq_none_iff, dcells_len]; omega
theorem row_own {w : World} {b t N n base : Nat} {f : Nat → Int} (h : w.rowIs b t N (fun j => .int .u16 (f j))) (hn : n ≤ N) (hN : N ≤ 4611686018427387904) (hb : base ≤ b) : Own w base t (some ⟨b, 0, none⟩) n N f := by
  obtain ⟨c, h1, h2, h3⟩ := h
  refine ⟨by rw [dcells_len]; omega, Or.inr ⟨b, N, c, rfl, hb, h1, hn, by unfold maxLen; omega, by omega, ?_⟩⟩
  rw [Nat.mul_one]; exact row_take h3 hn

set_option maxRecDepth 100000 in
set_option maxHeartbeats 1000000 in
theorem up_own (neg : Bool) (a : Option Addr) (n cap k : Nat) (d : Nat → Int) (w : World) (ha : Dig w a n cap d) (hn : n ≤ 1000000000) (hk : k ≤ 1000000000) :
    Calls Try.prog 107 #[.agg #[.bool neg, .slice a n cap], .int .i64 k] w fun r w' =>
      ∃ g n' cap' o neg', r = .returned (.agg #[.bool neg', .slice (some ⟨g, 0, none⟩) n' cap']) ∧ Own w' w.heap.size 96 (some ⟨g, 0, none⟩) n' cap' o ∧ Dgs o ∧ (n' = 0 ∨ o (n' - 1) ≠ 0) ∧ V o n' = V d n * Q k ∧ n' ≤ k / 16 + n + 1 ∧ Below w.heap.size w w' := by
  obtain ⟨q, hq⟩ : ∃ q, q = k / 16 := ⟨_, rfl⟩
  obtain ⟨s, hs⟩ : ∃ s, s = k % 16 := ⟨_, rfl⟩
  have hq' : (k : Int) / 16 = (q : Int) := by omega
  have hs' : (k : Int) % 16 = (s : Int) := by omega
  have hs16 : s < 16 := by omega
  have hk' : ¬ (k : Int) < 0 := by omega
  obtain ⟨W, hW⟩ : ∃ W, W = (w.alloc (.cells #[.bool neg, .slice a n cap] 24)).alloc (.cells #[.bool false, .slice none 0 0] 24) := ⟨_, rfl⟩
  have b3 : Below w.heap.size w W := by rw [hW]; exact bl2 _ _ _
  have s3 : W.heap.size = w.heap.size + 1 + 1 := by rw [hW]; simp
  have k0 : W.cell? ⟨w.heap.size, 0, none⟩ = some (.bool neg) := by rw [hW]; simp [go_sem]
  have k3 : W.cell? ⟨w.heap.size + 1, 0, none⟩ = some (.bool false) := by rw [hW]; simp [go_sem]
  have k4 : W.cell? ⟨w.heap.size + 1, 1, none⟩ = some (.slice none 0 0) := by rw [hW]; simp [go_sem]
  have k5 : ∀ o, W.frozen? ⟨w.heap.size + 1, o, none⟩ = false := by intro o; rw [hW]; simp [go_sem]
  have HW := hide hW
  clear hW
  have hmk := run_make_row' (P := Try.prog) 22 96 (.int .u16 0) 2 Try.underlying22 Try.infoU16 rfl .i64 .i64 (q + n + 1) (by omega) (by omega)
  have hnm : ((q + n + 1 : Nat) : Int) = (q : Int) + n + 1 := by omega
  rw [hnm] at hmk
  have Hq := hide hq
  have Hs := hide hs
  clear hnm hq hs
  go_enter Try.func107, Try.ntmps107
  go_wp2
  clear hmk
  go_loopw [26] (fun ii wr => ∃ (i : Nat) (o : Nat → Int), i ≤ n ∧ ii = .int .i64 i ∧ wr.rowIs (w.heap.size + 1 + 1) 96 (q + n + 1) (fun j => .int .u16 (o j)) ∧ Dgs o ∧ V o (q + n + 1) = V d i * Q s * P q ∧ (∀ j, i + q < j → o j = 0) ∧ o (i + q) < Q s ∧ Below (w.heap.size + 1 + 1) W wr) (fun ii _ => n - (intOf ii).toNat)
  case atStart =>
    refine ⟨0, fun _ => 0, Nat.zero_le _, rfl, ?_, fun _ => ⟨by simp, by simp⟩, ?_, fun _ _ => rfl, ?_, ?_⟩
    · have := World.rowIs_made W (.int .u16 0) (q + n + 1) 96
      rw [s3, unhide HW] at this; exact this
    · rw [V_zero]; simp [V]
    · have := Q_pos s; simp; omega
    · rw [unhide HW]; exact (Below.refl _ _).alloc (by simp) _
  case round =>
    obtain ⟨i, o, hi, rfl, hrow, hod, hov, hoz, hoq, hbl⟩ := hrel
    by_cases hin : i < n
    · obtain ⟨b1, o1, rfl, hb1, hc1⟩ := ha.at_ (by omega)
      have g1 : wr.cell? ⟨b1, o1 + i, none⟩ = some (.int .u16 (d i)) := (hbl.cell (p := ⟨b1, o1 + i, none⟩) (by show b1 < _; omega)).trans ((b3.cell (p := ⟨b1, o1 + i, none⟩) hb1).trans (hc1 i hin))
      have db := ha.dgs i
      have r1 := hrow.cell (show i + q < q + n + 1 by omega)
      have r2 := hrow.frozen (i + q)
      have r3 := hrow.cell (show i + q + 1 < q + n + 1 by omega)
      have r4 := hrow.frozen (i + q + 1)
      have hz1 := hoz (i + q + 1) (by omega)
      rw [hz1] at r3
      have ob := hod (i + q)
      have HV := hide hov
      have HZ := hide hoz
      have HR := hide hrow
      have HD := hide hod
      have HZ1 := hide hz1
      clear hc1 hov hoz hrow hod hz1
      obtain ⟨c, hlow⟩ := up_low (d i) s (by omega)
      have hhigh := up_high (d i) s db.1 db.2
      have hlt := up_lt (d i) s hs16 db.1 db.2
      have hmod : d i * 2 ^ s % 4294967296 = d i * Q s := by rw [Q_pow]; omega
      have hor := or16 (o (i + q)) (d i * Q s % 65536) c s (by omega) ob.1 hoq hlow (by omega) (by omega)
      have hor2 := or16 0 (d i * Q s / 65536) (d i * Q s / 65536) 0 (by omega) (by omega) (by simp [Q]) (by simp [Q]) hhigh.1 (by omega)
      have H1 := hide (show bits .or .u16 (o (i + q)) (IntKind.u16.wrap (d i * 2 ^ s % 4294967296)) = o (i + q) + d i * Q s % 65536 by rw [hmod, wrap16]; exact hor.1)
      have H2 := hide (show bits .or .u16 0 (d i * 2 ^ s % 4294967296 / 65536) = d i * Q s / 65536 by rw [hmod, hor2.1]; omega)
      have H3 := hide hor.2
      have H4 := hide hhigh
      have hQ16 := Q_mono (show s ≤ 15 by omega)
      have e15 : Q 15 = 32768 := rfl
      rw [e15] at hQ16
      clear hlow hlt hmod hor hor2 hhigh e15
      go_wp2
      go_roundw
      case rel =>
        have h3 := unhide H3
        have h4 := unhide H4
        have hne : i + q + 1 ≠ i + q := by omega
        have hz : upd o (i + q) (o (i + q) + d i * Q s % 65536) (i + q + 1) = 0 := by simp [upd]; exact unhide HZ1
        refine ⟨i + 1, upd (upd o (i + q) (o (i + q) + d i * Q s % 65536)) (i + q + 1) (d i * Q s / 65536), by omega, by go_num, row_upd (row_upd (unhide HR) (i + q) (unhide H1)) (i + q + 1) (unhide H2), upd_dgs (upd_dgs (unhide HD) _ (by omega) h3) _ h4.1 (by omega), ?_, fun j hj => ?_, ?_, (hbl.setCell (by simp) _).setCell (by simp) _⟩
        · rw [upd_V _ _ _ _ (by omega), upd_V _ _ _ _ (by omega), hz, unhide HV]
          exact up_alg (V d i) (d i) (o (i + q)) i q s
        · have e1 : j ≠ i + q := by omega
          have e2 : j ≠ i + q + 1 := by omega
          simp only [upd, e1, e2, if_false]; exact unhide HZ j (by omega)
        · have e1 : i + 1 + q = i + q + 1 := by omega
          rw [e1]; simp only [upd, if_true]; exact h4.2
      case measure => simp [intOf]; omega
    · have hiE : i = n := by omega
      subst hiE
      have q0 : wr.cell? ⟨w.heap.size, 0, none⟩ = some (.bool neg) := (hbl.cell (p := ⟨w.heap.size, 0, none⟩) (by show w.heap.size < _; omega)).trans k0
      have q3 : wr.cell? ⟨w.heap.size + 1, 0, none⟩ = some (.bool false) := (hbl.cell (p := ⟨w.heap.size + 1, 0, none⟩) (by simp)).trans k3
      have q4 : wr.cell? ⟨w.heap.size + 1, 1, none⟩ = some (.slice none 0 0) := (hbl.cell (p := ⟨w.heap.size + 1, 1, none⟩) (by simp)).trans k4
      have q5 : ∀ o, wr.frozen? ⟨w.heap.size + 1, o, none⟩ = false := fun o => (hbl.frozen (p := ⟨w.heap.size + 1, o, none⟩) (by simp)).trans (k5 o)
      have hsw := hbl.size
      rw [s3] at hsw
      have HR := hide (rowDig hrow hod (by omega))
      have HRow := hide hrow
      have HO := hide hod
      have HV := hide hov
      clear hov hoz hrow hod
      go_wp2_with (go_at_call 104; refine (of_any _ _ _ _ o _ (unhide HR)).mono ?_; rintro r w2 ⟨rfl, hb2⟩; obtain ⟨hsz2, hcell2, hfz2⟩ := near (w.heap.size + 1 + 1) hsw hb2)
      have tl := trimN_le o (q + i + 1)
      refine bodyPost_ret (v := .agg #[.bool (neg && decide (0 < trimN o (q + i + 1))), .slice (some ⟨w.heap.size + 1 + 1, 0, none⟩) (trimN o (q + i + 1)) (q + i + 1)]) (by simp [results, Try.results107, go_sem, hcell2, q3, q4]) rfl ⟨w.heap.size + 1 + 1, trimN o (q + i + 1), q + i + 1, o, _, rfl, ?_, unhide HO, trimN_top _ _, ?_, ?_, ?_⟩
      · refine row_own ?_ tl (by omega) (by omega)
        have hr2 : w2.rowIs (w.heap.size + 1 + 1) 96 (q + i + 1) (fun j => .int .u16 (o j)) := (unhide HRow).of_block (hb2.block _ (unhide HRow).lt)
        exact (hr2.setOther (by simp) _).setOther (by simp) _
      · rw [trimN_V, unhide HV, Int.mul_assoc, unhide Hs, unhide Hq, ← Q_split]
      · have := unhide Hq; omega
      · exact ((bthen (b3.trans (hbl.mono (by omega))) hb2).setCell (by simp) _).setCell (by simp) _

/-- A row of the call's own that holds digits, and room behind them. -/
def OwnL (w : World) (g t L C : Nat) (u : Nat → Int) : Prop := ∃ cur : List Value, w.heap[g]? = some (.cells cur.toArray t (0, 0)) ∧ cur.length = C ∧ L ≤ C ∧ ∀ j, j < L → cur[j]? = some (.int .u16 (u j))
theorem OwnL.lt {w : World} {g t L C : Nat} {u : Nat → Int} (h : OwnL w g t L C u) : g < w.heap.size := by
  obtain ⟨cur, h1, _⟩ := h
  exact (Array.getElem?_eq_some_iff.1 h1).1
theorem OwnL.cell {w : World} {g t L C : Nat} {u : Nat → Int} (h : OwnL w g t L C u) {j : Nat} (hj : j < L) : w.cell? ⟨g, j, none⟩ = some (.int .u16 (u j)) := by
  obtain ⟨cur, h1, h2, h3, h4⟩ := h
  simp [World.cell?, h1, h4 j hj]
theorem OwnL.of_block {w w' : World} {g t L C : Nat} {u : Nat → Int} (h : OwnL w g t L C u) (e : w'.heap[g]? = w.heap[g]?) : OwnL w' g t L C u := by
  obtain ⟨cur, h1, h2⟩ := h
  exact ⟨cur, e.trans h1, h2⟩
theorem OwnL.below {w w' : World} {g t L C : Nat} {u : Nat → Int} (h : OwnL w g t L C u) (hb : Below w.heap.size w w') : OwnL w' g t L C u := h.of_block (hb.block _ h.lt)
theorem OwnL.dig {w : World} {g t L C : Nat} {u : Nat → Int} (h : OwnL w g t L C u) (hu : Dgs u) (off : Nat) (ho : off ≤ L) (hL : L ≤ 70368744177664) : Dig w (some ⟨g, off, none⟩) (L - off) (C - off) (fun i => u (off + i)) :=
  ⟨fun _ => ⟨g, off, rfl, h.lt, fun j hj => h.cell (by omega)⟩, fun j => hu _, by obtain ⟨_, _, _, h3, _⟩ := h; omega, by omega⟩
theorem ownL_of {w : World} {base t g L C : Nat} {u : Nat → Int} (h : Own w base t (some ⟨g, 0, none⟩) L C u) : OwnL w g t L C u ∧ base ≤ g := by
  have h' : w.ownsRow base t 1 (.slice (some ⟨g, 0, none⟩) L C) L (dcells u L) := h
  rcases h'.2 with ⟨hv, h0⟩ | ⟨g', c2, cur, hv, hb, h1, h2, h3, h4, h5⟩
  · cases hv
  · simp only [Value.slice.injEq, Option.some.injEq, Addr.mk.injEq] at hv
    obtain ⟨⟨rfl, _, _⟩, _, rfl⟩ := hv
    refine ⟨⟨cur.toList, by simpa using h1, by simp; omega, h2, fun j hj => ?_⟩, hb⟩
    have h6 := dcells_at u L j hj
    rw [← h5, List.getElem?_take, if_pos (by omega)] at h6
    exact h6
theorem OwnL.splice {w w' : World} {g t L C : Nat} {u f : Nat → Int} (h : OwnL w g t L C u) (j : Nat) (hj : j ≤ L)
    (cur : List Value) (hc : w.heap[g]? = some (.cells cur.toArray t (0, 0))) (h' : w'.heap[g]? = some (.cells (Go.splice cur j (dcells f (L - j))).toArray t (0, 0))) : OwnL w' g t L C (over1 u f j) := by
  obtain ⟨cur2, h1, h2, h3, h4⟩ := h
  have e : cur2 = cur := by
    rw [hc] at h1
    have := Option.some.inj h1
    simp only [Obj.cells.injEq] at this
    have h5 := congrArg Array.toList this.1
    simpa using h5.symm
  subst e
  refine ⟨_, h', ?_, h3, fun i hi => ?_⟩
  · rw [length_splice _ _ _ (by rw [dcells_len]; omega)]; exact h2
  · unfold Go.splice over1
    by_cases hij : i < j
    · rw [if_pos hij, List.getElem?_append_left (by rw [List.length_take]; omega), List.getElem?_take, if_pos hij]; exact h4 i hi
    · rw [if_neg hij, List.getElem?_append_right (by rw [List.length_take]; omega), List.length_take, Nat.min_eq_left (by omega), List.getElem?_append_left (by rw [dcells_len]; omega), dcells_at _ _ _ (by omega)]

theorem dcells_two (d : Nat → Int) (n : Nat) : dcells (upd (upd d n 0) (n + 1) 0) (n + 2) = dcells d n ++ [.int .u16 0, .int .u16 0] := by
  rw [show n + 2 = n + 1 + 1 from rfl, dcells_upd, dcells_upd, List.append_assoc]; rfl
theorem wpList_append_two {Pr : Program} (w : World) {ops : Array Oper} {rest : List Oper} {o : Oper} {act : Act} {Q : Exit → Act → World → Prop} (hgd : o.guard = none) (s x : Operand) (t : TypeId)
    (ho : o.op = .call { callee := .builtin .append, args := #[s, x], argTypes := #[t, t] })
    (base : Nat) (e : TypeId) (ht : Pr.underlying t = some (.slice e)) (hinfo : (Pr.info? e).map (fun i => (i.zero, i.size, i.bytes)) = some (some (.int .u16 0), 1, 2))
    (a : Option Addr) (n cap : Nat) (d : Nat → Int) (hs : act.eval s = .slice a n cap) (hown : Own w base e a n cap d) (g c : Nat) (hx : act.eval x = .slice (some ⟨g, 0, none⟩) 2 c)
    (hv : w.cell? ⟨g, 0, none⟩ = some (.int .u16 0)) (hv1 : w.cell? ⟨g, 1, none⟩ = some (.int .u16 0)) (hn : n ≤ 1000000000) (hbase : base ≤ w.heap.size)
    (h : ∀ g' cap' w', Own w' base e (some ⟨g', 0, none⟩) (n + 2) cap' (upd (upd d n 0) (n + 1) 0) → Below base w w' → wpList Pr ops Q rest (act.put o.dst (.slice (some ⟨g', 0, none⟩) (n + 2) cap')) w') : wpList Pr ops Q (o :: rest) act w := by
  obtain ⟨i, hi, hz0, hz1, hz2⟩ := info_parts hinfo
  have hlt : ∀ k, (Value.slice a n cap).ownBlock = some k → base ≤ k := fun k hk => (World.ownsRow.lt hown k hk).1
  refine wpList_append_lies w hgd s x t ho base e i (.int .u16 0) 1 2 ht hi hz0 hz1 hz2 rfl (by decide) (.slice a n cap) n (dcells d n) hs hown ⟨g, 0, none⟩ 2 c [.int .u16 0, .int .u16 0] hx rfl ?_ ?_ (by decide) ?_ ?_ hbase _ rfl ?_
  · intro j u hj
    match j, hj with
    | 0, hj => simp at hj; subst hj; rw [add_off]; exact hv
    | 1, hj => simp at hj; subst hj; rw [add_off]; exact hv1
  · intro u hu; simp at hu; subst hu; rfl
  · unfold maxLen; omega
  · omega
  · intro g' cap' w' hown' hgrow _ _
    rw [← dcells_two] at hown'
    exact h _ _ _ hown' ((Below.refl base w).grown hgrow hbase hlt)

theorem or64' (a b c : Int) (ha : 0 ≤ a) (ha1 : a < 65536) (hb : b = 65536 * c) (hc0 : 0 ≤ c) (hc1 : c < 281474976710656) : bits .or .u64 a b = a + b := by
  obtain ⟨A, rfl⟩ := Int.eq_ofNat_of_zero_le ha
  obtain ⟨C, rfl⟩ := Int.eq_ofNat_of_zero_le hc0
  have h3 := or_nat A (65536 * C) C 16 (by omega) (by omega)
  have hb' : b = ((65536 * C : Nat) : Int) := by omega
  rw [hb', u64_or_nat A (65536 * C) (by omega) (by omega), h3]
  omega
end Go.Proofs.Ytgmnknmjainabaa
