/-
  Texts Lst, Msa, Msb, Msc, Rais, Rexp, Rexn, Mse, Rfp, GauQ, RootD, Rle, Gmg: what they hold is told in the last text.
-/
import Derived.Deep.RegionHeld3
import Derived.Test.YtgmnknmjainababK13
set_option linter.unnecessarySimpa false
set_option linter.unusedSimpArgs false
set_option linter.unusedVariables false
namespace Go.Proofs.Ytgmnknmjainabab
open Go
section
variable {Pg : Program} {ops : Array Oper} {Q : Exit → Act → World → Prop} {md : Region.Mode} {S : World → Prop} {l : Nat}
def AnyL (Pg : Program) (md : Region.Mode) (ops : Array Oper) (Q : Exit → Act → World → Prop) (S : World → Prop) (l : Nat) : Nat → Array Bool → Act → World → Prop
  | 0, listed, a, w => Region.ready md ops listed = [] ∧ Q .normal a w
  | fuel + 1, listed, a, w =>
    (Region.ready md ops listed = [] → Q .normal a w) ∧
    ∀ i ∈ Region.ready md ops listed, wpOp Pg ops Q i (fun a' w' => (i ≠ l → S w') ∧ AnyL Pg md ops Q S l fuel (listed.setIfInBounds i true) a' w') a w
theorem AnyL.any : ∀ (fuel : Nat) (listed : Array Bool) (a : Act) (w : World), AnyL Pg md ops Q S l fuel listed a w → wpAny Pg md ops Q fuel listed a w
  | 0, _, _, _, h => h
  | fuel + 1, _, _, _, h => ⟨h.1, fun i hi => wpOp_mono (fun a' w' h' => AnyL.any fuel _ a' w' h'.2) (h.2 i hi)⟩
def waits (md : Region.Mode) (ops : Array Oper) (l i : Nat) : Bool :=
  match ops[l]? with
  | some o => o.after.any (fun e => Region.binds md e && e.on == i)
  | none => false
theorem waits_not {i : Nat} {listed : Array Bool} (hw : waits md ops l i = true) (hi : i ∈ Region.ready md ops listed) (hl : l ∈ Region.ready md ops listed) : False := by
  obtain ⟨_, ol, hol, hall⟩ := mem_ready.1 hl
  obtain ⟨h0, oi, hoi, _⟩ := mem_ready.1 hi
  unfold waits at hw
  rw [hol] at hw
  simp only [Array.any_eq_true'] at hw
  obtain ⟨e, he, h2⟩ := hw
  simp only [Bool.and_eq_true, beq_iff_eq] at h2
  have h1 := hall e he h2.1
  rw [h2.2] at h1
  rcases Nat.lt_or_ge i listed.size with h' | h'
  · simp [h'] at h0 h1; rw [h0] at h1; cases h1
  · simp [Array.getElem?_eq_none h'] at h1
theorem AnyL.first {i : Nat} {oi : Oper} {v : Value} (hi : ops[i]? = some oi) (hsel : ∀ (j : Nat) (o : Oper) cs b, ops[j]? = some o → o.op ≠ .select cs b)
    (hQ : ∀ c a w, Q (.panic c) (a.put oi.dst v) w → Q (.panic c) a w) (hwt : waits md ops l i = true) :
    ∀ (fuel : Nat) (listed : Array Bool) (a : Act) (w : World),
      (∀ j oj, ops[j]? = some oj → j ≠ i → listed.getD j true = false → (∀ e ∈ oj.after, Region.binds md e = true → e.on ≠ i) → oi.apart ops oj = true) →
      i ∈ Region.ready md ops listed → YieldsIf Pg ops S oi v a → S w →
      AnyL Pg md ops Q S l fuel (listed.setIfInBounds i true) (a.put oi.dst v) w → AnyL Pg md ops Q S l (fuel + 1) listed a w := by
  intro fuel
  induction fuel with
  | zero =>
    intro listed a w _ hr hy hS H
    refine ⟨fun h => (by rw [h] at hr; cases hr), fun j hj => ?_⟩
    by_cases hji : j = i
    · subst hji; exact hy.wpOp hi hS ⟨fun _ => hS, H⟩
    · have := ready_mono hj hji
      rw [H.1] at this
      cases this
  | succ fuel ih =>
    intro listed a w hfree hr hy hS H
    refine ⟨fun h => (by rw [h] at hr; cases hr), fun j hj => ?_⟩
    by_cases hji : j = i
    · subst hji; exact hy.wpOp hi hS ⟨fun _ => hS, H⟩
    · have hjl : j ≠ l := fun h => waits_not hwt hr (h ▸ hj)
      have h1 := H.2 j (ready_mono hj hji)
      obtain ⟨hjun, oj, hoj, hall⟩ := mem_ready.1 hj
      have hnot : ∀ e ∈ oj.after, Region.binds md e = true → e.on ≠ i := fun e he hb heq => by
        have h1 := hall e he hb
        have h0 := (mem_ready.1 hr).1
        rw [heq] at h1
        rcases Nat.lt_or_ge i listed.size with h' | h'
        · simp [h'] at h0 h1; rw [h0] at h1; cases h1
        · simp [Array.getElem?_eq_none h'] at h1
      have h2 := wpOp_putIf hoj (hfree j oj hoj hji hjun hnot) (fun cs b => hsel i oi cs b hi) (fun cs b => hsel j oj cs b hoj) hQ hy h1
      have hfree' : ∀ k ok, ops[k]? = some ok → k ≠ i → (listed.setIfInBounds j true).getD k true = false →
          (∀ e ∈ ok.after, Region.binds md e = true → e.on ≠ i) → oi.apart ops ok = true := fun k ok hk hki hun hno => by
        refine hfree k ok hk hki ?_ hno
        by_cases hjk : j = k
        · subst hjk; exact hjun
        · rw [getD_set_ne true hjk] at hun; exact hun
      refine wpOp_mono (fun a' w' h3 => ⟨fun _ => h3.2.1 hjl, ih (listed.setIfInBounds j true) a' w' hfree' (ready_mono hr (Ne.symm hji)) h3.1 (h3.2.1 hjl) ?_⟩) h2
      rw [Array.setIfInBounds_comm _ _ hji]
      exact h3.2.2
theorem AnyL.take {i : Nat} {oi : Oper} {v : Value} {fuel : Nat} {listed : Array Bool} {a : Act} {w : World} (hi : ops[i]? = some oi)
    (hs : Region.noSelect ops = true) (hf : Region.free md ops listed i = true) (hr : (Region.ready md ops listed).contains i = true) (hwt : waits md ops l i = true)
    (hQ : ∀ c a w, Q (.panic c) (a.put oi.dst v) w → Q (.panic c) a w) (hy : YieldsIf Pg ops S oi v a) (hS : S w)
    (h : AnyL Pg md ops Q S l fuel (listed.setIfInBounds i true) (a.put oi.dst v) w) : AnyL Pg md ops Q S l (fuel + 1) listed a w :=
  AnyL.first hi (Region.noSelect_spec hs) hQ hwt fuel listed a w (Region.free_spec hi hf) (by simpa using hr) hy hS h
theorem AnyL.one {i : Nat} {o : Oper} {fuel : Nat} {listed : Array Bool} {a : Act} {w : World} (hr : Region.ready md ops listed = [i]) (ho : ops[i]? = some o)
    (h : ∀ K' : Act → World → Prop, Shut (∀ a w, S w → (S w → AnyL Pg md ops Q S l fuel (listed.setIfInBounds i true) a w) → K' a w) → if Region.wanted o (yielded ops a.tmps) = true then Oper.wp Pg o a w K' Q else K' (a.put o.dst undef) w) :
    AnyL Pg md ops Q S l (fuel + 1) listed a w :=
  ⟨fun h0 => absurd (hr ▸ h0) (by simp), fun j hj => by
    rw [hr] at hj
    have hj' : j = i := by simpa using hj
    subst hj'
    exact wpOp_step ho (fun K' hK => h K' (fun a w hS hW => hK a w ⟨fun _ => hS, hW hS⟩))⟩
theorem AnyL.last {o : Oper} {fuel : Nat} {listed : Array Bool} {a : Act} {w : World} (hr : Region.ready md ops listed = [l]) (ho : ops[l]? = some o)
    (hd : Region.ready md ops (listed.setIfInBounds l true) = [])
    (h : ∀ K' : Act → World → Prop, Shut (∀ a w, Q .normal a w → K' a w) → if Region.wanted o (yielded ops a.tmps) = true then Oper.wp Pg o a w K' Q else K' (a.put o.dst undef) w) :
    AnyL Pg md ops Q S l (fuel + 1) listed a w :=
  ⟨fun h0 => absurd (hr ▸ h0) (by simp), fun j hj => by
    rw [hr] at hj
    have hj' : j = l := by simpa using hj
    subst hj'
    refine wpOp_step ho (fun K' hK => h K' (fun a w hW => hK a w ⟨fun h => absurd rfl h, ?_⟩))
    cases fuel with
    | zero => exact ⟨hd, hW⟩
    | succ fuel => exact ⟨fun _ => hW, by rw [hd]; simp⟩⟩
theorem AnyL.start {id : Nat} {a : Act} {w : World} (hm : Pg.follows .mixedOrders = true) (hS : S w.drew)
    (h : S w.drew → AnyL Pg .any ops Q S l ops.size (Array.replicate ops.size false) a w.drew) : (Code.region id ops true).wp Pg Q a w :=
  wp_region_any hm (AnyL.any _ _ _ _ (h hS))
end
end Go.Proofs.Ytgmnknmjainabab
namespace Go.Proofs.Ytgmnknmjainabab
open Go.RowKit
attribute [local go_sem ↓] Go.wp_at_zero Go.wp_at_succ
theorem sp_putHi {w : World} {B : Nat} {s : Sp} (h : VrC w B s) (x : Nm) : VrC ((w.setCell ⟨B, 2, none⟩ (.bool x.neg)).setCell ⟨B, 3, none⟩ (.slice x.a x.n x.cap)) B ⟨s.ln, s.la, s.lN, s.lc, x.neg, x.a, x.n, x.cap, s.bits⟩ := by
  obtain ⟨⟨q0, q1, q2, q3, q4⟩, q5⟩ := h
  exact ⟨⟨by simp [go_sem, q0], by simp [go_sem, q1], by simp [go_sem, q2], by simp [go_sem, q3], by simp [go_sem, q4]⟩, fun o => by rw [frozen_set', frozen_set']; exact q5 o⟩
theorem NoC.offH {w : World} {B B' : Nat} (h : NoC w B) (hne : B ≠ B') (u0 u1 : Value) : NoC ((w.setCell ⟨B', 2, none⟩ u0).setCell ⟨B', 3, none⟩ u1) B := by
  obtain ⟨q0, q1, q2, q3, q4, q5⟩ := h
  exact ⟨by simp [go_sem, q0, hne, Ne.symm hne], by simp [go_sem, q1, hne, Ne.symm hne], by simp [go_sem, q2, hne, Ne.symm hne], by simp [go_sem, q3, hne, Ne.symm hne], by simp [go_sem, q4, hne, Ne.symm hne], fun o => by rw [frozen_set', frozen_set']; exact q5 o⟩
theorem IntAt.putH {w : World} {neg : Bool} {a : Option Addr} {n cap k : Nat} {z : Int} (h : IntAt w neg a n cap k z) {B : Nat} {x0 : Bool} {y0 : Option Addr} {y1 y2 : Nat} (h0 : w.cell? ⟨B, 2, none⟩ = some (.bool x0))
    (h1 : w.cell? ⟨B, 3, none⟩ = some (.slice y0 y1 y2)) (u0 u1 : Value) : IntAt ((w.setCell ⟨B, 2, none⟩ u0).setCell ⟨B, 3, none⟩ u1) neg a n cap k z := by
  have hne : (⟨B, 2, none⟩ : Addr) ≠ ⟨B, 3, none⟩ := by simp
  have h2 : (w.setCell ⟨B, 2, none⟩ u0).cell? ⟨B, 3, none⟩ = some (.slice y0 y1 y2) := (World.cell?_setCell_other _ _ _ _ hne).trans h1
  exact (h.store h0 (fun _ e => by cases e) u0).store h2 (fun _ e => by cases e) u1
end Go.Proofs.Ytgmnknmjainabab
namespace Go.Proofs.Ytgmnknmjainabab
open Go.RowKit
attribute [local go_sem ↓] Go.wp_at_zero Go.wp_at_succ
structure VnC (w : World) (B : Nat) (x : Nm) : Prop where
  c : NmC w B x
  fz : ∀ o, w.frozen? ⟨B, o, none⟩ = false
theorem VnC.lt {w : World} {B : Nat} {x : Nm} (h : VnC w B x) : B < w.heap.size := h.c.lt
theorem VnC.below {w w' : World} {B : Nat} {x : Nm} (h : VnC w B x) (hb : Below w.heap.size w w') : VnC w' B x :=
  ⟨h.c.below hb, fun o => (hb.frozen (p := ⟨B, o, none⟩) h.lt).trans (h.fz o)⟩
abbrev put2w (w : World) (B : Nat) (x : Nm) : World := (w.setCell ⟨B, 0, none⟩ (.bool x.neg)).setCell ⟨B, 1, none⟩ (.slice x.a x.n x.cap)
theorem VnC.put {w : World} {B : Nat} {x : Nm} (h : VnC w B x) (y : Nm) : VnC (put2w w B y) B y := ⟨put_nm2 h.c y, put_fz2 h.fz _ _⟩
theorem VnC.off {w : World} {B B' : Nat} {x : Nm} (h : VnC w B x) (hne : B ≠ B') (y : Nm) : VnC (put2w w B' y) B x := ⟨h.c.off hne _ _, put_fz2 h.fz _ _⟩
theorem IntAt.putv {w : World} {neg : Bool} {a : Option Addr} {n cap k : Nat} {z : Int} (h : IntAt w neg a n cap k z) {B : Nat} {x : Nm} (hx : VnC w B x) (y : Nm) : IntAt (put2w w B y) neg a n cap k z := h.put2 hx.c.c0 hx.c.c1 _ _
theorem NoC.offv {w : World} {B B' : Nat} (h : NoC w B) (hne : B ≠ B') (y : Nm) : NoC (put2w w B' y) B := by
  obtain ⟨q0, q1, q2, q3, q4, q5⟩ := h
  exact ⟨by simp [go_sem, q0, hne, Ne.symm hne], by simp [go_sem, q1, hne, Ne.symm hne], by simp [go_sem, q2, hne, Ne.symm hne], by simp [go_sem, q3, hne, Ne.symm hne], by simp [go_sem, q4, hne, Ne.symm hne], put_fz2 q5 _ _⟩
theorem vnc_new (w : World) (x : Nm) (T : TypeId) : VnC (w.alloc (.cells #[.bool x.neg, .slice x.a x.n x.cap] T)) w.heap.size x := ⟨⟨by simp, by simp⟩, fun o => by simp [go_sem]⟩
structure RaSt (w wr : World) (B : Nat) (X : Nm) (p q : Int) (k : Nat) (v : Int) : Prop where
  a : RaC wr w.heap.size p q
  x : VnC wr B X
  i : IntAt wr X.neg X.a X.n X.cap k v
  no : NoC wr (w.heap.size + 1)
  be : Below w.heap.size w wr
  l : w.heap.size + 1 < B
theorem RaSt.below {w wr wr' : World} {B : Nat} {X : Nm} {p q : Int} {k : Nat} {v : Int} (h : RaSt w wr B X p q k v) (hb : Below wr.heap.size wr wr') : RaSt w wr' B X p q k v :=
  ⟨h.a.below hb, h.x.below hb, h.i.below hb, h.no.below hb, bthen h.be hb, h.l⟩
theorem RaC.offv {w : World} {B B' : Nat} {p q : Int} (h : RaC w B p q) (hne : B ≠ B') (y : Nm) : RaC (put2w w B' y) B p q := by
  obtain ⟨q0, q1⟩ := h
  constructor <;> simp [go_sem, q0, q1, hne, Ne.symm hne]
theorem RaSt.put {w wr : World} {B : Nat} {X Y : Nm} {p q : Int} {k k' : Nat} {v v' : Int} (h : RaSt w wr B X p q k v) (hy : IntAt wr Y.neg Y.a Y.n Y.cap k' v') : RaSt w (put2w wr B Y) B Y p q k' v' :=
  ⟨h.a.offv (by have := h.l; omega) Y, h.x.put Y, hy.putv h.x Y, h.no.offv (by have := h.l; omega) Y, set2 h.be (by have := h.l; omega) _ _, h.l⟩
end Go.Proofs.Ytgmnknmjainabab
namespace Go.Proofs.Ytgmnknmjainabab
open Go.RowKit
attribute [local go_sem ↓] Go.wp_at_zero Go.wp_at_succ
theorem NoI.offv {w : World} {B B' : Nat} (h : NoI w B) (hne : B ≠ B') (y : Nm) : NoI (put2w w B' y) B := by
  obtain ⟨q0, q1, q2⟩ := h
  exact ⟨by simp [go_sem, q0, hne, Ne.symm hne], by simp [go_sem, q1, hne, Ne.symm hne], put_fz2 q2 _ _⟩
structure RsSt (w wr : World) (B : Nat) (X : Nm) (k : Nat) (v : Int) : Prop where
  x : VnC wr B X
  i : IntAt wr X.neg X.a X.n X.cap k v
  no : NoI wr w.heap.size
  be : Below w.heap.size w wr
  l : w.heap.size < B
theorem RsSt.below {w wr wr' : World} {B : Nat} {X : Nm} {k : Nat} {v : Int} (h : RsSt w wr B X k v) (hb : Below wr.heap.size wr wr') : RsSt w wr' B X k v :=
  ⟨h.x.below hb, h.i.below hb, h.no.below hb, bthen h.be hb, h.l⟩
theorem RsSt.put {w wr : World} {B : Nat} {X Y : Nm} {k k' : Nat} {v v' : Int} (h : RsSt w wr B X k v) (hy : IntAt wr Y.neg Y.a Y.n Y.cap k' v') : RsSt w (put2w wr B Y) B Y k' v' :=
  ⟨h.x.put Y, hy.putv h.x Y, h.no.offv (by have := h.l; omega) Y, set2 h.be (by have := h.l; omega) _ _, h.l⟩
structure CtSt (w wr : World) (B B' : Nat) (X Y : Nm) (p q : Int) (k : Nat) (u v : Int) : Prop where
  a : RaC wr w.heap.size p q
  x : VnC wr B X
  y : VnC wr B' Y
  i : IntAt wr X.neg X.a X.n X.cap k u
  j : IntAt wr Y.neg Y.a Y.n Y.cap k v
  no : NoI wr (w.heap.size + 1)
  be : Below w.heap.size w wr
  l : w.heap.size + 1 < B
  l' : w.heap.size + 1 < B'
  n : B ≠ B'
theorem CtSt.below {w wr wr' : World} {B B' : Nat} {X Y : Nm} {p q : Int} {k : Nat} {u v : Int} (h : CtSt w wr B B' X Y p q k u v) (hb : Below wr.heap.size wr wr') : CtSt w wr' B B' X Y p q k u v :=
  ⟨h.a.below hb, h.x.below hb, h.y.below hb, h.i.below hb, h.j.below hb, h.no.below hb, bthen h.be hb, h.l, h.l', h.n⟩
theorem CtSt.mono {w wr : World} {B B' : Nat} {X Y : Nm} {p q : Int} {k k' : Nat} {u v : Int} (h : CtSt w wr B B' X Y p q k u v) (hk : k ≤ k') : CtSt w wr B B' X Y p q k' u v :=
  ⟨h.a, h.x, h.y, h.i.mono hk, h.j.mono hk, h.no, h.be, h.l, h.l', h.n⟩
theorem CtSt.putX {w wr : World} {B B' : Nat} {X Y Z : Nm} {p q : Int} {k : Nat} {u v u' : Int} (h : CtSt w wr B B' X Y p q k u v) (hz : IntAt wr Z.neg Z.a Z.n Z.cap k u') : CtSt w (put2w wr B Z) B B' Z Y p q k u' v :=
  ⟨h.a.offv (by have := h.l; omega) Z, h.x.put Z, h.y.off (Ne.symm h.n) Z, hz.putv h.x Z, h.j.putv h.x Z, h.no.offv (by have := h.l; omega) Z, set2 h.be (by have := h.l; omega) _ _, h.l, h.l', h.n⟩
theorem CtSt.putY {w wr : World} {B B' : Nat} {X Y Z : Nm} {p q : Int} {k : Nat} {u v v' : Int} (h : CtSt w wr B B' X Y p q k u v) (hz : IntAt wr Z.neg Z.a Z.n Z.cap k v') : CtSt w (put2w wr B' Z) B B' X Z p q k u v' :=
  ⟨h.a.offv (by have := h.l'; omega) Z, h.x.off h.n Z, h.y.put Z, h.i.putv h.y Z, hz.putv h.y Z, h.no.offv (by have := h.l'; omega) Z, set2 h.be (by have := h.l'; omega) _ _, h.l, h.l', h.n⟩
end Go.Proofs.Ytgmnknmjainabab
namespace Go.Proofs.Ytgmnknmjainabab
open Go.RowKit
attribute [local go_sem ↓] Go.wp_at_zero Go.wp_at_succ
structure RaiSt2 (w wr : World) (B5 b K : Nat) (O S : Sp) (o s : Int × Int) : Prop where
  u : VrC wr B5 O
  v : VrC wr w.heap.size S
  up : SpAt wr O K o.1 o.2
  vp : SpAt wr S K s.1 s.2
  ub : O.bits = (b : Int)
  vb : S.bits = (b : Int)
  no : NoC wr (w.heap.size + 1)
  be : Below w.heap.size w wr
  l5 : w.heap.size + 1 < B5
theorem RaiSt2.below {w wr wr' : World} {B5 b K : Nat} {O S : Sp} {o s : Int × Int} (h : RaiSt2 w wr B5 b K O S o s) (hb : Below wr.heap.size wr wr') : RaiSt2 w wr' B5 b K O S o s :=
  ⟨h.u.below hb, h.v.below hb, h.up.below hb, h.vp.below hb, h.ub, h.vb, h.no.below hb, bthen h.be hb, h.l5⟩
set_option maxRecDepth 100000 in
set_option maxHeartbeats 4000000 in
theorem refRaised_iv (w : World) (s : Sp) (b K n : Nat) (a : Int × Int) (Inv : Nat → Int × Int → Int × Int → Prop) (hs : SpAt w s K a.1 a.2) (hbits : s.bits = (b : Int)) (hb : b ≤ 100000) (hn : n ≤ 1000000) (hK2 : K ≤ 10000000) (hK3 : b / 16 + 18 ≤ K)
    (hI0 : Inv n (Q b, Q b) a)
    (hI1 : ∀ m o c, 0 < m → Inv m o c → Inv (m / 2) (if m % 2 = 1 then mulI b o c else o) (mulI b c c) ∧ (-P K < (mulI b o c).1 ∧ (mulI b o c).2 < P K ∨ m % 2 ≠ 1) ∧ -P K < (mulI b c c).1 ∧ (mulI b c c).2 < P K) :
    Calls Try.prog 102 #[.agg #[.bool s.ln, .slice s.la s.lN s.lc, .bool s.hn, .slice s.ha s.hN s.hc, .int .i64 s.bits], .int .i64 n] w (fun r w' => ∃ o c, Inv 0 o c ∧ SpanAns w b K o.1 o.2 r w') := by
  obtain ⟨W, hW⟩ : ∃ W, W = (w.alloc (.cells #[.bool s.ln, .slice s.la s.lN s.lc, .bool s.hn, .slice s.ha s.hN s.hc, .int .i64 s.bits] 36)).alloc (.cells #[.bool false, .slice none 0 0, .bool false, .slice none 0 0, .int .i64 0] 36) := ⟨_, rfl⟩
  have hBW : Below w.heap.size w W := by rw [hW]; exact bl2 _ _ _
  have A : VrC W w.heap.size s := by rw [hW]; exact ⟨⟨by simp [go_sem], by simp [go_sem], by simp [go_sem], by simp [go_sem], by simp [go_sem]⟩, fun o => by simp [go_sem]⟩
  have R : NoC W (w.heap.size + 1) := by rw [hW]; exact ⟨by simp [go_sem], by simp [go_sem], by simp [go_sem], by simp [go_sem], by simp [go_sem], fun o => by simp [go_sem]⟩
  have HS := hide (hs.below hBW)
  have HI0 := hide hI0
  have HI1 := hide hI1
  have HB := hide hbits
  clear hs hI0 hI1 hbits
  go_enter Try.func102, Try.ntmps102
  go_wp2_with fail
  rw [← hW, unhide HB]
  clear hW
  refine (refWhole _ 1 b hb (by decide) (by decide)).mono ?_
  rintro r w1 ⟨v1, rfl, hvb1, hvp1, hb1⟩
  rw [Int.one_mul] at hvp1
  replace hvp1 := hvp1.mono hK3
  replace A := A.below hb1
  replace R := R.below hb1
  replace hBW := bthen hBW hb1
  replace HS := hide ((unhide HS).below hb1)
  have lR := R.lt
  have st0 : RaiSt2 w (w1.alloc (.cells #[.bool v1.ln, .slice v1.la v1.lN v1.lc, .bool v1.hn, .slice v1.ha v1.hN v1.hc, .int .i64 v1.bits] 36)) w1.heap.size b K v1 s (Q b, Q b) a := ⟨vr_new w1 v1 _, A.below (bl1 _ _), hvp1.below (bl1 _ _), (unhide HS).below (bl1 _ _), hvb1, unhide HB, R.below (bl1 _ _), balloc hBW _, by omega⟩
  have HV1 := hide hvb1
  clear hvb1 hvp1 A R hBW HS hb1
  go_wp2_with fail
  go_loopw [1] (fun mm wr => ∃ (m : Nat) (O S : Sp) (o c : Int × Int), mm = .int .i64 (m : Int) ∧ m ≤ n ∧ Inv m o c ∧ RaiSt2 w wr w1.heap.size b K O S o c) (fun mm _ => (intOf mm).toNat)
  case atStart => exact ⟨n, v1, s, (Q b, Q b), a, rfl, Nat.le_refl _, unhide HI0, st0⟩
  case round =>
    obtain ⟨m, O, S, o, c, rfl, hmn, hInv, st⟩ := hrel
    have HInv := hide hInv
    clear hInv
    by_cases hm : 0 < m
    · have hm' : (0 : Int) < (m : Int) := by omega
      have q1 : ((m : Int)).tdiv 2 = ((m / 2 : Nat) : Int) := by rw [Int.tdiv_eq_ediv_of_nonneg (by omega)]; omega
      have HQ := hide q1
      obtain ⟨k1, k2, k3⟩ := unhide HI1 m o c hm (unhide HInv)
      have HN := hide k1
      have HF := hide k2
      have HG := hide k3
      clear k1 k2 k3 q1
      have lv := st.v.lt
      have lu := st.u.lt
      by_cases hodd : m % 2 = 1
      · have q2 : ((m : Int)).tmod 2 = 1 := by rw [Int.tmod_eq_emod_of_nonneg (by omega)]; omega
        have q3 : (m : Int) % 2 = 1 := by omega
        have HO := hide hodd
        obtain ⟨⟨y0, y1, y2, y3, y4⟩, y5⟩ := st.u
        obtain ⟨⟨z0, z1, z2, z3, z4⟩, z5⟩ := st.v
        clear hodd
        go_wp2_with fail
        refine (refTimes_iv _ O S K b o c st.up st.vp (by omega) st.ub (by omega)).mono ?_
        rintro r w2 ⟨v2, rfl, hvb2, hvp2, hb2⟩
        have hf := (unhide HF).resolve_right (fun h => h (unhide HO))
        replace hvp2 := hvp2.fits (K := K) (mulI_le b) hf.1 hf.2
        replace st := st.below hb2
        have HV2 := hide hvb2
        clear hvb2 hb2 hf y0 y1 y2 y3 y4 y5 z0 z1 z2 z3 z4 z5
        have ne5 : w.heap.size ≠ w1.heap.size := by have := st.l5; omega
        have st2 : RaiSt2 w (put5w w2 w1.heap.size v2) w1.heap.size b K v2 S (mulI b o c) c := ⟨st.u.put v2, st.v.off ne5 v2, hvp2.put st.u.c v2, st.vp.put st.u.c v2, unhide HV2, st.vb, st.no.off (by have := st.l5; omega) v2, below_put st.be (by have := st.l5; omega) v2, st.l5⟩
        have lv2 := st.v.lt
        have lu2 := st.u.lt
        obtain ⟨⟨y0, y1, y2, y3, y4⟩, y5⟩ := st.u
        obtain ⟨⟨z0, z1, z2, z3, z4⟩, z5⟩ := st.v
        obtain ⟨V2, hV2⟩ : ∃ V2, V2 = put5w w2 w1.heap.size v2 := ⟨_, rfl⟩
        rw [← hV2] at st2
        unfold put5w at hV2
        clear st hvp2
        go_wp2_with fail
        rw [← hV2]
        clear hV2 y0 y1 y2 y3 y4 y5 z0 z1 z2 z3 z4 z5
        refine (refTimes_iv _ S S K b c c st2.vp st2.vp (by omega) st2.vb (by omega)).mono ?_
        rintro r w3 ⟨v3, rfl, hvb3, hvp3, hb3⟩
        replace hvp3 := hvp3.fits (K := K) (mulI_le b) (unhide HG).1 (unhide HG).2
        replace st2 := st2.below hb3
        have HV3 := hide hvb3
        clear hvb3 hb3
        have st3 : RaiSt2 w (put5w w3 w.heap.size v3) w1.heap.size b K v2 v3 (mulI b o c) (mulI b c c) := ⟨st2.u.off (Ne.symm ne5) v3, st2.v.put v3, st2.up.put st2.v.c v3, hvp3.put st2.v.c v3, st2.ub, unhide HV3, st2.no.off (by omega) v3, below_put st2.be (Nat.le_refl _) v3, st2.l5⟩
        unfold put5w at st3
        have lv3 := st2.v.lt
        obtain ⟨⟨z0, z1, z2, z3, z4⟩, z5⟩ := st2.v
        clear st2 hvp3
        go_wp2_with fail
        go_roundw
        case rel =>
          refine ⟨m / 2, v2, v3, mulI b o c, mulI b c c, ?_, by omega, ?_, st3⟩
          · first | exact congrArg _ (unhide HQ) | (congr 1; omega)
          · have := unhide HN
            rw [if_pos (unhide HO)] at this
            exact this
        case measure => have := unhide HQ; simp [intOf]; omega
      · have q2 : ((m : Int)).tmod 2 = 0 := by rw [Int.tmod_eq_emod_of_nonneg (by omega)]; omega
        have q3 : (m : Int) % 2 = 0 := by omega
        have HO := hide hodd
        obtain ⟨⟨z0, z1, z2, z3, z4⟩, z5⟩ := st.v
        clear hodd
        go_wp2_with fail
        refine (refTimes_iv _ S S K b c c st.vp st.vp (by omega) st.vb (by omega)).mono ?_
        rintro r w3 ⟨v3, rfl, hvb3, hvp3, hb3⟩
        replace hvp3 := hvp3.fits (K := K) (mulI_le b) (unhide HG).1 (unhide HG).2
        replace st := st.below hb3
        have HV3 := hide hvb3
        clear hvb3 hb3 z0 z1 z2 z3 z4 z5
        have ne5 : w.heap.size ≠ w1.heap.size := by have := st.l5; omega
        have st3 : RaiSt2 w (put5w w3 w.heap.size v3) w1.heap.size b K O v3 o (mulI b c c) := ⟨st.u.off (Ne.symm ne5) v3, st.v.put v3, st.up.put st.v.c v3, hvp3.put st.v.c v3, st.ub, unhide HV3, st.no.off (by omega) v3, below_put st.be (Nat.le_refl _) v3, st.l5⟩
        unfold put5w at st3
        have lv3 := st.v.lt
        obtain ⟨⟨z0, z1, z2, z3, z4⟩, z5⟩ := st.v
        clear st hvp3
        go_wp2_with fail
        go_roundw
        case rel =>
          refine ⟨m / 2, O, v3, o, mulI b c c, ?_, by omega, ?_, st3⟩
          · first | exact congrArg _ (unhide HQ) | (congr 1; omega)
          · have := unhide HN
            rw [if_neg (unhide HO)] at this
            exact this
        case measure => have := unhide HQ; simp [intOf]; omega
    · have hm0 : m = 0 := by omega
      subst hm0
      have lu := st.u.lt
      obtain ⟨⟨y0, y1, y2, y3, y4⟩, y5⟩ := st.u
      obtain ⟨q0, q1, q2, q3, q4, q5⟩ := st.no
      have hub := hide st.ub
      go_wp2_with fail
      refine bodyPost_ret (v := .agg #[.bool O.ln, .slice O.la O.lN O.lc, .bool O.hn, .slice O.ha O.hN O.hc, .int .i64 O.bits]) (by simp [results, Try.results102, go_sem, q0, q1, q2, q3, q4]) rfl ⟨o, c, unhide HInv, O, rfl, unhide hub, ?_, ?_⟩
      · exact SpAt.put5 st.up q0 q1 q2 q3 q4 _ _ _ _ _
      · exact set5 st.be (Nat.le_succ _) _ _ _ _ _
end Go.Proofs.Ytgmnknmjainabab
namespace Go.Proofs.Ytgmnknmjainabab
open Go.RowKit
attribute [local go_sem ↓] Go.wp_at_zero Go.wp_at_succ
theorem Tp_le {d : Nat → Int} (hd : Dgs d) (j n : Nat) (h : j ≤ n) : Tp d j n ≤ V d n := by
  have e := V_split d j (n - j)
  rw [show j + (n - j) = n by omega] at e
  have h1 := V_nonneg hd j
  have h2 := Tp_nonneg hd j n
  have h3 := P_pos j
  have h4 : Tp d j n ≤ P j * Tp d j n := by
    have := Int.mul_le_mul_of_nonneg_right h3 h2
    omega
  unfold Tp at *
  omega
set_option maxRecDepth 100000 in
set_option maxHeartbeats 4000000 in
theorem refExp_pos (w : World) (x : Nm) (k B K n : Nat) (X : Int) (hx : IntAt w x.neg x.a x.n x.cap k X) (h0 : 0 ≤ X) (hXn : X / Q B = (n : Int)) (hn : n ≤ 40000) (hB : 20 ≤ B) (hB2 : B ≤ 50000) (hK : Q (B + 40 + 4 * (2 * n + 1) + 20) < P K) (hK2 : K ≤ 1000000) (hkK : k ≤ K) (hK3 : (B + 40) / 16 + 30 ≤ K) :
    Calls Try.prog 63 #[.agg #[.bool x.neg, .slice x.a x.n x.cap], .int .i64 B] w (fun r w' => ∃ o : Int × Int, Iv B o (Ex.Ev (fun _ => (X : Rat) / (Q B : Rat))) ∧ o.1 ≤ o.2 ∧ Q B - 1 ≤ o.1 ∧ o.2 < P K ∧ SpanAns w B K o.1 o.2 r w') := by
  obtain ⟨W, hW⟩ : ∃ W, W = (w.alloc (.cells #[.bool x.neg, .slice x.a x.n x.cap] 26)).alloc (.cells #[.bool false, .slice none 0 0, .bool false, .slice none 0 0, .int .i64 0] 36) := ⟨_, rfl⟩
  have hBW : Below w.heap.size w W := by rw [hW]; exact bl2 _ _ _
  have A : NmC W w.heap.size x := by rw [hW]; exact ⟨by simp [go_sem], by simp [go_sem]⟩
  have R : NoC W (w.heap.size + 1) := by rw [hW]; exact ⟨by simp [go_sem], by simp [go_sem], by simp [go_sem], by simp [go_sem], by simp [go_sem], fun o => by simp [go_sem]⟩
  have HX := hide ((hx.below hBW).mono hkK)
  have lA := A.lt
  have lR := R.lt
  have hs0 : ¬ cmpInt X 0 < 0 := by unfold cmpInt; rw [if_neg (by omega)]; split <;> omega
  have HXN := hide hXn
  clear hx hXn
  go_enter Try.func63, Try.ntmps63
  go_wp2_with fail
  rw [← hW]
  clear hW
  refine (sign_int _ _ _ _ _ X _ (unhide HX)).mono ?_
  rintro r w1 ⟨rfl, hb1⟩
  replace A := A.below hb1
  replace R := R.below hb1
  replace hBW := bthen hBW hb1
  replace HX := hide ((unhide HX).below hb1)
  have lA1 := A.lt
  clear hb1
  have x0 := A.c0
  have x1 := A.c1
  go_wp2_with fail
  refine (down_int _ _ _ _ B K X _ (unhide HX) (by omega) (by omega)).mono ?_
  rintro r w2 ⟨neg2, a2, n2, c2, rfl, hint2, hb2⟩
  rw [unhide HXN] at hint2
  replace A := A.below hb2
  replace R := R.below hb2
  replace hBW := bthen hBW hb2
  replace HX := hide ((unhide HX).below hb2)
  have lR2 := R.lt
  clear hb2 x0 x1 hs0
  have HI2 := hide hint2
  obtain ⟨d, dg, dtop, dneg, dk, dz⟩ := hint2
  have hV : V d n2 = (n : Int) := by
    have hv := V_nonneg dg.dgs n2
    cases neg2
    · simp [sgn] at dz; omega
    · simp [sgn] at dz; omega
  obtain ⟨V2, hV2⟩ : ∃ V2, V2 = w2.alloc (.cells #[.bool neg2, .slice a2 n2 c2] 26) := ⟨_, rfl⟩
  have bV2 : Below w2.heap.size w2 V2 := by rw [hV2]; exact bl1 _ _
  have D2 : NmC V2 w2.heap.size ⟨neg2, a2, n2, c2⟩ := by rw [hV2]; exact nmc_new w2 ⟨neg2, a2, n2, c2⟩ _
  have dg2 := dg.below bV2
  have HDG := hide dg2
  replace A := A.below bV2
  replace R := R.below bV2
  replace hBW := bthen hBW bV2
  replace HX := hide ((unhide HX).below bV2)
  replace HI2 := hide ((unhide HI2).below bV2)
  have hdgs := hide dg.dgs
  have hroom := dg.room
  have HV := hide hV
  have lD := D2.lt
  have HD2 := hide D2
  have d0' := D2.c0
  have d1' := D2.c1
  clear dg dg2 dtop dneg dk dz hV bV2 D2
  go_wp2_with fail
  rw [← hV2]
  clear hV2
  go_loop [6, 7] (fun nn ii => ∃ j : Nat, nn = .int .i64 (Tp d j n2) ∧ ii = .int .i64 ((j : Int) - 1) ∧ j ≤ n2) (fun _ ii => (intOf ii + 1).toNat)
  case atStart => exact ⟨n2, by rw [Tp_top], rfl, Nat.le_refl _⟩
  case round =>
    obtain ⟨j, rfl, rfl, hj⟩ := hrel
    by_cases hj0 : 0 < j
    · obtain ⟨m, rfl⟩ : ∃ m, j = m + 1 := ⟨j - 1, by omega⟩
      have em : (((m + 1 : Nat) : Int) - 1) = (m : Int) := by omega
      rw [em]
      obtain ⟨bb, off, ha, hlt, hcell⟩ := (unhide HDG).at_ (by omega)
      have hc := hcell m (by omega)
      have hm2 : (m : Int) < (n2 : Int) := by omega
      have t1 := Tp_nonneg (unhide hdgs) (m + 1) n2
      have t2 := Tp_le (unhide hdgs) (m + 1) n2 (by omega)
      have t3 := unhide HV
      obtain ⟨g1, g2⟩ := unhide hdgs m
      have t4 := Tp_step d m n2 (by omega)
      have HT4 := hide t4
      have t5 : Tp d (m + 1) n2 ≤ 40000 := by omega
      subst ha
      clear hcell em t2 t3 t4
      go_wp2_with fail
      go_round
      case rel =>
        refine ⟨m, ?_, ?_, by omega⟩
        · rw [unhide HT4, Int.add_comm]
        · rfl
      case measure => simp [intOf]
    · have hj1 : j = 0 := by omega
      subst hj1
      rw [Tp_zero, unhide HV]
      have lA3 := A.lt
      have lR3 := R.lt
      clear d0' d1' hj hj0
      have hQK : Q (B + 40 + 20) < P K := Int.lt_of_le_of_lt (Q_mono (by omega)) hK
      have hq40 := Q_pos (B + 40)
      obtain ⟨N1, n11, n12⟩ := low_stop (b := B + 40) (X := Q (B + 40)) (by omega) (Int.le_refl _)
      have hE0 := einv_start (n := n) (by omega) n12
      have hbox := low_box (by omega) (by omega) (Int.le_refl _) n12
      have hfit1 : -P K < (doneT (expT (B + 40) (Q (B + 40), Q (B + 40))) N1).1 ∧ (doneT (expT (B + 40) (Q (B + 40), Q (B + 40))) N1).2 < P K := by
        have h2 := Q_mono (show B + 40 + 2 ≤ B + 40 + 20 by omega)
        have := hbox.1
        have := hbox.2.2.2
        omega
      have HST := hide n12
      have HE0 := hide hE0
      have HF1 := hide hfit1
      have HLE1 := hide (doneT_le (expT_le (B + 40) (Q (B + 40), Q (B + 40))) N1)
      clear n12 hE0 hbox hfit1
      go_wp2_with fail
      rw [show ((B : Int) + 40) = ((B + 40 : Nat) : Int) by omega]
      refine (power2_int (B + 40) _ (by omega)).mono ?_
      rintro r w3 ⟨neg3, a3, n3, c3, rfl, hint3, hb3⟩
      replace A := A.below hb3
      replace R := R.below hb3
      replace hBW := bthen hBW hb3
      replace HX := hide ((unhide HX).below hb3)
      replace HI2 := hide ((unhide HI2).below hb3)
      replace HD2 := hide ((unhide HD2).below hb3)
      clear hb3
      go_wp2_with fail
      refine (lowExp_iv _ ⟨neg3, a3, n3, c3⟩ _ (B + 40) N1 K (Q (B + 40)) hint3 (by omega) (by omega) (Int.le_refl _) (by omega) (unhide HST) n11 hQK (by omega) (by omega)).mono ?_
      rintro r w4 ⟨v4, rfl, hvb4, hvp4, hb4⟩
      replace hvp4 := hvp4.fits (K := K) (unhide HLE1) (unhide HF1).1 (unhide HF1).2
      replace A := A.below hb4
      replace R := R.below hb4
      replace hBW := bthen hBW hb4
      replace HX := hide ((unhide HX).below hb4)
      replace HI2 := hide ((unhide HI2).below hb4)
      replace HD2 := hide ((unhide HD2).below hb4)
      have HV4 := hide hvb4
      clear hb4 hvb4 hint3
      go_wp2_with fail
      refine (refRaised_iv _ v4 (B + 40) K n _ (EInv (B + 40) n) hvp4 (unhide HV4) (by omega) (by omega) (by omega) (by omega) (unhide HE0) (fun m o c hm hI => ?_)).mono ?_
      · obtain ⟨g1, g2, g3⟩ := einv_step (by omega) hn hm hI
        have h2 := Q_mono (show B + 40 + 4 * (2 * n + 1) ≤ B + 40 + 4 * (2 * n + 1) + 20 by omega)
        have h3 := Q_mono (show B + 40 + 2 * n ≤ B + 40 + 4 * (2 * n + 1) + 20 by omega)
        have := g2.1
        have := g2.2.2.2
        refine ⟨g1, ?_, by omega, by omega⟩
        by_cases hodd : m % 2 = 1
        · have g4 := g3 hodd
          have := g4.1
          have := g4.2.2.2
          exact Or.inl ⟨by omega, by omega⟩
        · exact Or.inr hodd
      rintro r we ⟨oe, ce, hEI, ve, rfl, hveb, hvep, hb5⟩
      obtain ⟨i1, i2, i3, i4⟩ := einv_end hEI
      have HI := hide (And.intro i1 (And.intro i2 (And.intro i3 i4)))
      have HVE := hide hveb
      replace A := A.below hb5
      replace R := R.below hb5
      replace hBW := bthen hBW hb5
      replace HX := hide ((unhide HX).below hb5)
      replace HI2 := hide ((unhide HI2).below hb5)
      replace HD2 := hide ((unhide HD2).below hb5)
      have lA5 := A.lt
      have lR5 := R.lt
      have lD5 := (unhide HD2).lt
      clear hb5 hveb hEI i1 i2 i3 i4 hvp4
      obtain ⟨Ve, hVe⟩ : ∃ Ve, Ve = we.alloc (.cells #[.bool ve.ln, .slice ve.la ve.lN ve.lc, .bool ve.hn, .slice ve.ha ve.hN ve.hc, .int .i64 ve.bits] 36) := ⟨_, rfl⟩
      have bVe : Below we.heap.size we Ve := by rw [hVe]; exact bl1 _ _
      have E5 : SpC Ve we.heap.size ve := by rw [hVe]; exact spc_new we ve _
      replace A := A.below bVe
      replace R := R.below bVe
      replace hBW := bthen hBW bVe
      replace HX := hide ((unhide HX).below bVe)
      replace HI2 := hide ((unhide HI2).below bVe)
      have D5 := (unhide HD2).below bVe
      have HVEP := hide (hvep.below bVe)
      clear bVe HD2 hvep
      have HK := hide (show ∀ w', Below Ve.heap.size Ve w' → (w'.cell? ⟨we.heap.size, 0, none⟩ = some (.bool ve.ln) ∧ w'.cell? ⟨we.heap.size, 1, none⟩ = some (.slice ve.la ve.lN ve.lc) ∧ w'.cell? ⟨we.heap.size, 2, none⟩ = some (.bool ve.hn) ∧ w'.cell? ⟨we.heap.size, 3, none⟩ = some (.slice ve.ha ve.hN ve.hc) ∧ w'.cell? ⟨we.heap.size, 4, none⟩ = some (.int .i64 ve.bits) ∧ w'.cell? ⟨w.heap.size, 0, none⟩ = some (.bool x.neg) ∧ w'.cell? ⟨w.heap.size, 1, none⟩ = some (.slice x.a x.n x.cap) ∧ w'.cell? ⟨w2.heap.size, 0, none⟩ = some (.bool neg2) ∧ w'.cell? ⟨w2.heap.size, 1, none⟩ = some (.slice a2 n2 c2)) from fun w' hB => ⟨(E5.below hB).c0, (E5.below hB).c1, (E5.below hB).c2, (E5.below hB).c3, (E5.below hB).c4, (A.below hB).c0, (A.below hB).c1, (D5.below hB).c0, (D5.below hB).c1⟩)
      have lE := E5.lt
      have hQB := Q_pos B
      have hmod : X - n * Q B = X % Q B := by
        have h1 := Int.emod_add_mul_ediv X (Q B)
        rw [unhide HXN] at h1
        rw [Int.mul_comm (n : Int)]
        omega
      have hY0 : 0 ≤ (X - n * Q B) * Q 40 := by
        rw [hmod]; exact Int.mul_nonneg (Int.emod_nonneg _ (by omega)) (by have := Q_pos 40; omega)
      have hY1 : (X - n * Q B) * Q 40 ≤ Q (B + 40) := by
        rw [hmod, Q_add]
        exact Int.mul_le_mul_of_nonneg_right (by have := Int.emod_lt_of_pos X (show 0 < Q B by omega); omega) (by have := Q_pos 40; omega)
      obtain ⟨N2, n21, n22⟩ := low_stop hY0 hY1
      have hR := expR_has hB (unhide HXN) h0 hn (unhide HI).1 (unhide HI).2.1 (unhide HI).2.2.1 (unhide HI).2.2.2 n22 hY0 hY1
      have hbox2 := low_box (by omega) hY0 hY1 n22
      have hle2 := doneT_le (expT_le (B + 40) ((X - n * Q B) * Q 40, (X - n * Q B) * Q 40)) N2
      have HST2 := hide n22
      have HR := hide hR
      have HF2 := hide (show -P K < (doneT (expT (B + 40) ((X - n * Q B) * Q 40, (X - n * Q B) * Q 40)) N2).1 ∧ (doneT (expT (B + 40) ((X - n * Q B) * Q 40, (X - n * Q B) * Q 40)) N2).2 < P K by
        have h2 := Q_mono (show B + 40 + 2 ≤ B + 40 + 20 by omega)
        have := hbox2.1
        have := hbox2.2.2.2
        omega)
      have HLE2 := hide hle2
      have HY := hide (And.intro hY0 hY1)
      clear n22 hR hbox2 hle2 hmod hY0 hY1
      obtain ⟨p, hp⟩ : ∃ p, p = mulI (B + 40) oe (doneT (expT (B + 40) ((X - n * Q B) * Q 40, (X - n * Q B) * Q 40)) N2) := ⟨_, rfl⟩
      have HP := hide hp
      have HRP : Hid (Iv B (downI p 40) (Ex.Ev (fun _ => (X : Rat) / (Q B : Rat))) ∧ Abs p (Q (B + 40 + 2 * (n + 1))) ∧ p.1 ≤ p.2 ∧ Q B - 1 ≤ (downI p 40).1) := hide (by rw [hp]; exact unhide HR)
      clear hp HR
      go_wp2_with fail
      rw [← hVe]
      clear hVe
      obtain ⟨x0, x1, x2, x3, x4, x5, x6, x7, x8⟩ := unhide HK _ (Below.refl _ _)
      have hD0 : Below Ve.heap.size Ve Ve.drew := (Below.refl _ _).drew
      have m1 : w.heap.size + 1 ≠ we.heap.size := by omega
      have m2 : w.heap.size + 1 ≠ w.heap.size := by omega
      have m3 : w.heap.size + 1 ≠ w2.heap.size := by omega
      have m4 : we.heap.size ≠ w.heap.size + 1 := by omega
      have m5 : w.heap.size ≠ w.heap.size + 1 := by omega
      have m6 : w2.heap.size ≠ w.heap.size + 1 := by omega
      have eBB : ((B + 40 : Nat) : Int) - (B : Int) = ((40 : Nat) : Int) := by omega
      have HBB := hide eBB
      clear eBB
      go_region_held3 (fun w' => w'.cell? ⟨we.heap.size, 0, none⟩ = some (.bool ve.ln) ∧ w'.cell? ⟨we.heap.size, 1, none⟩ = some (.slice ve.la ve.lN ve.lc) ∧ w'.cell? ⟨we.heap.size, 2, none⟩ = some (.bool ve.hn) ∧ w'.cell? ⟨we.heap.size, 3, none⟩ = some (.slice ve.ha ve.hN ve.hc) ∧ w'.cell? ⟨we.heap.size, 4, none⟩ = some (.int .i64 ve.bits) ∧ w'.cell? ⟨w.heap.size, 0, none⟩ = some (.bool x.neg) ∧ w'.cell? ⟨w.heap.size, 1, none⟩ = some (.slice x.a x.n x.cap) ∧ w'.cell? ⟨w2.heap.size, 0, none⟩ = some (.bool neg2) ∧ w'.cell? ⟨w2.heap.size, 1, none⟩ = some (.slice a2 n2 c2)) (first | exact unhide HK _ (by first | with_reducible exact hD0 | with_reducible exact hD8 | with_reducible exact hD7 | with_reducible exact hD6 | with_reducible exact hD5 | with_reducible exact hD4 | with_reducible exact hD3 | with_reducible exact hD2 | with_reducible exact hD1) | go_keep)
        (first
          | (go_at_call 58; have hq := hD7; refine (refTurn_int _ v17 (K + K + 8) B p.1 p.2 (by rw [unhide HP]; exact hvp17) (by omega) (by have := unhide HV17; omega) (by have := unhide HV17; omega) (by omega) (by omega)).mono ?_; rintro r' w18 ⟨v18, rfl, hvb18, hvp18, hb18⟩; have hD8 := bthen hD7 hb18; rw [unhide HV17, unhide HBB, downZ_nat, downZ_nat] at hvp18; have HV18 := hide hvb18; clear hvb18; obtain ⟨q0, q1, q2, q3, q4, q5⟩ := R.below hD8; obtain ⟨y0, y1, y2, y3, y4, y5, y6, y7, y8⟩ := unhide HK _ hD8)
          | (go_at_call 104; have hq := hD6; refine (refTimes_iv _ ve v16 K (B + 40) oe _ ((unhide HVEP).below hD6) hvp16 (by omega) (unhide HVE) (by omega)).mono ?_; rintro r' w17 ⟨v17, rfl, hvb17, hvp17, hb17⟩; have hD7 := bthen hD6 hb17; have HV17 := hide hvb17; clear hvb17)
          | (go_at_call 103; have hq := hD5; refine (lowExp_iv _ ⟨neg15, a15, n15, c15⟩ _ (B + 40) N2 K ((X - n * Q B) * Q 40) (hint15.fits (K := K) (by have := (unhide HY).1; have := P_pos K; omega) (Int.lt_of_le_of_lt (unhide HY).2 (Int.lt_of_le_of_lt (Q_mono (by omega)) hQK))) (Nat.le_refl _) (unhide HY).1 (unhide HY).2 (by omega) (unhide HST2) n21 hQK (by omega) (by omega)).mono ?_; rintro r' w16 ⟨v16, rfl, hvb16, hvp16, hb16⟩; replace hvp16 := hvp16.fits (K := K) (unhide HLE2) (unhide HF2).1 (unhide HF2).2; have hD6 := bthen hD5 hb16; have HV16 := hide hvb16; clear hvb16)
          | (go_at_call 84; have hq := hD4; refine (mul_int _ _ _ _ _ _ _ _ (K + (K + 5 + (B / 16 + 5)) + 5) 7 (X - n * Q B) (Q 40) _ ((hint13.below hb14).mono (by omega)) hint14 (by omega) (by omega)).mono ?_; rintro r' w15 ⟨neg15, a15, n15, c15, rfl, hint15, hb15⟩; have hD5 := bthen hD4 hb15)
          | (go_at_call 85; have hq := hD3; refine (power2_int 40 _ (by omega)).mono ?_; rintro r' w14 ⟨neg14, a14, n14, c14, rfl, hint14, hb14⟩; have hD4 := bthen hD3 hb14)
          | (go_at_call 53; have hq := hD2; refine (sub_int _ _ _ _ _ _ _ _ K (K + 5 + (B / 16 + 5)) X (n * Q B) _ ((unhide HX).below hD2) hint12 (by omega) (by omega)).mono ?_; rintro r' w13 ⟨neg13, a13, n13, c13, rfl, hint13, hb13⟩; have hD3 := bthen hD2 hb13)
          | (go_at_call 84; have hq := hD1; refine (mul_int _ _ _ _ _ _ _ _ (K + 5) (B / 16 + 5) n (Q B) _ ((unhide HI2).below hD1) hint11 (by omega) (by omega)).mono ?_; rintro r' w12 ⟨neg12, a12, n12, c12, rfl, hint12, hb12⟩; have hD2 := bthen hD1 hb12)
          | (go_at_call 85; refine (power2_int B _ (by omega)).mono ?_; rintro r' w11 ⟨neg11, a11, n11', c11, rfl, hint11, hb11⟩; have hD1 := bthen hD0 hb11))
      all_goals
        obtain ⟨z1, z2, z3, z4⟩ := unhide HRP
        have hzd : Abs (downI p 40) (Q (B + 2 * (n + 1))) := by
          obtain ⟨k1, k2, k3, k4⟩ := z2
          have e : Q (B + 40 + 2 * (n + 1)) = Q (B + 2 * (n + 1)) * Q 40 := by rw [← Q_add]; congr 1; omega
          rw [e] at k1 k2 k3 k4
          have r1 := round_abs (q := Q 40) (by have := Q_pos 40; omega) k1 k2
          have r2 := round_abs (q := Q 40) (by have := Q_pos 40; omega) k3 k4
          exact ⟨r1.1, r1.2.1, r2.2.2.1, r2.2.2.2⟩
        have hzP : Q (B + 2 * (n + 1)) < P K := Int.lt_of_le_of_lt (Q_mono (by omega)) hK
        have hzle : (downI p 40).1 ≤ (downI p 40).2 := by
          have := scaleI_le (a := p) (n := 1) (d := Q 40) z3 (by have := Q_pos 40; omega) (by omega)
          simpa [scaleI, downI] using this
        have e1 : p.1 / Q 40 = (downI p 40).1 := rfl
        have e2 : -(-p.2 / Q 40) = (downI p 40).2 := rfl
        rw [e1, e2] at hvp18
        replace hvp18 := hvp18.fits (K := K) hzle (by have := hzd.1; omega) (by have := hzd.2.2.2; omega)
        have HZ := hide (And.intro z1 (And.intro hzle (And.intro z4 (show (downI p 40).2 < P K by have := hzd.2.2.2; omega))))
        clear z1 z2 z3 z4 hzd hzP hzle e1 e2
        go_wp2_with fail
        refine bodyPost_ret (v := .agg #[.bool v18.ln, .slice v18.la v18.lN v18.lc, .bool v18.hn, .slice v18.ha v18.hN v18.hc, .int .i64 v18.bits]) (by simp [results, Try.results63, go_sem, q0, q1, q2, q3, q4]) rfl ⟨downI p 40, (unhide HZ).1, (unhide HZ).2.1, (unhide HZ).2.2.1, (unhide HZ).2.2.2, v18, rfl, unhide HV18, ?_, ?_⟩
        · exact SpAt.put5 hvp18 q0 q1 q2 q3 q4 _ _ _ _ _
        · exact set5 (bthen hBW hD8) (Nat.le_succ _) _ _ _ _ _
end Go.Proofs.Ytgmnknmjainabab
namespace Go.Proofs.Ytgmnknmjainabab
open Go.RowKit
attribute [local go_sem ↓] Go.wp_at_zero Go.wp_at_succ
theorem over_one {B : Nat} {o : Int × Int} (h1 : 0 < o.1) (h2 : o.1 ≤ o.2) : dvLo (Q B) (Q B) o.1 o.2 B = Q B * Q B / o.2 ∧ dvHi (Q B) (Q B) o.1 o.2 B = -(-(Q B * Q B) / o.1) := by
  have q := Q_pos B
  have p := Int.mul_nonneg (show 0 ≤ Q B by omega) (show 0 ≤ Q B by omega)
  unfold dvLo dvHi ovLo ovHi
  rw [if_neg (by omega), if_neg (by omega), if_neg (by omega), if_neg (by omega)]
  exact ⟨rfl, rfl⟩
theorem over_fit {B : Nat} {o : Int × Int} (hB : 20 ≤ B) (h1 : Q B - 1 ≤ o.1) (h2 : o.1 ≤ o.2) : 0 ≤ Q B * Q B / o.2 ∧ Q B * Q B / o.2 ≤ -(-(Q B * Q B) / o.1) ∧ -(-(Q B * Q B) / o.1) ≤ Q B + 2 ∧ Q B * Q B / o.2 * o.2 ≤ Q B * Q B ∧ Q B * Q B ≤ -(-(Q B * Q B) / o.1) * o.1 := by
  have q : 1048576 ≤ Q B := by have := Q_mono hB; have e : Q 20 = 1048576 := rfl; omega
  have p := Int.mul_nonneg (show 0 ≤ Q B by omega) (show 0 ≤ Q B by omega)
  have a1 := flo_le (Q B * Q B) o.2 (by omega)
  have a2 := ceil_ge (Q B * Q B) o.1 (by omega)
  have a3 : 0 ≤ Q B * Q B / o.2 := Int.ediv_nonneg p (by omega)
  have a4 := (round_abs (x := Q B * Q B) (m := Q B + 2) (q := o.1) (by omega) (by have := Int.mul_nonneg (show 0 ≤ Q B + 2 by omega) (show 0 ≤ o.1 by omega); omega) (by
    have := Int.mul_le_mul_of_nonneg_left h1 (show 0 ≤ Q B + 2 by omega)
    grind)).2.2.2
  refine ⟨a3, ?_, a4, a1, a2⟩
  refine Int.not_lt.1 fun hn => ?_
  have h3 := Int.mul_lt_mul_of_pos_right hn (show 0 < o.1 by omega)
  have h4 := Int.mul_le_mul_of_nonneg_left h2 a3
  omega
theorem neg_div_q (X : Int) (B : Nat) : ((-X : Int) : Rat) / (Q B : Rat) = -((X : Rat) / (Q B : Rat)) := by rw [Rat.intCast_neg, Rat.div_def, Rat.div_def, Rat.neg_mul]
set_option maxRecDepth 100000 in
set_option maxHeartbeats 4000000 in
theorem refExp_neg (w : World) (x : Nm) (k B K n : Nat) (X : Int) (hx : IntAt w x.neg x.a x.n x.cap k X) (h0 : X < 0) (hXn : -X / Q B = (n : Int)) (hn : n ≤ 40000) (hB : 20 ≤ B) (hB2 : B ≤ 50000) (hK : Q (B + 40 + 4 * (2 * n + 1) + 20) < P K) (hK2 : K ≤ 1000000) (hkK : k ≤ K) (hK3 : (B + 40) / 16 + 30 ≤ K) :
    Calls Try.prog 63 #[.agg #[.bool x.neg, .slice x.a x.n x.cap], .int .i64 B] w (fun r w' => ∃ o : Int × Int, Iv B o (Ex.Ev (fun _ => (X : Rat) / (Q B : Rat))) ∧ o.1 ≤ o.2 ∧ SpanAns w B K o.1 o.2 r w') := by
  obtain ⟨W, hW⟩ : ∃ W, W = (w.alloc (.cells #[.bool x.neg, .slice x.a x.n x.cap] 26)).alloc (.cells #[.bool false, .slice none 0 0, .bool false, .slice none 0 0, .int .i64 0] 36) := ⟨_, rfl⟩
  have hBW : Below w.heap.size w W := by rw [hW]; exact bl2 _ _ _
  have A : NmC W w.heap.size x := by rw [hW]; exact ⟨by simp [go_sem], by simp [go_sem]⟩
  have R : NoC W (w.heap.size + 1) := by rw [hW]; exact ⟨by simp [go_sem], by simp [go_sem], by simp [go_sem], by simp [go_sem], by simp [go_sem], fun o => by simp [go_sem]⟩
  have HX := hide ((hx.below hBW).mono hkK)
  have hs0 : cmpInt X 0 < 0 := by unfold cmpInt; rw [if_pos h0]; omega
  have HXN := hide hXn
  clear hx hXn
  go_enter Try.func63, Try.ntmps63
  go_wp2_with fail
  rw [← hW]
  clear hW
  refine (sign_int _ _ _ _ _ X _ (unhide HX)).mono ?_
  rintro r w1 ⟨rfl, hb1⟩
  replace A := A.below hb1
  replace R := R.below hb1
  replace hBW := bthen hBW hb1
  replace HX := hide ((unhide HX).below hb1)
  have lA := A.lt
  have lR := R.lt
  have HK := hide (show ∀ w', Below w1.heap.size w1 w' → (w'.cell? ⟨w.heap.size, 0, none⟩ = some (.bool x.neg) ∧ w'.cell? ⟨w.heap.size, 1, none⟩ = some (.slice x.a x.n x.cap)) from fun w' hB => ⟨(A.below hB).c0, (A.below hB).c1⟩)
  clear hb1
  obtain ⟨x0, x1⟩ := unhide HK _ (Below.refl _ _)
  have hD0 : Below w1.heap.size w1 w1.drew := (Below.refl _ _).drew
  have m1 : w.heap.size + 1 ≠ w.heap.size := by omega
  have m2 : w.heap.size ≠ w.heap.size + 1 := by omega
  have hq : 1048576 ≤ Q B := by have := Q_mono hB; have e : Q 20 = 1048576 := rfl; omega
  go_wp2_with fail
  go_region_held3 (fun w' => w'.cell? ⟨w.heap.size, 0, none⟩ = some (.bool x.neg) ∧ w'.cell? ⟨w.heap.size, 1, none⟩ = some (.slice x.a x.n x.cap)) (first | exact unhide HK _ (by first | with_reducible exact hD0 | with_reducible exact hD4 | with_reducible exact hD3 | with_reducible exact hD2 | with_reducible exact hD1) | go_keep)
    (first
      | (go_at_call 101; have hqq := hD3; refine (refOver_any _ v2 v4 K B (Q B) (Q B) o4.1 o4.2 ((((hint2.mono (by omega)).below hb3).below hb4)) hint4 (by omega) (by omega) (unhide HVB2) (by have := (unhide HI4).2.2.1; omega) (unhide HI4).2.1).mono ?_; rintro r' w5 ⟨v5, rfl, hvb5, hvp5, hb5⟩; have hD4 := bthen hD3 hb5; have HV5 := hide hvb5; clear hvb5; obtain ⟨q0, q1, q2, q3, q4, q5⟩ := R.below hD4; obtain ⟨y0, y1⟩ := unhide HK _ hD4)
      | (go_at_call 63; have hqq := hD2; refine (refExp_pos _ ⟨neg3, a3, n3, c3⟩ K B K n (-X) hint3 (by omega) (unhide HXN) hn hB hB2 hK hK2 (Nat.le_refl _) hK3).mono ?_; rintro r' w4 ⟨o4, i1, i2, i3, i4, v4, rfl, hvb4, hint4, hb4⟩; have hD3 := bthen hD2 hb4; have HI4 := hide (And.intro i1 (And.intro i2 (And.intro i3 i4))); have HVB4 := hide hvb4; clear hvb4 i1 i2 i3 i4)
      | (go_at_call 83; have hqq := hD1; refine (neg_int _ _ _ _ K X _ ((unhide HX).below hD1) (by omega)).mono ?_; rintro r' w3 ⟨neg3, a3, n3, c3, rfl, hint3, hb3⟩; have hD2 := bthen hD1 hb3)
      | (go_at_call 17; refine (refWhole _ 1 B (by omega) (by decide) (by decide)).mono ?_; rintro r' w2 ⟨v2, rfl, hvb2, hint2, hb2⟩; rw [Int.one_mul] at hint2; have hD1 := bthen hD0 hb2; have HVB2 := hide hvb2; clear hvb2))
  all_goals
    obtain ⟨i1, i2, i3, i4⟩ := unhide HI4
    obtain ⟨e1, e2⟩ := over_one (B := B) (o := o4) (by omega) i2
    obtain ⟨f1, f2, f3, f4, f5⟩ := over_fit hB i3 i2
    rw [e1, e2] at hvp5
    have hPK : Q B + 2 < P K := by
      have h1 := Q_mono (show B + 1 ≤ B + 40 + 4 * (2 * n + 1) + 20 by omega)
      have h2 : Q (B + 1) = 2 * Q B := rfl
      omega
    replace hvp5 := hvp5.fits (K := K) f2 (by have := P_pos K; omega) (by omega)
    rw [neg_div_q] at i1
    have HO := hide (And.intro (inv_has (x := (X : Rat) / (Q B : Rat)) (by omega) i1 f4 f5) f2)
    clear i1 i2 i3 i4 e1 e2 f1 f2 f3 f4 f5 hPK
    go_wp2_with fail
    refine bodyPost_ret (v := .agg #[.bool v5.ln, .slice v5.la v5.lN v5.lc, .bool v5.hn, .slice v5.ha v5.hN v5.hc, .int .i64 v5.bits]) (by simp [results, Try.results63, go_sem, q0, q1, q2, q3, q4]) rfl ⟨(Q B * Q B / o4.2, -(-(Q B * Q B) / o4.1)), (unhide HO).1, (unhide HO).2, v5, rfl, unhide HV5, ?_, ?_⟩
    · exact SpAt.put5 hvp5 q0 q1 q2 q3 q4 _ _ _ _ _
    · exact set5 (bthen hBW hD4) (Nat.le_succ _) _ _ _ _ _
def wh (X : Int) (B : Nat) : Int := (if 0 ≤ X then X else -X) / Q B
theorem refExp_any (w : World) (x : Nm) (k B K n : Nat) (X : Int) (hx : IntAt w x.neg x.a x.n x.cap k X) (hXn : wh X B ≤ (n : Int)) (hn : n ≤ 40000) (hB : 20 ≤ B) (hB2 : B ≤ 50000) (hK : Q (B + 40 + 4 * (2 * n + 1) + 20) < P K) (hK2 : K ≤ 1000000) (hkK : k ≤ K) (hK3 : (B + 40) / 16 + 30 ≤ K) :
    Calls Try.prog 63 #[.agg #[.bool x.neg, .slice x.a x.n x.cap], .int .i64 B] w (fun r w' => ∃ o : Int × Int, Iv B o (Ex.Ev (fun _ => (X : Rat) / (Q B : Rat))) ∧ o.1 ≤ o.2 ∧ (0 ≤ X → Q B - 1 ≤ o.1) ∧ SpanAns w B K o.1 o.2 r w') := by
  have q := Q_pos B
  have h0 : 0 ≤ wh X B := by unfold wh; split <;> exact Int.ediv_nonneg (by omega) (by omega)
  obtain ⟨m, hm⟩ : ∃ m : Nat, wh X B = (m : Int) := ⟨(wh X B).toNat, by omega⟩
  have hK' : Q (B + 40 + 4 * (2 * m + 1) + 20) < P K := Int.lt_of_le_of_lt (Q_mono (by omega)) hK
  have hmn : m ≤ n := by omega
  by_cases hX : 0 ≤ X
  · unfold wh at hm
    rw [if_pos hX] at hm
    refine (refExp_pos w x k B K m X hx hX hm (by omega) hB hB2 hK' hK2 hkK hK3).mono ?_
    rintro r w' ⟨o, g1, g2, g3, g4, h⟩
    exact ⟨o, g1, g2, fun _ => g3, h⟩
  · unfold wh at hm
    rw [if_neg hX] at hm
    exact (refExp_neg w x k B K m X hx (by omega) hm (by omega) hB hB2 hK' hK2 hkK hK3).mono fun r w' ⟨o, g1, g2, h⟩ => ⟨o, g1, g2, fun h0 => absurd h0 hX, h⟩
theorem fieldS0 (x y : Bool) (a a' : Option Addr) (n c n' c' : Nat) (b : Int) (w : World) : (Instr.field 36 (.agg #[.bool x, .slice a n c, .bool y, .slice a' n' c', .int .i64 b]) 0).run Try.prog w = .ok (.agg #[.bool x, .slice a n c]) w := by kernel_rfl
theorem fieldS1 (x y : Bool) (a a' : Option Addr) (n c n' c' : Nat) (b : Int) (w : World) : (Instr.field 36 (.agg #[.bool x, .slice a n c, .bool y, .slice a' n' c', .int .i64 b]) 1).run Try.prog w = .ok (.agg #[.bool y, .slice a' n' c']) w := by kernel_rfl
set_option maxRecDepth 100000 in
set_option maxHeartbeats 4000000 in
theorem refExpOf_iv (w : World) (s : Sp) (k B K n : Nat) (a : Int × Int) (x : Nat → Rat) (hbx : Ex.Bdd x) (hs : SpAt w s k a.1 a.2) (hbits : s.bits = (B : Int)) (hx : Iv B a x) (h1 : wh a.1 B ≤ (n : Int)) (h2 : wh a.2 B ≤ (n : Int)) (hn : n ≤ 40000) (hB : 20 ≤ B) (hB2 : B ≤ 50000) (hK : Q (B + 40 + 4 * (2 * n + 1) + 20) < P K) (hK2 : K ≤ 1000000) (hkK : k ≤ K) (hK3 : (B + 40) / 16 + 30 ≤ K) :
    Calls Try.prog 28 #[.agg #[.bool s.ln, .slice s.la s.lN s.lc, .bool s.hn, .slice s.ha s.hN s.hc, .int .i64 s.bits]] w (fun r w' => ∃ o : Int × Int, Iv B o (Ex.Ev x) ∧ (0 ≤ a.1 → Q B - 1 ≤ o.1) ∧ SpanAns w B K o.1 o.2 r w') := by
  obtain ⟨W, hW⟩ : ∃ W, W = (w.alloc (.cells #[.bool s.ln, .slice s.la s.lN s.lc, .bool s.hn, .slice s.ha s.hN s.hc, .int .i64 s.bits] 36)).alloc (.cells #[.bool false, .slice none 0 0, .bool false, .slice none 0 0, .int .i64 0] 36) := ⟨_, rfl⟩
  have hBW : Below w.heap.size w W := by rw [hW]; exact bl2 _ _ _
  have A : SpC W w.heap.size s := by rw [hW]; exact ⟨by simp [go_sem], by simp [go_sem], by simp [go_sem], by simp [go_sem], by simp [go_sem]⟩
  have R : NoC W (w.heap.size + 1) := by rw [hW]; exact ⟨by simp [go_sem], by simp [go_sem], by simp [go_sem], by simp [go_sem], by simp [go_sem], fun o => by simp [go_sem]⟩
  have HS := hide (hs.below hBW)
  have HB := hide hbits
  have HXX := hide hx
  have lR := R.lt
  have HK := hide (show ∀ w', Below W.heap.size W w' → (w'.cell? ⟨w.heap.size, 0, none⟩ = some (.bool s.ln) ∧ w'.cell? ⟨w.heap.size, 1, none⟩ = some (.slice s.la s.lN s.lc) ∧ w'.cell? ⟨w.heap.size, 2, none⟩ = some (.bool s.hn) ∧ w'.cell? ⟨w.heap.size, 3, none⟩ = some (.slice s.ha s.hN s.hc) ∧ w'.cell? ⟨w.heap.size, 4, none⟩ = some (.int .i64 s.bits)) from fun w' hB => ⟨(A.below hB).c0, (A.below hB).c1, (A.below hB).c2, (A.below hB).c3, (A.below hB).c4⟩)
  clear A hs hbits hx
  have hf0 := fieldS0
  have hf1 := fieldS1
  go_enter Try.func28, Try.ntmps28
  go_wp2
  rw [← hW]
  clear hW
  have n01 : w.heap.size ≠ w.heap.size + 1 := by omega
  have n10 : w.heap.size + 1 ≠ w.heap.size := by omega
  obtain ⟨x0, x1, x2, x3, x4⟩ := unhide HK _ (Below.refl _ _)
  have hD0 : Below W.heap.size W W.drew := (Below.refl _ _).drew
  go_region_held3 (fun w' => w'.cell? ⟨w.heap.size, 0, none⟩ = some (.bool s.ln) ∧ w'.cell? ⟨w.heap.size, 1, none⟩ = some (.slice s.la s.lN s.lc) ∧ w'.cell? ⟨w.heap.size, 2, none⟩ = some (.bool s.hn) ∧ w'.cell? ⟨w.heap.size, 3, none⟩ = some (.slice s.ha s.hN s.hc) ∧ w'.cell? ⟨w.heap.size, 4, none⟩ = some (.int .i64 s.bits)) (first | exact unhide HK _ (by first | with_reducible exact hD0 | with_reducible exact hD2 | with_reducible exact hD1) | go_keep)
    (first
      | (go_at_call 63; have hqq := hD1; (try rw [unhide HB]); refine (refExp_any _ ⟨s.hn, s.ha, s.hN, s.hc⟩ k B K n a.2 ((unhide HS).hi.below hD1) h2 hn hB hB2 hK hK2 hkK hK3).mono ?_; rintro r' w2 ⟨o2, i2, j2, _, v2, rfl, hvb2, hint2, hb2⟩; have hD2 := bthen hD1 hb2; have HI2 := hide i2; clear i2 hvb2; replace hint1 := hint1.below hb2; obtain ⟨q0, q1, q2, q3, q4, q5⟩ := R.below hD2; obtain ⟨y0, y1, y2, y3, y4⟩ := unhide HK _ hD2)
      | (go_at_call 63; rw [unhide HB]; refine (refExp_any _ ⟨s.ln, s.la, s.lN, s.lc⟩ k B K n a.1 ((unhide HS).lo.below hD0) h1 hn hB hB2 hK hK2 hkK hK3).mono ?_; rintro r' w1 ⟨o1, i1, j1, k1, v1, rfl, hvb1, hint1, hb1⟩; have hD1 := bthen hD0 hb1; have HI1 := hide i1; have HK1 := hide k1; clear k1; clear i1 hvb1))
  all_goals
    have HO := hide (expOf_has2 hbx (unhide HXX) (unhide HI1) (unhide HI2))
    go_wp2_with fail
    refine bodyPost_ret (v := .agg #[.bool v1.ln, .slice v1.la v1.lN v1.lc, .bool v2.hn, .slice v2.ha v2.hN v2.hc, .int .i64 (B : Int)]) (by simp [results, Try.results28, go_sem, q0, q1, q2, q3, q4]) rfl ⟨(o1.1, o2.2), unhide HO, unhide HK1, ⟨v1.ln, v1.la, v1.lN, v1.lc, v2.hn, v2.ha, v2.hN, v2.hc, (B : Int)⟩, rfl, rfl, ?_, ?_⟩
    · exact SpAt.put5 (show SpAt _ (⟨v1.ln, v1.la, v1.lN, v1.lc, v2.hn, v2.ha, v2.hN, v2.hc, (B : Int)⟩ : Sp) K o1.1 o2.2 from ⟨hint1.lo, hint2.hi⟩) q0 q1 q2 q3 q4 _ _ _ _ _
    · exact set5 (bthen hBW hD2) (Nat.le_succ _) _ _ _ _ _
end Go.Proofs.Ytgmnknmjainabab
namespace Go.Proofs.Ytgmnknmjainabab
open Go.RowKit
attribute [local go_sem ↓] Go.wp_at_zero Go.wp_at_succ
theorem refWhole_z {b : Nat} (z : Int) (hz : z = (b : Int)) (w : World) (n : Int) (hb : b ≤ 100000) (h0 : -9223372036854775808 ≤ n) (h1 : n ≤ 9223372036854775807) :
    Calls Try.prog 17 #[.int .i64 n, .int .i64 z] w (SpanAns w b (b / 16 + 18) (n * Q b) (n * Q b)) := by
  subst hz; exact refWhole w n b hb h0 h1
theorem VrC.offv {w : World} {B B' : Nat} {s : Sp} (h : VrC w B s) (hne : B ≠ B') (y : Nm) : VrC (put2w w B' y) B s := by
  obtain ⟨⟨q0, q1, q2, q3, q4⟩, q5⟩ := h
  exact ⟨⟨by simp [go_sem, q0, hne, Ne.symm hne], by simp [go_sem, q1, hne, Ne.symm hne], by simp [go_sem, q2, hne, Ne.symm hne], by simp [go_sem, q3, hne, Ne.symm hne], by simp [go_sem, q4, hne, Ne.symm hne]⟩, fun o => by rw [frozen_set', frozen_set']; exact q5 o⟩
structure ClSt (w wr : World) (B C : Nat) (ss xx yy : Sp) (K b : Nat) (lo hi : Int) : Prop where
  s : VrC wr w.heap.size ss
  x : VrC wr B xx
  y : VrC wr C yy
  ps : SpAt wr ss K lo hi
  px : SpAt wr xx K 0 0
  py : SpAt wr yy K (Q b) (Q b)
  no : NoC wr (w.heap.size + 1)
  be : Below w.heap.size w wr
  l : w.heap.size + 1 < B
  l' : w.heap.size + 1 < C
theorem ClSt.below {w wr wr' : World} {B C : Nat} {s x y : Sp} {K b : Nat} {lo hi : Int} (h : ClSt w wr B C s x y K b lo hi) (hb : Below wr.heap.size wr wr') : ClSt w wr' B C s x y K b lo hi :=
  ⟨h.s.below hb, h.x.below hb, h.y.below hb, h.ps.below hb, h.px.below hb, h.py.below hb, h.no.below hb, bthen h.be hb, h.l, h.l'⟩
end Go.Proofs.Ytgmnknmjainabab
namespace Go.Proofs.Ytgmnknmjainabab
open Go.RowKit
attribute [local go_sem ↓] Go.wp_at_zero Go.wp_at_succ
structure PiSt (w wr : World) (B4 B5 m K : Nat) (U Sm : Sp) (f : Nat → Int × Int) (i : Nat) : Prop where
  y : VrC wr B4 U
  s : VrC wr B5 Sm
  yp : SpAt wr U K (f i).1 (f i).2
  sp : SpAt wr Sm K (sumI f i).1 (sumI f i).2
  yb : U.bits = (m : Int)
  sb : Sm.bits = (m : Int)
  no : NoC wr w.heap.size
  be : Below w.heap.size w wr
  l4 : w.heap.size < B4
  l5 : w.heap.size < B5
  ne : B4 ≠ B5
theorem PiSt.below {w wr wr' : World} {B4 B5 m K : Nat} {U Sm : Sp} {f : Nat → Int × Int} {i : Nat} (h : PiSt w wr B4 B5 m K U Sm f i) (hb : Below wr.heap.size wr wr') : PiSt w wr' B4 B5 m K U Sm f i :=
  ⟨h.y.below hb, h.s.below hb, h.yp.below hb, h.sp.below hb, h.yb, h.sb, h.no.below hb, bthen h.be hb, h.l4, h.l5, h.ne⟩
end Go.Proofs.Ytgmnknmjainabab
namespace Go.Proofs.Ytgmnknmjainabab.Ex
def vT (x : Rat) (n : Nat) : Rat := x * tm (x * x) n / (2 * (n : Rat) + 1)
end Go.Proofs.Ytgmnknmjainabab.Ex
namespace Go.Proofs.Ytgmnknmjainabab
open Go.RowKit
attribute [local go_sem ↓] Go.wp_at_zero Go.wp_at_succ
theorem NoI.put2 {w : World} {B B' : Nat} (h : NoI w B) (hne : B ≠ B') (u0 u1 : Value) : NoI ((w.setCell ⟨B', 0, none⟩ u0).setCell ⟨B', 1, none⟩ u1) B := by
  obtain ⟨q0, q1, q2⟩ := h
  exact ⟨cell_put2 q0 hne _ _, cell_put2 q1 hne _ _, fun o => by rw [frozen_set', frozen_set']; exact q2 o⟩
structure RDs (w wr : World) (BL BH : Nat) (X Y : Nm) (neg : Bool) (a : Option Addr) (n cap k : Nat) (x zl zh : Int) : Prop where
  hX : NmC wr BL X
  hY : NmC wr BH Y
  fL : ∀ o, wr.frozen? ⟨BL, o, none⟩ = false
  fH : ∀ o, wr.frozen? ⟨BH, o, none⟩ = false
  hl : IntAt wr X.neg X.a X.n X.cap (k + 2) zl
  hh : IntAt wr Y.neg Y.a Y.n Y.cap (k + 2) zh
  A : NmC wr w.heap.size ⟨neg, a, n, cap⟩
  R : NoI wr (w.heap.size + 1)
  hx : IntAt wr neg a n cap k x
  hB : Below w.heap.size w wr
theorem RDs.below {w wr w' : World} {BL BH : Nat} {X Y : Nm} {neg : Bool} {a : Option Addr} {n cap k : Nat} {x zl zh : Int} (h : RDs w wr BL BH X Y neg a n cap k x zl zh) (hb : Below wr.heap.size wr w') : RDs w w' BL BH X Y neg a n cap k x zl zh :=
  ⟨h.hX.below hb, h.hY.below hb, fun o => (hb.frozen (p := ⟨BL, o, none⟩) h.hX.lt).trans (h.fL o), fun o => (hb.frozen (p := ⟨BH, o, none⟩) h.hY.lt).trans (h.fH o), h.hl.below hb, h.hh.below hb, h.A.below hb, h.R.below hb, h.hx.below hb, bthen h.hB hb⟩
end Go.Proofs.Ytgmnknmjainabab
namespace Go.Proofs.Ytgmnknmjainabab
open Go.RowKit
attribute [local go_sem ↓] Go.wp_at_zero Go.wp_at_succ
theorem power2_z {e : Nat} (z : Int) (hz : z = (e : Int)) (w : World) (hk : e ≤ 1000000000) : Calls Try.prog 85 #[.int .i64 z] w fun r w' =>
      ∃ neg' a' n' cap', r = .returned (.agg #[.bool neg', .slice a' n' cap']) ∧ IntAt w' neg' a' n' cap' (e / 16 + 8) (Q e) ∧ Below w.heap.size w w' := by
  subst hz
  exact (power2_int e w hk).mono fun r w' ⟨q1, q2, q3, q4, h1, h2, h3⟩ => ⟨q1, q2, q3, q4, h1, h2.mono (by omega), h3⟩
theorem refScaled_z (z : Int) (w : World) (s : Sp) (x : Nm) (k k1 e b : Nat) (hz : z = (e : Int)) (a : Int × Int) (n : Int) (hs : SpAt w s k a.1 a.2) (hx : IntAt w x.neg x.a x.n x.cap k1 n) (hle : a.1 ≤ a.2) (hn : 0 ≤ n) (hk : k ≤ 100000000) (hk1 : k1 ≤ 100000000) (he : e ≤ 1000000) (hbits : s.bits = (b : Int)) :
    Calls Try.prog 140 #[.agg #[.bool s.ln, .slice s.la s.lN s.lc, .bool s.hn, .slice s.ha s.hN s.hc, .int .i64 s.bits], .agg #[.bool x.neg, .slice x.a x.n x.cap], .int .i64 z] w (SpanAns w b (k + k1 + 30) (scaleI a n (Q e)).1 (scaleI a n (Q e)).2) := by
  subst hz
  exact refScaled w s x k k1 e b a n hs hx hle hn hk hk1 he hbits
theorem NmC.offP {w : World} {B B' : Nat} {x : Nm} (h : NmC w B x) (hne : B ≠ B') (u : Sp) : NmC (put5w w B' u) B x := ⟨cell_put5 h.c0 hne _ _ _ _ _, cell_put5 h.c1 hne _ _ _ _ _⟩
structure LeSt (w wr : World) (B7 B8 B9 m K kq : Nat) (q : Nm) (U Sm : Sp) (X : Int) (f g : Nat → Int × Int) (i : Nat) : Prop where
  y : VrC wr B8 U
  s : VrC wr B9 Sm
  qc : NmC wr B7 q
  yp : SpAt wr U K (f i).1 (f i).2
  sp : SpAt wr Sm K (g i).1 (g i).2
  qp : IntAt wr q.neg q.a q.n q.cap kq (X * X)
  yb : U.bits = (m : Int)
  sb : Sm.bits = (m : Int)
  no : NoC wr (w.heap.size + 1)
  be : Below w.heap.size w wr
  l7 : w.heap.size + 1 < B7
  l8 : w.heap.size + 1 < B8
  l9 : w.heap.size + 1 < B9
  n78 : B7 ≠ B8
  n79 : B7 ≠ B9
  n89 : B8 ≠ B9
theorem LeSt.below {w wr wr' : World} {B7 B8 B9 m K kq : Nat} {q : Nm} {U Sm : Sp} {X : Int} {f g : Nat → Int × Int} {i : Nat} (h : LeSt w wr B7 B8 B9 m K kq q U Sm X f g i) (hb : Below wr.heap.size wr wr') : LeSt w wr' B7 B8 B9 m K kq q U Sm X f g i :=
  ⟨h.y.below hb, h.s.below hb, h.qc.below hb, h.yp.below hb, h.sp.below hb, h.qp.below hb, h.yb, h.sb, h.no.below hb, bthen h.be hb, h.l7, h.l8, h.l9, h.n78, h.n79, h.n89⟩
end Go.Proofs.Ytgmnknmjainabab
namespace Go.Proofs.Ytgmnknmjainabab
open Go.RowKit
attribute [local go_sem ↓] Go.wp_at_zero Go.wp_at_succ
def ShF (p q : Nat → Int) (n : Nat) (z : Int) : Prop := (z = 5 ∧ ∃ j, j < n ∧ p j ≤ 0) ∨ (z = 2 ∧ (∀ j, j < n → 0 < p j) ∧ ∃ j, j < n ∧ 100 * q j < p j) ∨ (z = 0 ∧ ∀ j, j < n → 0 < p j ∧ p j ≤ 100 * q j)
def ShW (p q : Nat → Int) (i : Nat) (z : Int) : Prop := (∀ j, j < i → 0 < p j) ∧ ((z = 0 ∧ ∀ j, j < i → p j ≤ 100 * q j) ∨ (z = 2 ∧ ∃ j, j < i ∧ 100 * q j < p j))
theorem ShW.ok {p q : Nat → Int} {i : Nat} {z : Int} (h : ShW p q i z) (h0 : 0 < p i) (h1 : p i ≤ 100 * q i) : ShW p q (i + 1) z := by
  obtain ⟨a, b⟩ := h
  refine ⟨fun j hj => ?_, ?_⟩
  · by_cases e : j = i
    · subst e; exact h0
    · exact a j (by omega)
  · rcases b with ⟨e, b⟩ | ⟨e, j, hj, b⟩
    · refine Or.inl ⟨e, fun j hj => ?_⟩
      by_cases e : j = i
      · subst e; exact h1
      · exact b j (by omega)
    · exact Or.inr ⟨e, j, by omega, b⟩
theorem ShW.many {p q : Nat → Int} {i : Nat} {z : Int} (h : ShW p q i z) (h0 : 0 < p i) (h1 : 100 * q i < p i) : ShW p q (i + 1) 2 := by
  refine ⟨fun j hj => ?_, Or.inr ⟨rfl, i, by omega, h1⟩⟩
  by_cases e : j = i
  · subst e; exact h0
  · exact h.1 j (by omega)
theorem ShW.fin {p q : Nat → Int} {n : Nat} {z : Int} (h : ShW p q n z) : ShF p q n z := by
  obtain ⟨a, b⟩ := h
  rcases b with ⟨e, b⟩ | ⟨e, b⟩
  · exact Or.inr (Or.inr ⟨e, fun j hj => ⟨a j hj, b j hj⟩⟩)
  · exact Or.inr (Or.inl ⟨e, a, b⟩)
set_option maxRecDepth 100000 in
set_option maxHeartbeats 2000000 in
theorem shapeFault_any (b n cap : Nat) (p q : Nat → Int) (w : World) (h : Rats w b n p q) (hn : n ≤ 1000) (hr : ∀ j, j < n → rok (p j) (q j)) :
    Calls Try.prog 95 #[.slice (some ⟨b, 0, none⟩) n cap] w fun r w' => ∃ z, r = .returned (.int .i64 z) ∧ ShF p q n z ∧ Below w.heap.size w w' := by
  have hblt := h.lt
  have HH := hide h
  have HR := hide hr
  clear h hr
  go_enter Try.func95, Try.ntmps95
  go_wp2
  go_loopw [3, 8] (fun ee ii wr => ∃ (i : Nat) (z : Int), i ≤ n ∧ ii = .int .i64 i ∧ ee = .int .i64 z ∧ ShW p q i z ∧ Below w.heap.size w wr) (fun _ ii _ => n - (intOf ii).toNat)
  case atStart => exact ⟨0, 0, by omega, rfl, rfl, ⟨fun j hj => by omega, Or.inl ⟨rfl, fun j hj => by omega⟩⟩, Below.refl _ _⟩
  case round =>
    obtain ⟨i, z, hi, rfl, rfl, hz, hB⟩ := hrel
    by_cases hin : i < n
    · have H2 := (unhide HH).below hB
      have g0 := H2.c0 i hin
      have g1 := H2.c1 i hin
      have hi1 : (i : Int) < (n : Int) := by omega
      have HZ := hide hz
      have rk := unhide HR i hin
      clear hz H2
      by_cases hp : p i ≤ 0
      · go_wp2_with fail
        go_ret
        exact ⟨5, rfl, Or.inl ⟨rfl, i, hin, hp⟩, balloc hB _⟩
      · obtain ⟨r1, r2, r3, r4⟩ := rk
        by_cases hc : p i ≤ 100 * q i
        · have hc' : withinB (p i) (q i) 100 = true := by unfold withinB; simp; omega
          have HC := hide (And.intro hp hc)
          have hp' : ¬ p i ≤ 0 := hp
          clear hc
          go_wp2_with (go_at_call 145; refine (within_any _ _ 100 _ (by omega) (by omega) (by omega) (by omega)).mono ?_; rintro r w1 ⟨rfl, hb1⟩; rw [hc'])
          go_roundw
          case rel => exact ⟨i + 1, z, by omega, by go_num, rfl, (unhide HZ).ok (by have := (unhide HC).1; omega) (unhide HC).2, bthen (balloc hB _) hb1⟩
          case measure => simp [intOf]; omega
        · have hc' : withinB (p i) (q i) 100 = false := by unfold withinB; simp; omega
          have HC := hide (And.intro hp hc)
          have hp' : ¬ p i ≤ 0 := hp
          clear hc
          go_wp2_with (go_at_call 145; refine (within_any _ _ 100 _ (by omega) (by omega) (by omega) (by omega)).mono ?_; rintro r w1 ⟨rfl, hb1⟩; rw [hc'])
          go_roundw
          case rel => exact ⟨i + 1, 2, by omega, by go_num, rfl, (unhide HZ).many (by have := (unhide HC).1; omega) (by have := (unhide HC).2; omega), bthen (balloc hB _) hb1⟩
          case measure => simp [intOf]; omega
    · have hiE : i = n := by omega
      subst hiE
      have hi1 : ¬ (i : Int) < (i : Int) := by omega
      have HZ := hide hz
      clear hz
      go_wp2_with fail
      go_ret
      exact ⟨z, rfl, (unhide HZ).fin, hB⟩
end Go.Proofs.Ytgmnknmjainabab
