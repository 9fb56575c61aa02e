/-
  What package wide and package span answer lies in new memory: Add, Mul, Hull.
-/
import Derived.Test.YtgmnknmjainabaaK05
namespace Go.Proofs.Ytgmnknmjainabaa
set_option linter.unusedVariables false
set_option linter.unusedSimpArgs false
set_option linter.unnecessarySimpa false
open Go.RowKit
attribute [local go_sem ↓] Go.wp_at_zero Go.wp_at_succ

/-- Both ends of a span lie in new memory. -/
structure MineS (m : Nat) (w : World) (s : Sp) : Prop where
  lo : Mine m w s.la s.lN
  hi : Mine m w s.ha s.hN
theorem MineS.below {m : Nat} {w w' : World} {s : Sp} (h : MineS m w s) (hb : Below w.heap.size w w') : MineS m w' s := ⟨h.lo.below hb, h.hi.below hb⟩
theorem MineS.mono {m m' : Nat} {w : World} {s : Sp} (h : MineS m w s) (hm : m' ≤ m) : MineS m' w s := ⟨h.lo.mono hm, h.hi.mono hm⟩
theorem MineS.set {m : Nat} {w : World} {s : Sp} (h : MineS m w s) (p : Addr) (v : Value) : MineS m (w.setCell p v) s := ⟨h.lo.set p v, h.hi.set p v⟩
theorem MineS.put5 {m : Nat} {w : World} {s : Sp} (h : MineS m w s) (B : Nat) (u0 u1 u2 u3 u4 : Value) : MineS m (((((w.setCell ⟨B, 0, none⟩ u0).setCell ⟨B, 1, none⟩ u1).setCell ⟨B, 2, none⟩ u2).setCell ⟨B, 3, none⟩ u3).setCell ⟨B, 4, none⟩ u4) s := ((((h.set _ _).set _ _).set _ _).set _ _).set _ _
theorem zeroMine (m : Nat) (w : World) : MineS m w ⟨false, none, 0, 0, false, none, 0, 0, 0⟩ := ⟨Mine.nil _ _ _, Mine.nil _ _ _⟩
def SpanF (w : World) (b : Int) (k : Nat) (lo hi : Int) (r : Ending) (w' : World) : Prop :=
  ∃ s : Sp, r = .returned (.agg #[.bool s.ln, .slice s.la s.lN s.lc, .bool s.hn, .slice s.ha s.hN s.hc, .int .i64 s.bits]) ∧ s.bits = b ∧ SpAt w' s k lo hi ∧ Below w.heap.size w w' ∧ MineS w.heap.size w' s
def PairF (w : World) (b : Int) (k : Nat) (lo hi er : Int) (r : Ending) (w' : World) : Prop :=
  ∃ s : Sp, r = .returned (.tuple #[.agg #[.bool s.ln, .slice s.la s.lN s.lc, .bool s.hn, .slice s.ha s.hN s.hc, .int .i64 s.bits], .int .i64 er]) ∧ s.bits = b ∧ SpAt w' s k lo hi ∧ Below w.heap.size w w' ∧ MineS w.heap.size w' s
theorem PairF.mono {w : World} {b : Int} {k k' : Nat} {lo hi er : Int} {r : Ending} {w' : World} (h : PairF w b k lo hi er r w') (hk : k ≤ k') : PairF w b k' lo hi er r w' := by
  obtain ⟨s, h1, h2, h3, h4⟩ := h
  exact ⟨s, h1, h2, h3.mono hk, h4⟩

set_option maxRecDepth 100000 in
set_option maxHeartbeats 1000000 in
theorem copied_fr (neg : Bool) (a : Option Addr) (n cap k1 : Nat) (x : Int) (w : World) (h1 : IntAt w neg a n cap k1 x) (hk1 : k1 ≤ 1000000000) :
    Calls Try.prog 146 #[.agg #[.bool neg, .slice a n cap]] w fun r w' =>
      ∃ neg' a' n' cap', r = .returned (.agg #[.bool neg', .slice a' n' cap']) ∧ IntAt w' neg' a' n' cap' (k1 + 1) x ∧ Below w.heap.size w w' ∧ Mine w.heap.size w' a' n' := by
  go_enter Try.func146, Try.ntmps146
  go_wp2_with (go_at_call 107; refine (up_fr _ _ _ _ 0 k1 x _ (h1.below (bl2 _ _ _)) hk1 (by omega)).mono ?_; rintro r w2 ⟨neg', a2, n2, c2, rfl, hint, hb2, fr2⟩; obtain ⟨hsz2, hcell2, hfz2⟩ := near (w.heap.size + 1 + 1) (by simp) hb2)
  have h0 : w2.cell? ⟨w.heap.size + 1, 0, none⟩ = some (.bool false) := by simp [hcell2, go_sem]
  have h1' : w2.cell? ⟨w.heap.size + 1, 1, none⟩ = some (.slice none 0 0) := by simp [hcell2, go_sem]
  refine bodyPost_ret (v := .agg #[.bool neg', .slice a2 n2 c2]) (by simp [results, Try.results146, go_sem, h0, h1']) rfl ⟨neg', a2, n2, c2, rfl, ?_, ?_, ?_⟩
  · simp only [Q, Int.mul_one] at hint
    exact (hint.put2 h0 h1' _ _).mono (by omega)
  · exact ((bthen (bl2 _ _ _) hb2).setCell (p := ⟨w.heap.size + 1, 0, none⟩) (Nat.le_succ _) _).setCell (p := ⟨w.heap.size + 1, 1, none⟩) (Nat.le_succ _) _
  · exact ((fr2.mono (bl2 _ _ _).size).set _ _).set _ _

set_option maxRecDepth 100000 in
set_option maxHeartbeats 2000000 in
theorem farthest_fr (t : Int) (b n cap k : Nat) (f : Nat → Nm) (z : Nat → Int) (w : World) (h : Nums w b (n + 1) k f z) (hk : k ≤ 1000000000) (hn : n ≤ 1000) :
    Calls Try.prog 128 #[.int .i64 t, .slice (some ⟨b, 0, none⟩) (n + 1) cap] w fun r w' =>
      ∃ neg' a' n' cap', r = .returned (.agg #[.bool neg', .slice a' n' cap']) ∧ IntAt w' neg' a' n' cap' (k + 1) (farZ t z n) ∧ Below w.heap.size w w' ∧ Mine w.heap.size w' a' n' := by
  have hblt := h.lt
  go_enter Try.func128, Try.ntmps128
  go_wp2
  go_loopw [10] (fun ii wr => ∃ (i : Nat) (x : Nm), i ≤ n + 1 ∧ ii = .int .i64 i ∧ wr.cell? ⟨w.heap.size + 1, 0, none⟩ = some (.bool x.neg) ∧ wr.cell? ⟨w.heap.size + 1, 1, none⟩ = some (.slice x.a x.n x.cap) ∧ (∀ o, wr.frozen? ⟨w.heap.size + 1, o, none⟩ = false) ∧ (0 < i → IntAt wr x.neg x.a x.n x.cap k (farZ t z (i - 1))) ∧ w.heap.size + 1 + 1 ≤ wr.heap.size ∧
      Below (w.heap.size + 1) (w.alloc (.cells #[.bool false, .slice none 0 0] 24)) wr) (fun ii _ => n + 1 - (intOf ii).toNat)
  case atStart =>
    exact ⟨0, ⟨false, none, 0, 0⟩, by omega, rfl, by simp [go_sem], by simp [go_sem], by intro o; simp [go_sem], fun h => by omega, by simp, (Below.refl _ _).alloc (by simp) _⟩
  case round =>
    obtain ⟨i, x, hi, rfl, x0, x1, x2, hx, hsw, hbl⟩ := hrel
    have hB : Below w.heap.size w wr := (bl1 _ _).trans (hbl.mono (by omega))
    by_cases hin : i < n + 1
    · have g0 := (h.below hB).c0 i hin
      have g1 := (h.below hB).c1 i hin
      have hint := (h.below hB).int i hin
      have hi0 : (0 : Int) ≤ (i : Int) := by omega
      have hi1 : (i : Int) < (n : Int) + 1 := by omega
      have hbb : b ≤ w.heap.size + 1 := by omega
      have hne : w.heap.size + 1 ≠ b := by omega
      have hne' : b ≠ w.heap.size + 1 := by omega
      have hlw : w.heap.size + 1 < wr.heap.size := by omega
      have hne2 : w.heap.size + 1 ≠ wr.heap.size := by omega
      have hne3 : wr.heap.size ≠ w.heap.size + 1 := by omega
      have HH := hide h
      clear h
      by_cases hz : i = 0
      · subst hz
        go_wp2
        go_roundw
        case rel =>
          refine ⟨1, f 0, by omega, rfl, ?_, ?_, ?_, fun _ => ?_, ?_, ?_⟩
          · simp [go_sem, hlw, x0, x1]
          · simp [go_sem, hlw, x0, x1]
          · intro o; rw [fz_past _ _ _ (by simpa [World.setCell] using hlw)]; simp [go_sem, x2]
          · exact ((hint.put2 x0 x1 _ _).below (bl1 _ _))
          · simp [World.setCell]; omega
          · exact ((hbl.setCell (p := ⟨w.heap.size + 1, 0, none⟩) (Nat.le_refl _) _).setCell (p := ⟨w.heap.size + 1, 1, none⟩) (Nat.le_refl _) _).alloc (by simp [World.setCell]; omega) _
        case measure => simp [intOf]
      · have HX := hide (hx (by omega))
        have hz' : ((i : Int) == 0) = false := by simp; omega
        obtain ⟨j, hj⟩ : ∃ j, i = j + 1 := ⟨i - 1, by omega⟩
        have hfz : farZ t z (i + 1 - 1) = if cmpInt (z i) (farZ t z (i - 1)) = t then z i else farZ t z (i - 1) := by subst hj; rfl
        clear hj hx
        by_cases hc : cmpInt (z i) (farZ t z (i - 1)) = t
        · have hcm : (cmpInt (z i) (farZ t z (i - 1)) == t) = true := by simp [hc]
          rw [if_pos hc] at hfz
          have HF := hide hfz
          clear hfz hc
          go_wp2_with (go_at_call 33; refine (cmp_int _ _ _ _ _ _ _ _ k k (z i) (farZ t z (i - 1)) _ (hint.below (bl1 _ _)) ((unhide HX).below (bl1 _ _))).mono ?_; rintro r w1 ⟨rfl, hb1⟩; obtain ⟨hsz1, hcell1, hfz1⟩ := near (wr.heap.size + 1) (by simp) hb1; have y3 : w.heap.size + 1 + 1 ≤ wr.heap.size + 1 := Nat.le_succ_of_le hsw; have y0 : w1.cell? ⟨w.heap.size + 1, 0, none⟩ = some (.bool x.neg) := ((hcell1 _ _ y3).trans (World.cell?_alloc_past _ _ _ hlw)).trans x0; have y1 : w1.cell? ⟨w.heap.size + 1, 1, none⟩ = some (.slice x.a x.n x.cap) := ((hcell1 _ _ y3).trans (World.cell?_alloc_past _ _ _ hlw)).trans x1; have y2 : ∀ o, w1.frozen? ⟨w.heap.size + 1, o, none⟩ = false := fun o => ((hfz1 _ _ y3).trans (fz_past _ _ _ hlw)).trans (x2 o))
          go_roundw
          case rel =>
            refine ⟨i + 1, f i, by omega, by go_num, by simp [go_sem, y0, y1], by simp [go_sem, y0, y1], by intro o; simp [go_sem, y2], fun _ => ?_, ?_, ?_⟩
            · rw [unhide HF]; exact ((hint.below (bl1 _ _)).below hb1).put2 y0 y1 _ _
            · have := Nat.le_trans y3 hsz1; simpa [World.setCell] using this
            · exact ((hbl.trans ((bthen (bl1 _ _) hb1).mono (by omega))).setCell (p := ⟨w.heap.size + 1, 0, none⟩) (Nat.le_refl _) _).setCell (p := ⟨w.heap.size + 1, 1, none⟩) (Nat.le_refl _) _
          case measure => simp [intOf]; omega
        · have hcm : (cmpInt (z i) (farZ t z (i - 1)) == t) = false := by simp [hc]
          rw [if_neg hc] at hfz
          have HF := hide hfz
          clear hfz hc
          go_wp2_with (go_at_call 33; refine (cmp_int _ _ _ _ _ _ _ _ k k (z i) (farZ t z (i - 1)) _ (hint.below (bl1 _ _)) ((unhide HX).below (bl1 _ _))).mono ?_; rintro r w1 ⟨rfl, hb1⟩; obtain ⟨hsz1, hcell1, hfz1⟩ := near (wr.heap.size + 1) (by simp) hb1; have y3 : w.heap.size + 1 + 1 ≤ wr.heap.size + 1 := Nat.le_succ_of_le hsw; have y0 : w1.cell? ⟨w.heap.size + 1, 0, none⟩ = some (.bool x.neg) := ((hcell1 _ _ y3).trans (World.cell?_alloc_past _ _ _ hlw)).trans x0; have y1 : w1.cell? ⟨w.heap.size + 1, 1, none⟩ = some (.slice x.a x.n x.cap) := ((hcell1 _ _ y3).trans (World.cell?_alloc_past _ _ _ hlw)).trans x1; have y2 : ∀ o, w1.frozen? ⟨w.heap.size + 1, o, none⟩ = false := fun o => ((hfz1 _ _ y3).trans (fz_past _ _ _ hlw)).trans (x2 o))
          go_roundw
          case rel =>
            exact ⟨i + 1, x, by omega, by go_num, y0, y1, y2, fun _ => by rw [unhide HF]; exact ((unhide HX).below (bl1 _ _)).below hb1, Nat.le_trans y3 hsz1, hbl.trans ((bthen (bl1 _ _) hb1).mono (by omega))⟩
          case measure => simp [intOf]; omega
    · have hiE : i = n + 1 := by omega
      subst hiE
      have q3 : wr.cell? ⟨w.heap.size, 0, none⟩ = some (.bool false) := (hbl.cell (p := ⟨w.heap.size, 0, none⟩) (Nat.lt_succ_self _)).trans (by simp [go_sem])
      have q4 : wr.cell? ⟨w.heap.size, 1, none⟩ = some (.slice none 0 0) := (hbl.cell (p := ⟨w.heap.size, 1, none⟩) (Nat.lt_succ_self _)).trans (by simp [go_sem])
      have q5 : ∀ o, wr.frozen? ⟨w.heap.size, o, none⟩ = false := fun o => (hbl.frozen (p := ⟨w.heap.size, o, none⟩) (Nat.lt_succ_self _)).trans (by simp [go_sem])
      have HX := hide (hx (by omega))
      clear h hx
      go_wp2_with (go_at_call 146; refine (copied_fr _ _ _ _ k _ _ (unhide HX) hk).mono ?_; rintro r w1 ⟨neg1, a1, n1, c1, rfl, hint1, hb1, fr1⟩; obtain ⟨hsz1, hcell1, hfz1⟩ := near (w.heap.size + 1 + 1) hsw hb1)
      have y0 : w1.cell? ⟨w.heap.size, 0, none⟩ = some (.bool false) := (hcell1 _ _ (by omega)).trans q3
      have y1 : w1.cell? ⟨w.heap.size, 1, none⟩ = some (.slice none 0 0) := (hcell1 _ _ (by omega)).trans q4
      refine bodyPost_ret (v := .agg #[.bool neg1, .slice a1 n1 c1]) (by simp [results, Try.results128, go_sem, y0, y1]) rfl ⟨neg1, a1, n1, c1, rfl, ?_, ?_, ?_⟩
      · simp only [Nat.add_sub_cancel] at hint1; exact hint1.put2 y0 y1 _ _
      · exact ((bthen hB hb1).setCell (p := ⟨w.heap.size, 0, none⟩) (Nat.le_refl _) _).setCell (p := ⟨w.heap.size, 1, none⟩) (Nat.le_refl _) _
      · exact ((fr1.mono hB.size).set _ _).set _ _

set_option maxRecDepth 100000 in
set_option maxHeartbeats 1000000 in
theorem most_fr (b n cap k : Nat) (f : Nat → Nm) (z : Nat → Int) (w : World) (h : Nums w b (n + 1) k f z) (hk : k ≤ 1000000000) (hn : n ≤ 1000) :
    Calls Try.prog 89 #[.slice (some ⟨b, 0, none⟩) (n + 1) cap] w fun r w' =>
      ∃ neg' a' n' cap', r = .returned (.agg #[.bool neg', .slice a' n' cap']) ∧ IntAt w' neg' a' n' cap' (k + 1) (mostZ z n) ∧ Below w.heap.size w w' ∧ Mine w.heap.size w' a' n' := by
  rw [← farZ_most]
  go_enter Try.func89, Try.ntmps89
  go_wp2_with (go_at_call 128; refine (farthest_fr (1) _ _ _ k f z _ (h.below (bl1 _ _)) hk hn).mono ?_; rintro r w1 ⟨neg1, a1, n1, c1, rfl, hint1, hb1, fr1⟩; obtain ⟨hsz1, hcell1, hfz1⟩ := near (w.heap.size + 1) (by simp) hb1)
  have y0 : w1.cell? ⟨w.heap.size, 0, none⟩ = some (.bool false) := by simp [hcell1, go_sem]
  have y1 : w1.cell? ⟨w.heap.size, 1, none⟩ = some (.slice none 0 0) := by simp [hcell1, go_sem]
  refine bodyPost_ret (v := .agg #[.bool neg1, .slice a1 n1 c1]) (by simp [results, Try.results89, go_sem, y0, y1]) rfl ⟨neg1, a1, n1, c1, rfl, hint1.put2 y0 y1 _ _, ?_, ((fr1.mono (bl1 _ _).size).set _ _).set _ _⟩
  exact ((bthen (bl1 _ _) hb1).setCell (p := ⟨w.heap.size, 0, none⟩) (Nat.le_refl _) _).setCell (p := ⟨w.heap.size, 1, none⟩) (Nat.le_refl _) _

set_option maxRecDepth 100000 in
set_option maxHeartbeats 1000000 in
theorem leastw_fr (b n cap k : Nat) (f : Nat → Nm) (z : Nat → Int) (w : World) (h : Nums w b (n + 1) k f z) (hk : k ≤ 1000000000) (hn : n ≤ 1000) :
    Calls Try.prog 88 #[.slice (some ⟨b, 0, none⟩) (n + 1) cap] w fun r w' =>
      ∃ neg' a' n' cap', r = .returned (.agg #[.bool neg', .slice a' n' cap']) ∧ IntAt w' neg' a' n' cap' (k + 1) (leastZ z n) ∧ Below w.heap.size w w' ∧ Mine w.heap.size w' a' n' := by
  rw [← farZ_least]
  go_enter Try.func88, Try.ntmps88
  go_wp2_with (go_at_call 128; refine (farthest_fr (-1) _ _ _ k f z _ (h.below (bl1 _ _)) hk hn).mono ?_; rintro r w1 ⟨neg1, a1, n1, c1, rfl, hint1, hb1, fr1⟩; obtain ⟨hsz1, hcell1, hfz1⟩ := near (w.heap.size + 1) (by simp) hb1)
  have y0 : w1.cell? ⟨w.heap.size, 0, none⟩ = some (.bool false) := by simp [hcell1, go_sem]
  have y1 : w1.cell? ⟨w.heap.size, 1, none⟩ = some (.slice none 0 0) := by simp [hcell1, go_sem]
  refine bodyPost_ret (v := .agg #[.bool neg1, .slice a1 n1 c1]) (by simp [results, Try.results88, go_sem, y0, y1]) rfl ⟨neg1, a1, n1, c1, rfl, hint1.put2 y0 y1 _ _, ?_, ((fr1.mono (bl1 _ _).size).set _ _).set _ _⟩
  exact ((bthen (bl1 _ _) hb1).setCell (p := ⟨w.heap.size, 0, none⟩) (Nat.le_refl _) _).setCell (p := ⟨w.heap.size, 1, none⟩) (Nat.le_refl _) _

set_option maxRecDepth 100000 in
set_option maxHeartbeats 2000000 in
theorem ceilDown_fr (neg : Bool) (a : Option Addr) (n cap k1 : Nat) (k x : Int) (w : World) (h1 : IntAt w neg a n cap k1 x) (hk1 : k1 ≤ 900000000) (hk0 : -1000000000 ≤ k) (hk : k ≤ 1000000000) :
    Calls Try.prog 125 #[.agg #[.bool neg, .slice a n cap], .int .i64 k] w fun r w' =>
      ∃ neg' a' n' cap', r = .returned (.agg #[.bool neg', .slice a' n' cap']) ∧ IntAt w' neg' a' n' cap' ((-k).toNat / 16 + k1 + 5) (-(downZ (-x) k)) ∧ Below w.heap.size w w' ∧ Mine w.heap.size w' a' n' := by
  go_enter Try.func125, Try.ntmps125
  go_wp2_with (first
    | (go_at_call 80; have hq := hb2; refine (neg_fr _ _ _ _ ((-k).toNat / 16 + k1 + 5) _ _ hint2 (by omega)).mono ?_; rintro r w3 ⟨neg3, a3, n3, c3, rfl, hint3, hb3, fr3⟩; obtain ⟨hsz3, hcell3, hfz3⟩ := near (w.heap.size + 1 + 1) hsz2 hb3)
    | (go_at_call 80; refine (neg_int _ _ _ _ k1 x _ (h1.below (bl2 _ _ _)) (by omega)).mono ?_; rintro r w1 ⟨neg1, a1, n1, c1, rfl, hint1, hb1⟩; obtain ⟨hsz1, hcell1, hfz1⟩ := near (w.heap.size + 1 + 1) (by simp) hb1)
    | (go_at_call 79; refine (down_z _ _ _ _ k1 k (-x) _ hint1 (by omega) hk0 hk).mono ?_; rintro r w2 ⟨neg2, a2, n2, c2, rfl, hint2, hb2⟩; obtain ⟨hsz2, hcell2, hfz2⟩ := near (w.heap.size + 1 + 1) hsz1 hb2))
  have h0 : w3.cell? ⟨w.heap.size + 1, 0, none⟩ = some (.bool false) := by simp [hcell3, hcell2, hcell1, go_sem]
  have h1' : w3.cell? ⟨w.heap.size + 1, 1, none⟩ = some (.slice none 0 0) := by simp [hcell3, hcell2, hcell1, go_sem]
  refine bodyPost_ret (v := .agg #[.bool neg3, .slice a3 n3 c3]) (by simp [results, Try.results125, go_sem, h0, h1']) rfl ⟨neg3, a3, n3, c3, rfl, hint3.put2 h0 h1' _ _, ?_, ((fr3.mono (bthen (bthen (bl2 _ _ _) hb1) hb2).size).set _ _).set _ _⟩
  exact ((bthen (bthen (bthen (bl2 _ _ _) hb1) hb2) hb3).setCell (p := ⟨w.heap.size + 1, 0, none⟩) (Nat.le_succ _) _).setCell (p := ⟨w.heap.size + 1, 1, none⟩) (Nat.le_succ _) _

set_option maxRecDepth 100000 in
set_option maxHeartbeats 2000000 in
theorem wideAdd_fr (w : World) (s t : Sp) (k : Nat) (lo hi lo' hi' : Int) (hs : SpAt w s k lo hi) (ht : SpAt w t k lo' hi') (hk : k ≤ 700000000) :
    Calls Try.prog 82 #[.agg #[.bool s.ln, .slice s.la s.lN s.lc, .bool s.hn, .slice s.ha s.hN s.hc, .int .i64 s.bits], .agg #[.bool t.ln, .slice t.la t.lN t.lc, .bool t.hn, .slice t.ha t.hN t.hc, .int .i64 t.bits]] w (SpanF w s.bits (k + 1) (lo + lo') (hi + hi')) := by
  have ne1 : w.heap.size ≠ w.heap.size + 1 + 1 := by omega
  have ne2 : w.heap.size + 1 + 1 ≠ w.heap.size := by omega
  have le2 : w.heap.size ≤ w.heap.size + 1 + 1 := by omega
  go_enter Try.func82, Try.ntmps82
  go_wp2
  go_region_held3 (fun w' => w'.cell? ⟨w.heap.size, 0, none⟩ = some (.bool s.ln) ∧ w'.cell? ⟨w.heap.size, 1, none⟩ = some (.slice s.la s.lN s.lc) ∧ w'.cell? ⟨w.heap.size, 2, none⟩ = some (.bool s.hn) ∧ w'.cell? ⟨w.heap.size, 3, none⟩ = some (.slice s.ha s.hN s.hc) ∧ w'.cell? ⟨w.heap.size, 4, none⟩ = some (.int .i64 s.bits) ∧ w'.cell? ⟨w.heap.size + 1, 0, none⟩ = some (.bool t.ln) ∧ w'.cell? ⟨w.heap.size + 1, 1, none⟩ = some (.slice t.la t.lN t.lc) ∧ w'.cell? ⟨w.heap.size + 1, 2, none⟩ = some (.bool t.hn) ∧ w'.cell? ⟨w.heap.size + 1, 3, none⟩ = some (.slice t.ha t.hN t.hc)) (go_keep)
    (first
      | (go_at_call 49; have hq := hb1; refine (add_fr _ _ _ _ _ _ _ _ k k hi hi' _ (hs.hi.below (bthen (bl3 _ _ _ _).drew hb1)) (ht.hi.below (bthen (bl3 _ _ _ _).drew hb1)) (by omega) (by omega)).mono ?_; rintro r w2 ⟨neg2, a2, n2, c2, rfl, hint2, hb2, fr2⟩; obtain ⟨hsz2, hcell2, hfz2⟩ := near (w.heap.size + 1 + 1 + 1) hsz1 hb2)
      | (go_at_call 49; refine (add_fr _ _ _ _ _ _ _ _ k k lo lo' _ (hs.lo.below (bl3 _ _ _ _).drew) (ht.lo.below (bl3 _ _ _ _).drew) (by omega) (by omega)).mono ?_; rintro r w1 ⟨neg1, a1, n1, c1, rfl, hint1, hb1, fr1⟩; obtain ⟨hsz1, hcell1, hfz1⟩ := near (w.heap.size + 1 + 1 + 1) (by simp) hb1))
  go_wp2
  have q0 : w2.cell? ⟨w.heap.size + 1 + 1, 0, none⟩ = some (.bool false) := by simp [hcell2, hcell1, go_sem]
  have q1 : w2.cell? ⟨w.heap.size + 1 + 1, 1, none⟩ = some (.slice none 0 0) := by simp [hcell2, hcell1, go_sem]
  have q2 : w2.cell? ⟨w.heap.size + 1 + 1, 2, none⟩ = some (.bool false) := by simp [hcell2, hcell1, go_sem]
  have q3 : w2.cell? ⟨w.heap.size + 1 + 1, 3, none⟩ = some (.slice none 0 0) := by simp [hcell2, hcell1, go_sem]
  have q4 : w2.cell? ⟨w.heap.size + 1 + 1, 4, none⟩ = some (.int .i64 0) := by simp [hcell2, hcell1, go_sem]
  refine bodyPost_ret (v := .agg #[.bool neg1, .slice a1 n1 c1, .bool neg2, .slice a2 n2 c2, .int .i64 s.bits]) (by simp [results, Try.results82, go_sem, q0, q1, q2, q3, q4]) rfl ⟨⟨neg1, a1, n1, c1, neg2, a2, n2, c2, s.bits⟩, rfl, rfl, ?_, ?_, ?_⟩
  · exact SpAt.put5 ⟨(hint1.below hb2).mono (by omega), hint2.mono (by omega)⟩ q0 q1 q2 q3 q4 _ _ _ _ _
  · exact set5 (bthen (bthen (bl3 _ _ _ _).drew hb1) hb2) le2 _ _ _ _ _
  · exact MineS.put5 _ _ _ _ _ _ (h := ⟨(fr1.mono (bl3 _ _ _ _).drew.size).below hb2, fr2.mono (bthen (bl3 _ _ _ _).drew hb1).size⟩)

set_option maxRecDepth 100000 in
set_option maxHeartbeats 2000000 in
theorem add1_fr (w : World) (B0 B1 : Nat) (s t : Sp) (k : Nat) (lo hi lo' hi' : Int) (hs : SpAt w s k lo hi) (ht : SpAt w t k lo' hi') (hk : k ≤ 700000000)
    (a0 : w.cell? ⟨B0, 0, none⟩ = some (.bool s.ln)) (a1 : w.cell? ⟨B0, 1, none⟩ = some (.slice s.la s.lN s.lc)) (a2 : w.cell? ⟨B0, 2, none⟩ = some (.bool s.hn)) (a3 : w.cell? ⟨B0, 3, none⟩ = some (.slice s.ha s.hN s.hc)) (a4 : w.cell? ⟨B0, 4, none⟩ = some (.int .i64 s.bits))
    (b0 : w.cell? ⟨B1, 0, none⟩ = some (.bool t.ln)) (b1 : w.cell? ⟨B1, 1, none⟩ = some (.slice t.la t.lN t.lc)) (b2 : w.cell? ⟨B1, 2, none⟩ = some (.bool t.hn)) (b3 : w.cell? ⟨B1, 3, none⟩ = some (.slice t.ha t.hN t.hc)) (b4 : w.cell? ⟨B1, 4, none⟩ = some (.int .i64 t.bits)) :
    Calls Try.prog 81 #[.pointer (some ⟨B0, 0, none⟩), .pointer (some ⟨B1, 0, none⟩)] w (PairF w s.bits (k + 1) (lo + lo') (hi + hi') 0) := by
  have l0 : B0 < w.heap.size := World.block_lt_of_cell? w ⟨B0, 0, none⟩ a0
  have l1 : B1 < w.heap.size := World.block_lt_of_cell? w ⟨B1, 0, none⟩ b0
  go_enter Try.func81, Try.ntmps81
  go_wp2_with fail
  refine (wideAdd_fr _ s t k lo hi lo' hi' (hs.below (bl1 _ _)) (ht.below (bl1 _ _)) hk).mono ?_
  rintro r w1 ⟨u, rfl, hub, hup, hb1, fr⟩
  obtain ⟨hsz1, hcell1, hfz1⟩ := near (w.heap.size + 1) (by simp) hb1
  have q0 : w1.cell? ⟨w.heap.size, 0, none⟩ = some (.bool false) := by simp [hcell1]
  have q1 : w1.cell? ⟨w.heap.size, 1, none⟩ = some (.slice none 0 0) := by simp [hcell1]
  have q2 : w1.cell? ⟨w.heap.size, 2, none⟩ = some (.bool false) := by simp [hcell1]
  have q3 : w1.cell? ⟨w.heap.size, 3, none⟩ = some (.slice none 0 0) := by simp [hcell1]
  have q4 : w1.cell? ⟨w.heap.size, 4, none⟩ = some (.int .i64 0) := by simp [hcell1]
  have q5 : ∀ o, w1.frozen? ⟨w.heap.size, o, none⟩ = false := by intro o; simp [hfz1, go_sem]
  have HB := hide hub
  clear hub
  go_wp2_with fail
  refine bodyPost_ret (v := .tuple #[.agg #[.bool u.ln, .slice u.la u.lN u.lc, .bool u.hn, .slice u.ha u.hN u.hc, .int .i64 u.bits], .int .i64 0]) (by simp [results, Try.results81, go_sem, q0, q1, q2, q3, q4]) rfl ⟨u, rfl, unhide HB, ?_, ?_, ?_⟩
  · exact SpAt.put5 hup q0 q1 q2 q3 q4 _ _ _ _ _
  · exact set5 (bthen (bl1 _ _) hb1) (Nat.le_refl _) _ _ _ _ _
  · exact (fr.mono (bl1 _ _).size).put5 _ _ _ _ _ _

set_option maxRecDepth 100000 in
set_option maxHeartbeats 2000000 in
theorem wideMul_fr (w : World) (s t : Sp) (k : Nat) (lo hi lo' hi' : Int) (hs : SpAt w s k lo hi) (ht : SpAt w t k lo' hi') (hk : k ≤ 300000000) (hb0 : 0 ≤ s.bits) (hbm : s.bits ≤ 1000000) :
    Calls Try.prog 86 #[.agg #[.bool s.ln, .slice s.la s.lN s.lc, .bool s.hn, .slice s.ha s.hN s.hc, .int .i64 s.bits], .agg #[.bool t.ln, .slice t.la t.lN t.lc, .bool t.hn, .slice t.ha t.hN t.hc, .int .i64 t.bits]] w (SpanF w s.bits (k + k + 8) (downZ (leastZ (pr4 (lo * lo') (lo * hi') (hi * lo') (hi * hi')) 3) s.bits) (-(downZ (-(mostZ (pr4 (lo * lo') (lo * hi') (hi * lo') (hi * hi')) 3)) s.bits))) := by
  have hbz : (-s.bits).toNat = 0 := by omega
  have ne1 : w.heap.size ≠ w.heap.size + 1 + 1 := by omega
  have ne2 : w.heap.size + 1 + 1 ≠ w.heap.size := by omega
  obtain ⟨W, hW⟩ : ∃ W, W = ((w.alloc (.cells #[.bool s.ln, .slice s.la s.lN s.lc, .bool s.hn, .slice s.ha s.hN s.hc, .int .i64 s.bits] 26)).alloc (.cells #[.bool t.ln, .slice t.la t.lN t.lc, .bool t.hn, .slice t.ha t.hN t.hc, .int .i64 t.bits] 26)).alloc (.cells #[.bool false, .slice none 0 0, .bool false, .slice none 0 0, .int .i64 0] 26) := ⟨_, rfl⟩
  have hBW : Below w.heap.size w W := by rw [hW]; exact bl3 _ _ _ _
  have a0 : SpC W w.heap.size s := by rw [hW]; exact ⟨by simp [go_sem], by simp [go_sem], by simp [go_sem], by simp [go_sem], by simp [go_sem]⟩
  have g0 : SpC W (w.heap.size + 1) t := by rw [hW]; exact ⟨by simp [go_sem], by simp [go_sem], by simp [go_sem], by simp [go_sem], by simp [go_sem]⟩
  have r0 : NoC W (w.heap.size + 1 + 1) := by rw [hW]; exact ⟨by simp [go_sem], by simp [go_sem], by simp [go_sem], by simp [go_sem], by simp [go_sem], fun o => by simp [go_sem]⟩
  have HS := hide (hs.below hBW)
  have HT := hide (ht.below hBW)
  have hB0 : Below W.heap.size W W.drew := (Below.refl _ _).drew
  have HK := hide (show ∀ w', Below W.heap.size W w' → (w'.cell? ⟨w.heap.size, 0, none⟩ = some (.bool s.ln) ∧ w'.cell? ⟨w.heap.size, 1, none⟩ = some (.slice s.la s.lN s.lc) ∧ w'.cell? ⟨w.heap.size, 2, none⟩ = some (.bool s.hn) ∧ w'.cell? ⟨w.heap.size, 3, none⟩ = some (.slice s.ha s.hN s.hc) ∧ w'.cell? ⟨w.heap.size + 1, 0, none⟩ = some (.bool t.ln) ∧ w'.cell? ⟨w.heap.size + 1, 1, none⟩ = some (.slice t.la t.lN t.lc) ∧ w'.cell? ⟨w.heap.size + 1, 2, none⟩ = some (.bool t.hn) ∧ w'.cell? ⟨w.heap.size + 1, 3, none⟩ = some (.slice t.ha t.hN t.hc)) from fun w' hB => by
    obtain ⟨x0, x1, x2, x3, x4⟩ := a0.below hB
    obtain ⟨y0, y1, y2, y3, y4⟩ := g0.below hB
    exact ⟨x0, x1, x2, x3, y0, y1, y2, y3⟩)
  go_enter Try.func86, Try.ntmps86
  go_wp2_with fail
  rw [← hW]
  clear hW
  refine (corners_mul _ s t k lo hi lo' hi' (unhide HS) (unhide HT) hk).mono ?_
  rintro r w1 ⟨B, f, rfl, hN, hb1⟩
  have hN1 := r0.below hb1
  have hl1 := hN1.lt
  obtain ⟨x0, x1, x2, x3, x4⟩ := a0.below hb1
  have a1 : SpC w1 w.heap.size s := ⟨x0, x1, x2, x3, x4⟩
  have HK1 := hide (show ∀ w', Below w1.heap.size w1 w' → w'.cell? ⟨w.heap.size, 4, none⟩ = some (.int .i64 s.bits) from fun w' hB => (a1.below hB).c4)
  have hD0 : Below w1.heap.size w1 w1.drew := (Below.refl _ _).drew
  clear x0 x1 x2 x3
  go_wp2_with fail
  go_region_held3 (fun w' => w'.cell? ⟨w.heap.size, 4, none⟩ = some (.int .i64 s.bits)) (first | exact unhide HK1 _ (by first | exact hD0 | exact hD5 | exact hD4 | exact hD3 | exact hD2) | go_keep)
    (first
      | (go_at_call 88; refine (leastw_int _ 3 _ (k + k) f _ _ (hN.below hD0) (by omega) (by omega)).mono ?_; rintro r w2 ⟨neg2, a2, n2, c2, rfl, hint2, hb2⟩; have hD2 := bthen hD0 hb2)
      | (go_at_call 79; refine (down_z_fr _ _ _ _ (k + k + 1) s.bits _ _ hint2 (by omega) (by omega) (by omega)).mono ?_; rintro r w3 ⟨neg3, a3, n3, c3, rfl, hint3, hb3, fr3⟩; have hD3 := bthen hD2 hb3)
      | (go_at_call 89; refine (most_int _ 3 _ (k + k) f _ _ (hN.below hD3) (by omega) (by omega)).mono ?_; rintro r w4 ⟨neg4, a4, n4, c4, rfl, hint4, hb4⟩; have hint3 := hint3.below hb4; have hD4 := bthen hD3 hb4)
      | (go_at_call 125; refine (ceilDown_fr _ _ _ _ (k + k + 1) s.bits _ _ hint4 (by omega) (by omega) (by omega)).mono ?_; rintro r w5 ⟨neg5, a5, n5, c5, rfl, hint5, hb5, fr5⟩; have hint3 := hint3.below hb5; have hD5 := bthen hD4 hb5; obtain ⟨q0, q1, q2, q3, q4, q5⟩ := hN1.below hD5; have x5 := unhide HK1 _ hD5))
  go_wp2
  refine bodyPost_ret (v := .agg #[.bool neg3, .slice a3 n3 c3, .bool neg5, .slice a5 n5 c5, .int .i64 s.bits]) (by simp [results, Try.results86, go_sem, q0, q1, q2, q3, q4]) rfl ⟨⟨neg3, a3, n3, c3, neg5, a5, n5, c5, s.bits⟩, rfl, rfl, ?_, ?_, ?_⟩
  · exact SpAt.put5 ⟨hint3.mono (by omega), hint5.mono (by omega)⟩ q0 q1 q2 q3 q4 _ _ _ _ _
  · exact set5 (bthen (bthen hBW hb1) hD5) (by omega) _ _ _ _ _
  · exact MineS.put5 _ _ _ _ _ _ (h := ⟨((fr3.mono (bthen (bthen hBW hb1) hD2).size).below hb4).below hb5, fr5.mono (bthen (bthen hBW hb1) hD4).size⟩)

set_option maxRecDepth 100000 in
set_option maxHeartbeats 2000000 in
theorem mul1_fr (w : World) (B0 B1 : Nat) (s t : Sp) (k : Nat) (lo hi lo' hi' : Int) (hs : SpAt w s k lo hi) (ht : SpAt w t k lo' hi') (hk : k ≤ 300000000) (hb0 : 0 ≤ s.bits) (hbm : s.bits ≤ 1000000) (a : SpC w B0 s) (g : SpC w B1 t) :
    Calls Try.prog 85 #[.pointer (some ⟨B0, 0, none⟩), .pointer (some ⟨B1, 0, none⟩)] w (PairF w s.bits (k + k + 8) (downZ (leastZ (pr4 (lo * lo') (lo * hi') (hi * lo') (hi * hi')) 3) s.bits) (-(downZ (-(mostZ (pr4 (lo * lo') (lo * hi') (hi * lo') (hi * hi')) 3)) s.bits)) 0) := by
  have l0 := a.lt
  have l1 := g.lt
  obtain ⟨a0, a1, a2, a3, a4⟩ := a
  obtain ⟨b0, b1, b2, b3, b4⟩ := g
  go_enter Try.func85, Try.ntmps85
  go_wp2_with fail
  refine (wideMul_fr _ s t k lo hi lo' hi' (hs.below (bl1 _ _)) (ht.below (bl1 _ _)) hk hb0 hbm).mono ?_
  rintro r w1 ⟨u, rfl, hub, hup, hb1, fr⟩
  obtain ⟨q0, q1, q2, q3, q4, q5⟩ := (noc_new w 26).below hb1
  have HB := hide hub
  clear hub
  go_wp2_with fail
  refine bodyPost_ret (v := .tuple #[.agg #[.bool u.ln, .slice u.la u.lN u.lc, .bool u.hn, .slice u.ha u.hN u.hc, .int .i64 u.bits], .int .i64 0]) (by simp [results, Try.results85, go_sem, q0, q1, q2, q3, q4]) rfl ⟨u, rfl, unhide HB, ?_, ?_, ?_⟩
  · exact SpAt.put5 hup q0 q1 q2 q3 q4 _ _ _ _ _
  · exact set5 (bthen (bl1 _ _) hb1) (Nat.le_refl _) _ _ _ _ _
  · exact (fr.mono (bl1 _ _).size).put5 _ _ _ _ _ _

set_option maxRecDepth 100000 in
set_option maxHeartbeats 2000000 in
theorem hull1_fr (w : World) (B0 B1 : Nat) (s t : Sp) (k : Nat) (lo hi lo' hi' : Int) (hs : SpAt w s k lo hi) (ht : SpAt w t k lo' hi') (hk : k ≤ 300000000) (a : SpC w B0 s) (g : SpC w B1 t) :
    Calls Try.prog 87 #[.pointer (some ⟨B0, 0, none⟩), .pointer (some ⟨B1, 0, none⟩)] w (PairF w s.bits (k + 1) (minZ lo lo') (maxZ hi hi') 0) := by
  have l0 := a.lt
  have l1 := g.lt
  obtain ⟨W, hW⟩ : ∃ W, W = w.alloc (.cells #[.bool false, .slice none 0 0, .bool false, .slice none 0 0, .int .i64 0] 26) := ⟨_, rfl⟩
  have hBW : Below w.heap.size w W := by rw [hW]; exact bl1 _ _
  have r0 : NoC W w.heap.size := by rw [hW]; exact noc_new _ _
  have a0 := a.below hBW
  have g0 := g.below hBW
  have HS := hide (hs.below hBW)
  have HT := hide (ht.below hBW)
  have hB0 : Below W.heap.size W W.drew := (Below.refl _ _).drew
  have HK := hide (show ∀ w', Below W.heap.size W w' → (w'.cell? ⟨B0, 0, none⟩ = some (.bool s.ln) ∧ w'.cell? ⟨B0, 1, none⟩ = some (.slice s.la s.lN s.lc) ∧ w'.cell? ⟨B0, 2, none⟩ = some (.bool s.hn) ∧ w'.cell? ⟨B0, 3, none⟩ = some (.slice s.ha s.hN s.hc) ∧ w'.cell? ⟨B0, 4, none⟩ = some (.int .i64 s.bits) ∧ w'.cell? ⟨B1, 0, none⟩ = some (.bool t.ln) ∧ w'.cell? ⟨B1, 1, none⟩ = some (.slice t.la t.lN t.lc) ∧ w'.cell? ⟨B1, 2, none⟩ = some (.bool t.hn) ∧ w'.cell? ⟨B1, 3, none⟩ = some (.slice t.ha t.hN t.hc)) from fun w' hB => by
    obtain ⟨x0, x1, x2, x3, x4⟩ := a0.below hB
    obtain ⟨y0, y1, y2, y3, y4⟩ := g0.below hB
    exact ⟨x0, x1, x2, x3, x4, y0, y1, y2, y3⟩)
  have HK5 := hide (show ∀ w' u0 u1 u2 u3 u4, Below W.heap.size W w' → ((((((w'.setCell ⟨w.heap.size, 0, none⟩ u0).setCell ⟨w.heap.size, 1, none⟩ u1).setCell ⟨w.heap.size, 2, none⟩ u2).setCell ⟨w.heap.size, 3, none⟩ u3).setCell ⟨w.heap.size, 4, none⟩ u4).cell? ⟨B0, 0, none⟩ = some (.bool s.ln) ∧ (((((w'.setCell ⟨w.heap.size, 0, none⟩ u0).setCell ⟨w.heap.size, 1, none⟩ u1).setCell ⟨w.heap.size, 2, none⟩ u2).setCell ⟨w.heap.size, 3, none⟩ u3).setCell ⟨w.heap.size, 4, none⟩ u4).cell? ⟨B0, 1, none⟩ = some (.slice s.la s.lN s.lc) ∧ (((((w'.setCell ⟨w.heap.size, 0, none⟩ u0).setCell ⟨w.heap.size, 1, none⟩ u1).setCell ⟨w.heap.size, 2, none⟩ u2).setCell ⟨w.heap.size, 3, none⟩ u3).setCell ⟨w.heap.size, 4, none⟩ u4).cell? ⟨B0, 2, none⟩ = some (.bool s.hn) ∧ (((((w'.setCell ⟨w.heap.size, 0, none⟩ u0).setCell ⟨w.heap.size, 1, none⟩ u1).setCell ⟨w.heap.size, 2, none⟩ u2).setCell ⟨w.heap.size, 3, none⟩ u3).setCell ⟨w.heap.size, 4, none⟩ u4).cell? ⟨B0, 3, none⟩ = some (.slice s.ha s.hN s.hc) ∧ (((((w'.setCell ⟨w.heap.size, 0, none⟩ u0).setCell ⟨w.heap.size, 1, none⟩ u1).setCell ⟨w.heap.size, 2, none⟩ u2).setCell ⟨w.heap.size, 3, none⟩ u3).setCell ⟨w.heap.size, 4, none⟩ u4).cell? ⟨B0, 4, none⟩ = some (.int .i64 s.bits) ∧ (((((w'.setCell ⟨w.heap.size, 0, none⟩ u0).setCell ⟨w.heap.size, 1, none⟩ u1).setCell ⟨w.heap.size, 2, none⟩ u2).setCell ⟨w.heap.size, 3, none⟩ u3).setCell ⟨w.heap.size, 4, none⟩ u4).cell? ⟨B1, 0, none⟩ = some (.bool t.ln) ∧ (((((w'.setCell ⟨w.heap.size, 0, none⟩ u0).setCell ⟨w.heap.size, 1, none⟩ u1).setCell ⟨w.heap.size, 2, none⟩ u2).setCell ⟨w.heap.size, 3, none⟩ u3).setCell ⟨w.heap.size, 4, none⟩ u4).cell? ⟨B1, 1, none⟩ = some (.slice t.la t.lN t.lc) ∧ (((((w'.setCell ⟨w.heap.size, 0, none⟩ u0).setCell ⟨w.heap.size, 1, none⟩ u1).setCell ⟨w.heap.size, 2, none⟩ u2).setCell ⟨w.heap.size, 3, none⟩ u3).setCell ⟨w.heap.size, 4, none⟩ u4).cell? ⟨B1, 2, none⟩ = some (.bool t.hn) ∧ (((((w'.setCell ⟨w.heap.size, 0, none⟩ u0).setCell ⟨w.heap.size, 1, none⟩ u1).setCell ⟨w.heap.size, 2, none⟩ u2).setCell ⟨w.heap.size, 3, none⟩ u3).setCell ⟨w.heap.size, 4, none⟩ u4).cell? ⟨B1, 3, none⟩ = some (.slice t.ha t.hN t.hc)) from fun w' u0 u1 u2 u3 u4 hB => by
    obtain ⟨x0, x1, x2, x3, x4⟩ := (a0.below hB).put (Nat.ne_of_lt l0) u0 u1 u2 u3 u4
    obtain ⟨y0, y1, y2, y3, y4⟩ := (g0.below hB).put (Nat.ne_of_lt l1) u0 u1 u2 u3 u4
    exact ⟨x0, x1, x2, x3, x4, y0, y1, y2, y3⟩)
  go_enter Try.func87, Try.ntmps87
  go_wp2
  obtain ⟨x0, x1, x2, x3, x4⟩ := a0
  obtain ⟨y0, y1, y2, y3, y4⟩ := g0
  rw [← hW]
  clear hW
  go_region_held3 (fun w' => w'.cell? ⟨B0, 0, none⟩ = some (.bool s.ln) ∧ w'.cell? ⟨B0, 1, none⟩ = some (.slice s.la s.lN s.lc) ∧ w'.cell? ⟨B0, 2, none⟩ = some (.bool s.hn) ∧ w'.cell? ⟨B0, 3, none⟩ = some (.slice s.ha s.hN s.hc) ∧ w'.cell? ⟨B0, 4, none⟩ = some (.int .i64 s.bits) ∧ w'.cell? ⟨B1, 0, none⟩ = some (.bool t.ln) ∧ w'.cell? ⟨B1, 1, none⟩ = some (.slice t.la t.lN t.lc) ∧ w'.cell? ⟨B1, 2, none⟩ = some (.bool t.hn) ∧ w'.cell? ⟨B1, 3, none⟩ = some (.slice t.ha t.hN t.hc)) (first | exact unhide HK _ (by first | with_reducible exact hB0 | with_reducible exact (bl1 _ _).drew | with_reducible exact (bl2 _ _ _).drew | with_reducible exact hB2 | with_reducible exact hB1 | with_reducible exact balloc hB1 _ ) | exact unhide HK5 _ _ _ _ _ _ hB2)
    (first
      | (go_at_call 88; refine (leastw_fr _ 1 _ k (pr ⟨s.ln, s.la, s.lN, s.lc⟩ ⟨t.ln, t.la, t.lN, t.lc⟩) (pr lo lo') _ (by first | with_reducible exact (nums2' W W.heap.size rfl ⟨s.ln, s.la, s.lN, s.lc⟩ ⟨t.ln, t.la, t.lN, t.lc⟩ k lo lo' _ (unhide HS).lo (unhide HT).lo).below (Below.refl _ _).drew | with_reducible exact (nums2' W W.heap.size rfl ⟨s.ln, s.la, s.lN, s.lc⟩ ⟨t.ln, t.la, t.lN, t.lc⟩ k lo lo' _ (unhide HS).lo (unhide HT).lo).below (bl1 _ _).drew | with_reducible exact (nums2' (W.alloc _) (W.heap.size + 1) (by simp) ⟨s.ln, s.la, s.lN, s.lc⟩ ⟨t.ln, t.la, t.lN, t.lc⟩ k lo lo' _ ((unhide HS).lo.below (bl1 _ _)) ((unhide HT).lo.below (bl1 _ _))).below (Below.refl _ _).drew) (by omega) (by omega)).mono ?_; rintro r w1 ⟨neg1, a1, n1, c1, rfl, hint1, hb1, fr1⟩; have hB1 : Below W.heap.size W w1 := (by first | with_reducible exact bthen (bl1 _ _).drew hb1 | with_reducible exact bthen (bl2 _ _ _).drew hb1); have fr1 := fr1.mono (m' := w.heap.size) (Nat.le_trans hBW.size (by first | with_reducible exact (bl1 _ _).drew.size | with_reducible exact (bl2 _ _ _).drew.size)))
      | (go_at_call 89; refine (most_fr _ 1 _ k (pr ⟨s.hn, s.ha, s.hN, s.hc⟩ ⟨t.hn, t.ha, t.hN, t.hc⟩) (pr hi hi') _ (by first | with_reducible exact nums2' w1 w1.heap.size rfl ⟨s.hn, s.ha, s.hN, s.hc⟩ ⟨t.hn, t.ha, t.hN, t.hc⟩ k hi hi' _ ((unhide HS).hi.below hB1) ((unhide HT).hi.below hB1) | with_reducible exact (nums2' (W.alloc _) (W.heap.size + 1) (by simp) ⟨s.hn, s.ha, s.hN, s.hc⟩ ⟨t.hn, t.ha, t.hN, t.hc⟩ k hi hi' _ ((unhide HS).hi.below (bl1 _ _)) ((unhide HT).hi.below (bl1 _ _))).below (bthen (Below.refl _ _).drew hb1) | with_reducible exact (nums2' W W.heap.size rfl ⟨s.hn, s.ha, s.hN, s.hc⟩ ⟨t.hn, t.ha, t.hN, t.hc⟩ k hi hi' _ (unhide HS).hi (unhide HT).hi).below (bthen (bl1 _ _).drew hb1)) (by omega) (by omega)).mono ?_; rintro r w2 ⟨neg2, a2, n2, c2, rfl, hint2, hb2, fr2⟩; have hB12 : Below w1.heap.size w1 w2 := (by first | with_reducible exact hb2 | with_reducible exact bthen (bl1 _ _) hb2); have fr1 := fr1.below hB12; have fr2 := fr2.mono (m' := w.heap.size) (Nat.le_trans (bthen hBW hB1).size (by first | with_reducible exact Nat.le_refl _ | with_reducible exact (bl1 _ _).size)); have hint1 := hint1.below hB12; have hB2 := bthen hB1 hB12; obtain ⟨q0, q1, q2, q3, q4, q5⟩ := r0.below hB2; have x5 := unhide HK _ hB2))
  all_goals
    go_wp2
    refine bodyPost_ret (v := .tuple #[.agg #[.bool neg1, .slice a1 n1 c1, .bool neg2, .slice a2 n2 c2, .int .i64 s.bits], .int .i64 0]) (by simp [results, Try.results87, go_sem, q0, q1, q2, q3, q4]) rfl ⟨⟨neg1, a1, n1, c1, neg2, a2, n2, c2, s.bits⟩, rfl, rfl, ?_, ?_, ?_⟩
    · exact SpAt.put5 ⟨hint1, hint2⟩ q0 q1 q2 q3 q4 _ _ _ _ _
    · exact set5 (bthen hBW hB2) (Nat.le_refl _) _ _ _ _ _
    · exact MineS.put5 _ _ _ _ _ _ (h := ⟨fr1, fr2⟩)

set_option maxRecDepth 100000 in
set_option maxHeartbeats 2000000 in
theorem madeF_bad_Add (p1 p2 : Value) (B : Nat) (W : World) (f : Nat → Sp) (d e : Nat → Nat → Int) (n cap : Nat) (hn : n ≤ 1000) (hS : Spans W B n f d e) (E : Int) (h0 : ∀ z, Flt (fun j => chkE (f j) (d j) (e j)) (fun j => (f j).bits) n z → z = E) (hE : E ≠ 0) (k : Nat) :
    Calls Try.prog 72 #[.func (.func 81) #[] #[p1, p2], .slice (some ⟨B, 0, none⟩) n cap] W (PairF W 0 k 0 0 E) := by
  have HZ := hide h0
  have HS := hide hS
  have hE' : (E != 0) = true := by simpa using hE
  clear h0 hS hE
  go_enter Try.func72, Try.ntmps72
  go_wp2_with fail
  refine (fault_any _ _ _ f d e _ ((unhide HS).below (bl1 _ _)) hn).mono ?_
  rintro r w1 ⟨z, rfl, hz, hb1'⟩
  have hz0 := unhide HZ z hz
  subst hz0
  obtain ⟨q0, q1, q2, q3, q4, q5⟩ := (noc_new W 26).below hb1'
  have hB1 : Below W.heap.size W w1 := bthen (bl1 _ _) hb1'
  clear hz
  go_wp2_with fail
  refine bodyPost_ret (v := .tuple #[.agg #[.bool false, .slice none 0 0, .bool false, .slice none 0 0, .int .i64 0], .int .i64 z]) (by simp [results, Try.results72, go_sem, q0, q1, q2, q3, q4]) rfl ⟨⟨false, none, 0, 0, false, none, 0, 0, 0⟩, rfl, rfl, zeroSp _ _, ?_, zeroMine _ _⟩
  exact set5 hB1 (Nat.le_refl _) _ _ _ _ _

set_option maxRecDepth 100000 in
set_option maxHeartbeats 2000000 in
theorem madeF_fit_Add (p1 p2 : Value) (B : Nat) (W : World) (f : Nat → Sp) (d e : Nat → Nat → Int) (n cap : Nat) (hn : n ≤ 1000) (hS : Spans W B n f d e) (h0 : ∀ z, Flt (fun j => chkE (f j) (d j) (e j)) (fun j => (f j).bits) n z → z = 0) (b : Int) (k : Nat) (lo hi : Int)
    (hF : ∀ w', Below W.heap.size W w' → Calls Try.prog 81 #[p1, p2] w' (PairF w' b k lo hi 0)) (hle : lo ≤ hi) (hb1 : 1 ≤ b) (hb2 : b ≤ 120) :
    Calls Try.prog 72 #[.func (.func 81) #[] #[p1, p2], .slice (some ⟨B, 0, none⟩) n cap] W (PairF W (fitZ lo hi b) k (fitZ lo hi lo) (fitZ lo hi hi) (fitE lo hi)) := by
  have HF := hide hF
  have HZ := hide h0
  have HS := hide hS
  clear hF h0 hS
  go_enter Try.func72, Try.ntmps72
  go_wp2_with fail
  refine (fault_any _ _ _ f d e _ ((unhide HS).below (bl1 _ _)) hn).mono ?_
  rintro r w1 ⟨z, rfl, hz, hb1'⟩
  have hz0 := unhide HZ z hz
  subst hz0
  have hN1 := (noc_new W 26).below hb1'
  have hB1 : Below W.heap.size W w1 := bthen (bl1 _ _) hb1'
  clear hz
  go_wp2_with fail
  refine (unhide HF _ hB1).mono ?_
  rintro r w2 ⟨s, rfl, hsb, hsp, hb3, fr⟩
  have hB2 := bthen hB1 hb3
  have hN2 := hN1.below hb3
  have hlt := hN2.lt
  obtain ⟨dd, ee, hdig, hchk⟩ := chk_fit hsp hle (by omega) (by omega)
  obtain ⟨q0, q1, q2, q3, q4, q5⟩ := hN2
  have HB := hide hsb
  have HC := hide hchk
  clear hsb hb1' hchk
  go_wp2_with fail
  refine (fit_any _ s dd ee (hdig.below (bl1 _ _))).mono ?_
  rintro r w3 ⟨hr, hb4⟩
  have hB3 : Below w2.heap.size w2 w3 := bthen (bl1 _ _) hb4
  have hN3 := (NoC.mk q0 q1 q2 q3 q4 q5).below hB3
  obtain ⟨t0, t1, t2, t3, t4, t5⟩ := hN3
  have hr' : ∃ u : Sp, r = .returned (.tuple #[.agg #[.bool u.ln, .slice u.la u.lN u.lc, .bool u.hn, .slice u.ha u.hN u.hc, .int .i64 u.bits], .int .i64 (fitE lo hi)]) ∧ u.bits = fitZ lo hi b ∧ SpAt w3 u k (fitZ lo hi lo) (fitZ lo hi hi) ∧ MineS W.heap.size w3 u := by
    have hc := unhide HC
    rcases fit_cases lo hi with ⟨_, f2, f3⟩ | ⟨_, f2, f3⟩
    · rcases hr with ⟨h1, h⟩ | ⟨h1, h⟩
      · omega
      · refine ⟨⟨false, none, 0, 0, false, none, 0, 0, 0⟩, by rw [h, hc], by rw [f3], ?_, zeroMine _ _⟩
        rw [f3, f3]; exact zeroSp _ _
    · rcases hr with ⟨h1, h⟩ | ⟨h1, h⟩
      · refine ⟨s, by rw [h, f2], by rw [f3]; exact unhide HB, ?_, (fr.mono hB1.size).below hB3⟩
        rw [f3, f3]; exact hsp.below hB3
      · omega
  obtain ⟨u, hru, hub, hup, fru⟩ := hr'
  clear hr
  rw [hru]
  clear hru
  have HU := hide hub
  clear hub
  have hB9 := bthen hB2 hB3
  generalize fitE lo hi = er at *
  go_wp2_with fail
  refine bodyPost_ret (v := .tuple #[.agg #[.bool u.ln, .slice u.la u.lN u.lc, .bool u.hn, .slice u.ha u.hN u.hc, .int .i64 u.bits], .int .i64 er]) (by simp [results, Try.results72, go_sem, t0, t1, t2, t3, t4]) rfl ⟨u, rfl, unhide HU, ?_, ?_, ?_⟩
  · exact SpAt.putN hup ⟨t0, t1, t2, t3, t4, t5⟩ _ _ _ _ _
  · exact set5 hB9 (Nat.le_refl _) _ _ _ _ _
  · exact fru.put5 _ _ _ _ _ _

set_option maxRecDepth 100000 in
set_option maxHeartbeats 2000000 in
theorem spanF_Add (w : World) (s t : Sp) (d e d' e' : Nat → Int) (hs : SpDig w s d e) (ht : SpDig w t d' e') (b' : Int) (k : Nat) (lo hi er : Int)
    (hM : ∀ (W : World) (B0 B1 B cap : Nat), Below w.heap.size w W → SpC W B0 s → SpC W B1 t → Spans W B 2 (pr s t) (pr d d') (pr e e') → Calls Try.prog 72 #[.func (.func 81) #[] #[.pointer (some ⟨B0, 0, none⟩), .pointer (some ⟨B1, 0, none⟩)], .slice (some ⟨B, 0, none⟩) 2 cap] W (PairF W b' k lo hi er)) :
    Calls Try.prog 27 #[.agg #[.bool s.ln, .slice s.la s.lN s.lc, .bool s.hn, .slice s.ha s.hN s.hc, .int .i64 s.bits], .agg #[.bool t.ln, .slice t.la t.lN t.lc, .bool t.hn, .slice t.ha t.hN t.hc, .int .i64 t.bits]] w (PairF w b' k lo hi er) := by
  have HM := hide hM
  have HS := hide (fun W hS hT => spans2 W s t d e d' e' 26 hS hT)
  clear hM
  go_enter Try.func27, Try.ntmps27
  go_wp2_with fail
  obtain ⟨W, hW⟩ : ∃ W, W = ((w.alloc (.cells #[.bool s.ln, .slice s.la s.lN s.lc, .bool s.hn, .slice s.ha s.hN s.hc, .int .i64 s.bits] 26)).alloc (.cells #[.bool t.ln, .slice t.la t.lN t.lc, .bool t.hn, .slice t.ha t.hN t.hc, .int .i64 t.bits] 26)).alloc (.cells #[.bool false, .slice none 0 0, .bool false, .slice none 0 0, .int .i64 0] 26) := ⟨_, rfl⟩
  have s3 : W.heap.size = w.heap.size + 1 + 1 + 1 := by rw [hW]; simp
  have hBW : Below w.heap.size w W := by rw [hW]; exact bl3 _ _ _ _
  have a0 : SpC W w.heap.size s := by rw [hW]; exact ⟨by simp [go_sem], by simp [go_sem], by simp [go_sem], by simp [go_sem], by simp [go_sem]⟩
  have g0 : SpC W (w.heap.size + 1) t := by rw [hW]; exact ⟨by simp [go_sem], by simp [go_sem], by simp [go_sem], by simp [go_sem], by simp [go_sem]⟩
  have r0 : NoC W (w.heap.size + 1 + 1) := by rw [hW]; exact ⟨by simp [go_sem], by simp [go_sem], by simp [go_sem], by simp [go_sem], by simp [go_sem], fun o => by simp [go_sem]⟩
  rw [← hW, ← s3]
  clear hW
  refine (unhide HM _ _ _ _ _ (bthen hBW (bl1 _ _)) (a0.below (bl1 _ _)) (g0.below (bl1 _ _)) (unhide HS W (hs.below hBW) (ht.below hBW))).mono ?_
  rintro r w1 ⟨u, rfl, hub, hup, hb1, fr⟩
  have hB1 : Below W.heap.size W w1 := bthen (bl1 _ _) hb1
  obtain ⟨q0, q1, q2, q3, q4, q5⟩ := r0.below hB1
  have HB := hide hub
  clear hub
  go_wp2_with fail
  refine bodyPost_ret (v := .tuple #[.agg #[.bool u.ln, .slice u.la u.lN u.lc, .bool u.hn, .slice u.ha u.hN u.hc, .int .i64 u.bits], .int .i64 er]) (by simp [results, Try.results27, go_sem, q0, q1, q2, q3, q4]) rfl ⟨u, rfl, unhide HB, ?_, ?_, ?_⟩
  · exact SpAt.put5 hup q0 q1 q2 q3 q4 _ _ _ _ _
  · exact set5 (bthen hBW hB1) (by omega) _ _ _ _ _
  · exact (fr.mono (bthen hBW (bl1 _ _)).size).put5 _ _ _ _ _ _

set_option maxRecDepth 100000 in
set_option maxHeartbeats 2000000 in
theorem madeF_bad_Mul (p1 p2 : Value) (B : Nat) (W : World) (f : Nat → Sp) (d e : Nat → Nat → Int) (n cap : Nat) (hn : n ≤ 1000) (hS : Spans W B n f d e) (E : Int) (h0 : ∀ z, Flt (fun j => chkE (f j) (d j) (e j)) (fun j => (f j).bits) n z → z = E) (hE : E ≠ 0) (k : Nat) :
    Calls Try.prog 72 #[.func (.func 85) #[] #[p1, p2], .slice (some ⟨B, 0, none⟩) n cap] W (PairF W 0 k 0 0 E) := by
  have HZ := hide h0
  have HS := hide hS
  have hE' : (E != 0) = true := by simpa using hE
  clear h0 hS hE
  go_enter Try.func72, Try.ntmps72
  go_wp2_with fail
  refine (fault_any _ _ _ f d e _ ((unhide HS).below (bl1 _ _)) hn).mono ?_
  rintro r w1 ⟨z, rfl, hz, hb1'⟩
  have hz0 := unhide HZ z hz
  subst hz0
  obtain ⟨q0, q1, q2, q3, q4, q5⟩ := (noc_new W 26).below hb1'
  have hB1 : Below W.heap.size W w1 := bthen (bl1 _ _) hb1'
  clear hz
  go_wp2_with fail
  refine bodyPost_ret (v := .tuple #[.agg #[.bool false, .slice none 0 0, .bool false, .slice none 0 0, .int .i64 0], .int .i64 z]) (by simp [results, Try.results72, go_sem, q0, q1, q2, q3, q4]) rfl ⟨⟨false, none, 0, 0, false, none, 0, 0, 0⟩, rfl, rfl, zeroSp _ _, ?_, zeroMine _ _⟩
  exact set5 hB1 (Nat.le_refl _) _ _ _ _ _

set_option maxRecDepth 100000 in
set_option maxHeartbeats 2000000 in
theorem madeF_fit_Mul (p1 p2 : Value) (B : Nat) (W : World) (f : Nat → Sp) (d e : Nat → Nat → Int) (n cap : Nat) (hn : n ≤ 1000) (hS : Spans W B n f d e) (h0 : ∀ z, Flt (fun j => chkE (f j) (d j) (e j)) (fun j => (f j).bits) n z → z = 0) (b : Int) (k : Nat) (lo hi : Int)
    (hF : ∀ w', Below W.heap.size W w' → Calls Try.prog 85 #[p1, p2] w' (PairF w' b k lo hi 0)) (hle : lo ≤ hi) (hb1 : 1 ≤ b) (hb2 : b ≤ 120) :
    Calls Try.prog 72 #[.func (.func 85) #[] #[p1, p2], .slice (some ⟨B, 0, none⟩) n cap] W (PairF W (fitZ lo hi b) k (fitZ lo hi lo) (fitZ lo hi hi) (fitE lo hi)) := by
  have HF := hide hF
  have HZ := hide h0
  have HS := hide hS
  clear hF h0 hS
  go_enter Try.func72, Try.ntmps72
  go_wp2_with fail
  refine (fault_any _ _ _ f d e _ ((unhide HS).below (bl1 _ _)) hn).mono ?_
  rintro r w1 ⟨z, rfl, hz, hb1'⟩
  have hz0 := unhide HZ z hz
  subst hz0
  have hN1 := (noc_new W 26).below hb1'
  have hB1 : Below W.heap.size W w1 := bthen (bl1 _ _) hb1'
  clear hz
  go_wp2_with fail
  refine (unhide HF _ hB1).mono ?_
  rintro r w2 ⟨s, rfl, hsb, hsp, hb3, fr⟩
  have hB2 := bthen hB1 hb3
  have hN2 := hN1.below hb3
  have hlt := hN2.lt
  obtain ⟨dd, ee, hdig, hchk⟩ := chk_fit hsp hle (by omega) (by omega)
  obtain ⟨q0, q1, q2, q3, q4, q5⟩ := hN2
  have HB := hide hsb
  have HC := hide hchk
  clear hsb hb1' hchk
  go_wp2_with fail
  refine (fit_any _ s dd ee (hdig.below (bl1 _ _))).mono ?_
  rintro r w3 ⟨hr, hb4⟩
  have hB3 : Below w2.heap.size w2 w3 := bthen (bl1 _ _) hb4
  have hN3 := (NoC.mk q0 q1 q2 q3 q4 q5).below hB3
  obtain ⟨t0, t1, t2, t3, t4, t5⟩ := hN3
  have hr' : ∃ u : Sp, r = .returned (.tuple #[.agg #[.bool u.ln, .slice u.la u.lN u.lc, .bool u.hn, .slice u.ha u.hN u.hc, .int .i64 u.bits], .int .i64 (fitE lo hi)]) ∧ u.bits = fitZ lo hi b ∧ SpAt w3 u k (fitZ lo hi lo) (fitZ lo hi hi) ∧ MineS W.heap.size w3 u := by
    have hc := unhide HC
    rcases fit_cases lo hi with ⟨_, f2, f3⟩ | ⟨_, f2, f3⟩
    · rcases hr with ⟨h1, h⟩ | ⟨h1, h⟩
      · omega
      · refine ⟨⟨false, none, 0, 0, false, none, 0, 0, 0⟩, by rw [h, hc], by rw [f3], ?_, zeroMine _ _⟩
        rw [f3, f3]; exact zeroSp _ _
    · rcases hr with ⟨h1, h⟩ | ⟨h1, h⟩
      · refine ⟨s, by rw [h, f2], by rw [f3]; exact unhide HB, ?_, (fr.mono hB1.size).below hB3⟩
        rw [f3, f3]; exact hsp.below hB3
      · omega
  obtain ⟨u, hru, hub, hup, fru⟩ := hr'
  clear hr
  rw [hru]
  clear hru
  have HU := hide hub
  clear hub
  have hB9 := bthen hB2 hB3
  generalize fitE lo hi = er at *
  go_wp2_with fail
  refine bodyPost_ret (v := .tuple #[.agg #[.bool u.ln, .slice u.la u.lN u.lc, .bool u.hn, .slice u.ha u.hN u.hc, .int .i64 u.bits], .int .i64 er]) (by simp [results, Try.results72, go_sem, t0, t1, t2, t3, t4]) rfl ⟨u, rfl, unhide HU, ?_, ?_, ?_⟩
  · exact SpAt.putN hup ⟨t0, t1, t2, t3, t4, t5⟩ _ _ _ _ _
  · exact set5 hB9 (Nat.le_refl _) _ _ _ _ _
  · exact fru.put5 _ _ _ _ _ _

set_option maxRecDepth 100000 in
set_option maxHeartbeats 2000000 in
theorem spanF_Mul (w : World) (s t : Sp) (d e d' e' : Nat → Int) (hs : SpDig w s d e) (ht : SpDig w t d' e') (b' : Int) (k : Nat) (lo hi er : Int)
    (hM : ∀ (W : World) (B0 B1 B cap : Nat), Below w.heap.size w W → SpC W B0 s → SpC W B1 t → Spans W B 2 (pr s t) (pr d d') (pr e e') → Calls Try.prog 72 #[.func (.func 85) #[] #[.pointer (some ⟨B0, 0, none⟩), .pointer (some ⟨B1, 0, none⟩)], .slice (some ⟨B, 0, none⟩) 2 cap] W (PairF W b' k lo hi er)) :
    Calls Try.prog 29 #[.agg #[.bool s.ln, .slice s.la s.lN s.lc, .bool s.hn, .slice s.ha s.hN s.hc, .int .i64 s.bits], .agg #[.bool t.ln, .slice t.la t.lN t.lc, .bool t.hn, .slice t.ha t.hN t.hc, .int .i64 t.bits]] w (PairF w b' k lo hi er) := by
  have HM := hide hM
  have HS := hide (fun W hS hT => spans2 W s t d e d' e' 26 hS hT)
  clear hM
  go_enter Try.func29, Try.ntmps29
  go_wp2_with fail
  obtain ⟨W, hW⟩ : ∃ W, W = ((w.alloc (.cells #[.bool s.ln, .slice s.la s.lN s.lc, .bool s.hn, .slice s.ha s.hN s.hc, .int .i64 s.bits] 26)).alloc (.cells #[.bool t.ln, .slice t.la t.lN t.lc, .bool t.hn, .slice t.ha t.hN t.hc, .int .i64 t.bits] 26)).alloc (.cells #[.bool false, .slice none 0 0, .bool false, .slice none 0 0, .int .i64 0] 26) := ⟨_, rfl⟩
  have s3 : W.heap.size = w.heap.size + 1 + 1 + 1 := by rw [hW]; simp
  have hBW : Below w.heap.size w W := by rw [hW]; exact bl3 _ _ _ _
  have a0 : SpC W w.heap.size s := by rw [hW]; exact ⟨by simp [go_sem], by simp [go_sem], by simp [go_sem], by simp [go_sem], by simp [go_sem]⟩
  have g0 : SpC W (w.heap.size + 1) t := by rw [hW]; exact ⟨by simp [go_sem], by simp [go_sem], by simp [go_sem], by simp [go_sem], by simp [go_sem]⟩
  have r0 : NoC W (w.heap.size + 1 + 1) := by rw [hW]; exact ⟨by simp [go_sem], by simp [go_sem], by simp [go_sem], by simp [go_sem], by simp [go_sem], fun o => by simp [go_sem]⟩
  rw [← hW, ← s3]
  clear hW
  refine (unhide HM _ _ _ _ _ (bthen hBW (bl1 _ _)) (a0.below (bl1 _ _)) (g0.below (bl1 _ _)) (unhide HS W (hs.below hBW) (ht.below hBW))).mono ?_
  rintro r w1 ⟨u, rfl, hub, hup, hb1, fr⟩
  have hB1 : Below W.heap.size W w1 := bthen (bl1 _ _) hb1
  obtain ⟨q0, q1, q2, q3, q4, q5⟩ := r0.below hB1
  have HB := hide hub
  clear hub
  go_wp2_with fail
  refine bodyPost_ret (v := .tuple #[.agg #[.bool u.ln, .slice u.la u.lN u.lc, .bool u.hn, .slice u.ha u.hN u.hc, .int .i64 u.bits], .int .i64 er]) (by simp [results, Try.results29, go_sem, q0, q1, q2, q3, q4]) rfl ⟨u, rfl, unhide HB, ?_, ?_, ?_⟩
  · exact SpAt.put5 hup q0 q1 q2 q3 q4 _ _ _ _ _
  · exact set5 (bthen hBW hB1) (by omega) _ _ _ _ _
  · exact (fr.mono (bthen hBW (bl1 _ _)).size).put5 _ _ _ _ _ _

set_option maxRecDepth 100000 in
set_option maxHeartbeats 2000000 in
theorem madeF_bad_Hull (p1 p2 : Value) (B : Nat) (W : World) (f : Nat → Sp) (d e : Nat → Nat → Int) (n cap : Nat) (hn : n ≤ 1000) (hS : Spans W B n f d e) (E : Int) (h0 : ∀ z, Flt (fun j => chkE (f j) (d j) (e j)) (fun j => (f j).bits) n z → z = E) (hE : E ≠ 0) (k : Nat) :
    Calls Try.prog 72 #[.func (.func 87) #[] #[p1, p2], .slice (some ⟨B, 0, none⟩) n cap] W (PairF W 0 k 0 0 E) := by
  have HZ := hide h0
  have HS := hide hS
  have hE' : (E != 0) = true := by simpa using hE
  clear h0 hS hE
  go_enter Try.func72, Try.ntmps72
  go_wp2_with fail
  refine (fault_any _ _ _ f d e _ ((unhide HS).below (bl1 _ _)) hn).mono ?_
  rintro r w1 ⟨z, rfl, hz, hb1'⟩
  have hz0 := unhide HZ z hz
  subst hz0
  obtain ⟨q0, q1, q2, q3, q4, q5⟩ := (noc_new W 26).below hb1'
  have hB1 : Below W.heap.size W w1 := bthen (bl1 _ _) hb1'
  clear hz
  go_wp2_with fail
  refine bodyPost_ret (v := .tuple #[.agg #[.bool false, .slice none 0 0, .bool false, .slice none 0 0, .int .i64 0], .int .i64 z]) (by simp [results, Try.results72, go_sem, q0, q1, q2, q3, q4]) rfl ⟨⟨false, none, 0, 0, false, none, 0, 0, 0⟩, rfl, rfl, zeroSp _ _, ?_, zeroMine _ _⟩
  exact set5 hB1 (Nat.le_refl _) _ _ _ _ _

set_option maxRecDepth 100000 in
set_option maxHeartbeats 2000000 in
theorem madeF_fit_Hull (p1 p2 : Value) (B : Nat) (W : World) (f : Nat → Sp) (d e : Nat → Nat → Int) (n cap : Nat) (hn : n ≤ 1000) (hS : Spans W B n f d e) (h0 : ∀ z, Flt (fun j => chkE (f j) (d j) (e j)) (fun j => (f j).bits) n z → z = 0) (b : Int) (k : Nat) (lo hi : Int)
    (hF : ∀ w', Below W.heap.size W w' → Calls Try.prog 87 #[p1, p2] w' (PairF w' b k lo hi 0)) (hle : lo ≤ hi) (hb1 : 1 ≤ b) (hb2 : b ≤ 120) :
    Calls Try.prog 72 #[.func (.func 87) #[] #[p1, p2], .slice (some ⟨B, 0, none⟩) n cap] W (PairF W (fitZ lo hi b) k (fitZ lo hi lo) (fitZ lo hi hi) (fitE lo hi)) := by
  have HF := hide hF
  have HZ := hide h0
  have HS := hide hS
  clear hF h0 hS
  go_enter Try.func72, Try.ntmps72
  go_wp2_with fail
  refine (fault_any _ _ _ f d e _ ((unhide HS).below (bl1 _ _)) hn).mono ?_
  rintro r w1 ⟨z, rfl, hz, hb1'⟩
  have hz0 := unhide HZ z hz
  subst hz0
  have hN1 := (noc_new W 26).below hb1'
  have hB1 : Below W.heap.size W w1 := bthen (bl1 _ _) hb1'
  clear hz
  go_wp2_with fail
  refine (unhide HF _ hB1).mono ?_
  rintro r w2 ⟨s, rfl, hsb, hsp, hb3, fr⟩
  have hB2 := bthen hB1 hb3
  have hN2 := hN1.below hb3
  have hlt := hN2.lt
  obtain ⟨dd, ee, hdig, hchk⟩ := chk_fit hsp hle (by omega) (by omega)
  obtain ⟨q0, q1, q2, q3, q4, q5⟩ := hN2
  have HB := hide hsb
  have HC := hide hchk
  clear hsb hb1' hchk
  go_wp2_with fail
  refine (fit_any _ s dd ee (hdig.below (bl1 _ _))).mono ?_
  rintro r w3 ⟨hr, hb4⟩
  have hB3 : Below w2.heap.size w2 w3 := bthen (bl1 _ _) hb4
  have hN3 := (NoC.mk q0 q1 q2 q3 q4 q5).below hB3
  obtain ⟨t0, t1, t2, t3, t4, t5⟩ := hN3
  have hr' : ∃ u : Sp, r = .returned (.tuple #[.agg #[.bool u.ln, .slice u.la u.lN u.lc, .bool u.hn, .slice u.ha u.hN u.hc, .int .i64 u.bits], .int .i64 (fitE lo hi)]) ∧ u.bits = fitZ lo hi b ∧ SpAt w3 u k (fitZ lo hi lo) (fitZ lo hi hi) ∧ MineS W.heap.size w3 u := by
    have hc := unhide HC
    rcases fit_cases lo hi with ⟨_, f2, f3⟩ | ⟨_, f2, f3⟩
    · rcases hr with ⟨h1, h⟩ | ⟨h1, h⟩
      · omega
      · refine ⟨⟨false, none, 0, 0, false, none, 0, 0, 0⟩, by rw [h, hc], by rw [f3], ?_, zeroMine _ _⟩
        rw [f3, f3]; exact zeroSp _ _
    · rcases hr with ⟨h1, h⟩ | ⟨h1, h⟩
      · refine ⟨s, by rw [h, f2], by rw [f3]; exact unhide HB, ?_, (fr.mono hB1.size).below hB3⟩
        rw [f3, f3]; exact hsp.below hB3
      · omega
  obtain ⟨u, hru, hub, hup, fru⟩ := hr'
  clear hr
  rw [hru]
  clear hru
  have HU := hide hub
  clear hub
  have hB9 := bthen hB2 hB3
  generalize fitE lo hi = er at *
  go_wp2_with fail
  refine bodyPost_ret (v := .tuple #[.agg #[.bool u.ln, .slice u.la u.lN u.lc, .bool u.hn, .slice u.ha u.hN u.hc, .int .i64 u.bits], .int .i64 er]) (by simp [results, Try.results72, go_sem, t0, t1, t2, t3, t4]) rfl ⟨u, rfl, unhide HU, ?_, ?_, ?_⟩
  · exact SpAt.putN hup ⟨t0, t1, t2, t3, t4, t5⟩ _ _ _ _ _
  · exact set5 hB9 (Nat.le_refl _) _ _ _ _ _
  · exact fru.put5 _ _ _ _ _ _

set_option maxRecDepth 100000 in
set_option maxHeartbeats 2000000 in
theorem spanF_Hull (w : World) (s t : Sp) (d e d' e' : Nat → Int) (hs : SpDig w s d e) (ht : SpDig w t d' e') (b' : Int) (k : Nat) (lo hi er : Int)
    (hM : ∀ (W : World) (B0 B1 B cap : Nat), Below w.heap.size w W → SpC W B0 s → SpC W B1 t → Spans W B 2 (pr s t) (pr d d') (pr e e') → Calls Try.prog 72 #[.func (.func 87) #[] #[.pointer (some ⟨B0, 0, none⟩), .pointer (some ⟨B1, 0, none⟩)], .slice (some ⟨B, 0, none⟩) 2 cap] W (PairF W b' k lo hi er)) :
    Calls Try.prog 30 #[.agg #[.bool s.ln, .slice s.la s.lN s.lc, .bool s.hn, .slice s.ha s.hN s.hc, .int .i64 s.bits], .agg #[.bool t.ln, .slice t.la t.lN t.lc, .bool t.hn, .slice t.ha t.hN t.hc, .int .i64 t.bits]] w (PairF w b' k lo hi er) := by
  have HM := hide hM
  have HS := hide (fun W hS hT => spans2 W s t d e d' e' 26 hS hT)
  clear hM
  go_enter Try.func30, Try.ntmps30
  go_wp2_with fail
  obtain ⟨W, hW⟩ : ∃ W, W = ((w.alloc (.cells #[.bool s.ln, .slice s.la s.lN s.lc, .bool s.hn, .slice s.ha s.hN s.hc, .int .i64 s.bits] 26)).alloc (.cells #[.bool t.ln, .slice t.la t.lN t.lc, .bool t.hn, .slice t.ha t.hN t.hc, .int .i64 t.bits] 26)).alloc (.cells #[.bool false, .slice none 0 0, .bool false, .slice none 0 0, .int .i64 0] 26) := ⟨_, rfl⟩
  have s3 : W.heap.size = w.heap.size + 1 + 1 + 1 := by rw [hW]; simp
  have hBW : Below w.heap.size w W := by rw [hW]; exact bl3 _ _ _ _
  have a0 : SpC W w.heap.size s := by rw [hW]; exact ⟨by simp [go_sem], by simp [go_sem], by simp [go_sem], by simp [go_sem], by simp [go_sem]⟩
  have g0 : SpC W (w.heap.size + 1) t := by rw [hW]; exact ⟨by simp [go_sem], by simp [go_sem], by simp [go_sem], by simp [go_sem], by simp [go_sem]⟩
  have r0 : NoC W (w.heap.size + 1 + 1) := by rw [hW]; exact ⟨by simp [go_sem], by simp [go_sem], by simp [go_sem], by simp [go_sem], by simp [go_sem], fun o => by simp [go_sem]⟩
  rw [← hW, ← s3]
  clear hW
  refine (unhide HM _ _ _ _ _ (bthen hBW (bl1 _ _)) (a0.below (bl1 _ _)) (g0.below (bl1 _ _)) (unhide HS W (hs.below hBW) (ht.below hBW))).mono ?_
  rintro r w1 ⟨u, rfl, hub, hup, hb1, fr⟩
  have hB1 : Below W.heap.size W w1 := bthen (bl1 _ _) hb1
  obtain ⟨q0, q1, q2, q3, q4, q5⟩ := r0.below hB1
  have HB := hide hub
  clear hub
  go_wp2_with fail
  refine bodyPost_ret (v := .tuple #[.agg #[.bool u.ln, .slice u.la u.lN u.lc, .bool u.hn, .slice u.ha u.hN u.hc, .int .i64 u.bits], .int .i64 er]) (by simp [results, Try.results30, go_sem, q0, q1, q2, q3, q4]) rfl ⟨u, rfl, unhide HB, ?_, ?_, ?_⟩
  · exact SpAt.put5 hup q0 q1 q2 q3 q4 _ _ _ _ _
  · exact set5 (bthen hBW hB1) (by omega) _ _ _ _ _
  · exact (fr.mono (bthen hBW (bl1 _ _)).size).put5 _ _ _ _ _ _

end Go.Proofs.Ytgmnknmjainabaa
