/-
  What package num answers lies in new memory: of, Add, Sub, Neg, Up, Down.
  What num.short answers, and that it leaves old memory alone.
-/
import Derived.Test.YtgmnknmjainabaaK02
namespace Go.Proofs.Ytgmnknmjainabaa
set_option linter.unusedVariables false
set_option linter.unusedSimpArgs false
set_option linter.unnecessarySimpa false
open Go.RowKit
attribute [local go_sem ↓] Go.wp_at_zero Go.wp_at_succ

/-- The slice lies in a block from m on, that may be written. -/
def Mine (m : Nat) (w : World) (a : Option Addr) (n : Nat) : Prop := 0 < n → ∃ b off, a = some ⟨b, off, none⟩ ∧ m ≤ b ∧ b < w.heap.size ∧ ∀ o, w.frozen? ⟨b, o, none⟩ = false
theorem Mine.below {m : Nat} {w w' : World} {a : Option Addr} {n : Nat} (h : Mine m w a n) (hb : Below w.heap.size w w') : Mine m w' a n := fun hn => by
  obtain ⟨b, off, h1, h2, h3, h4⟩ := h hn
  exact ⟨b, off, h1, h2, Nat.lt_of_lt_of_le h3 hb.size, fun o => (hb.frozen (p := ⟨b, o, none⟩) h3).trans (h4 o)⟩
theorem Mine.mono {m m' : Nat} {w : World} {a : Option Addr} {n : Nat} (h : Mine m w a n) (hm : m' ≤ m) : Mine m' w a n := fun hn => by
  obtain ⟨b, off, h1, h2, h3⟩ := h hn
  exact ⟨b, off, h1, Nat.le_trans hm h2, h3⟩
theorem Mine.take {m : Nat} {w : World} {a : Option Addr} {n n' : Nat} (h : Mine m w a n) (hn : n' ≤ n) : Mine m w a n' := fun h0 => h (Nat.lt_of_lt_of_le h0 hn)
theorem Mine.set {m : Nat} {w : World} {a : Option Addr} {n : Nat} (h : Mine m w a n) (p : Addr) (v : Value) : Mine m (w.setCell p v) a n := fun hn => by
  obtain ⟨b, off, h1, h2, h3, h4⟩ := h hn
  exact ⟨b, off, h1, h2, by simpa [World.setCell] using h3, fun o => by rw [World.frozen?_setCell]; exact h4 o⟩
theorem Mine.nil (m : Nat) (w : World) (a : Option Addr) : Mine m w a 0 := fun h => absurd h (by omega)
theorem mine_row {m : Nat} {w : World} {b t N : Nat} {f : Nat → Value} (h : w.rowIs b t N f) (hm : m ≤ b) : Mine m w (some ⟨b, 0, none⟩) N := fun _ => ⟨b, 0, rfl, hm, h.lt, fun o => h.frozen o⟩
theorem mine_own {w : World} {base : Nat} {e : TypeId} {a : Option Addr} {n cap : Nat} {d : Nat → Int} (h : Own w base e a n cap d) : Mine base w a n := fun h0 => by
  have h' : w.ownsRow base e 1 (.slice a n cap) n (dcells d n) := h
  rcases h'.2 with ⟨hv, h1⟩ | ⟨g, c2, cur, hv, hb, hg, _⟩
  · omega
  · simp only [Value.slice.injEq] at hv
    obtain ⟨rfl, _, rfl⟩ := hv
    obtain ⟨hlt, _⟩ := Array.getElem?_eq_some_iff.1 hg
    exact ⟨g, 0, rfl, hb, hlt, fun o => by simp [World.frozen?, hg]⟩
theorem of_fr (m : Nat) (neg : Bool) (a : Option Addr) (n cap : Nat) (d : Nat → Int) (w : World) (h : Dig w a n cap d) (hm : Mine m w a n) :
    Calls Try.prog 104 #[.bool neg, .slice a n cap] w fun e w' => ∃ neg' a' n' cap', e = .returned (.agg #[.bool neg', .slice a' n' cap']) ∧ IntAt w' neg' a' n' cap' n (sgn neg (V d n)) ∧ Below w.heap.size w w' ∧ Mine m w' a' n' :=
  (of_any neg a n cap d w h).mono fun _ _ ⟨h1, h2⟩ => ⟨_, _, _, _, h1, (ofInt neg h).below h2, h2, (hm.take (trimN_le d n)).below h2⟩
theorem plus_fr (a c : Option Addr) (n m cap cap2 : Nat) (d e : Nat → Int) (w : World) (ha : Dig w a n cap d) (hc : Dig w c m cap2 e) (hn : n ≤ 1000000000) (hm : m ≤ 1000000000) :
    Calls Try.prog 105 #[.slice a n cap, .slice c m cap2] w fun r w' => ∃ a' N, Hid (N = max n m + 1) ∧ r = .returned (.slice a' N N) ∧ Dig w' a' N N (plusD d e n m) ∧ Below w.heap.size w w' ∧ Mine w.heap.size w' a' N :=
  (plus_any a c n m cap cap2 d e w ha hc hn hm).mono fun _ _ ⟨N, h1, h2, h3, h4⟩ => ⟨_, N, h1, h2, rowDig h3 (plusD_dgs _ _ _ _) (by omega), h4, mine_row h3 (Nat.le_refl _)⟩
theorem less_fr (a c : Option Addr) (n m cap cap2 : Nat) (d e : Nat → Int) (w : World) (ha : Dig w a n cap d) (hc : Dig w c m cap2 e) (hn : n ≤ 1000000000) (hm : m ≤ 1000000000) :
    Calls Try.prog 106 #[.slice a n cap, .slice c m cap2] w fun r w' => ∃ a', r = .returned (.slice a' n n) ∧ Dig w' a' n n (lessD d e m) ∧ Below w.heap.size w w' ∧ Mine w.heap.size w' a' n :=
  (less_any a c n m cap cap2 d e w ha hc hn hm).mono fun _ _ ⟨h2, h3, h4⟩ => ⟨_, h2, rowDig h3 (lessD_dgs ha.dgs hc.dgs _) (by omega), h4, mine_row h3 (Nat.le_refl _)⟩

set_option maxRecDepth 100000 in
set_option maxHeartbeats 1000000 in
theorem addAny_fr (neg neg2 : Bool) (a c : Option Addr) (n m cap cap2 : Nat) (d e : Nat → Int) (w : World) (ha : Dig w a n cap d) (hc : Dig w c m cap2 e) (hn : n ≤ 1000000000) (hm : m ≤ 1000000000)
    (h1 : n = 0 ∨ d (n - 1) ≠ 0) (h2 : m = 0 ∨ e (m - 1) ≠ 0) :
    Calls Try.prog 49 #[.agg #[.bool neg, .slice a n cap], .agg #[.bool neg2, .slice c m cap2]] w fun r w' =>
      ∃ neg' a' n' cap', r = .returned (.agg #[.bool neg', .slice a' n' cap']) ∧ IntAt w' neg' a' n' cap' (max n m + 1) (sgn neg (V d n) + sgn neg2 (V e m)) ∧ Below w.heap.size w w' ∧ Mine w.heap.size w' a' n' := by
  by_cases hs : neg = neg2
  · subst hs
    have hs : (neg == neg) = true := by simp
    have ne1 : w.heap.size ≠ w.heap.size + 1 + 1 := by omega
    have ne2 : w.heap.size + 1 + 1 ≠ w.heap.size := by omega
    go_enter Try.func49, Try.ntmps49
    go_wp2
    go_region_held3 (fun w' => w'.cell? ⟨w.heap.size, 0, none⟩ = some (.bool neg) ∧ w'.cell? ⟨w.heap.size, 1, none⟩ = some (.slice a n cap) ∧ w'.cell? ⟨w.heap.size + 1, 1, none⟩ = some (.slice c m cap2)) (go_keep)
      (first
        | (go_at_call 105; refine (plus_fr _ _ _ _ _ _ d e _ (ha.below (bl3 _ _ _ _).drew) (hc.below (bl3 _ _ _ _).drew) hn hm).mono ?_; rintro r w1 ⟨a', N, HN, rfl, hdig, hb, fr1⟩; obtain ⟨hsz, hcell, hfz⟩ := near (w.heap.size + 3) (by simp) hb)
        | (go_at_call 104; refine (of_fr _ _ _ _ _ (plusD d e n m) _ hdig fr1).mono ?_; rintro r w2 ⟨neg', a2, n2, c2, rfl, hint, hb2, fr2⟩; obtain ⟨hsz2, hcell2, hfz2⟩ := near (w.heap.size + 3) hsz hb2))
    go_wp2
    refine bodyPost_ret (v := .agg #[.bool neg', .slice a2 n2 c2]) (by simp [results, Try.results49, go_sem, hcell2, hcell]) rfl ⟨neg', a2, n2, c2, rfl, ?_, ?_, ?_⟩
    · have hV := plus_V ha.dgs hc.dgs n m
      have h0 : w2.cell? ⟨w.heap.size + 1 + 1, 0, none⟩ = some (.bool false) := by simp [hcell2, hcell, go_sem]
      have h1' : w2.cell? ⟨w.heap.size + 1 + 1, 1, none⟩ = some (.slice none 0 0) := by simp [hcell2, hcell, go_sem]
      rw [unhide HN, hV] at hint
      have e1 : sgn neg (V d n + V e m) = sgn neg (V d n) + sgn neg (V e m) := by cases neg <;> simp [sgn]; omega
      rw [e1] at hint
      exact hint.put2 h0 h1' _ _
    · exact ((bthen (bthen (bl3 _ _ _ _).drew hb) hb2).setCell (by simp; omega) _).setCell (by simp; omega) _
    · exact ((fr2.mono (bl3 _ _ _ _).drew.size).set _ _).set _ _
  · have hs2 : (neg == neg2) = false := by simpa using hs
    have ne1 : w.heap.size ≠ w.heap.size + 1 + 1 := by omega
    have ne2 : w.heap.size + 1 + 1 ≠ w.heap.size := by omega
    have hcv := cmpZ_V ha.dgs hc.dgs n m h1 h2
    by_cases hge : 0 ≤ cmpZ d e n m
    · have hle : V e m ≤ V d n := by
        rw [hcv] at hge; unfold cmpInt at hge; split at hge <;> omega
      have hmn : m ≤ n := by
        unfold cmpZ at hge; split at hge <;> omega
      have Hv := hide (show sgn neg (V (lessD d e m) n) = sgn neg (V d n) + sgn neg2 (V e m) by
        rw [less_V ha.dgs hc.dgs n m hmn hle]; cases neg <;> cases neg2 <;> simp [sgn] at * <;> omega)
      clear hcv
      go_enter Try.func49, Try.ntmps49
      go_wp2_with (go_at_call 90; refine (compare_any _ _ _ _ _ _ d e _ (ha.below (bl3 _ _ _ _)) (hc.below (bl3 _ _ _ _))).mono ?_; rintro r w0 ⟨rfl, hb0⟩; obtain ⟨hsz0, hcell0, hfz0⟩ := near (w.heap.size + 3) (by simp) hb0)
      go_region_held3 (fun w' => w'.cell? ⟨w.heap.size, 0, none⟩ = some (.bool neg) ∧ w'.cell? ⟨w.heap.size, 1, none⟩ = some (.slice a n cap) ∧ w'.cell? ⟨w.heap.size + 1, 1, none⟩ = some (.slice c m cap2)) (go_keep)
        (first
          | (go_at_call 106; refine (less_fr _ _ _ _ _ _ d e _ (ha.below (bthen (bl3 _ _ _ _) hb0).drew) (hc.below (bthen (bl3 _ _ _ _) hb0).drew) hn hm).mono ?_; rintro r w1 ⟨a', rfl, hdig, hb, fr1⟩; obtain ⟨hsz, hcell, hfz⟩ := near (w.heap.size + 3) (by exact hsz0) hb)
          | (go_at_call 104; refine (of_fr _ _ _ _ _ (lessD d e m) _ hdig fr1).mono ?_; rintro r w2 ⟨neg', a2, n2, c2, rfl, hint, hb2, fr2⟩; obtain ⟨hsz2, hcell2, hfz2⟩ := near (w.heap.size + 3) hsz hb2))
      go_wp2
      refine bodyPost_ret (v := .agg #[.bool neg', .slice a2 n2 c2]) (by simp [results, Try.results49, go_sem, hcell2, hcell, hcell0]) rfl ⟨neg', a2, n2, c2, rfl, ?_, ?_, ?_⟩
      · have h0 : w2.cell? ⟨w.heap.size + 1 + 1, 0, none⟩ = some (.bool false) := by simp [hcell2, hcell, hcell0, go_sem]
        have h1' : w2.cell? ⟨w.heap.size + 1 + 1, 1, none⟩ = some (.slice none 0 0) := by simp [hcell2, hcell, hcell0, go_sem]
        rw [unhide Hv] at hint
        exact (hint.put2 h0 h1' _ _).mono (by omega)
      · exact ((bthen (bthen (bthen (bl3 _ _ _ _) hb0).drew hb) hb2).setCell (by simp; omega) _).setCell (by simp; omega) _
      · exact ((fr2.mono (bthen (bl3 _ _ _ _) hb0).drew.size).set _ _).set _ _
    · have hle : V d n ≤ V e m := by
        rw [hcv] at hge; unfold cmpInt at hge; split at hge <;> omega
      have hmn : n ≤ m := by
        unfold cmpZ at hge; split at hge <;> (try split at hge) <;> omega
      have Hv := hide (show sgn neg2 (V (lessD e d n) m) = sgn neg (V d n) + sgn neg2 (V e m) by
        rw [less_V hc.dgs ha.dgs m n hmn hle]; cases neg <;> cases neg2 <;> simp [sgn] at * <;> omega)
      clear hcv
      go_enter Try.func49, Try.ntmps49
      go_wp2_with (go_at_call 90; refine (compare_any _ _ _ _ _ _ d e _ (ha.below (bl3 _ _ _ _)) (hc.below (bl3 _ _ _ _))).mono ?_; rintro r w0 ⟨rfl, hb0⟩; obtain ⟨hsz0, hcell0, hfz0⟩ := near (w.heap.size + 3) (by simp) hb0)
      go_region_held3 (fun w' => w'.cell? ⟨w.heap.size + 1, 0, none⟩ = some (.bool neg2) ∧ w'.cell? ⟨w.heap.size + 1, 1, none⟩ = some (.slice c m cap2) ∧ w'.cell? ⟨w.heap.size, 1, none⟩ = some (.slice a n cap)) (go_keep)
        (first
          | (go_at_call 106; refine (less_fr _ _ _ _ _ _ e d _ (hc.below (bthen (bl3 _ _ _ _) hb0).drew) (ha.below (bthen (bl3 _ _ _ _) hb0).drew) hm hn).mono ?_; rintro r w1 ⟨a', rfl, hdig, hb, fr1⟩; obtain ⟨hsz, hcell, hfz⟩ := near (w.heap.size + 3) (by exact hsz0) hb)
          | (go_at_call 104; refine (of_fr _ _ _ _ _ (lessD e d n) _ hdig fr1).mono ?_; rintro r w2 ⟨neg', a2, n2, c2, rfl, hint, hb2, fr2⟩; obtain ⟨hsz2, hcell2, hfz2⟩ := near (w.heap.size + 3) hsz hb2))
      go_wp2
      refine bodyPost_ret (v := .agg #[.bool neg', .slice a2 n2 c2]) (by simp [results, Try.results49, go_sem, hcell2, hcell, hcell0]) rfl ⟨neg', a2, n2, c2, rfl, ?_, ?_, ?_⟩
      · have h0 : w2.cell? ⟨w.heap.size + 1 + 1, 0, none⟩ = some (.bool false) := by simp [hcell2, hcell, hcell0, go_sem]
        have h1' : w2.cell? ⟨w.heap.size + 1 + 1, 1, none⟩ = some (.slice none 0 0) := by simp [hcell2, hcell, hcell0, go_sem]
        rw [unhide Hv] at hint
        exact (hint.put2 h0 h1' _ _).mono (by omega)
      · exact ((bthen (bthen (bthen (bl3 _ _ _ _) hb0).drew hb) hb2).setCell (by simp; omega) _).setCell (by simp; omega) _
      · exact ((fr2.mono (bthen (bl3 _ _ _ _) hb0).drew.size).set _ _).set _ _

theorem add_fr (neg neg2 : Bool) (a c : Option Addr) (n m cap cap2 k k2 : Nat) (x y : Int) (w : World) (h1 : IntAt w neg a n cap k x) (h2 : IntAt w neg2 c m cap2 k2 y) (hk : k ≤ 1000000000) (hk2 : k2 ≤ 1000000000) :
    Calls Try.prog 49 #[.agg #[.bool neg, .slice a n cap], .agg #[.bool neg2, .slice c m cap2]] w fun r w' =>
      ∃ neg' a' n' cap', r = .returned (.agg #[.bool neg', .slice a' n' cap']) ∧ IntAt w' neg' a' n' cap' (max k k2 + 1) (x + y) ∧ Below w.heap.size w w' ∧ Mine w.heap.size w' a' n' := by
  obtain ⟨d, g1, g2, g3, g4, rfl⟩ := h1
  obtain ⟨e, f1, f2, f3, f4, rfl⟩ := h2
  exact (addAny_fr neg neg2 a c n m cap cap2 d e w g1 f1 (by omega) (by omega) g2 f2).mono fun _ _ ⟨n1, n2, n3, n4, q1, q2, q3, q4⟩ => ⟨n1, n2, n3, n4, q1, q2.mono (by omega), q3, q4⟩

set_option maxRecDepth 100000 in
set_option maxHeartbeats 1000000 in
theorem sub_fr (neg neg2 : Bool) (a c : Option Addr) (n m cap cap2 k k2 : Nat) (x y : Int) (w : World) (h1 : IntAt w neg a n cap k x) (h2 : IntAt w neg2 c m cap2 k2 y) (hk : k ≤ 1000000000) (hk2 : k2 ≤ 1000000000) :
    Calls Try.prog 50 #[.agg #[.bool neg, .slice a n cap], .agg #[.bool neg2, .slice c m cap2]] w fun r w' =>
      ∃ neg' a' n' cap', r = .returned (.agg #[.bool neg', .slice a' n' cap']) ∧ IntAt w' neg' a' n' cap' (max k k2 + 1) (x - y) ∧ Below w.heap.size w w' ∧ Mine w.heap.size w' a' n' := by
  have H1 := hide h1
  obtain ⟨e, f1, f2, f3, f4, fy⟩ := h2
  have Hy := hide (show sgn (!neg2) (V e m) = -y by rw [fy]; cases neg2 <;> simp [sgn])
  have Hx := hide (show x + -y = x - y by omega)
  clear h1 fy
  have ne1 : w.heap.size ≠ w.heap.size + 1 + 1 := by omega
  have ne2 : w.heap.size + 1 + 1 ≠ w.heap.size := by omega
  go_enter Try.func50, Try.ntmps50
  go_wp2
  go_region_held3 (fun w' => w'.cell? ⟨w.heap.size, 0, none⟩ = some (.bool neg) ∧ w'.cell? ⟨w.heap.size, 1, none⟩ = some (.slice a n cap) ∧ w'.cell? ⟨w.heap.size + 1, 0, none⟩ = some (.bool neg2) ∧ w'.cell? ⟨w.heap.size + 1, 1, none⟩ = some (.slice c m cap2)) (go_keep)
    (first
      | (go_at_call 104; refine (of_int _ _ _ _ e _ (f1.below (bl3 _ _ _ _).drew)).mono ?_; rintro r w1 ⟨neg1, a1, n1, c1, rfl, hint1, hb⟩; obtain ⟨hsz, hcell, hfz⟩ := near (w.heap.size + 3) (by simp) hb)
      | (go_at_call 49; refine (add_fr _ _ _ _ _ _ _ _ k m x _ _ ((unhide H1).below (bthen (bl3 _ _ _ _).drew hb)) hint1 hk (by omega)).mono ?_; rintro r w2 ⟨neg', a2, n2, c2, rfl, hint, hb2, fr2⟩; obtain ⟨hsz2, hcell2, hfz2⟩ := near (w.heap.size + 3) hsz hb2))
  go_wp2
  refine bodyPost_ret (v := .agg #[.bool neg', .slice a2 n2 c2]) (by simp [results, Try.results50, go_sem, hcell2, hcell]) rfl ⟨neg', a2, n2, c2, rfl, ?_, ?_, ?_⟩
  · have h0 : w2.cell? ⟨w.heap.size + 1 + 1, 0, none⟩ = some (.bool false) := by simp [hcell2, hcell, go_sem]
    have h1' : w2.cell? ⟨w.heap.size + 1 + 1, 1, none⟩ = some (.slice none 0 0) := by simp [hcell2, hcell, go_sem]
    rw [unhide Hy, unhide Hx] at hint
    exact (hint.put2 h0 h1' _ _).mono (by omega)
  · exact ((bthen (bthen (bl3 _ _ _ _).drew hb) hb2).setCell (by simp; omega) _).setCell (by simp; omega) _
  · exact ((fr2.mono (bthen (bl3 _ _ _ _).drew hb).size).set _ _).set _ _

theorem run_append_copy_fr {Pr : Program} (w : World) (t ty e : TypeId) (i : TypeInfo) (z : Value) (ht : Pr.underlying t = some (.slice e)) (hi : Pr.info? e = some i) (hz : i.zero = some z) (h4 : i.size = 1) (hb : i.bytes = 2)
    (b : Nat) (ad : Option Addr) (n cap : Nat) (d : Nat → Int) (hD : Dig w ad n cap d) (hn : n ≤ 1000000000) :
    ∃ a' cap' w', (Builtin.append_ #[t, t] ty #[.slice (some ⟨b, 0, none⟩) 0 0, .slice ad n cap]).run Pr w = .ok (.slice a' n cap') w' ∧ Dig w' a' n cap' d ∧ Below w.heap.size w w' ∧ Mine w.heap.size w' a' n := by
  by_cases h0 : n = 0
  · subst h0
    have hs : Src Pr i.size t (.slice ad 0 cap) 0 [] w := by
      cases ad with
      | none => exact Src.ofNil w ht cap
      | some ad => exact Src.ofSlice w ht ad 0 cap [] (by simp) (by simp) (by simp)
    have hr := run_append_room_src (P := Pr) w t t ty e i ht hi b 0 0 0 (.slice ad 0 cap) 0 [] hs (by omega) (by simp) (by simp)
    exact ⟨_, _, _, hr, ⟨fun h => by omega, hD.dgs, Nat.le_refl _, by omega⟩, by simp [World.setCells]; exact Below.refl _ _, Mine.nil _ _ _⟩
  · obtain ⟨b1, off, rfl, hb1, hc⟩ := hD.at_ (by omega)
    have hs : Src Pr i.size t (.slice (some ⟨b1, off, none⟩) n cap) n (dcells d n) w :=
      Src.ofSlice w ht ⟨b1, off, none⟩ n cap (dcells d n) (by rw [dcells_len, h4]; omega) (fun j u hu => by
        obtain ⟨hj, rfl⟩ := dcells_some hu
        rw [add_off]; exact hc j hj) (dcells_one d n)
    have hr := run_append_grow_src (P := Pr) w t t ty e i z ht hi hz (some ⟨b, 0, none⟩) 0 0 [] (run_firstCells_some w.drew i.size 0 ⟨b, 0, none⟩ 0 0 [] (by simp) (by simp)) (.slice (some ⟨b1, off, none⟩) n cap) n (dcells d n) hs (by omega) (by omega)
      (by rw [hb]; unfold Builtin.nextslicecap; rw [if_pos (by omega)]; omega)
    simp only [Nat.zero_add, List.nil_append] at hr
    refine ⟨_, _, _, hr, ⟨fun _ => ⟨w.heap.size, 0, rfl, ?_, fun j hj => ?_⟩, hD.dgs, grownCap_ge w n 0 e, by omega⟩, (Below.refl _ _).drew.alloc (Nat.le_refl _) _, fun _ => ⟨w.heap.size, 0, rfl, Nat.le_refl _, ?_, fun o => ?_⟩⟩
    · show w.heap.size < (w.drew.alloc _).heap.size
      simp
    · rw [World.cell?_alloc_at _ _ _ _ (show w.heap.size = w.drew.heap.size from rfl)]
      rw [Nat.zero_add, Array.getElem?_append_left (by simp [dcells_len]; exact hj)]
      simpa using dcells_at d n j hj
    · show w.heap.size < (w.drew.alloc _).heap.size
      simp
    · simp [go_sem]

theorem step_append_copy_fr {Pr : Program} {ops : Array Oper} {o : Oper} {a : Act} {w : World} {K : Act → World → Prop} {Q : Exit → Act → World → Prop} {E : Prop}
    (hg : o.guard = none) (s x : Operand) (t : TypeId) (hop : o.op = Op.call { callee := Callee.builtin Builtin.append, args := #[s, x], argTypes := #[t, t] })
    (e : TypeId) (ht : Pr.underlying t = some (.slice e)) (hinfo : (Pr.info? e).map (fun i => (i.zero, i.size, i.bytes)) = some (some (.int .u16 0), 1, 2))
    (b : Nat) (hs : a.eval s = .slice (some ⟨b, 0, none⟩) 0 0) (ad : Option Addr) (n cap : Nat) (d : Nat → Int) (hx : a.eval x = .slice ad n cap) (hD : Dig w ad n cap d) (hn : n ≤ 1000000000)
    (hK : ∀ a' cap' w', Dig w' a' n cap' d → Below w.heap.size w w' → Mine w.heap.size w' a' n → K (a.put o.dst (.slice a' n cap')) w') :
    if Region.wanted o (yielded ops a.tmps) = true then Oper.wp Pr o a w K Q else E := by
  have hw : Region.wanted o (yielded ops a.tmps) = true := by simp [Region.wanted, hg]
  rw [if_pos hw]
  obtain ⟨i, hi, hzz⟩ := Option.map_eq_some_iff.1 hinfo
  simp only [Prod.mk.injEq] at hzz
  obtain ⟨hz, hsz, hby⟩ := hzz
  obtain ⟨a', cap', w', hrun, h1, h2, h3⟩ := run_append_copy_fr (Pr := Pr) w t o.type e i _ ht hi hz hsz hby b ad n cap d hD hn
  unfold Oper.wp
  simp [execOp, hop, resolve, invoke, builtin, hs, hx, hrun, Result.andThen]
  exact hK a' cap' w' h1 h2 h3

set_option maxRecDepth 100000 in
set_option maxHeartbeats 1000000 in
theorem neg_fr (neg : Bool) (a : Option Addr) (n cap k : Nat) (x : Int) (w : World) (h1 : IntAt w neg a n cap k x) (hk : k ≤ 1000000000) :
    Calls Try.prog 80 #[.agg #[.bool neg, .slice a n cap]] w fun r w' =>
      ∃ neg' a' n' cap', r = .returned (.agg #[.bool neg', .slice a' n' cap']) ∧ IntAt w' neg' a' n' cap' k (-x) ∧ Below w.heap.size w w' ∧ Mine w.heap.size w' a' n' := by
  obtain ⟨d, f1, f2, f3, f4, fy⟩ := h1
  have Hy := hide (show sgn (!neg) (V d n) = -x by rw [fy]; cases neg <;> simp [sgn])
  clear fy
  go_enter Try.func80, Try.ntmps80
  go_wp2
  go_region_held3 (fun w' => w'.cell? ⟨w.heap.size, 0, none⟩ = some (.bool neg) ∧ w'.cell? ⟨w.heap.size, 1, none⟩ = some (.slice a n cap)) (go_keep)
    (first
      | (refine step_append_copy_fr (by rfl) _ _ 22 (by rfl) 96 Try.underlying22 Try.infoU16 _ (by rfl) _ _ _ d (by rfl) (f1.below (bl3 _ _ _ _).drew) (by omega) ?_; intro a1 c1 w1 hdig hb fr1; obtain ⟨hsz, hcell, hfz⟩ := near (w.heap.size + 2) (by simp) hb)
      | (go_at_call 104; refine (of_fr _ _ _ _ _ d _ hdig fr1).mono ?_; rintro r w2 ⟨neg', a2, n2, c2, rfl, hint, hb2, fr2⟩; obtain ⟨hsz2, hcell2, hfz2⟩ := near (w.heap.size + 2) hsz hb2))
  go_wp2
  refine bodyPost_ret (v := .agg #[.bool neg', .slice a2 n2 c2]) (by simp [results, Try.results80, go_sem, hcell2, hcell]) rfl ⟨neg', a2, n2, c2, rfl, ?_, ?_, ?_⟩
  · have h0 : w2.cell? ⟨w.heap.size + 1, 0, none⟩ = some (.bool false) := by simp [hcell2, hcell, go_sem]
    have h1' : w2.cell? ⟨w.heap.size + 1, 1, none⟩ = some (.slice none 0 0) := by simp [hcell2, hcell, go_sem]
    rw [unhide Hy] at hint
    exact (hint.put2 h0 h1' _ _).mono (by omega)
  · exact ((bthen (bthen (bl3 _ _ _ _).drew hb) hb2).setCell (by simp) _).setCell (by simp) _
  · exact ((fr2.mono (bl3 _ _ _ _).drew.size).set _ _).set _ _

set_option maxRecDepth 100000 in
set_option maxHeartbeats 1000000 in
theorem upAny_fr (neg : Bool) (a : Option Addr) (n cap k : Nat) (d : Nat → Int) (w : World) (ha : Dig w a n cap d) (hn : n ≤ 1000000000) (hk : k ≤ 1000000000) :
    Calls Try.prog 107 #[.agg #[.bool neg, .slice a n cap], .int .i64 k] w fun r w' =>
      ∃ neg' a' n' cap', r = .returned (.agg #[.bool neg', .slice a' n' cap']) ∧ IntAt w' neg' a' n' cap' (k / 16 + n + 1) (sgn neg (V d n * Q k)) ∧ Below w.heap.size w w' ∧ Mine w.heap.size w' a' n' := by
  obtain ⟨q, hq⟩ : ∃ q, q = k / 16 := ⟨_, rfl⟩
  obtain ⟨s, hs⟩ : ∃ s, s = k % 16 := ⟨_, rfl⟩
  have hq' : (k : Int) / 16 = (q : Int) := by omega
  have hs' : (k : Int) % 16 = (s : Int) := by omega
  have hs16 : s < 16 := by omega
  have hk' : ¬ (k : Int) < 0 := by omega
  obtain ⟨W, hW⟩ : ∃ W, W = (w.alloc (.cells #[.bool neg, .slice a n cap] 24)).alloc (.cells #[.bool false, .slice none 0 0] 24) := ⟨_, rfl⟩
  have b3 : Below w.heap.size w W := by rw [hW]; exact bl2 _ _ _
  have s3 : W.heap.size = w.heap.size + 1 + 1 := by rw [hW]; simp
  have k0 : W.cell? ⟨w.heap.size, 0, none⟩ = some (.bool neg) := by rw [hW]; simp [go_sem]
  have k3 : W.cell? ⟨w.heap.size + 1, 0, none⟩ = some (.bool false) := by rw [hW]; simp [go_sem]
  have k4 : W.cell? ⟨w.heap.size + 1, 1, none⟩ = some (.slice none 0 0) := by rw [hW]; simp [go_sem]
  have k5 : ∀ o, W.frozen? ⟨w.heap.size + 1, o, none⟩ = false := by intro o; rw [hW]; simp [go_sem]
  have HW := hide hW
  clear hW
  have hmk := run_make_row' (P := Try.prog) 22 96 (.int .u16 0) 2 Try.underlying22 Try.infoU16 rfl .i64 .i64 (q + n + 1) (by omega) (by omega)
  have hnm : ((q + n + 1 : Nat) : Int) = (q : Int) + n + 1 := by omega
  rw [hnm] at hmk
  have Hq := hide hq
  have Hs := hide hs
  clear hnm hq hs
  go_enter Try.func107, Try.ntmps107
  go_wp2
  clear hmk
  go_loopw [26] (fun ii wr => ∃ (i : Nat) (o : Nat → Int), i ≤ n ∧ ii = .int .i64 i ∧ wr.rowIs (w.heap.size + 1 + 1) 96 (q + n + 1) (fun j => .int .u16 (o j)) ∧ Dgs o ∧ V o (q + n + 1) = V d i * Q s * P q ∧ (∀ j, i + q < j → o j = 0) ∧ o (i + q) < Q s ∧ Below (w.heap.size + 1 + 1) W wr) (fun ii _ => n - (intOf ii).toNat)
  case atStart =>
    refine ⟨0, fun _ => 0, Nat.zero_le _, rfl, ?_, fun _ => ⟨by simp, by simp⟩, ?_, fun _ _ => rfl, ?_, ?_⟩
    · have := World.rowIs_made W (.int .u16 0) (q + n + 1) 96
      rw [s3, unhide HW] at this; exact this
    · rw [V_zero]; simp [V]
    · have := Q_pos s; simp; omega
    · rw [unhide HW]; exact (Below.refl _ _).alloc (by simp) _
  case round =>
    obtain ⟨i, o, hi, rfl, hrow, hod, hov, hoz, hoq, hbl⟩ := hrel
    by_cases hin : i < n
    · obtain ⟨b1, o1, rfl, hb1, hc1⟩ := ha.at_ (by omega)
      have g1 : wr.cell? ⟨b1, o1 + i, none⟩ = some (.int .u16 (d i)) := (hbl.cell (p := ⟨b1, o1 + i, none⟩) (by show b1 < _; omega)).trans ((b3.cell (p := ⟨b1, o1 + i, none⟩) hb1).trans (hc1 i hin))
      have db := ha.dgs i
      have r1 := hrow.cell (show i + q < q + n + 1 by omega)
      have r2 := hrow.frozen (i + q)
      have r3 := hrow.cell (show i + q + 1 < q + n + 1 by omega)
      have r4 := hrow.frozen (i + q + 1)
      have hz1 := hoz (i + q + 1) (by omega)
      rw [hz1] at r3
      have ob := hod (i + q)
      have HV := hide hov
      have HZ := hide hoz
      have HR := hide hrow
      have HD := hide hod
      have HZ1 := hide hz1
      clear hc1 hov hoz hrow hod hz1
      obtain ⟨c, hlow⟩ := up_low (d i) s (by omega)
      have hhigh := up_high (d i) s db.1 db.2
      have hlt := up_lt (d i) s hs16 db.1 db.2
      have hmod : d i * 2 ^ s % 4294967296 = d i * Q s := by rw [Q_pow]; omega
      have hor := or16 (o (i + q)) (d i * Q s % 65536) c s (by omega) ob.1 hoq hlow (by omega) (by omega)
      have hor2 := or16 0 (d i * Q s / 65536) (d i * Q s / 65536) 0 (by omega) (by omega) (by simp [Q]) (by simp [Q]) hhigh.1 (by omega)
      have H1 := hide (show bits .or .u16 (o (i + q)) (IntKind.u16.wrap (d i * 2 ^ s % 4294967296)) = o (i + q) + d i * Q s % 65536 by rw [hmod, wrap16]; exact hor.1)
      have H2 := hide (show bits .or .u16 0 (d i * 2 ^ s % 4294967296 / 65536) = d i * Q s / 65536 by rw [hmod, hor2.1]; omega)
      have H3 := hide hor.2
      have H4 := hide hhigh
      have hQ16 := Q_mono (show s ≤ 15 by omega)
      have e15 : Q 15 = 32768 := rfl
      rw [e15] at hQ16
      clear hlow hlt hmod hor hor2 hhigh e15
      go_wp2
      go_roundw
      case rel =>
        have h3 := unhide H3
        have h4 := unhide H4
        have hne : i + q + 1 ≠ i + q := by omega
        have hz : upd o (i + q) (o (i + q) + d i * Q s % 65536) (i + q + 1) = 0 := by simp [upd]; exact unhide HZ1
        refine ⟨i + 1, upd (upd o (i + q) (o (i + q) + d i * Q s % 65536)) (i + q + 1) (d i * Q s / 65536), by omega, by go_num, row_upd (row_upd (unhide HR) (i + q) (unhide H1)) (i + q + 1) (unhide H2), upd_dgs (upd_dgs (unhide HD) _ (by omega) h3) _ h4.1 (by omega), ?_, fun j hj => ?_, ?_, (hbl.setCell (by simp) _).setCell (by simp) _⟩
        · rw [upd_V _ _ _ _ (by omega), upd_V _ _ _ _ (by omega), hz, unhide HV]
          exact up_alg (V d i) (d i) (o (i + q)) i q s
        · have e1 : j ≠ i + q := by omega
          have e2 : j ≠ i + q + 1 := by omega
          simp only [upd, e1, e2, if_false]; exact unhide HZ j (by omega)
        · have e1 : i + 1 + q = i + q + 1 := by omega
          rw [e1]; simp only [upd, if_true]; exact h4.2
      case measure => simp [intOf]; omega
    · have hiE : i = n := by omega
      subst hiE
      have q0 : wr.cell? ⟨w.heap.size, 0, none⟩ = some (.bool neg) := (hbl.cell (p := ⟨w.heap.size, 0, none⟩) (by show w.heap.size < _; omega)).trans k0
      have q3 : wr.cell? ⟨w.heap.size + 1, 0, none⟩ = some (.bool false) := (hbl.cell (p := ⟨w.heap.size + 1, 0, none⟩) (by simp)).trans k3
      have q4 : wr.cell? ⟨w.heap.size + 1, 1, none⟩ = some (.slice none 0 0) := (hbl.cell (p := ⟨w.heap.size + 1, 1, none⟩) (by simp)).trans k4
      have q5 : ∀ o, wr.frozen? ⟨w.heap.size + 1, o, none⟩ = false := fun o => (hbl.frozen (p := ⟨w.heap.size + 1, o, none⟩) (by simp)).trans (k5 o)
      have hsw := hbl.size
      rw [s3] at hsw
      have HR := hide (rowDig hrow hod (by omega))
      have FR := hide (mine_row (m := w.heap.size) hrow (by omega))
      have HV := hide hov
      clear hov hoz hrow hod
      go_wp2_with (go_at_call 104; refine (of_fr w.heap.size _ _ _ _ o _ (unhide HR) (unhide FR)).mono ?_; rintro r w2 ⟨neg', a2, n2, c2, rfl, hint, hb2, fr2⟩; obtain ⟨hsz2, hcell2, hfz2⟩ := near (w.heap.size + 1 + 1) hsw hb2)
      refine bodyPost_ret (v := .agg #[.bool neg', .slice a2 n2 c2]) (by simp [results, Try.results107, go_sem, hcell2, q3, q4]) rfl ⟨neg', a2, n2, c2, rfl, ?_, ?_, ?_⟩
      · have h0 : w2.cell? ⟨w.heap.size + 1, 0, none⟩ = some (.bool false) := by simp [hcell2, q3]
        have h1' : w2.cell? ⟨w.heap.size + 1, 1, none⟩ = some (.slice none 0 0) := by simp [hcell2, q4]
        rw [unhide HV, Int.mul_assoc, unhide Hs, unhide Hq, ← Q_split] at hint
        exact hint.put2 h0 h1' _ _
      · exact ((bthen (b3.trans (hbl.mono (by omega))) hb2).setCell (by simp) _).setCell (by simp) _
      · exact (fr2.set _ _).set _ _

theorem up_fr (neg : Bool) (a : Option Addr) (n cap k k1 : Nat) (x : Int) (w : World) (h1 : IntAt w neg a n cap k1 x) (hk1 : k1 ≤ 1000000000) (hk : k ≤ 1000000000) :
    Calls Try.prog 107 #[.agg #[.bool neg, .slice a n cap], .int .i64 k] w fun r w' =>
      ∃ neg' a' n' cap', r = .returned (.agg #[.bool neg', .slice a' n' cap']) ∧ IntAt w' neg' a' n' cap' (k / 16 + k1 + 1) (x * Q k) ∧ Below w.heap.size w w' ∧ Mine w.heap.size w' a' n' := by
  obtain ⟨d, g1, g2, g3, g4, rfl⟩ := h1
  have hs : sgn neg (V d n * Q k) = sgn neg (V d n) * Q k := by cases neg <;> simp [sgn, Int.neg_mul]
  rw [← hs]
  exact (upAny_fr neg a n cap k d w g1 (by omega) hk).mono fun _ _ ⟨n1, n2, n3, n4, q1, q2, q3, q4⟩ => ⟨n1, n2, n3, n4, q1, q2.mono (by omega), q3, q4⟩

set_option maxRecDepth 100000 in
set_option maxHeartbeats 8000000 in
theorem downAny_fr (neg : Bool) (a : Option Addr) (n cap k : Nat) (d : Nat → Int) (w : World) (ha : Dig w a n cap d) (hn : n ≤ 1000000000) (hk : k ≤ 1000000000) :
    Calls Try.prog 79 #[.agg #[.bool neg, .slice a n cap], .int .i64 k] w fun r w' =>
      ∃ neg' a' n' cap', r = .returned (.agg #[.bool neg', .slice a' n' cap']) ∧ IntAt w' neg' a' n' cap' (n + 5) (sgn neg (V d n) / Q k) ∧ Below w.heap.size w w' ∧ Mine w.heap.size w' a' n' := by
  obtain ⟨q, hq⟩ : ∃ q, q = k / 16 := ⟨_, rfl⟩
  obtain ⟨s, hs⟩ : ∃ s, s = k % 16 := ⟨_, rfl⟩
  have hq' : (k : Int) / 16 = (q : Int) := by omega
  have hs' : (k : Int) % 16 = (s : Int) := by omega
  have hs16 : s < 16 := by omega
  have hk' : ¬ (k : Int) < 0 := by omega
  obtain ⟨W, hW⟩ : ∃ W, W = (w.alloc (.cells #[.bool neg, .slice a n cap] 24)).alloc (.cells #[.bool false, .slice none 0 0] 24) := ⟨_, rfl⟩
  have b3 : Below w.heap.size w W := by rw [hW]; exact bl2 _ _ _
  have s3 : W.heap.size = w.heap.size + 1 + 1 := by rw [hW]; simp
  have k0 : W.cell? ⟨w.heap.size, 0, none⟩ = some (.bool neg) := by rw [hW]; simp [go_sem]
  have k1 : W.cell? ⟨w.heap.size, 1, none⟩ = some (.slice a n cap) := by rw [hW]; simp [go_sem]
  have k3 : W.cell? ⟨w.heap.size + 1, 0, none⟩ = some (.bool false) := by rw [hW]; simp [go_sem]
  have k4 : W.cell? ⟨w.heap.size + 1, 1, none⟩ = some (.slice none 0 0) := by rw [hW]; simp [go_sem]
  have k5 : ∀ o, W.frozen? ⟨w.heap.size + 1, o, none⟩ = false := by intro o; rw [hW]; simp [go_sem]
  have HW := hide hW
  have Hq := hide hq
  have Hs := hide hs
  clear hW hq hs
  go_enter Try.func79, Try.ntmps79
  go_wp2
  go_loopw [5, 6, 20] (fun out lost ii wr => ∃ (i m : Nat) (a' : Option Addr) (cap' : Nat) (o : Nat → Int) (b : Bool), i ≤ n ∧ ii = .int .i64 i ∧ m = i - q ∧ out = .slice a' m cap' ∧ lost = .bool b ∧ (b = true ↔ lostQ d q s i ≠ 0) ∧
      Own wr (w.heap.size + 1 + 1) 96 a' m cap' o ∧ Dgs o ∧ V o m * Q s + dg d n q % Q s = V (fun j => dg d n (q + j)) m + dg d n (q + m) % Q s * P m ∧ Below (w.heap.size + 1 + 1) W wr) (fun _ _ ii _ => n - (intOf ii).toNat)
  case atStart =>
    refine ⟨0, 0, none, 0, fun _ => 0, false, Nat.zero_le _, rfl, by omega, rfl, rfl, by simp [lostQ, V], Own.nil _ _ _ _, fun _ => ⟨by simp, by simp⟩, by simp [V, P], ?_⟩
    rw [unhide HW]; exact Below.refl _ _
  case round =>
    obtain ⟨i, m, a', cap', o, b, hi, rfl, hm, rfl, rfl, hb, hown, hod, hV, hbl⟩ := hrel
    have hsw := hbl.size
    rw [s3] at hsw
    by_cases hin : i < n
    · obtain ⟨b1, o1, rfl, hb1, hc1⟩ := ha.at_ (by omega)
      have g1 : wr.cell? ⟨b1, o1 + i, none⟩ = some (.int .u16 (d i)) := (hbl.cell (p := ⟨b1, o1 + i, none⟩) (by show b1 < _; omega)).trans ((b3.cell (p := ⟨b1, o1 + i, none⟩) hb1).trans (hc1 i hin))
      have q1 : wr.cell? ⟨w.heap.size, 1, none⟩ = some (.slice (some ⟨b1, o1, none⟩) n cap) := (hbl.cell (p := ⟨w.heap.size, 1, none⟩) (by show w.heap.size < _; omega)).trans k1
      have db := ha.dgs i
      by_cases hiq : i < q
      · have hm0 : m = 0 := by omega
        subst hm0
        have hiq' : (i : Int) < q := by omega
        have Hm := hide hm
        have HO := hide hown
        have HV := hide hV
        have HB := hide hb
        clear hm hown hV hb hc1
        have hll := lost_low (s := s) ha.dgs hiq
        cases b
        · have HL := hide (show (d i != 0) = true ↔ lostQ d q s (i + 1) ≠ 0 by rw [hll]; have := unhide HB; simp at this; simp [this])
          clear hll
          go_wp2
          go_roundw
          case rel => exact ⟨i + 1, 0, a', cap', o, _, by omega, by go_num, by omega, rfl, rfl, unhide HL, unhide HO, hod, unhide HV, hbl⟩
          case measure => simp [intOf]; omega
        · have HL := hide (show true = true ↔ lostQ d q s (i + 1) ≠ 0 by rw [hll]; have := unhide HB; simp at this; simp [this])
          clear hll
          go_wp2
          go_roundw
          case rel => exact ⟨i + 1, 0, a', cap', o, _, by omega, by go_num, by omega, rfl, rfl, unhide HL, unhide HO, hod, unhide HV, hbl⟩
          case measure => simp [intOf]; omega
      · have hiq' : ¬ (i : Int) < q := by omega
        have hmn : m ≤ n := by omega
        have Hm := hide hm
        have HO := hide hown
        have HV := hide hV
        have HB := hide hb
        clear hm hown hV hb
        have eqm : q + m = i := by have := unhide Hm; omega
        have hand : bits BinOp.and IntKind.u16 (d i) (IntKind.u16.wrap (IntKind.u16.wrap (2 ^ s) - 1)) = d i % Q s := by
          have h1 := Q_mono (show s ≤ 15 by omega)
          have e15 : Q 15 = 32768 := rfl
          have h2 := Q_pos s
          have h3 : IntKind.u16.wrap (IntKind.u16.wrap (2 ^ s) - 1) = Q s - 1 := by rw [wrap16, wrap16, Q_pow]; omega
          rw [h3]; exact and16 (d i) s (by omega) db.1 db.2
        have dgi : dg d n (q + m) = d i := by rw [eqm]; simp [dg, hin]
        by_cases hi1 : i + 1 < n
        · have g2 : wr.cell? ⟨b1, o1 + (i + 1), none⟩ = some (.int .u16 (d (i + 1))) := (hbl.cell (p := ⟨b1, o1 + (i + 1), none⟩) (by show b1 < _; omega)).trans ((b3.cell (p := ⟨b1, o1 + (i + 1), none⟩) hb1).trans (hc1 (i + 1) hi1))
          have db2 := ha.dgs (i + 1)
          have hi1' : (i : Int) + 1 < n := by omega
          have hvv : IntKind.u16.wrap (bits BinOp.or IntKind.u32 (d i) (d (i + 1) * 65536) / 2 ^ s) = (dg d n (q + m) + 65536 * dg d n (q + (m + 1))) / Q s % 65536 := by
            have e1 : dg d n (q + (m + 1)) = d (i + 1) := by rw [← Nat.add_assoc, eqm]; simp [dg, hi1]
            rw [wrap16, or32 (d i) (d (i + 1) * 65536) (d (i + 1)) db.1 db.2 (by omega) db2.1 db2.2, Q_pow, dgi, e1, Int.mul_comm (d (i + 1)) 65536]
          clear hc1 dgi eqm
          by_cases hie : i = q
          · subst hie
            have hie' : ((i : Int) == i) = true := by simp
            cases b
            · have HL := hide (show (bits BinOp.and IntKind.u16 (d i) (IntKind.u16.wrap (IntKind.u16.wrap (2 ^ s) - 1)) != 0) = true ↔ lostQ d i s (i + 1) ≠ 0 by rw [lost_at ha.dgs, hand]; have := unhide HB; simp at this; simp [this])
              clear hand
              have HE := hide (show IntKind.u16.wrap (bits BinOp.or IntKind.u32 (d i) (d (i + 1) * 65536) / 2 ^ s) = (dg d n (i + m) + 65536 * dg d n (i + (m + 1))) / Q s % 65536 by rw [hvv])
              clear hvv
              go_wp2_with (at_builtin; refine wpList_append_digit _ rfl _ _ 22 rfl (w.heap.size + 1 + 1) 96 Try.underlying22 Try.infoU16 a' m cap' o rfl ((unhide HO).alloc _) wr.heap.size 1 (IntKind.u16.wrap (bits BinOp.or IntKind.u32 (d i) (d (i + 1) * 65536) / 2 ^ s)) rfl (by simp [go_sem]) (by omega) (by simp; omega) ?_; intro a2 cap2 w1 hown1 hb2)
              go_roundw
              case rel =>
                rw [unhide HE] at hown1
                refine ⟨i + 1, m + 1, a2, cap2, upd o m ((dg d n (i + m) + 65536 * dg d n (i + (m + 1))) / Q s % 65536), _, by omega, by go_num, by have := unhide Hm; omega, rfl, rfl, unhide HL, hown1, upd_dgs hod _ (by omega) (by omega), down_step d o n i m s (by omega) ha.dgs rfl (unhide HV), ?_⟩
                exact (hbl.alloc (by omega) _).trans hb2
              case measure => simp [intOf]; omega
            · have HL := hide (show true = true ↔ lostQ d i s (i + 1) ≠ 0 by rw [lost_at ha.dgs]; have := unhide HB; simp at this; simp [this])
              clear hand
              have HE := hide (show IntKind.u16.wrap (bits BinOp.or IntKind.u32 (d i) (d (i + 1) * 65536) / 2 ^ s) = (dg d n (i + m) + 65536 * dg d n (i + (m + 1))) / Q s % 65536 by rw [hvv])
              clear hvv
              go_wp2_with (at_builtin; refine wpList_append_digit _ rfl _ _ 22 rfl (w.heap.size + 1 + 1) 96 Try.underlying22 Try.infoU16 a' m cap' o rfl ((unhide HO).alloc _) wr.heap.size 1 (IntKind.u16.wrap (bits BinOp.or IntKind.u32 (d i) (d (i + 1) * 65536) / 2 ^ s)) rfl (by simp [go_sem]) (by omega) (by simp; omega) ?_; intro a2 cap2 w1 hown1 hb2)
              go_roundw
              case rel =>
                rw [unhide HE] at hown1
                refine ⟨i + 1, m + 1, a2, cap2, upd o m ((dg d n (i + m) + 65536 * dg d n (i + (m + 1))) / Q s % 65536), _, by omega, by go_num, by have := unhide Hm; omega, rfl, rfl, unhide HL, hown1, upd_dgs hod _ (by omega) (by omega), down_step d o n i m s (by omega) ha.dgs rfl (unhide HV), ?_⟩
                exact (hbl.alloc (by omega) _).trans hb2
              case measure => simp [intOf]; omega
          · have hie' : ((i : Int) == q) = false := by simp; omega
            have HL := hide (show b = true ↔ lostQ d q s (i + 1) ≠ 0 by rw [lost_high (by omega)]; exact unhide HB)
            clear hand
            have HE := hide (show IntKind.u16.wrap (bits BinOp.or IntKind.u32 (d i) (d (i + 1) * 65536) / 2 ^ s) = (dg d n (q + m) + 65536 * dg d n (q + (m + 1))) / Q s % 65536 by rw [hvv])
            clear hvv
            go_wp2_with (at_builtin; refine wpList_append_digit _ rfl _ _ 22 rfl (w.heap.size + 1 + 1) 96 Try.underlying22 Try.infoU16 a' m cap' o rfl ((unhide HO).alloc _) wr.heap.size 1 (IntKind.u16.wrap (bits BinOp.or IntKind.u32 (d i) (d (i + 1) * 65536) / 2 ^ s)) rfl (by simp [go_sem]) (by omega) (by simp; omega) ?_; intro a2 cap2 w1 hown1 hb2)
            go_roundw
            case rel =>
              rw [unhide HE] at hown1
              refine ⟨i + 1, m + 1, a2, cap2, upd o m ((dg d n (q + m) + 65536 * dg d n (q + (m + 1))) / Q s % 65536), _, by omega, by go_num, by have := unhide Hm; omega, rfl, rfl, unhide HL, hown1, upd_dgs hod _ (by omega) (by omega), down_step d o n q m s (by omega) ha.dgs rfl (unhide HV), ?_⟩
              exact (hbl.alloc (by omega) _).trans hb2
            case measure => simp [intOf]; omega
        · have hi1' : ¬ (i : Int) + 1 < n := by omega
          have hvv : IntKind.u16.wrap (d i / 2 ^ s) = (dg d n (q + m) + 65536 * dg d n (q + (m + 1))) / Q s % 65536 := by
            have e1 : dg d n (q + (m + 1)) = 0 := by rw [← Nat.add_assoc, eqm]; simp [dg, hi1]
            rw [wrap16, Q_pow, dgi, e1]; simp
          clear hc1 dgi eqm
          by_cases hie : i = q
          · subst hie
            have hie' : ((i : Int) == i) = true := by simp
            cases b
            · have HL := hide (show (bits BinOp.and IntKind.u16 (d i) (IntKind.u16.wrap (IntKind.u16.wrap (2 ^ s) - 1)) != 0) = true ↔ lostQ d i s (i + 1) ≠ 0 by rw [lost_at ha.dgs, hand]; have := unhide HB; simp at this; simp [this])
              clear hand
              have HE := hide (show IntKind.u16.wrap (d i / 2 ^ s) = (dg d n (i + m) + 65536 * dg d n (i + (m + 1))) / Q s % 65536 by rw [hvv])
              clear hvv
              go_wp2_with (at_builtin; refine wpList_append_digit _ rfl _ _ 22 rfl (w.heap.size + 1 + 1) 96 Try.underlying22 Try.infoU16 a' m cap' o rfl ((unhide HO).alloc _) wr.heap.size 1 (IntKind.u16.wrap (d i / 2 ^ s)) rfl (by simp [go_sem]) (by omega) (by simp; omega) ?_; intro a2 cap2 w1 hown1 hb2)
              go_roundw
              case rel =>
                rw [unhide HE] at hown1
                refine ⟨i + 1, m + 1, a2, cap2, upd o m ((dg d n (i + m) + 65536 * dg d n (i + (m + 1))) / Q s % 65536), _, by omega, by go_num, by have := unhide Hm; omega, rfl, rfl, unhide HL, hown1, upd_dgs hod _ (by omega) (by omega), down_step d o n i m s (by omega) ha.dgs rfl (unhide HV), ?_⟩
                exact (hbl.alloc (by omega) _).trans hb2
              case measure => simp [intOf]; omega
            · have HL := hide (show true = true ↔ lostQ d i s (i + 1) ≠ 0 by rw [lost_at ha.dgs]; have := unhide HB; simp at this; simp [this])
              clear hand
              have HE := hide (show IntKind.u16.wrap (d i / 2 ^ s) = (dg d n (i + m) + 65536 * dg d n (i + (m + 1))) / Q s % 65536 by rw [hvv])
              clear hvv
              go_wp2_with (at_builtin; refine wpList_append_digit _ rfl _ _ 22 rfl (w.heap.size + 1 + 1) 96 Try.underlying22 Try.infoU16 a' m cap' o rfl ((unhide HO).alloc _) wr.heap.size 1 (IntKind.u16.wrap (d i / 2 ^ s)) rfl (by simp [go_sem]) (by omega) (by simp; omega) ?_; intro a2 cap2 w1 hown1 hb2)
              go_roundw
              case rel =>
                rw [unhide HE] at hown1
                refine ⟨i + 1, m + 1, a2, cap2, upd o m ((dg d n (i + m) + 65536 * dg d n (i + (m + 1))) / Q s % 65536), _, by omega, by go_num, by have := unhide Hm; omega, rfl, rfl, unhide HL, hown1, upd_dgs hod _ (by omega) (by omega), down_step d o n i m s (by omega) ha.dgs rfl (unhide HV), ?_⟩
                exact (hbl.alloc (by omega) _).trans hb2
              case measure => simp [intOf]; omega
          · have hie' : ((i : Int) == q) = false := by simp; omega
            have HL := hide (show b = true ↔ lostQ d q s (i + 1) ≠ 0 by rw [lost_high (by omega)]; exact unhide HB)
            clear hand
            have HE := hide (show IntKind.u16.wrap (d i / 2 ^ s) = (dg d n (q + m) + 65536 * dg d n (q + (m + 1))) / Q s % 65536 by rw [hvv])
            clear hvv
            go_wp2_with (at_builtin; refine wpList_append_digit _ rfl _ _ 22 rfl (w.heap.size + 1 + 1) 96 Try.underlying22 Try.infoU16 a' m cap' o rfl ((unhide HO).alloc _) wr.heap.size 1 (IntKind.u16.wrap (d i / 2 ^ s)) rfl (by simp [go_sem]) (by omega) (by simp; omega) ?_; intro a2 cap2 w1 hown1 hb2)
            go_roundw
            case rel =>
              rw [unhide HE] at hown1
              refine ⟨i + 1, m + 1, a2, cap2, upd o m ((dg d n (q + m) + 65536 * dg d n (q + (m + 1))) / Q s % 65536), _, by omega, by go_num, by have := unhide Hm; omega, rfl, rfl, unhide HL, hown1, upd_dgs hod _ (by omega) (by omega), down_step d o n q m s (by omega) ha.dgs rfl (unhide HV), ?_⟩
              exact (hbl.alloc (by omega) _).trans hb2
            case measure => simp [intOf]; omega
    · have hiE : i = n := by omega
      subst hiE
      have q0 : wr.cell? ⟨w.heap.size, 0, none⟩ = some (.bool neg) := (hbl.cell (p := ⟨w.heap.size, 0, none⟩) (by show w.heap.size < _; omega)).trans k0
      have q3 : wr.cell? ⟨w.heap.size + 1, 0, none⟩ = some (.bool false) := (hbl.cell (p := ⟨w.heap.size + 1, 0, none⟩) (by simp)).trans k3
      have q4 : wr.cell? ⟨w.heap.size + 1, 1, none⟩ = some (.slice none 0 0) := (hbl.cell (p := ⟨w.heap.size + 1, 1, none⟩) (by simp)).trans k4
      have q5 : ∀ o, wr.frozen? ⟨w.heap.size + 1, o, none⟩ = false := fun o => (hbl.frozen (p := ⟨w.heap.size + 1, o, none⟩) (by simp)).trans (k5 o)
      obtain ⟨f1, f2, f3⟩ := down_fin ha.dgs (unhide Hq) (unhide Hs) hm hV
      have hQk : 0 < Q k := by have := Q_pos k; omega
      have HR := hide (hown.dig hod (by omega))
      have FR := hide ((mine_own hown).mono (show w.heap.size ≤ _ by omega))
      have hmi : m ≤ i := by omega
      have hbr : (b = true ∧ 0 < lostQ d q s i) ∨ (b = false ∧ lostQ d q s i = 0) := by
        cases b
        · right; simp at hb; exact ⟨rfl, hb⟩
        · left; simp at hb; exact ⟨rfl, by omega⟩
      clear hV hb hown hod hm
      rcases hbr with ⟨rfl, hl⟩ | ⟨rfl, hl⟩
      · cases neg
        · have HE := hide (show sgn false (V o m) = sgn false (V d i) / Q k by simp only [sgn]; exact (div_pos_eq hQk f1 f2 f3).symm)
          clear f1 f2 f3 hl
          go_wp2_with (go_at_call 104; refine (of_fr w.heap.size _ _ _ _ o _ (unhide HR) (unhide FR)).mono ?_; rintro r w2 ⟨neg', a2, n2, c2, rfl, hint, hb2, fr2⟩; obtain ⟨hsz2, hcell2, hfz2⟩ := near (w.heap.size + 1 + 1) hsw hb2; have hz0 := Nat.lt_of_lt_of_le (Nat.lt_succ_of_lt (Nat.lt_succ_self w.heap.size)) hsz2; have hz1 := Nat.lt_of_lt_of_le (Nat.lt_succ_self (w.heap.size + 1)) hsz2)
          refine bodyPost_ret (v := .agg #[.bool neg', .slice a2 n2 c2]) (by simp [results, Try.results79, go_sem, hcell2, hz0, hz1, q3, q4]) rfl ⟨neg', a2, n2, c2, rfl, ?_, ?_, ?_⟩
          · have h0 : w2.cell? ⟨w.heap.size + 1, 0, none⟩ = some (.bool false) := by simp [hcell2, q3]
            have h1' : w2.cell? ⟨w.heap.size + 1, 1, none⟩ = some (.slice none 0 0) := by simp [hcell2, q4]
            rw [unhide HE] at hint
            exact ((hint.put2 h0 h1' _ _).below (bl1 _ _)).mono (by omega)
          · exact balloc (((bthen (b3.trans (hbl.mono (by omega))) hb2).setCell (p := ⟨w.heap.size + 1, 0, none⟩) (Nat.le_succ _) _).setCell (p := ⟨w.heap.size + 1, 1, none⟩) (Nat.le_succ _) _) _
          · exact ((fr2.set _ _).set _ _).below (bl1 _ _)
        · have HE := hide (show sgn true (V o m) - 1 = sgn true (V d i) / Q k by simp only [sgn]; exact (div_neg_lost hQk f1 hl f3).symm)
          clear f1 f2 f3 hl
          go_wp2_with (go_at_call 104; refine (of_fr w.heap.size _ _ _ _ o _ (unhide HR) (unhide FR)).mono ?_; rintro r w2 ⟨neg', a2, n2, c2, rfl, hint, hb2, fr2⟩; obtain ⟨hsz2, hcell2, hfz2⟩ := near (w.heap.size + 1 + 1) hsw hb2; have hz0 := Nat.lt_of_lt_of_le (Nat.lt_succ_of_lt (Nat.lt_succ_self w.heap.size)) hsz2; have hz1 := Nat.lt_of_lt_of_le (Nat.lt_succ_self (w.heap.size + 1)) hsz2)
          have nz : w2.heap.size ≠ w.heap.size + 1 := by omega
          have nz' : w.heap.size + 1 ≠ w2.heap.size := by omega
          go_region_held3 (fun w' => w'.cell? ⟨w2.heap.size, 0, none⟩ = some (.bool neg') ∧ w'.cell? ⟨w2.heap.size, 1, none⟩ = some (.slice a2 n2 c2)) (go_keep)
            (first
              | (go_at_call 62; refine (numOf_int 1 _ (by decide) (by decide)).mono ?_; rintro r w3 ⟨neg3, a3, n3, c3, rfl, hint3, hb3⟩; obtain ⟨hsz3, hcell3, hfz3⟩ := near (w2.heap.size + 1) (by simp) hb3)
              | (go_at_call 50; refine (sub_fr _ _ _ _ _ _ _ _ m 4 _ _ _ (hint.below (bthen (bl1 _ _).drew hb3)) hint3 (by omega) (by omega)).mono ?_; rintro r w4 ⟨neg4, a4, n4, c4, rfl, hint4, hb4, fr4⟩; obtain ⟨hsz4, hcell4, hfz4⟩ := near (w2.heap.size + 1) hsz3 hb4; have y1 := Nat.le_succ_of_le hz1; have y0 : w2.cell? ⟨w.heap.size + 1, 0, none⟩ = some (.bool false) := (hcell2 _ _ (Nat.le_refl _)).trans q3; have y2 : w2.cell? ⟨w.heap.size + 1, 1, none⟩ = some (.slice none 0 0) := (hcell2 _ _ (Nat.le_refl _)).trans q4; have y3 : ∀ o, w2.frozen? ⟨w.heap.size + 1, o, none⟩ = false := fun o => (hfz2 _ _ (Nat.le_refl _)).trans (q5 o)))
          go_wp2
          have h0 : w4.cell? ⟨w.heap.size + 1, 0, none⟩ = some (.bool false) := by rw [hcell4 _ _ y1, hcell3 _ _ y1]; exact (World.cell?_alloc_past _ _ _ hz1).trans y0
          have h1' : w4.cell? ⟨w.heap.size + 1, 1, none⟩ = some (.slice none 0 0) := by rw [hcell4 _ _ y1, hcell3 _ _ y1]; exact (World.cell?_alloc_past _ _ _ hz1).trans y2
          refine bodyPost_ret (v := .agg #[.bool neg4, .slice a4 n4 c4]) (by simp [results, Try.results79, go_sem, h0, h1']) rfl ⟨neg4, a4, n4, c4, rfl, ?_, ?_, ?_⟩
          · rw [unhide HE] at hint4
            exact (hint4.put2 h0 h1' _ _).mono (by omega)
          · exact ((bthen (bthen (balloc (bthen (b3.trans (hbl.mono (by omega))) hb2) _).drew hb3) hb4).setCell (p := ⟨w.heap.size + 1, 0, none⟩) (Nat.le_succ _) _).setCell (p := ⟨w.heap.size + 1, 1, none⟩) (Nat.le_succ _) _
          · exact ((fr4.mono (bthen (balloc (bthen (b3.trans (hbl.mono (by omega))) hb2) _).drew hb3).size).set _ _).set _ _
      · cases neg
        · have HE := hide (show sgn false (V o m) = sgn false (V d i) / Q k by simp only [sgn]; exact (div_pos_eq hQk f1 f2 f3).symm)
          clear f1 f2 f3 hl
          go_wp2_with (go_at_call 104; refine (of_fr w.heap.size _ _ _ _ o _ (unhide HR) (unhide FR)).mono ?_; rintro r w2 ⟨neg', a2, n2, c2, rfl, hint, hb2, fr2⟩; obtain ⟨hsz2, hcell2, hfz2⟩ := near (w.heap.size + 1 + 1) hsw hb2; have hz0 := Nat.lt_of_lt_of_le (Nat.lt_succ_of_lt (Nat.lt_succ_self w.heap.size)) hsz2; have hz1 := Nat.lt_of_lt_of_le (Nat.lt_succ_self (w.heap.size + 1)) hsz2)
          refine bodyPost_ret (v := .agg #[.bool neg', .slice a2 n2 c2]) (by simp [results, Try.results79, go_sem, hcell2, hz0, hz1, q3, q4]) rfl ⟨neg', a2, n2, c2, rfl, ?_, ?_, ?_⟩
          · have h0 : w2.cell? ⟨w.heap.size + 1, 0, none⟩ = some (.bool false) := by simp [hcell2, q3]
            have h1' : w2.cell? ⟨w.heap.size + 1, 1, none⟩ = some (.slice none 0 0) := by simp [hcell2, q4]
            rw [unhide HE] at hint
            exact ((hint.put2 h0 h1' _ _).below (bl1 _ _)).mono (by omega)
          · exact balloc (((bthen (b3.trans (hbl.mono (by omega))) hb2).setCell (p := ⟨w.heap.size + 1, 0, none⟩) (Nat.le_succ _) _).setCell (p := ⟨w.heap.size + 1, 1, none⟩) (Nat.le_succ _) _) _
          · exact ((fr2.set _ _).set _ _).below (bl1 _ _)
        · have HE := hide (show sgn true (V o m) = sgn true (V d i) / Q k by simp only [sgn]; exact (div_neg_eq hQk (by rw [f1, hl]; omega)).symm)
          clear f1 f2 f3 hl
          go_wp2_with (go_at_call 104; refine (of_fr w.heap.size _ _ _ _ o _ (unhide HR) (unhide FR)).mono ?_; rintro r w2 ⟨neg', a2, n2, c2, rfl, hint, hb2, fr2⟩; obtain ⟨hsz2, hcell2, hfz2⟩ := near (w.heap.size + 1 + 1) hsw hb2; have hz0 := Nat.lt_of_lt_of_le (Nat.lt_succ_of_lt (Nat.lt_succ_self w.heap.size)) hsz2; have hz1 := Nat.lt_of_lt_of_le (Nat.lt_succ_self (w.heap.size + 1)) hsz2)
          refine bodyPost_ret (v := .agg #[.bool neg', .slice a2 n2 c2]) (by simp [results, Try.results79, go_sem, hcell2, hz0, hz1, q3, q4]) rfl ⟨neg', a2, n2, c2, rfl, ?_, ?_, ?_⟩
          · have h0 : w2.cell? ⟨w.heap.size + 1, 0, none⟩ = some (.bool false) := by simp [hcell2, q3]
            have h1' : w2.cell? ⟨w.heap.size + 1, 1, none⟩ = some (.slice none 0 0) := by simp [hcell2, q4]
            rw [unhide HE] at hint
            exact ((hint.put2 h0 h1' _ _).below (bl1 _ _)).mono (by omega)
          · exact balloc (((bthen (b3.trans (hbl.mono (by omega))) hb2).setCell (p := ⟨w.heap.size + 1, 0, none⟩) (Nat.le_succ _) _).setCell (p := ⟨w.heap.size + 1, 1, none⟩) (Nat.le_succ _) _) _
          · exact ((fr2.set _ _).set _ _).below (bl1 _ _)

theorem down_fr (neg : Bool) (a : Option Addr) (n cap k k1 : Nat) (x : Int) (w : World) (h1 : IntAt w neg a n cap k1 x) (hk1 : k1 ≤ 1000000000) (hk : k ≤ 1000000000) :
    Calls Try.prog 79 #[.agg #[.bool neg, .slice a n cap], .int .i64 k] w fun r w' =>
      ∃ neg' a' n' cap', r = .returned (.agg #[.bool neg', .slice a' n' cap']) ∧ IntAt w' neg' a' n' cap' (k1 + 5) (x / Q k) ∧ Below w.heap.size w w' ∧ Mine w.heap.size w' a' n' := by
  obtain ⟨d, g1, g2, g3, g4, rfl⟩ := h1
  exact (downAny_fr neg a n cap k d w g1 (by omega) hk).mono fun _ _ ⟨n1, n2, n3, n4, q1, q2, q3, q4⟩ => ⟨n1, n2, n3, n4, q1, q2.mono (by omega), q3, q4⟩

set_option maxRecDepth 100000 in
set_option maxHeartbeats 1000000 in
theorem down_neg_fr (neg : Bool) (a : Option Addr) (n cap k k1 : Nat) (x : Int) (w : World) (h1 : IntAt w neg a n cap k1 x) (hk1 : k1 ≤ 1000000000) (hk : k ≤ 1000000000) (hk0 : 0 < k) :
    Calls Try.prog 79 #[.agg #[.bool neg, .slice a n cap], .int .i64 (-(k : Int))] w fun r w' =>
      ∃ neg' a' n' cap', r = .returned (.agg #[.bool neg', .slice a' n' cap']) ∧ IntAt w' neg' a' n' cap' (k / 16 + k1 + 1) (x * Q k) ∧ Below w.heap.size w w' ∧ Mine w.heap.size w' a' n' := by
  have hneg : -(k : Int) < 0 := by omega
  go_enter Try.func79, Try.ntmps79
  go_wp2_with (go_at_call 107; refine (up_fr _ _ _ _ k k1 x _ (h1.below (bl2 _ _ _)) hk1 hk).mono ?_; rintro r w2 ⟨neg', a2, n2, c2, rfl, hint, hb2, fr2⟩; obtain ⟨hsz2, hcell2, hfz2⟩ := near (w.heap.size + 1 + 1) (by simp) hb2)
  have h0 : w2.cell? ⟨w.heap.size + 1, 0, none⟩ = some (.bool false) := by simp [hcell2, go_sem]
  have h1' : w2.cell? ⟨w.heap.size + 1, 1, none⟩ = some (.slice none 0 0) := by simp [hcell2, go_sem]
  refine bodyPost_ret (v := .agg #[.bool neg', .slice a2 n2 c2]) (by simp [results, Try.results79, go_sem, h0, h1']) rfl ⟨neg', a2, n2, c2, rfl, ?_, ?_, ?_⟩
  · exact hint.put2 h0 h1' _ _
  · exact ((bthen (bl2 _ _ _) hb2).setCell (p := ⟨w.heap.size + 1, 0, none⟩) (Nat.le_succ _) _).setCell (p := ⟨w.heap.size + 1, 1, none⟩) (Nat.le_succ _) _
  · exact ((fr2.mono (bl2 _ _ _).size).set _ _).set _ _

theorem down_z_fr (neg : Bool) (a : Option Addr) (n cap k1 : Nat) (k x : Int) (w : World) (h1 : IntAt w neg a n cap k1 x) (hk1 : k1 ≤ 1000000000) (hk0 : -1000000000 ≤ k) (hk : k ≤ 1000000000) :
    Calls Try.prog 79 #[.agg #[.bool neg, .slice a n cap], .int .i64 k] w fun r w' =>
      ∃ neg' a' n' cap', r = .returned (.agg #[.bool neg', .slice a' n' cap']) ∧ IntAt w' neg' a' n' cap' ((-k).toNat / 16 + k1 + 5) (downZ x k) ∧ Below w.heap.size w w' ∧ Mine w.heap.size w' a' n' := by
  unfold downZ
  by_cases h : 0 ≤ k
  · obtain ⟨K, rfl⟩ := Int.eq_ofNat_of_zero_le h
    rw [if_pos h, Int.toNat_natCast]
    exact (down_fr neg a n cap K k1 x w h1 hk1 (by omega)).mono fun _ _ ⟨n1, n2, n3, n4, q1, q2, q3, q4⟩ => ⟨n1, n2, n3, n4, q1, q2.mono (by omega), q3, q4⟩
  · rw [if_neg h]
    obtain ⟨K, hK⟩ : ∃ K : Nat, k = -(K : Int) := ⟨(-k).toNat, by omega⟩
    subst hK
    rw [show (- -(K : Int)).toNat = K by omega]
    exact (down_neg_fr neg a n cap K k1 x w h1 hk1 (by omega) (by omega)).mono fun _ _ ⟨n1, n2, n3, n4, q1, q2, q3, q4⟩ => ⟨n1, n2, n3, n4, q1, q2.mono (by omega), q3, q4⟩

end Go.Proofs.Ytgmnknmjainabaa

namespace Go.Proofs.Ytgmnknmjainabaa
set_option linter.unusedVariables false
set_option linter.unusedSimpArgs false
set_option linter.unnecessarySimpa false
open Go.RowKit

/-- The digits from j on. -/
def Tp (d : Nat → Int) (j n : Nat) : Int := V (fun t => d (j + t)) (n - j)

theorem V_shift (d : Nat → Int) (m : Nat) : V d (m + 1) = d 0 + 65536 * V (fun t => d (1 + t)) m := by
  have h := V_split d 1 m
  rw [Nat.add_comm 1 m] at h
  rw [h]
  simp [V, P]

theorem Tp_top (d : Nat → Int) (n : Nat) : Tp d n n = 0 := by simp [Tp, V]
theorem Tp_zero (d : Nat → Int) (n : Nat) : Tp d 0 n = V d n := by simp [Tp]
theorem Tp_step (d : Nat → Int) (j n : Nat) (h : j < n) : Tp d j n = d j + 65536 * Tp d (j + 1) n := by
  unfold Tp
  obtain ⟨m, rfl⟩ : ∃ m, n = j + 1 + m := ⟨n - j - 1, by omega⟩
  rw [show j + 1 + m - j = m + 1 by omega, show j + 1 + m - (j + 1) = m by omega, V_shift]
  have : (fun t => d (j + (1 + t))) = (fun t => d (j + 1 + t)) := by funext t; congr 1; omega
  rw [this]; simp
theorem Tp_nonneg {d : Nat → Int} (hd : Dgs d) (j n : Nat) : 0 ≤ Tp d j n := V_nonneg (fun t => hd (j + t)) _
theorem Tp_lt {d : Nat → Int} (hd : Dgs d) (j n : Nat) : Tp d j n < P (n - j) := V_lt (fun t => hd (j + t)) _

theorem P3 : P 3 = 281474976710656 := rfl

theorem or64 (a b c : Int) (hb : 0 ≤ b) (hb1 : b < 65536) (ha : a = 65536 * c) (hc0 : 0 ≤ c) (hc1 : c < 281474976710656) : bits .or .u64 a b = a + b := by
  obtain ⟨B, rfl⟩ := Int.eq_ofNat_of_zero_le hb
  obtain ⟨C, rfl⟩ := Int.eq_ofNat_of_zero_le hc0
  have h3 := or_nat B (65536 * C) C 16 (by omega) (by omega)
  have ha' : a = ((65536 * C : Nat) : Int) := by omega
  rw [ha', u64_or_nat (65536 * C) B (by omega) (by omega), Nat.or_comm, h3]
  omega

theorem Tp_upd (o : Nat → Int) (i n : Nat) (v : Int) : Tp (upd o i v) (i + 1) n = Tp o (i + 1) n := by
  unfold Tp; exact V_congr _ (fun j _ => by simp [upd]; omega)

theorem short_step {d o : Nat → Int} {i n : Nat} (hi : i < n) {D L : Int} (hD : 0 < D) (hT : Tp d (i + 1) n = Tp o (i + 1) n * D + L) :
    Tp d i n = Tp (upd o i ((L * 65536 + d i) / D)) i n * D + (L * 65536 + d i) % D := by
  rw [Tp_step d i n hi, Tp_step (upd o i _) i n hi, Tp_upd, hT]
  have h1 : upd o i ((L * 65536 + d i) / D) i = (L * 65536 + d i) / D := by simp [upd]
  rw [h1, Int.add_mul, Int.mul_assoc]
  have h2 := Int.mul_ediv_add_emod (L * 65536 + d i) D
  rw [Int.mul_comm D] at h2
  omega
theorem short_bd {x D L : Int} (hD : 0 < D) (hx : 0 ≤ x ∧ x < 65536) (hL0 : 0 ≤ L) (hL1 : L < D) : 0 ≤ (L * 65536 + x) / D ∧ (L * 65536 + x) / D < 65536 ∧ 0 ≤ (L * 65536 + x) % D ∧ (L * 65536 + x) % D < D :=
  ⟨Int.ediv_nonneg (by omega) (by omega), Int.ediv_lt_of_lt_mul hD (by omega), Int.emod_nonneg _ (by omega), Int.emod_lt_of_pos _ hD⟩

theorem trimN_pos {d : Nat → Int} (hd : Dgs d) (n : Nat) : 0 < trimN d n ↔ V d n ≠ 0 := by
  have h1 := trimN_V d n
  have h2 := trimN_top d n
  constructor
  · intro h
    have h3 := V_ge hd (trimN d n - 1) (by omega)
    rw [show trimN d n - 1 + 1 = trimN d n by omega, h1] at h3
    have := P_pos (trimN d n - 1); omega
  · intro h
    rcases Nat.eq_zero_or_pos (trimN d n) with h0 | h0
    · rw [h0] at h1; simp [V] at h1; omega
    · exact h0

/-- Three digits of a number. -/
def rd (L : Int) (j : Nat) : Int := if j = 0 then L % 65536 else if j = 1 then L / 65536 % 65536 else if j = 2 then L / 4294967296 % 65536 else 0
theorem rd_dgs (L : Int) : Dgs (rd L) := by
  intro j; unfold rd; split
  · omega
  · split
    · omega
    · split <;> omega
theorem rd_V (L : Int) (h0 : 0 ≤ L) (h1 : L < 281474976710656) : V (rd L) 3 = L := by
  simp [V, rd, P]; omega

theorem dig3 (w : World) (t : TypeId) (x y z : Int) (f : Nat → Int) (hf : Dgs f) (h0 : f 0 = x) (h1 : f 1 = y) (h2 : f 2 = z) : Dig (w.alloc (.cells #[.int .u16 x, .int .u16 y, .int .u16 z] t)) (some ⟨w.heap.size, 0, none⟩) 3 3 f :=
  ⟨fun _ => ⟨w.heap.size, 0, rfl, by simp, fun j hj => by
    rw [World.cell?_alloc_at _ _ _ _ rfl, Nat.zero_add]
    match j, hj with
    | 0, _ => simp [h0]
    | 1, _ => simp [h1]
    | 2, _ => simp [h2]⟩, hf, by omega, by omega⟩

set_option maxRecDepth 100000 in
set_option maxHeartbeats 2000000 in
theorem short_any (a c : Option Addr) (n m cap cap2 : Nat) (d e : Nat → Int) (w : World) (ha : Dig w a n cap d) (hc : Dig w c m cap2 e) (hn : n ≤ 1000000000) (hm : m ≤ 3) (hpos : 0 < V e m) :
    Calls Try.prog 147 #[.slice a n cap, .slice c m cap2] w fun r w' =>
      ∃ a1 n1 c1 o a2 n2 c2 rem, r = .returned (.tuple #[.slice a1 n1 c1, .slice a2 n2 c2]) ∧ Dig w' a1 n1 c1 o ∧ n1 ≤ n ∧ (0 < n2 ↔ rem ≠ 0) ∧ n2 ≤ 3 ∧ V d n = V o n1 * V e m + rem ∧ 0 ≤ rem ∧ rem < V e m ∧ Below w.heap.size w w' := by
  have hmk := run_make_row' (P := Try.prog) 22 96 (.int .u16 0) 2 Try.underlying22 Try.infoU16 rfl .i64 .i64 n (by omega) (by omega)
  have hD : V e m < 281474976710656 := by
    have h1 := V_lt hc.dgs m
    have h2 := P_mono hm
    rw [P3] at h2; omega
  have Hmk := hide hmk
  clear hmk
  go_enter Try.func147, Try.ntmps147
  go_wp2
  go_loop [6, 7] (fun dd ii => ∃ j : Nat, j ≤ m ∧ ii = .int .i64 ((j : Int) - 1) ∧ dd = .int .u64 (Tp e j m)) (fun _ ii => (intOf ii + 1).toNat)
  case atStart => exact ⟨m, Nat.le_refl _, rfl, by rw [Tp_top]⟩
  case round =>
    obtain ⟨j, hj, rfl, rfl⟩ := hrel
    by_cases hj0 : j = 0
    · subst hj0
      rw [Tp_zero]
      have hmk := unhide Hmk
      go_wp2
      clear hmk
      obtain ⟨D, hDe⟩ : ∃ D, D = V e m := ⟨_, rfl⟩
      rw [← hDe] at hD hpos ⊢
      have hD0 : (D == 0) = false := by simp; omega
      have HDe := hide hDe
      clear hDe
      go_loopw [9, 10] (fun ll ii wr => ∃ (j : Nat) (o : Nat → Int) (L : Int), j ≤ n ∧ ii = .int .i64 ((j : Int) - 1) ∧ ll = .int .u64 L ∧ wr.rowIs w.heap.size 96 n (fun t => .int .u16 (o t)) ∧ Dgs o ∧ Tp d j n = Tp o j n * D + L ∧ 0 ≤ L ∧ L < D ∧ Below w.heap.size w wr) (fun _ ii _ => (intOf ii + 1).toNat)
      case atStart =>
        refine ⟨n, fun _ => 0, 0, Nat.le_refl _, rfl, rfl, World.rowIs_made w (.int .u16 0) n 96, fun _ => ⟨by simp, by simp⟩, ?_, by omega, by omega, bl1 _ _⟩
        rw [Tp_top, Tp_top]; simp
      case round =>
        obtain ⟨j, o, L, hj, rfl, rfl, hrow, hod, hT, hL0, hL1, hbl⟩ := hrel
        by_cases hj0 : j = 0
        · subst hj0
          rw [Tp_zero, Tp_zero] at hT
          have HT := hide hT
          have HR := hide (rowDig hrow hod (by omega))
          clear hT hrow hod
          go_wp2_with (go_at_call 134; refine (trimmed_any _ _ _ (rd L) _ (dig3 _ _ _ _ _ _ (rd_dgs L) (by simp [rd, wrap16]) (by simp [rd, wrap16]) (by simp [rd]; omega))).mono ?_; rintro r w2 ⟨rfl, hb2⟩)
          go_ret2
          refine ⟨_, n, n, o, _, trimN (rd L) 3, 3, L, rfl, (unhide HR).below (bthen (bl1 _ _) hb2), Nat.le_refl _, ?_, trimN_le _ _, ?_, hL0, ?_, bthen (balloc hbl _) hb2⟩
          · rw [trimN_pos (rd_dgs L), rd_V L hL0 (by omega)]
          · rw [← unhide HDe]; exact unhide HT
          · rw [← unhide HDe]; exact hL1
        · obtain ⟨i, rfl⟩ : ∃ i, j = i + 1 := ⟨j - 1, by omega⟩
          have e0 : ((i + 1 : Nat) : Int) - 1 = (i : Int) := by omega
          rw [e0]
          obtain ⟨b1, o1, rfl, hb1, hc1⟩ := ha.at_ (by omega)
          have g1 : wr.cell? ⟨b1, o1 + i, none⟩ = some (.int .u16 (d i)) := (hbl.cell (p := ⟨b1, o1 + i, none⟩) hb1).trans (hc1 i (by omega))
          have db := ha.dgs i
          have r1 := hrow.cell (show i < n by omega)
          have r2 := hrow.frozen i
          have hor := or64 (L * 65536) (d i) L db.1 db.2 (by omega) hL0 (by omega)
          have hin : (i : Int) < n := by omega
          have HT := hide hT
          clear hT hc1 e0
          have hst := short_step (o := o) (show i < n by omega) hpos (unhide HT)
          have sb := short_bd hpos db hL0 hL1
          have HS := hide hst
          clear hst
          go_wp2
          go_roundw
          case rel =>
            exact ⟨i, upd o i ((L * 65536 + d i) / D), (L * 65536 + d i) % D, by omega, by go_num, rfl, row_upd hrow i rfl, upd_dgs hod _ sb.1 sb.2.1, unhide HS, sb.2.2.1, sb.2.2.2, hbl.setCell (Nat.le_refl _) _⟩
          case measure => simp [intOf]; try omega
    · obtain ⟨i, rfl⟩ : ∃ i, j = i + 1 := ⟨j - 1, by omega⟩
      have e0 : ((i + 1 : Nat) : Int) - 1 = (i : Int) := by omega
      rw [e0]
      obtain ⟨b2, o2, rfl, hb2, hc2⟩ := hc.at_ (by omega)
      have g2 : w.cell? ⟨b2, o2 + i, none⟩ = some (.int .u16 (e i)) := hc2 i (by omega)
      have eb := hc.dgs i
      have t0 := Tp_nonneg hc.dgs (i + 1) m
      have t1 := Tp_lt hc.dgs (i + 1) m
      have t2 := P_mono (show m - (i + 1) ≤ 2 by omega)
      have eP2 : P 2 = 4294967296 := rfl
      rw [eP2] at t2
      have ts := Tp_step e i m (by omega)
      have H1 := hide (show bits .or .u64 (Tp e (i + 1) m * 65536) (e i) = Tp e i m by rw [or64 _ _ (Tp e (i + 1) m) eb.1 eb.2 (by omega) t0 (by omega), ts]; omega)
      have im : (i : Int) < m := by omega
      clear ts hc2 e0 eP2
      go_wp2
      go_round
      case rel => exact ⟨i, by omega, by go_num, by rw [← unhide H1]; try rfl⟩
      case measure => simp [intOf]; try omega
end Go.Proofs.Ytgmnknmjainabaa
