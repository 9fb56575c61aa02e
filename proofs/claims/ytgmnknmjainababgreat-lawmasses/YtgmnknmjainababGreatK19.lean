/-
  tailsurelaw.LawMasses returns true of whatever law, number and bits.
  tailsurelaw.LawMasses returns true of whatever it is handed: all its ways together.
  How a span that is handed to a statement is opened: its ends' digits, within the form's own reach; no statement of the seat is proved here.
-/
import Derived.Test.YtgmnknmjainababGreatRows
import Derived.ProofKit
import Derived.OpenShut
import Derived.SizedLaws
import Derived.ChangeOld
import Derived.Test.YtgmnknmjainababGreatK18
namespace Go.Proofs.YtgmnknmjainababGreat
set_option linter.unusedVariables false
set_option linter.unusedSimpArgs false
set_option linter.unnecessarySimpa false
open Go.RowKit
attribute [local go_sem ↓] Go.wp_at_zero Go.wp_at_succ

set_option maxRecDepth 100000 in
set_option maxHeartbeats 4000000 in
theorem lawSure0_a (w : World) (s t : Sp) (b k : Nat) (lo hi lo' hi' : Int) (hs : SpAt w s 250 lo hi) (ht : SpAt w t k lo' hi') (hk0 : 250 ≤ k) (hk : k ≤ 300000000) (hb : s.bits = b) (hbm : b ≤ 120) (hle : lo ≤ hi) (htb : t.bits = (b : Int)) (hN : narB lo hi (Q b) 4 = true) (hT : touB lo hi 0 lo' hi' 0 = true) (hc : cmpInt lo hi = -1) :
    Calls Tryz.prog 12 #[.agg #[.bool s.ln, .slice s.la s.lN s.lc, .bool s.hn, .slice s.ha s.hN s.hc, .int .i64 s.bits], .int .i64 0, .int .i64 0, .int .i64 s.bits, .agg #[.bool t.ln, .slice t.la t.lN t.lc, .bool t.hn, .slice t.ha t.hN t.hc, .int .i64 t.bits]] w fun r w' => r = .returned (.bool true) ∧ Below w.heap.size w w' := by
  obtain ⟨W, hW⟩ : ∃ W, W = (w.alloc (.cells #[.bool s.ln, .slice s.la s.lN s.lc, .bool s.hn, .slice s.ha s.hN s.hc, .int .i64 s.bits] 28)).alloc (.cells #[.bool t.ln, .slice t.la t.lN t.lc, .bool t.hn, .slice t.ha t.hN t.hc, .int .i64 t.bits] 36) := ⟨_, rfl⟩
  have hBW : Below w.heap.size w W := by rw [hW]; exact bl2 _ _ _
  have A : SpC W w.heap.size s := by rw [hW]; exact ⟨by simp [go_sem], by simp [go_sem], by simp [go_sem], by simp [go_sem], by simp [go_sem]⟩
  have C : SpC W (w.heap.size + 1) t := by rw [hW]; exact ⟨by simp [go_sem], by simp [go_sem], by simp [go_sem], by simp [go_sem], by simp [go_sem]⟩
  have HS := hide (hs.below hBW)
  have HT := hide (ht.below hBW)
  have HSB := hide hb
  have HTB := hide htb
  have HN := hide hN
  have HTO := hide hT
  have HC := hide hc
  have HLE := hide hle
  have HK := hide (show ∀ w', Below W.heap.size W w' → (w'.cell? ⟨w.heap.size, 0, none⟩ = some (.bool s.ln) ∧ w'.cell? ⟨w.heap.size, 1, none⟩ = some (.slice s.la s.lN s.lc) ∧ w'.cell? ⟨w.heap.size, 2, none⟩ = some (.bool s.hn) ∧ w'.cell? ⟨w.heap.size, 3, none⟩ = some (.slice s.ha s.hN s.hc) ∧ w'.cell? ⟨w.heap.size, 4, none⟩ = some (.int .i64 s.bits) ∧ w'.cell? ⟨w.heap.size + 1, 0, none⟩ = some (.bool t.ln) ∧ w'.cell? ⟨w.heap.size + 1, 1, none⟩ = some (.slice t.la t.lN t.lc) ∧ w'.cell? ⟨w.heap.size + 1, 2, none⟩ = some (.bool t.hn) ∧ w'.cell? ⟨w.heap.size + 1, 3, none⟩ = some (.slice t.ha t.hN t.hc) ∧ w'.cell? ⟨w.heap.size + 1, 4, none⟩ = some (.int .i64 t.bits)) from fun w' hB => ⟨(A.below hB).c0, (A.below hB).c1, (A.below hB).c2, (A.below hB).c3, (A.below hB).c4, (C.below hB).c0, (C.below hB).c1, (C.below hB).c2, (C.below hB).c3, (C.below hB).c4⟩)
  clear A C hs ht hb htb hN hT hc hle
  go_enter Tryz.func12, Tryz.ntmps12
  go_wp2
  rw [← hW]
  clear hW
  obtain ⟨x0, x1, x2, x3, x4, y0, y1, y2, y3, y4⟩ := unhide HK _ (Below.refl _ _)
  have hD0 : Below W.heap.size W W.drew := (Below.refl _ _).drew
  go_region_held3 (fun w' => w'.cell? ⟨w.heap.size, 0, none⟩ = some (.bool s.ln) ∧ w'.cell? ⟨w.heap.size, 1, none⟩ = some (.slice s.la s.lN s.lc) ∧ w'.cell? ⟨w.heap.size, 2, none⟩ = some (.bool s.hn) ∧ w'.cell? ⟨w.heap.size, 3, none⟩ = some (.slice s.ha s.hN s.hc) ∧ w'.cell? ⟨w.heap.size, 4, none⟩ = some (.int .i64 s.bits) ∧ w'.cell? ⟨w.heap.size + 1, 0, none⟩ = some (.bool t.ln) ∧ w'.cell? ⟨w.heap.size + 1, 1, none⟩ = some (.slice t.la t.lN t.lc) ∧ w'.cell? ⟨w.heap.size + 1, 2, none⟩ = some (.bool t.hn) ∧ w'.cell? ⟨w.heap.size + 1, 3, none⟩ = some (.slice t.ha t.hN t.hc) ∧ w'.cell? ⟨w.heap.size + 1, 4, none⟩ = some (.int .i64 t.bits)) (first | exact unhide HK _ (by first | with_reducible exact hD0 | with_reducible exact hD6 | with_reducible exact hD5 | with_reducible exact hD4 | with_reducible exact hD3 | with_reducible exact hD2 | with_reducible exact hD1) | go_keep)
    (first
      | (go_at_call 50; have hq := hD5; refine (touch_le _ s t k 0 0 lo hi lo' hi' (((unhide HS).below hD5).mono hk0) ((unhide HT).below hD5) hk (by have := unhide HSB; omega) (by have := unhide HSB; omega) (by have := unhide HTB; omega) (by have := unhide HTB; omega) (by have := unhide HSB; have := unhide HTB; omega) (by omega) (by have := unhide HSB; have := unhide HTB; omega)).mono ?_; rintro r' w6 ⟨rfl, hb6⟩; rw [unhide HTO]; have hD6 := bthen hD5 hb6)
      | (go_at_call 51; have hq := hD4; refine (refOf_any _ s).mono ?_; rintro r' w5 ⟨rfl, hb5⟩; have hD5 := bthen hD4 hb5)
      | (go_at_call 47; have hq := hD3; refine (narrowBy_four _ s b lo hi ((unhide HS).below hD3) (unhide HSB) hbm (unhide HLE) (unhide HN)).mono ?_; rintro r' w4 ⟨rfl, hb4⟩; have hD4 := bthen hD3 hb4)
      | (go_at_call 46; have hq := hD2; refine (cmp_int _ _ _ _ _ _ _ _ _ _ lo hi _ ((unhide HS).lo.below hD2) ((unhide HS).hi.below hD2)).mono ?_; rintro r' w3 ⟨rfl, hb3⟩; rw [unhide HC]; have hD3 := bthen hD2 hb3)
      | (go_at_call 49; have hq := hD1; refine (isRight_int _ _ _ _ 250 hi _ ((unhide HS).hi.below hD1)).mono ?_; rintro r' w2 ⟨rfl, hb2⟩; have hD2 := bthen hD1 hb2)
      | (go_at_call 49; refine (isRight_int _ _ _ _ 250 lo _ ((unhide HS).lo.below hD0)).mono ?_; rintro r' w1 ⟨rfl, hb1⟩; have hD1 := bthen hD0 hb1))
  all_goals
    go_wp2_with fail
    go_ret
    exact ⟨rfl, bthen hBW hD6⟩

set_option maxRecDepth 100000 in
set_option maxHeartbeats 4000000 in
theorem lawSure0_b (w : World) (s t : Sp) (b k : Nat) (lo hi lo' hi' : Int) (hs : SpAt w s 250 lo hi) (ht : SpAt w t k lo' hi') (hk0 : 250 ≤ k) (hk : k ≤ 300000000) (hb : s.bits = b) (hbm : b ≤ 120) (hle : lo ≤ hi) (htb : t.bits = (b : Int)) (hN : narB lo hi (Q b) 4 = true) (hT : touB lo hi 0 lo' hi' 0 = true) (hc : cmpInt lo hi = 0) :
    Calls Tryz.prog 12 #[.agg #[.bool s.ln, .slice s.la s.lN s.lc, .bool s.hn, .slice s.ha s.hN s.hc, .int .i64 s.bits], .int .i64 0, .int .i64 0, .int .i64 s.bits, .agg #[.bool t.ln, .slice t.la t.lN t.lc, .bool t.hn, .slice t.ha t.hN t.hc, .int .i64 t.bits]] w fun r w' => r = .returned (.bool true) ∧ Below w.heap.size w w' := by
  obtain ⟨W, hW⟩ : ∃ W, W = (w.alloc (.cells #[.bool s.ln, .slice s.la s.lN s.lc, .bool s.hn, .slice s.ha s.hN s.hc, .int .i64 s.bits] 28)).alloc (.cells #[.bool t.ln, .slice t.la t.lN t.lc, .bool t.hn, .slice t.ha t.hN t.hc, .int .i64 t.bits] 36) := ⟨_, rfl⟩
  have hBW : Below w.heap.size w W := by rw [hW]; exact bl2 _ _ _
  have A : SpC W w.heap.size s := by rw [hW]; exact ⟨by simp [go_sem], by simp [go_sem], by simp [go_sem], by simp [go_sem], by simp [go_sem]⟩
  have C : SpC W (w.heap.size + 1) t := by rw [hW]; exact ⟨by simp [go_sem], by simp [go_sem], by simp [go_sem], by simp [go_sem], by simp [go_sem]⟩
  have HS := hide (hs.below hBW)
  have HT := hide (ht.below hBW)
  have HSB := hide hb
  have HTB := hide htb
  have HN := hide hN
  have HTO := hide hT
  have HC := hide hc
  have HLE := hide hle
  have HK := hide (show ∀ w', Below W.heap.size W w' → (w'.cell? ⟨w.heap.size, 0, none⟩ = some (.bool s.ln) ∧ w'.cell? ⟨w.heap.size, 1, none⟩ = some (.slice s.la s.lN s.lc) ∧ w'.cell? ⟨w.heap.size, 2, none⟩ = some (.bool s.hn) ∧ w'.cell? ⟨w.heap.size, 3, none⟩ = some (.slice s.ha s.hN s.hc) ∧ w'.cell? ⟨w.heap.size, 4, none⟩ = some (.int .i64 s.bits) ∧ w'.cell? ⟨w.heap.size + 1, 0, none⟩ = some (.bool t.ln) ∧ w'.cell? ⟨w.heap.size + 1, 1, none⟩ = some (.slice t.la t.lN t.lc) ∧ w'.cell? ⟨w.heap.size + 1, 2, none⟩ = some (.bool t.hn) ∧ w'.cell? ⟨w.heap.size + 1, 3, none⟩ = some (.slice t.ha t.hN t.hc) ∧ w'.cell? ⟨w.heap.size + 1, 4, none⟩ = some (.int .i64 t.bits)) from fun w' hB => ⟨(A.below hB).c0, (A.below hB).c1, (A.below hB).c2, (A.below hB).c3, (A.below hB).c4, (C.below hB).c0, (C.below hB).c1, (C.below hB).c2, (C.below hB).c3, (C.below hB).c4⟩)
  clear A C hs ht hb htb hN hT hc hle
  go_enter Tryz.func12, Tryz.ntmps12
  go_wp2
  rw [← hW]
  clear hW
  obtain ⟨x0, x1, x2, x3, x4, y0, y1, y2, y3, y4⟩ := unhide HK _ (Below.refl _ _)
  have hD0 : Below W.heap.size W W.drew := (Below.refl _ _).drew
  go_region_held3 (fun w' => w'.cell? ⟨w.heap.size, 0, none⟩ = some (.bool s.ln) ∧ w'.cell? ⟨w.heap.size, 1, none⟩ = some (.slice s.la s.lN s.lc) ∧ w'.cell? ⟨w.heap.size, 2, none⟩ = some (.bool s.hn) ∧ w'.cell? ⟨w.heap.size, 3, none⟩ = some (.slice s.ha s.hN s.hc) ∧ w'.cell? ⟨w.heap.size, 4, none⟩ = some (.int .i64 s.bits) ∧ w'.cell? ⟨w.heap.size + 1, 0, none⟩ = some (.bool t.ln) ∧ w'.cell? ⟨w.heap.size + 1, 1, none⟩ = some (.slice t.la t.lN t.lc) ∧ w'.cell? ⟨w.heap.size + 1, 2, none⟩ = some (.bool t.hn) ∧ w'.cell? ⟨w.heap.size + 1, 3, none⟩ = some (.slice t.ha t.hN t.hc) ∧ w'.cell? ⟨w.heap.size + 1, 4, none⟩ = some (.int .i64 t.bits)) (first | exact unhide HK _ (by first | with_reducible exact hD0 | with_reducible exact hD6 | with_reducible exact hD5 | with_reducible exact hD4 | with_reducible exact hD3 | with_reducible exact hD2 | with_reducible exact hD1) | go_keep)
    (first
      | (go_at_call 50; have hq := hD5; refine (touch_le _ s t k 0 0 lo hi lo' hi' (((unhide HS).below hD5).mono hk0) ((unhide HT).below hD5) hk (by have := unhide HSB; omega) (by have := unhide HSB; omega) (by have := unhide HTB; omega) (by have := unhide HTB; omega) (by have := unhide HSB; have := unhide HTB; omega) (by omega) (by have := unhide HSB; have := unhide HTB; omega)).mono ?_; rintro r' w6 ⟨rfl, hb6⟩; rw [unhide HTO]; have hD6 := bthen hD5 hb6)
      | (go_at_call 51; have hq := hD4; refine (refOf_any _ s).mono ?_; rintro r' w5 ⟨rfl, hb5⟩; have hD5 := bthen hD4 hb5)
      | (go_at_call 47; have hq := hD3; refine (narrowBy_four _ s b lo hi ((unhide HS).below hD3) (unhide HSB) hbm (unhide HLE) (unhide HN)).mono ?_; rintro r' w4 ⟨rfl, hb4⟩; have hD4 := bthen hD3 hb4)
      | (go_at_call 46; have hq := hD2; refine (cmp_int _ _ _ _ _ _ _ _ _ _ lo hi _ ((unhide HS).lo.below hD2) ((unhide HS).hi.below hD2)).mono ?_; rintro r' w3 ⟨rfl, hb3⟩; rw [unhide HC]; have hD3 := bthen hD2 hb3)
      | (go_at_call 49; have hq := hD1; refine (isRight_int _ _ _ _ 250 hi _ ((unhide HS).hi.below hD1)).mono ?_; rintro r' w2 ⟨rfl, hb2⟩; have hD2 := bthen hD1 hb2)
      | (go_at_call 49; refine (isRight_int _ _ _ _ 250 lo _ ((unhide HS).lo.below hD0)).mono ?_; rintro r' w1 ⟨rfl, hb1⟩; have hD1 := bthen hD0 hb1))
  all_goals
    go_wp2_with fail
    go_ret
    exact ⟨rfl, bthen hBW hD6⟩

theorem lawSure0_ok (w : World) (s t : Sp) (b k : Nat) (lo hi lo' hi' : Int) (hs : SpAt w s 250 lo hi) (ht : SpAt w t k lo' hi') (hk0 : 250 ≤ k) (hk : k ≤ 300000000) (hb : s.bits = b) (hb1 : b ≤ 120) (hle : lo ≤ hi) (htb : t.bits = (b : Int)) (hN : narB lo hi (Q b) 4 = true) (hT : touB lo hi 0 lo' hi' 0 = true) :
    Calls Tryz.prog 12 #[.agg #[.bool s.ln, .slice s.la s.lN s.lc, .bool s.hn, .slice s.ha s.hN s.hc, .int .i64 s.bits], .int .i64 0, .int .i64 0, .int .i64 b, .agg #[.bool t.ln, .slice t.la t.lN t.lc, .bool t.hn, .slice t.ha t.hN t.hc, .int .i64 t.bits]] w fun r w' => r = .returned (.bool true) ∧ Below w.heap.size w w' := by
  rw [← hb]
  rcases cmp3 lo hi with ⟨h1, h2⟩ | ⟨h1, h2⟩ | ⟨h1, h2⟩
  · exact lawSure0_a w s t b k lo hi lo' hi' hs ht hk0 hk hb hb1 hle htb hN hT h1
  · exact lawSure0_b w s t b k lo hi lo' hi' hs ht hk0 hk hb hb1 hle htb hN hT h1
  · omega
theorem touch_eq {b : Nat} {a c : Int × Int} {x : Nat → Rat} (h : Iv b a x) (k : Iv b c x) : touB a.1 a.2 0 c.1 c.2 0 = true := by
  have q := Q_pos b
  have t1 := Int.le_of_mul_le_mul_right (h.touch k) (show 0 < Q b by omega)
  have t2 := Int.le_of_mul_le_mul_right (k.touch h) (show 0 < Q b by omega)
  have e0 : Q 0 = 1 := rfl
  unfold touB
  rw [e0]
  simp [t1, t2]
theorem sure_mas {b : Nat} {x : Nat → Rat} {L H : Int} (h : SureOf b (MasPr x) L H) : Iv b (L, H) x ∧ L ≤ H ∧ narB L H (Q b) 4 = true ∧ 0 ≤ L ∧ H ≤ Q b := by
  obtain ⟨m, lo, hi, ⟨h1, h2, h3, h4, h5⟩, hm, e1, e2, h6⟩ := h
  have h7 := to_width (m := m) h2 h3
  have h8 : L ≤ H := by rw [e1, e2]; omega
  have q := Q_pos m
  have qb := Q_pos b
  rw [Q_add] at h5
  refine ⟨?_, h8, ?_, by rw [e1]; exact Int.ediv_nonneg h4 (by omega), ?_⟩
  · have := Iv.to (B := b) (m := m) h1
    rw [e1, e2]; exact this
  · rcases h6 with h6 | h6
    · exact narB_small h8 (by omega)
    · exact h6
  · rw [e2]
    have : -(Q b) ≤ -hi / Q m := Int.le_ediv_of_mul_le (by omega) (by rw [Int.neg_mul]; omega)
    omega

set_option maxRecDepth 100000 in
set_option maxHeartbeats 2000000 in
theorem law_lawMasses_law (k p q r s n b : Int) (w : World) (h0 : lawE k p q r s ≠ 0) :
    Calls Tryz.prog 8 #[.agg #[.int .i64 k, .int .i64 p, .int .i64 q, .int .i64 r, .int .i64 s], .int .i64 n, .int .i64 b] w fun z w' => z = .returned (.bool true) ∧ Below w.heap.size w w' := by
  have HE := hide (show masE k p q r s n b = lawE k p q r s by unfold masE; rw [if_pos h0])
  have H0 := hide h0
  clear h0
  go_enter Tryz.func8, Tryz.ntmps8
  go_wp2_with fail
  obtain ⟨W, hW⟩ : ∃ W, W = w.alloc (.cells #[.int .i64 k, .int .i64 p, .int .i64 q, .int .i64 r, .int .i64 s] 53) := ⟨_, rfl⟩
  have hB : Below w.heap.size w W := by rw [hW]; exact bl1 _ _
  have A : LwC W w.heap.size k p q r s := by rw [hW]; exact lwc_new w k p q r s _
  rw [← hW]
  clear hW
  refine (mass_bad _ k p q r s n b (by rw [unhide HE]; exact unhide H0)).mono ?_
  rintro r' w1 ⟨s1, rfl, hsb1, hs1, hb1⟩
  rw [unhide HE]
  have HB1 := hide hsb1
  clear hsb1
  replace hB := bthen hB hb1
  replace A := A.below hb1
  clear hb1
  obtain ⟨V1, hV1⟩ : ∃ V1, V1 = w1.alloc (.cells #[.bool s1.ln, .slice s1.la s1.lN s1.lc, .bool s1.hn, .slice s1.ha s1.hN s1.hc, .int .i64 s1.bits] 28) := ⟨_, rfl⟩
  have bV1 : Below w1.heap.size w1 V1 := by rw [hV1]; exact bl1 _ _
  have S1 : SpC V1 w1.heap.size s1 := by rw [hV1]; exact spc_new w1 s1 _
  replace hs1 := hs1.below bV1
  replace hB := bthen hB bV1
  have A0 := A
  have lA := A0.lt
  replace A := A.below bV1
  clear bV1
  obtain ⟨x0, x1, x2, x3, x4⟩ := A0
  go_wp2_with fail
  rw [← hV1]
  clear hV1 x0 x1 x2 x3 x4
  refine (ref_law k p q r s _).mono ?_
  rintro r' w2 ⟨rfl, hb2⟩
  replace hB := bthen hB hb2
  replace S1 := S1.below hb2
  replace hs1 := hs1.below hb2
  replace A := A.below hb2
  clear hb2
  have lA2 := A.lt
  have lS2 := S1.lt
  have A0 := A
  obtain ⟨x0, x1, x2, x3, x4⟩ := A0
  have hne : (lawE k p q r s != 0) = true := by simpa using unhide H0
  go_wp2_with fail
  refine (lawBegun_any _).mono ?_
  rintro r' w4 ⟨rfl, hb4⟩
  replace hB := bthen hB hb4
  replace S1 := S1.below hb4
  replace hs1 := hs1.below hb4
  clear hb4
  obtain ⟨z0, z1, z2, z3, z4⟩ := S1
  go_wp2_with fail
  refine (lawSure_bad _ s1 ⟨false, none, 0, 0, false, none, 0, 0, 0⟩ _ _ _ hs1 (unhide HB1) (unhide H0)).mono ?_
  rintro r' w5 ⟨rfl, hb5⟩
  go_wp2_with fail
  go_ret
  exact ⟨rfl, bthen hB hb5⟩

set_option maxRecDepth 100000 in
set_option maxHeartbeats 2000000 in
theorem law_lawMasses_kind (k p q r s n b : Int) (w : World) (h0 : lawE k p q r s = 0) (hk : k < 6) :
    Calls Tryz.prog 8 #[.agg #[.int .i64 k, .int .i64 p, .int .i64 q, .int .i64 r, .int .i64 s], .int .i64 n, .int .i64 b] w fun z w' => z = .returned (.bool true) ∧ Below w.heap.size w w' := by
  have HE := hide (show masE k p q r s n b = 6 by unfold masE; rw [h0]; simp; omega)
  have H0 := hide h0
  clear h0
  go_enter Tryz.func8, Tryz.ntmps8
  go_wp2_with fail
  obtain ⟨W, hW⟩ : ∃ W, W = w.alloc (.cells #[.int .i64 k, .int .i64 p, .int .i64 q, .int .i64 r, .int .i64 s] 53) := ⟨_, rfl⟩
  have hB : Below w.heap.size w W := by rw [hW]; exact bl1 _ _
  have A : LwC W w.heap.size k p q r s := by rw [hW]; exact lwc_new w k p q r s _
  rw [← hW]
  clear hW
  refine (mass_bad _ k p q r s n b (by rw [unhide HE]; decide)).mono ?_
  rintro r' w1 ⟨s1, rfl, hsb1, hs1, hb1⟩
  rw [unhide HE]
  have HB1 := hide hsb1
  clear hsb1
  replace hB := bthen hB hb1
  replace A := A.below hb1
  clear hb1
  obtain ⟨V1, hV1⟩ : ∃ V1, V1 = w1.alloc (.cells #[.bool s1.ln, .slice s1.la s1.lN s1.lc, .bool s1.hn, .slice s1.ha s1.hN s1.hc, .int .i64 s1.bits] 28) := ⟨_, rfl⟩
  have bV1 : Below w1.heap.size w1 V1 := by rw [hV1]; exact bl1 _ _
  have S1 : SpC V1 w1.heap.size s1 := by rw [hV1]; exact spc_new w1 s1 _
  replace hs1 := hs1.below bV1
  replace hB := bthen hB bV1
  have A0 := A
  have lA := A0.lt
  replace A := A.below bV1
  clear bV1
  obtain ⟨x0, x1, x2, x3, x4⟩ := A0
  go_wp2_with fail
  rw [← hV1]
  clear hV1 x0 x1 x2 x3 x4
  refine (ref_law k p q r s _).mono ?_
  rintro r' w2 ⟨rfl, hb2⟩
  replace hB := bthen hB hb2
  replace S1 := S1.below hb2
  replace hs1 := hs1.below hb2
  replace A := A.below hb2
  clear hb2
  have lA2 := A.lt
  have lS2 := S1.lt
  have A0 := A
  obtain ⟨x0, x1, x2, x3, x4⟩ := A0
  rw [unhide H0]
  go_wp2_with fail
  refine (lawBegun_any _).mono ?_
  rintro r' w4 ⟨rfl, hb4⟩
  replace hB := bthen hB hb4
  replace S1 := S1.below hb4
  replace hs1 := hs1.below hb4
  clear hb4
  obtain ⟨z0, z1, z2, z3, z4⟩ := S1
  go_wp2_with fail
  refine (lawSure_bad _ s1 ⟨false, none, 0, 0, false, none, 0, 0, 0⟩ _ _ _ hs1 (unhide HB1) (by decide)).mono ?_
  rintro r' w5 ⟨rfl, hb5⟩
  go_wp2_with fail
  go_ret
  exact ⟨rfl, bthen hB hb5⟩

set_option maxRecDepth 100000 in
set_option maxHeartbeats 2000000 in
theorem law_lawMasses_bits6 (p q r s n b : Int) (w : World) (h0 : lawE 6 p q r s = 0) (h : ¬ (8 ≤ b ∧ b ≤ 120)) :
    Calls Tryz.prog 8 #[.agg #[.int .i64 6, .int .i64 p, .int .i64 q, .int .i64 r, .int .i64 s], .int .i64 n, .int .i64 b] w fun z w' => z = .returned (.bool true) ∧ Below w.heap.size w w' := by
  have HE := hide (show masE 6 p q r s n b = 3 by unfold masE; rw [h0]; simp; omega)
  have H0 := hide h0
  clear h0
  go_enter Tryz.func8, Tryz.ntmps8
  go_wp2_with fail
  obtain ⟨W, hW⟩ : ∃ W, W = w.alloc (.cells #[.int .i64 6, .int .i64 p, .int .i64 q, .int .i64 r, .int .i64 s] 53) := ⟨_, rfl⟩
  have hB : Below w.heap.size w W := by rw [hW]; exact bl1 _ _
  have A : LwC W w.heap.size 6 p q r s := by rw [hW]; exact lwc_new w 6 p q r s _
  rw [← hW]
  clear hW
  refine (mass_bad _ 6 p q r s n b (by rw [unhide HE]; decide)).mono ?_
  rintro r' w1 ⟨s1, rfl, hsb1, hs1, hb1⟩
  rw [unhide HE]
  have HB1 := hide hsb1
  clear hsb1
  replace hB := bthen hB hb1
  replace A := A.below hb1
  clear hb1
  obtain ⟨V1, hV1⟩ : ∃ V1, V1 = w1.alloc (.cells #[.bool s1.ln, .slice s1.la s1.lN s1.lc, .bool s1.hn, .slice s1.ha s1.hN s1.hc, .int .i64 s1.bits] 28) := ⟨_, rfl⟩
  have bV1 : Below w1.heap.size w1 V1 := by rw [hV1]; exact bl1 _ _
  have S1 : SpC V1 w1.heap.size s1 := by rw [hV1]; exact spc_new w1 s1 _
  replace hs1 := hs1.below bV1
  replace hB := bthen hB bV1
  have A0 := A
  have lA := A0.lt
  replace A := A.below bV1
  clear bV1
  obtain ⟨x0, x1, x2, x3, x4⟩ := A0
  go_wp2_with fail
  rw [← hV1]
  clear hV1 x0 x1 x2 x3 x4
  refine (ref_law 6 p q r s _).mono ?_
  rintro r' w2 ⟨rfl, hb2⟩
  replace hB := bthen hB hb2
  replace S1 := S1.below hb2
  replace hs1 := hs1.below hb2
  replace A := A.below hb2
  clear hb2
  have lA2 := A.lt
  have lS2 := S1.lt
  have A0 := A
  obtain ⟨x0, x1, x2, x3, x4⟩ := A0
  rw [unhide H0]
  go_wp2_with fail
  refine (refRightBits _ _).mono ?_
  rintro r' w3 ⟨rfl, rfl⟩
  rw [show bitOk b = false by unfold bitOk; simp; omega]
  go_wp2_with fail
  refine (lawBegun_any _).mono ?_
  rintro r' w4 ⟨rfl, hb4⟩
  replace hB := bthen hB hb4
  replace S1 := S1.below hb4
  replace hs1 := hs1.below hb4
  clear hb4
  obtain ⟨z0, z1, z2, z3, z4⟩ := S1
  go_wp2_with fail
  refine (lawSure_bad _ s1 ⟨false, none, 0, 0, false, none, 0, 0, 0⟩ _ _ _ hs1 (unhide HB1) (by decide)).mono ?_
  rintro r' w5 ⟨rfl, hb5⟩
  go_wp2_with fail
  go_ret
  exact ⟨rfl, bthen hB hb5⟩

set_option maxRecDepth 100000 in
set_option maxHeartbeats 2000000 in
theorem law_lawMasses_lo6 (p q r s n b : Int) (w : World) (h0 : lawE 6 p q r s = 0) (h1 : 8 ≤ b) (h2 : b ≤ 120) (h : n < -1048576) :
    Calls Tryz.prog 8 #[.agg #[.int .i64 6, .int .i64 p, .int .i64 q, .int .i64 r, .int .i64 s], .int .i64 n, .int .i64 b] w fun z w' => z = .returned (.bool true) ∧ Below w.heap.size w w' := by
  have HE := hide (show masE 6 p q r s n b = 3 by unfold masE; rw [h0]; simp; omega)
  have H0 := hide h0
  clear h0
  go_enter Tryz.func8, Tryz.ntmps8
  go_wp2_with fail
  obtain ⟨W, hW⟩ : ∃ W, W = w.alloc (.cells #[.int .i64 6, .int .i64 p, .int .i64 q, .int .i64 r, .int .i64 s] 53) := ⟨_, rfl⟩
  have hB : Below w.heap.size w W := by rw [hW]; exact bl1 _ _
  have A : LwC W w.heap.size 6 p q r s := by rw [hW]; exact lwc_new w 6 p q r s _
  rw [← hW]
  clear hW
  refine (mass_bad _ 6 p q r s n b (by rw [unhide HE]; decide)).mono ?_
  rintro r' w1 ⟨s1, rfl, hsb1, hs1, hb1⟩
  rw [unhide HE]
  have HB1 := hide hsb1
  clear hsb1
  replace hB := bthen hB hb1
  replace A := A.below hb1
  clear hb1
  obtain ⟨V1, hV1⟩ : ∃ V1, V1 = w1.alloc (.cells #[.bool s1.ln, .slice s1.la s1.lN s1.lc, .bool s1.hn, .slice s1.ha s1.hN s1.hc, .int .i64 s1.bits] 28) := ⟨_, rfl⟩
  have bV1 : Below w1.heap.size w1 V1 := by rw [hV1]; exact bl1 _ _
  have S1 : SpC V1 w1.heap.size s1 := by rw [hV1]; exact spc_new w1 s1 _
  replace hs1 := hs1.below bV1
  replace hB := bthen hB bV1
  have A0 := A
  have lA := A0.lt
  replace A := A.below bV1
  clear bV1
  obtain ⟨x0, x1, x2, x3, x4⟩ := A0
  go_wp2_with fail
  rw [← hV1]
  clear hV1 x0 x1 x2 x3 x4
  refine (ref_law 6 p q r s _).mono ?_
  rintro r' w2 ⟨rfl, hb2⟩
  replace hB := bthen hB hb2
  replace S1 := S1.below hb2
  replace hs1 := hs1.below hb2
  replace A := A.below hb2
  clear hb2
  have lA2 := A.lt
  have lS2 := S1.lt
  have A0 := A
  obtain ⟨x0, x1, x2, x3, x4⟩ := A0
  rw [unhide H0]
  go_wp2_with fail
  refine (refRightBits _ _).mono ?_
  rintro r' w3 ⟨rfl, rfl⟩
  rw [show bitOk b = true by unfold bitOk; simp; omega]
  go_wp2_with fail
  refine (lawBegun_any _).mono ?_
  rintro r' w4 ⟨rfl, hb4⟩
  replace hB := bthen hB hb4
  replace S1 := S1.below hb4
  replace hs1 := hs1.below hb4
  clear hb4
  obtain ⟨z0, z1, z2, z3, z4⟩ := S1
  go_wp2_with fail
  refine (lawSure_bad _ s1 ⟨false, none, 0, 0, false, none, 0, 0, 0⟩ _ _ _ hs1 (unhide HB1) (by decide)).mono ?_
  rintro r' w5 ⟨rfl, hb5⟩
  go_wp2_with fail
  go_ret
  exact ⟨rfl, bthen hB hb5⟩

set_option maxRecDepth 100000 in
set_option maxHeartbeats 2000000 in
theorem law_lawMasses_hi6 (p q r s n b : Int) (w : World) (h0 : lawE 6 p q r s = 0) (h1 : 8 ≤ b) (h2 : b ≤ 120) (h3 : ¬ n < -1048576) (h : 1048576 < n) :
    Calls Tryz.prog 8 #[.agg #[.int .i64 6, .int .i64 p, .int .i64 q, .int .i64 r, .int .i64 s], .int .i64 n, .int .i64 b] w fun z w' => z = .returned (.bool true) ∧ Below w.heap.size w w' := by
  have HE := hide (show masE 6 p q r s n b = 3 by unfold masE; rw [h0]; simp; omega)
  have H0 := hide h0
  clear h0
  go_enter Tryz.func8, Tryz.ntmps8
  go_wp2_with fail
  obtain ⟨W, hW⟩ : ∃ W, W = w.alloc (.cells #[.int .i64 6, .int .i64 p, .int .i64 q, .int .i64 r, .int .i64 s] 53) := ⟨_, rfl⟩
  have hB : Below w.heap.size w W := by rw [hW]; exact bl1 _ _
  have A : LwC W w.heap.size 6 p q r s := by rw [hW]; exact lwc_new w 6 p q r s _
  rw [← hW]
  clear hW
  refine (mass_bad _ 6 p q r s n b (by rw [unhide HE]; decide)).mono ?_
  rintro r' w1 ⟨s1, rfl, hsb1, hs1, hb1⟩
  rw [unhide HE]
  have HB1 := hide hsb1
  clear hsb1
  replace hB := bthen hB hb1
  replace A := A.below hb1
  clear hb1
  obtain ⟨V1, hV1⟩ : ∃ V1, V1 = w1.alloc (.cells #[.bool s1.ln, .slice s1.la s1.lN s1.lc, .bool s1.hn, .slice s1.ha s1.hN s1.hc, .int .i64 s1.bits] 28) := ⟨_, rfl⟩
  have bV1 : Below w1.heap.size w1 V1 := by rw [hV1]; exact bl1 _ _
  have S1 : SpC V1 w1.heap.size s1 := by rw [hV1]; exact spc_new w1 s1 _
  replace hs1 := hs1.below bV1
  replace hB := bthen hB bV1
  have A0 := A
  have lA := A0.lt
  replace A := A.below bV1
  clear bV1
  obtain ⟨x0, x1, x2, x3, x4⟩ := A0
  go_wp2_with fail
  rw [← hV1]
  clear hV1 x0 x1 x2 x3 x4
  refine (ref_law 6 p q r s _).mono ?_
  rintro r' w2 ⟨rfl, hb2⟩
  replace hB := bthen hB hb2
  replace S1 := S1.below hb2
  replace hs1 := hs1.below hb2
  replace A := A.below hb2
  clear hb2
  have lA2 := A.lt
  have lS2 := S1.lt
  have A0 := A
  obtain ⟨x0, x1, x2, x3, x4⟩ := A0
  rw [unhide H0]
  go_wp2_with fail
  refine (refRightBits _ _).mono ?_
  rintro r' w3 ⟨rfl, rfl⟩
  rw [show bitOk b = true by unfold bitOk; simp; omega]
  go_wp2_with fail
  refine (lawBegun_any _).mono ?_
  rintro r' w4 ⟨rfl, hb4⟩
  replace hB := bthen hB hb4
  replace S1 := S1.below hb4
  replace hs1 := hs1.below hb4
  clear hb4
  obtain ⟨z0, z1, z2, z3, z4⟩ := S1
  go_wp2_with fail
  refine (lawSure_bad _ s1 ⟨false, none, 0, 0, false, none, 0, 0, 0⟩ _ _ _ hs1 (unhide HB1) (by decide)).mono ?_
  rintro r' w5 ⟨rfl, hb5⟩
  go_wp2_with fail
  go_ret
  exact ⟨rfl, bthen hB hb5⟩

set_option maxRecDepth 100000 in
set_option maxHeartbeats 2000000 in
theorem law_lawMasses_bits7 (p q r s n b : Int) (w : World) (h0 : lawE 7 p q r s = 0) (h : ¬ (8 ≤ b ∧ b ≤ 120)) :
    Calls Tryz.prog 8 #[.agg #[.int .i64 7, .int .i64 p, .int .i64 q, .int .i64 r, .int .i64 s], .int .i64 n, .int .i64 b] w fun z w' => z = .returned (.bool true) ∧ Below w.heap.size w w' := by
  have HE := hide (show masE 7 p q r s n b = 3 by unfold masE; rw [h0]; simp; omega)
  have H0 := hide h0
  clear h0
  go_enter Tryz.func8, Tryz.ntmps8
  go_wp2_with fail
  obtain ⟨W, hW⟩ : ∃ W, W = w.alloc (.cells #[.int .i64 7, .int .i64 p, .int .i64 q, .int .i64 r, .int .i64 s] 53) := ⟨_, rfl⟩
  have hB : Below w.heap.size w W := by rw [hW]; exact bl1 _ _
  have A : LwC W w.heap.size 7 p q r s := by rw [hW]; exact lwc_new w 7 p q r s _
  rw [← hW]
  clear hW
  refine (mass_bad _ 7 p q r s n b (by rw [unhide HE]; decide)).mono ?_
  rintro r' w1 ⟨s1, rfl, hsb1, hs1, hb1⟩
  rw [unhide HE]
  have HB1 := hide hsb1
  clear hsb1
  replace hB := bthen hB hb1
  replace A := A.below hb1
  clear hb1
  obtain ⟨V1, hV1⟩ : ∃ V1, V1 = w1.alloc (.cells #[.bool s1.ln, .slice s1.la s1.lN s1.lc, .bool s1.hn, .slice s1.ha s1.hN s1.hc, .int .i64 s1.bits] 28) := ⟨_, rfl⟩
  have bV1 : Below w1.heap.size w1 V1 := by rw [hV1]; exact bl1 _ _
  have S1 : SpC V1 w1.heap.size s1 := by rw [hV1]; exact spc_new w1 s1 _
  replace hs1 := hs1.below bV1
  replace hB := bthen hB bV1
  have A0 := A
  have lA := A0.lt
  replace A := A.below bV1
  clear bV1
  obtain ⟨x0, x1, x2, x3, x4⟩ := A0
  go_wp2_with fail
  rw [← hV1]
  clear hV1 x0 x1 x2 x3 x4
  refine (ref_law 7 p q r s _).mono ?_
  rintro r' w2 ⟨rfl, hb2⟩
  replace hB := bthen hB hb2
  replace S1 := S1.below hb2
  replace hs1 := hs1.below hb2
  replace A := A.below hb2
  clear hb2
  have lA2 := A.lt
  have lS2 := S1.lt
  have A0 := A
  obtain ⟨x0, x1, x2, x3, x4⟩ := A0
  rw [unhide H0]
  go_wp2_with fail
  refine (refRightBits _ _).mono ?_
  rintro r' w3 ⟨rfl, rfl⟩
  rw [show bitOk b = false by unfold bitOk; simp; omega]
  go_wp2_with fail
  refine (lawBegun_any _).mono ?_
  rintro r' w4 ⟨rfl, hb4⟩
  replace hB := bthen hB hb4
  replace S1 := S1.below hb4
  replace hs1 := hs1.below hb4
  clear hb4
  obtain ⟨z0, z1, z2, z3, z4⟩ := S1
  go_wp2_with fail
  refine (lawSure_bad _ s1 ⟨false, none, 0, 0, false, none, 0, 0, 0⟩ _ _ _ hs1 (unhide HB1) (by decide)).mono ?_
  rintro r' w5 ⟨rfl, hb5⟩
  go_wp2_with fail
  go_ret
  exact ⟨rfl, bthen hB hb5⟩

set_option maxRecDepth 100000 in
set_option maxHeartbeats 2000000 in
theorem law_lawMasses_lo7 (p q r s n b : Int) (w : World) (h0 : lawE 7 p q r s = 0) (h1 : 8 ≤ b) (h2 : b ≤ 120) (h : n < -1048576) :
    Calls Tryz.prog 8 #[.agg #[.int .i64 7, .int .i64 p, .int .i64 q, .int .i64 r, .int .i64 s], .int .i64 n, .int .i64 b] w fun z w' => z = .returned (.bool true) ∧ Below w.heap.size w w' := by
  have HE := hide (show masE 7 p q r s n b = 3 by unfold masE; rw [h0]; simp; omega)
  have H0 := hide h0
  clear h0
  go_enter Tryz.func8, Tryz.ntmps8
  go_wp2_with fail
  obtain ⟨W, hW⟩ : ∃ W, W = w.alloc (.cells #[.int .i64 7, .int .i64 p, .int .i64 q, .int .i64 r, .int .i64 s] 53) := ⟨_, rfl⟩
  have hB : Below w.heap.size w W := by rw [hW]; exact bl1 _ _
  have A : LwC W w.heap.size 7 p q r s := by rw [hW]; exact lwc_new w 7 p q r s _
  rw [← hW]
  clear hW
  refine (mass_bad _ 7 p q r s n b (by rw [unhide HE]; decide)).mono ?_
  rintro r' w1 ⟨s1, rfl, hsb1, hs1, hb1⟩
  rw [unhide HE]
  have HB1 := hide hsb1
  clear hsb1
  replace hB := bthen hB hb1
  replace A := A.below hb1
  clear hb1
  obtain ⟨V1, hV1⟩ : ∃ V1, V1 = w1.alloc (.cells #[.bool s1.ln, .slice s1.la s1.lN s1.lc, .bool s1.hn, .slice s1.ha s1.hN s1.hc, .int .i64 s1.bits] 28) := ⟨_, rfl⟩
  have bV1 : Below w1.heap.size w1 V1 := by rw [hV1]; exact bl1 _ _
  have S1 : SpC V1 w1.heap.size s1 := by rw [hV1]; exact spc_new w1 s1 _
  replace hs1 := hs1.below bV1
  replace hB := bthen hB bV1
  have A0 := A
  have lA := A0.lt
  replace A := A.below bV1
  clear bV1
  obtain ⟨x0, x1, x2, x3, x4⟩ := A0
  go_wp2_with fail
  rw [← hV1]
  clear hV1 x0 x1 x2 x3 x4
  refine (ref_law 7 p q r s _).mono ?_
  rintro r' w2 ⟨rfl, hb2⟩
  replace hB := bthen hB hb2
  replace S1 := S1.below hb2
  replace hs1 := hs1.below hb2
  replace A := A.below hb2
  clear hb2
  have lA2 := A.lt
  have lS2 := S1.lt
  have A0 := A
  obtain ⟨x0, x1, x2, x3, x4⟩ := A0
  rw [unhide H0]
  go_wp2_with fail
  refine (refRightBits _ _).mono ?_
  rintro r' w3 ⟨rfl, rfl⟩
  rw [show bitOk b = true by unfold bitOk; simp; omega]
  go_wp2_with fail
  refine (lawBegun_any _).mono ?_
  rintro r' w4 ⟨rfl, hb4⟩
  replace hB := bthen hB hb4
  replace S1 := S1.below hb4
  replace hs1 := hs1.below hb4
  clear hb4
  obtain ⟨z0, z1, z2, z3, z4⟩ := S1
  go_wp2_with fail
  refine (lawSure_bad _ s1 ⟨false, none, 0, 0, false, none, 0, 0, 0⟩ _ _ _ hs1 (unhide HB1) (by decide)).mono ?_
  rintro r' w5 ⟨rfl, hb5⟩
  go_wp2_with fail
  go_ret
  exact ⟨rfl, bthen hB hb5⟩

set_option maxRecDepth 100000 in
set_option maxHeartbeats 2000000 in
theorem law_lawMasses_hi7 (p q r s n b : Int) (w : World) (h0 : lawE 7 p q r s = 0) (h1 : 8 ≤ b) (h2 : b ≤ 120) (h3 : ¬ n < -1048576) (h : 1048576 < n) :
    Calls Tryz.prog 8 #[.agg #[.int .i64 7, .int .i64 p, .int .i64 q, .int .i64 r, .int .i64 s], .int .i64 n, .int .i64 b] w fun z w' => z = .returned (.bool true) ∧ Below w.heap.size w w' := by
  have HE := hide (show masE 7 p q r s n b = 3 by unfold masE; rw [h0]; simp; omega)
  have H0 := hide h0
  clear h0
  go_enter Tryz.func8, Tryz.ntmps8
  go_wp2_with fail
  obtain ⟨W, hW⟩ : ∃ W, W = w.alloc (.cells #[.int .i64 7, .int .i64 p, .int .i64 q, .int .i64 r, .int .i64 s] 53) := ⟨_, rfl⟩
  have hB : Below w.heap.size w W := by rw [hW]; exact bl1 _ _
  have A : LwC W w.heap.size 7 p q r s := by rw [hW]; exact lwc_new w 7 p q r s _
  rw [← hW]
  clear hW
  refine (mass_bad _ 7 p q r s n b (by rw [unhide HE]; decide)).mono ?_
  rintro r' w1 ⟨s1, rfl, hsb1, hs1, hb1⟩
  rw [unhide HE]
  have HB1 := hide hsb1
  clear hsb1
  replace hB := bthen hB hb1
  replace A := A.below hb1
  clear hb1
  obtain ⟨V1, hV1⟩ : ∃ V1, V1 = w1.alloc (.cells #[.bool s1.ln, .slice s1.la s1.lN s1.lc, .bool s1.hn, .slice s1.ha s1.hN s1.hc, .int .i64 s1.bits] 28) := ⟨_, rfl⟩
  have bV1 : Below w1.heap.size w1 V1 := by rw [hV1]; exact bl1 _ _
  have S1 : SpC V1 w1.heap.size s1 := by rw [hV1]; exact spc_new w1 s1 _
  replace hs1 := hs1.below bV1
  replace hB := bthen hB bV1
  have A0 := A
  have lA := A0.lt
  replace A := A.below bV1
  clear bV1
  obtain ⟨x0, x1, x2, x3, x4⟩ := A0
  go_wp2_with fail
  rw [← hV1]
  clear hV1 x0 x1 x2 x3 x4
  refine (ref_law 7 p q r s _).mono ?_
  rintro r' w2 ⟨rfl, hb2⟩
  replace hB := bthen hB hb2
  replace S1 := S1.below hb2
  replace hs1 := hs1.below hb2
  replace A := A.below hb2
  clear hb2
  have lA2 := A.lt
  have lS2 := S1.lt
  have A0 := A
  obtain ⟨x0, x1, x2, x3, x4⟩ := A0
  rw [unhide H0]
  go_wp2_with fail
  refine (refRightBits _ _).mono ?_
  rintro r' w3 ⟨rfl, rfl⟩
  rw [show bitOk b = true by unfold bitOk; simp; omega]
  go_wp2_with fail
  refine (lawBegun_any _).mono ?_
  rintro r' w4 ⟨rfl, hb4⟩
  replace hB := bthen hB hb4
  replace S1 := S1.below hb4
  replace hs1 := hs1.below hb4
  clear hb4
  obtain ⟨z0, z1, z2, z3, z4⟩ := S1
  go_wp2_with fail
  refine (lawSure_bad _ s1 ⟨false, none, 0, 0, false, none, 0, 0, 0⟩ _ _ _ hs1 (unhide HB1) (by decide)).mono ?_
  rintro r' w5 ⟨rfl, hb5⟩
  go_wp2_with fail
  go_ret
  exact ⟨rfl, bthen hB hb5⟩

set_option maxRecDepth 100000 in
set_option maxHeartbeats 2000000 in
theorem law_lawMasses_many (p q r s n b : Int) (w : World) (h0 : lawE 7 p q r s = 0) (h1 : 8 ≤ b) (h2 : b ≤ 120) (h3 : ¬ n < -1048576) (h4 : ¬ 1048576 < n) (h : 100 < n) :
    Calls Tryz.prog 8 #[.agg #[.int .i64 7, .int .i64 p, .int .i64 q, .int .i64 r, .int .i64 s], .int .i64 n, .int .i64 b] w fun z w' => z = .returned (.bool true) ∧ Below w.heap.size w w' := by
  have HE := hide (show masE 7 p q r s n b = 2 by unfold masE; rw [h0]; simp; omega)
  have H0 := hide h0
  clear h0
  go_enter Tryz.func8, Tryz.ntmps8
  go_wp2_with fail
  obtain ⟨W, hW⟩ : ∃ W, W = w.alloc (.cells #[.int .i64 7, .int .i64 p, .int .i64 q, .int .i64 r, .int .i64 s] 53) := ⟨_, rfl⟩
  have hB : Below w.heap.size w W := by rw [hW]; exact bl1 _ _
  have A : LwC W w.heap.size 7 p q r s := by rw [hW]; exact lwc_new w 7 p q r s _
  rw [← hW]
  clear hW
  refine (mass_bad _ 7 p q r s n b (by rw [unhide HE]; decide)).mono ?_
  rintro r' w1 ⟨s1, rfl, hsb1, hs1, hb1⟩
  rw [unhide HE]
  have HB1 := hide hsb1
  clear hsb1
  replace hB := bthen hB hb1
  replace A := A.below hb1
  clear hb1
  obtain ⟨V1, hV1⟩ : ∃ V1, V1 = w1.alloc (.cells #[.bool s1.ln, .slice s1.la s1.lN s1.lc, .bool s1.hn, .slice s1.ha s1.hN s1.hc, .int .i64 s1.bits] 28) := ⟨_, rfl⟩
  have bV1 : Below w1.heap.size w1 V1 := by rw [hV1]; exact bl1 _ _
  have S1 : SpC V1 w1.heap.size s1 := by rw [hV1]; exact spc_new w1 s1 _
  replace hs1 := hs1.below bV1
  replace hB := bthen hB bV1
  have A0 := A
  have lA := A0.lt
  replace A := A.below bV1
  clear bV1
  obtain ⟨x0, x1, x2, x3, x4⟩ := A0
  go_wp2_with fail
  rw [← hV1]
  clear hV1 x0 x1 x2 x3 x4
  refine (ref_law 7 p q r s _).mono ?_
  rintro r' w2 ⟨rfl, hb2⟩
  replace hB := bthen hB hb2
  replace S1 := S1.below hb2
  replace hs1 := hs1.below hb2
  replace A := A.below hb2
  clear hb2
  have lA2 := A.lt
  have lS2 := S1.lt
  have A0 := A
  obtain ⟨x0, x1, x2, x3, x4⟩ := A0
  rw [unhide H0]
  go_wp2_with fail
  refine (refRightBits _ _).mono ?_
  rintro r' w3 ⟨rfl, rfl⟩
  rw [show bitOk b = true by unfold bitOk; simp; omega]
  go_wp2_with fail
  refine (lawBegun_any _).mono ?_
  rintro r' w4 ⟨rfl, hb4⟩
  replace hB := bthen hB hb4
  replace S1 := S1.below hb4
  replace hs1 := hs1.below hb4
  clear hb4
  obtain ⟨z0, z1, z2, z3, z4⟩ := S1
  go_wp2_with fail
  refine (lawSure_bad _ s1 ⟨false, none, 0, 0, false, none, 0, 0, 0⟩ _ _ _ hs1 (unhide HB1) (by decide)).mono ?_
  rintro r' w5 ⟨rfl, hb5⟩
  go_wp2_with fail
  go_ret
  exact ⟨rfl, bthen hB hb5⟩

set_option maxRecDepth 100000 in
set_option maxHeartbeats 4000000 in
theorem law_lawMasses_neg6 (p q r s n : Int) (b : Nat) (w : World) (h0 : lawE 6 p q r s = 0) (h5 : 8 ≤ b) (h6 : b ≤ 120) (h3 : ¬ n < -1048576) (hn : n < 0) :
    Calls Tryz.prog 8 #[.agg #[.int .i64 6, .int .i64 p, .int .i64 q, .int .i64 r, .int .i64 s], .int .i64 n, .int .i64 b] w fun z w' => z = .returned (.bool true) ∧ Below w.heap.size w w' := by
  have HE := hide (show masE 6 p q r s n (b : Int) = 0 by unfold masE; rw [h0]; simp; omega)
  have H0 := hide h0
  clear h0
  go_enter Tryz.func8, Tryz.ntmps8
  go_wp2_with fail
  obtain ⟨W, hW⟩ : ∃ W, W = w.alloc (.cells #[.int .i64 6, .int .i64 p, .int .i64 q, .int .i64 r, .int .i64 s] 53) := ⟨_, rfl⟩
  have hB : Below w.heap.size w W := by rw [hW]; exact bl1 _ _
  have A : LwC W w.heap.size 6 p q r s := by rw [hW]; exact lwc_new w 6 p q r s _
  rw [← hW]
  clear hW
  refine (mass_of _ 6 p q r s n b (fun _ => ((0 : Int) : Rat) / ((1 : Int) : Rat)) h5 h6 (unhide HE) (fun m w9 hm hm2 => just_neg w9 6 p q r s n m (by omega) (by omega))).mono ?_
  rintro r' w1 ⟨L1, H1, hLH1, s1, rfl, hsb1, hs1, hb1⟩
  have HU := hide (sure_mas hLH1)
  clear hLH1
  have HB1 := hide hsb1
  clear hsb1
  replace hB := bthen hB hb1
  replace A := A.below hb1
  clear hb1
  obtain ⟨V1, hV1⟩ : ∃ V1, V1 = w1.alloc (.cells #[.bool s1.ln, .slice s1.la s1.lN s1.lc, .bool s1.hn, .slice s1.ha s1.hN s1.hc, .int .i64 s1.bits] 28) := ⟨_, rfl⟩
  have bV1 : Below w1.heap.size w1 V1 := by rw [hV1]; exact bl1 _ _
  have S1 : SpC V1 w1.heap.size s1 := by rw [hV1]; exact spc_new w1 s1 _
  replace hs1 := hs1.below bV1
  replace hB := bthen hB bV1
  have A0 := A
  have lA := A0.lt
  replace A := A.below bV1
  clear bV1
  obtain ⟨x0, x1, x2, x3, x4⟩ := A0
  go_wp2_with fail
  rw [← hV1]
  clear hV1 x0 x1 x2 x3 x4
  refine (ref_law 6 p q r s _).mono ?_
  rintro r' w2 ⟨rfl, hb2⟩
  replace hB := bthen hB hb2
  replace S1 := S1.below hb2
  replace hs1 := hs1.below hb2
  replace A := A.below hb2
  clear hb2
  have lA2 := A.lt
  have lS2 := S1.lt
  have A0 := A
  obtain ⟨x0, x1, x2, x3, x4⟩ := A0
  rw [unhide H0]
  go_wp2_with fail
  refine (refRightBits _ _).mono ?_
  rintro r' w3 ⟨rfl, rfl⟩
  rw [show bitOk (b : Int) = true by unfold bitOk; simp; omega]
  have HX := hide hs1
  have HK := hide (show ∀ w', Below w3.heap.size w3 w' → (w'.cell? ⟨w.heap.size, 0, none⟩ = some (.int .i64 6) ∧ w'.cell? ⟨w.heap.size, 1, none⟩ = some (.int .i64 p) ∧ w'.cell? ⟨w.heap.size, 2, none⟩ = some (.int .i64 q) ∧ w'.cell? ⟨w.heap.size, 3, none⟩ = some (.int .i64 r) ∧ w'.cell? ⟨w.heap.size, 4, none⟩ = some (.int .i64 s) ∧ w'.cell? ⟨w1.heap.size, 0, none⟩ = some (.bool s1.ln) ∧ w'.cell? ⟨w1.heap.size, 1, none⟩ = some (.slice s1.la s1.lN s1.lc) ∧ w'.cell? ⟨w1.heap.size, 2, none⟩ = some (.bool s1.hn) ∧ w'.cell? ⟨w1.heap.size, 3, none⟩ = some (.slice s1.ha s1.hN s1.hc) ∧ w'.cell? ⟨w1.heap.size, 4, none⟩ = some (.int .i64 s1.bits)) from fun w' hB => ⟨(A.below hB).c0, (A.below hB).c1, (A.below hB).c2, (A.below hB).c3, (A.below hB).c4, (S1.below hB).c0, (S1.below hB).c1, (S1.below hB).c2, (S1.below hB).c3, (S1.below hB).c4⟩)
  have HW := hide (show IntKind.i64.wrap ((b : Int) + 16) = ((b + 16 : Nat) : Int) from (i64_id _ (by omega) (by omega)).trans (by omega))
  have HW2 := hide (show ((b : Int) + 16) = ((b + 16 : Nat) : Int) by omega)
  obtain ⟨z0, z1, z2, z3, z4⟩ := S1
  have hD0 : Below w3.heap.size w3 w3.drew := (Below.refl _ _).drew
  go_wp2_with fail
  go_region_held3 (fun w' => w'.cell? ⟨w.heap.size, 0, none⟩ = some (.int .i64 6) ∧ w'.cell? ⟨w.heap.size, 1, none⟩ = some (.int .i64 p) ∧ w'.cell? ⟨w.heap.size, 2, none⟩ = some (.int .i64 q) ∧ w'.cell? ⟨w.heap.size, 3, none⟩ = some (.int .i64 r) ∧ w'.cell? ⟨w.heap.size, 4, none⟩ = some (.int .i64 s) ∧ w'.cell? ⟨w1.heap.size, 0, none⟩ = some (.bool s1.ln) ∧ w'.cell? ⟨w1.heap.size, 1, none⟩ = some (.slice s1.la s1.lN s1.lc) ∧ w'.cell? ⟨w1.heap.size, 2, none⟩ = some (.bool s1.hn) ∧ w'.cell? ⟨w1.heap.size, 3, none⟩ = some (.slice s1.ha s1.hN s1.hc) ∧ w'.cell? ⟨w1.heap.size, 4, none⟩ = some (.int .i64 s1.bits)) (first | exact unhide HK _ (by first | with_reducible exact hD0 | with_reducible exact hD4 | with_reducible exact hD3 | with_reducible exact hD2 | with_reducible exact hD1) | go_keep)
    (first
      | (go_at_call 15; have hq9 := hD3; refine (inside_ok _ s1 250 b L1 H1 ((unhide HX).below hD3) (unhide HB1) (by omega) (unhide HU).2.2.2.1 (unhide HU).2.2.2.2).mono ?_; rintro r' w7 ⟨rfl, hb7⟩; have hD4 := bthen hD3 hb7)
      | (go_at_call 12; have hq9 := hD2; refine (lawSure0_ok _ s1 t5 b 250 L1 H1 (ofI 0 1 b).1 (ofI 0 1 b).2 ((unhide HX).below hD2) hs5 (by omega) (by omega) (unhide HB1) h6 (unhide HU).2.1 (unhide HB5) (unhide HU).2.2.1 (touch_eq (unhide HU).1 (Iv.of b (n := 0) (d := 1) (by decide)))).mono ?_; rintro r' w6 ⟨rfl, hb6⟩; have hD3 := bthen hD2 hb6)
      | (go_at_call 27; have hq9 := hD1; refine (refWhole _ 0 b (by omega) (by decide) (by decide)).mono ?_; rintro r' w5 ⟨t5, rfl, hsb5, hs5, hb5⟩; have HB5 := hide hsb5; clear hsb5; have hD2 := bthen hD1 hb5; replace hs5 := hs5.mono (show b / 16 + 18 ≤ 250 by omega); rw [show 0 * Q b = (ofI 0 1 b).1 by unfold ofI; simp] at hs5; rw [show (ofI 0 1 b).1 = (ofI 0 1 b).2 by unfold ofI; simp] at hs5; replace hs5 : SpAt w5 t5 250 (ofI 0 1 b).1 (ofI 0 1 b).2 := by rw [show (ofI 0 1 b).1 = (ofI 0 1 b).2 by unfold ofI; simp]; exact hs5)
      | (go_at_call 33; refine (lawBegun_any _).mono ?_; rintro r' w4 ⟨rfl, hb4⟩; have hD1 := bthen hD0 hb4))
  all_goals
    go_wp2_with fail
    go_ret
    exact ⟨rfl, bthen hB hD4⟩

set_option maxRecDepth 100000 in
set_option maxHeartbeats 4000000 in
theorem law_lawMasses_neg7 (p q r s n : Int) (b : Nat) (w : World) (h0 : lawE 7 p q r s = 0) (h5 : 8 ≤ b) (h6 : b ≤ 120) (h3 : ¬ n < -1048576) (hn : n < 0) :
    Calls Tryz.prog 8 #[.agg #[.int .i64 7, .int .i64 p, .int .i64 q, .int .i64 r, .int .i64 s], .int .i64 n, .int .i64 b] w fun z w' => z = .returned (.bool true) ∧ Below w.heap.size w w' := by
  have HE := hide (show masE 7 p q r s n (b : Int) = 0 by unfold masE; rw [h0]; simp; omega)
  have H0 := hide h0
  clear h0
  go_enter Tryz.func8, Tryz.ntmps8
  go_wp2_with fail
  obtain ⟨W, hW⟩ : ∃ W, W = w.alloc (.cells #[.int .i64 7, .int .i64 p, .int .i64 q, .int .i64 r, .int .i64 s] 53) := ⟨_, rfl⟩
  have hB : Below w.heap.size w W := by rw [hW]; exact bl1 _ _
  have A : LwC W w.heap.size 7 p q r s := by rw [hW]; exact lwc_new w 7 p q r s _
  rw [← hW]
  clear hW
  refine (mass_of _ 7 p q r s n b (fun _ => ((0 : Int) : Rat) / ((1 : Int) : Rat)) h5 h6 (unhide HE) (fun m w9 hm hm2 => just_neg w9 7 p q r s n m (by omega) (by omega))).mono ?_
  rintro r' w1 ⟨L1, H1, hLH1, s1, rfl, hsb1, hs1, hb1⟩
  have HU := hide (sure_mas hLH1)
  clear hLH1
  have HB1 := hide hsb1
  clear hsb1
  replace hB := bthen hB hb1
  replace A := A.below hb1
  clear hb1
  obtain ⟨V1, hV1⟩ : ∃ V1, V1 = w1.alloc (.cells #[.bool s1.ln, .slice s1.la s1.lN s1.lc, .bool s1.hn, .slice s1.ha s1.hN s1.hc, .int .i64 s1.bits] 28) := ⟨_, rfl⟩
  have bV1 : Below w1.heap.size w1 V1 := by rw [hV1]; exact bl1 _ _
  have S1 : SpC V1 w1.heap.size s1 := by rw [hV1]; exact spc_new w1 s1 _
  replace hs1 := hs1.below bV1
  replace hB := bthen hB bV1
  have A0 := A
  have lA := A0.lt
  replace A := A.below bV1
  clear bV1
  obtain ⟨x0, x1, x2, x3, x4⟩ := A0
  go_wp2_with fail
  rw [← hV1]
  clear hV1 x0 x1 x2 x3 x4
  refine (ref_law 7 p q r s _).mono ?_
  rintro r' w2 ⟨rfl, hb2⟩
  replace hB := bthen hB hb2
  replace S1 := S1.below hb2
  replace hs1 := hs1.below hb2
  replace A := A.below hb2
  clear hb2
  have lA2 := A.lt
  have lS2 := S1.lt
  have A0 := A
  obtain ⟨x0, x1, x2, x3, x4⟩ := A0
  rw [unhide H0]
  go_wp2_with fail
  refine (refRightBits _ _).mono ?_
  rintro r' w3 ⟨rfl, rfl⟩
  rw [show bitOk (b : Int) = true by unfold bitOk; simp; omega]
  have HX := hide hs1
  have HK := hide (show ∀ w', Below w3.heap.size w3 w' → (w'.cell? ⟨w.heap.size, 0, none⟩ = some (.int .i64 7) ∧ w'.cell? ⟨w.heap.size, 1, none⟩ = some (.int .i64 p) ∧ w'.cell? ⟨w.heap.size, 2, none⟩ = some (.int .i64 q) ∧ w'.cell? ⟨w.heap.size, 3, none⟩ = some (.int .i64 r) ∧ w'.cell? ⟨w.heap.size, 4, none⟩ = some (.int .i64 s) ∧ w'.cell? ⟨w1.heap.size, 0, none⟩ = some (.bool s1.ln) ∧ w'.cell? ⟨w1.heap.size, 1, none⟩ = some (.slice s1.la s1.lN s1.lc) ∧ w'.cell? ⟨w1.heap.size, 2, none⟩ = some (.bool s1.hn) ∧ w'.cell? ⟨w1.heap.size, 3, none⟩ = some (.slice s1.ha s1.hN s1.hc) ∧ w'.cell? ⟨w1.heap.size, 4, none⟩ = some (.int .i64 s1.bits)) from fun w' hB => ⟨(A.below hB).c0, (A.below hB).c1, (A.below hB).c2, (A.below hB).c3, (A.below hB).c4, (S1.below hB).c0, (S1.below hB).c1, (S1.below hB).c2, (S1.below hB).c3, (S1.below hB).c4⟩)
  have HW := hide (show IntKind.i64.wrap ((b : Int) + 16) = ((b + 16 : Nat) : Int) from (i64_id _ (by omega) (by omega)).trans (by omega))
  have HW2 := hide (show ((b : Int) + 16) = ((b + 16 : Nat) : Int) by omega)
  obtain ⟨z0, z1, z2, z3, z4⟩ := S1
  have hD0 : Below w3.heap.size w3 w3.drew := (Below.refl _ _).drew
  go_wp2_with fail
  go_region_held3 (fun w' => w'.cell? ⟨w.heap.size, 0, none⟩ = some (.int .i64 7) ∧ w'.cell? ⟨w.heap.size, 1, none⟩ = some (.int .i64 p) ∧ w'.cell? ⟨w.heap.size, 2, none⟩ = some (.int .i64 q) ∧ w'.cell? ⟨w.heap.size, 3, none⟩ = some (.int .i64 r) ∧ w'.cell? ⟨w.heap.size, 4, none⟩ = some (.int .i64 s) ∧ w'.cell? ⟨w1.heap.size, 0, none⟩ = some (.bool s1.ln) ∧ w'.cell? ⟨w1.heap.size, 1, none⟩ = some (.slice s1.la s1.lN s1.lc) ∧ w'.cell? ⟨w1.heap.size, 2, none⟩ = some (.bool s1.hn) ∧ w'.cell? ⟨w1.heap.size, 3, none⟩ = some (.slice s1.ha s1.hN s1.hc) ∧ w'.cell? ⟨w1.heap.size, 4, none⟩ = some (.int .i64 s1.bits)) (first | exact unhide HK _ (by first | with_reducible exact hD0 | with_reducible exact hD4 | with_reducible exact hD3 | with_reducible exact hD2 | with_reducible exact hD1) | go_keep)
    (first
      | (go_at_call 15; have hq9 := hD3; refine (inside_ok _ s1 250 b L1 H1 ((unhide HX).below hD3) (unhide HB1) (by omega) (unhide HU).2.2.2.1 (unhide HU).2.2.2.2).mono ?_; rintro r' w7 ⟨rfl, hb7⟩; have hD4 := bthen hD3 hb7)
      | (go_at_call 12; have hq9 := hD2; refine (lawSure0_ok _ s1 t5 b 250 L1 H1 (ofI 0 1 b).1 (ofI 0 1 b).2 ((unhide HX).below hD2) hs5 (by omega) (by omega) (unhide HB1) h6 (unhide HU).2.1 (unhide HB5) (unhide HU).2.2.1 (touch_eq (unhide HU).1 (Iv.of b (n := 0) (d := 1) (by decide)))).mono ?_; rintro r' w6 ⟨rfl, hb6⟩; have hD3 := bthen hD2 hb6)
      | (go_at_call 27; have hq9 := hD1; refine (refWhole _ 0 b (by omega) (by decide) (by decide)).mono ?_; rintro r' w5 ⟨t5, rfl, hsb5, hs5, hb5⟩; have HB5 := hide hsb5; clear hsb5; have hD2 := bthen hD1 hb5; replace hs5 := hs5.mono (show b / 16 + 18 ≤ 250 by omega); rw [show 0 * Q b = (ofI 0 1 b).1 by unfold ofI; simp] at hs5; rw [show (ofI 0 1 b).1 = (ofI 0 1 b).2 by unfold ofI; simp] at hs5; replace hs5 : SpAt w5 t5 250 (ofI 0 1 b).1 (ofI 0 1 b).2 := by rw [show (ofI 0 1 b).1 = (ofI 0 1 b).2 by unfold ofI; simp]; exact hs5)
      | (go_at_call 33; refine (lawBegun_any _).mono ?_; rintro r' w4 ⟨rfl, hb4⟩; have hD1 := bthen hD0 hb4))
  all_goals
    go_wp2_with fail
    go_ret
    exact ⟨rfl, bthen hB hD4⟩

set_option maxRecDepth 100000 in
set_option maxHeartbeats 4000000 in
theorem law_lawMasses_big (p q r s n : Int) (b : Nat) (w : World) (h0 : lawE 6 p q r s = 0) (h5 : 8 ≤ b) (h6 : b ≤ 120) (hn : ¬ n < 0) (h4 : ¬ 1048576 < n) (hp : p < n) :
    Calls Tryz.prog 8 #[.agg #[.int .i64 6, .int .i64 p, .int .i64 q, .int .i64 r, .int .i64 s], .int .i64 n, .int .i64 b] w fun z w' => z = .returned (.bool true) ∧ Below w.heap.size w w' := by
  have HE := hide (show masE 6 p q r s n (b : Int) = 0 by unfold masE; rw [h0]; simp; omega)
  have H0 := hide h0
  clear h0
  go_enter Tryz.func8, Tryz.ntmps8
  go_wp2_with fail
  obtain ⟨W, hW⟩ : ∃ W, W = w.alloc (.cells #[.int .i64 6, .int .i64 p, .int .i64 q, .int .i64 r, .int .i64 s] 53) := ⟨_, rfl⟩
  have hB : Below w.heap.size w W := by rw [hW]; exact bl1 _ _
  have A : LwC W w.heap.size 6 p q r s := by rw [hW]; exact lwc_new w 6 p q r s _
  rw [← hW]
  clear hW
  refine (mass_of _ 6 p q r s n b (fun _ => ((0 : Int) : Rat) / ((1 : Int) : Rat)) h5 h6 (unhide HE) (fun m w9 hm hm2 => just_big w9 p q r s n m (by omega) (by omega) (by omega))).mono ?_
  rintro r' w1 ⟨L1, H1, hLH1, s1, rfl, hsb1, hs1, hb1⟩
  have HU := hide (sure_mas hLH1)
  clear hLH1
  have HB1 := hide hsb1
  clear hsb1
  replace hB := bthen hB hb1
  replace A := A.below hb1
  clear hb1
  obtain ⟨V1, hV1⟩ : ∃ V1, V1 = w1.alloc (.cells #[.bool s1.ln, .slice s1.la s1.lN s1.lc, .bool s1.hn, .slice s1.ha s1.hN s1.hc, .int .i64 s1.bits] 28) := ⟨_, rfl⟩
  have bV1 : Below w1.heap.size w1 V1 := by rw [hV1]; exact bl1 _ _
  have S1 : SpC V1 w1.heap.size s1 := by rw [hV1]; exact spc_new w1 s1 _
  replace hs1 := hs1.below bV1
  replace hB := bthen hB bV1
  have A0 := A
  have lA := A0.lt
  replace A := A.below bV1
  clear bV1
  obtain ⟨x0, x1, x2, x3, x4⟩ := A0
  go_wp2_with fail
  rw [← hV1]
  clear hV1 x0 x1 x2 x3 x4
  refine (ref_law 6 p q r s _).mono ?_
  rintro r' w2 ⟨rfl, hb2⟩
  replace hB := bthen hB hb2
  replace S1 := S1.below hb2
  replace hs1 := hs1.below hb2
  replace A := A.below hb2
  clear hb2
  have lA2 := A.lt
  have lS2 := S1.lt
  have A0 := A
  obtain ⟨x0, x1, x2, x3, x4⟩ := A0
  rw [unhide H0]
  go_wp2_with fail
  refine (refRightBits _ _).mono ?_
  rintro r' w3 ⟨rfl, rfl⟩
  rw [show bitOk (b : Int) = true by unfold bitOk; simp; omega]
  have HX := hide hs1
  have HK := hide (show ∀ w', Below w3.heap.size w3 w' → (w'.cell? ⟨w.heap.size, 0, none⟩ = some (.int .i64 6) ∧ w'.cell? ⟨w.heap.size, 1, none⟩ = some (.int .i64 p) ∧ w'.cell? ⟨w.heap.size, 2, none⟩ = some (.int .i64 q) ∧ w'.cell? ⟨w.heap.size, 3, none⟩ = some (.int .i64 r) ∧ w'.cell? ⟨w.heap.size, 4, none⟩ = some (.int .i64 s) ∧ w'.cell? ⟨w1.heap.size, 0, none⟩ = some (.bool s1.ln) ∧ w'.cell? ⟨w1.heap.size, 1, none⟩ = some (.slice s1.la s1.lN s1.lc) ∧ w'.cell? ⟨w1.heap.size, 2, none⟩ = some (.bool s1.hn) ∧ w'.cell? ⟨w1.heap.size, 3, none⟩ = some (.slice s1.ha s1.hN s1.hc) ∧ w'.cell? ⟨w1.heap.size, 4, none⟩ = some (.int .i64 s1.bits)) from fun w' hB => ⟨(A.below hB).c0, (A.below hB).c1, (A.below hB).c2, (A.below hB).c3, (A.below hB).c4, (S1.below hB).c0, (S1.below hB).c1, (S1.below hB).c2, (S1.below hB).c3, (S1.below hB).c4⟩)
  have HW := hide (show IntKind.i64.wrap ((b : Int) + 16) = ((b + 16 : Nat) : Int) from (i64_id _ (by omega) (by omega)).trans (by omega))
  have HW2 := hide (show ((b : Int) + 16) = ((b + 16 : Nat) : Int) by omega)
  obtain ⟨z0, z1, z2, z3, z4⟩ := S1
  have hD0 : Below w3.heap.size w3 w3.drew := (Below.refl _ _).drew
  go_wp2_with fail
  go_region_held3 (fun w' => w'.cell? ⟨w.heap.size, 0, none⟩ = some (.int .i64 6) ∧ w'.cell? ⟨w.heap.size, 1, none⟩ = some (.int .i64 p) ∧ w'.cell? ⟨w.heap.size, 2, none⟩ = some (.int .i64 q) ∧ w'.cell? ⟨w.heap.size, 3, none⟩ = some (.int .i64 r) ∧ w'.cell? ⟨w.heap.size, 4, none⟩ = some (.int .i64 s) ∧ w'.cell? ⟨w1.heap.size, 0, none⟩ = some (.bool s1.ln) ∧ w'.cell? ⟨w1.heap.size, 1, none⟩ = some (.slice s1.la s1.lN s1.lc) ∧ w'.cell? ⟨w1.heap.size, 2, none⟩ = some (.bool s1.hn) ∧ w'.cell? ⟨w1.heap.size, 3, none⟩ = some (.slice s1.ha s1.hN s1.hc) ∧ w'.cell? ⟨w1.heap.size, 4, none⟩ = some (.int .i64 s1.bits)) (first | exact unhide HK _ (by first | with_reducible exact hD0 | with_reducible exact hD4 | with_reducible exact hD3 | with_reducible exact hD2 | with_reducible exact hD1) | go_keep)
    (first
      | (go_at_call 15; have hq9 := hD3; refine (inside_ok _ s1 250 b L1 H1 ((unhide HX).below hD3) (unhide HB1) (by omega) (unhide HU).2.2.2.1 (unhide HU).2.2.2.2).mono ?_; rintro r' w7 ⟨rfl, hb7⟩; have hD4 := bthen hD3 hb7)
      | (go_at_call 12; have hq9 := hD2; refine (lawSure0_ok _ s1 t5 b 250 L1 H1 (ofI 0 1 b).1 (ofI 0 1 b).2 ((unhide HX).below hD2) hs5 (by omega) (by omega) (unhide HB1) h6 (unhide HU).2.1 (unhide HB5) (unhide HU).2.2.1 (touch_eq (unhide HU).1 (Iv.of b (n := 0) (d := 1) (by decide)))).mono ?_; rintro r' w6 ⟨rfl, hb6⟩; have hD3 := bthen hD2 hb6)
      | (go_at_call 27; have hq9 := hD1; refine (refWhole _ 0 b (by omega) (by decide) (by decide)).mono ?_; rintro r' w5 ⟨t5, rfl, hsb5, hs5, hb5⟩; have HB5 := hide hsb5; clear hsb5; have hD2 := bthen hD1 hb5; replace hs5 := hs5.mono (show b / 16 + 18 ≤ 250 by omega); rw [show 0 * Q b = (ofI 0 1 b).1 by unfold ofI; simp] at hs5; rw [show (ofI 0 1 b).1 = (ofI 0 1 b).2 by unfold ofI; simp] at hs5; replace hs5 : SpAt w5 t5 250 (ofI 0 1 b).1 (ofI 0 1 b).2 := by rw [show (ofI 0 1 b).1 = (ofI 0 1 b).2 by unfold ofI; simp]; exact hs5)
      | (go_at_call 33; refine (lawBegun_any _).mono ?_; rintro r' w4 ⟨rfl, hb4⟩; have hD1 := bthen hD0 hb4))
  all_goals
    go_wp2_with fail
    go_ret
    exact ⟨rfl, bthen hB hD4⟩

set_option maxRecDepth 100000 in
set_option maxHeartbeats 4000000 in
theorem law_lawMasses_count (q r s : Int) (p n b : Nat) (w : World) (h0 : lawE 6 (p : Int) q r s = 0) (h5 : 8 ≤ b) (h6 : b ≤ 120) (hn : n ≤ p) (hp : p ≤ 100) (hr : 0 ≤ r) (hrs : r ≤ s) (hs0 : 1 ≤ s) (hs : s ≤ 1024) :
    Calls Tryz.prog 8 #[.agg #[.int .i64 6, .int .i64 (p : Int), .int .i64 q, .int .i64 r, .int .i64 s], .int .i64 (n : Int), .int .i64 b] w fun z w' => z = .returned (.bool true) ∧ Below w.heap.size w w' := by
  have HE := hide (show masE 6 (p : Int) q r s (n : Int) (b : Int) = 0 by unfold masE; rw [h0]; simp; omega)
  have H0 := hide h0
  clear h0
  have HPS := hide (show 0 < s ^ p from Int.pow_pos (by omega))
  have hn0 : ¬ (n : Int) < 0 := by omega
  have hn1 : ¬ (p : Int) < (n : Int) := by omega
  have hn2 : ¬ (n : Int) < -1048576 := by omega
  have hn3 : ¬ 1048576 < (n : Int) := by omega
  go_enter Tryz.func8, Tryz.ntmps8
  go_wp2_with fail
  obtain ⟨W, hW⟩ : ∃ W, W = w.alloc (.cells #[.int .i64 6, .int .i64 (p : Int), .int .i64 q, .int .i64 r, .int .i64 s] 53) := ⟨_, rfl⟩
  have hB : Below w.heap.size w W := by rw [hW]; exact bl1 _ _
  have A : LwC W w.heap.size 6 (p : Int) q r s := by rw [hW]; exact lwc_new w 6 (p : Int) q r s _
  rw [← hW]
  clear hW
  refine (mass_of _ 6 (p : Int) q r s (n : Int) b (fun _ => (((ch p n : Int) * (r ^ n * (s - r) ^ (p - n)) : Int) : Rat) / ((s ^ p : Int) : Rat)) h5 h6 (unhide HE) (fun m w9 hm hm2 => just_count w9 q r s p n m (by omega) (by omega) (by omega) hr hrs hs0 hs)).mono ?_
  rintro r' w1 ⟨L1, H1, hLH1, s1, rfl, hsb1, hs1, hb1⟩
  have HU := hide (sure_mas hLH1)
  clear hLH1
  have HB1 := hide hsb1
  clear hsb1
  replace hB := bthen hB hb1
  replace A := A.below hb1
  clear hb1
  obtain ⟨V1, hV1⟩ : ∃ V1, V1 = w1.alloc (.cells #[.bool s1.ln, .slice s1.la s1.lN s1.lc, .bool s1.hn, .slice s1.ha s1.hN s1.hc, .int .i64 s1.bits] 28) := ⟨_, rfl⟩
  have bV1 : Below w1.heap.size w1 V1 := by rw [hV1]; exact bl1 _ _
  have S1 : SpC V1 w1.heap.size s1 := by rw [hV1]; exact spc_new w1 s1 _
  replace hs1 := hs1.below bV1
  replace hB := bthen hB bV1
  have A0 := A
  have lA := A0.lt
  replace A := A.below bV1
  clear bV1
  obtain ⟨x0, x1, x2, x3, x4⟩ := A0
  go_wp2_with fail
  rw [← hV1]
  clear hV1 x0 x1 x2 x3 x4
  refine (ref_law 6 (p : Int) q r s _).mono ?_
  rintro r' w2 ⟨rfl, hb2⟩
  replace hB := bthen hB hb2
  replace S1 := S1.below hb2
  replace hs1 := hs1.below hb2
  replace A := A.below hb2
  clear hb2
  have lA2 := A.lt
  have lS2 := S1.lt
  have A0 := A
  obtain ⟨x0, x1, x2, x3, x4⟩ := A0
  rw [unhide H0]
  go_wp2_with fail
  refine (refRightBits _ _).mono ?_
  rintro r' w3 ⟨rfl, rfl⟩
  rw [show bitOk (b : Int) = true by unfold bitOk; simp; omega]
  have HX := hide hs1
  have HK := hide (show ∀ w', Below w3.heap.size w3 w' → (w'.cell? ⟨w.heap.size, 0, none⟩ = some (.int .i64 6) ∧ w'.cell? ⟨w.heap.size, 1, none⟩ = some (.int .i64 (p : Int)) ∧ w'.cell? ⟨w.heap.size, 2, none⟩ = some (.int .i64 q) ∧ w'.cell? ⟨w.heap.size, 3, none⟩ = some (.int .i64 r) ∧ w'.cell? ⟨w.heap.size, 4, none⟩ = some (.int .i64 s) ∧ w'.cell? ⟨w1.heap.size, 0, none⟩ = some (.bool s1.ln) ∧ w'.cell? ⟨w1.heap.size, 1, none⟩ = some (.slice s1.la s1.lN s1.lc) ∧ w'.cell? ⟨w1.heap.size, 2, none⟩ = some (.bool s1.hn) ∧ w'.cell? ⟨w1.heap.size, 3, none⟩ = some (.slice s1.ha s1.hN s1.hc) ∧ w'.cell? ⟨w1.heap.size, 4, none⟩ = some (.int .i64 s1.bits)) from fun w' hB => ⟨(A.below hB).c0, (A.below hB).c1, (A.below hB).c2, (A.below hB).c3, (A.below hB).c4, (S1.below hB).c0, (S1.below hB).c1, (S1.below hB).c2, (S1.below hB).c3, (S1.below hB).c4⟩)
  have HW := hide (show IntKind.i64.wrap ((b : Int) + 16) = ((b + 16 : Nat) : Int) from (i64_id _ (by omega) (by omega)).trans (by omega))
  have HW2 := hide (show ((b : Int) + 16) = ((b + 16 : Nat) : Int) by omega)
  obtain ⟨z0, z1, z2, z3, z4⟩ := S1
  have hD0 : Below w3.heap.size w3 w3.drew := (Below.refl _ _).drew
  go_wp2_with fail
  go_region_held3 (fun w' => w'.cell? ⟨w.heap.size, 0, none⟩ = some (.int .i64 6) ∧ w'.cell? ⟨w.heap.size, 1, none⟩ = some (.int .i64 (p : Int)) ∧ w'.cell? ⟨w.heap.size, 2, none⟩ = some (.int .i64 q) ∧ w'.cell? ⟨w.heap.size, 3, none⟩ = some (.int .i64 r) ∧ w'.cell? ⟨w.heap.size, 4, none⟩ = some (.int .i64 s) ∧ w'.cell? ⟨w1.heap.size, 0, none⟩ = some (.bool s1.ln) ∧ w'.cell? ⟨w1.heap.size, 1, none⟩ = some (.slice s1.la s1.lN s1.lc) ∧ w'.cell? ⟨w1.heap.size, 2, none⟩ = some (.bool s1.hn) ∧ w'.cell? ⟨w1.heap.size, 3, none⟩ = some (.slice s1.ha s1.hN s1.hc) ∧ w'.cell? ⟨w1.heap.size, 4, none⟩ = some (.int .i64 s1.bits)) (first | exact unhide HK _ (by first | with_reducible exact hD0 | with_reducible exact hD4 | with_reducible exact hD3 | with_reducible exact hD2 | with_reducible exact hD1) | go_keep)
    (first
      | (go_at_call 15; have hq9 := hD3; refine (inside_ok _ s1 250 b L1 H1 ((unhide HX).below hD3) (unhide HB1) (by omega) (unhide HU).2.2.2.1 (unhide HU).2.2.2.2).mono ?_; rintro r' w7 ⟨rfl, hb7⟩; have hD4 := bthen hD3 hb7)
      | (go_at_call 12; have hq9 := hD2; refine (lawSure_ok _ s1 t5 b 16 (2000 + (b + 16) / 16 + 14) L1 H1 _ _ ((unhide HX).below hD2) hs5 (by omega) (by omega) (unhide HB1) h6 (unhide HU).2.1 (by omega) (by omega) (unhide HB5) (unhide HU).2.2.1 (touch_up (unhide HU).1 (Iv.of (b + 16) (unhide HPS)))).mono ?_; rintro r' w6 ⟨rfl, hb6⟩; have hD3 := bthen hD2 hb6)
      | (go_at_call 38; have hq9 := hD1; (first | rw [unhide HW] | rw [unhide HW2]); refine (refCountMass _ 6 q r s p n (b + 16) hn hp hr hrs hs0 hs (by omega)).mono ?_; rintro r' w5 ⟨t5, rfl, hsb5, hs5, hb5⟩; have HB5 := hide hsb5; clear hsb5; have hD2 := bthen hD1 hb5)
      | (go_at_call 33; refine (lawBegun_any _).mono ?_; rintro r' w4 ⟨rfl, hb4⟩; have hD1 := bthen hD0 hb4))
  all_goals
    go_wp2_with fail
    go_ret
    exact ⟨rfl, bthen hB hD4⟩

set_option maxRecDepth 100000 in
set_option maxHeartbeats 4000000 in
theorem law_lawMasses_rare (p q r s : Int) (n b : Nat) (w : World) (h0 : lawE 7 p q r s = 0) (h5 : 8 ≤ b) (h6 : b ≤ 120) (hn : n ≤ 100) (hrk : rok p q) (hp : 0 ≤ p) (hp2 : p ≤ 100 * q) :
    Calls Tryz.prog 8 #[.agg #[.int .i64 7, .int .i64 p, .int .i64 q, .int .i64 r, .int .i64 s], .int .i64 (n : Int), .int .i64 b] w fun z w' => z = .returned (.bool true) ∧ Below w.heap.size w w' := by
  have HE := hide (show masE 7 p q r s (n : Int) (b : Int) = 0 by unfold masE; rw [h0]; simp; omega)
  have H0 := hide h0
  clear h0
  have hn0 : ¬ (n : Int) < 0 := by omega
  have hn2 : ¬ (n : Int) < -1048576 := by omega
  have hn3 : ¬ 1048576 < (n : Int) := by omega
  have hn4 : ¬ 100 < (n : Int) := by omega
  go_enter Tryz.func8, Tryz.ntmps8
  go_wp2_with fail
  obtain ⟨W, hW⟩ : ∃ W, W = w.alloc (.cells #[.int .i64 7, .int .i64 p, .int .i64 q, .int .i64 r, .int .i64 s] 53) := ⟨_, rfl⟩
  have hB : Below w.heap.size w W := by rw [hW]; exact bl1 _ _
  have A : LwC W w.heap.size 7 p q r s := by rw [hW]; exact lwc_new w 7 p q r s _
  rw [← hW]
  clear hW
  refine (mass_of _ 7 p q r s (n : Int) b (rareX p q n) h5 h6 (unhide HE) (fun m w9 hm hm2 => just_rare w9 p q r s n m hm hm2 hn hrk hp hp2)).mono ?_
  rintro r' w1 ⟨L1, H1, hLH1, s1, rfl, hsb1, hs1, hb1⟩
  have HU := hide (sure_mas hLH1)
  clear hLH1
  have HB1 := hide hsb1
  clear hsb1
  replace hB := bthen hB hb1
  replace A := A.below hb1
  clear hb1
  obtain ⟨V1, hV1⟩ : ∃ V1, V1 = w1.alloc (.cells #[.bool s1.ln, .slice s1.la s1.lN s1.lc, .bool s1.hn, .slice s1.ha s1.hN s1.hc, .int .i64 s1.bits] 28) := ⟨_, rfl⟩
  have bV1 : Below w1.heap.size w1 V1 := by rw [hV1]; exact bl1 _ _
  have S1 : SpC V1 w1.heap.size s1 := by rw [hV1]; exact spc_new w1 s1 _
  replace hs1 := hs1.below bV1
  replace hB := bthen hB bV1
  have A0 := A
  have lA := A0.lt
  replace A := A.below bV1
  clear bV1
  obtain ⟨x0, x1, x2, x3, x4⟩ := A0
  go_wp2_with fail
  rw [← hV1]
  clear hV1 x0 x1 x2 x3 x4
  refine (ref_law 7 p q r s _).mono ?_
  rintro r' w2 ⟨rfl, hb2⟩
  replace hB := bthen hB hb2
  replace S1 := S1.below hb2
  replace hs1 := hs1.below hb2
  replace A := A.below hb2
  clear hb2
  have lA2 := A.lt
  have lS2 := S1.lt
  have A0 := A
  obtain ⟨x0, x1, x2, x3, x4⟩ := A0
  rw [unhide H0]
  go_wp2_with fail
  refine (refRightBits _ _).mono ?_
  rintro r' w3 ⟨rfl, rfl⟩
  rw [show bitOk (b : Int) = true by unfold bitOk; simp; omega]
  have HX := hide hs1
  have HK := hide (show ∀ w', Below w3.heap.size w3 w' → (w'.cell? ⟨w.heap.size, 0, none⟩ = some (.int .i64 7) ∧ w'.cell? ⟨w.heap.size, 1, none⟩ = some (.int .i64 p) ∧ w'.cell? ⟨w.heap.size, 2, none⟩ = some (.int .i64 q) ∧ w'.cell? ⟨w.heap.size, 3, none⟩ = some (.int .i64 r) ∧ w'.cell? ⟨w.heap.size, 4, none⟩ = some (.int .i64 s) ∧ w'.cell? ⟨w1.heap.size, 0, none⟩ = some (.bool s1.ln) ∧ w'.cell? ⟨w1.heap.size, 1, none⟩ = some (.slice s1.la s1.lN s1.lc) ∧ w'.cell? ⟨w1.heap.size, 2, none⟩ = some (.bool s1.hn) ∧ w'.cell? ⟨w1.heap.size, 3, none⟩ = some (.slice s1.ha s1.hN s1.hc) ∧ w'.cell? ⟨w1.heap.size, 4, none⟩ = some (.int .i64 s1.bits)) from fun w' hB => ⟨(A.below hB).c0, (A.below hB).c1, (A.below hB).c2, (A.below hB).c3, (A.below hB).c4, (S1.below hB).c0, (S1.below hB).c1, (S1.below hB).c2, (S1.below hB).c3, (S1.below hB).c4⟩)
  have HW := hide (show IntKind.i64.wrap ((b : Int) + 16) = ((b + 16 : Nat) : Int) from (i64_id _ (by omega) (by omega)).trans (by omega))
  have HW2 := hide (show ((b : Int) + 16) = ((b + 16 : Nat) : Int) by omega)
  obtain ⟨z0, z1, z2, z3, z4⟩ := S1
  have hD0 : Below w3.heap.size w3 w3.drew := (Below.refl _ _).drew
  go_wp2_with fail
  go_region_held3 (fun w' => w'.cell? ⟨w.heap.size, 0, none⟩ = some (.int .i64 7) ∧ w'.cell? ⟨w.heap.size, 1, none⟩ = some (.int .i64 p) ∧ w'.cell? ⟨w.heap.size, 2, none⟩ = some (.int .i64 q) ∧ w'.cell? ⟨w.heap.size, 3, none⟩ = some (.int .i64 r) ∧ w'.cell? ⟨w.heap.size, 4, none⟩ = some (.int .i64 s) ∧ w'.cell? ⟨w1.heap.size, 0, none⟩ = some (.bool s1.ln) ∧ w'.cell? ⟨w1.heap.size, 1, none⟩ = some (.slice s1.la s1.lN s1.lc) ∧ w'.cell? ⟨w1.heap.size, 2, none⟩ = some (.bool s1.hn) ∧ w'.cell? ⟨w1.heap.size, 3, none⟩ = some (.slice s1.ha s1.hN s1.hc) ∧ w'.cell? ⟨w1.heap.size, 4, none⟩ = some (.int .i64 s1.bits)) (first | exact unhide HK _ (by first | with_reducible exact hD0 | with_reducible exact hD4 | with_reducible exact hD3 | with_reducible exact hD2 | with_reducible exact hD1) | go_keep)
    (first
      | (go_at_call 15; have hq9 := hD3; refine (inside_ok _ s1 250 b L1 H1 ((unhide HX).below hD3) (unhide HB1) (by omega) (unhide HU).2.2.2.1 (unhide HU).2.2.2.2).mono ?_; rintro r' w7 ⟨rfl, hb7⟩; have hD4 := bthen hD3 hb7)
      | (go_at_call 12; have hq9 := hD2; refine (lawSure_ok _ s1 t5 b 16 70000 L1 H1 o5.1 o5.2 ((unhide HX).below hD2) hs5 (by omega) (by omega) (unhide HB1) h6 (unhide HU).2.1 (by omega) (by omega) (unhide HB5) (unhide HU).2.2.1 (touch_up (unhide HU).1 (unhide HI5))).mono ?_; rintro r' w6 ⟨rfl, hb6⟩; have hD3 := bthen hD2 hb6)
      | (go_at_call 39; have hq9 := hD1; (first | rw [unhide HW] | rw [unhide HW2]); refine (refRareMass _ 7 p q r s n (b + 16) hrk hp hp2 hn (by omega) (by omega)).mono ?_; rintro r' w5 ⟨o5, i5, t5, rfl, hsb5, hs5, hb5⟩; have HI5 := hide i5; have HB5 := hide hsb5; clear hsb5 i5; have hD2 := bthen hD1 hb5)
      | (go_at_call 33; refine (lawBegun_any _).mono ?_; rintro r' w4 ⟨rfl, hb4⟩; have hD1 := bthen hD0 hb4))
  all_goals
    go_wp2_with fail
    go_ret
    exact ⟨rfl, bthen hB hD4⟩
end Go.Proofs.YtgmnknmjainababGreat

namespace Go.Proofs.YtgmnknmjainababGreat
set_option linter.unusedVariables false
open Go.RowKit

theorem law6 {p q r s : Int} (h : lawE 6 p q r s = 0) : 0 ≤ p ∧ p ≤ 100 ∧ 0 ≤ r ∧ r ≤ s ∧ 1 ≤ s ∧ s ≤ 1024 := by
  unfold lawE at h
  rw [if_neg (by omega)] at h
  by_cases h1 : ¬ rok p q ∨ ¬ rok r s
  · rw [if_pos h1] at h; omega
  · rw [if_neg h1, if_neg (by simp [oneB])] at h
    by_cases h2 : saidB 6 p q r s = false
    · rw [if_pos h2] at h; omega
    · have h3 : rok r s := Classical.byContradiction fun hh => h1 (Or.inr hh)
      have h4 : saidB 6 p q r s = true := by simpa using h2
      unfold saidB at h4
      simp at h4
      obtain ⟨_, _, h5, h6⟩ := h3
      omega
theorem law7 {p q r s : Int} (h : lawE 7 p q r s = 0) : rok p q ∧ 0 < p ∧ p ≤ 100 * q := by
  unfold lawE at h
  rw [if_neg (by omega)] at h
  by_cases h1 : ¬ rok p q ∨ ¬ rok r s
  · rw [if_pos h1] at h; omega
  · rw [if_neg h1] at h
    have hr : rok p q := Classical.byContradiction fun hh => h1 (Or.inl hh)
    by_cases h0 : oneB 7 = true ∧ ¬ (r = 0 ∧ s = 1)
    · rw [if_pos h0] at h; omega
    · rw [if_neg h0] at h
      by_cases h2 : saidB 7 p q r s = false
      · rw [if_pos h2] at h; omega
      · rw [if_neg h2] at h
        have h4 : saidB 7 p q r s = true := by simpa using h2
        unfold saidB at h4
        simp at h4
        by_cases h5 : farB 7 p q r s = true
        · rw [if_pos h5] at h; omega
        · have h6 : farB 7 p q r s = false := by simpa using h5
          unfold farB withinB at h6
          simp [oneB] at h6
          exact ⟨hr, h4, by omega⟩
theorem law_lawMasses (k p q r s n b : Int) (w : World) :
    Calls Tryz.prog 8 #[.agg #[.int .i64 k, .int .i64 p, .int .i64 q, .int .i64 r, .int .i64 s], .int .i64 n, .int .i64 b] w fun z w' => z = .returned (.bool true) ∧ Below w.heap.size w w' := by
  by_cases h0 : lawE k p q r s = 0
  · obtain ⟨k1, k7⟩ := law_k h0
    by_cases hk : k < 6
    · exact law_lawMasses_kind k p q r s n b w h0 hk
    have hk2 : k = 6 ∨ k = 7 := by omega
    by_cases g1 : 8 ≤ b ∧ b ≤ 120
    · obtain ⟨h5, h6⟩ := g1
      obtain ⟨c, hc⟩ : ∃ c : Nat, b = (c : Int) := ⟨b.toNat, by omega⟩
      subst hc
      by_cases g3 : n < -1048576
      · rcases hk2 with h | h
        · subst h; exact law_lawMasses_lo6 p q r s n c w h0 h5 h6 g3
        · subst h; exact law_lawMasses_lo7 p q r s n c w h0 h5 h6 g3
      by_cases g4 : 1048576 < n
      · rcases hk2 with h | h
        · subst h; exact law_lawMasses_hi6 p q r s n c w h0 h5 h6 g3 g4
        · subst h; exact law_lawMasses_hi7 p q r s n c w h0 h5 h6 g3 g4
      by_cases g5 : n < 0
      · rcases hk2 with h | h
        · subst h; exact law_lawMasses_neg6 p q r s n c w h0 (by omega) (by omega) g3 g5
        · subst h; exact law_lawMasses_neg7 p q r s n c w h0 (by omega) (by omega) g3 g5
      obtain ⟨m, hm⟩ : ∃ m : Nat, n = (m : Int) := ⟨n.toNat, by omega⟩
      rcases hk2 with h | h
      · subst h
        obtain ⟨a1, a2, a3, a4, a5, a6⟩ := law6 h0
        by_cases g6 : p < n
        · exact law_lawMasses_big p q r s n c w h0 (by omega) (by omega) g5 g4 g6
        · obtain ⟨a, ha⟩ : ∃ a : Nat, p = (a : Int) := ⟨p.toNat, by omega⟩
          subst hm ha
          exact law_lawMasses_count q r s a m c w h0 (by omega) (by omega) (by omega) (by omega) a3 a4 a5 a6
      · subst h
        obtain ⟨a1, a2, a3⟩ := law7 h0
        by_cases g7 : 100 < n
        · exact law_lawMasses_many p q r s n c w h0 h5 h6 g3 g4 g7
        · subst hm
          exact law_lawMasses_rare p q r s m c w h0 (by omega) (by omega) (by omega) a1 (by omega) a3
    · rcases hk2 with h | h
      · subst h; exact law_lawMasses_bits6 p q r s n b w h0 g1
      · subst h; exact law_lawMasses_bits7 p q r s n b w h0 g1
  · exact law_lawMasses_law k p q r s n b w h0
end Go.Proofs.YtgmnknmjainababGreat

namespace Go.Proofs.YtgmnknmjainababGreat
set_option linter.unusedVariables false
set_option linter.unusedSimpArgs false
set_option linter.unnecessarySimpa false
open Go.ChangeShapes Go.WideShapes Go.ChangeAt Go.RowKit

theorem Tryz.own : ownKnob Tryz.prog.godebug = none := by kernel_rfl
theorem Tryz.laidOut : laidOutB Tryz.prog = true := by kernel_rfl
theorem Tryz.cellsI : Tryz.prog.cellsOf 3 = 1 := by kernel_rfl
end Go.Proofs.YtgmnknmjainababGreat
