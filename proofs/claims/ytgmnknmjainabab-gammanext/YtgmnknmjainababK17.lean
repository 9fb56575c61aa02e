/-
  What comes of being sure of a power or of a logarithm; tailsurelaw.powerBegun is true; tailsurelaw.touch.
  What power.Pow answers, errors too, and that it leaves old memory alone.
  What package gamma answers, errors too, and that it leaves old memory alone.
  tailsureref.Ready of a row of ratios; tailsurelaw.far; tailsurelaw.sure.
  tailsurelaw.PowerExps returns true of whatever ratio and bits.
  What GammaNext asks, of the numbers. Plain arithmetic: no statement of the seat is proved here.
  tailsurelaw.gammaBegun is true.
  tailsurelaw.PowerSums returns true of whatever numbers.
  The statement of the gamma function without the reference, walked.
  How a span that is handed to a statement is opened: its ends' digits, within the form's own reach; no statement of the seat is proved here.
-/
import Derived.Test.YtgmnknmjainababRows
import Derived.ProofKit
import Derived.OpenShut
import Derived.SizedLaws
import Derived.ChangeOld
import Derived.Test.YtgmnknmjainababK16
namespace Go.Proofs.Ytgmnknmjainabab
set_option linter.unusedVariables false
set_option linter.unusedSimpArgs false
set_option linter.unnecessarySimpa false
open Go.RowKit
attribute [local go_sem ↓] Go.wp_at_zero Go.wp_at_succ

set_option maxRecDepth 100000 in
set_option maxHeartbeats 2000000 in
theorem lawTouch_int (w : World) (s t : Sp) (k : Nat) (lo hi lo' hi' : Int) (hs : SpAt w s k lo hi) (ht : SpAt w t k lo' hi') (hk : k ≤ 300000000) (s0 : 0 ≤ s.bits) (s1 : s.bits ≤ 1000000) (hst : t.bits = s.bits) :
    Calls Try.prog 33 #[.agg #[.bool s.ln, .slice s.la s.lN s.lc, .bool s.hn, .slice s.ha s.hN s.hc, .int .i64 s.bits], .agg #[.bool t.ln, .slice t.la t.lN t.lc, .bool t.hn, .slice t.ha t.hN t.hc, .int .i64 t.bits]] w fun r w' => r = .returned (.bool (touB lo hi 0 lo' hi' 0)) ∧ Below w.heap.size w w' := by
  obtain ⟨W, hW⟩ : ∃ W, W = (w.alloc (.cells #[.bool s.ln, .slice s.la s.lN s.lc, .bool s.hn, .slice s.ha s.hN s.hc, .int .i64 s.bits] 28)).alloc (.cells #[.bool t.ln, .slice t.la t.lN t.lc, .bool t.hn, .slice t.ha t.hN t.hc, .int .i64 t.bits] 28) := ⟨_, rfl⟩
  have hBW : Below w.heap.size w W := by rw [hW]; exact bl2 _ _ _
  have A : SpC W w.heap.size s := by rw [hW]; exact ⟨by simp [go_sem], by simp [go_sem], by simp [go_sem], by simp [go_sem], by simp [go_sem]⟩
  have C : SpC W (w.heap.size + 1) t := by rw [hW]; exact ⟨by simp [go_sem], by simp [go_sem], by simp [go_sem], by simp [go_sem], by simp [go_sem]⟩
  have HS := hide (hs.below hBW)
  have HT := hide (ht.below hBW)
  have HST := hide hst
  have HK := hide (show ∀ w', Below W.heap.size W w' → (w'.cell? ⟨w.heap.size, 0, none⟩ = some (.bool s.ln) ∧ w'.cell? ⟨w.heap.size, 1, none⟩ = some (.slice s.la s.lN s.lc) ∧ w'.cell? ⟨w.heap.size, 2, none⟩ = some (.bool s.hn) ∧ w'.cell? ⟨w.heap.size, 3, none⟩ = some (.slice s.ha s.hN s.hc) ∧ w'.cell? ⟨w.heap.size, 4, none⟩ = some (.int .i64 s.bits) ∧ w'.cell? ⟨w.heap.size + 1, 0, none⟩ = some (.bool t.ln) ∧ w'.cell? ⟨w.heap.size + 1, 1, none⟩ = some (.slice t.la t.lN t.lc) ∧ w'.cell? ⟨w.heap.size + 1, 2, none⟩ = some (.bool t.hn) ∧ w'.cell? ⟨w.heap.size + 1, 3, none⟩ = some (.slice t.ha t.hN t.hc) ∧ w'.cell? ⟨w.heap.size + 1, 4, none⟩ = some (.int .i64 t.bits)) from fun w' hB => ⟨(A.below hB).c0, (A.below hB).c1, (A.below hB).c2, (A.below hB).c3, (A.below hB).c4, (C.below hB).c0, (C.below hB).c1, (C.below hB).c2, (C.below hB).c3, (C.below hB).c4⟩)
  clear A C hs ht hst
  go_enter Try.func33, Try.ntmps33
  go_wp2
  rw [← hW]
  clear hW
  obtain ⟨x0, x1, x2, x3, x4, y0, y1, y2, y3, y4⟩ := unhide HK _ (Below.refl _ _)
  have hD0 : Below W.heap.size W W.drew := (Below.refl _ _).drew
  go_region_held3 (fun w' => w'.cell? ⟨w.heap.size, 0, none⟩ = some (.bool s.ln) ∧ w'.cell? ⟨w.heap.size, 1, none⟩ = some (.slice s.la s.lN s.lc) ∧ w'.cell? ⟨w.heap.size, 2, none⟩ = some (.bool s.hn) ∧ w'.cell? ⟨w.heap.size, 3, none⟩ = some (.slice s.ha s.hN s.hc) ∧ w'.cell? ⟨w.heap.size, 4, none⟩ = some (.int .i64 s.bits) ∧ w'.cell? ⟨w.heap.size + 1, 0, none⟩ = some (.bool t.ln) ∧ w'.cell? ⟨w.heap.size + 1, 1, none⟩ = some (.slice t.la t.lN t.lc) ∧ w'.cell? ⟨w.heap.size + 1, 2, none⟩ = some (.bool t.hn) ∧ w'.cell? ⟨w.heap.size + 1, 3, none⟩ = some (.slice t.ha t.hN t.hc) ∧ w'.cell? ⟨w.heap.size + 1, 4, none⟩ = some (.int .i64 t.bits)) (first | exact unhide HK _ (by first | with_reducible exact hD0 | with_reducible exact hD3 | with_reducible exact hD2 | with_reducible exact hD1) | go_keep)
    (first
      | (go_at_call 23; have hq := hD2; refine (touch_le _ s t k 0 0 lo hi lo' hi' ((unhide HS).below hD2) ((unhide HT).below hD2) hk s0 s1 (by have := unhide HST; omega) (by have := unhide HST; omega) (by have := unhide HST; omega) (by omega) (by have := unhide HST; omega)).mono ?_; rintro r' w3 ⟨rfl, hb3⟩; have hD3 := bthen hD2 hb3)
      | (go_at_call 22; have hq := hD1; refine (refOf_any _ t).mono ?_; rintro r' w2 ⟨rfl, hb2⟩; have hD2 := bthen hD1 hb2)
      | (go_at_call 22; refine (refOf_any _ s).mono ?_; rintro r' w1 ⟨rfl, hb1⟩; have hD1 := bthen hD0 hb1))
  all_goals
    go_wp2_with fail
    go_ret
    exact ⟨rfl, bthen hBW hD3⟩

theorem choose_mod (c n : Int) (w : World) (h1 : -9223372036854775808 ≤ c) (h2 : c ≤ 9223372036854775807) (hn : 1 ≤ n) (hn2 : n ≤ 1000000) :
    Calls Try.prog 30 #[.int .i64 c, .int .i64 n] w fun r w' => ∃ z : Int, r = .returned (.int .i64 z) ∧ 0 ≤ z ∧ z < n ∧ Below w.heap.size w w' := by
  have hn0 : n ≠ 0 := by omega
  by_cases hc : c < 0
  · have hv : -((c + 1).tmod n) = (-(c + 1)) % n := by rw [← Int.neg_tmod, Int.tmod_eq_emod_of_nonneg (by omega)]
    have HV := hide (show 0 ≤ -((c + 1).tmod n) ∧ -((c + 1).tmod n) < n by rw [hv]; exact ⟨Int.emod_nonneg _ hn0, Int.emod_lt_of_pos _ (by omega)⟩)
    have HV2 := hide (show 0 ≤ (-(c + 1)) % n ∧ (-(c + 1)) % n < n from ⟨Int.emod_nonneg _ hn0, Int.emod_lt_of_pos _ (by omega)⟩)
    clear hv
    go_enter Try.func30, Try.ntmps30
    go_wp2_with fail
    go_ret
    first
      | exact ⟨_, rfl, (unhide HV).1, (unhide HV).2, Below.refl _ _⟩
      | exact ⟨_, rfl, (unhide HV2).1, (unhide HV2).2, Below.refl _ _⟩
  · have hv : c.tmod n = c % n := Int.tmod_eq_emod_of_nonneg (by omega)
    have HV := hide (show 0 ≤ c.tmod n ∧ c.tmod n < n by rw [hv]; exact ⟨Int.emod_nonneg _ hn0, Int.emod_lt_of_pos _ (by omega)⟩)
    have HV2 := hide (show 0 ≤ c % n ∧ c % n < n from ⟨Int.emod_nonneg _ hn0, Int.emod_lt_of_pos _ (by omega)⟩)
    clear hv
    go_enter Try.func30, Try.ntmps30
    go_wp2_with fail
    go_ret
    first
      | exact ⟨_, rfl, (unhide HV).1, (unhide HV).2, Below.refl _ _⟩
      | exact ⟨_, rfl, (unhide HV2).1, (unhide HV2).2, Below.refl _ _⟩
end Go.Proofs.Ytgmnknmjainabab

namespace Go.Proofs.Ytgmnknmjainabab
set_option linter.unusedVariables false
set_option linter.unusedSimpArgs false
set_option linter.unnecessarySimpa false
open Go.RowKit
attribute [local go_sem ↓] Go.wp_at_zero Go.wp_at_succ

theorem rats2 (w : World) (p q kn kd : Int) (T : TypeId) : Rats (w.alloc (.cells #[.int .i64 p, .int .i64 q, .int .i64 kn, .int .i64 kd] T)) w.heap.size 2 (fun j => if j = 0 then p else kn) (fun j => if j = 0 then q else kd) := by
  refine ⟨by simp, ?_, ?_⟩
  all_goals
    intro j hj
    match j, hj with
    | 0, _ => simp
    | 1, _ => simp
end Go.Proofs.Ytgmnknmjainabab

namespace Go.Proofs.Ytgmnknmjainabab
set_option linter.unusedVariables false
set_option linter.unusedSimpArgs false
set_option linter.unnecessarySimpa false
open Go.RowKit
attribute [local go_sem ↓] Go.wp_at_zero Go.wp_at_succ
open Ex

theorem RFlt.uniq {bt : Int} {p q : Nat → Int} {n : Nat} {z z' : Int} (h : RFlt bt p q n z) (h' : RFlt bt p q n z') : z = z' := by
  rcases h with ⟨a, b⟩ | ⟨a, b⟩ <;> rcases h' with ⟨c, d⟩ | ⟨c, d⟩
  · omega
  · exact absurd b d
  · exact absurd d b
  · omega
theorem ShF.uniq {p q : Nat → Int} {n : Nat} {z z' : Int} (h : ShF p q n z) (h' : ShF p q n z') : z = z' := by
  rcases h with ⟨a, j, hj, b⟩ | ⟨a, b, j, hj, c⟩ | ⟨a, b⟩ <;> rcases h' with ⟨d, i, hi, e⟩ | ⟨d, e, i, hi, f⟩ | ⟨d, e⟩
  · omega
  · have := e j hj; omega
  · have := (e j hj).1; omega
  · have := b i hi; omega
  · omega
  · have := (e j hj).2; omega
  · have := (b i hi).1; omega
  · have := (b i hi).2; omega
  · omega
/-- What is wrong with ratios and bits. -/
def GmE (bt : Int) (p q : Nat → Int) (n : Nat) (z : Int) : Prop := RFlt bt p q n z ∧ z = 3 ∨ RFlt bt p q n 0 ∧ ShF p q n z
def gE1 (p q bt : Int) : Int := if ¬ (rok p q ∧ 8 ≤ bt ∧ bt ≤ 120) then 3 else if p ≤ 0 then 5 else if 100 * q < p then 2 else 0
def gE2 (p1 q1 p2 q2 bt : Int) : Int := if ¬ ((rok p1 q1 ∧ rok p2 q2) ∧ 8 ≤ bt ∧ bt ≤ 120) then 3 else if p1 ≤ 0 ∨ p2 ≤ 0 then 5 else if 100 * q1 < p1 ∨ 100 * q2 < p2 then 2 else 0
theorem gE1_ok (p q bt : Int) : GmE bt (fun _ => p) (fun _ => q) 1 (gE1 p q bt) := by
  unfold gE1
  by_cases h : rok p q ∧ 8 ≤ bt ∧ bt ≤ 120
  · rw [if_neg (fun k => k h)]
    refine Or.inr ⟨Or.inl ⟨rfl, h.2, fun _ _ => h.1⟩, ?_⟩
    by_cases h1 : p ≤ 0
    · rw [if_pos h1]; exact Or.inl ⟨rfl, 0, by omega, h1⟩
    · rw [if_neg h1]
      by_cases h2 : 100 * q < p
      · rw [if_pos h2]; exact Or.inr (Or.inl ⟨rfl, fun _ _ => show 0 < p by omega, 0, by omega, h2⟩)
      · rw [if_neg h2]; exact Or.inr (Or.inr ⟨rfl, fun _ _ => ⟨show 0 < p by omega, show p ≤ 100 * q by omega⟩⟩)
  · rw [if_pos h]
    exact Or.inl ⟨Or.inr ⟨rfl, fun k => h ⟨k.2 0 (by omega), k.1⟩⟩, rfl⟩
theorem two_all {P : Nat → Prop} (h0 : P 0) (h1 : P 1) : ∀ j, j < 2 → P j := fun j hj => by
  match j, hj with
  | 0, _ => exact h0
  | 1, _ => exact h1
theorem gE2_ok (p1 q1 p2 q2 bt : Int) : GmE bt (fun j => if j = 0 then p1 else p2) (fun j => if j = 0 then q1 else q2) 2 (gE2 p1 q1 p2 q2 bt) := by
  unfold gE2
  by_cases h : (rok p1 q1 ∧ rok p2 q2) ∧ 8 ≤ bt ∧ bt ≤ 120
  · rw [if_neg (fun k => k h)]
    refine Or.inr ⟨Or.inl ⟨rfl, h.2, two_all (by simpa using h.1.1) (by simpa using h.1.2)⟩, ?_⟩
    by_cases h1 : p1 ≤ 0 ∨ p2 ≤ 0
    · rw [if_pos h1]
      rcases h1 with h1 | h1
      · exact Or.inl ⟨rfl, 0, by omega, by simpa using h1⟩
      · exact Or.inl ⟨rfl, 1, by omega, by simpa using h1⟩
    · rw [if_neg h1]
      have a1 : 0 < p1 := by omega
      have a2 : 0 < p2 := by omega
      by_cases h2 : 100 * q1 < p1 ∨ 100 * q2 < p2
      · rw [if_pos h2]
        refine Or.inr (Or.inl ⟨rfl, two_all (by simpa using a1) (by simpa using a2), ?_⟩)
        rcases h2 with h2 | h2
        · exact ⟨0, by omega, by simpa using h2⟩
        · exact ⟨1, by omega, by simpa using h2⟩
      · rw [if_neg h2]
        exact Or.inr (Or.inr ⟨rfl, two_all ⟨by simpa using a1, by simp; omega⟩ ⟨by simpa using a2, by simp; omega⟩⟩)
  · rw [if_pos h]
    exact Or.inl ⟨Or.inr ⟨rfl, fun k => h ⟨⟨by simpa using k.2 0 (by omega), by simpa using k.2 1 (by omega)⟩, k.1⟩⟩, rfl⟩
theorem gE1_zero {p q bt : Int} (h : gE1 p q bt = 0) : rok p q ∧ 8 ≤ bt ∧ bt ≤ 120 ∧ 0 < p ∧ p ≤ 100 * q := by
  unfold gE1 at h
  by_cases h0 : rok p q ∧ 8 ≤ bt ∧ bt ≤ 120
  · rw [if_neg (fun k => k h0)] at h
    by_cases h1 : p ≤ 0
    · rw [if_pos h1] at h; omega
    · rw [if_neg h1] at h
      by_cases h2 : 100 * q < p
      · rw [if_pos h2] at h; omega
      · exact ⟨h0.1, h0.2.1, h0.2.2, by omega, by omega⟩
  · rw [if_pos h0] at h; omega
theorem gE2_zero {p1 q1 p2 q2 bt : Int} (h : gE2 p1 q1 p2 q2 bt = 0) : (rok p1 q1 ∧ rok p2 q2) ∧ 8 ≤ bt ∧ bt ≤ 120 ∧ 0 < p1 ∧ p1 ≤ 100 * q1 ∧ 0 < p2 ∧ p2 ≤ 100 * q2 := by
  unfold gE2 at h
  by_cases h0 : (rok p1 q1 ∧ rok p2 q2) ∧ 8 ≤ bt ∧ bt ≤ 120
  · rw [if_neg (fun k => k h0)] at h
    by_cases h1 : p1 ≤ 0 ∨ p2 ≤ 0
    · rw [if_pos h1] at h; omega
    · rw [if_neg h1] at h
      by_cases h2 : 100 * q1 < p1 ∨ 100 * q2 < p2
      · rw [if_pos h2] at h; omega
      · exact ⟨h0.1, h0.2.1, h0.2.2, by omega, by omega, by omega, by omega⟩
  · rw [if_pos h0] at h; omega
theorem rats1' (w : World) (B : Nat) (hB : w.heap.size = B) (p q : Int) (T : TypeId) : Rats (w.alloc (.cells #[.int .i64 p, .int .i64 q] T)) B 1 (fun _ => p) (fun _ => q) := by subst hB; exact rats1 w p q T
theorem rats2' (w : World) (B : Nat) (hB : w.heap.size = B) (p q kn kd : Int) (T : TypeId) : Rats (w.alloc (.cells #[.int .i64 p, .int .i64 q, .int .i64 kn, .int .i64 kd] T)) B 2 (fun j => if j = 0 then p else kn) (fun j => if j = 0 then q else kd) := by subst hB; exact rats2 w p q kn kd T

theorem RFlt.all {bt : Int} {p q : Nat → Int} {n : Nat} (h : RFlt bt p q n 0) : ∀ j, j < n → rok (p j) (q j) := by
  rcases h with ⟨_, _, k⟩ | ⟨k, _⟩
  · exact k
  · omega

set_option maxRecDepth 100000 in
set_option maxHeartbeats 2000000 in
theorem sured_gam (L0 G : Rat → Nat → Rat) (X : Int → Int → Nat → Rat) (hE : GEnv L0 G X) (p q : Int) (B0 : Nat) (b : Nat) (w : World) (hr : rok p q) (h0 : 0 < p) (h1 : p ≤ 100 * q) (A : RaC w B0 p q) (h5 : 8 ≤ b) (h6 : b ≤ 120) :
    Calls Try.prog 74 #[.int .i64 b, .func (.func 61) #[] #[.pointer (some ⟨B0, 0, none⟩)]] w (fun r w' => ∃ L H, (SuV (gmV p q (G (gA p q))) b L H ∧ 0 ≤ L ∧ H ≤ Q (b + 706)) ∧ SpanAns w b 250 L H r w') := by
  refine (sure_gam _ b 90 100 (GmPr (gmV p q (G (gA p q)))) w h6 (by omega) (by omega) (gm_ends _ h6) (fun m w' hm hm2 hbw => ?_)).mono fun r w' ⟨L, H, h1', h2'⟩ => ⟨L, H, sure_gm h1', h2'⟩
  have eB : ((b : Int) + (m : Int)) = ((b + m : Nat) : Int) := by omega
  rw [eB]
  exact gam1_iv L0 G X hE w' B0 p q (b + m) hr h0 h1 (A.below hbw) (by omega) (by omega)

set_option maxRecDepth 100000 in
set_option maxHeartbeats 2000000 in
theorem made_gam_ok (L0 G : Rat → Nat → Rat) (X : Int → Int → Nat → Rat) (hE : GEnv L0 G X) (p q : Int) (B0 : Nat) (b : Nat) (Bs cap : Nat) (w : World) (hr : rok p q) (h0 : 0 < p) (h1 : p ≤ 100 * q) (A : RaC w B0 p q) (h5 : 8 ≤ b) (h6 : b ≤ 120) (hrs : Rats w Bs 1 (fun _ => p) (fun _ => q)) (he : GmE (b : Int) (fun _ => p) (fun _ => q) 1 0) :
    Calls Try.prog 60 #[.int .i64 b, .func (.func 61) #[] #[.pointer (some ⟨B0, 0, none⟩)], .slice (some ⟨Bs, 0, none⟩) 1 cap] w (fun r w' => ∃ L H, (SuV (gmV p q (G (gA p q))) b L H ∧ 0 ≤ L ∧ H ≤ Q (b + 706)) ∧ PairAns w b 250 L H 0 r w') := by
  have HS := hide (show ∀ w', Below w.heap.size w w' → Calls Try.prog 74 #[.int .i64 b, .func (.func 61) #[] #[.pointer (some ⟨B0, 0, none⟩)]] w' (fun r w'' => ∃ L H, (SuV (gmV p q (G (gA p q))) b L H ∧ 0 ≤ L ∧ H ≤ Q (b + 706)) ∧ SpanAns w' b 250 L H r w'') from fun w' hbw => sured_gam L0 G X hE p q B0 b w' hr h0 h1 (A.below hbw) h5 h6)
  have HH := hide hrs
  have HE := hide he
  have R := noc_new w 28
  clear hrs he hE
  go_enter Try.func60, Try.ntmps60
  go_wp2_with fail
  refine (ratioFault_any (b : Int) Bs 1 cap _ _ _ ((unhide HH).below (bl1 _ _)) (by omega)).mono ?_
  rintro r w1 ⟨z1, rfl, hf, hb1⟩
  replace R := R.below hb1
  have hBW : Below w.heap.size w w1 := bthen (bl1 _ _) hb1
  clear hb1
  rcases unhide HE with ⟨_, h3⟩ | ⟨hr, hs⟩
  · omega
  have e1 : z1 = 0 := hf.uniq hr
  subst e1
  have HS2 := hide hs
  have HR := hide (RFlt.all hr)
  clear hf hr hs
  go_wp2_with fail
  refine (shapeFault_any Bs 1 cap _ _ _ ((unhide HH).below hBW) (by omega) (unhide HR)).mono ?_
  rintro r w2 ⟨z2, rfl, hf2, hb2⟩
  have e2 : z2 = 0 := hf2.uniq (unhide HS2)
  subst e2
  replace R := R.below hb2
  replace hBW := bthen hBW hb2
  clear hf2 hb2
  go_wp2_with fail
  refine (unhide HS _ hBW).mono ?_
  rintro r' w3 ⟨L, H, hLH, u, rfl, hub, hup, hb3⟩
  have lR := R.lt
  obtain ⟨q0, q1', q2', q3, q4, q5⟩ := R.below hb3
  replace hBW := bthen hBW hb3
  have HU := hide hub
  have HLH := hide hLH
  clear hub hLH hb3
  go_wp2_with fail
  refine bodyPost_ret (v := .tuple #[.agg #[.bool u.ln, .slice u.la u.lN u.lc, .bool u.hn, .slice u.ha u.hN u.hc, .int .i64 u.bits], .int .i64 0]) (by simp [results, Try.results60, go_sem, q0, q1', q2', q3, q4]) rfl ⟨L, H, unhide HLH, u, rfl, unhide HU, ?_, ?_⟩
  · exact SpAt.put5 hup q0 q1' q2' q3 q4 _ _ _ _ _
  · exact set5 hBW (Nat.le_refl _) _ _ _ _ _

set_option maxRecDepth 100000 in
set_option maxHeartbeats 2000000 in
theorem sured_lbe (L0 G : Rat → Nat → Rat) (X : Int → Int → Nat → Rat) (hE : GEnv L0 G X) (p1 q1 p2 q2 : Int) (B0 B1 : Nat) (b : Nat) (w : World) (hr : rok p1 q1) (hs : rok p2 q2) (h0 : 0 < p1) (h1 : p1 ≤ 100 * q1) (k0 : 0 < p2) (k1 : p2 ≤ 100 * q2) (A : RaC w B0 p1 q1) (D : RaC w B1 p2 q2) (h5 : 8 ≤ b) (h6 : b ≤ 120) :
    Calls Try.prog 74 #[.int .i64 b, .func (.func 69) #[] #[.pointer (some ⟨B0, 0, none⟩), .pointer (some ⟨B1, 0, none⟩)]] w (fun r w' => ∃ L H, (SuV (fun M => X p1 q1 M + X p2 q2 M - X (p1 * q2 + p2 * q1) (q1 * q2) M) b L H) ∧ SpanAns w b 250 L H r w') := by
  refine (sure_lbe _ _ b 50 523 (fun B lo hi => LgPr (fun M => X p1 q1 M + X p2 q2 M - X (p1 * q2 + p2 * q1) (q1 * q2) M) B 48 lo hi) w h6 (by omega) (by omega) (lg_ends _ (by omega) h6) (fun m w' hm hm2 hbw => ?_)).mono fun r w' ⟨L, H, h1', h2'⟩ => ⟨L, H, sure_lg h1', h2'⟩
  have eB : ((b : Int) + (m : Int)) = ((b + m : Nat) : Int) := by omega
  rw [eB]
  exact lbe1_iv L0 G X hE w' B0 B1 p1 q1 p2 q2 (b + m) hr hs h0 h1 k0 k1 (A.below hbw) (D.below hbw) (by omega) (by omega)

set_option maxRecDepth 100000 in
set_option maxHeartbeats 2000000 in
theorem made_lbe_ok (L0 G : Rat → Nat → Rat) (X : Int → Int → Nat → Rat) (hE : GEnv L0 G X) (p1 q1 p2 q2 : Int) (B0 B1 : Nat) (b : Nat) (Bs cap : Nat) (w : World) (hr : rok p1 q1) (hs : rok p2 q2) (h0 : 0 < p1) (h1 : p1 ≤ 100 * q1) (k0 : 0 < p2) (k1 : p2 ≤ 100 * q2) (A : RaC w B0 p1 q1) (D : RaC w B1 p2 q2) (h5 : 8 ≤ b) (h6 : b ≤ 120) (hrs : Rats w Bs 2 (fun j => if j = 0 then p1 else p2) (fun j => if j = 0 then q1 else q2)) (he : GmE (b : Int) (fun j => if j = 0 then p1 else p2) (fun j => if j = 0 then q1 else q2) 2 0) :
    Calls Try.prog 60 #[.int .i64 b, .func (.func 69) #[] #[.pointer (some ⟨B0, 0, none⟩), .pointer (some ⟨B1, 0, none⟩)], .slice (some ⟨Bs, 0, none⟩) 2 cap] w (fun r w' => ∃ L H, (SuV (fun M => X p1 q1 M + X p2 q2 M - X (p1 * q2 + p2 * q1) (q1 * q2) M) b L H) ∧ PairAns w b 250 L H 0 r w') := by
  have HS := hide (show ∀ w', Below w.heap.size w w' → Calls Try.prog 74 #[.int .i64 b, .func (.func 69) #[] #[.pointer (some ⟨B0, 0, none⟩), .pointer (some ⟨B1, 0, none⟩)]] w' (fun r w'' => ∃ L H, (SuV (fun M => X p1 q1 M + X p2 q2 M - X (p1 * q2 + p2 * q1) (q1 * q2) M) b L H) ∧ SpanAns w' b 250 L H r w'') from fun w' hbw => sured_lbe L0 G X hE p1 q1 p2 q2 B0 B1 b w' hr hs h0 h1 k0 k1 (A.below hbw) (D.below hbw) h5 h6)
  have HH := hide hrs
  have HE := hide he
  have R := noc_new w 28
  clear hrs he hE
  go_enter Try.func60, Try.ntmps60
  go_wp2_with fail
  refine (ratioFault_any (b : Int) Bs 2 cap _ _ _ ((unhide HH).below (bl1 _ _)) (by omega)).mono ?_
  rintro r w1 ⟨z1, rfl, hf, hb1⟩
  replace R := R.below hb1
  have hBW : Below w.heap.size w w1 := bthen (bl1 _ _) hb1
  clear hb1
  rcases unhide HE with ⟨_, h3⟩ | ⟨hr, hs⟩
  · omega
  have e1 : z1 = 0 := hf.uniq hr
  subst e1
  have HS2 := hide hs
  have HR := hide (RFlt.all hr)
  clear hf hr hs
  go_wp2_with fail
  refine (shapeFault_any Bs 2 cap _ _ _ ((unhide HH).below hBW) (by omega) (unhide HR)).mono ?_
  rintro r w2 ⟨z2, rfl, hf2, hb2⟩
  have e2 : z2 = 0 := hf2.uniq (unhide HS2)
  subst e2
  replace R := R.below hb2
  replace hBW := bthen hBW hb2
  clear hf2 hb2
  go_wp2_with fail
  refine (unhide HS _ hBW).mono ?_
  rintro r' w3 ⟨L, H, hLH, u, rfl, hub, hup, hb3⟩
  have lR := R.lt
  obtain ⟨q0, q1', q2', q3, q4, q5⟩ := R.below hb3
  replace hBW := bthen hBW hb3
  have HU := hide hub
  have HLH := hide hLH
  clear hub hLH hb3
  go_wp2_with fail
  refine bodyPost_ret (v := .tuple #[.agg #[.bool u.ln, .slice u.la u.lN u.lc, .bool u.hn, .slice u.ha u.hN u.hc, .int .i64 u.bits], .int .i64 0]) (by simp [results, Try.results60, go_sem, q0, q1', q2', q3, q4]) rfl ⟨L, H, unhide HLH, u, rfl, unhide HU, ?_, ?_⟩
  · exact SpAt.put5 hup q0 q1' q2' q3 q4 _ _ _ _ _
  · exact set5 hBW (Nat.le_refl _) _ _ _ _ _

set_option maxRecDepth 100000 in
set_option maxHeartbeats 2000000 in
theorem cgam_ok (L0 G : Rat → Nat → Rat) (X : Int → Int → Nat → Rat) (hE : GEnv L0 G X) (p q : Int) (b : Nat) (w : World) (h : gE1 p q b = 0) :
    Calls Try.prog 25 #[.agg #[.int .i64 p, .int .i64 q], .int .i64 b] w (fun r w' => ∃ L H, (SuV (gmV p q (G (gA p q))) b L H ∧ 0 ≤ L ∧ H ≤ Q (b + 706)) ∧ PairAns w b 250 L H 0 r w') := by
  obtain ⟨W, hW⟩ : ∃ W, W = (w.alloc (.cells #[.int .i64 p, .int .i64 q] 23)).alloc (.cells #[.bool false, .slice none 0 0, .bool false, .slice none 0 0, .int .i64 0] 28) := ⟨_, rfl⟩
  have hBW : Below w.heap.size w W := by rw [hW]; exact bl2 _ _ _
  have A : RaC W w.heap.size p q := by rw [hW]; exact ⟨by simp [go_sem], by simp [go_sem]⟩
  have R' : NoC W (w.heap.size + 1) := by rw [hW]; exact ⟨by simp [go_sem], by simp [go_sem], by simp [go_sem], by simp [go_sem], by simp [go_sem], fun o => by simp [go_sem]⟩
  have hsz : W.heap.size = w.heap.size + 1 + 1 := by rw [hW]; simp
  obtain ⟨g1, g2, g3, g4, g5⟩ := gE1_zero h
  have HG := hide (show rok p q ∧ 0 < p ∧ p ≤ 100 * q from ⟨g1, g4, g5⟩)
  have HE := hide hE
  have HM := hide (show GmE (b : Int) (fun _ => p) (fun _ => q) 1 0 by have := gE1_ok p q b; rw [h] at this; exact this)
  have h5 : 8 ≤ b := by omega
  have h6 : b ≤ 120 := by omega
  clear h hE g1 g4 g5
  go_enter Try.func25, Try.ntmps25
  go_wp2_with fail
  rw [← hW]
  clear hW
  refine (made_gam_ok L0 G X (unhide HE) p q w.heap.size b _ _ _ (unhide HG).1 (unhide HG).2.1 (unhide HG).2.2 (A.below (bl1 _ _)) h5 h6 (rats1' W _ hsz p q _) (unhide HM)).mono ?_
  rintro r' w3 ⟨L, H, hLH, u, rfl, hub, hup, hb3⟩
  have HLH := hide hLH
  clear hLH
  have hb4 : Below W.heap.size W w3 := bthen (bl1 _ _) hb3
  obtain ⟨q0, q1', q2', q3, q4, q5⟩ := R'.below hb4
  have lR := (R'.below hb4).lt
  replace hBW := bthen hBW hb4
  have HU := hide hub
  clear hub hb3 hb4
  go_wp2_with fail
  refine bodyPost_ret (v := .tuple #[.agg #[.bool u.ln, .slice u.la u.lN u.lc, .bool u.hn, .slice u.ha u.hN u.hc, .int .i64 u.bits], .int .i64 0]) (by simp [results, Try.results25, go_sem, q0, q1', q2', q3, q4]) rfl ⟨L, H, unhide HLH, u, rfl, unhide HU, ?_, ?_⟩
  · exact SpAt.put5 hup q0 q1' q2' q3 q4 _ _ _ _ _
  · exact set5 hBW (Nat.le_succ _) _ _ _ _ _

set_option maxRecDepth 100000 in
set_option maxHeartbeats 2000000 in
theorem clbe_ok (L0 G : Rat → Nat → Rat) (X : Int → Int → Nat → Rat) (hE : GEnv L0 G X) (p1 q1 p2 q2 : Int) (b : Nat) (w : World) (h : gE2 p1 q1 p2 q2 b = 0) :
    Calls Try.prog 34 #[.agg #[.int .i64 p1, .int .i64 q1], .agg #[.int .i64 p2, .int .i64 q2], .int .i64 b] w (fun r w' => ∃ L H, (SuV (fun M => X p1 q1 M + X p2 q2 M - X (p1 * q2 + p2 * q1) (q1 * q2) M) b L H) ∧ PairAns w b 250 L H 0 r w') := by
  obtain ⟨W, hW⟩ : ∃ W, W = ((w.alloc (.cells #[.int .i64 p1, .int .i64 q1] 23)).alloc (.cells #[.int .i64 p2, .int .i64 q2] 23)).alloc (.cells #[.bool false, .slice none 0 0, .bool false, .slice none 0 0, .int .i64 0] 28) := ⟨_, rfl⟩
  have hBW : Below w.heap.size w W := by rw [hW]; exact bl3 _ _ _ _
  have A : RaC W w.heap.size p1 q1 := by rw [hW]; exact ⟨by simp [go_sem], by simp [go_sem]⟩
  have D : RaC W (w.heap.size + 1) p2 q2 := by rw [hW]; exact ⟨by simp [go_sem], by simp [go_sem]⟩
  have R' : NoC W (w.heap.size + 1 + 1) := by rw [hW]; exact ⟨by simp [go_sem], by simp [go_sem], by simp [go_sem], by simp [go_sem], by simp [go_sem], fun o => by simp [go_sem]⟩
  have hsz : W.heap.size = w.heap.size + 1 + 1 + 1 := by rw [hW]; simp
  have HZ := hide (gE2_zero h)
  have HE := hide hE
  have HM := hide (show GmE (b : Int) (fun j => if j = 0 then p1 else p2) (fun j => if j = 0 then q1 else q2) 2 0 by have := gE2_ok p1 q1 p2 q2 b; rw [h] at this; exact this)
  have h5 : 8 ≤ b := by have := (unhide HZ).2.1; omega
  have h6 : b ≤ 120 := by have := (unhide HZ).2.2.1; omega
  clear h hE
  go_enter Try.func34, Try.ntmps34
  go_wp2_with fail
  rw [← hW]
  clear hW
  refine (made_lbe_ok L0 G X (unhide HE) p1 q1 p2 q2 w.heap.size (w.heap.size + 1) b _ _ _ (unhide HZ).1.1 (unhide HZ).1.2 (unhide HZ).2.2.2.1 (unhide HZ).2.2.2.2.1 (unhide HZ).2.2.2.2.2.1 (unhide HZ).2.2.2.2.2.2 (A.below (bl1 _ _)) (D.below (bl1 _ _)) h5 h6 (rats2' W _ hsz p1 q1 p2 q2 _) (unhide HM)).mono ?_
  rintro r' w3 ⟨L, H, hLH, u, rfl, hub, hup, hb3⟩
  have HLH := hide hLH
  clear hLH
  have hb4 : Below W.heap.size W w3 := bthen (bl1 _ _) hb3
  obtain ⟨q0, q1', q2', q3, q4, q5⟩ := R'.below hb4
  have lR := (R'.below hb4).lt
  replace hBW := bthen hBW hb4
  have HU := hide hub
  clear hub hb3 hb4
  go_wp2_with fail
  refine bodyPost_ret (v := .tuple #[.agg #[.bool u.ln, .slice u.la u.lN u.lc, .bool u.hn, .slice u.ha u.hN u.hc, .int .i64 u.bits], .int .i64 0]) (by simp [results, Try.results34, go_sem, q0, q1', q2', q3, q4]) rfl ⟨L, H, unhide HLH, u, rfl, unhide HU, ?_, ?_⟩
  · exact SpAt.put5 hup q0 q1' q2' q3 q4 _ _ _ _ _
  · exact set5 hBW (by omega) _ _ _ _ _

end Go.Proofs.Ytgmnknmjainabab

namespace Go.Proofs.Ytgmnknmjainabab
set_option linter.unusedVariables false
set_option linter.unusedSimpArgs false
set_option linter.unnecessarySimpa false
open Go.RowKit
attribute [local go_sem ↓] Go.wp_at_zero Go.wp_at_succ

theorem narrowBy_four (w : World) (s : Sp) (b : Nat) (lo hi : Int) (h : SpAt w s 250 lo hi) (hb : s.bits = b) (hb1 : b ≤ 120) (hle : lo ≤ hi) (hN : narB lo hi (Q b) 4 = true) :
    Calls Try.prog 49 #[.agg #[.bool s.ln, .slice s.la s.lN s.lc, .bool s.hn, .slice s.ha s.hN s.hc, .int .i64 s.bits], .int .i64 4] w fun r w' => r = .returned (.bool true) ∧ Below w.heap.size w w' :=
  (narrowBy_int w s b 4 lo hi h hb hb1 (by omega) hle).mono fun r w' ⟨h1, h2⟩ => ⟨by rw [h1]; congr 2, h2⟩

end Go.Proofs.Ytgmnknmjainabab

namespace Go.Proofs.Ytgmnknmjainabab
set_option linter.unusedVariables false
set_option linter.unusedSimpArgs false
set_option linter.unnecessarySimpa false
open Go.RowKit
attribute [local go_sem ↓] Go.wp_at_zero Go.wp_at_succ

theorem touch_up {b i : Nat} {a c : Int × Int} {x : Nat → Rat} (h : Iv b a x) (k : Iv (b + i) c x) : touB a.1 a.2 i c.1 c.2 0 = true := by
  have q := Q_pos b
  have t1 := h.touch k
  have t2 := k.touch h
  rw [Q_add] at t1 t2
  have e1 : a.1 * (Q b * Q i) = a.1 * Q i * Q b := by grind
  have e2 : a.2 * (Q b * Q i) = a.2 * Q i * Q b := by grind
  rw [e1] at t1
  rw [e2] at t2
  have c1 : a.1 * Q i ≤ c.2 := Int.le_of_mul_le_mul_right t1 (by omega)
  have c2 : c.1 ≤ a.2 * Q i := Int.le_of_mul_le_mul_right t2 (by omega)
  have e0 : Q 0 = 1 := rfl
  unfold touB
  rw [e0]
  simp [c1, c2]
end Go.Proofs.Ytgmnknmjainabab

namespace Go.Proofs.Ytgmnknmjainabab
set_option linter.unusedVariables false
open Ex

theorem whole_iv (b : Nat) (c : Int) : Iv b (c * Q b, c * Q b) (fun _ => (c : Rat)) := by
  have q := Qr_pos b
  have e : ((c * Q b : Int) : Rat) / (Q b : Rat) = (c : Rat) := by
    rw [Rat.intCast_mul]
    exact Rat.le_antisymm (rdiv_le q Rat.le_refl) (rle_div q Rat.le_refl)
  refine Has.of_from 0 fun M _ => ?_
  simp only [e]
  exact ⟨Rat.le_refl, Rat.le_refl⟩
theorem tou_whole {b : Nat} {L H c : Int} {x : Nat → Rat} (h : Iv b (L, H) x) (hx : Null (fun M => (c : Rat) - x M)) : touB L H 0 (c * Q b) (c * Q b) 0 = true := by
  have k := h.congr hx
  exact touch_up (i := 0) k (whole_iv b c)
theorem gm_one {L G : Rat → Nat → Rat} {X : Int → Int → Nat → Rat} (hE : GEnv L G X) : Null (fun M => G 1 M - 1) := gam_one hE.lns (hE.gam 1 (by grind) (by grind))
theorem gm_nat {L G : Rat → Nat → Rat} {X : Int → Int → Nat → Rat} (hE : GEnv L G X) {n c : Int} (h1 : gA n 1 = 1) (h2 : (stP n 1 (stN n 1) : Rat) / (stQ 1 (stN n 1) : Rat) = (c : Rat)) : Null (fun M => (c : Rat) - gmV n 1 (G (gA n 1)) M) := by
  refine ((gm_one hE).bmul (Bdd.const (-(c : Rat)))).of_eq fun M => ?_
  unfold gmV
  rw [h1, h2]
  grind
theorem gm_five {L G : Rat → Nat → Rat} {X : Int → Int → Nat → Rat} (hE : GEnv L G X) : Null (fun M => ((24 : Int) : Rat) - gmV 5 1 (G (gA 5 1)) M) := gm_nat hE (by decide +kernel) (by decide +kernel)
theorem gm_1 {L G : Rat → Nat → Rat} {X : Int → Int → Nat → Rat} (hE : GEnv L G X) : Null (fun M => ((1 : Int) : Rat) - gmV 1 1 (G (gA 1 1)) M) := gm_nat hE (by decide +kernel) (by decide +kernel)
theorem gm_2 {L G : Rat → Nat → Rat} {X : Int → Int → Nat → Rat} (hE : GEnv L G X) : Null (fun M => ((1 : Int) : Rat) - gmV 2 1 (G (gA 2 1)) M) := gm_nat hE (by decide +kernel) (by decide +kernel)
theorem gA_next {n d : Int} (h0 : 0 < n) (hd : 0 < d) : gA (n + d) d = gA n d := by
  unfold gA
  rw [stN_next hd h0]
  have e : n + d - ((stN n d + 1 : Nat) : Int) * d = n - (stN n d : Int) * d := by
    have : ((stN n d + 1 : Nat) : Int) = (stN n d : Int) + 1 := by omega
    rw [this]; grind
  rw [e]
theorem gmV_next {n d : Int} (h0 : 0 < n) (hd : 0 < d) (g : Nat → Rat) (M : Nat) : gmV (n + d) d g M = gmV n d g M * ((n : Rat) / (d : Rat)) := by
  unfold gmV
  rw [stN_next hd h0, stP_next]
  have e : stQ d (stN n d + 1) = stQ d (stN n d) * d := rfl
  rw [e, Rat.intCast_mul, Rat.intCast_mul]
  have d0 : (0 : Rat) < (d : Rat) := by exact_mod_cast hd
  have q0 : (0 : Rat) < (stQ d (stN n d) : Rat) := by exact_mod_cast stQ_pos hd _
  generalize (stP n d (stN n d) : Rat) = P at *
  generalize (stQ d (stN n d) : Rat) = Q at *
  generalize g M = y
  have k : (n : Rat) * P / (Q * (d : Rat)) = P / Q * ((n : Rat) / (d : Rat)) := by
    have qd := Rat.mul_pos q0 d0
    refine rat_cancel qd ?_
    have e1 := rdm (a := (n : Rat) * P) qd
    have e2 := rdm (a := P) q0
    have e3 := rdm (a := (n : Rat)) d0
    have r1 : Q * (d : Rat) * ((n : Rat) * P / (Q * (d : Rat))) = (n : Rat) * P / (Q * (d : Rat)) * (Q * (d : Rat)) := by grind
    have r2 : Q * (d : Rat) * (P / Q * ((n : Rat) / (d : Rat))) = P / Q * Q * ((n : Rat) / (d : Rat) * (d : Rat)) := by grind
    rw [r1, r2, e1, e2, e3]; grind
  rw [k]; grind
theorem gm_mul {G : Rat → Nat → Rat} {n d : Int} {b : Nat} {L1 H1 L2 H2 : Int} (h0 : 0 < n) (hd : 0 < d) (hs : SuV (gmV n d (G (gA n d))) b L1 H1) (ht : SuV (gmV (n + d) d (G (gA (n + d) d))) b L2 H2) : touB (mulI b (L1, H1) (ofI n d b)).1 (mulI b (L1, H1) (ofI n d b)).2 0 L2 H2 0 = true := by
  have m := hs.val.mul (Iv.of b (n := n) hd)
  have k : Iv b (mulI b (L1, H1) (ofI n d b)) (gmV (n + d) d (G (gA (n + d) d))) := m.congr (null_zero.of_eq fun M => by rw [gmV_next h0 hd, gA_next h0 hd]; grind)
  exact touch_up (i := 0) k ht.val
theorem gm_fit {n d : Int} {b : Nat} {L H : Int} (hb : b ≤ 120) (h0 : 0 < n) (hn : n ≤ 1000) (hd : 1 ≤ d) (h1 : 0 ≤ L) (h2 : L ≤ H) (h3 : H ≤ Q (b + 706)) : Q (b + 716) < Q 4000 ∧ Abs (mulI b (L, H) (ofI n d b)) (Q (b + 716)) := by
  have q := Q_pos b
  have q7 := Q_pos (b + 706)
  refine ⟨?_, ?_⟩
  · have a := Q_mono (show b + 716 + 1 ≤ 4000 by omega)
    have e : Q (b + 716 + 1) = 2 * Q (b + 716) := rfl
    have := Q_pos (b + 716)
    omega
  · have a1 : Abs (L, H) (Q (b + 706)) := ⟨by show _ ≤ L; omega, by show L ≤ _; omega, by show _ ≤ H; omega, by show H ≤ _; omega⟩
    have nq := Int.mul_nonneg (show 0 ≤ n by omega) (show 0 ≤ Q b by omega)
    have m1 := Int.mul_le_mul_of_nonneg_right (show n ≤ 1024 by omega) (show 0 ≤ Q b by omega)
    have m2 := Int.mul_le_mul_of_nonneg_left hd (show 0 ≤ 1024 * Q b by omega)
    have a2 : Abs (ofI n d b) (1024 * Q b) := ofI_abs (by omega) b (by omega) (by omega)
    refine mulI_abs (B := b) a1 a2 ?_
    have e : Q (b + 716) = Q (b + 706) * Q 10 := Q_add (b + 706) 10
    have e10 : Q 10 = 1024 := rfl
    rw [e, e10]
    have r : Q (b + 706) * (1024 * Q b) = Q (b + 706) * 1024 * Q b := by grind
    omega
theorem lb_turn {X : Int → Int → Nat → Rat} {n d m : Int} {b : Nat} {L1 H1 L2 H2 : Int} (h1 : SuV (fun M => X n d M + X m 1 M - X (n * 1 + m * d) (d * 1) M) b L1 H1) (h2 : SuV (fun M => X m 1 M + X n d M - X (m * d + n * 1) (1 * d) M) b L2 H2) : touB L1 H1 0 L2 H2 0 = true := by
  have e1 : m * d + n * 1 = n * 1 + m * d := by omega
  have e2 : (1 : Int) * d = d * 1 := by omega
  have k : Iv b (L2, H2) (fun M => X n d M + X m 1 M - X (n * 1 + m * d) (d * 1) M) := Has.of_eq h2.val fun M => by rw [e1, e2]; grind
  exact touch_up (i := 0) h1.val k
theorem gE1_nat {p q bt : Int} (h : rok p q) (h1 : 8 ≤ bt) (h2 : bt ≤ 120) (h3 : 0 < p) (h4 : p ≤ 100 * q) : (if ¬ (rok p q ∧ 8 ≤ bt ∧ bt ≤ 120) then (3 : Int) else if p ≤ 0 then 5 else if 100 * q < p then 2 else 0) = 0 := by
  rw [if_neg (fun k => k ⟨h, h1, h2⟩), if_neg (by omega), if_neg (by omega)]
end Go.Proofs.Ytgmnknmjainabab

namespace Go.Proofs.Ytgmnknmjainabab
set_option linter.unusedVariables false
set_option linter.unusedSimpArgs false
set_option linter.unnecessarySimpa false
open Go.RowKit
attribute [local go_sem ↓] Go.wp_at_zero Go.wp_at_succ

set_option maxRecDepth 100000 in
set_option maxHeartbeats 4000000 in
theorem gammaBegun_any (w : World) :
    Calls Try.prog 27 #[] w fun r w' => r = .returned (.bool true) ∧ Below w.heap.size w w' := by
  obtain ⟨L0, G, X, hE⟩ := genv_ex
  have hBW : Below w.heap.size w w := Below.refl _ _
  have HE := hide hE
  have H5 := hide (show gE1 5 1 ((20 : Nat) : Int) = 0 from gE1_nat ⟨by omega, by omega, by omega, by omega⟩ (by omega) (by omega) (by omega) (by omega))
  have HT0 := hide (gm_five hE)
  clear hE
  go_enter Try.func27, Try.ntmps27
  go_wp2_with fail
  refine (cgam_ok L0 G X (unhide HE) 5 1 20 _ (unhide H5)).mono ?_
  rintro r' w1 ⟨L, H, hv, s, rfl, hsb, hsp, hb1⟩
  replace hBW := bthen hBW hb1
  clear hb1
  have HV := hide hv.1
  have HT := hide (tou_whole hv.1.val (unhide HT0))
  have HB := hide hsb
  have HP := hide hsp
  clear hv hsb hsp HT0
  obtain ⟨V1, hV1⟩ : ∃ V, V = w1.alloc (.cells #[.bool s.ln, .slice s.la s.lN s.lc, .bool s.hn, .slice s.ha s.hN s.hc, .int .i64 s.bits] 28) := ⟨_, rfl⟩
  have bV1 : Below w1.heap.size w1 V1 := by rw [hV1]; exact bl1 _ _
  have S : SpC V1 w1.heap.size s := by rw [hV1]; exact spc_new w1 s _
  have fS0 := S.c0
  have fS1 := S.c1
  have fS2 := S.c2
  have fS3 := S.c3
  have fS4 := S.c4
  have fSl := S.lt
  go_wp2_with fail
  rw [← hV1]
  clear hV1
  clear fS0 fS1 fS2 fS3 fS4 fSl
  replace HP := hide ((unhide HP).below bV1)
  replace hBW := bthen hBW bV1
  clear bV1
  refine (refOf_any _ s).mono ?_
  rintro r w2 ⟨rfl, hxx⟩
  replace HP := hide ((unhide HP).below hxx)
  replace S := S.below hxx
  replace hBW := bthen hBW hxx
  clear hxx
  go_wp2_with fail
  refine (refWhole _ 24 20 (by omega) (by omega) (by omega)).mono ?_
  rintro r w3 ⟨y, rfl, hxb, hxp, hxx⟩
  replace HP := hide ((unhide HP).below hxx)
  replace S := S.below hxx
  replace hBW := bthen hBW hxx
  clear hxx
  have HBy := hide hxb
  have HPy := hide (hxp.mono (show 20 / 16 + 18 ≤ 250 by omega))
  clear hxb hxp
  go_wp2_with fail
  refine (touch_le _ s y 250 0 0 _ _ _ _ (unhide HP) (unhide HPy) (by omega) (by have := unhide HB; omega) (by have := unhide HB; omega) (by have := unhide HBy; omega) (by have := unhide HBy; omega) (by have := unhide HB; have := unhide HBy; omega) (by have := unhide HB; omega) (by have := unhide HB; have := unhide HBy; omega)).mono ?_
  rintro r w4 ⟨rfl, hxx⟩
  rw [unhide HT]
  replace HP := hide ((unhide HP).below hxx)
  replace S := S.below hxx
  replace HPy := hide ((unhide HPy).below hxx)
  replace hBW := bthen hBW hxx
  clear hxx
  have fS0 := S.c0
  have fS1 := S.c1
  have fS2 := S.c2
  have fS3 := S.c3
  have fS4 := S.c4
  have fSl := S.lt
  go_wp2_with fail
  clear fS0 fS1 fS2 fS3 fS4 fSl
  refine (narrowBy_four _ s 20 L H (unhide HP) (unhide HB) (by omega) (unhide HV).le (unhide HV).nar).mono ?_
  rintro r w5 ⟨rfl, hxx⟩
  replace HP := hide ((unhide HP).below hxx)
  replace S := S.below hxx
  replace HPy := hide ((unhide HPy).below hxx)
  replace hBW := bthen hBW hxx
  clear hxx
  go_wp2_with fail
  exact bodyPost_ret (v := .bool true) (by simp [results, Try.results27]) rfl ⟨rfl, hBW⟩
end Go.Proofs.Ytgmnknmjainabab

namespace Go.Proofs.Ytgmnknmjainabab
set_option linter.unusedVariables false
set_option linter.unusedSimpArgs false
set_option linter.unnecessarySimpa false
open Go.RowKit
attribute [local go_sem ↓] Go.wp_at_zero Go.wp_at_succ

theorem chk_sp {w : World} {s : Sp} {k : Nat} {lo hi : Int} (h : SpAt w s k lo hi) (hk : k ≤ 250) (hle : lo ≤ hi) (h1 : 1 ≤ s.bits) (h2 : s.bits ≤ 120) : ∃ d e, SpDig w s d e ∧ chkE s d e = 0 ∧ lo = loZ s d ∧ hi = hiZ s e := by
  obtain ⟨⟨d, p1, p2, p3, p4, p5⟩, ⟨e, r1, r2, r3, r4, r5⟩⟩ := h
  refine ⟨d, e, ⟨p1, r1⟩, ?_, p5, r5⟩
  have l1 := lenZ_le s.lN d
  have l2 := lenZ_le s.hN e
  have g1 : rightB s.ln s.lN d ≠ false := by
    unfold rightB
    by_cases h0 : s.lN = 0
    · simp [h0, p3 h0]
    · rw [if_neg h0]; simpa using (show d (s.lN - 1) ≠ 0 by omega)
  have g2 : rightB s.hn s.hN e ≠ false := by
    unfold rightB
    by_cases h0 : s.hN = 0
    · simp [h0, r3 h0]
    · rw [if_neg h0]; simpa using (show e (s.hN - 1) ≠ 0 by omega)
  have g3 : ¬ 0 < cmpI s.ln s.hn d e s.lN s.hN := by
    rw [sgn_nonneg_lt p1.dgs r1.dgs s.ln s.hn s.lN s.hN p2 r2 p3 r3, ← p5, ← r5]
    exact cmpInt_le0 (by omega)
  unfold chkE
  rw [if_neg (by omega), if_neg (fun q => q.elim g1 g2), if_neg (by omega), if_neg g3]
theorem flt_ok {s t : Sp} {d e d' e' : Nat → Int} (h1 : chkE s d e = 0) (h2 : chkE t d' e' = 0) (h3 : s.bits = t.bits) : fltE2 (chkE s d e) (chkE t d' e') s.bits t.bits = 0 := by
  unfold fltE2; rw [h1, h2, h3]; simp
theorem small_fit {lo hi M : Int} (hM : M < Q 4000) (h : Abs (lo, hi) M) : fitE lo hi = 0 ∧ ∀ z, fitZ lo hi z = z := by
  obtain ⟨h1, h2, h3, h4⟩ := h
  simp only [] at h1 h2 h3 h4
  rcases fit_cases lo hi with ⟨f1, _, _⟩ | ⟨_, f2, f3⟩
  · exfalso
    rcases f1 with f1 | f1 <;> rcases f1 with f1 | f1 <;> omega
  · exact ⟨f2, f3⟩
theorem spanMul_iv (w : World) (s t : Sp) (b : Nat) (a c : Int × Int) (hs : SpAt w s 250 a.1 a.2) (ht : SpAt w t 250 c.1 c.2) (h1 : s.bits = (b : Int)) (h2 : t.bits = (b : Int)) (hb1 : 1 ≤ b) (hb2 : b ≤ 120) (la : a.1 ≤ a.2) (lc : c.1 ≤ c.2) {M : Int} (hM : M < Q 4000) (hf : Abs (mulI b a c) M) :
    Calls Try.prog 32 #[.agg #[.bool s.ln, .slice s.la s.lN s.lc, .bool s.hn, .slice s.ha s.hN s.hc, .int .i64 s.bits], .agg #[.bool t.ln, .slice t.la t.lN t.lc, .bool t.hn, .slice t.ha t.hN t.hc, .int .i64 t.bits]] w (PairAns w b 600 (mulI b a c).1 (mulI b a c).2 0) := by
  obtain ⟨d, e, g1, g2, g3, g4⟩ := chk_sp hs (by omega) la (by omega) (by omega)
  obtain ⟨d', e', f1, f2, f3, f4⟩ := chk_sp ht (by omega) lc (by omega) (by omega)
  have hS := saidMul s t d e d' e' (flt_ok g2 f2 (by omega)) a.1 a.2 c.1 c.2 g3 g4 f3 f4 w g1 f1
  obtain ⟨k1, k2⟩ := small_fit (lo := (mulI b a c).1) (hi := (mulI b a c).2) hM hf
  refine hS.mono fun r w' h => ?_
  rw [h1, downZ_nat, downZ_nat] at h
  have e1 : leastZ (pr4 (a.1 * c.1) (a.1 * c.2) (a.2 * c.1) (a.2 * c.2)) 3 / Q b = (mulI b a c).1 := rfl
  have e2 : -(-(mostZ (pr4 (a.1 * c.1) (a.1 * c.2) (a.2 * c.1) (a.2 * c.2)) 3) / Q b) = (mulI b a c).2 := rfl
  rw [e1, e2, k1, k2, k2, k2] at h
  exact h
end Go.Proofs.Ytgmnknmjainabab

namespace Go.Proofs.Ytgmnknmjainabab
set_option linter.unusedVariables false
set_option linter.unusedSimpArgs false
set_option linter.unnecessarySimpa false
open Go.RowKit
attribute [local go_sem ↓] Go.wp_at_zero Go.wp_at_succ

set_option maxRecDepth 100000 in
set_option maxHeartbeats 8000000 in
theorem law_gammaNext (a0 b0 c0 t0 : Int) (w : World) (ha : -9223372036854775808 ≤ a0 ∧ a0 ≤ 9223372036854775807) (hb : -9223372036854775808 ≤ b0 ∧ b0 ≤ 9223372036854775807) (hc : -9223372036854775808 ≤ c0 ∧ c0 ≤ 9223372036854775807) (ht : -9223372036854775808 ≤ t0 ∧ t0 ≤ 9223372036854775807) :
    Calls Try.prog 6 #[.int .i64 a0, .int .i64 b0, .int .i64 c0, .int .i64 t0] w fun r w' => r = .returned (.bool true) ∧ Below w.heap.size w w' := by
  obtain ⟨L0, G, X, hE⟩ := genv_ex
  have hBW : Below w.heap.size w w := Below.refl _ _
  have HE := hide hE
  clear hE
  go_enter Try.func6, Try.ntmps6
  go_wp2_with fail
  refine (gammaBegun_any _).mono ?_
  rintro r' wa ⟨rfl, hxx⟩
  replace hBW := bthen hBW hxx
  clear hxx
  go_wp2_with fail
  refine (spanBegun_any _).mono ?_
  rintro r' wb ⟨rfl, hxx⟩
  replace hBW := bthen hBW hxx
  clear hxx
  go_wp2_with fail
  refine (choose_mod a0 1000 _ ha.1 ha.2 (by omega) (by omega)).mono ?_
  rintro r' wz1 ⟨z1, rfl, z10, z11, hxx⟩
  replace hBW := bthen hBW hxx
  clear hxx
  go_wp2_with fail
  refine (choose_mod b0 100 _ hb.1 hb.2 (by omega) (by omega)).mono ?_
  rintro r' wz2 ⟨z2, rfl, z20, z21, hxx⟩
  replace hBW := bthen hBW hxx
  clear hxx
  go_wp2_with fail
  refine (choose_mod c0 50 _ hc.1 hc.2 (by omega) (by omega)).mono ?_
  rintro r' wz3 ⟨z3, rfl, z30, z31, hxx⟩
  replace hBW := bthen hBW hxx
  clear hxx
  go_wp2_with fail
  refine (choose_mod t0 113 _ ht.1 ht.2 (by omega) (by omega)).mono ?_
  rintro r' wz4 ⟨z4, rfl, z40, z41, hxx⟩
  replace hBW := bthen hBW hxx
  clear hxx
  obtain ⟨n, hn⟩ : ∃ A, A = 1 + z1 := ⟨_, rfl⟩
  obtain ⟨d, hd⟩ : ∃ A, A = 1 + z2 := ⟨_, rfl⟩
  obtain ⟨m, hm⟩ : ∃ A, A = 1 + z3 := ⟨_, rfl⟩
  obtain ⟨b, hbt⟩ : ∃ bt : Nat, (bt : Int) = 8 + z4 := ⟨(8 + z4).toNat, by omega⟩
  have n1 : 1 ≤ n := by omega
  have n2 : n ≤ 1000 := by omega
  have d1 : 1 ≤ d := by omega
  have d2 : d ≤ 100 := by omega
  have m1 : 1 ≤ m := by omega
  have m2 : m ≤ 50 := by omega
  have b1 : 8 ≤ b := by omega
  have b2 : b ≤ 120 := by omega
  rw [← hn, ← hd, ← hm]
  have HBT := hide hbt
  clear hn hd hm hbt z10 z11 z20 z21 z30 z31
  obtain ⟨V0, hV0⟩ : ∃ V, V = wz4.alloc (.cells #[.int .i64 n, .int .i64 d] 23) := ⟨_, rfl⟩
  have bV0 : Below wz4.heap.size wz4 V0 := by rw [hV0]; exact bl1 _ _
  have A : RaC V0 wz4.heap.size n d := by rw [hV0]; exact rac_new wz4 n d _
  by_cases hgt : 50 * d < n
  · go_wp2_with fail
    exact bodyPost_ret (v := .bool true) (by simp [results, Try.results6]) rfl ⟨rfl, bthen hBW (bl1 _ _)⟩
  have hle : ¬ 50 * d < n := hgt
  have rk : rok n d := ⟨by omega, by omega, by omega, by omega⟩
  have HR := hide rk
  have HG1 := hide (show gE1 n d (b : Int) = 0 from gE1_nat rk (by omega) (by omega) (by omega) (by omega))
  have HG2 := hide (show gE1 (n + d) d (b : Int) = 0 from gE1_nat ⟨by omega, by omega, by omega, by omega⟩ (by omega) (by omega) (by omega) (by omega))
  have HG3 := hide (show gE2 n d m 1 (b : Int) = 0 by
    unfold gE2
    rw [if_neg (fun k => k ⟨⟨rk, ⟨by omega, by omega, by omega, by omega⟩⟩, by omega, by omega⟩), if_neg (by omega), if_neg (by omega)])
  have HG4 := hide (show gE2 m 1 n d (b : Int) = 0 by
    unfold gE2
    rw [if_neg (fun k => k ⟨⟨⟨by omega, by omega, by omega, by omega⟩, rk⟩, by omega, by omega⟩), if_neg (by omega), if_neg (by omega)])
  clear hgt rk
  have fA0 := A.c0
  have fA1 := A.c1
  have fAl := A.lt
  go_wp2_with fail
  rw [← hV0]
  clear hV0
  clear fA0 fA1 fAl
  rw [← unhide HBT]
  replace hBW := bthen hBW bV0
  clear bV0 HBT z40 z41
  refine (cgam_ok L0 G X (unhide HE) n d b _ (unhide HG1)).mono ?_
  rintro r w1 ⟨Ls, Hs, hv, s, rfl, hxb, hxp, hxx⟩
  replace A := A.below hxx
  replace hBW := bthen hBW hxx
  clear hxx
  have HVs := hide hv
  have HBs := hide hxb
  have HPs := hide hxp
  clear hv hxb hxp
  obtain ⟨V1, hV1⟩ : ∃ V, V = w1.alloc (.cells #[.bool s.ln, .slice s.la s.lN s.lc, .bool s.hn, .slice s.ha s.hN s.hc, .int .i64 s.bits] 28) := ⟨_, rfl⟩
  have bV1 : Below w1.heap.size w1 V1 := by rw [hV1]; exact bl1 _ _
  have S : SpC V1 w1.heap.size s := by rw [hV1]; exact spc_new w1 s _
  have fA0 := A.c0
  have fA1 := A.c1
  have fAl := A.lt
  go_wp2_with fail
  rw [← hV1]
  clear hV1
  clear fA0 fA1 fAl
  replace A := A.below bV1
  replace HPs := hide ((unhide HPs).below bV1)
  replace hBW := bthen hBW bV1
  clear bV1
  refine (cgam_ok L0 G X (unhide HE) (n + d) d b _ (unhide HG2)).mono ?_
  rintro r w2 ⟨Lt, Ht, hv, t, rfl, hxb, hxp, hxx⟩
  replace A := A.below hxx
  replace HPs := hide ((unhide HPs).below hxx)
  replace S := S.below hxx
  replace hBW := bthen hBW hxx
  clear hxx
  have HVt := hide hv
  have HBt := hide hxb
  have HPt := hide hxp
  clear hv hxb hxp
  obtain ⟨V2, hV2⟩ : ∃ V, V = w2.alloc (.cells #[.bool t.ln, .slice t.la t.lN t.lc, .bool t.hn, .slice t.ha t.hN t.hc, .int .i64 t.bits] 28) := ⟨_, rfl⟩
  have bV2 : Below w2.heap.size w2 V2 := by rw [hV2]; exact bl1 _ _
  have T : SpC V2 w2.heap.size t := by rw [hV2]; exact spc_new w2 t _
  have fA0 := A.c0
  have fA1 := A.c1
  have fAl := A.lt
  go_wp2_with fail
  rw [← hV2]
  clear hV2
  clear fA0 fA1 fAl
  replace A := A.below bV2
  replace HPs := hide ((unhide HPs).below bV2)
  replace S := S.below bV2
  replace HPt := hide ((unhide HPt).below bV2)
  replace hBW := bthen hBW bV2
  clear bV2
  refine (spanOf_ok n d b _ (by omega) (by omega) (by omega) (by omega) b1 b2).mono ?_
  rintro r w3 ⟨x, rfl, hxb, hxp, hxx⟩
  replace A := A.below hxx
  replace HPs := hide ((unhide HPs).below hxx)
  replace S := S.below hxx
  replace HPt := hide ((unhide HPt).below hxx)
  replace T := T.below hxx
  replace hBW := bthen hBW hxx
  clear hxx
  have HBx := hide hxb
  have HPx := hide (show SpAt w3 x 250 (ofI n d b).1 (ofI n d b).2 from hxp.mono (by omega))
  clear hxb hxp
  obtain ⟨V3, hV3⟩ : ∃ V, V = w3.alloc (.cells #[.bool x.ln, .slice x.la x.lN x.lc, .bool x.hn, .slice x.ha x.hN x.hc, .int .i64 x.bits] 28) := ⟨_, rfl⟩
  have bV3 : Below w3.heap.size w3 V3 := by rw [hV3]; exact bl1 _ _
  have XC : SpC V3 w3.heap.size x := by rw [hV3]; exact spc_new w3 x _
  have fS0 := S.c0
  have fS1 := S.c1
  have fS2 := S.c2
  have fS3 := S.c3
  have fS4 := S.c4
  have fSl := S.lt
  go_wp2_with fail
  rw [← hV3]
  clear hV3
  clear fS0 fS1 fS2 fS3 fS4 fSl
  replace A := A.below bV3
  replace HPs := hide ((unhide HPs).below bV3)
  replace S := S.below bV3
  replace HPt := hide ((unhide HPt).below bV3)
  replace T := T.below bV3
  replace HPx := hide ((unhide HPx).below bV3)
  replace hBW := bthen hBW bV3
  clear bV3
  have FT := hide (gm_fit b2 (show 0 < n by omega) n2 d1 (unhide HVs).2.1 (unhide HVs).1.le (unhide HVs).2.2)
  have OL := hide (ofI_le (n := n) (show 0 < d by omega) b)
  refine (spanMul_iv _ s x b (Ls, Hs) (ofI n d b) (unhide HPs) (unhide HPx) (unhide HBs) (unhide HBx) (by omega) b2 (unhide HVs).1.le (unhide OL) (unhide FT).1 (unhide FT).2).mono ?_
  rintro r w4 ⟨p, rfl, hxb, hxp, hxx⟩
  replace A := A.below hxx
  replace HPs := hide ((unhide HPs).below hxx)
  replace S := S.below hxx
  replace HPt := hide ((unhide HPt).below hxx)
  replace T := T.below hxx
  replace HPx := hide ((unhide HPx).below hxx)
  replace XC := XC.below hxx
  replace hBW := bthen hBW hxx
  clear hxx
  have HBp := hide hxb
  have HPp := hide hxp
  clear hxb hxp
  obtain ⟨V4, hV4⟩ : ∃ V, V = w4.alloc (.cells #[.bool p.ln, .slice p.la p.lN p.lc, .bool p.hn, .slice p.ha p.hN p.hc, .int .i64 p.bits] 28) := ⟨_, rfl⟩
  have bV4 : Below w4.heap.size w4 V4 := by rw [hV4]; exact bl1 _ _
  have PC : SpC V4 w4.heap.size p := by rw [hV4]; exact spc_new w4 p _
  have fT0 := T.c0
  have fT1 := T.c1
  have fT2 := T.c2
  have fT3 := T.c3
  have fT4 := T.c4
  have fTl := T.lt
  go_wp2_with fail
  rw [← hV4]
  clear hV4
  clear fT0 fT1 fT2 fT3 fT4 fTl
  replace A := A.below bV4
  replace HPs := hide ((unhide HPs).below bV4)
  replace S := S.below bV4
  replace HPt := hide ((unhide HPt).below bV4)
  replace T := T.below bV4
  replace HPx := hide ((unhide HPx).below bV4)
  replace XC := XC.below bV4
  replace HPp := hide ((unhide HPp).below bV4)
  replace hBW := bthen hBW bV4
  clear bV4
  have TB := hide (gm_mul (show 0 < n by omega) (show 0 < d by omega) (unhide HVs).1 (unhide HVt).1)
  refine (lawTouch_int _ p t 600 _ _ Lt Ht (unhide HPp) ((unhide HPt).mono (by omega)) (by omega) (by have := unhide HBp; omega) (by have := unhide HBp; omega) (by have := unhide HBp; have := unhide HBt; omega)).mono ?_
  rintro r w5 ⟨rfl, hxx⟩
  rw [unhide TB]
  replace A := A.below hxx
  replace HPs := hide ((unhide HPs).below hxx)
  replace S := S.below hxx
  replace HPt := hide ((unhide HPt).below hxx)
  replace T := T.below hxx
  replace HPx := hide ((unhide HPx).below hxx)
  replace XC := XC.below hxx
  replace HPp := hide ((unhide HPp).below hxx)
  replace PC := PC.below hxx
  replace hBW := bthen hBW hxx
  clear hxx
  clear TB FT OL HPs HPt HPx HPp HVs HVt HBs HBt HBx HBp S T XC PC
  go_wp2_with fail
  obtain ⟨BR, hBR⟩ : ∃ B, B = wz4.heap.size := ⟨_, rfl⟩
  rw [← hBR] at A ⊢
  clear hBR
  go_loopw [18] (fun kk wr => ∃ i : Nat, kk = .int .i64 ((i : Int) + 1) ∧ i ≤ 2 ∧ RaC wr BR n d ∧ Below w.heap.size w wr) (fun kk _ => 3 - (intOf kk).toNat)
  case atStart => exact ⟨0, rfl, by omega, A, hBW⟩
  case round =>
    clear A hBW
    obtain ⟨i, rfl, hi, A, hBW⟩ := hrel
    by_cases hin : i < 2
    · have hin1 : (i : Int) + 1 ≤ 2 := by omega
      have HGi := hide (show gE1 ((i : Int) + 1) 1 (b : Int) = 0 from gE1_nat ⟨by omega, by omega, by omega, by omega⟩ (by omega) (by omega) (by omega) (by omega))
      have HNi := hide (show Ex.Null (fun M => ((1 : Int) : Rat) - gmV ((i : Int) + 1) 1 (G (gA ((i : Int) + 1) 1)) M) by
        rcases (show i = 0 ∨ i = 1 by omega) with e | e
        · subst e; exact gm_1 (unhide HE)
        · subst e; exact gm_2 (unhide HE))
      go_wp2_with fail
      refine (cgam_ok L0 G X (unhide HE) ((i : Int) + 1) 1 b _ (unhide HGi)).mono ?_
      rintro r w6 ⟨Lu, Hu, hv, u, rfl, hxb, hxp, hxx⟩
      replace A := A.below hxx
      replace hBW := bthen hBW hxx
      clear hxx
      have TBu := hide (tou_whole hv.1.val (unhide HNi))
      have HBu := hide hxb
      have HPu := hide hxp
      clear hv hxb hxp HNi HGi
      obtain ⟨V6, hV6⟩ : ∃ V, V = w6.alloc (.cells #[.bool u.ln, .slice u.la u.lN u.lc, .bool u.hn, .slice u.ha u.hN u.hc, .int .i64 u.bits] 28) := ⟨_, rfl⟩
      have bV6 : Below w6.heap.size w6 V6 := by rw [hV6]; exact bl1 _ _
      have U : SpC V6 w6.heap.size u := by rw [hV6]; exact spc_new w6 u _
      have fU0 := U.c0
      have fU1 := U.c1
      have fU2 := U.c2
      have fU3 := U.c3
      have fU4 := U.c4
      have fUl := U.lt
      go_wp2_with fail
      rw [← hV6]
      clear hV6
      clear fU0 fU1 fU2 fU3 fU4 fUl
      replace A := A.below bV6
      replace HPu := hide ((unhide HPu).below bV6)
      replace hBW := bthen hBW bV6
      clear bV6 U
      refine (refOf_any _ u).mono ?_
      rintro r w7 ⟨rfl, hxx⟩
      replace A := A.below hxx
      replace HPu := hide ((unhide HPu).below hxx)
      replace hBW := bthen hBW hxx
      clear hxx
      go_wp2_with fail
      refine (refWhole _ 1 b (by omega) (by omega) (by omega)).mono ?_
      rintro r w8 ⟨y, rfl, hxb, hxp, hxx⟩
      replace A := A.below hxx
      replace HPu := hide ((unhide HPu).below hxx)
      replace hBW := bthen hBW hxx
      clear hxx
      have HBy := hide hxb
      have HPy := hide (hxp.mono (show b / 16 + 18 ≤ 250 by omega))
      clear hxb hxp
      go_wp2_with fail
      refine (touch_le _ u y 250 0 0 _ _ _ _ (unhide HPu) (unhide HPy) (by omega) (by have := unhide HBu; omega) (by have := unhide HBu; omega) (by have := unhide HBy; omega) (by have := unhide HBy; omega) (by have := unhide HBu; have := unhide HBy; omega) (by have := unhide HBu; omega) (by have := unhide HBu; have := unhide HBy; omega)).mono ?_
      rintro r w9 ⟨rfl, hxx⟩
      rw [unhide TBu]
      replace A := A.below hxx
      replace HPu := hide ((unhide HPu).below hxx)
      replace HPy := hide ((unhide HPy).below hxx)
      replace hBW := bthen hBW hxx
      clear hxx HPu HPy
      go_wp2_with fail
      go_roundw
      case rel => exact ⟨i + 1, by go_num, by omega, A, hBW⟩
      case measure => simp [intOf]; omega
    · have hin1 : ¬ (i : Int) + 1 ≤ 2 := by omega
      obtain ⟨V0, hV0⟩ : ∃ V, V = wr.alloc (.cells #[.int .i64 m, .int .i64 1] 23) := ⟨_, rfl⟩
      have bV0 : Below wr.heap.size wr V0 := by rw [hV0]; exact bl1 _ _
      have D : RaC V0 wr.heap.size m 1 := by rw [hV0]; exact rac_new wr m 1 _
      have fA0 := A.c0
      have fA1 := A.c1
      have fAl := A.lt
      go_wp2_with fail
      rw [← hV0]
      clear hV0
      clear fA0 fA1 fAl
      replace A := A.below bV0
      replace hBW := bthen hBW bV0
      clear bV0
      refine (clbe_ok L0 G X (unhide HE) n d m 1 b _ (unhide HG3)).mono ?_
      rintro r w6 ⟨Lu, Hu, hv, u, rfl, hxb, hxp, hxx⟩
      replace A := A.below hxx
      replace D := D.below hxx
      replace hBW := bthen hBW hxx
      clear hxx
      have HVu := hide hv
      have HBu := hide hxb
      have HPu := hide hxp
      clear hv hxb hxp
      obtain ⟨V6, hV6⟩ : ∃ V, V = w6.alloc (.cells #[.bool u.ln, .slice u.la u.lN u.lc, .bool u.hn, .slice u.ha u.hN u.hc, .int .i64 u.bits] 28) := ⟨_, rfl⟩
      have bV6 : Below w6.heap.size w6 V6 := by rw [hV6]; exact bl1 _ _
      have U : SpC V6 w6.heap.size u := by rw [hV6]; exact spc_new w6 u _
      have fA0 := A.c0
      have fA1 := A.c1
      have fAl := A.lt
      have fD0 := D.c0
      have fD1 := D.c1
      have fDl := D.lt
      go_wp2_with fail
      rw [← hV6]
      clear hV6
      clear fA0 fA1 fAl fD0 fD1 fDl
      replace A := A.below bV6
      replace D := D.below bV6
      replace HPu := hide ((unhide HPu).below bV6)
      replace hBW := bthen hBW bV6
      clear bV6
      refine (clbe_ok L0 G X (unhide HE) m 1 n d b _ (unhide HG4)).mono ?_
      rintro r w7 ⟨Lv, Hv, hv, v, rfl, hxb, hxp, hxx⟩
      replace A := A.below hxx
      replace D := D.below hxx
      replace HPu := hide ((unhide HPu).below hxx)
      replace U := U.below hxx
      replace hBW := bthen hBW hxx
      clear hxx
      have TB := hide (lb_turn (unhide HVu) hv)
      have HBv := hide hxb
      have HPv := hide hxp
      clear hv hxb hxp
      obtain ⟨V7, hV7⟩ : ∃ V, V = w7.alloc (.cells #[.bool v.ln, .slice v.la v.lN v.lc, .bool v.hn, .slice v.ha v.hN v.hc, .int .i64 v.bits] 28) := ⟨_, rfl⟩
      have bV7 : Below w7.heap.size w7 V7 := by rw [hV7]; exact bl1 _ _
      have VC : SpC V7 w7.heap.size v := by rw [hV7]; exact spc_new w7 v _
      have fU0 := U.c0
      have fU1 := U.c1
      have fU2 := U.c2
      have fU3 := U.c3
      have fU4 := U.c4
      have fUl := U.lt
      go_wp2_with fail
      rw [← hV7]
      clear hV7
      clear fU0 fU1 fU2 fU3 fU4 fUl
      replace A := A.below bV7
      replace D := D.below bV7
      replace HPu := hide ((unhide HPu).below bV7)
      replace U := U.below bV7
      replace HPv := hide ((unhide HPv).below bV7)
      replace hBW := bthen hBW bV7
      clear bV7
      refine (lawTouch_int _ u v 250 Lu Hu Lv Hv (unhide HPu) (unhide HPv) (by omega) (by have := unhide HBu; omega) (by have := unhide HBu; omega) (by have := unhide HBu; have := unhide HBv; omega)).mono ?_
      rintro r w8 ⟨rfl, hxx⟩
      rw [unhide TB]
      replace A := A.below hxx
      replace D := D.below hxx
      replace HPu := hide ((unhide HPu).below hxx)
      replace U := U.below hxx
      replace HPv := hide ((unhide HPv).below hxx)
      replace hBW := bthen hBW hxx
      clear hxx
      go_wp2_with fail
      exact bodyPost_ret (v := .bool true) (by simp [results, Try.results6]) rfl ⟨rfl, hBW⟩
end Go.Proofs.Ytgmnknmjainabab

namespace Go.Proofs.Ytgmnknmjainabab
set_option linter.unusedVariables false
set_option linter.unusedSimpArgs false
set_option linter.unnecessarySimpa false
open Go.ChangeShapes Go.WideShapes Go.ChangeAt Go.RowKit

theorem Try.own : ownKnob Try.prog.godebug = none := by kernel_rfl
end Go.Proofs.Ytgmnknmjainabab
