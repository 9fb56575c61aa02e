/-
  tailsurelaw.PowerExps returns true of whatever ratio and bits.
  Roots of a power of e; the logarithm of what is near 1, by its alternating sum. Plain arithmetic: no statement of the seat is proved here.
  What tailsureref.nearLog answers, and that it leaves old memory alone.
  The logarithm by eight roots; that of a quotient by one near 1 and that of 2, as the reference has it. Plain arithmetic: no statement of the seat is proved here.
  A region that draws its order and ends in a store that overwrites what the region has read: a load may be taken first where the store waits for it. No statement of the seat is proved here.
  How far the sums of the logarithm near 1 reach; spans times a ratio of either sign; how a quotient is brought between 1 and 2. Plain arithmetic: no statement of the seat is proved here.
-/
import Derived.Deep.RegionHeld3
import Derived.Test.YtgmnknmjainabaaK12
namespace Go.Proofs.Ytgmnknmjainabaa
set_option linter.unusedVariables false
set_option linter.unusedSimpArgs false
set_option linter.unnecessarySimpa false
open Go.RowKit
attribute [local go_sem ↓] Go.wp_at_zero Go.wp_at_succ

theorem refReady1 (bt : Int) (w : World) (B : Nat) (hB : w.heap.size = B) (p q : Int) (T : TypeId) (cap : Nat) :
    Calls Try.prog 55 #[.int .i64 bt, .slice (some ⟨B, 0, none⟩) 1 cap] (w.alloc (.cells #[.int .i64 p, .int .i64 q] T)) fun r w' =>
      r = .returned (.int .i64 (ratE p q bt)) ∧ Below w.heap.size w w' := by
  subst hB
  exact (refReady_any bt w.heap.size 1 cap (fun _ => p) (fun _ => q) _ (rats1 w p q T) (by omega)).mono fun r w' ⟨z, h1, h2, h3⟩ => by
    refine ⟨?_, (bl1 _ _).trans (h3.mono (by simp))⟩
    rw [h1]; unfold ratE
    rcases h2 with ⟨rfl, h4, h5⟩ | ⟨rfl, h4⟩
    · rw [if_pos ⟨h5 0 (by omega), h4⟩]
    · rw [if_neg (fun ⟨h5, h6⟩ => h4 ⟨h6, fun _ _ => h5⟩)]

theorem touch_up {b i : Nat} {a c : Int × Int} {x : Nat → Rat} (h : Iv b a x) (k : Iv (b + i) c x) : touB a.1 a.2 i c.1 c.2 0 = true := by
  have q := Q_pos b
  have t1 := h.touch k
  have t2 := k.touch h
  rw [Q_add] at t1 t2
  have e1 : a.1 * (Q b * Q i) = a.1 * Q i * Q b := by grind
  have e2 : a.2 * (Q b * Q i) = a.2 * Q i * Q b := by grind
  rw [e1] at t1
  rw [e2] at t2
  have c1 : a.1 * Q i ≤ c.2 := Int.le_of_mul_le_mul_right t1 (by omega)
  have c2 : c.1 ≤ a.2 * Q i := Int.le_of_mul_le_mul_right t2 (by omega)
  have e0 : Q 0 = 1 := rfl
  unfold touB
  rw [e0]
  simp [c1, c2]
theorem lawSure_ok (w : World) (s t : Sp) (b i k : Nat) (lo hi lo' hi' : Int) (hs : SpAt w s 250 lo hi) (ht : SpAt w t k lo' hi') (hk0 : 250 ≤ k) (hk : k ≤ 300000000) (hb : s.bits = b) (hb1 : b ≤ 120) (hle : lo ≤ hi) (hi0 : 1 ≤ i) (hi1 : i ≤ 1000) (htb : t.bits = ((b + i : Nat) : Int)) (hN : narB lo hi (Q b) 4 = true) (hT : touB lo hi i lo' hi' 0 = true) :
    Calls Try.prog 58 #[.agg #[.bool s.ln, .slice s.la s.lN s.lc, .bool s.hn, .slice s.ha s.hN s.hc, .int .i64 s.bits], .int .i64 0, .int .i64 0, .int .i64 b, .agg #[.bool t.ln, .slice t.la t.lN t.lc, .bool t.hn, .slice t.ha t.hN t.hc, .int .i64 t.bits]] w fun r w' => r = .returned (.bool true) ∧ Below w.heap.size w w' := by
  rw [← hb]
  rcases cmp3 lo hi with ⟨h1, h2⟩ | ⟨h1, h2⟩ | ⟨h1, h2⟩
  · exact lawSure_a w s t b i k lo hi lo' hi' hs ht hk0 hk hb hb1 hle hi0 hi1 htb hN hT h1
  · exact lawSure_b w s t b i k lo hi lo' hi' hs ht hk0 hk hb hb1 hle hi0 hi1 htb hN hT h1
  · omega

end Go.Proofs.Ytgmnknmjainabaa

namespace Go.Proofs.Ytgmnknmjainabaa
set_option linter.unusedVariables false
open Ex

namespace Ex
theorem sqrt_has {a b r t : Rat} {x y : Nat → Rat} (h : Has a b x) (hxy : Null (fun M => y M * y M - x M)) (N0 : Nat) (hy : ∀ M, N0 ≤ M → 0 ≤ y M) (h1 : r * r ≤ a) (h2 : b ≤ t * t) (ht : 0 ≤ t) : Has r t y := fun e he => by
  have he2 := Rat.mul_pos he he
  obtain ⟨N1, k1⟩ := h (e * e / 4) (by grind)
  obtain ⟨N2, k2⟩ := hxy (e * e / 4) (by grind)
  refine ⟨N0 + N1 + N2, fun M hM => ?_⟩
  obtain ⟨g1, g2⟩ := k1 M (by omega)
  obtain ⟨g3, g4⟩ := k2 M (by omega)
  have g5 := hy M (by omega)
  simp only [] at g3 g4
  generalize x M = X at *
  generalize y M = Y at *
  constructor
  · refine Rat.not_lt.1 fun hn => ?_
    have p1 := Rat.mul_nonneg (show 0 ≤ r - Y - e by grind) (show 0 ≤ r + Y by grind)
    have p2 := Rat.mul_nonneg (show 0 ≤ r - e by grind) (Rat.le_of_lt he)
    have p3 := Rat.mul_nonneg g5 (Rat.le_of_lt he)
    grind
  · refine Rat.not_lt.1 fun hn => ?_
    have p1 := Rat.mul_nonneg (show 0 ≤ Y - t - e by grind) (show 0 ≤ Y + t by grind)
    have p2 := Rat.mul_nonneg (show 0 ≤ Y - e by grind) (Rat.le_of_lt he)
    have p3 := Rat.mul_nonneg ht (Rat.le_of_lt he)
    grind
theorem Bdd.half {l : Nat → Rat} (h : Bdd l) : Bdd (fun M => l M / 2) := by
  obtain ⟨K, N, k0, hk⟩ := h
  exact ⟨K, N, k0, fun M hM => by obtain ⟨h1, h2⟩ := hk M hM; constructor <;> grind⟩
theorem isLog_Ev {l : Nat → Rat} (h : Bdd l) : IsLog l (Ev l) := ⟨h, null_zero.of_eq fun M => by grind⟩
/-- What is left out of the sum, against a power. -/
theorem Lg_left {y b : Rat} (hy : AB y (1 / 2)) {a : Nat} (hb : AB (pw y a) b) (i : Nat) : AB (Lg y (a + i) - Lg y a) (b * (1 - q2 i)) ∧ AB (pw y (a + i)) (b * q2 i) := by
  have b0 := hb.nonneg
  induction i with
  | zero =>
    have e : q2 0 = 1 := rfl
    rw [e]; simp only [Nat.add_zero]
    refine ⟨?_, hb.mono (by grind)⟩
    constructor <;> grind
  | succ i ih =>
    obtain ⟨h1, h2⟩ := ih
    have e : Lg y (a + (i + 1)) = Lg y (a + i) + pw y (a + i + 1) / (((a + i : Nat) : Rat) + 1) := rfl
    have e2 : q2 (i + 1) = q2 i / 2 := rfl
    have h3 : AB (pw y (a + i + 1)) (b * q2 i / 2) := by
      have h4 := hy.mul h2
      have e3 : pw y (a + i + 1) = y * pw y (a + i) := by simp only [pw]
      rw [e3]
      exact h4.mono (by grind)
    have q := q2_pos i
    have hbq := Rat.mul_nonneg b0 (Rat.le_of_lt q)
    have h5 : AB (pw y (a + i + 1) / (((a + i : Nat) : Rat) + 1)) (b * q2 i / 2) := by
      refine rdiv_AB (pos1 _) (h3.mono ?_)
      have kk : (0 : Rat) ≤ ((a + i : Nat) : Rat) := by exact_mod_cast Nat.zero_le (a + i)
      have := Rat.mul_nonneg kk (show 0 ≤ b * q2 i / 2 by grind)
      grind
    refine ⟨?_, by rw [e2]; exact h3.mono (by grind)⟩
    have h6 := h1.add h5
    rw [e, e2]
    generalize pw y (a + i + 1) / (((a + i : Nat) : Rat) + 1) = t at *
    have h7 : Lg y (a + i) + t - Lg y a = Lg y (a + i) - Lg y a + t := by grind
    rw [h7]
    exact h6.mono (by grind)
theorem pw_opp (z : Rat) (k : Nat) : pw (-z) (2 * k + 1) = -pw z (2 * k + 1) := by
  have e1 : pw (-z) (2 * k + 1) = -z * pw (-z) (2 * k) := by simp only [pw]
  have e2 : pw z (2 * k + 1) = z * pw z (2 * k) := by simp only [pw]
  rw [e1, e2, pw_neg]; grind
end Ex
/-- A root, of what is a power of e. -/
theorem root_has {B : Nat} {a : Int × Int} {l : Nat → Rat} (hl : Bdd l) (h : Iv B a (Ev l)) {r t : Int} (hr : r * r ≤ a.1 * Q B) (ht0 : 0 ≤ t) (ht : a.2 * Q B ≤ t * t) : Iv B (r, t) (Ev (fun M => l M / 2)) := by
  have q := Qr_pos B
  have hq : 0 < Q B := by have := Q_pos B; omega
  obtain ⟨c, hc, N, hN⟩ := Ev_low hl.half
  have e1 : (fun M => l M / 2 + l M / 2) = l := funext fun M => by grind
  have ha := Ev_add hl.half hl.half
  rw [e1] at ha
  refine sqrt_has h ha N (fun M hM => by have := hN M hM; grind) ?_ ?_ ?_
  · have hc1 : ((r * r : Int) : Rat) ≤ ((a.1 * Q B : Int) : Rat) := cast_le hr
    rw [Rat.intCast_mul, Rat.intCast_mul] at hc1
    refine rle_div q ?_
    have e2 := rdm (a := (r : Rat)) q
    generalize (r : Rat) / (Q B : Rat) = R at *
    rw [← e2] at hc1
    have h3 : R * R * (Q B : Rat) * (Q B : Rat) ≤ (a.1 : Rat) * (Q B : Rat) := by grind
    exact Rat.le_of_mul_le_mul_right h3 q
  · have hc1 : ((a.2 * Q B : Int) : Rat) ≤ ((t * t : Int) : Rat) := cast_le ht
    rw [Rat.intCast_mul, Rat.intCast_mul] at hc1
    refine rdiv_le q ?_
    have e2 := rdm (a := (t : Rat)) q
    generalize (t : Rat) / (Q B : Rat) = R at *
    rw [← e2] at hc1
    have h3 : (a.2 : Rat) * (Q B : Rat) ≤ R * R * (Q B : Rat) * (Q B : Rat) := by grind
    exact Rat.le_of_mul_le_mul_right h3 q
  · refine rle_div q ?_
    have : ((0 : Int) : Rat) ≤ (t : Rat) := cast_le ht0
    have e0 : ((0 : Int) : Rat) = 0 := rfl
    rw [e0] at this
    grind

/-- The powers of z, and the sums so far, of tailsureref.nearLog. -/
def npT (B : Nat) (z : Int × Int) : Nat → Int × Int
  | 0 => z
  | n + 1 => mulI B (npT B z n) z
def nsT (B : Nat) (z : Int × Int) : Nat → Int × Int
  | 0 => z
  | n + 1 => if (n + 2) % 2 = 0 then subI (nsT B z n) (scaleI (npT B z (n + 1)) 1 ((n : Int) + 2)) else addI (nsT B z n) (scaleI (npT B z (n + 1)) 1 ((n : Int) + 2))
theorem npT_has {B : Nat} {z : Int × Int} {x : Nat → Rat} (h : Iv B z x) (n : Nat) : Iv B (npT B z n) (fun M => pw (x M) (n + 1)) := by
  induction n with
  | zero => exact h.congr (null_zero.of_eq fun M => by simp only [pw]; grind)
  | succ n ih => exact (ih.mul h).congr (null_zero.of_eq fun M => by simp only [pw]; grind)
theorem one_over (n : Nat) (X : Rat) : ((1 : Int) : Rat) / (((n : Int) + 2 : Int) : Rat) * X = X / (((n + 1 : Nat) : Rat) + 1) := by
  have e : (((n : Int) + 2 : Int) : Rat) = ((n + 1 : Nat) : Rat) + 1 := by
    rw [Rat.intCast_add, Rat.natCast_add]
    have e1 : ((2 : Int) : Rat) = 2 := rfl
    have e2 : ((n : Int) : Rat) = (n : Rat) := rfl
    have e3 : ((1 : Nat) : Rat) = 1 := rfl
    rw [e1, e2, e3]; grind
  have e0 : ((1 : Int) : Rat) = 1 := rfl
  rw [e, e0, Rat.div_def, Rat.div_def, Rat.one_mul, Rat.mul_comm]
theorem nsT_has {B : Nat} {z : Int × Int} {x : Nat → Rat} (h : Iv B z x) (n : Nat) : Iv B (nsT B z n) (fun M => -Lg (-x M) (n + 1)) := by
  induction n with
  | zero =>
    refine h.congr (null_zero.of_eq fun M => ?_)
    have e : Lg (-x M) 1 = 0 + pw (-x M) 1 / (((0 : Nat) : Rat) + 1) := rfl
    have e1 : pw (-x M) 1 = -x M * 1 := rfl
    have e2 : ((0 : Nat) : Rat) = 0 := rfl
    rw [show (0 : Nat) + 1 = 1 from rfl, e, e1, e2, Rat.div_def]
    have e3 : ((0 : Rat) + 1)⁻¹ = 1 := by decide +kernel
    rw [e3]; grind
  | succ n ih =>
    have hs := (npT_has h (n + 1)).scale (n := 1) (d := (n : Int) + 2) (by omega) (by omega)
    have e : ∀ M, Lg (-x M) (n + 1 + 1) = Lg (-x M) (n + 1) + pw (-x M) (n + 1 + 1) / (((n + 1 : Nat) : Rat) + 1) := fun M => rfl
    unfold nsT
    split
    · rename_i hp
      obtain ⟨k, hk⟩ : ∃ k, n + 1 + 1 = 2 * k := ⟨(n + 2) / 2, by omega⟩
      refine (ih.sub hs).congr (null_zero.of_eq fun M => ?_)
      rw [e, one_over, hk, pw_neg]
      generalize pw (x M) (2 * k) / (((n + 1 : Nat) : Rat) + 1) = T
      grind
    · rename_i hp
      obtain ⟨k, hk⟩ : ∃ k, n + 1 + 1 = 2 * k + 1 := ⟨(n + 1) / 2, by omega⟩
      refine (ih.add hs).congr (null_zero.of_eq fun M => ?_)
      rw [e, one_over, hk, pw_opp]
      have e5 : -pw (x M) (2 * k + 1) / (((n + 1 : Nat) : Rat) + 1) = -(pw (x M) (2 * k + 1) / (((n + 1 : Nat) : Rat) + 1)) := by rw [Rat.div_def, Rat.div_def, Rat.neg_mul]
      rw [e5]
      generalize pw (x M) (2 * k + 1) / (((n + 1 : Nat) : Rat) + 1) = T
      grind
theorem q2_Q (k : Nat) : q2 k * (Q k : Rat) = 1 := by
  induction k with
  | zero =>
    have e1 : q2 0 = 1 := rfl
    have e2 : ((Q 0 : Int) : Rat) = 1 := rfl
    rw [e1, e2]; exact Rat.one_mul 1
  | succ k ih =>
    have e : q2 (k + 1) = q2 k / 2 := rfl
    have e2 : Q (k + 1) = 2 * Q k := rfl
    rw [e, e2, Rat.intCast_mul]
    have e3 : ((2 : Int) : Rat) = 2 := rfl
    rw [e3]; grind
theorem q2_mono {a b : Nat} (h : a ≤ b) : q2 b ≤ q2 a := by
  induction b with
  | zero => have : a = 0 := by omega
            subst this; exact Rat.le_refl
  | succ b ih =>
    by_cases hb : a = b + 1
    · subst hb; exact Rat.le_refl
    · have := ih (by omega)
      have := q2_pos b
      have e : q2 (b + 1) = q2 b / 2 := rfl
      rw [e]; grind
theorem pw_AB_neg {x b : Rat} {k : Nat} (h : AB (pw x k) b) : AB (pw (-x) k) b := by
  by_cases hk : k % 2 = 0
  · obtain ⟨c, hc⟩ : ∃ c, k = 2 * c := ⟨k / 2, by omega⟩
    subst hc; rw [pw_neg]; exact h
  · obtain ⟨c, hc⟩ : ∃ c, k = 2 * c + 1 := ⟨k / 2, by omega⟩
    subst hc; rw [pw_opp]; exact h.neg
theorem near_has {B N : Nat} {z : Int × Int} {x : Nat → Rat} (h : Iv B z x) (N0 : Nat) (hx : ∀ M, N0 ≤ M → AB (x M) (1 / 2)) (hN : reachI (npT B z N) ≤ 1 ∨ B ≤ N + 1) : Iv B (addI (nsT B z N) (-2, 2)) (fun M => -Lg (-x M) M) := by
  have q := Qr_pos B
  have hp : ∃ N1, ∀ M, N1 ≤ M → AB (pw (x M) (N + 1)) (2 / (Q B : Rat)) := by
    rcases hN with hN | hN
    · obtain ⟨N1, h1⟩ := npT_has h N (1 / (Q B : Rat)) (rdiv_pos (by decide) q)
      refine ⟨N1, fun M hM => ?_⟩
      obtain ⟨g1, g2⟩ := h1 M hM
      have r1 : -1 ≤ (npT B z N).1 := by unfold reachI maxZ at hN; split at hN <;> omega
      have r2 : (npT B z N).2 ≤ 1 := by unfold reachI maxZ at hN; split at hN <;> omega
      have c1 : ((-1 : Int) : Rat) / (Q B : Rat) ≤ ((npT B z N).1 : Rat) / (Q B : Rat) := rdiv_le q (by rw [rdm q]; exact cast_le r1)
      have c2 : ((npT B z N).2 : Rat) / (Q B : Rat) ≤ ((1 : Int) : Rat) / (Q B : Rat) := rdiv_le q (by rw [rdm q]; exact cast_le r2)
      have e1 : ((-1 : Int) : Rat) / (Q B : Rat) = -(1 / (Q B : Rat)) := by
        rw [show ((-1 : Int) : Rat) = -1 from rfl, Rat.div_def, Rat.div_def, Rat.neg_mul]
      have e2 : ((1 : Int) : Rat) / (Q B : Rat) = 1 / (Q B : Rat) := rfl
      have e3 : (2 : Rat) / (Q B : Rat) = 1 / (Q B : Rat) + 1 / (Q B : Rat) := by
        rw [Rat.div_def, Rat.div_def]; grind
      rw [e1] at c1
      rw [e2] at c2
      rw [e3]
      constructor <;> grind
    · refine ⟨N0, fun M hM => (pw_AB (hx M hM) (N + 1)).mono ?_⟩
      have h1 := q2_mono hN
      refine Rat.le_trans h1 (rle_div q ?_)
      rw [q2_Q]; decide
  obtain ⟨N1, h1⟩ := hp
  intro e he
  obtain ⟨N2, h2⟩ := nsT_has h N e he
  refine ⟨N0 + N1 + N2 + (N + 1), fun M hM => ?_⟩
  obtain ⟨g1, g2⟩ := h2 M (by omega)
  have h3 := (Lg_left (hx M (by omega)).neg (pw_AB_neg (h1 M (by omega))) (M - (N + 1))).1
  rw [show N + 1 + (M - (N + 1)) = M by omega] at h3
  have q1 := q2_pos (M - (N + 1))
  have q3 : (0 : Rat) < 2 / (Q B : Rat) := rdiv_pos (by decide) q
  have h4 := h3.mono (b := 2 / (Q B : Rat)) (by
    have := Rat.mul_nonneg (Rat.le_of_lt q3) (Rat.le_of_lt q1)
    grind)
  obtain ⟨h5, h6⟩ := h4
  have e1 : (((addI (nsT B z N) (-2, 2)).1 : Int) : Rat) / (Q B : Rat) = ((nsT B z N).1 : Rat) / (Q B : Rat) - 2 / (Q B : Rat) := by
    rw [← rdiv_sub]; unfold addI; simp only []
    rw [Rat.intCast_add]; congr 1
    rw [show ((-2 : Int) : Rat) = -2 from rfl]; grind
  have e2 : (((addI (nsT B z N) (-2, 2)).2 : Int) : Rat) / (Q B : Rat) = ((nsT B z N).2 : Rat) / (Q B : Rat) + 2 / (Q B : Rat) := by
    rw [← rdiv_add]; unfold addI; simp only []
    rw [Rat.intCast_add]; congr 1
  rw [e1, e2]
  simp only [] at g1 g2
  constructor <;> grind
theorem near_log {B N : Nat} {z : Int × Int} {l : Nat → Rat} (hl : Bdd l) (h : Iv B z (fun M => Ev l M - 1)) (N0 : Nat) (hx : ∀ M, N0 ≤ M → AB (Ev l M - 1) (1 / 2)) (hN : reachI (npT B z N) ≤ 1 ∨ B ≤ N + 1) : Iv B (addI (nsT B z N) (-2, 2)) l := by
  have h1 := near_has h N0 hx hN
  have h2 := isLog_Lg (y := fun M => -(Ev l M - 1)) N0 (fun M hM => (hx M hM).neg)
  have h3 := (isLog_Ev hl).uniq (h2.congr_r (r' := Ev l) (null_zero.of_eq fun M => by grind))
  exact h1.congr (h3.of_eq fun M => rfl)

theorem npT_le {B : Nat} {z : Int × Int} (hz : z.1 ≤ z.2) (n : Nat) : (npT B z n).1 ≤ (npT B z n).2 := by
  cases n with
  | zero => exact hz
  | succ n => exact mulI_le B
theorem npT_abs {B : Nat} {z : Int × Int} (h : Abs z (Q B)) (n : Nat) : Abs (npT B z n) (Q B) := by
  induction n with
  | zero => exact h
  | succ n ih => exact mulI_abs ih h (Int.le_refl _)
theorem nsT_le {B : Nat} {z : Int × Int} (hz : z.1 ≤ z.2) (n : Nat) : (nsT B z n).1 ≤ (nsT B z n).2 := by
  induction n with
  | zero => exact hz
  | succ n ih =>
    have h := scaleI_le (n := 1) (d := (n : Int) + 2) (npT_le (B := B) hz (n + 1)) (by omega) (by omega)
    unfold nsT
    split
    · unfold subI; simp only []; omega
    · unfold addI; simp only []; omega
theorem nsT_abs {B : Nat} {z : Int × Int} (h : Abs z (Q B)) (n : Nat) : Abs (nsT B z n) (((n : Int) + 1) * Q B) := by
  induction n with
  | zero => exact h.mono (by omega)
  | succ n ih =>
    obtain ⟨g1, g2, g3, g4⟩ := scaleI_abs (n := 1) (d := (n : Int) + 2) (npT_abs h (n + 1)) (by omega) (by omega) (by omega)
    obtain ⟨k1, k2, k3, k4⟩ := ih
    have e : ((n + 1 : Nat) : Int) + 1 = (n : Int) + 1 + 1 := by omega
    rw [e, Int.add_mul, Int.one_mul]
    unfold nsT
    split
    · exact ⟨by unfold subI; simp only []; omega, by unfold subI; simp only []; omega, by unfold subI; simp only []; omega, by unfold subI; simp only []; omega⟩
    · exact ⟨by unfold addI; simp only []; omega, by unfold addI; simp only []; omega, by unfold addI; simp only []; omega, by unfold addI; simp only []; omega⟩
/-- Where the roots of tailsureref.rootLog are behind i rounds. -/
structure RInv (B : Nat) (l : Nat → Rat) (i : Nat) (a : Int × Int) : Prop where
  has : Iv B a (Ev (fun M => l M / (Q i : Rat)))
  lo : Q B ≤ a.1
  le : a.1 ≤ a.2
  hi : (a.2 - Q B - 2) * Q i ≤ Q B
theorem Bdd.over {l : Nat → Rat} (h : Bdd l) (i : Nat) : Bdd (fun M => l M / (Q i : Rat)) := by
  obtain ⟨K, N, k0, hk⟩ := h
  have q := Qr_pos i
  refine ⟨K, N, k0, fun M hM => rdiv_AB q ((hk M hM).mono ?_)⟩
  have h1 : ((1 : Int) : Rat) ≤ (Q i : Rat) := cast_le (by have := Q_pos i; omega)
  have e1 : ((1 : Int) : Rat) = 1 := rfl
  rw [e1] at h1
  have := Rat.mul_nonneg (show 0 ≤ (Q i : Rat) - 1 by grind) k0
  grind
theorem rinv_start {B : Nat} {l : Nat → Rat} {a : Int × Int} (h : Iv B a (Ev l)) (h1 : Q B ≤ a.1) (h2 : a.1 ≤ a.2) (h3 : a.2 ≤ 2 * Q B) : RInv B l 0 a := by
  refine ⟨?_, h1, h2, ?_⟩
  · have e : (fun M => l M / (Q 0 : Rat)) = l := funext fun M => by
      have e0 : ((Q 0 : Int) : Rat) = 1 := rfl
      have := rdm (a := l M) (show (0 : Rat) < 1 by decide)
      rw [e0]; grind
    rw [e]; exact h
  · have e0 : Q 0 = 1 := rfl
    rw [e0]; omega
theorem root_half {q X t : Int} (hq : 0 < q) (hX : 0 ≤ X) (h0 : 0 ≤ t) (h : t * t ≤ (q + X) * q) : 2 * (t - q) ≤ X := by
  refine Int.not_lt.1 fun hn => ?_
  have h1 : 2 * q + X + 1 ≤ 2 * t := by omega
  have h2 := Int.mul_le_mul h1 h1 (by omega) (by omega)
  have e1 : 2 * t * (2 * t) = 4 * (t * t) := by grind
  have e2 : (2 * q + X + 1) * (2 * q + X + 1) = 4 * ((q + X) * q) + (X * X + 4 * q + 2 * X + 1) := by grind
  have h3 := Int.mul_nonneg hX hX
  omega
theorem rinv_step {B i : Nat} {l : Nat → Rat} {a : Int × Int} (hl : Bdd l) (h : RInv B l i a) {r t : Int} (hr0 : 0 ≤ r) (hr : r * r ≤ a.1 * Q B) (hr2 : a.1 * Q B < (r + 1) * (r + 1)) (ht0 : 0 ≤ t) (ht : t * t ≤ a.2 * Q B) (ht2 : a.2 * Q B < (t + 1) * (t + 1)) : RInv B l (i + 1) (r, t + 1) := by
  have q := Q_pos B
  obtain ⟨h1, h2, h3, h4⟩ := h
  refine ⟨?_, ?_, ?_, ?_⟩
  · have h5 := root_has (Bdd.over hl i) h1 (r := r) (t := t + 1) hr (by omega) (by omega)
    have e : (fun M => l M / (Q (i + 1) : Rat)) = fun M => l M / (Q i : Rat) / 2 := funext fun M => by
      have e2 : Q (i + 1) = 2 * Q i := rfl
      have e3 : ((2 : Int) : Rat) = 2 := rfl
      have qi := Qr_pos i
      have g1 := rdm (a := l M) qi
      rw [e2, Rat.intCast_mul, e3]
      have g2 := rdm (a := l M) (show (0 : Rat) < 2 * (Q i : Rat) by grind)
      generalize l M / (Q i : Rat) = U at *
      generalize l M / (2 * (Q i : Rat)) = V at *
      have g3 : (V - U / 2) * (Q i : Rat) = 0 := by grind
      rcases Rat.mul_eq_zero.1 g3 with g | g <;> grind
    rw [e]; exact h5
  · refine Int.not_lt.1 fun hn => ?_
    have h5 : r + 1 ≤ Q B := by simp only [] at hn; omega
    have h6 := Int.mul_le_mul h5 h5 (by omega) (by omega)
    have h7 := Int.mul_le_mul_of_nonneg_right h2 (show 0 ≤ Q B by omega)
    omega
  · simp only []
    refine Int.not_lt.1 fun hn => ?_
    have h5 : t + 2 ≤ r := by omega
    have h6 := Int.mul_le_mul (show t + 1 ≤ r by omega) (show t + 1 ≤ r by omega) (by omega) (by omega)
    have h7 := Int.mul_le_mul_of_nonneg_right h3 (show 0 ≤ Q B by omega)
    omega
  · have h5 := root_half (q := Q B) (X := a.2 - Q B) (t := t) (by omega) (by omega) ht0 (by
      have e : Q B + (a.2 - Q B) = a.2 := by omega
      rw [e]; exact ht)
    have e2 : Q (i + 1) = 2 * Q i := rfl
    have qi := Q_pos i
    have h6 := Int.mul_le_mul_of_nonneg_right (show 2 * (t + 1 - Q B - 2) ≤ a.2 - Q B - 2 by omega) (show 0 ≤ Q i by omega)
    have e3 : (t + 1 - Q B - 2) * (2 * Q i) = 2 * (t + 1 - Q B - 2) * Q i := by grind
    show (t + 1 - Q B - 2) * Q (i + 1) ≤ Q B
    rw [e2, e3]; omega
/-- Behind eight roots, less 1. -/
theorem rinv_end {B i : Nat} {l : Nat → Rat} {a : Int × Int} (hB : 10 ≤ B) (h : RInv B l i a) (q8 : Q i = 256) : Abs (a.1 - Q B, a.2 - Q B) (Q (B - 6)) ∧ a.1 - Q B ≤ a.2 - Q B ∧ Iv B (a.1 - Q B, a.2 - Q B) (fun M => Ev (fun M => l M / (Q i : Rat)) M - 1) ∧ ∃ N0, ∀ M, N0 ≤ M → AB (Ev (fun M => l M / (Q i : Rat)) M - 1) (1 / 2) := by
  obtain ⟨h1, h2, h3, h4⟩ := h
  have qB : Q B = 64 * Q (B - 6) := by
    have := Q_add (B - 6) 6
    rw [show B - 6 + 6 = B by omega] at this
    have e : Q 6 = 64 := rfl
    rw [this, e, Int.mul_comm]
  have q6 : 16 ≤ Q (B - 6) := by have := Q_mono (show 4 ≤ B - 6 by omega); have e : Q 4 = 16 := rfl; omega
  have hq := Qr_pos B
  have hab : Abs (a.1 - Q B, a.2 - Q B) (Q (B - 6)) := by
    rw [q8] at h4
    exact ⟨by simp only []; omega, by simp only []; omega, by simp only []; omega, by simp only []; omega⟩
  have hiv : Iv B (a.1 - Q B, a.2 - Q B) (fun M => Ev (fun M => l M / (Q i : Rat)) M - 1) := by
    have e1 : (Q B : Rat) / (Q B : Rat) = 1 := by rw [Rat.div_def, Rat.mul_inv_cancel _ (by grind)]
    have h5 : Iv B (Q B, Q B) (fun _ => (1 : Rat)) := by
      unfold Iv
      simp only []
      rw [e1]
      exact Has.const Rat.le_refl Rat.le_refl
    have h6 := h1.sub h5
    unfold subI at h6
    exact h6
  refine ⟨hab, by omega, hiv, ?_⟩
  obtain ⟨N, hN⟩ := hiv (1 / 4) (by grind)
  refine ⟨N, fun M hM => ?_⟩
  obtain ⟨g1, g2⟩ := hN M hM
  obtain ⟨a1, a2, a3, a4⟩ := hab
  simp only [] at a1 a2 a3 a4 g1 g2
  have c1 : (-(1 / 4) : Rat) ≤ ((a.1 - Q B : Int) : Rat) / (Q B : Rat) := by
    refine rle_div hq ?_
    have := cast_le (show -Q B ≤ 4 * (a.1 - Q B) by omega)
    rw [Rat.intCast_neg, Rat.intCast_mul, show ((4 : Int) : Rat) = 4 from rfl] at this
    grind
  have c2 : ((a.2 - Q B : Int) : Rat) / (Q B : Rat) ≤ 1 / 4 := by
    refine rdiv_le hq ?_
    have := cast_le (show 4 * (a.2 - Q B) ≤ Q B by omega)
    rw [Rat.intCast_mul, show ((4 : Int) : Rat) = 4 from rfl] at this
    grind
  constructor <;> grind
end Go.Proofs.Ytgmnknmjainabaa

namespace Go.Proofs.Ytgmnknmjainabaa
set_option linter.unusedVariables false
set_option linter.unusedSimpArgs false
set_option linter.unnecessarySimpa false
open Go.RowKit
attribute [local go_sem ↓] Go.wp_at_zero Go.wp_at_succ

theorem refLess_iv (w : World) (s t : Sp) (k b : Nat) (a c : Int × Int) (hs : SpAt w s k a.1 a.2) (ht : SpAt w t k c.1 c.2) (hk : k ≤ 700000000) (hb : s.bits = (b : Int)) :
    Calls Try.prog 35 #[.agg #[.bool s.ln, .slice s.la s.lN s.lc, .bool s.hn, .slice s.ha s.hN s.hc, .int .i64 s.bits], .agg #[.bool t.ln, .slice t.la t.lN t.lc, .bool t.hn, .slice t.ha t.hN t.hc, .int .i64 t.bits]] w (SpanAns w b (k + 1) (subI a c).1 (subI a c).2) :=
  (refLess_int w s t k a.1 a.2 c.1 c.2 hs ht hk).mono fun r w' h => by rw [hb] at h; exact h

theorem TwoP.drew {W wx : World} {b k1 k2 : Nat} {a c : Int × Int} {p q : Value} (h : TwoP W wx b k1 k2 a c p q) : TwoP W wx.drew b k1 k2 a c p q := by
  obtain ⟨B, B', x, y, h1, h2, h3, h4, h5, h6, h7, h8, h9, h10, h11, h12⟩ := h
  have hd : Below wx.heap.size wx wx.drew := (Below.refl _ _).drew
  exact ⟨B, B', x, y, h1, h2, h3, h4, h5, h6.below hd, h7.below hd, h8.below hd, h9.below hd, h10, h11, bthen h12 hd⟩
/-- Where tailsureref.nearLog is behind some rounds. -/
structure NearSt (w wr : World) (B5 B6 b K : Nat) (zz Pp Sm : Sp) (a pv sv : Int × Int) : Prop where
  z : SpC wr w.heap.size zz
  p : VrC wr B5 Pp
  s : VrC wr B6 Sm
  zp : SpAt wr zz K a.1 a.2
  pp : SpAt wr Pp K pv.1 pv.2
  sp : SpAt wr Sm K sv.1 sv.2
  pb : Pp.bits = (b : Int)
  sb : Sm.bits = (b : Int)
  no : NoC wr (w.heap.size + 1)
  be : Below w.heap.size w wr
  l1 : B5 ≠ w.heap.size + 1
  l2 : B6 ≠ w.heap.size + 1
  m1 : B5 ≠ w.heap.size
  m2 : B6 ≠ w.heap.size
  k1 : w.heap.size ≤ B5
  k2 : w.heap.size ≤ B6
  n : B5 ≠ B6
theorem NearSt.below {w wr wr' : World} {B5 B6 b K : Nat} {z Pp Sm : Sp} {a p s : Int × Int} (h : NearSt w wr B5 B6 b K z Pp Sm a p s) (hb : Below wr.heap.size wr wr') : NearSt w wr' B5 B6 b K z Pp Sm a p s :=
  ⟨h.z.below hb, h.p.below hb, h.s.below hb, h.zp.below hb, h.pp.below hb, h.sp.below hb, h.pb, h.sb, h.no.below hb, bthen h.be hb, h.l1, h.l2, h.m1, h.m2, h.k1, h.k2, h.n⟩

set_option maxRecDepth 100000 in
set_option maxHeartbeats 8000000 in
theorem nearLog_iv (w : World) (z : Sp) (k b K : Nat) (a : Int × Int) (hz : SpAt w z k a.1 a.2) (hbits : z.bits = (b : Int)) (hkK : k ≤ K) (hle : a.1 ≤ a.2) (ha : Abs a (Q b)) (hb : b ≤ 100000) (hb2 : 10 ≤ b) (hK : Q (b + 20) < P K) (hK2 : K ≤ 10000000) (hK4 : 4 ≤ K) :
    Calls Try.prog 142 #[.agg #[.bool z.ln, .slice z.la z.lN z.lc, .bool z.hn, .slice z.ha z.hN z.hc, .int .i64 z.bits]] w (fun r w' => ∃ N, N ≤ b + 20 ∧ (reachI (npT b a N) ≤ 1 ∨ b ≤ N + 1) ∧ SpanAns w b (K + 1) (addI (nsT b a N) (-2, 2)).1 (addI (nsT b a N) (-2, 2)).2 r w') := by
  obtain ⟨W, hW⟩ : ∃ W, W = (w.alloc (.cells #[.bool z.ln, .slice z.la z.lN z.lc, .bool z.hn, .slice z.ha z.hN z.hc, .int .i64 z.bits] 38)).alloc (.cells #[.bool false, .slice none 0 0, .bool false, .slice none 0 0, .int .i64 0] 38) := ⟨_, rfl⟩
  have hBW : Below w.heap.size w W := by rw [hW]; exact bl2 _ _ _
  have A : SpC W w.heap.size z := by rw [hW]; exact ⟨by simp [go_sem], by simp [go_sem], by simp [go_sem], by simp [go_sem], by simp [go_sem]⟩
  have R : NoC W (w.heap.size + 1) := by rw [hW]; exact ⟨by simp [go_sem], by simp [go_sem], by simp [go_sem], by simp [go_sem], by simp [go_sem], fun o => by simp [go_sem]⟩
  have HX := hide ((hz.below hBW).mono hkK)
  have HB := hide hbits
  have hQb := Q_pos b
  have hQK : Q b * 1048576 < P K := by
    have e : Q (b + 20) = Q b * Q 20 := Q_add b 20
    have e2 : Q 20 = 1048576 := rfl
    rw [e, e2] at hK; exact hK
  have lR := R.lt
  have lA := A.lt
  clear hz hbits
  go_enter Try.func142, Try.ntmps142
  go_wp2
  rw [← hW]
  clear hW
  have HK := hide (show ∀ w', Below W.heap.size W w' → (w'.cell? ⟨w.heap.size, 0, none⟩ = some (.bool z.ln) ∧ w'.cell? ⟨w.heap.size, 1, none⟩ = some (.slice z.la z.lN z.lc) ∧ w'.cell? ⟨w.heap.size, 2, none⟩ = some (.bool z.hn) ∧ w'.cell? ⟨w.heap.size, 3, none⟩ = some (.slice z.ha z.hN z.hc) ∧ w'.cell? ⟨w.heap.size, 4, none⟩ = some (.int .i64 z.bits)) from fun w' hB => ⟨(A.below hB).c0, (A.below hB).c1, (A.below hB).c2, (A.below hB).c3, (A.below hB).c4⟩)
  obtain ⟨x0, x1, x2, x3, x4⟩ := unhide HK _ (Below.refl _ _)
  have hD0 : Below W.heap.size W W.drew := (Below.refl _ _).drew
  have HX0 := hide ((unhide HX).below hD0)
  go_cut [3, 4] (fun p q wx => TwoP W wx b K K a a p q)
  case first =>
    go_region_held3 (fun w' => w'.cell? ⟨w.heap.size, 0, none⟩ = some (.bool z.ln) ∧ w'.cell? ⟨w.heap.size, 1, none⟩ = some (.slice z.la z.lN z.lc) ∧ w'.cell? ⟨w.heap.size, 2, none⟩ = some (.bool z.hn) ∧ w'.cell? ⟨w.heap.size, 3, none⟩ = some (.slice z.ha z.hN z.hc) ∧ w'.cell? ⟨w.heap.size, 4, none⟩ = some (.int .i64 z.bits)) (exact unhide HK _ (by repeat' (first | with_reducible exact hD0 | with_reducible exact Below.refl _ _ | with_reducible refine Below.drew ?_ | with_reducible refine balloc ?_ _ | with_reducible refine Below.setCell ?_ (by first | with_reducible exact Nat.le_refl _ | with_reducible exact Nat.le_succ _) _)))
      (fail)
    all_goals
      go_wp2_with fail
      go_meet
      first
        | with_reducible exact (twoP_aa (x := z) (y := z) (Below.refl _ _) (unhide HX) (unhide HX) (unhide HB) (unhide HB)).drew
        | with_reducible exact (twoP_aa' (x := z) (y := z) (Below.refl _ _) (unhide HX) (unhide HX) (unhide HB) (unhide HB)).drew
  case rest =>
  obtain ⟨BU, CU, xU, yU, rfl, rfl, hHU, hJU, hneU, XU, YU, hxU, hyU, bxU, byU, hblU⟩ := hcut
  have hz1 : 0 ≤ z.bits := by have := unhide HB; omega
  have hz2 : z.bits ≤ 100000 := by have := unhide HB; omega
  have st0 : NearSt w wc BU CU b K z xU yU a (npT b a 0) (nsT b a 0) := ⟨A.below hblU, XU, YU, (unhide HX).below hblU, hxU, hyU, bxU, byU, R.below hblU, bthen hBW hblU, by omega, by omega, by omega, by omega, by omega, by omega, hneU⟩
  have HFIT : Hid (∀ j, -P K < (npT b a j).1 ∧ (npT b a j).2 < P K) := hide (fun j => by
    obtain ⟨g1, g2, g3, g4⟩ := npT_abs ha j
    omega)
  have HFITC : Hid (∀ j, -P K < (scaleI (npT b a (j + 1)) 1 ((j : Int) + 2)).1 ∧ (scaleI (npT b a (j + 1)) 1 ((j : Int) + 2)).2 < P K) := hide (fun j => by
    obtain ⟨g1, g2, g3, g4⟩ := scaleI_abs (n := 1) (d := (j : Int) + 2) (npT_abs ha (j + 1)) (by omega) (by omega) (by omega)
    omega)
  have HFITS : Hid (∀ j, j ≤ b + 20 → -P K < (nsT b a j).1 ∧ (nsT b a j).2 < P K) := hide (fun j hj => by
    obtain ⟨g1, g2, g3, g4⟩ := nsT_abs ha j
    have := Int.mul_le_mul_of_nonneg_right (show (j : Int) + 1 ≤ 1048575 by omega) (show 0 ≤ Q b by omega)
    omega)
  have HZB := hide (And.intro hz1 hz2)
  clear bxU byU hxU hyU HX HX0 HK A x0 x1 x2 x3 x4 XU YU R hD0 hQK
  go_wp2_with fail
  go_loopw [5] (fun nn wr => ∃ (i : Nat) (Pp Sm : Sp), nn = .int .i64 ((i : Int) + 2) ∧ i ≤ b + 18 ∧ NearSt w wr BU CU b K z Pp Sm a (npT b a i) (nsT b a i)) (fun nn _ => b + 30 - (intOf nn).toNat)
  case atStart => exact ⟨0, xU, yU, rfl, by omega, st0⟩
  case round =>
    obtain ⟨i, Pp, Sm, rfl, hi, st⟩ := hrel
    clear st0
    have lz := st.z.lt
    have lp := st.p.lt
    by_cases hlim : (i : Int) + 2 < z.bits + 20
    · have hi2 : i + 1 ≤ b + 18 := by have := unhide HB; omega
      obtain ⟨x0, x1, x2, x3, x4⟩ := st.z
      obtain ⟨⟨y0, y1, y2, y3, y4⟩, y5⟩ := st.p
      go_wp2_with fail
      refine (refSmall _ Pp K 1 _ _ st.pp (by omega) (by omega)).mono ?_
      rintro r w1 ⟨rfl, hb1⟩
      rw [small_reach]
      have er : reachI ((npT b a i).1, (npT b a i).2) = reachI (npT b a i) := rfl
      rw [er]
      replace st := st.below hb1
      clear hb1 er x0 x1 x2 x3 x4 y0 y1 y2 y3 y4 y5 lz lp
      by_cases hr : reachI (npT b a i) ≤ 1
      · have HE : Hid (reachI (npT b a i) ≤ 1 ∨ b ≤ i + 1) := hide (Or.inl hr)
        rw [decide_eq_true hr]
        clear hr
        have ls6 := st.s.lt
        obtain ⟨⟨z0, z1, z2, z3, z4⟩, z5⟩ := st.s
        go_wp2_with fail
        refine (refTail _ Sm K 2 _ _ st.sp (by omega) (by omega) (by omega) (by omega)).mono ?_
        rintro r w7 ⟨v7, rfl, hvb7, hvp7, hb7⟩
        obtain ⟨q0, q1, q2, q3, q4, q5⟩ := st.no.below hb7
        have hBf := bthen st.be hb7
        have HV7 := hide (hvb7.trans st.sb)
        clear hvb7 hb7
        go_wp2_with fail
        refine bodyPost_ret (v := .agg #[.bool v7.ln, .slice v7.la v7.lN v7.lc, .bool v7.hn, .slice v7.ha v7.hN v7.hc, .int .i64 v7.bits]) (by simp [results, Try.results142, go_sem, q0, q1, q2, q3, q4]) rfl ⟨i, by omega, unhide HE, v7, rfl, unhide HV7, ?_, ?_⟩
        · exact SpAt.put5 hvp7 q0 q1 q2 q3 q4 _ _ _ _ _
        · exact set5 hBf (Nat.le_succ _) _ _ _ _ _
      · rw [decide_eq_false hr]
        clear hr
        have lz := st.z.lt
        have lp := st.p.lt
        obtain ⟨x0, x1, x2, x3, x4⟩ := st.z
        obtain ⟨⟨y0, y1, y2, y3, y4⟩, y5⟩ := st.p
        go_wp2_with fail
        refine (refTimes_iv _ Pp z K b (npT b a i) a st.pp st.zp (by omega) st.pb (by omega)).mono ?_
        rintro r w2 ⟨v1, rfl, hvb1, hvp1, hb2⟩
        have e1 : mulI b (npT b a i) a = npT b a (i + 1) := rfl
        rw [e1] at hvp1
        replace hvp1 := hvp1.fits (K := K) (npT_le hle (i + 1)) (unhide HFIT _).1 (unhide HFIT _).2
        replace st := st.below hb2
        have HV1 := hide hvb1
        clear hb2 hvb1 e1 x0 x1 x2 x3 x4 y0 y1 y2 y3 y4 y5 lz lp
        have stn : NearSt w (put5w w2 BU v1) BU CU b K z v1 Sm a (npT b a (i + 1)) (nsT b a i) := ⟨st.z.off (Ne.symm st.m1) v1, st.p.put v1, st.s.off (Ne.symm st.n) v1, st.zp.put st.p.c v1, hvp1.put st.p.c v1, st.sp.put st.p.c v1, unhide HV1, st.sb, st.no.off (Ne.symm st.l1) v1, below_put st.be st.k1 v1, st.l1, st.l2, st.m1, st.m2, st.k1, st.k2, st.n⟩
        have lp := st.p.lt
        obtain ⟨⟨y0, y1, y2, y3, y4⟩, y5⟩ := st.p
        clear st hvp1
        obtain ⟨V1, hV1⟩ : ∃ V1, V1 = put5w w2 BU v1 := ⟨_, rfl⟩
        rw [← hV1] at stn
        unfold put5w at hV1
        go_wp2_with fail
        rw [← hV1]
        clear hV1 y0 y1 y2 y3 y4 y5 lp
        have st := stn
        clear stn
        have lp := st.p.lt
        have HPP := hide st.pp
        have HPB := hide st.pb
        have HKT := hide (show ∀ w', Below V1.heap.size V1 w' → (w'.cell? ⟨BU, 0, none⟩ = some (.bool v1.ln) ∧ w'.cell? ⟨BU, 1, none⟩ = some (.slice v1.la v1.lN v1.lc) ∧ w'.cell? ⟨BU, 2, none⟩ = some (.bool v1.hn) ∧ w'.cell? ⟨BU, 3, none⟩ = some (.slice v1.ha v1.hN v1.hc) ∧ w'.cell? ⟨BU, 4, none⟩ = some (.int .i64 v1.bits)) from fun w' hB => ⟨(st.p.below hB).c.c0, (st.p.below hB).c.c1, (st.p.below hB).c.c2, (st.p.below hB).c.c3, (st.p.below hB).c.c4⟩)
        obtain ⟨y0, y1, y2, y3, y4⟩ := unhide HKT _ (Below.refl _ _)
        go_cut [6] (fun p wx => ∃ (B : Nat) (u : Sp), p = .pointer (some ⟨B, 0, none⟩) ∧ V1.heap.size ≤ B ∧ VrC wx B u ∧ SpAt wx u K (scaleI (npT b a (i + 1)) 1 ((i : Int) + 2)).1 (scaleI (npT b a (i + 1)) 1 ((i : Int) + 2)).2 ∧ u.bits = (b : Int) ∧ Below V1.heap.size V1 wx)
        case first =>
          go_region_held3 (fun w' => w'.cell? ⟨BU, 0, none⟩ = some (.bool v1.ln) ∧ w'.cell? ⟨BU, 1, none⟩ = some (.slice v1.la v1.lN v1.lc) ∧ w'.cell? ⟨BU, 2, none⟩ = some (.bool v1.hn) ∧ w'.cell? ⟨BU, 3, none⟩ = some (.slice v1.ha v1.hN v1.hc) ∧ w'.cell? ⟨BU, 4, none⟩ = some (.int .i64 v1.bits)) (exact unhide HKT _ (by repeat' (first | with_reducible exact hBT3 | with_reducible exact hBT2 | with_reducible exact hBT1 | with_reducible exact Below.refl _ _ | with_reducible refine Below.drew ?_ | with_reducible refine balloc ?_ _ | with_reducible refine Below.setCell ?_ (by first | exact Nat.le_refl _ | exact hlT1 | exact hlT2 | exact hlT3) _)))
            (first
              | (go_at_call 64; have hq := hBT2; refine (refBy _ v1 ⟨negT1, aT1, nT1, cT1⟩ ⟨negT2, aT2, nT2, cT2⟩ K _ _ b (npT b a (i + 1)) 1 ((i : Int) + 2) ((unhide HPP).below (by first | with_reducible exact hBT2 | with_reducible exact balloc hBT2 _)) (hintT1.below (by first | with_reducible exact Below.refl _ _ | with_reducible exact bl1 _ _)) (hintT2.below (by first | with_reducible exact Below.refl _ _ | with_reducible exact bl1 _ _)) (by omega) (by omega) (by omega) (by omega) (unhide HPB)).mono ?_; rintro r wT3 ⟨vT3, rfl, hvbT3, hintT3, hbT3⟩; have HVBT3 := hide hvbT3; clear hvbT3; have hCT3 : Below wT2.heap.size wT2 wT3 := (by first | with_reducible exact hbT3 | with_reducible exact bthen (bl1 _ _) hbT3); have hBT3 := bthen hBT2 hCT3; (try with_reducible have gT3 := (noc_new wT2 38).below hbT3); replace hintT1 := hintT1.below hCT3; (try replace gT1 := gT1.below hCT3); replace hintT2 := hintT2.below hCT3; (try replace gT2 := gT2.below hCT3); have hlT3 := hBT3.size; (try have mT1 := gT1.lt); (try have eT1 := Nat.ne_of_lt mT1); (try have eT1' := Nat.ne_of_gt mT1); (try obtain ⟨zT10, zT11, zT12, zT13, zT14, zT15⟩ := gT1); (try have mT2 := gT2.lt); (try have eT2 := Nat.ne_of_lt mT2); (try have eT2' := Nat.ne_of_gt mT2); (try obtain ⟨zT20, zT21, zT22, zT23, zT24, zT25⟩ := gT2); (try have mT3 := gT3.lt); (try have eT3 := Nat.ne_of_lt mT3); (try have eT3' := Nat.ne_of_gt mT3); (try obtain ⟨zT30, zT31, zT32, zT33, zT34, zT35⟩ := gT3))
              | (go_at_call 62; have hq := hBT1; refine (numOf_int ((i : Int) + 2) _ (by omega) (by omega)).mono ?_; rintro r wT2 ⟨negT2, aT2, nT2, cT2, rfl, hintT2, hbT2⟩; have hCT2 : Below wT1.heap.size wT1 wT2 := (by first | with_reducible exact hbT2 | with_reducible exact bthen (bl1 _ _) hbT2); have hBT2 := bthen hBT1 hCT2; (try with_reducible have gT2 := (noc_new wT1 38).below hbT2); replace hintT1 := hintT1.below hCT2; (try replace gT1 := gT1.below hCT2); have hlT2 := hBT2.size)
              | (go_at_call 62; refine (numOf_int 1 _ (by decide) (by decide)).mono ?_; rintro r wT1 ⟨negT1, aT1, nT1, cT1, rfl, hintT1, hbT1⟩; have hBT1 : Below V1.heap.size V1 wT1 := (by first | with_reducible exact bthen (Below.refl _ _).drew hbT1 | with_reducible exact bthen (bl1 _ _).drew hbT1); (try with_reducible have gT1 := ((noc_new V1 38).below (Below.refl _ _).drew).below hbT1); have hlT1 := hBT1.size))
          all_goals
            have hfinT : SpAt wT3 vT3 K (scaleI (npT b a (i + 1)) 1 ((i : Int) + 2)).1 (scaleI (npT b a (i + 1)) 1 ((i : Int) + 2)).2 := (by rw [byI_nonneg (npT_le hle (i + 1)) (by omega)] at hintT3; exact hintT3.fits (K := K) (scaleI_le (npT_le hle (i + 1)) (by omega) (by omega)) (unhide HFITC i).1 (unhide HFITC i).2)
            go_wp2_with fail
            go_meet
            refine ⟨_, vT3, rfl, ?_, ⟨⟨?_, ?_, ?_, ?_, ?_⟩, ?_⟩, ?_, unhide HVBT3, ?_⟩
            · first | exact Nat.le_refl _ | exact hlT1 | exact hlT2 | exact hlT3
            · simp [go_sem, *]
            · simp [go_sem, *]
            · simp [go_sem, *]
            · simp [go_sem, *]
            · simp [go_sem, *]
            · intro o; simp [go_sem, *]
            · first | with_reducible exact hfinT.below (bl1 _ _) | with_reducible exact SpAt.put5 hfinT (by assumption) (by assumption) (by assumption) (by assumption) (by assumption) _ _ _ _ _
            · repeat' (first | with_reducible exact hBT3 | with_reducible exact hBT2 | with_reducible exact hBT1 | with_reducible exact Below.refl _ _ | with_reducible refine Below.drew ?_ | with_reducible refine balloc ?_ _ | with_reducible refine Below.setCell ?_ (by first | exact Nat.le_refl _ | exact hlT1 | exact hlT2 | exact hlT3) _)
        case rest =>
        obtain ⟨BT, xT, rfl, hHT, XT, hpT, hxbT, hblT⟩ := hcut
        replace st := st.below hblT
        clear y0 y1 y2 y3 y4 HKT HPP HPB lp
        have HXB := hide hxbT
        clear hxbT
        have lT := XT.lt
        have ls := st.s.lt
        obtain ⟨⟨y0, y1, y2, y3, y4⟩, y5⟩ := st.s
        obtain ⟨⟨t0, t1, t2, t3, t4⟩, t5⟩ := XT
        by_cases hpar : (i + 2) % 2 = 0
        · have HE5 := hide (show subI (nsT b a i) (scaleI (npT b a (i + 1)) 1 ((i : Int) + 2)) = nsT b a (i + 1) by rw [nsT, if_pos hpar])
          have hm1 : ((i : Int) + 2) % 2 = 0 := by omega
          have hm2 : ((i : Int) + 2).tmod 2 = 0 := by rw [Int.tmod_eq_emod_of_nonneg (by omega)]; omega
          clear hpar
          go_wp2_with fail
          clear y0 y1 y2 y3 y4 y5 t0 t1 t2 t3 t4 t5 hm1 hm2
          refine (refLess_iv _ Sm xT K b (nsT b a i) (scaleI (npT b a (i + 1)) 1 ((i : Int) + 2)) st.sp hpT (by omega) st.sb).mono ?_
          rintro r w5 ⟨v5, rfl, hvb5, hvp5, hb5⟩
          rw [unhide HE5] at hvp5
          replace hvp5 := hvp5.fits (K := K) (nsT_le hle (i + 1)) (unhide HFITS (i + 1) (by omega)).1 (unhide HFITS (i + 1) (by omega)).2
          replace st := st.below hb5
          have HV5 := hide hvb5
          clear hb5 hvb5 hpT
          have stn : NearSt w (put5w w5 CU v5) BU CU b K z v1 v5 a (npT b a (i + 1)) (nsT b a (i + 1)) := ⟨st.z.off (Ne.symm st.m2) v5, st.p.off st.n v5, st.s.put v5, st.zp.put st.s.c v5, st.pp.put st.s.c v5, hvp5.put st.s.c v5, st.pb, unhide HV5, st.no.off (Ne.symm st.l2) v5, below_put st.be st.k2 v5, st.l1, st.l2, st.m1, st.m2, st.k1, st.k2, st.n⟩
          have ls5 := st.s.lt
          obtain ⟨⟨y0, y1, y2, y3, y4⟩, y5⟩ := st.s
          clear st hvp5
          obtain ⟨V6, hV6⟩ : ∃ V6, V6 = put5w w5 CU v5 := ⟨_, rfl⟩
          rw [← hV6] at stn
          unfold put5w at hV6
          go_wp2_with fail
          rw [← hV6]
          clear hV6 y0 y1 y2 y3 y4 y5
          go_roundw
          case rel => exact ⟨i + 1, v1, v5, by go_num, by omega, stn⟩
          case measure => simp [intOf]; omega
        · have HE5 := hide (show addI (nsT b a i) (scaleI (npT b a (i + 1)) 1 ((i : Int) + 2)) = nsT b a (i + 1) by rw [nsT, if_neg hpar])
          have hm1 : ((i : Int) + 2) % 2 = 1 := by omega
          have hm2 : ((i : Int) + 2).tmod 2 = 1 := by rw [Int.tmod_eq_emod_of_nonneg (by omega)]; omega
          clear hpar
          go_wp2_with fail
          clear y0 y1 y2 y3 y4 y5 t0 t1 t2 t3 t4 t5 hm1 hm2
          refine (refPlus_iv _ Sm xT K b (nsT b a i) (scaleI (npT b a (i + 1)) 1 ((i : Int) + 2)) st.sp hpT (by omega) st.sb).mono ?_
          rintro r w5 ⟨v5, rfl, hvb5, hvp5, hb5⟩
          rw [unhide HE5] at hvp5
          replace hvp5 := hvp5.fits (K := K) (nsT_le hle (i + 1)) (unhide HFITS (i + 1) (by omega)).1 (unhide HFITS (i + 1) (by omega)).2
          replace st := st.below hb5
          have HV5 := hide hvb5
          clear hb5 hvb5 hpT
          have stn : NearSt w (put5w w5 CU v5) BU CU b K z v1 v5 a (npT b a (i + 1)) (nsT b a (i + 1)) := ⟨st.z.off (Ne.symm st.m2) v5, st.p.off st.n v5, st.s.put v5, st.zp.put st.s.c v5, st.pp.put st.s.c v5, hvp5.put st.s.c v5, st.pb, unhide HV5, st.no.off (Ne.symm st.l2) v5, below_put st.be st.k2 v5, st.l1, st.l2, st.m1, st.m2, st.k1, st.k2, st.n⟩
          have ls5 := st.s.lt
          obtain ⟨⟨y0, y1, y2, y3, y4⟩, y5⟩ := st.s
          clear st hvp5
          obtain ⟨V6, hV6⟩ : ∃ V6, V6 = put5w w5 CU v5 := ⟨_, rfl⟩
          rw [← hV6] at stn
          unfold put5w at hV6
          go_wp2_with fail
          rw [← hV6]
          clear hV6 y0 y1 y2 y3 y4 y5
          go_roundw
          case rel => exact ⟨i + 1, v1, v5, by go_num, by omega, stn⟩
          case measure => simp [intOf]; omega
    · have HE : Hid (reachI (npT b a i) ≤ 1 ∨ b ≤ i + 1) := hide (Or.inr (by have := unhide HB; omega))
      obtain ⟨x0, x1, x2, x3, x4⟩ := st.z
      have ls6 := st.s.lt
      obtain ⟨⟨z0, z1, z2, z3, z4⟩, z5⟩ := st.s
      go_wp2_with fail
      refine (refTail _ Sm K 2 _ _ st.sp (by omega) (by omega) (by omega) (by omega)).mono ?_
      rintro r w7 ⟨v7, rfl, hvb7, hvp7, hb7⟩
      obtain ⟨q0, q1, q2, q3, q4, q5⟩ := st.no.below hb7
      have hBf := bthen st.be hb7
      have HV7 := hide (hvb7.trans st.sb)
      clear hvb7 hb7
      go_wp2_with fail
      refine bodyPost_ret (v := .agg #[.bool v7.ln, .slice v7.la v7.lN v7.lc, .bool v7.hn, .slice v7.ha v7.hN v7.hc, .int .i64 v7.bits]) (by simp [results, Try.results142, go_sem, q0, q1, q2, q3, q4]) rfl ⟨i, by omega, unhide HE, v7, rfl, unhide HV7, ?_, ?_⟩
      · exact SpAt.put5 hvp7 q0 q1 q2 q3 q4 _ _ _ _ _
      · exact set5 hBf (Nat.le_succ _) _ _ _ _ _
end Go.Proofs.Ytgmnknmjainabaa

namespace Go.Proofs.Ytgmnknmjainabaa
set_option linter.unusedVariables false
open Ex

theorem bal_isLog {n d n' d' k : Int} {l1 l2 : Nat → Rat} (hd : 0 < d) (h : Bal n d n' d' k) (i1 : IsLog l1 (fun _ => (n' : Rat) / (d' : Rat))) (i2 : IsLog l2 (fun _ => (2 : Rat))) :
    IsLog (fun M => l1 M + (k : Rat) * l2 M) (fun _ => (n : Rat) / (d : Rat)) := by
  obtain ⟨h1, h2, h3⟩ := h
  have d0 : (0 : Rat) < (d : Rat) := by exact_mod_cast hd
  have d0' : (0 : Rat) < (d' : Rat) := by exact_mod_cast h1.hd
  by_cases hk : k < 0
  · obtain ⟨j, rfl⟩ : ∃ j : Nat, k = -(j : Int) := ⟨(-k).toNat, by omega⟩
    have hq := h3 hk
    have ej : (-(-(j : Int))).toNat = j := by omega
    rw [ej] at hq
    have qj := Qr_pos j
    have l3 := (i2.times j).neg (s := fun _ => 1 / (Q j : Rat)) (Bdd.const _) 0 (fun M _ => by rw [pw_Q]; exact rdm qj)
    refine ((i1.add l3).congr_r (null_zero.of_eq fun M => ?_)).congr (null_zero.of_eq fun M => ?_)
    · show (n' : Rat) / (d' : Rat) * (1 / (Q j : Rat)) - (n : Rat) / (d : Rat) = 0
      have hq2 : ((n * d' * Q j : Int) : Rat) = ((n' * d : Int) : Rat) := by rw [hq]
      rw [Rat.intCast_mul, Rat.intCast_mul, Rat.intCast_mul] at hq2
      have f1 := rdm (a := (n' : Rat)) d0'
      have f2 := rdm (a := (n : Rat)) d0
      have f3 := rdm (a := (1 : Rat)) qj
      generalize (n' : Rat) / (d' : Rat) = r' at *
      generalize (n : Rat) / (d : Rat) = r at *
      generalize 1 / (Q j : Rat) = i at *
      rw [← f1, ← f2] at hq2
      have f4 : (d : Rat) * ((d' : Rat) * (r * (Q j : Rat) - r')) = 0 := by grind
      have f5 : r * (Q j : Rat) = r' := by
        rcases Rat.mul_eq_zero.1 f4 with h | h
        · grind
        · rcases Rat.mul_eq_zero.1 h with h | h
          · grind
          · grind
      rw [← f5]
      have : r * (Q j : Rat) * i - r = r * (i * (Q j : Rat)) - r := by grind
      rw [this, f3]; grind
    · have e : ((-(j : Int) : Int) : Rat) = -(j : Rat) := by rw [Rat.intCast_neg]; rfl
      rw [e]; grind
  · obtain ⟨j, rfl⟩ : ∃ j : Nat, k = (j : Int) := ⟨k.toNat, by omega⟩
    have hq := h2 (by omega)
    have ej : ((j : Int)).toNat = j := by omega
    rw [ej] at hq
    have l3 := i2.times j
    refine (i1.add l3).congr_r (null_zero.of_eq fun M => ?_)
    show (n' : Rat) / (d' : Rat) * pw 2 j - (n : Rat) / (d : Rat) = 0
    rw [pw_Q]
    have hq2 : ((n * d' : Int) : Rat) = ((n' * d * Q j : Int) : Rat) := by rw [hq]
    rw [Rat.intCast_mul, Rat.intCast_mul, Rat.intCast_mul] at hq2
    have f1 := rdm (a := (n' : Rat)) d0'
    have f2 := rdm (a := (n : Rat)) d0
    generalize (n' : Rat) / (d' : Rat) = r' at *
    generalize (n : Rat) / (d : Rat) = r at *
    rw [← f1, ← f2] at hq2
    have f4 : (d : Rat) * ((d' : Rat) * (r' * (Q j : Rat) - r)) = 0 := by grind
    rcases Rat.mul_eq_zero.1 f4 with h | h
    · grind
    · rcases Rat.mul_eq_zero.1 h with h | h
      · grind
      · exact h
theorem rootLog_has {B N i : Nat} {l : Nat → Rat} {a z : Int × Int} (hl : Bdd l) (hB : 10 ≤ B) (h : RInv B l i a) (q8 : Q i = 256) (hz : z = (a.1 - Q B, a.2 - Q B)) (hN : reachI (npT B z N) ≤ 1 ∨ B ≤ N + 1) : Iv B (scaleI (addI (nsT B z N) (-2, 2)) 256 1) l := by
  subst hz
  obtain ⟨h1, h2, h3, N0, h4⟩ := rinv_end hB h q8
  have h5 := near_log (Bdd.over hl i) h3 N0 h4 hN
  refine (h5.scale (n := 256) (d := 1) (by omega) (by omega)).congr (null_zero.of_eq fun M => ?_)
  rw [q8]
  have e1 : ((1 : Int) : Rat) = 1 := rfl
  have e2 : ((256 : Int) : Rat) = 256 := rfl
  rw [e1, e2]
  have f1 := rdm (a := l M) (show (0 : Rat) < 256 by decide)
  have f2 := rdm (a := (256 : Rat)) (show (0 : Rat) < 1 by decide)
  generalize l M / 256 = U at *
  generalize (256 : Rat) / 1 = V at *
  have : V = 256 := by grind
  rw [this]; grind
end Go.Proofs.Ytgmnknmjainabaa

namespace Go.Proofs.Ytgmnknmjainabaa
set_option linter.unusedVariables false
open Go

section
variable {Pg : Program} {ops : Array Oper} {Q : Exit → Act → World → Prop} {md : Region.Mode} {S : World → Prop} {l : Nat}

/-- Whatever order is picked from here on, and S holds behind every operation but the one of number l. -/
def AnyL (Pg : Program) (md : Region.Mode) (ops : Array Oper) (Q : Exit → Act → World → Prop) (S : World → Prop) (l : Nat) : Nat → Array Bool → Act → World → Prop
  | 0, listed, a, w => Region.ready md ops listed = [] ∧ Q .normal a w
  | fuel + 1, listed, a, w =>
    (Region.ready md ops listed = [] → Q .normal a w) ∧
    ∀ i ∈ Region.ready md ops listed, wpOp Pg ops Q i (fun a' w' => (i ≠ l → S w') ∧ AnyL Pg md ops Q S l fuel (listed.setIfInBounds i true) a' w') a w

theorem AnyL.any : ∀ (fuel : Nat) (listed : Array Bool) (a : Act) (w : World), AnyL Pg md ops Q S l fuel listed a w → wpAny Pg md ops Q fuel listed a w
  | 0, _, _, _, h => h
  | fuel + 1, _, _, _, h => ⟨h.1, fun i hi => wpOp_mono (fun a' w' h' => AnyL.any fuel _ a' w' h'.2) (h.2 i hi)⟩

/-- Number l waits for number i. -/
def waits (md : Region.Mode) (ops : Array Oper) (l i : Nat) : Bool :=
  match ops[l]? with
  | some o => o.after.any (fun e => Region.binds md e && e.on == i)
  | none => false

theorem waits_not {i : Nat} {listed : Array Bool} (hw : waits md ops l i = true) (hi : i ∈ Region.ready md ops listed) (hl : l ∈ Region.ready md ops listed) : False := by
  obtain ⟨_, ol, hol, hall⟩ := mem_ready.1 hl
  obtain ⟨h0, oi, hoi, _⟩ := mem_ready.1 hi
  unfold waits at hw
  rw [hol] at hw
  simp only [Array.any_eq_true'] at hw
  obtain ⟨e, he, h2⟩ := hw
  simp only [Bool.and_eq_true, beq_iff_eq] at h2
  have h1 := hall e he h2.1
  rw [h2.2] at h1
  rcases Nat.lt_or_ge i listed.size with h' | h'
  · simp [h'] at h0 h1; rw [h0] at h1; cases h1
  · simp [Array.getElem?_eq_none h'] at h1

theorem AnyL.first {i : Nat} {oi : Oper} {v : Value} (hi : ops[i]? = some oi) (hsel : ∀ (j : Nat) (o : Oper) cs b, ops[j]? = some o → o.op ≠ .select cs b)
    (hQ : ∀ c a w, Q (.panic c) (a.put oi.dst v) w → Q (.panic c) a w) (hwt : waits md ops l i = true) :
    ∀ (fuel : Nat) (listed : Array Bool) (a : Act) (w : World),
      (∀ j oj, ops[j]? = some oj → j ≠ i → listed.getD j true = false → (∀ e ∈ oj.after, Region.binds md e = true → e.on ≠ i) → oi.apart ops oj = true) →
      i ∈ Region.ready md ops listed → YieldsIf Pg ops S oi v a → S w →
      AnyL Pg md ops Q S l fuel (listed.setIfInBounds i true) (a.put oi.dst v) w → AnyL Pg md ops Q S l (fuel + 1) listed a w := by
  intro fuel
  induction fuel with
  | zero =>
    intro listed a w _ hr hy hS H
    refine ⟨fun h => (by rw [h] at hr; cases hr), fun j hj => ?_⟩
    by_cases hji : j = i
    · subst hji; exact hy.wpOp hi hS ⟨fun _ => hS, H⟩
    · have := ready_mono hj hji
      rw [H.1] at this
      cases this
  | succ fuel ih =>
    intro listed a w hfree hr hy hS H
    refine ⟨fun h => (by rw [h] at hr; cases hr), fun j hj => ?_⟩
    by_cases hji : j = i
    · subst hji; exact hy.wpOp hi hS ⟨fun _ => hS, H⟩
    · have hjl : j ≠ l := fun h => waits_not hwt hr (h ▸ hj)
      have h1 := H.2 j (ready_mono hj hji)
      obtain ⟨hjun, oj, hoj, hall⟩ := mem_ready.1 hj
      have hnot : ∀ e ∈ oj.after, Region.binds md e = true → e.on ≠ i := fun e he hb heq => by
        have h1 := hall e he hb
        have h0 := (mem_ready.1 hr).1
        rw [heq] at h1
        rcases Nat.lt_or_ge i listed.size with h' | h'
        · simp [h'] at h0 h1; rw [h0] at h1; cases h1
        · simp [Array.getElem?_eq_none h'] at h1
      have h2 := wpOp_putIf hoj (hfree j oj hoj hji hjun hnot) (fun cs b => hsel i oi cs b hi) (fun cs b => hsel j oj cs b hoj) hQ hy h1
      have hfree' : ∀ k ok, ops[k]? = some ok → k ≠ i → (listed.setIfInBounds j true).getD k true = false →
          (∀ e ∈ ok.after, Region.binds md e = true → e.on ≠ i) → oi.apart ops ok = true := fun k ok hk hki hun hno => by
        refine hfree k ok hk hki ?_ hno
        by_cases hjk : j = k
        · subst hjk; exact hjun
        · rw [getD_set_ne true hjk] at hun; exact hun
      refine wpOp_mono (fun a' w' h3 => ⟨fun _ => h3.2.1 hjl, ih (listed.setIfInBounds j true) a' w' hfree' (ready_mono hr (Ne.symm hji)) h3.1 (h3.2.1 hjl) ?_⟩) h2
      rw [Array.setIfInBounds_comm _ _ hji]
      exact h3.2.2

/-- Take number i first: it yields v in every world that meets S. -/
theorem AnyL.take {i : Nat} {oi : Oper} {v : Value} {fuel : Nat} {listed : Array Bool} {a : Act} {w : World} (hi : ops[i]? = some oi)
    (hs : Region.noSelect ops = true) (hf : Region.free md ops listed i = true) (hr : (Region.ready md ops listed).contains i = true) (hwt : waits md ops l i = true)
    (hQ : ∀ c a w, Q (.panic c) (a.put oi.dst v) w → Q (.panic c) a w) (hy : YieldsIf Pg ops S oi v a) (hS : S w)
    (h : AnyL Pg md ops Q S l fuel (listed.setIfInBounds i true) (a.put oi.dst v) w) : AnyL Pg md ops Q S l (fuel + 1) listed a w :=
  AnyL.first hi (Region.noSelect_spec hs) hQ hwt fuel listed a w (Region.free_spec hi hf) (by simpa using hr) hy hS h

/-- Just number i may come up, and it is not l. -/
theorem AnyL.one {i : Nat} {o : Oper} {fuel : Nat} {listed : Array Bool} {a : Act} {w : World} (hr : Region.ready md ops listed = [i]) (ho : ops[i]? = some o)
    (h : ∀ K' : Act → World → Prop, Shut (∀ a w, S w → (S w → AnyL Pg md ops Q S l fuel (listed.setIfInBounds i true) a w) → K' a w) → if Region.wanted o (yielded ops a.tmps) = true then Oper.wp Pg o a w K' Q else K' (a.put o.dst undef) w) :
    AnyL Pg md ops Q S l (fuel + 1) listed a w :=
  ⟨fun h0 => absurd (hr ▸ h0) (by simp), fun j hj => by
    rw [hr] at hj
    have hj' : j = i := by simpa using hj
    subst hj'
    exact wpOp_step ho (fun K' hK => h K' (fun a w hS hW => hK a w ⟨fun _ => hS, hW hS⟩))⟩

/-- Number l is the last. -/
theorem AnyL.last {o : Oper} {fuel : Nat} {listed : Array Bool} {a : Act} {w : World} (hr : Region.ready md ops listed = [l]) (ho : ops[l]? = some o)
    (hd : Region.ready md ops (listed.setIfInBounds l true) = [])
    (h : ∀ K' : Act → World → Prop, Shut (∀ a w, Q .normal a w → K' a w) → if Region.wanted o (yielded ops a.tmps) = true then Oper.wp Pg o a w K' Q else K' (a.put o.dst undef) w) :
    AnyL Pg md ops Q S l (fuel + 1) listed a w :=
  ⟨fun h0 => absurd (hr ▸ h0) (by simp), fun j hj => by
    rw [hr] at hj
    have hj' : j = l := by simpa using hj
    subst hj'
    refine wpOp_step ho (fun K' hK => h K' (fun a w hW => hK a w ⟨fun h => absurd rfl h, ?_⟩))
    cases fuel with
    | zero => exact ⟨hd, hW⟩
    | succ fuel => exact ⟨fun _ => hW, by rw [hd]; simp⟩⟩

theorem AnyL.start {id : Nat} {a : Act} {w : World} (hm : Pg.follows .mixedOrders = true) (hS : S w.drew)
    (h : S w.drew → AnyL Pg .any ops Q S l ops.size (Array.replicate ops.size false) a w.drew) : (Code.region id ops true).wp Pg Q a w :=
  wp_region_any hm (AnyL.any _ _ _ _ (h hS))
end
end Go.Proofs.Ytgmnknmjainabaa

namespace Go.Proofs.Ytgmnknmjainabaa
set_option linter.unusedVariables false
open Ex

theorem Iv.le {B : Nat} {a : Int × Int} {x : Nat → Rat} (h : Iv B a x) : a.1 ≤ a.2 :=
  Int.le_of_mul_le_mul_right (h.touch h) (by have := Q_pos B; omega)
theorem Iv.neg {B : Nat} {a : Int × Int} {x : Nat → Rat} (h : Iv B a x) : Iv B (-a.2, -a.1) (fun M => -x M) := by
  have q := Qr_pos B
  intro e he
  obtain ⟨N, hN⟩ := h e he
  refine ⟨N, fun M hM => ?_⟩
  obtain ⟨g1, g2⟩ := hN M hM
  have e1 : ((-a.2 : Int) : Rat) / (Q B : Rat) = -((a.2 : Rat) / (Q B : Rat)) := by rw [Rat.intCast_neg, Rat.div_def, Rat.div_def, Rat.neg_mul]
  have e2 : ((-a.1 : Int) : Rat) / (Q B : Rat) = -((a.1 : Rat) / (Q B : Rat)) := by rw [Rat.intCast_neg, Rat.div_def, Rat.div_def, Rat.neg_mul]
  simp only []
  rw [e1, e2]
  constructor <;> grind
theorem byI_neg {a : Int × Int} {n d : Int} (ha : a.1 ≤ a.2) (hn : n < 0) : byI a n d = scaleI (-a.2, -a.1) (-n) d := by
  have h := Int.mul_le_mul_of_nonpos_right ha (show n ≤ 0 by omega)
  have e1 : leastZ (pr (a.1 * n) (a.2 * n)) 1 = a.2 * n := by
    simp only [leastZ, pr]; simp; omega
  have e2 : mostZ (pr (a.1 * n) (a.2 * n)) 1 = a.1 * n := by
    simp only [mostZ, pr]; simp; omega
  unfold byI scaleI
  rw [e1, e2]
  simp only []
  rw [show -a.2 * -n = a.2 * n by grind, show -a.1 * -n = a.1 * n by grind]
theorem Iv.by_ {B : Nat} {a : Int × Int} {x : Nat → Rat} (h : Iv B a x) (n : Int) {d : Int} (hd : 0 < d) : Iv B (byI a n d) (fun M => (n : Rat) / (d : Rat) * x M) := by
  by_cases hn : n < 0
  · rw [byI_neg h.le hn]
    refine (h.neg.scale (n := -n) (by omega) hd).congr (null_zero.of_eq fun M => ?_)
    have e : ((-n : Int) : Rat) / (d : Rat) = -((n : Rat) / (d : Rat)) := by rw [Rat.intCast_neg, Rat.div_def, Rat.div_def, Rat.neg_mul]
    rw [e]; grind
  · rw [byI_nonneg h.le (by omega)]
    exact h.scale (by omega) hd
theorem byI_abs {a : Int × Int} {m p n d c : Int} (h : Abs a m) (hd : 0 < d) (h1 : -c ≤ n) (h2 : n ≤ c) (hp : m * c ≤ p * d) : Abs (byI a n d) p := by
  obtain ⟨g1, g2, g3, g4⟩ := h
  obtain ⟨k1, k2⟩ := abs_mul g1 g2 h1 h2
  obtain ⟨k3, k4⟩ := abs_mul g3 g4 h1 h2
  have f1 : leastZ (pr (a.1 * n) (a.2 * n)) 1 = a.1 * n ∨ leastZ (pr (a.1 * n) (a.2 * n)) 1 = a.2 * n := by
    simp only [leastZ, pr]; simp; omega
  have f2 : mostZ (pr (a.1 * n) (a.2 * n)) 1 = a.1 * n ∨ mostZ (pr (a.1 * n) (a.2 * n)) 1 = a.2 * n := by
    simp only [mostZ, pr]; simp; omega
  have r1 := round_abs (x := leastZ (pr (a.1 * n) (a.2 * n)) 1) (m := p) hd (by omega) (by omega)
  have r2 := round_abs (x := mostZ (pr (a.1 * n) (a.2 * n)) 1) (m := p) hd (by omega) (by omega)
  exact ⟨r1.1, r1.2.1, r2.2.2.1, r2.2.2.2⟩
theorem half_div (p : Int) (n : Nat) : 2 * (p / Q (n + 1)) ≤ p / Q n ∧ p / Q n ≤ 2 * (p / Q (n + 1)) + 1 := by
  have q := Q_pos n
  have e : p / Q (n + 1) = p / Q n / 2 := by
    rw [show Q (n + 1) = Q n * 2 by show 2 * Q n = _; omega, ← Int.ediv_ediv_of_nonneg (by omega)]
  rw [e]; omega
theorem npT_fall {B : Nat} {z : Int × Int} {p : Int} (h : Abs z p) (hp : 4 * p ≤ Q B) (n : Nat) : Abs (npT B z n) (p / Q n + 2) := by
  have p0 := h.nonneg
  induction n with
  | zero =>
    have e : Q 0 = 1 := rfl
    rw [e, Int.ediv_one]; exact h.mono (by omega)
  | succ n ih =>
    obtain ⟨h1, h2⟩ := half_div p n
    have x0 : 0 ≤ p / Q n := Int.ediv_nonneg p0 (by have := Q_pos n; omega)
    refine mulI_abs ih h ?_
    have g1 := Int.mul_le_mul_of_nonneg_left hp (show 0 ≤ p / Q n + 2 by omega)
    have g2 := Int.mul_le_mul_of_nonneg_right (show p / Q n + 2 ≤ 4 * (p / Q (n + 1) + 2) by omega) (show 0 ≤ Q B by have := Q_pos B; omega)
    have e1 : (p / Q n + 2) * (4 * p) = 4 * ((p / Q n + 2) * p) := by grind
    have e2 : 4 * (p / Q (n + 1) + 2) * Q B = 4 * ((p / Q (n + 1) + 2) * Q B) := by grind
    omega
theorem Abs.sub {a b : Int × Int} {m n : Int} (h : Abs a m) (k : Abs b n) : Abs (subI a b) (m + n) := by
  obtain ⟨h1, h2, h3, h4⟩ := h
  obtain ⟨k1, k2, k3, k4⟩ := k
  exact ⟨by unfold subI; simp only []; omega, by unfold subI; simp only []; omega, by unfold subI; simp only []; omega, by unfold subI; simp only []; omega⟩
theorem nsT_fall {B : Nat} {z : Int × Int} {p : Int} (h : Abs z p) (hp : 4 * p ≤ Q B) (n : Nat) : Abs (nsT B z n) (2 * p - p / Q n + 2 * n) := by
  induction n with
  | zero =>
    have e : Q 0 = 1 := rfl
    rw [e, Int.ediv_one]; exact h.mono (by omega)
  | succ n ih =>
    obtain ⟨h1, h2⟩ := half_div p n
    have hs := scaleI_abs (n := 1) (d := (n : Int) + 2) (npT_fall h hp (n + 1)) (by omega) (by omega) (by omega)
    unfold nsT
    split
    · exact (ih.sub hs).mono (by omega)
    · exact (ih.add hs).mono (by omega)
theorem Q_lin (B : Nat) (h : 20 ≤ B) : 1024 * (B : Int) + 4096 ≤ Q B := by
  obtain ⟨j, rfl⟩ : ∃ j, B = 20 + j := ⟨B - 20, by omega⟩
  clear h
  induction j with
  | zero => have e : Q (20 + 0) = 1048576 := rfl
            rw [e]; omega
  | succ j ih =>
    have e : Q (20 + (j + 1)) = 2 * Q (20 + j) := rfl
    rw [e]; omega
theorem scale256 (a : Int × Int) : scaleI a 256 1 = (256 * a.1, 256 * a.2) := by
  unfold scaleI
  simp only [Int.ediv_one, Int.neg_neg]
  rw [Int.mul_comm, Int.mul_comm a.2]
/-- The logarithm by eight roots is less than 3. -/
theorem rootLog_abs {B N i : Nat} {l : Nat → Rat} {a : Int × Int} (hB : 20 ≤ B) (h : RInv B l i a) (q8 : Q i = 256) (hN : N ≤ B + 20) : Abs (scaleI (addI (nsT B (a.1 - Q B, a.2 - Q B) N) (-2, 2)) 256 1) (3 * Q B) := by
  obtain ⟨h1, h2, h3, h4⟩ := h
  have qB : Q B = 256 * Q (B - 8) := by
    have := Q_add (B - 8) 8
    rw [show B - 8 + 8 = B by omega] at this
    have e : Q 8 = 256 := rfl
    rw [this, e, Int.mul_comm]
  have q8' : 4096 ≤ Q (B - 8) := by have := Q_mono (show 12 ≤ B - 8 by omega); have e : Q 12 = 4096 := rfl; omega
  rw [q8] at h4
  have hz : Abs (a.1 - Q B, a.2 - Q B) (Q (B - 8) + 2) := ⟨by simp only []; omega, by simp only []; omega, by simp only []; omega, by simp only []; omega⟩
  obtain ⟨f1, f2, f3, f4⟩ := nsT_fall (B := B) hz (by omega) N
  have hx : 0 ≤ (Q (B - 8) + 2) / Q N := Int.ediv_nonneg (by omega) (by have := Q_pos N; omega)
  have hl := Q_lin B hB
  rw [scale256]
  unfold addI
  exact ⟨by simp only []; omega, by simp only []; omega, by simp only []; omega, by simp only []; omega⟩
theorem downI_abs {a : Int × Int} {m p : Int} (t : Nat) (h : Abs a m) (hp : m ≤ p * Q t) : Abs (downI a t) p := by
  obtain ⟨g1, g2, g3, g4⟩ := h
  have q := Q_pos t
  have r1 := round_abs (x := a.1) (m := p) (q := Q t) (by omega) (by omega) (by omega)
  have r2 := round_abs (x := a.2) (m := p) (q := Q t) (by omega) (by omega) (by omega)
  exact ⟨r1.1, r1.2.1, r2.2.2.1, r2.2.2.2⟩
/-- The quotient between 1 and 2, and by how many twos it was brought there: first upwards j times, then i times. -/
theorem bal_of {n d n' d' : Int} {i j : Nat} (hn : 0 < n) (hd : 0 < d) (hn' : n' = n * Q j) (hd' : d' = d * Q i) (h1 : d' ≤ n') (h2 : n' < 2 * d') (h0 : j = 0 ∨ i = 0) : Bal n d n' d' ((i : Int) - (j : Int)) := by
  have qi := Q_pos i
  have qj := Q_pos j
  have p1 : 0 < n' := by rw [hn']; exact Int.mul_pos hn (by omega)
  have p2 : 0 < d' := by rw [hd']; exact Int.mul_pos hd (by omega)
  have e0 : Q 0 = 1 := rfl
  refine ⟨⟨p1, p2, by omega, by omega⟩, fun h => ?_, fun h => ?_⟩
  · have hj : j = 0 := by omega
    subst hj
    rw [show ((i : Int) - ((0 : Nat) : Int)).toNat = i by omega, hn', hd', e0, Int.mul_one, Int.mul_assoc]
  · have hi : i = 0 := by omega
    subst hi
    rw [show (-(((0 : Nat) : Int) - (j : Int))).toNat = j by omega, hn', hd', e0, Int.mul_one]; grind
theorem steps_lo {n d : Int} {j J : Nat} (hn : 0 < n) (h : n * Q j < d) (hJ : d ≤ n * Q J) : j < J := by
  refine Nat.lt_of_not_le fun hn' => ?_
  have := Int.mul_le_mul_of_nonneg_left (Q_mono hn') (show 0 ≤ n by omega)
  omega
theorem isLog_two : Ex.IsLog (fun M => 2 * Ex.Az (zR 2 1) M) (fun _ => (2 : Rat)) := by
  have h := ln_isLog (n := 2) (d := 1) ⟨by omega, by omega, by omega, by omega⟩
  refine h.congr_r (Ex.null_zero.of_eq fun M => ?_)
  have e : ((2 : Int) : Rat) / ((1 : Int) : Rat) = 2 := by decide +kernel
  rw [e]; grind
end Go.Proofs.Ytgmnknmjainabaa
