/-
  Texts LgmB, Pel, GamT, LgmC, Nrl, Lgr, Rfe, Rfo, ErfT: what they hold is told in the last text.
-/
import Derived.Test.YtgmnknmjainababGreatK21
set_option linter.unnecessarySimpa false
set_option linter.unusedSimpArgs false
set_option linter.unusedVariables false
namespace Go.Proofs.YtgmnknmjainababGreat
open Ex
theorem Has.of_constL {a b c : Rat} (h : Has a b (fun _ => c)) : a ≤ c ∧ c ≤ b := by
  refine ⟨Rat.not_lt.1 fun hlt => ?_, Rat.not_lt.1 fun hlt => ?_⟩
  · obtain ⟨N, k⟩ := h ((a - c) / 2) (by grind)
    have := (k N (Nat.le_refl _)).1
    grind
  · obtain ⟨N, k⟩ := h ((c - b) / 2) (by grind)
    have := (k N (Nat.le_refl _)).2
    grind
theorem rat_frac {n d : Int} {x k : Nat} (hn : 0 < n) (hd : 0 < d) : (((x : Int) * d : Int) : Rat) / ((n + ((k : Int) + 1) * d : Int) : Rat) = (x : Rat) / ((n : Rat) / (d : Rat) + ((k : Rat) + 1)) := by
  have d0 : (0 : Rat) < (d : Rat) := by exact_mod_cast hd
  have n0 : (0 : Rat) < (n : Rat) := by exact_mod_cast hn
  have k0 : (0 : Rat) < (k : Rat) + 1 := pos1 k
  have kd := Rat.mul_pos k0 d0
  have e1 : ((n + ((k : Int) + 1) * d : Int) : Rat) = (n : Rat) + ((k : Rat) + 1) * (d : Rat) := by
    rw [Rat.intCast_add, Rat.intCast_mul, Rat.intCast_add]; rfl
  have e2 : (((x : Int) * d : Int) : Rat) = (x : Rat) * (d : Rat) := by rw [Rat.intCast_mul]; rfl
  have p : 0 < (n : Rat) + ((k : Rat) + 1) * (d : Rat) := by grind
  have q : 0 < (n : Rat) / (d : Rat) + ((k : Rat) + 1) := by have := rdiv_pos n0 d0; grind
  rw [e1, e2]
  have m1 := rdm (a := (x : Rat) * (d : Rat)) p
  have m2 := rdm (a := (x : Rat)) q
  have m3 := rdm (a := (n : Rat)) d0
  refine rat_cancel (Rat.mul_pos p q) ?_
  generalize (x : Rat) * (d : Rat) / ((n : Rat) + ((k : Rat) + 1) * (d : Rat)) = y at *
  generalize (x : Rat) / ((n : Rat) / (d : Rat) + ((k : Rat) + 1)) = z at *
  have r1 : ((n : Rat) + ((k : Rat) + 1) * (d : Rat)) * ((n : Rat) / (d : Rat) + ((k : Rat) + 1)) * y = y * ((n : Rat) + ((k : Rat) + 1) * (d : Rat)) * ((n : Rat) / (d : Rat) + ((k : Rat) + 1)) := by grind
  have r2 : ((n : Rat) + ((k : Rat) + 1) * (d : Rat)) * ((n : Rat) / (d : Rat) + ((k : Rat) + 1)) * z = z * ((n : Rat) / (d : Rat) + ((k : Rat) + 1)) * ((n : Rat) + ((k : Rat) + 1) * (d : Rat)) := by grind
  rw [r1, r2, m1, m2]
  have r3 : (n : Rat) + ((k : Rat) + 1) * (d : Rat) = ((n : Rat) / (d : Rat) + ((k : Rat) + 1)) * (d : Rat) := by
    have : ((n : Rat) / (d : Rat) + ((k : Rat) + 1)) * (d : Rat) = (n : Rat) / (d : Rat) * (d : Rat) + ((k : Rat) + 1) * (d : Rat) := by grind
    rw [this, m3]
  rw [r3]; grind
def h64 (e : Nat) : Rat := 1 / (Q (64 * e) : Rat)
theorem h64_succ (e : Nat) : (1 : Int) / ((Q 64 : Int) : Rat) * h64 e = h64 (e + 1) := by
  unfold h64
  have e1 : Q (64 * (e + 1)) = Q 64 * Q (64 * e) := by rw [← Q_add]; congr 1; omega
  rw [e1, Rat.intCast_mul]
  have p := Qr_pos 64
  have q := Qr_pos (64 * e)
  have c1 : ((1 : Int) : Rat) = 1 := rfl
  rw [c1]
  generalize (Q 64 : Rat) = y at *
  generalize (Q (64 * e) : Rat) = z at *
  have a := rdm (a := 1) p
  have b := rdm (a := 1) q
  have c := rdm (a := 1) (Rat.mul_pos p q)
  refine rat_cancel (Rat.mul_pos p q) ?_
  have r1 : y * z * (1 / y * (1 / z)) = 1 / y * y * (1 / z * z) := by grind
  have r2 : y * z * (1 / (y * z)) = 1 / (y * z) * (y * z) := by grind
  rw [r1, r2, a, b, c]; grind
theorem lm_has {n d : Int} {b x m : Nat} (h : LmIn n d b x) (k : Nat) : Iv m (lmS n d x m k).T (fun _ => h64 (lmS n d x m k).e * upT ((n : Rat) / (d : Rat)) (x : Rat) k) ∧ Iv m (lmS n d x m k).U (fun _ => h64 (lmS n d x m k).e * uS ((n : Rat) / (d : Rat)) (x : Rat) (k + 1)) := by
  have n0 := h.n0
  have d0 := h.d0
  have nr : (0 : Rat) < (n : Rat) := by exact_mod_cast n0
  have dr : (0 : Rat) < (d : Rat) := by exact_mod_cast d0
  have a0 : (0 : Rat) < (n : Rat) / (d : Rat) := rdiv_pos nr dr
  induction k with
  | zero =>
    have i := Iv.of m (n := d) (d := n) n0
    have e : (d : Rat) / (n : Rat) = 1 / ((n : Rat) / (d : Rat)) := by
      have m1 := rdm (a := (d : Rat)) nr
      have m2 := rdm (a := 1) a0
      have m3 := rdm (a := (n : Rat)) dr
      refine rat_cancel (Rat.mul_pos nr a0) ?_
      generalize 1 / ((n : Rat) / (d : Rat)) = z at *
      generalize (n : Rat) / (d : Rat) = y at *
      generalize (d : Rat) / (n : Rat) = u at *
      have r1 : (n : Rat) * y * u = u * (n : Rat) * y := by grind
      have r2 : (n : Rat) * y * z = (n : Rat) * (z * y) := by grind
      rw [r1, r2, m1, m2]; grind
    have e1 : h64 0 = 1 := by
      unfold h64
      show (1 : Rat) / ((1 : Int) : Rat) = 1
      decide +kernel
    refine ⟨Has.of_eq i fun M => ?_, Has.of_eq i fun M => ?_⟩
    · show h64 0 * (1 / ((n : Rat) / (d : Rat))) = _
      rw [e1, e]; grind
    · show h64 0 * (0 + 1 / ((n : Rat) / (d : Rat))) = _
      rw [e1, e]; grind
  | succ k ih =>
    obtain ⟨i1, i2⟩ := ih
    obtain ⟨s, hs⟩ : ∃ s, s = lmS n d x m k := ⟨_, rfl⟩
    rw [← hs] at i1 i2
    have kd := Int.mul_nonneg (show (0 : Int) ≤ (k : Int) by omega) (show 0 ≤ d by omega)
    have ed : ((k : Int) + 1) * d = (k : Int) * d + d := by grind
    have t1 : Iv m (lmT n d x k s.T) (fun _ => h64 s.e * upT ((n : Rat) / (d : Rat)) (x : Rat) (k + 1)) := by
      refine Has.of_eq (i1.scale (n := (x : Int) * d) (d := n + ((k : Int) + 1) * d) (Int.mul_nonneg (by omega) (by omega)) (by omega)) fun M => ?_
      rw [rat_frac n0 d0]
      show h64 s.e * ((x : Rat) / ((n : Rat) / (d : Rat) + ((k : Rat) + 1)) * upT ((n : Rat) / (d : Rat)) (x : Rat) k) = _
      generalize (x : Rat) / ((n : Rat) / (d : Rat) + ((k : Rat) + 1)) = y
      grind
    have t2 : Iv m (addI s.U (lmT n d x k s.T)) (fun _ => h64 s.e * uS ((n : Rat) / (d : Rat)) (x : Rat) (k + 1 + 1)) := by
      refine Has.of_eq (i2.add t1) fun M => ?_
      rw [uS_succ _ _ (k + 1)]; grind
    have e : lmS n d x m (k + 1) = lmNext n d x m k s := by rw [hs]; rfl
    rw [e]
    unfold lmNext
    have q64 := Q_pos 64
    split
    · refine ⟨Has.of_eq (t1.scale (n := 1) (d := Q 64) (by decide) (by omega)) fun M => ?_, Has.of_eq (t2.scale (n := 1) (d := Q 64) (by decide) (by omega)) fun M => ?_⟩
      · show h64 (s.e + 1) * _ = _
        rw [← h64_succ]; grind
      · show h64 (s.e + 1) * _ = _
        rw [← h64_succ]; grind
    · exact ⟨t1, t2⟩
theorem upT_half {a x : Rat} {K : Nat} (ha : 0 < a) (hx : 0 ≤ x) (hK : 2 * x ≤ (K : Rat)) (i : Nat) : 2 * upT a x (K + i + 1) ≤ upT a x (K + i) := by
  have e := upT_succ ha x (K + i)
  have t0 := upT_nonneg ha hx (K + i)
  have t1 := upT_nonneg ha hx (K + i + 1)
  have ik : (K : Rat) ≤ ((K + i : Nat) : Rat) := by exact_mod_cast (show K ≤ K + i by omega)
  by_cases hz : x = 0
  · have : upT a x (K + i + 1) = 0 := by
      show x / (a + (((K + i : Nat) : Rat) + 1)) * upT a x (K + i) = 0
      rw [hz, Rat.div_def]; grind
    rw [this]; grind
  · have xp : 0 < x := by grind
    have m := Rat.mul_le_mul_of_nonneg_right (show 2 * x ≤ a + (((K + i : Nat) : Rat) + 1) by grind) t1
    rw [e] at m
    refine Rat.le_of_mul_le_mul_left (c := x) ?_ xp
    grind
theorem uS_rest {a x : Rat} {K : Nat} (ha : 0 < a) (hx : 0 ≤ x) (hK : 2 * x ≤ (K : Rat)) (i : Nat) : uS a x (K + 1 + i) + upT a x (K + i) ≤ uS a x (K + 1) + upT a x K := by
  induction i with
  | zero => exact Rat.le_refl
  | succ i ih =>
    have e : uS a x (K + 1 + (i + 1)) = uS a x (K + 1 + i) + upT a x (K + 1 + i) := rfl
    have e2 : K + 1 + i = K + i + 1 := by omega
    have e3 : K + (i + 1) = K + i + 1 := by omega
    have hh := upT_half ha hx hK i
    rw [e, e3]
    rw [e2] at ih ⊢
    grind
def lmL (U : Int × Int) : Int := U.1 - 2
def lmH (m e : Nat) (U : Int × Int) : Int := U.2 + 2 + -(-(Q (m + 1)) / Q (64 * e))
theorem lm_span {n d : Int} {b x m K : Nat} (h : LmIn n d b x) (hK : 2 * x < K) (hT : (lmS n d x m K).T.2 ≤ 1) : LeN (fun _ => (lmL (lmS n d x m K).U : Rat) / (Q m : Rat)) (fun M => h64 (lmS n d x m K).e * uS ((n : Rat) / (d : Rat)) (x : Rat) M) ∧ LeN (fun M => h64 (lmS n d x m K).e * (uS ((n : Rat) / (d : Rat)) (x : Rat) M + 2)) (fun _ => (lmH m (lmS n d x m K).e (lmS n d x m K).U : Rat) / (Q m : Rat)) := by
  have n0 := h.n0
  have d0 := h.d0
  have nr : (0 : Rat) < (n : Rat) := by exact_mod_cast n0
  have dr : (0 : Rat) < (d : Rat) := by exact_mod_cast d0
  have a0 : (0 : Rat) < (n : Rat) / (d : Rat) := rdiv_pos nr dr
  have x0 : (0 : Rat) ≤ (x : Rat) := by exact_mod_cast Nat.zero_le x
  have xK : 2 * (x : Rat) ≤ (K : Rat) := by exact_mod_cast (show 2 * x ≤ K by omega)
  obtain ⟨i1, i2⟩ := lm_has (m := m) h K
  obtain ⟨s, hs⟩ : ∃ s, s = lmS n d x m K := ⟨_, rfl⟩
  rw [← hs] at i1 i2 hT ⊢
  have q := Qr_pos m
  have he : 0 < h64 s.e := rdiv_pos (by grind) (Qr_pos _)
  obtain ⟨l1, u1⟩ := Has.of_constL i2
  obtain ⟨l2, u2⟩ := Has.of_constL i1
  have T1 : (s.T.2 : Rat) / (Q m : Rat) ≤ 1 / (Q m : Rat) := rdiv_le q (by rw [rdm q]; exact_mod_cast cast_le hT)
  obtain ⟨j, hj⟩ : ∃ j, j = 1 / (Q m : Rat) := ⟨_, rfl⟩
  have jm : j * (Q m : Rat) = 1 := by rw [hj]; exact rdm q
  rw [← hj] at T1
  have j0 : 0 < j := by rw [hj]; exact rdiv_pos (by grind) q
  have eL : (lmL s.U : Rat) / (Q m : Rat) = (s.U.1 : Rat) / (Q m : Rat) - 2 * j := by
    unfold lmL
    rw [Rat.intCast_sub, rdiv_sub]
    have : ((2 : Int) : Rat) / (Q m : Rat) = 2 * j := by
      rw [hj, Rat.div_def, Rat.div_def]
      have c2 : ((2 : Int) : Rat) = 2 := rfl
      rw [c2]; grind
    rw [this]
  refine ⟨LeN.of_le (K + 1) fun M hM => ?_, LeN.of_le (K + 1) fun M hM => ?_⟩
  · obtain ⟨i, rfl⟩ : ∃ i, M = K + 1 + i := ⟨M - (K + 1), by omega⟩
    have mono : ∀ i, uS ((n : Rat) / (d : Rat)) (x : Rat) (K + 1) ≤ uS ((n : Rat) / (d : Rat)) (x : Rat) (K + 1 + i) := fun i => by
      induction i with
      | zero => exact Rat.le_refl
      | succ i ih => have := upT_nonneg a0 x0 (K + 1 + i); have e : uS ((n : Rat) / (d : Rat)) (x : Rat) (K + 1 + (i + 1)) = uS ((n : Rat) / (d : Rat)) (x : Rat) (K + 1 + i) + upT ((n : Rat) / (d : Rat)) (x : Rat) (K + 1 + i) := rfl; rw [e]; grind
    have m1 := Rat.mul_le_mul_of_nonneg_left (mono i) (Rat.le_of_lt he)
    rw [eL]
    grind
  · obtain ⟨i, rfl⟩ : ∃ i, M = K + 1 + i := ⟨M - (K + 1), by omega⟩
    have r := uS_rest a0 x0 xK i
    have t0 := upT_nonneg a0 x0 (K + i)
    have m1 := Rat.mul_le_mul_of_nonneg_left (show uS ((n : Rat) / (d : Rat)) (x : Rat) (K + 1 + i) ≤ uS ((n : Rat) / (d : Rat)) (x : Rat) (K + 1) + upT ((n : Rat) / (d : Rat)) (x : Rat) K by grind) (Rat.le_of_lt he)
    have e64p : 0 < Q (64 * s.e) := by have := Q_pos (64 * s.e); omega
    have cl := dv_ceil (Q (m + 1)) e64p
    have beyond : 2 * h64 s.e ≤ ((-(-(Q (m + 1)) / Q (64 * s.e)) : Int) : Rat) / (Q m : Rat) := by
      refine rle_div q ?_
      have c := cast_le cl
      have e1 : Q (m + 1) = 2 * Q m := rfl
      rw [Rat.intCast_mul, e1, Rat.intCast_mul] at c
      have c2 : ((2 : Int) : Rat) = 2 := rfl
      rw [c2] at c
      rw [e1]
      generalize ((-(-(2 * Q m) / Q (64 * s.e)) : Int) : Rat) = z at *
      unfold h64
      have p := Qr_pos (64 * s.e)
      have dm := rdm (a := 1) p
      refine Rat.le_of_mul_le_mul_right (c := (Q (64 * s.e) : Rat)) ?_ p
      have r1 : 2 * (1 / (Q (64 * s.e) : Rat)) * (Q m : Rat) * (Q (64 * s.e) : Rat) = 2 * (Q m : Rat) * (1 / (Q (64 * s.e) : Rat) * (Q (64 * s.e) : Rat)) := by grind
      rw [r1, dm]; grind
    have eH : (lmH m s.e s.U : Rat) / (Q m : Rat) = (s.U.2 : Rat) / (Q m : Rat) + 2 * j + ((-(-(Q (m + 1)) / Q (64 * s.e)) : Int) : Rat) / (Q m : Rat) := by
      unfold lmH
      rw [Rat.intCast_add, rdiv_add, Rat.intCast_add, rdiv_add]
      have : ((2 : Int) : Rat) / (Q m : Rat) = 2 * j := by
        rw [hj, Rat.div_def, Rat.div_def]
        have c2 : ((2 : Int) : Rat) = 2 := rfl
        rw [c2]; grind
      rw [this]
    rw [eH]
    grind
end Go.Proofs.YtgmnknmjainababGreat
namespace Go.Proofs.YtgmnknmjainababGreat
open Go.RowKit
attribute [local go_sem ↓] Go.wp_at_zero Go.wp_at_succ
theorem touch_up {b i : Nat} {a c : Int × Int} {x : Nat → Rat} (h : Iv b a x) (k : Iv (b + i) c x) : touB a.1 a.2 i c.1 c.2 0 = true := by
  have q := Q_pos b
  have t1 := h.touch k
  have t2 := k.touch h
  rw [Q_add] at t1 t2
  have e1 : a.1 * (Q b * Q i) = a.1 * Q i * Q b := by grind
  have e2 : a.2 * (Q b * Q i) = a.2 * Q i * Q b := by grind
  rw [e1] at t1
  rw [e2] at t2
  have c1 : a.1 * Q i ≤ c.2 := Int.le_of_mul_le_mul_right t1 (by omega)
  have c2 : c.1 ≤ a.2 * Q i := Int.le_of_mul_le_mul_right t2 (by omega)
  have e0 : Q 0 = 1 := rfl
  unfold touB
  rw [e0]
  simp [c1, c2]
theorem lawSure_ok (w : World) (s t : Sp) (b i k : Nat) (lo hi lo' hi' : Int) (hs : SpAt w s 250 lo hi) (ht : SpAt w t k lo' hi') (hk0 : 250 ≤ k) (hk : k ≤ 300000000) (hb : s.bits = b) (hb1 : b ≤ 120) (hle : lo ≤ hi) (hi0 : 1 ≤ i) (hi1 : i ≤ 1000) (htb : t.bits = ((b + i : Nat) : Int)) (hN : narB lo hi (Q b) 4 = true) (hT : touB lo hi i lo' hi' 0 = true) :
    Calls Tryz.prog 12 #[.agg #[.bool s.ln, .slice s.la s.lN s.lc, .bool s.hn, .slice s.ha s.hN s.hc, .int .i64 s.bits], .int .i64 0, .int .i64 0, .int .i64 b, .agg #[.bool t.ln, .slice t.la t.lN t.lc, .bool t.hn, .slice t.ha t.hN t.hc, .int .i64 t.bits]] w fun r w' => r = .returned (.bool true) ∧ Below w.heap.size w w' := by
  rw [← hb]
  rcases cmp3 lo hi with ⟨h1, h2⟩ | ⟨h1, h2⟩ | ⟨h1, h2⟩
  · exact lawSure_a w s t b i k lo hi lo' hi' hs ht hk0 hk hb hb1 hle hi0 hi1 htb hN hT h1
  · exact lawSure_b w s t b i k lo hi lo' hi' hs ht hk0 hk hb hb1 hle hi0 hi1 htb hN hT h1
  · omega
end Go.Proofs.YtgmnknmjainababGreat
namespace Go.Proofs.YtgmnknmjainababGreat
open Ex
theorem wholeG_iv (b : Nat) (c : Int) : Iv b (c * Q b, c * Q b) (fun _ => (c : Rat)) := by
  have q := Qr_pos b
  have e : ((c * Q b : Int) : Rat) / (Q b : Rat) = (c : Rat) := by
    rw [Rat.intCast_mul]
    exact Rat.le_antisymm (rdiv_le q Rat.le_refl) (rle_div q Rat.le_refl)
  refine Has.of_from 0 fun M _ => ?_
  simp only [e]
  exact ⟨Rat.le_refl, Rat.le_refl⟩
theorem gm_one {L G : Rat → Nat → Rat} {X : Int → Int → Nat → Rat} (hE : GEnv L G X) : Null (fun M => G 1 M - 1) := gam_one hE.lns (hE.gam 1 (by grind) (by grind))
theorem gm_nat {L G : Rat → Nat → Rat} {X : Int → Int → Nat → Rat} (hE : GEnv L G X) {n c : Int} (h1 : gA n 1 = 1) (h2 : (stP n 1 (stN n 1) : Rat) / (stQ 1 (stN n 1) : Rat) = (c : Rat)) : Null (fun M => (c : Rat) - gmV n 1 (G (gA n 1)) M) := by
  refine ((gm_one hE).bmul (Bdd.const (-(c : Rat)))).of_eq fun M => ?_
  unfold gmV
  rw [h1, h2]
  grind
theorem gm_1 {L G : Rat → Nat → Rat} {X : Int → Int → Nat → Rat} (hE : GEnv L G X) : Null (fun M => ((1 : Int) : Rat) - gmV 1 1 (G (gA 1 1)) M) := gm_nat hE (by decide +kernel) (by decide +kernel)
theorem gA_next {n d : Int} (h0 : 0 < n) (hd : 0 < d) : gA (n + d) d = gA n d := by
  unfold gA
  rw [stN_next hd h0]
  have e : n + d - ((stN n d + 1 : Nat) : Int) * d = n - (stN n d : Int) * d := by
    have : ((stN n d + 1 : Nat) : Int) = (stN n d : Int) + 1 := by omega
    rw [this]; grind
  rw [e]
theorem gmV_next {n d : Int} (h0 : 0 < n) (hd : 0 < d) (g : Nat → Rat) (M : Nat) : gmV (n + d) d g M = gmV n d g M * ((n : Rat) / (d : Rat)) := by
  unfold gmV
  rw [stN_next hd h0, stP_next]
  have e : stQ d (stN n d + 1) = stQ d (stN n d) * d := rfl
  rw [e, Rat.intCast_mul, Rat.intCast_mul]
  have d0 : (0 : Rat) < (d : Rat) := by exact_mod_cast hd
  have q0 : (0 : Rat) < (stQ d (stN n d) : Rat) := by exact_mod_cast stQ_pos hd _
  generalize (stP n d (stN n d) : Rat) = P at *
  generalize (stQ d (stN n d) : Rat) = Q at *
  generalize g M = y
  have k : (n : Rat) * P / (Q * (d : Rat)) = P / Q * ((n : Rat) / (d : Rat)) := by
    have qd := Rat.mul_pos q0 d0
    refine rat_cancel qd ?_
    have e1 := rdm (a := (n : Rat) * P) qd
    have e2 := rdm (a := P) q0
    have e3 := rdm (a := (n : Rat)) d0
    have r1 : Q * (d : Rat) * ((n : Rat) * P / (Q * (d : Rat))) = (n : Rat) * P / (Q * (d : Rat)) * (Q * (d : Rat)) := by grind
    have r2 : Q * (d : Rat) * (P / Q * ((n : Rat) / (d : Rat))) = P / Q * Q * ((n : Rat) / (d : Rat) * (d : Rat)) := by grind
    rw [r1, r2, e1, e2, e3]; grind
  rw [k]; grind
end Go.Proofs.YtgmnknmjainababGreat
namespace Go.Proofs.YtgmnknmjainababGreat
open Ex
namespace Ex
theorem IsGam.congr {L : Rat → Nat → Rat} {a : Rat} {g g' : Nat → Rat} (h : IsGam L a g) (e : ∀ M, g' M = g M) : IsGam L a g' := by
  have : g' = g := funext e
  rw [this]; exact h
end Ex
theorem gam_steps {L : Rat → Nat → Rat} (hL : Lns L) {n d : Int} {g : Nat → Rat} (h0 : 0 < n) (h1 : n ≤ d) (hg : Gam1 L ((n : Rat) / (d : Rat)) g) (k : Nat) : IsGam L (((n + (k : Int) * d : Int) : Rat) / (d : Rat)) (gmV (n + (k : Int) * d) d g) := by
  have d0 : 0 < d := by omega
  have dr : (0 : Rat) < (d : Rat) := by exact_mod_cast d0
  have nr : (0 : Rat) < (n : Rat) := by exact_mod_cast h0
  induction k with
  | zero =>
    have e : n + ((0 : Nat) : Int) * d = n := by have : ((0 : Nat) : Int) = 0 := rfl
                                                 rw [this]; omega
    rw [e]
    refine (hg.isGam hL (rdiv_pos nr dr)).congr fun M => ?_
    have s : stN n d = 0 := by unfold stN; rw [Int.ediv_eq_zero_of_lt (by omega) (by omega)]; rfl
    unfold gmV
    rw [s]
    show ((1 : Int) : Rat) / ((1 : Int) : Rat) * g M = g M
    have : ((1 : Int) : Rat) / ((1 : Int) : Rat) = 1 := by decide +kernel
    rw [this]; grind
  | succ k ih =>
    have kd := Int.mul_nonneg (show (0 : Int) ≤ (k : Int) by omega) (show 0 ≤ d by omega)
    have e : n + ((k + 1 : Nat) : Int) * d = n + (k : Int) * d + d := by
      have : ((k + 1 : Nat) : Int) = (k : Int) + 1 := by omega
      rw [this]; grind
    have p : 0 < n + (k : Int) * d := by omega
    have pr' : (0 : Rat) < ((n + (k : Int) * d : Int) : Rat) := by exact_mod_cast p
    have nx := ih.next hL (rdiv_pos pr' dr)
    rw [e]
    have ea : ((n + (k : Int) * d + d : Int) : Rat) / (d : Rat) = ((n + (k : Int) * d : Int) : Rat) / (d : Rat) + 1 := by
      rw [Rat.intCast_add (n + (k : Int) * d) d, rdiv_add]
      have : (d : Rat) / (d : Rat) = 1 := Rat.le_antisymm (rdiv_le dr (by grind)) (rle_div dr (by grind))
      rw [this]
    rw [ea]
    refine nx.congr fun M => ?_
    rw [gmV_next p d0]; grind
theorem gam_ratio {L G : Rat → Nat → Rat} {X : Int → Int → Nat → Rat} (hE : GEnv L G X) {n d : Int} (h : StIn n d) : IsGam L ((n : Rat) / (d : Rat)) (gmV n d (G (gA n d))) := by
  obtain ⟨r1, r2, r3⟩ := h.rest
  have k := gam_steps hE.lns r1 r2 (hE.gam _ (gA_ok h).1 (gA_ok h).2) (stN n d)
  have e : n - (stN n d : Int) * d + (stN n d : Int) * d = n := by omega
  rw [e] at k
  exact k
theorem pw_two (k : Nat) : pw 2 k = (Q k : Rat) := pw_Q k
theorem h64_mul (e : Nat) : h64 e * (Q (64 * e) : Rat) = 1 := rdm (Qr_pos _)
theorem lm_log {L : Rat → Nat → Rat} (hL : Lns L) {n d : Int} {b x m K : Nat} (h : LmIn n d b x) (hm : m = b + 128) (hK : 2 * x < K) (hK2 : K ≤ 25000) (hT : (lmS n d x m K).T.2 ≤ 1) {g X lL lH l2 : Nat → Rat} (hg : IsGam L ((n : Rat) / (d : Rat)) g) (hX : IsLog X g)
    (gL : IsLog lL (fun _ => (lmL (lmS n d x m K).U : Rat) / (Q m : Rat))) (gH : IsLog lH (fun _ => (lmH m (lmS n d x m K).e (lmS n d x m K).U : Rat) / (Q m : Rat))) (g2 : IsLog l2 (fun _ => 2)) :
    LeN (fun M => lL M + ((64 * (lmS n d x m K).e : Nat) : Rat) * l2 M + (n : Rat) / (d : Rat) * L (x : Rat) M - (x : Rat)) X ∧ LeN X (fun M => lH M + ((64 * (lmS n d x m K).e : Nat) : Rat) * l2 M + (n : Rat) / (d : Rat) * L (x : Rat) M - (x : Rat)) := by
  obtain ⟨s1, s2⟩ := lm_span (m := m) h hK hT
  have o := lm_all h hm K hK2
  obtain ⟨s, hs⟩ : ∃ s, s = lmS n d x m K := ⟨_, rfl⟩
  rw [← hs] at s1 s2 gL gH o ⊢
  obtain ⟨a, ha⟩ : ∃ a, a = (n : Rat) / (d : Rat) := ⟨_, rfl⟩
  have nr : (0 : Rat) < (n : Rat) := by exact_mod_cast h.n0
  have dr : (0 : Rat) < (d : Rat) := by exact_mod_cast h.d0
  have a0 : 0 < a := by rw [ha]; exact rdiv_pos nr dr
  have x1 : (1 : Rat) ≤ (x : Rat) := by exact_mod_cast (show 1 ≤ x by have := h.xb; omega)
  have x0 : (0 : Rat) < (x : Rat) := by grind
  have xa : 2 * a ≤ (x : Rat) := by
    have c := cast_le h.x2
    rw [Rat.intCast_mul, Rat.intCast_mul] at c
    have c2 : ((2 : Int) : Rat) = 2 := rfl
    have c3 : ((x : Int) : Rat) = (x : Rat) := rfl
    rw [c2, c3] at c
    have dm := rdm (a := (n : Rat)) dr
    rw [← ha] at dm
    refine Rat.le_of_mul_le_mul_right (c := (d : Rat)) ?_ dr
    have : 2 * a * (d : Rat) = 2 * (a * (d : Rat)) := by grind
    rw [this, dm]; exact c
  rw [← ha] at s1 s2 hg ⊢
  have Qp := Qr_pos (64 * s.e)
  have hq := h64_mul s.e
  have hp : 0 < h64 s.e := rdiv_pos (by grind) Qp
  have pB := pr_bdd hL x0 a
  have pN := pr_nn hL x0 a
  have eB := ex_bdd (-(x : Rat))
  have eN := ex_nn (-(x : Rat))
  have lg : ∀ {l : Nat → Rat} {c : Rat}, IsLog l (fun _ => c) → IsLog (fun M => l M + ((64 * s.e : Nat) : Rat) * l2 M + a * L (x : Rat) M - (x : Rat)) (fun M => c * (Q (64 * s.e) : Rat) * (Ex.pr L a (x : Rat) M * ex (-(x : Rat)) M)) := fun {l c} hl => by
    have k1 := hl.add (g2.times (64 * s.e))
    have k2 : IsLog (fun M => a * L (x : Rat) M) (Ex.pr L a (x : Rat)) := ⟨pr_arg hL x0 a, null_zero.of_eq fun M => by unfold Ex.pr; grind⟩
    have k3 := (k1.add k2).add (isLog_const (-(x : Rat)))
    have e1 : (fun M => l M + ((64 * s.e : Nat) : Rat) * l2 M + a * L (x : Rat) M + -(x : Rat)) = fun M => l M + ((64 * s.e : Nat) : Rat) * l2 M + a * L (x : Rat) M - (x : Rat) := by funext M; grind
    rw [e1] at k3
    refine k3.congr_r (null_zero.of_eq fun M => ?_)
    rw [pw_two]; grind
  refine ⟨fun e he => ?_, fun e he => ?_⟩
  · have low : LeN (fun M => (lmL s.U : Rat) / (Q m : Rat) * (Q (64 * s.e) : Rat) * (Ex.pr L a (x : Rat) M * ex (-(x : Rat)) M)) g := by
      refine LeN.trans ?_ (hg.lo _ x0)
      have l1 := ((s1.cmul (c := (Q (64 * s.e) : Rat)) (Rat.le_of_lt Qp)).bmul (pB.mul eB) (pN.mul eN))
      refine LeN.trans (LeN.of_le 0 fun M _ => ?_) (l1.trans (LeN.of_le 0 fun M _ => ?_))
      · grind
      · show (Q (64 * s.e) : Rat) * (h64 s.e * uS a (x : Rat) M) * (Ex.pr L a (x : Rat) M * ex (-(x : Rat)) M) ≤ uG L a (x : Rat) M
        unfold uG
        generalize Ex.pr L a (x : Rat) M = p
        generalize ex (-(x : Rat)) M = y
        generalize uS a (x : Rat) M = u
        have r : (Q (64 * s.e) : Rat) * (h64 s.e * u) * (p * y) = h64 s.e * (Q (64 * s.e) : Rat) * (p * y * u) := by grind
        rw [r, hq]; grind
    obtain ⟨z, hz, kz⟩ := low.null
    exact (lg gL).le hX hz 0 (fun M _ => kz M) e he
  · have up : LeN g (fun M => (lmH m s.e s.U : Rat) / (Q m : Rat) * (Q (64 * s.e) : Rat) * (Ex.pr L a (x : Rat) M * ex (-(x : Rat)) M)) := by
      refine (hg.hi _ x1 (by grind)).trans ?_
      have l1 := ((s2.cmul (c := (Q (64 * s.e) : Rat)) (Rat.le_of_lt Qp)).bmul (pB.mul eB) (pN.mul eN))
      refine LeN.trans ?_ (l1.trans (LeN.of_le 0 fun M _ => by grind))
      have nx := uE_mul hL x0 a
      obtain ⟨N, hN⟩ := uE_nn hL x0 a
      have nx2 := nx.bmul (Bdd.const 2)
      refine LeN.of_null nx2 N fun M hM => ?_
      have u0 := hN M hM
      have m1 := Rat.mul_le_mul_of_nonneg_right x1 u0
      show uG L a (x : Rat) M + 2 * uE L a (x : Rat) M ≤ (Q (64 * s.e) : Rat) * (h64 s.e * (uS a (x : Rat) M + 2)) * (Ex.pr L a (x : Rat) M * ex (-(x : Rat)) M) + ((x : Rat) * uE L a (x : Rat) M - Ex.pr L a (x : Rat) M * ex (-(x : Rat)) M) * 2
      unfold uG
      generalize uE L a (x : Rat) M = ue at *
      generalize Ex.pr L a (x : Rat) M = p at *
      generalize ex (-(x : Rat)) M = y at *
      generalize uS a (x : Rat) M = u at *
      have r : (Q (64 * s.e) : Rat) * (h64 s.e * (u + 2)) * (p * y) = h64 s.e * (Q (64 * s.e) : Rat) * (p * y * u + 2 * (p * y)) := by grind
      rw [r, hq]
      grind
    obtain ⟨z, hz, kz⟩ := up.null
    exact hX.le (lg gH) hz 0 (fun M _ => kz M) e he
def lgR (B : Nat) (n d c x : Int) (p r o2 ox : Int × Int) : Int × Int := subI (addI (addI (p.1, r.2) (byI o2 c 1)) (byI ox n d)) (x * Q B, x * Q B)
theorem iv_between {B : Nat} {a c : Int × Int} {lo hi X : Nat → Rat} (h1 : Iv B a lo) (h2 : Iv B c hi) (l : LeN lo X) (u : LeN X hi) : Iv B (a.1, c.2) X := by
  intro e he
  obtain ⟨N1, k1⟩ := h1 (e / 2) (by grind)
  obtain ⟨N2, k2⟩ := h2 (e / 2) (by grind)
  obtain ⟨N3, k3⟩ := l (e / 2) (by grind)
  obtain ⟨N4, k4⟩ := u (e / 2) (by grind)
  refine ⟨N1 + N2 + N3 + N4, fun M hM => ?_⟩
  have a1 := (k1 M (by omega)).1
  have a2 := (k2 M (by omega)).2
  have a3 := k3 M (by omega)
  have a4 := k4 M (by omega)
  exact ⟨by grind, by grind⟩
theorem lgR_has {B : Nat} {n d : Int} {c x : Nat} (hd : 0 < d) {p r o2 ox : Int × Int} {lL lH l2 lx X : Nat → Rat} (i1 : Iv B p lL) (i2 : Iv B r lH) (j2 : Iv B o2 l2) (jx : Iv B ox lx) (low : LeN (fun M => lL M + (c : Rat) * l2 M + (n : Rat) / (d : Rat) * lx M - (x : Rat)) X) (up : LeN X (fun M => lH M + (c : Rat) * l2 M + (n : Rat) / (d : Rat) * lx M - (x : Rat))) : Iv B (lgR B n d (c : Int) (x : Int) p r o2 ox) X := by
  have w := wholeG_iv B (x : Int)
  have k2 := j2.by_ (c : Int) (d := 1) (by decide)
  have kx := jx.by_ n hd
  have one : (((c : Int) : Rat) / ((1 : Int) : Rat)) = (c : Rat) := by
    have e1 : ((1 : Int) : Rat) = 1 := rfl
    have e2 : ((c : Int) : Rat) = (c : Rat) := rfl
    have e3 : (1 : Rat)⁻¹ = 1 := by decide +kernel
    rw [e1, e2, Rat.div_def, e3, Rat.mul_one]
  have ex' : ((x : Int) : Rat) = (x : Rat) := rfl
  have a1 : Iv B (subI (addI (addI p (byI o2 c 1)) (byI ox n d)) ((x : Int) * Q B, (x : Int) * Q B)) (fun M => lL M + (c : Rat) * l2 M + (n : Rat) / (d : Rat) * lx M - (x : Rat)) := by
    refine Has.of_eq (((i1.add k2).add kx).sub w) (fun M => ?_)
    show lL M + (c : Rat) * l2 M + (n : Rat) / (d : Rat) * lx M - (x : Rat) = lL M + ((c : Int) : Rat) / ((1 : Int) : Rat) * l2 M + (n : Rat) / (d : Rat) * lx M - ((x : Int) : Rat)
    rw [one, ex']
  have a2 : Iv B (subI (addI (addI r (byI o2 c 1)) (byI ox n d)) ((x : Int) * Q B, (x : Int) * Q B)) (fun M => lH M + (c : Rat) * l2 M + (n : Rat) / (d : Rat) * lx M - (x : Rat)) := by
    refine Has.of_eq (((i2.add k2).add kx).sub w) (fun M => ?_)
    show lH M + (c : Rat) * l2 M + (n : Rat) / (d : Rat) * lx M - (x : Rat) = lH M + ((c : Int) : Rat) / ((1 : Int) : Rat) * l2 M + (n : Rat) / (d : Rat) * lx M - ((x : Int) : Rat)
    rw [one, ex']
  have e : lgR B n d (c : Int) (x : Int) p r o2 ox = ((subI (addI (addI p (byI o2 c 1)) (byI ox n d)) ((x : Int) * Q B, (x : Int) * Q B)).1, (subI (addI (addI r (byI o2 c 1)) (byI ox n d)) ((x : Int) * Q B, (x : Int) * Q B)).2) := by
    unfold lgR
    generalize byI o2 (c : Int) 1 = y1
    generalize byI ox n d = y2
    generalize (x : Int) * Q B = y3
    rfl
  rw [e]
  exact iv_between a1 a2 low up
end Go.Proofs.YtgmnknmjainababGreat
namespace Go.Proofs.YtgmnknmjainababGreat
open Go.RowKit
attribute [local go_sem ↓] Go.wp_at_zero Go.wp_at_succ
theorem refLess_iv (w : World) (s t : Sp) (k b : Nat) (a c : Int × Int) (hs : SpAt w s k a.1 a.2) (ht : SpAt w t k c.1 c.2) (hk : k ≤ 700000000) (hb : s.bits = (b : Int)) :
    Calls Tryz.prog 26 #[.agg #[.bool s.ln, .slice s.la s.lN s.lc, .bool s.hn, .slice s.ha s.hN s.hc, .int .i64 s.bits], .agg #[.bool t.ln, .slice t.la t.lN t.lc, .bool t.hn, .slice t.ha t.hN t.hc, .int .i64 t.bits]] w (SpanAns w b (k + 1) (subI a c).1 (subI a c).2) :=
  (refLess_int w s t k a.1 a.2 c.1 c.2 hs ht hk).mono fun r w' h => by rw [hb] at h; exact h
theorem TwoP.drew {W wx : World} {b k1 k2 : Nat} {a c : Int × Int} {p q : Value} (h : TwoP W wx b k1 k2 a c p q) : TwoP W wx.drew b k1 k2 a c p q := by
  obtain ⟨B, B', x, y, h1, h2, h3, h4, h5, h6, h7, h8, h9, h10, h11, h12⟩ := h
  have hd : Below wx.heap.size wx wx.drew := (Below.refl _ _).drew
  exact ⟨B, B', x, y, h1, h2, h3, h4, h5, h6.below hd, h7.below hd, h8.below hd, h9.below hd, h10, h11, bthen h12 hd⟩
structure NearSt (w wr : World) (B5 B6 b K : Nat) (zz Pp Sm : Sp) (a pv sv : Int × Int) : Prop where
  z : SpC wr w.heap.size zz
  p : VrC wr B5 Pp
  s : VrC wr B6 Sm
  zp : SpAt wr zz K a.1 a.2
  pp : SpAt wr Pp K pv.1 pv.2
  sp : SpAt wr Sm K sv.1 sv.2
  pb : Pp.bits = (b : Int)
  sb : Sm.bits = (b : Int)
  no : NoC wr (w.heap.size + 1)
  be : Below w.heap.size w wr
  l1 : B5 ≠ w.heap.size + 1
  l2 : B6 ≠ w.heap.size + 1
  m1 : B5 ≠ w.heap.size
  m2 : B6 ≠ w.heap.size
  k1 : w.heap.size ≤ B5
  k2 : w.heap.size ≤ B6
  n : B5 ≠ B6
theorem NearSt.below {w wr wr' : World} {B5 B6 b K : Nat} {z Pp Sm : Sp} {a p s : Int × Int} (h : NearSt w wr B5 B6 b K z Pp Sm a p s) (hb : Below wr.heap.size wr wr') : NearSt w wr' B5 B6 b K z Pp Sm a p s :=
  ⟨h.z.below hb, h.p.below hb, h.s.below hb, h.zp.below hb, h.pp.below hb, h.sp.below hb, h.pb, h.sb, h.no.below hb, bthen h.be hb, h.l1, h.l2, h.m1, h.m2, h.k1, h.k2, h.n⟩
set_option maxRecDepth 100000 in
set_option maxHeartbeats 8000000 in
theorem nearLog_iv (w : World) (z : Sp) (k b K : Nat) (a : Int × Int) (hz : SpAt w z k a.1 a.2) (hbits : z.bits = (b : Int)) (hkK : k ≤ K) (hle : a.1 ≤ a.2) (ha : Abs a (Q b)) (hb : b ≤ 100000) (hb2 : 10 ≤ b) (hK : Q (b + 20) < P K) (hK2 : K ≤ 10000000) (hK4 : 4 ≤ K) :
    Calls Tryz.prog 195 #[.agg #[.bool z.ln, .slice z.la z.lN z.lc, .bool z.hn, .slice z.ha z.hN z.hc, .int .i64 z.bits]] w (fun r w' => ∃ N, N ≤ b + 20 ∧ (reachI (npT b a N) ≤ 1 ∨ b ≤ N + 1) ∧ SpanAns w b (K + 1) (addI (nsT b a N) (-2, 2)).1 (addI (nsT b a N) (-2, 2)).2 r w') := by
  obtain ⟨W, hW⟩ : ∃ W, W = (w.alloc (.cells #[.bool z.ln, .slice z.la z.lN z.lc, .bool z.hn, .slice z.ha z.hN z.hc, .int .i64 z.bits] 36)).alloc (.cells #[.bool false, .slice none 0 0, .bool false, .slice none 0 0, .int .i64 0] 36) := ⟨_, rfl⟩
  have hBW : Below w.heap.size w W := by rw [hW]; exact bl2 _ _ _
  have A : SpC W w.heap.size z := by rw [hW]; exact ⟨by simp [go_sem], by simp [go_sem], by simp [go_sem], by simp [go_sem], by simp [go_sem]⟩
  have R : NoC W (w.heap.size + 1) := by rw [hW]; exact ⟨by simp [go_sem], by simp [go_sem], by simp [go_sem], by simp [go_sem], by simp [go_sem], fun o => by simp [go_sem]⟩
  have HX := hide ((hz.below hBW).mono hkK)
  have HB := hide hbits
  have hQb := Q_pos b
  have hQK : Q b * 1048576 < P K := by
    have e : Q (b + 20) = Q b * Q 20 := Q_add b 20
    have e2 : Q 20 = 1048576 := rfl
    rw [e, e2] at hK; exact hK
  have lR := R.lt
  have lA := A.lt
  clear hz hbits
  go_enter Tryz.func195, Tryz.ntmps195
  go_wp2
  rw [← hW]
  clear hW
  have HK := hide (show ∀ w', Below W.heap.size W w' → (w'.cell? ⟨w.heap.size, 0, none⟩ = some (.bool z.ln) ∧ w'.cell? ⟨w.heap.size, 1, none⟩ = some (.slice z.la z.lN z.lc) ∧ w'.cell? ⟨w.heap.size, 2, none⟩ = some (.bool z.hn) ∧ w'.cell? ⟨w.heap.size, 3, none⟩ = some (.slice z.ha z.hN z.hc) ∧ w'.cell? ⟨w.heap.size, 4, none⟩ = some (.int .i64 z.bits)) from fun w' hB => ⟨(A.below hB).c0, (A.below hB).c1, (A.below hB).c2, (A.below hB).c3, (A.below hB).c4⟩)
  obtain ⟨x0, x1, x2, x3, x4⟩ := unhide HK _ (Below.refl _ _)
  have hD0 : Below W.heap.size W W.drew := (Below.refl _ _).drew
  have HX0 := hide ((unhide HX).below hD0)
  go_cut [3, 4] (fun p q wx => TwoP W wx b K K a a p q)
  case first =>
    go_region_held3 (fun w' => w'.cell? ⟨w.heap.size, 0, none⟩ = some (.bool z.ln) ∧ w'.cell? ⟨w.heap.size, 1, none⟩ = some (.slice z.la z.lN z.lc) ∧ w'.cell? ⟨w.heap.size, 2, none⟩ = some (.bool z.hn) ∧ w'.cell? ⟨w.heap.size, 3, none⟩ = some (.slice z.ha z.hN z.hc) ∧ w'.cell? ⟨w.heap.size, 4, none⟩ = some (.int .i64 z.bits)) (exact unhide HK _ (by repeat' (first | with_reducible exact hD0 | with_reducible exact Below.refl _ _ | with_reducible refine Below.drew ?_ | with_reducible refine balloc ?_ _ | with_reducible refine Below.setCell ?_ (by first | with_reducible exact Nat.le_refl _ | with_reducible exact Nat.le_succ _) _)))
      (fail)
    all_goals
      go_wp2_with fail
      go_meet
      first
        | with_reducible exact (twoP_aa (x := z) (y := z) (Below.refl _ _) (unhide HX) (unhide HX) (unhide HB) (unhide HB)).drew
        | with_reducible exact (twoP_aa' (x := z) (y := z) (Below.refl _ _) (unhide HX) (unhide HX) (unhide HB) (unhide HB)).drew
  case rest =>
  obtain ⟨BU, CU, xU, yU, rfl, rfl, hHU, hJU, hneU, XU, YU, hxU, hyU, bxU, byU, hblU⟩ := hcut
  have hz1 : 0 ≤ z.bits := by have := unhide HB; omega
  have hz2 : z.bits ≤ 100000 := by have := unhide HB; omega
  have st0 : NearSt w wc BU CU b K z xU yU a (npT b a 0) (nsT b a 0) := ⟨A.below hblU, XU, YU, (unhide HX).below hblU, hxU, hyU, bxU, byU, R.below hblU, bthen hBW hblU, by omega, by omega, by omega, by omega, by omega, by omega, hneU⟩
  have HFIT : Hid (∀ j, -P K < (npT b a j).1 ∧ (npT b a j).2 < P K) := hide (fun j => by
    obtain ⟨g1, g2, g3, g4⟩ := npT_abs ha j
    omega)
  have HFITC : Hid (∀ j, -P K < (scaleI (npT b a (j + 1)) 1 ((j : Int) + 2)).1 ∧ (scaleI (npT b a (j + 1)) 1 ((j : Int) + 2)).2 < P K) := hide (fun j => by
    obtain ⟨g1, g2, g3, g4⟩ := scaleI_abs (n := 1) (d := (j : Int) + 2) (npT_abs ha (j + 1)) (by omega) (by omega) (by omega)
    omega)
  have HFITS : Hid (∀ j, j ≤ b + 20 → -P K < (nsT b a j).1 ∧ (nsT b a j).2 < P K) := hide (fun j hj => by
    obtain ⟨g1, g2, g3, g4⟩ := nsT_abs ha j
    have := Int.mul_le_mul_of_nonneg_right (show (j : Int) + 1 ≤ 1048575 by omega) (show 0 ≤ Q b by omega)
    omega)
  have HZB := hide (And.intro hz1 hz2)
  clear bxU byU hxU hyU HX HX0 HK A x0 x1 x2 x3 x4 XU YU R hD0 hQK
  go_wp2_with fail
  go_loopw [5] (fun nn wr => ∃ (i : Nat) (Pp Sm : Sp), nn = .int .i64 ((i : Int) + 2) ∧ i ≤ b + 18 ∧ NearSt w wr BU CU b K z Pp Sm a (npT b a i) (nsT b a i)) (fun nn _ => b + 30 - (intOf nn).toNat)
  case atStart => exact ⟨0, xU, yU, rfl, by omega, st0⟩
  case round =>
    obtain ⟨i, Pp, Sm, rfl, hi, st⟩ := hrel
    clear st0
    have lz := st.z.lt
    have lp := st.p.lt
    by_cases hlim : (i : Int) + 2 < z.bits + 20
    · have hi2 : i + 1 ≤ b + 18 := by have := unhide HB; omega
      obtain ⟨x0, x1, x2, x3, x4⟩ := st.z
      obtain ⟨⟨y0, y1, y2, y3, y4⟩, y5⟩ := st.p
      go_wp2_with fail
      refine (refSmall _ Pp K 1 _ _ st.pp (by omega) (by omega)).mono ?_
      rintro r w1 ⟨rfl, hb1⟩
      rw [small_reach]
      have er : reachI ((npT b a i).1, (npT b a i).2) = reachI (npT b a i) := rfl
      rw [er]
      replace st := st.below hb1
      clear hb1 er x0 x1 x2 x3 x4 y0 y1 y2 y3 y4 y5 lz lp
      by_cases hr : reachI (npT b a i) ≤ 1
      · have HE : Hid (reachI (npT b a i) ≤ 1 ∨ b ≤ i + 1) := hide (Or.inl hr)
        rw [decide_eq_true hr]
        clear hr
        have ls6 := st.s.lt
        obtain ⟨⟨z0, z1, z2, z3, z4⟩, z5⟩ := st.s
        go_wp2_with fail
        refine (refTail _ Sm K 2 _ _ st.sp (by omega) (by omega) (by omega) (by omega)).mono ?_
        rintro r w7 ⟨v7, rfl, hvb7, hvp7, hb7⟩
        obtain ⟨q0, q1, q2, q3, q4, q5⟩ := st.no.below hb7
        have hBf := bthen st.be hb7
        have HV7 := hide (hvb7.trans st.sb)
        clear hvb7 hb7
        go_wp2_with fail
        refine bodyPost_ret (v := .agg #[.bool v7.ln, .slice v7.la v7.lN v7.lc, .bool v7.hn, .slice v7.ha v7.hN v7.hc, .int .i64 v7.bits]) (by simp [results, Tryz.results195, go_sem, q0, q1, q2, q3, q4]) rfl ⟨i, by omega, unhide HE, v7, rfl, unhide HV7, ?_, ?_⟩
        · exact SpAt.put5 hvp7 q0 q1 q2 q3 q4 _ _ _ _ _
        · exact set5 hBf (Nat.le_succ _) _ _ _ _ _
      · rw [decide_eq_false hr]
        clear hr
        have lz := st.z.lt
        have lp := st.p.lt
        obtain ⟨x0, x1, x2, x3, x4⟩ := st.z
        obtain ⟨⟨y0, y1, y2, y3, y4⟩, y5⟩ := st.p
        go_wp2_with fail
        refine (refTimes_iv _ Pp z K b (npT b a i) a st.pp st.zp (by omega) st.pb (by omega)).mono ?_
        rintro r w2 ⟨v1, rfl, hvb1, hvp1, hb2⟩
        have e1 : mulI b (npT b a i) a = npT b a (i + 1) := rfl
        rw [e1] at hvp1
        replace hvp1 := hvp1.fits (K := K) (npT_le hle (i + 1)) (unhide HFIT _).1 (unhide HFIT _).2
        replace st := st.below hb2
        have HV1 := hide hvb1
        clear hb2 hvb1 e1 x0 x1 x2 x3 x4 y0 y1 y2 y3 y4 y5 lz lp
        have stn : NearSt w (put5w w2 BU v1) BU CU b K z v1 Sm a (npT b a (i + 1)) (nsT b a i) := ⟨st.z.off (Ne.symm st.m1) v1, st.p.put v1, st.s.off (Ne.symm st.n) v1, st.zp.put st.p.c v1, hvp1.put st.p.c v1, st.sp.put st.p.c v1, unhide HV1, st.sb, st.no.off (Ne.symm st.l1) v1, below_put st.be st.k1 v1, st.l1, st.l2, st.m1, st.m2, st.k1, st.k2, st.n⟩
        have lp := st.p.lt
        obtain ⟨⟨y0, y1, y2, y3, y4⟩, y5⟩ := st.p
        clear st hvp1
        obtain ⟨V1, hV1⟩ : ∃ V1, V1 = put5w w2 BU v1 := ⟨_, rfl⟩
        rw [← hV1] at stn
        unfold put5w at hV1
        go_wp2_with fail
        rw [← hV1]
        clear hV1 y0 y1 y2 y3 y4 y5 lp
        have st := stn
        clear stn
        have lp := st.p.lt
        have HPP := hide st.pp
        have HPB := hide st.pb
        have HKT := hide (show ∀ w', Below V1.heap.size V1 w' → (w'.cell? ⟨BU, 0, none⟩ = some (.bool v1.ln) ∧ w'.cell? ⟨BU, 1, none⟩ = some (.slice v1.la v1.lN v1.lc) ∧ w'.cell? ⟨BU, 2, none⟩ = some (.bool v1.hn) ∧ w'.cell? ⟨BU, 3, none⟩ = some (.slice v1.ha v1.hN v1.hc) ∧ w'.cell? ⟨BU, 4, none⟩ = some (.int .i64 v1.bits)) from fun w' hB => ⟨(st.p.below hB).c.c0, (st.p.below hB).c.c1, (st.p.below hB).c.c2, (st.p.below hB).c.c3, (st.p.below hB).c.c4⟩)
        obtain ⟨y0, y1, y2, y3, y4⟩ := unhide HKT _ (Below.refl _ _)
        go_cut [6] (fun p wx => ∃ (B : Nat) (u : Sp), p = .pointer (some ⟨B, 0, none⟩) ∧ V1.heap.size ≤ B ∧ VrC wx B u ∧ SpAt wx u K (scaleI (npT b a (i + 1)) 1 ((i : Int) + 2)).1 (scaleI (npT b a (i + 1)) 1 ((i : Int) + 2)).2 ∧ u.bits = (b : Int) ∧ Below V1.heap.size V1 wx)
        case first =>
          go_region_held3 (fun w' => w'.cell? ⟨BU, 0, none⟩ = some (.bool v1.ln) ∧ w'.cell? ⟨BU, 1, none⟩ = some (.slice v1.la v1.lN v1.lc) ∧ w'.cell? ⟨BU, 2, none⟩ = some (.bool v1.hn) ∧ w'.cell? ⟨BU, 3, none⟩ = some (.slice v1.ha v1.hN v1.hc) ∧ w'.cell? ⟨BU, 4, none⟩ = some (.int .i64 v1.bits)) (exact unhide HKT _ (by repeat' (first | with_reducible exact hBT3 | with_reducible exact hBT2 | with_reducible exact hBT1 | with_reducible exact Below.refl _ _ | with_reducible refine Below.drew ?_ | with_reducible refine balloc ?_ _ | with_reducible refine Below.setCell ?_ (by first | exact Nat.le_refl _ | exact hlT1 | exact hlT2 | exact hlT3) _)))
            (first
              | (go_at_call 56; have hq := hBT2; refine (refBy _ v1 ⟨negT1, aT1, nT1, cT1⟩ ⟨negT2, aT2, nT2, cT2⟩ K _ _ b (npT b a (i + 1)) 1 ((i : Int) + 2) ((unhide HPP).below (by first | with_reducible exact hBT2 | with_reducible exact balloc hBT2 _)) (hintT1.below (by first | with_reducible exact Below.refl _ _ | with_reducible exact bl1 _ _)) (hintT2.below (by first | with_reducible exact Below.refl _ _ | with_reducible exact bl1 _ _)) (by omega) (by omega) (by omega) (by omega) (unhide HPB)).mono ?_; rintro r wT3 ⟨vT3, rfl, hvbT3, hintT3, hbT3⟩; have HVBT3 := hide hvbT3; clear hvbT3; have hCT3 : Below wT2.heap.size wT2 wT3 := (by first | with_reducible exact hbT3 | with_reducible exact bthen (bl1 _ _) hbT3); have hBT3 := bthen hBT2 hCT3; (try with_reducible have gT3 := (noc_new wT2 36).below hbT3); replace hintT1 := hintT1.below hCT3; (try replace gT1 := gT1.below hCT3); replace hintT2 := hintT2.below hCT3; (try replace gT2 := gT2.below hCT3); have hlT3 := hBT3.size; (try have mT1 := gT1.lt); (try have eT1 := Nat.ne_of_lt mT1); (try have eT1' := Nat.ne_of_gt mT1); (try obtain ⟨zT10, zT11, zT12, zT13, zT14, zT15⟩ := gT1); (try have mT2 := gT2.lt); (try have eT2 := Nat.ne_of_lt mT2); (try have eT2' := Nat.ne_of_gt mT2); (try obtain ⟨zT20, zT21, zT22, zT23, zT24, zT25⟩ := gT2); (try have mT3 := gT3.lt); (try have eT3 := Nat.ne_of_lt mT3); (try have eT3' := Nat.ne_of_gt mT3); (try obtain ⟨zT30, zT31, zT32, zT33, zT34, zT35⟩ := gT3))
              | (go_at_call 43; have hq := hBT1; refine (numOf_int ((i : Int) + 2) _ (by omega) (by omega)).mono ?_; rintro r wT2 ⟨negT2, aT2, nT2, cT2, rfl, hintT2, hbT2⟩; have hCT2 : Below wT1.heap.size wT1 wT2 := (by first | with_reducible exact hbT2 | with_reducible exact bthen (bl1 _ _) hbT2); have hBT2 := bthen hBT1 hCT2; (try with_reducible have gT2 := (noc_new wT1 36).below hbT2); replace hintT1 := hintT1.below hCT2; (try replace gT1 := gT1.below hCT2); have hlT2 := hBT2.size)
              | (go_at_call 43; refine (numOf_int 1 _ (by decide) (by decide)).mono ?_; rintro r wT1 ⟨negT1, aT1, nT1, cT1, rfl, hintT1, hbT1⟩; have hBT1 : Below V1.heap.size V1 wT1 := (by first | with_reducible exact bthen (Below.refl _ _).drew hbT1 | with_reducible exact bthen (bl1 _ _).drew hbT1); (try with_reducible have gT1 := ((noc_new V1 36).below (Below.refl _ _).drew).below hbT1); have hlT1 := hBT1.size))
          all_goals
            have hfinT : SpAt wT3 vT3 K (scaleI (npT b a (i + 1)) 1 ((i : Int) + 2)).1 (scaleI (npT b a (i + 1)) 1 ((i : Int) + 2)).2 := (by rw [byI_nonneg (npT_le hle (i + 1)) (by omega)] at hintT3; exact hintT3.fits (K := K) (scaleI_le (npT_le hle (i + 1)) (by omega) (by omega)) (unhide HFITC i).1 (unhide HFITC i).2)
            go_wp2_with fail
            go_meet
            refine ⟨_, vT3, rfl, ?_, ⟨⟨?_, ?_, ?_, ?_, ?_⟩, ?_⟩, ?_, unhide HVBT3, ?_⟩
            · first | exact Nat.le_refl _ | exact hlT1 | exact hlT2 | exact hlT3
            · simp [go_sem, *]
            · simp [go_sem, *]
            · simp [go_sem, *]
            · simp [go_sem, *]
            · simp [go_sem, *]
            · intro o; simp [go_sem, *]
            · first | with_reducible exact hfinT.below (bl1 _ _) | with_reducible exact SpAt.put5 hfinT (by assumption) (by assumption) (by assumption) (by assumption) (by assumption) _ _ _ _ _
            · repeat' (first | with_reducible exact hBT3 | with_reducible exact hBT2 | with_reducible exact hBT1 | with_reducible exact Below.refl _ _ | with_reducible refine Below.drew ?_ | with_reducible refine balloc ?_ _ | with_reducible refine Below.setCell ?_ (by first | exact Nat.le_refl _ | exact hlT1 | exact hlT2 | exact hlT3) _)
        case rest =>
        obtain ⟨BT, xT, rfl, hHT, XT, hpT, hxbT, hblT⟩ := hcut
        replace st := st.below hblT
        clear y0 y1 y2 y3 y4 HKT HPP HPB lp
        have HXB := hide hxbT
        clear hxbT
        have lT := XT.lt
        have ls := st.s.lt
        obtain ⟨⟨y0, y1, y2, y3, y4⟩, y5⟩ := st.s
        obtain ⟨⟨t0, t1, t2, t3, t4⟩, t5⟩ := XT
        by_cases hpar : (i + 2) % 2 = 0
        · have HE5 := hide (show subI (nsT b a i) (scaleI (npT b a (i + 1)) 1 ((i : Int) + 2)) = nsT b a (i + 1) by rw [nsT, if_pos hpar])
          have hm1 : ((i : Int) + 2) % 2 = 0 := by omega
          have hm2 : ((i : Int) + 2).tmod 2 = 0 := by rw [Int.tmod_eq_emod_of_nonneg (by omega)]; omega
          clear hpar
          go_wp2_with fail
          clear y0 y1 y2 y3 y4 y5 t0 t1 t2 t3 t4 t5 hm1 hm2
          refine (refLess_iv _ Sm xT K b (nsT b a i) (scaleI (npT b a (i + 1)) 1 ((i : Int) + 2)) st.sp hpT (by omega) st.sb).mono ?_
          rintro r w5 ⟨v5, rfl, hvb5, hvp5, hb5⟩
          rw [unhide HE5] at hvp5
          replace hvp5 := hvp5.fits (K := K) (nsT_le hle (i + 1)) (unhide HFITS (i + 1) (by omega)).1 (unhide HFITS (i + 1) (by omega)).2
          replace st := st.below hb5
          have HV5 := hide hvb5
          clear hb5 hvb5 hpT
          have stn : NearSt w (put5w w5 CU v5) BU CU b K z v1 v5 a (npT b a (i + 1)) (nsT b a (i + 1)) := ⟨st.z.off (Ne.symm st.m2) v5, st.p.off st.n v5, st.s.put v5, st.zp.put st.s.c v5, st.pp.put st.s.c v5, hvp5.put st.s.c v5, st.pb, unhide HV5, st.no.off (Ne.symm st.l2) v5, below_put st.be st.k2 v5, st.l1, st.l2, st.m1, st.m2, st.k1, st.k2, st.n⟩
          have ls5 := st.s.lt
          obtain ⟨⟨y0, y1, y2, y3, y4⟩, y5⟩ := st.s
          clear st hvp5
          obtain ⟨V6, hV6⟩ : ∃ V6, V6 = put5w w5 CU v5 := ⟨_, rfl⟩
          rw [← hV6] at stn
          unfold put5w at hV6
          go_wp2_with fail
          rw [← hV6]
          clear hV6 y0 y1 y2 y3 y4 y5
          go_roundw
          case rel => exact ⟨i + 1, v1, v5, by go_num, by omega, stn⟩
          case measure => simp [intOf]; omega
        · have HE5 := hide (show addI (nsT b a i) (scaleI (npT b a (i + 1)) 1 ((i : Int) + 2)) = nsT b a (i + 1) by rw [nsT, if_neg hpar])
          have hm1 : ((i : Int) + 2) % 2 = 1 := by omega
          have hm2 : ((i : Int) + 2).tmod 2 = 1 := by rw [Int.tmod_eq_emod_of_nonneg (by omega)]; omega
          clear hpar
          go_wp2_with fail
          clear y0 y1 y2 y3 y4 y5 t0 t1 t2 t3 t4 t5 hm1 hm2
          refine (refPlus_iv _ Sm xT K b (nsT b a i) (scaleI (npT b a (i + 1)) 1 ((i : Int) + 2)) st.sp hpT (by omega) st.sb).mono ?_
          rintro r w5 ⟨v5, rfl, hvb5, hvp5, hb5⟩
          rw [unhide HE5] at hvp5
          replace hvp5 := hvp5.fits (K := K) (nsT_le hle (i + 1)) (unhide HFITS (i + 1) (by omega)).1 (unhide HFITS (i + 1) (by omega)).2
          replace st := st.below hb5
          have HV5 := hide hvb5
          clear hb5 hvb5 hpT
          have stn : NearSt w (put5w w5 CU v5) BU CU b K z v1 v5 a (npT b a (i + 1)) (nsT b a (i + 1)) := ⟨st.z.off (Ne.symm st.m2) v5, st.p.off st.n v5, st.s.put v5, st.zp.put st.s.c v5, st.pp.put st.s.c v5, hvp5.put st.s.c v5, st.pb, unhide HV5, st.no.off (Ne.symm st.l2) v5, below_put st.be st.k2 v5, st.l1, st.l2, st.m1, st.m2, st.k1, st.k2, st.n⟩
          have ls5 := st.s.lt
          obtain ⟨⟨y0, y1, y2, y3, y4⟩, y5⟩ := st.s
          clear st hvp5
          obtain ⟨V6, hV6⟩ : ∃ V6, V6 = put5w w5 CU v5 := ⟨_, rfl⟩
          rw [← hV6] at stn
          unfold put5w at hV6
          go_wp2_with fail
          rw [← hV6]
          clear hV6 y0 y1 y2 y3 y4 y5
          go_roundw
          case rel => exact ⟨i + 1, v1, v5, by go_num, by omega, stn⟩
          case measure => simp [intOf]; omega
    · have HE : Hid (reachI (npT b a i) ≤ 1 ∨ b ≤ i + 1) := hide (Or.inr (by have := unhide HB; omega))
      obtain ⟨x0, x1, x2, x3, x4⟩ := st.z
      have ls6 := st.s.lt
      obtain ⟨⟨z0, z1, z2, z3, z4⟩, z5⟩ := st.s
      go_wp2_with fail
      refine (refTail _ Sm K 2 _ _ st.sp (by omega) (by omega) (by omega) (by omega)).mono ?_
      rintro r w7 ⟨v7, rfl, hvb7, hvp7, hb7⟩
      obtain ⟨q0, q1, q2, q3, q4, q5⟩ := st.no.below hb7
      have hBf := bthen st.be hb7
      have HV7 := hide (hvb7.trans st.sb)
      clear hvb7 hb7
      go_wp2_with fail
      refine bodyPost_ret (v := .agg #[.bool v7.ln, .slice v7.la v7.lN v7.lc, .bool v7.hn, .slice v7.ha v7.hN v7.hc, .int .i64 v7.bits]) (by simp [results, Tryz.results195, go_sem, q0, q1, q2, q3, q4]) rfl ⟨i, by omega, unhide HE, v7, rfl, unhide HV7, ?_, ?_⟩
      · exact SpAt.put5 hvp7 q0 q1 q2 q3 q4 _ _ _ _ _
      · exact set5 hBf (Nat.le_succ _) _ _ _ _ _
end Go.Proofs.YtgmnknmjainababGreat
namespace Go.Proofs.YtgmnknmjainababGreat
open Go.RowKit
attribute [local go_sem ↓] Go.wp_at_zero Go.wp_at_succ
open Ex
structure LmW (w wr : World) (X Y : Nm) (n d : Int) (BT BU BA : Nat) (T U : Sp) (A : Nm) (m k K : Nat) (a c : Int × Int) : Prop where
  x : NmC wr w.heap.size X
  y : NmC wr (w.heap.size + 1) Y
  ix : IntAt wr X.neg X.a X.n X.cap 20 n
  iy : IntAt wr Y.neg Y.a Y.n Y.cap 20 d
  t : VrC wr BT T
  u : VrC wr BU U
  at_ : VnC wr BA A
  tb : T.bits = (m : Int)
  ub : U.bits = (m : Int)
  tp : SpAt wr T K a.1 a.2
  up : SpAt wr U K c.1 c.2
  ap : IntAt wr A.neg A.a A.n A.cap (k + 20) (n + (k : Int) * d)
  r : NoC wr (w.heap.size + 1 + 1)
  be : Below w.heap.size w wr
  l1 : w.heap.size + 1 + 1 < BT
  l2 : w.heap.size + 1 + 1 < BU
  l3 : w.heap.size + 1 + 1 < BA
  n1 : BT ≠ BU
  n2 : BT ≠ BA
  n3 : BU ≠ BA
theorem LmW.below {w wr : World} {X Y : Nm} {n d : Int} {BT BU BA : Nat} {T U : Sp} {A : Nm} {m k K : Nat} {a c : Int × Int} (h : LmW w wr X Y n d BT BU BA T U A m k K a c) {wr' : World} (hb : Below wr.heap.size wr wr') : LmW w wr' X Y n d BT BU BA T U A m k K a c :=
  ⟨h.x.below hb, h.y.below hb, h.ix.below hb, h.iy.below hb, h.t.below hb, h.u.below hb, h.at_.below hb, h.tb, h.ub, h.tp.below hb, h.up.below hb, h.ap.below hb, h.r.below hb, bthen h.be hb, h.l1, h.l2, h.l3, h.n1, h.n2, h.n3⟩
theorem LmW.putT {w wr : World} {X Y : Nm} {n d : Int} {BT BU BA : Nat} {T U : Sp} {A : Nm} {m k K : Nat} {a c : Int × Int} (h : LmW w wr X Y n d BT BU BA T U A m k K a c) {T' : Sp} {a' : Int × Int} (hb : T'.bits = (m : Int)) (hp : SpAt wr T' K a'.1 a'.2) : LmW w (put5w wr BT T') X Y n d BT BU BA T' U A m k K a' c :=
  have l1 := h.l1
  ⟨h.x.offP (by omega) _, h.y.offP (by omega) _, h.ix.put h.t.c _, h.iy.put h.t.c _, h.t.put _, h.u.off (Ne.symm h.n1) _, ⟨h.at_.c.offP (Ne.symm h.n2) _, fz_put5 h.at_.fz _⟩, hb, h.ub, hp.put h.t.c _, h.up.put h.t.c _, h.ap.put h.t.c _, h.r.off (by omega) _, set5 h.be (by omega) _ _ _ _ _, h.l1, h.l2, h.l3, h.n1, h.n2, h.n3⟩
theorem LmW.putU {w wr : World} {X Y : Nm} {n d : Int} {BT BU BA : Nat} {T U : Sp} {A : Nm} {m k K : Nat} {a c : Int × Int} (h : LmW w wr X Y n d BT BU BA T U A m k K a c) {U' : Sp} {c' : Int × Int} (hb : U'.bits = (m : Int)) (hp : SpAt wr U' K c'.1 c'.2) : LmW w (put5w wr BU U') X Y n d BT BU BA T U' A m k K a c' :=
  have l2 := h.l2
  ⟨h.x.offP (by omega) _, h.y.offP (by omega) _, h.ix.put h.u.c _, h.iy.put h.u.c _, h.t.off h.n1 _, h.u.put _, ⟨h.at_.c.offP (Ne.symm h.n3) _, fz_put5 h.at_.fz _⟩, h.tb, hb, h.tp.put h.u.c _, hp.put h.u.c _, h.ap.put h.u.c _, h.r.off (by omega) _, set5 h.be (by omega) _ _ _ _ _, h.l1, h.l2, h.l3, h.n1, h.n2, h.n3⟩
theorem LmW.putB {w wr : World} {X Y : Nm} {n d : Int} {BT BU BA : Nat} {T U : Sp} {A : Nm} {m k K : Nat} {a c : Int × Int} (h : LmW w wr X Y n d BT BU BA T U A m k K a c) {T' U' : Sp} {a' c' : Int × Int} (hb : T'.bits = (m : Int)) (hp : SpAt wr T' K a'.1 a'.2) (hb' : U'.bits = (m : Int)) (hp' : SpAt wr U' K c'.1 c'.2) : LmW w (put5w (put5w wr BT T') BU U') X Y n d BT BU BA T' U' A m k K a' c' :=
  (h.putT hb hp).putU hb' (hp'.put h.t.c _)
theorem LmW.putA {w wr : World} {X Y : Nm} {n d : Int} {BT BU BA : Nat} {T U : Sp} {A : Nm} {m k K : Nat} {a c : Int × Int} (h : LmW w wr X Y n d BT BU BA T U A m k K a c) {A' : Nm} (hp : IntAt wr A'.neg A'.a A'.n A'.cap (k + 1 + 20) (n + ((k + 1 : Nat) : Int) * d)) : LmW w (put2w wr BA A') X Y n d BT BU BA T U A' m (k + 1) K a c :=
  have l3 := h.l3
  ⟨h.x.off (by omega) _ _, h.y.off (by omega) _ _, h.ix.putv h.at_ _, h.iy.putv h.at_ _, h.t.offv h.n2 _, h.u.offv h.n3 _, h.at_.put _, h.tb, h.ub, h.tp.put2 h.at_.c.c0 h.at_.c.c1 _ _, h.up.put2 h.at_.c.c0 h.at_.c.c1 _ _, hp.putv h.at_ _, h.r.offv (by omega) _, set2 h.be (by omega) _ _, h.l1, h.l2, h.l3, h.n1, h.n2, h.n3⟩
theorem LmW.fits {w wr : World} {X Y : Nm} {n d : Int} {BT BU BA : Nat} {T U : Sp} {A : Nm} {m k K : Nat} {a c : Int × Int} (h : LmW w wr X Y n d BT BU BA T U A m k K a c) {K' : Nat} (e1 : a.1 ≤ a.2) (e2 : -P K' < a.1) (e3 : a.2 < P K') (f1 : c.1 ≤ c.2) (f2 : -P K' < c.1) (f3 : c.2 < P K') : LmW w wr X Y n d BT BU BA T U A m k K' a c :=
  ⟨h.x, h.y, h.ix, h.iy, h.t, h.u, h.at_, h.tb, h.ub, h.tp.fits e1 e2 e3, h.up.fits f1 f2 f3, h.ap, h.r, h.be, h.l1, h.l2, h.l3, h.n1, h.n2, h.n3⟩
theorem LmW.mono {w wr : World} {X Y : Nm} {n d : Int} {BT BU BA : Nat} {T U : Sp} {A : Nm} {m k K : Nat} {a c : Int × Int} (h : LmW w wr X Y n d BT BU BA T U A m k K a c) {K' : Nat} (e : K ≤ K') : LmW w wr X Y n d BT BU BA T U A m k K' a c :=
  ⟨h.x, h.y, h.ix, h.iy, h.t, h.u, h.at_, h.tb, h.ub, h.tp.mono e, h.up.mono e, h.ap, h.r, h.be, h.l1, h.l2, h.l3, h.n1, h.n2, h.n3⟩
theorem lm_at (n d : Int) (k : Nat) : n + (k : Int) * d + d = n + ((k + 1 : Nat) : Int) * d := by
  rw [show ((k + 1 : Nat) : Int) = (k : Int) + 1 by omega, Int.add_mul, Int.one_mul, Int.add_assoc]
theorem lm_pos {n d : Int} {b x : Nat} (h : LmIn n d b x) (k : Nat) : 0 < n + (k : Int) * d := by
  have h1 := h.n0
  have h2 := Int.mul_nonneg (show (0 : Int) ≤ (k : Int) by omega) (show 0 ≤ d by have := h.d0; omega)
  omega
theorem lm_by {n d zz : Int} {b x m k : Nat} {s : LmSt} (h : LmIn n d b x) (o : LmOk n d x m k s) (hz : (x : Int) = zz) : byI s.T (zz * d) (n + ((k + 1 : Nat) : Int) * d) = lmT n d x k s.T := by
  have h1 := h.d0
  have h2 := Int.mul_nonneg (show (0 : Int) ≤ zz by omega) (show 0 ≤ d by omega)
  rw [byI_nonneg o.tl h2, ← hz]
  rfl
theorem lm_fit {n d : Int} {x m k : Nat} {T U : Int × Int} (o : LmMid n d x m k T U) (hm : m ≤ 1000) : T.2 < P 100 ∧ U.2 < P 100 ∧ -P 100 < T.1 ∧ -P 100 < U.1 := by
  have h1 := Q_mono (show m + 140 + 1 ≤ 16 * 100 by omega)
  have h2 := Q_pos (m + 140)
  have h3 : Q (m + 140 + 1) = 2 * Q (m + 140) := rfl
  rw [Q_P] at h1
  have := o.us
  have := o.tu
  have := o.t0
  have := o.u1
  omega
theorem lm_len {z l : Int} {m : Nat} (h : LenIs z l) (hz : 0 < z) : (((m + 128 : Nat) : Int) < l) ↔ Q (m + 128) ≤ z := by
  obtain ⟨L, rfl, h1, h2⟩ := h.2.2 hz
  constructor
  · intro h3
    exact Int.le_trans (Q_mono (by omega)) h1
  · intro h3
    by_cases c : m + 128 ≤ L
    · omega
    · have := Q_mono (show L + 1 ≤ m + 128 by omega)
      omega
theorem lm_e (n d : Int) (x m : Nat) : ∀ k, (lmS n d x m k).e ≤ k
  | 0 => Nat.le_refl _
  | k + 1 => by
    have := lm_e n d x m k
    show (lmNext n d x m k (lmS n d x m k)).e ≤ k + 1
    unfold lmNext
    split
    · show (lmS n d x m k).e + 1 ≤ k + 1; omega
    · show (lmS n d x m k).e ≤ k + 1; omega
end Go.Proofs.YtgmnknmjainababGreat
namespace Go.Proofs.YtgmnknmjainababGreat
open Go.RowKit
attribute [local go_sem ↓] Go.wp_at_zero Go.wp_at_succ
def RefErf (X : Int) (B : Nat) (lo hi : Int) : Prop := ∀ (w' : World) (x : Nm), IntAt w' x.neg x.a x.n x.cap 100 X → Calls Tryz.prog 110 #[.agg #[.bool x.neg, .slice x.a x.n x.cap], .int .i64 B] w' (SpanAns w' B 200001 lo hi)
end Go.Proofs.YtgmnknmjainababGreat
namespace Go.Proofs.YtgmnknmjainababGreat
open Go.RowKit
attribute [local go_sem ↓] Go.wp_at_zero Go.wp_at_succ
def RefErf2 (X : Int) (B : Nat) (lo hi : Int) : Prop := ∀ (w' : World) (x : Nm), IntAt w' x.neg x.a x.n x.cap 100 X → Calls Tryz.prog 110 #[.agg #[.bool x.neg, .slice x.a x.n x.cap], .int .i64 B] w' (SpanAns w' B 200002 lo hi)
theorem RefErf.two {X : Int} {B : Nat} {lo hi : Int} (h : RefErf X B lo hi) : RefErf2 X B lo hi := fun w' x hx => (h w' x hx).mono fun r w'' ⟨s, e1, e2, e3, e4⟩ => ⟨s, e1, e2, e3.mono (by omega), e4⟩
end Go.Proofs.YtgmnknmjainababGreat
namespace Go.Proofs.YtgmnknmjainababGreat
open Ex
theorem Iv.nought {b : Nat} {a : Int × Int} (h : Iv b a (fun _ => 0)) : a.1 ≤ 0 ∧ 0 ≤ a.2 := by
  have q := Qr_pos b
  obtain ⟨h1, h2⟩ := Has.of_const h
  constructor
  · refine Int.not_lt.1 fun hlt => ?_
    have : (0 : Rat) < (a.1 : Rat) := by exact_mod_cast hlt
    have := rdiv_pos this q
    grind
  · refine Int.not_lt.1 fun hlt => ?_
    have h3 : (a.2 : Rat) < 0 := by exact_mod_cast hlt
    have h4 := rdiv_pos (show 0 < -(a.2 : Rat) by grind) q
    have e : -(a.2 : Rat) / (Q b : Rat) = -((a.2 : Rat) / (Q b : Rat)) := by rw [Rat.div_def, Rat.div_def, Rat.neg_mul]
    grind
end Go.Proofs.YtgmnknmjainababGreat
