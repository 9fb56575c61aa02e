/-
  Texts GamJ, GamK, GamL, Lst2: what they hold is told in the last text.
-/
import Derived.Test.YtgmnknmjainababK15
set_option linter.unusedVariables false
namespace Go.Proofs.Ytgmnknmjainabab
open Ex
theorem mulI_sq {B : Nat} {a : Int × Int} (h0 : 0 ≤ a.1) (hl : a.1 ≤ a.2) : (mulI B a a).1 = a.1 * a.1 / Q B ∧ (mulI B a a).2 = -(-(a.2 * a.2) / Q B) := by
  obtain ⟨l1, l2, l3, l4, lh⟩ := least4 (a.1 * a.1) (a.1 * a.2) (a.2 * a.1) (a.2 * a.2)
  obtain ⟨g1, g2, g3, g4, gh⟩ := greatest4 (a.1 * a.1) (a.1 * a.2) (a.2 * a.1) (a.2 * a.2)
  have m1 := Int.mul_le_mul_of_nonneg_left hl h0
  have m2 := Int.mul_le_mul_of_nonneg_right hl h0
  have m3 := Int.mul_le_mul_of_nonneg_left hl (show 0 ≤ a.2 by omega)
  have m4 := Int.mul_le_mul_of_nonneg_right hl (show 0 ≤ a.2 by omega)
  unfold mulI
  have e1 : leastZ (pr4 (a.1 * a.1) (a.1 * a.2) (a.2 * a.1) (a.2 * a.2)) 3 = a.1 * a.1 := by omega
  have e2 : mostZ (pr4 (a.1 * a.1) (a.1 * a.2) (a.2 * a.1) (a.2 * a.2)) 3 = a.2 * a.2 := by omega
  rw [e1, e2]
  exact ⟨rfl, rfl⟩
theorem sq_rel {B : Nat} {a : Int × Int} {C : Int} (h0 : 0 ≤ a.1) (hl : a.1 ≤ a.2) (hC : 0 ≤ C) (h : (a.2 - a.1) * Q B ≤ C * a.2) (hq : Q B ≤ 2 * (mulI B a a).2) : ((mulI B a a).2 - (mulI B a a).1) * Q B ≤ (2 * C + 4) * (mulI B a a).2 := by
  have q := Q_pos B
  obtain ⟨e1, e2⟩ := mulI_sq (B := B) h0 hl
  have f1 := dv_floor2 (a.1 * a.1) (show 0 < Q B by omega)
  have f2 := dv_floor2 (-(a.2 * a.2)) (show 0 < Q B by omega)
  have f3 := dv_ceil (a.2 * a.2) (show 0 < Q B by omega)
  rw [← e1] at f1
  rw [← e2] at f3
  have f4 : ((mulI B a a).2 - 1) * Q B < a.2 * a.2 := by
    have : (-(a.2 * a.2) / Q B + 1) * Q B = -(((mulI B a a).2 - 1) * Q B) := by rw [e2]; grind
    omega
  generalize (mulI B a a).1 = x at *
  generalize (mulI B a a).2 = y at *
  have g1 : (y - x) * Q B ≤ a.2 * a.2 - a.1 * a.1 + 2 * Q B := by
    have r1 : (y - 1) * Q B = y * Q B - Q B := by grind
    have r2 : (x + 1) * Q B = x * Q B + Q B := by grind
    have r3 : (y - x) * Q B = y * Q B - x * Q B := by grind
    omega
  have m1 := Int.mul_le_mul_of_nonneg_left h (show 0 ≤ 2 * a.2 by omega)
  have m2 : (a.2 * a.2 - a.1 * a.1) * Q B ≤ 2 * a.2 * ((a.2 - a.1) * Q B) := by
    have r : a.2 * a.2 - a.1 * a.1 = 2 * a.2 * (a.2 - a.1) - (a.2 - a.1) * (a.2 - a.1) := by grind
    have s := Int.mul_nonneg (show 0 ≤ a.2 - a.1 by omega) (show 0 ≤ a.2 - a.1 by omega)
    have m := Int.mul_le_mul_of_nonneg_right (show a.2 * a.2 - a.1 * a.1 ≤ 2 * a.2 * (a.2 - a.1) by omega) (show 0 ≤ Q B by omega)
    have r2 : 2 * a.2 * (a.2 - a.1) * Q B = 2 * a.2 * ((a.2 - a.1) * Q B) := by grind
    omega
  have m3 := Int.mul_le_mul_of_nonneg_left f3 (show 0 ≤ 2 * C by omega)
  have r4 : 2 * a.2 * (C * a.2) = 2 * C * (a.2 * a.2) := by grind
  have r5 : 2 * C * (y * Q B) = 2 * C * y * Q B := by grind
  rw [r4] at m1
  rw [r5] at m3
  have m4 : a.2 * a.2 - a.1 * a.1 ≤ 2 * C * y := Int.le_of_mul_le_mul_right (a := Q B) (by omega) (by omega)
  have r6 : (2 * C + 4) * y = 2 * C * y + 4 * y := by grind
  omega
theorem sqs_rel {B : Nat} {d : Int × Int} {C : Int} (hB : 40 ≤ B) (hd : d.1 ≤ d.2) (hl : Q B - 1 ≤ d.1) (hC : 0 ≤ C) (h : (d.2 - d.1) * Q B ≤ C * d.2) (i : Nat) (hi : i ≤ 20) :
    ((sqI B d i).2 - (sqI B d i).1) * Q B ≤ (Q i * (C + 4) - 4) * (sqI B d i).2 := by
  have h4 := Q_mono hB
  have e2 : Q 40 = 1099511627776 := rfl
  induction i with
  | zero =>
    show (d.2 - d.1) * Q B ≤ (1 * (C + 4) - 4) * d.2
    have : 1 * (C + 4) - 4 = C := by omega
    rw [this]; exact h
  | succ i ih =>
    have i1 := ih (by omega)
    have qi := Q_mono (show i + 1 ≤ 20 by omega)
    have e20 : Q 20 = 1048576 := rfl
    have es : Q (i + 1) = 2 * Q i := rfl
    have q0 := Q_pos i
    obtain ⟨l1, l2⟩ := sq_low (B := B) hd i (by omega) hl
    obtain ⟨l3, l4⟩ := sq_low (B := B) hd (i + 1) (by omega) hl
    have m := Int.mul_le_mul_of_nonneg_right q0 (show 0 ≤ C + 4 by omega)
    have r := sq_rel (B := B) (a := sqI B d i) (C := Q i * (C + 4) - 4) (by omega) l2 (by omega) i1 (by
      have e : (mulI B (sqI B d i) (sqI B d i)).2 = (sqI B d (i + 1)).2 := rfl
      rw [e]; omega)
    have ec : 2 * (Q i * (C + 4) - 4) + 4 = Q (i + 1) * (C + 4) - 4 := by rw [es]; grind
    rw [ec] at r
    exact r
theorem bal_nat {B : Nat} {n' d' c : Int} (h0 : 40 ≤ B) (h1 : B ≤ 1000) (h : Bal (B : Int) 1 n' d' c) : 0 ≤ c ∧ c ≤ 10 ∧ 4 * (c + 1) ≤ (B : Int) := by
  obtain ⟨⟨n0, d0, g1, g2⟩, h2, h3⟩ := h
  have c0 : 0 ≤ c := Int.not_lt.1 fun hc => by
    have e := h3 hc
    have q := Q_pos (-c).toNat
    have m := Int.mul_le_mul_of_nonneg_left q (show 0 ≤ (B : Int) * d' from Int.mul_nonneg (by omega) (by omega))
    have m2 := Int.mul_le_mul_of_nonneg_right (show (40 : Int) ≤ (B : Int) by omega) (show 0 ≤ d' by omega)
    omega
  have e := h2 c0
  obtain ⟨k, hk⟩ : ∃ k : Nat, c = (k : Int) := ⟨c.toNat, by omega⟩
  subst hk
  have ek : ((k : Int)).toNat = k := by omega
  rw [ek] at e
  have qk := Q_pos k
  have le : Q k ≤ 2 * (B : Int) := by
    have m := Int.mul_le_mul_of_nonneg_left (show d' ≤ 2 * n' by omega) (show 0 ≤ (B : Int) by omega)
    refine Int.le_of_mul_le_mul_left (a := n') ?_ n0
    have r1 : n' * 1 * Q k = n' * Q k := by grind
    have r2 : (B : Int) * (2 * n') = n' * (2 * (B : Int)) := by grind
    omega
  have k10 : k ≤ 10 := Nat.not_lt.1 fun hk => by
    have := Q_mono (show 11 ≤ k by omega)
    have : Q 11 = 2048 := rfl
    omega
  refine ⟨by omega, by omega, ?_⟩
  by_cases c9 : k ≤ 9
  · omega
  · have : k = 10 := by omega
    subst this
    have : Q 10 = 1024 := rfl
    omega
def gaY (n d : Int) (B : Nat) (o : Int × Int) : Int × Int := subI (ofI (B : Int) 1 B) (scaleI o n d)
structure GaLog (L : Rat → Nat → Rat) (B : Nat) (o : Int × Int) : Prop where
  le : o.1 ≤ o.2
  ab : Abs o ((B : Int) * Q B)
  wd : o.2 - o.1 ≤ 44 * (B : Int) + 308
  iv : Iv B o (L (B : Rat))
theorem gaLog_of {L : Rat → Nat → Rat} (hL : Lns L) {B : Nat} (h0 : 40 ≤ B) (h1 : B ≤ 1000) {n' d' c : Int} {N N2 : Nat} (h : Bal (B : Int) 1 n' d' c) (hN : IsStop (lnT n' d' B) N) (hN2 : IsStop (lnT 2 1 B) N2) : GaLog L B (lnOf (doneI (lnT n' d' B) N) (doneI (lnT 2 1 B) N2) c) := by
  obtain ⟨c0, c1, c2⟩ := bal_nat h0 h1 h
  obtain ⟨b1, b2, b3⟩ := log_bound (k := c) h.1 (show 16 ≤ B by omega) hN hN2 c (by omega) (by omega)
  obtain ⟨l, il, iv⟩ := log_has (show (0 : Int) < (B : Int) by omega) (by omega) h B N N2
  have q := Q_pos B
  refine ⟨b1, b2.mono ?_, ?_, ?_⟩
  · have m := Int.mul_le_mul_of_nonneg_right c2 (show 0 ≤ Q B by omega)
    have r : (c + 1) * (4 * Q B) = 4 * (c + 1) * Q B := by grind
    omega
  · have m := Int.mul_le_mul_of_nonneg_right (show c + 1 ≤ 11 by omega) (show 0 ≤ 2 * (((B : Int) / 3 + 2) * 6 + 2) by omega)
    omega
  · have e : (fun (_ : Nat) => ((B : Int) : Rat) / ((1 : Int) : Rat)) = fun _ => (B : Rat) := by
      funext _
      have e1 : ((1 : Int) : Rat) = 1 := rfl
      have e2 : ((B : Int) : Rat) = (B : Rat) := rfl
      rw [e1, e2, Rat.div_def]
      have : (1 : Rat)⁻¹ = 1 := by decide +kernel
      rw [this, Rat.mul_one]
    rw [e] at il
    have b0 : (0 : Rat) < (B : Rat) := by exact_mod_cast (show 0 < B by omega)
    exact iv.congr ((hL _ b0).uniq il)
theorem gaY_ok {L : Rat → Nat → Rat} {n d : Int} {B : Nat} {o : Int × Int} (h : GaIn n d B) (ho : GaLog L B o) : 0 ≤ (gaY n d B o).1 ∧ (gaY n d B o).1 ≤ (gaY n d B o).2 ∧ (gaY n d B o).2 - (gaY n d B o).1 ≤ 44 * (B : Int) + 309 ∧ reachI (gaY n d B o) < Q (B + 11) ∧ Iv B (gaY n d B o) (fun M => (B : Rat) - (n : Rat) / (d : Rat) * L (B : Rat) M) := by
  have n0 := h.n0
  have nd := h.nd
  have b0 := h.b0
  have b1 := h.b1
  have d0 : 0 < d := by omega
  have q := Q_pos B
  have sa := scaleI_abs ho.ab d0 (show 0 ≤ n by omega) nd
  have sl := scaleI_le ho.le d0 (show 0 ≤ n by omega)
  have sw := scaleI_wide (a := o) (n := n) (d := d) (c := o.2 - o.1) d0 (Int.mul_le_mul_of_nonneg_left nd (by have := ho.le; omega))
  have e1 : (ofI (B : Int) 1 B).1 = (B : Int) * Q B := Int.ediv_one _
  have e2 : (ofI (B : Int) 1 B).2 = (B : Int) * Q B := by show -(-((B : Int) * Q B) / 1) = _; rw [Int.ediv_one]; omega
  have g1 : (gaY n d B o).1 = (B : Int) * Q B - (scaleI o n d).2 := by show (ofI (B : Int) 1 B).1 - _ = _; rw [e1]
  have g2 : (gaY n d B o).2 = (B : Int) * Q B - (scaleI o n d).1 := by show (ofI (B : Int) 1 B).2 - _ = _; rw [e2]
  obtain ⟨s1, s2, s3, s4⟩ := sa
  have wd := ho.wd
  have lo : 0 ≤ (gaY n d B o).1 := by omega
  refine ⟨lo, by omega, by omega, ?_, ?_⟩
  · have r : reachI (gaY n d B o) ≤ 2 * ((B : Int) * Q B) := abs_reach ⟨by omega, by omega, by omega, by omega⟩
    have e : Q (B + 11) = Q B * Q 11 := Q_add B 11
    have e11 : Q 11 = 2048 := rfl
    rw [e11] at e
    have m := Int.mul_le_mul_of_nonneg_right (show (B : Int) ≤ 1000 by omega) (show 0 ≤ Q B by omega)
    omega
  · have i1 := Iv.of B (n := (B : Int)) (d := 1) (by decide)
    have i2 := ho.iv.scale (n := n) (d := d) (by omega) d0
    refine Has.of_eq (i1.sub i2) fun M => ?_
    have e1 : ((1 : Int) : Rat) = 1 := rfl
    have e2 : ((B : Int) : Rat) = (B : Rat) := rfl
    have e3 : (B : Rat) / 1 = (B : Rat) := by
      rw [Rat.div_def]
      have : (1 : Rat)⁻¹ = 1 := by decide +kernel
      rw [this, Rat.mul_one]
    rw [e1, e2, e3]
def gaE (n d : Int) (B : Nat) (o : Int × Int) (t N : Nat) : Int × Int := sqI B (doneI (expT B (downI (gaY n d B o) t)) N) t
theorem gaE_ok {L : Rat → Nat → Rat} {n d : Int} {B t N : Nat} {o : Int × Int} (h : GaIn n d B) (ho : GaLog L B o) (ht : t ≤ 19) (hA : Abs (downI (gaY n d B o) t) (Q (B - 8))) (hN : IsStop (expT B (downI (gaY n d B o) t)) N) :
    Q B + 1 ≤ 2 * (gaE n d B o t N).1 ∧ (gaE n d B o t N).1 ≤ (gaE n d B o t N).2 ∧ (gaE n d B o t N).2 ≤ Q (B + 6144) ∧ ((gaE n d B o t N).2 - (gaE n d B o t N).1) * Q B ≤ 9900000 * ((B : Int) * (B : Int)) * (gaE n d B o t N).2 ∧ Iv B (gaE n d B o t N) (Ev (fun M => (B : Rat) - (n : Rat) / (d : Rat) * L (B : Rat) M)) := by
  obtain ⟨y1, y2, y3, y4, y5⟩ := gaY_ok h ho
  have b0 := h.b0
  have b1 := h.b1
  have q := Q_pos t
  have qB := Q_pos B
  obtain ⟨g1, g2, g3, g4⟩ := exp_bound (ws := 44 * (B : Int) + 309) (by omega) hA y2 (by
    have m := Int.mul_le_mul_of_nonneg_left q (show 0 ≤ 44 * (B : Int) + 309 by omega)
    omega) hN
  have hs : 0 ≤ (downI (gaY n d B o) t).1 := Int.ediv_nonneg y1 (by omega)
  have hsl : (downI (gaY n d B o) t).1 ≤ (downI (gaY n d B o) t).2 := by
    have := scaleI_le (a := gaY n d B o) (n := 1) (d := Q t) y2 (by omega) (by omega)
    simpa [scaleI, downI] using this
  have dl := done_low hs hsl hN
  have dle := done_le (expT_le B (downI (gaY n d B o) t)) N
  have sl := sq_low (B := B) dle t (Q_mono (by omega)) dl
  have h3 := Q_mono (show t ≤ 19 by omega)
  have h4 := Q_mono b0
  have e19 : Q 19 = 524288 := rfl
  have e40 : Q 40 = 1099511627776 := rfl
  have eb19 : eb 19 = 6144 := by decide
  have ebm := eb_mono (show t ≤ 19 by omega)
  rw [eb19] at ebm
  have up := (g2.mono (Q_mono (show B + eb t ≤ B + 6144 by omega))).2.2.2
  have wd : (downI (gaY n d B o) t).2 - (downI (gaY n d B o) t).1 ≤ 44 * (B : Int) + 309 + 1 := div_wide (by omega) (by
    have m := Int.mul_le_mul_of_nonneg_left q (show 0 ≤ 44 * (B : Int) + 309 by omega)
    omega)
  have wD := done_wide (expT_wide (by omega) hA hsl wd) hN
  obtain ⟨D, hD⟩ : ∃ D, D = doneI (expT B (downI (gaY n d B o) t)) N := ⟨_, rfl⟩
  rw [← hD] at dl dle wD
  have wC : D.2 - D.1 ≤ ((B : Int) / 8 + 2) * (88 * (B : Int) + 624) + 2 := by
    have m := Int.mul_le_mul_of_nonneg_right (show (N : Int) + 1 ≤ (B : Int) / 8 + 2 by omega) (show 0 ≤ 2 * (44 * (B : Int) + 309 + 1) + 4 by omega)
    have r : 2 * (44 * (B : Int) + 309 + 1) + 4 = 88 * (B : Int) + 624 := by omega
    rw [r] at m wD
    omega
  obtain ⟨C, hC⟩ : ∃ C, C = ((B : Int) / 8 + 2) * (88 * (B : Int) + 624) + 4 := ⟨_, rfl⟩
  have C0 : 0 ≤ C := by have := Int.mul_nonneg (show 0 ≤ (B : Int) / 8 + 2 by omega) (show 0 ≤ 88 * (B : Int) + 624 by omega); omega
  have BB := Int.mul_le_mul (show (40 : Int) ≤ (B : Int) by omega) (show (40 : Int) ≤ (B : Int) by omega) (by omega) (by omega)
  have Cb : 40 * (C + 4) ≤ 735 * ((B : Int) * (B : Int)) := by
    have m := Int.mul_le_mul (show 40 * ((B : Int) / 8 + 2) ≤ 7 * (B : Int) by omega) (show 88 * (B : Int) + 624 ≤ 104 * (B : Int) by omega) (by omega) (by omega)
    have r1 : 40 * ((B : Int) / 8 + 2) * (88 * (B : Int) + 624) = 40 * (((B : Int) / 8 + 2) * (88 * (B : Int) + 624)) := by grind
    have r2 : 7 * (B : Int) * (104 * (B : Int)) = 728 * ((B : Int) * (B : Int)) := by grind
    omega
  have rel : (D.2 - D.1) * Q B ≤ C * D.2 := by
    have m1 := Int.mul_le_mul_of_nonneg_right wC (show 0 ≤ Q B by omega)
    have m2 := Int.mul_le_mul_of_nonneg_left (show Q B ≤ D.2 + 1 by omega) (show 0 ≤ C - 2 by have := Int.mul_nonneg (show 0 ≤ (B : Int) / 8 + 2 by omega) (show 0 ≤ 88 * (B : Int) + 624 by omega); omega)
    have r1 : ((B : Int) / 8 + 2) * (88 * (B : Int) + 624) + 2 = C - 2 := by omega
    rw [r1] at m1
    have r2 : (C - 2) * (D.2 + 1) = C * D.2 + C - 2 * D.2 - 2 := by grind
    have : C ≤ 2 * D.2 + 2 := by
      have m3 := Int.mul_le_mul (show (B : Int) ≤ 1000 by omega) (show (B : Int) ≤ 1000 by omega) (by omega) (by omega)
      omega
    omega
  have rs := sqs_rel (B := B) b0 dle dl C0 rel t (by omega)
  refine ⟨?_, g1, up, ?_, exp_has (by omega) y5 hA⟩
  · show Q B + 1 ≤ 2 * (sqI B (doneI (expT B (downI (gaY n d B o) t)) N) t).1
    omega
  · show ((sqI B (doneI (expT B (downI (gaY n d B o) t)) N) t).2 - (sqI B (doneI (expT B (downI (gaY n d B o) t)) N) t).1) * Q B ≤ 9900000 * ((B : Int) * (B : Int)) * (sqI B (doneI (expT B (downI (gaY n d B o) t)) N) t).2
    rw [← hD] at sl ⊢
    refine Int.le_trans rs (Int.mul_le_mul_of_nonneg_right ?_ (by omega))
    have m := Int.mul_le_mul_of_nonneg_right h3 (show 0 ≤ C + 4 by omega)
    rw [e19] at m
    omega
end Go.Proofs.Ytgmnknmjainabab
namespace Go.Proofs.Ytgmnknmjainabab
open Ex
namespace Ex
theorem pr_at_one {L : Rat → Nat → Rat} (hL : Lns L) (c : Rat) : Null (fun M => pr L c 1 M - 1) := by
  have h := (hL 1 (by grind)).uniq isLog_one
  have h2 : Null (fun M => c * L 1 M) := (h.bmul (Bdd.const c)).of_eq fun M => by grind
  exact Ev_null h2
theorem upT_anti {a x : Rat} (ha : 0 < a) (ha1 : a ≤ 1) (hx : 0 ≤ x) (n : Nat) : upT 1 x n ≤ upT a x n := by
  induction n with
  | zero =>
    have e := upT_zero ha x
    have e1 := upT_zero (show (0 : Rat) < 1 by grind) x
    have p := upT_nonneg ha hx 0
    have m := Rat.mul_le_mul_of_nonneg_right ha1 p
    grind
  | succ n ih =>
    have e := upT_succ ha x n
    have e1 := upT_succ (show (0 : Rat) < 1 by grind) x n
    have p := upT_nonneg ha hx (n + 1)
    have q := un_pos (show (0 : Rat) < 1 by grind) n
    have m := Rat.mul_le_mul_of_nonneg_right (show a + ((n : Rat) + 1) ≤ 1 + ((n : Rat) + 1) by grind) p
    have m2 := Rat.mul_le_mul_of_nonneg_left ih hx
    refine Rat.le_of_mul_le_mul_left (c := 1 + ((n : Rat) + 1)) ?_ q
    rw [e1]
    rw [e] at m
    exact Rat.le_trans m2 m
theorem uS_anti {a x : Rat} (ha : 0 < a) (ha1 : a ≤ 1) (hx : 0 ≤ x) (M : Nat) : uS 1 x M ≤ uS a x M := by
  induction M with
  | zero => exact Rat.le_refl
  | succ n ih => have := upT_anti ha ha1 hx n; rw [uS_succ, uS_succ]; grind
theorem uS_E {a x : Rat} (ha : 0 < a) (hx : 0 ≤ x) (M : Nat) : a * uS a x M ≤ E x M := by
  induction M with
  | zero => show a * 0 ≤ 0; grind
  | succ n ih =>
    have t := upT_tm ha hx n
    have e : E x (n + 1) = E x n + tm x n := rfl
    rw [uS_succ, e]
    grind
theorem ex_neg_one : Null (fun M => ex 1 M * ex (-1) M - 1) := by
  have s := ex_add 1 (-1)
  have e : (1 : Rat) + -1 = 0 := by grind
  rw [e] at s
  refine s.of_eq_from 1 fun M hM => ?_
  obtain ⟨m, rfl⟩ : ∃ m, M = m + 1 := ⟨M - 1, by omega⟩
  have : ex 0 (m + 1) = 1 := E_zero m
  rw [this]
theorem q2_one : q2 1 = 1 / 2 := by
  have e : q2 1 = q2 0 / 2 := rfl
  have e0 : q2 0 = 1 := rfl
  rw [e, e0]
theorem gam_half {L : Rat → Nat → Rat} (hL : Lns L) {a : Rat} {g : Nat → Rat} (ha : 0 < a) (ha1 : a ≤ 1) (h : Gam1 L a g) : LeN (fun _ => 1 / 2) g := by
  refine LeN.trans ?_ (h.lo 1 (by grind))
  obtain ⟨N, hN⟩ := ex_nn (-1)
  obtain ⟨z, hz, kz⟩ := (ex_half 1).null
  have e1 : -((1 : Nat) : Rat) = -1 := rfl
  rw [e1] at kz
  have b := (ex_bdd (-1)).mul (uS_Bdd ha (show (0 : Rat) ≤ 1 by grind))
  have n1 := (pr_at_one hL a).bmul b
  obtain ⟨K, k0, hK⟩ := tm_bd 1
  have tn : Null (tm 1) := (null_q4 K k0).of_le 1 fun M hM => (hK M).mono (by
    have m1 : (1 : Rat) ≤ (M : Rat) := by exact_mod_cast hM
    have := Rat.mul_le_mul_of_nonneg_left m1 (Rat.mul_nonneg k0 (Rat.le_of_lt (q4_pos M)))
    grind)
  have n2 := tn.bmul (ex_bdd (-1))
  refine LeN.of_null (((n1.neg).add hz).add ((ex_neg_one.neg).add n2.neg)) (N + 1) fun M hM => ?_
  have s1 := uS_one (x := 1) M
  have s2 := uS_anti ha ha1 (show (0 : Rat) ≤ 1 by grind) M
  have e0 := hN M (by omega)
  have k := kz M
  have q := q2_one
  have m := Rat.mul_le_mul_of_nonneg_left s2 e0
  have e2 : E 1 (M + 1) = ex 1 M + tm 1 M := rfl
  rw [e2] at s1
  unfold uG
  generalize pr L a 1 M = p at *
  generalize ex (-1) M = y at *
  generalize uS 1 1 M = u1 at *
  generalize uS a 1 M = ua at *
  generalize ex 1 M = v at *
  generalize tm 1 M = t at *
  have r : y * u1 = y * (v + t - 1) := by rw [← s1]; grind
  rw [r] at m
  rw [q] at k
  grind
theorem gam_top {L : Rat → Nat → Rat} (hL : Lns L) {a : Rat} {g : Nat → Rat} (ha : 0 < a) (h : Gam1 L a g) : LeN g (fun _ => 1 / a + 1) := by
  refine (h.hi 1 (by grind)).trans ?_
  obtain ⟨N, hN⟩ := ex_nn (-1)
  obtain ⟨z, hz, kz⟩ := (ex_half 1).null
  have e1 : -((1 : Nat) : Rat) = -1 := rfl
  rw [e1] at kz
  have b := (ex_bdd (-1)).mul (uS_Bdd ha (show (0 : Rat) ≤ 1 by grind))
  have n1 := (pr_at_one hL a).bmul b
  have n2 := (pr_at_one hL (a - 1)).bmul (ex_bdd (-1))
  have n3 := ex_neg_one.bmul (Bdd.const (1 / a))
  refine LeN.of_null ((n1.add n2).add (hz.add n3)) N fun M hM => ?_
  have s1 := uS_E ha (show (0 : Rat) ≤ 1 by grind) M
  have e0 := hN M hM
  have k := kz M
  have q := q2_one
  have m := Rat.mul_le_mul_of_nonneg_left s1 e0
  have e2 : E 1 M = ex 1 M := rfl
  rw [e2] at m
  have d := rdm (a := 1) ha
  have ip : 0 ≤ 1 / a := qle_div ha (by grind)
  have m2 := Rat.mul_le_mul_of_nonneg_left m ip
  unfold uG uE
  generalize pr L a 1 M = p at *
  generalize pr L (a - 1) 1 M = p2 at *
  generalize ex (-1) M = y at *
  generalize uS a 1 M = ua at *
  generalize ex 1 M = v at *
  have r : 1 / a * (y * (a * ua)) = 1 / a * a * (y * ua) := by grind
  rw [r, d] at m2
  rw [q] at k
  generalize 1 / a = i at *
  clear r d n1 n2 n3 b
  grind
theorem uE_half {L : Rat → Nat → Rat} (hL : Lns L) {a : Rat} (ha1 : a ≤ 1) {n : Nat} (hn : 1 ≤ n) : LeN (uE L a (n : Rat)) (fun _ => q2 n) := by
  have n1 : (1 : Rat) ≤ (n : Rat) := by exact_mod_cast hn
  have n0 : (0 : Rat) < (n : Rat) := by grind
  have l1 := (pr_neg_mono hL (c := a - 1) (by grind) (show (0 : Rat) < 1 by grind) n1).trans (LeN.of_eqN (pr_at_one hL (a - 1)))
  have l := l1.mul (ex_half n) (ex_bdd _) (ex_nn _) (Bdd.const 1) (Nn.const (by grind))
  exact l.trans (LeN.of_le 0 fun M _ => by grind)
theorem uG_quot {L : Rat → Nat → Rat} (hL : Lns L) {a x : Rat} (ha : 0 < a) (hx : 0 < x) : Null (fun M => uG L a x M - uS a x M / Ev (fun M => x - a * L x M) M) := by
  have hb : Bdd (fun M => x - a * L x M) := (Bdd.const x).sub (pr_arg hL hx a)
  obtain ⟨c, c0, N, hc⟩ := Ev_low hb
  have i1 := Ev_add (pr_arg hL hx a) (Bdd.const (-x))
  have i2 := Ev_inv hb
  have bq : Bdd (fun M => uS a x M / Ev (fun M => x - a * L x M) M) := by
    obtain ⟨K, k0, hK⟩ := uS_bdd ha (Rat.le_of_lt hx)
    refine Bdd.of_le (K / c) N fun M hM => ?_
    have e := hc M hM
    have ep : 0 < Ev (fun M => x - a * L x M) M := by grind
    have s0 := uS_nonneg ha (Rat.le_of_lt hx) M
    have q0 : 0 ≤ uS a x M / Ev (fun M => x - a * L x M) M := qle_div ep (by grind)
    have kc : 0 ≤ K / c := qle_div c0 (by grind)
    refine ⟨by grind, qdiv_le ep ?_⟩
    have d := rdm (a := K) c0
    have m := Rat.mul_le_mul_of_nonneg_left e kc
    have := hK M
    grind
  have bE := Ev_bdd hb
  have n1 := (i1.bmul (uS_Bdd ha (Rat.le_of_lt hx)))
  have n2 := i2.bmul bq
  refine (n1.add n2).of_eq_from N fun M hM => ?_
  have e := hc M hM
  have ep : 0 < Ev (fun M => x - a * L x M) M := by grind
  have d := rdm (a := uS a x M) ep
  have e1 : Ev (fun M => -(x - a * L x M)) M = Ev (fun M => a * L x M + -x) M := by unfold Ev; congr 1; grind
  rw [e1]
  unfold uG pr ex
  generalize Ev (fun M => a * L x M + -x) M = w1 at *
  generalize Ev (fun M => a * L x M) M = w2 at *
  have e2 : Ev (fun _ => -x) M = Ev (fun M => -x) M := rfl
  generalize Ev (fun _ => -x) M = w3 at *
  generalize Ev (fun M => x - a * L x M) M = w4 at *
  generalize uS a x M = s at *
  have r : (w4 * w1 - 1) * (s / w4) = s / w4 * w4 * w1 - s / w4 := by grind
  rw [r, d]
  grind
end Ex
theorem dv_rel {s1 s2 e1 e2 q C D lo hi : Int} (hq : 0 < q) (h0 : 0 ≤ s1) (hC : 0 ≤ C) (hD : 0 ≤ D) (hCq : C ≤ q) (hDq : D ≤ q) (he : 0 < e1) (hee : e1 ≤ e2) (hs : (s2 - s1) * q ≤ C * s2) (hs2 : s1 ≤ s2) (he2 : (e2 - e1) * q ≤ D * e2) (hlo : lo = s1 * q / e2) (hhi : hi = -(-(s2 * q) / e1)) : (hi - lo) * q ≤ (C + D) * hi + 2 * q := by
  have e20 : 0 < e2 := by omega
  have A := dv_floor2 (s1 * q) e20
  rw [← hlo] at A
  have Cc : (hi - 1) * e1 ≤ s2 * q := by
    have := dv_floor2 (-(s2 * q)) he
    have r : (-(s2 * q) / e1 + 1) * e1 = -((hi - 1) * e1) := by rw [hhi]; grind
    omega
  have hi0 : 0 ≤ hi := by
    have : -(s2 * q) / e1 ≤ 0 := Int.ediv_nonpos_of_nonpos_of_neg (by have := Int.mul_nonneg (show 0 ≤ s2 by omega) (show 0 ≤ q by omega); omega) he
    omega
  by_cases hz : hi = 0
  · have l0 : 0 ≤ lo := by rw [hlo]; exact Int.ediv_nonneg (Int.mul_nonneg h0 (by omega)) (by omega)
    have := Int.mul_nonneg l0 (show 0 ≤ q by omega)
    have r : (hi - lo) * q = hi * q - lo * q := by grind
    rw [r, hz]; omega
  · have p : 0 ≤ hi - 1 := by omega
    have B1 : s2 * (q - C) ≤ s1 * q := by
      have r1 : s2 * (q - C) = s2 * q - C * s2 := by grind
      have r2 : (s2 - s1) * q = s2 * q - s1 * q := by grind
      omega
    have B2 : e2 * (q - D) ≤ e1 * q := by
      have r1 : e2 * (q - D) = e2 * q - D * e2 := by grind
      have r2 : (e2 - e1) * q = e2 * q - e1 * q := by grind
      omega
    have qC : 0 ≤ q - C := by omega
    have qD : 0 ≤ q - D := by omega
    have k1 := Int.mul_le_mul_of_nonneg_left B2 (Int.mul_nonneg p qC)
    have k2 := Int.mul_le_mul_of_nonneg_right Cc (Int.mul_nonneg qC (show 0 ≤ q by omega))
    have k3 := Int.mul_le_mul_of_nonneg_left B1 (Int.mul_nonneg (show 0 ≤ q by omega) (show 0 ≤ q by omega))
    have k4 := Int.mul_le_mul_of_nonneg_left (show s1 * q ≤ (lo + 1) * e2 by omega) (Int.mul_nonneg (show 0 ≤ q by omega) (show 0 ≤ q by omega))
    have r1 : (hi - 1) * (q - C) * (e1 * q) = (hi - 1) * e1 * ((q - C) * q) := by grind
    have r2 : s2 * q * ((q - C) * q) = q * q * (s2 * (q - C)) := by grind
    have r3 : (hi - 1) * (q - C) * (e2 * (q - D)) = (hi - 1) * ((q - C) * (q - D)) * e2 := by grind
    have r4 : q * q * ((lo + 1) * e2) = (lo + 1) * (q * q) * e2 := by grind
    have k5 : (hi - 1) * ((q - C) * (q - D)) ≤ (lo + 1) * (q * q) := Int.le_of_mul_le_mul_right (a := e2) (by omega) e20
    have r5 : (q - C) * (q - D) = q * (q - (C + D)) + C * D := by grind
    have cd := Int.mul_nonneg hC hD
    have k6 := Int.mul_le_mul_of_nonneg_left (show q * (q - (C + D)) ≤ (q - C) * (q - D) by omega) p
    have r6 : (hi - 1) * (q * (q - (C + D))) = (hi - 1) * (q - (C + D)) * q := by grind
    have r7 : (lo + 1) * (q * q) = (lo + 1) * q * q := by grind
    have k7 : (hi - 1) * (q - (C + D)) ≤ (lo + 1) * q := Int.le_of_mul_le_mul_right (a := q) (by omega) hq
    have r8 : (hi - 1) * (q - (C + D)) = hi * q - q - (C + D) * hi + (C + D) := by grind
    have r9 : (lo + 1) * q = lo * q + q := by grind
    have r10 : (hi - lo) * q = hi * q - lo * q := by grind
    omega
theorem QB_big {B : Nat} (h0 : 40 ≤ B) (h1 : B ≤ 1000) : 16 * (10000000 * ((B : Int) * (B : Int))) ≤ Q B := by
  by_cases c : B ≤ 80
  · have m := Int.mul_le_mul (show (B : Int) ≤ 80 by omega) (show (B : Int) ≤ 80 by omega) (by omega) (by omega)
    have q := Q_mono h0
    have e : Q 40 = 1099511627776 := rfl
    omega
  · have m := Int.mul_le_mul (show (B : Int) ≤ 1000 by omega) (show (B : Int) ≤ 1000 by omega) (by omega) (by omega)
    have q := Q_mono (show 60 ≤ B by omega)
    have e : Q 60 = 1152921504606846976 := rfl
    omega
def gaG (n d : Int) (B : Nat) (o : Int × Int) (t N NS : Nat) : Int × Int := (dvLo (gaSer n d B NS).1 (gaSer n d B NS).2 (gaE n d B o t N).1 (gaE n d B o t N).2 B, dvHi (gaSer n d B NS).1 (gaSer n d B NS).2 (gaE n d B o t N).1 (gaE n d B o t N).2 B + 1)
structure GaV (g : Nat → Rat) (B : Nat) (a : Int × Int) : Prop where
  lo : Q B ≤ 4 * a.1
  le : a.1 ≤ a.2
  rel : (a.2 - a.1) * Q B ≤ 10000000 * ((B : Int) * (B : Int)) * a.2
  hi : a.2 ≤ Q (B + 43)
  iv : Iv B a g
theorem leN_le {B : Nat} {a : Int × Int} {x y : Nat → Rat} (h : Iv B a x) (k : LeN x y) {z : Int} (hz : LeN y (fun _ => (z : Rat) / (Q B : Rat))) : a.1 ≤ z := by
  have q := Qr_pos B
  refine Int.not_lt.1 fun hlt => ?_
  have d : (0 : Rat) < 1 / (Q B : Rat) := rdiv_pos (by grind) q
  obtain ⟨e, he⟩ : ∃ e, e = 1 / (Q B : Rat) / 4 := ⟨_, rfl⟩
  have e0 : 0 < e := by grind
  obtain ⟨N1, k1⟩ := h e e0
  obtain ⟨N2, k2⟩ := k e e0
  obtain ⟨N3, k3⟩ := hz e e0
  have a1 := (k1 (N1 + N2 + N3) (by omega)).1
  have a2 := k2 (N1 + N2 + N3) (by omega)
  have a3 := k3 (N1 + N2 + N3) (by omega)
  simp only [] at a3
  have c := cast_le (show z + 1 ≤ a.1 by omega)
  rw [Rat.intCast_add] at c
  have c1 : ((1 : Int) : Rat) = 1 := rfl
  rw [c1] at c
  have m : ((z : Rat) + 1) / (Q B : Rat) ≤ (a.1 : Rat) / (Q B : Rat) := rdiv_le q (by rw [rdm q]; exact c)
  rw [rdiv_add] at m
  generalize 1 / (Q B : Rat) = i at *
  grind
theorem gaG_ok {L : Rat → Nat → Rat} (hL : Lns L) {n d : Int} {B t N NS : Nat} {o : Int × Int} {g : Nat → Rat} (h : GaIn n d B) (hg : Gam1 L ((n : Rat) / (d : Rat)) g) (ho : GaLog L B o) (ht : t ≤ 19) (hA : Abs (downI (gaY n d B o) t) (Q (B - 8))) (hN : IsStop (expT B (downI (gaY n d B o) t)) N) (hS : NS ≤ 65 * B + 126) (hS2 : IsRise (gaT n d B) (2 * B) NS) : GaV g B (gaG n d B o t N NS) := by
  obtain ⟨s1, s2, s3⟩ := gaSer_ok h hS
  obtain ⟨e1, e2, e3, e4, e5⟩ := gaE_ok h ho ht hA hN
  have si := ga_has h hS2
  have n0 := h.n0
  have nd := h.nd
  have b0 := h.b0
  have b1 := h.b1
  have q := Q_pos B
  have qr := Qr_pos B
  have big := QB_big b0 b1
  have BB := Int.mul_le_mul (show (40 : Int) ≤ (B : Int) by omega) (show (40 : Int) ≤ (B : Int) by omega) (by omega) (by omega)
  have nr : (0 : Rat) < (n : Rat) := by exact_mod_cast n0
  have dr : (0 : Rat) < (d : Rat) := by exact_mod_cast (show 0 < d by omega)
  have a0 : (0 : Rat) < (n : Rat) / (d : Rat) := rdiv_pos nr dr
  have a1 : (n : Rat) / (d : Rat) ≤ 1 := qdiv_le dr (by have := cast_le nd; grind)
  have bb : (0 : Rat) < (B : Rat) := by exact_mod_cast (show 0 < B by omega)
  have dv : Iv B (dvLo (gaSer n d B NS).1 (gaSer n d B NS).2 (gaE n d B o t N).1 (gaE n d B o t N).2 B, dvHi (gaSer n d B NS).1 (gaSer n d B NS).2 (gaE n d B o t N).1 (gaE n d B o t N).2 B) (uG L ((n : Rat) / (d : Rat)) (B : Rat)) := (Iv.dv si e5 (show 0 ≤ (gaSer n d B NS).1 by omega) (show 0 < (gaE n d B o t N).1 by omega)).congr (uG_quot hL a0 bb)
  obtain ⟨l1, l2⟩ := dv_pos (b := B) (lo := (gaSer n d B NS).1) (hi := (gaSer n d B NS).2) (lo' := (gaE n d B o t N).1) (hi' := (gaE n d B o t N).2) (by omega) s2 (by omega) e2
  have iv : Iv B (gaG n d B o t N NS) g := by
    have low := hg.lo _ bb
    have up := (hg.hi _ bb).trans ((LeN.refl _).add (uE_half hL a1 (show 1 ≤ B by omega)))
    have qq : q2 B = 1 / (Q B : Rat) := by
      have : ∀ k : Nat, q2 k * (Q k : Rat) = 1 := fun k => by
        induction k with
        | zero =>
          show (1 : Rat) * ((1 : Int) : Rat) = 1
          have c1 : ((1 : Int) : Rat) = 1 := rfl
          rw [c1]; grind
        | succ k ih =>
          have e : q2 (k + 1) = q2 k / 2 := rfl
          have e2 : Q (k + 1) = 2 * Q k := rfl
          rw [e, e2, Rat.intCast_mul]
          have : ((2 : Int) : Rat) = 2 := rfl
          rw [this]
          grind
      have k := this B
      refine Rat.le_antisymm (qle_div qr (by rw [k]; exact Rat.le_refl)) (qdiv_le qr (by rw [k]; exact Rat.le_refl))
    intro e he
    obtain ⟨N1, k1⟩ := dv (e / 2) (by grind)
    obtain ⟨N2, k2⟩ := low (e / 2) (by grind)
    obtain ⟨N3, k3⟩ := up (e / 2) (by grind)
    refine ⟨N1 + N2 + N3, fun M hM => ?_⟩
    obtain ⟨x1, x2⟩ := k1 M (by omega)
    have x3 := k2 M (by omega)
    have x4 := k3 M (by omega)
    simp only [] at x4
    unfold gaG
    simp only [] at x1 x2 ⊢
    rw [Rat.intCast_add, rdiv_add]
    have c1 : ((1 : Int) : Rat) = 1 := rfl
    rw [c1, ← qq]
    generalize ((dvLo (gaSer n d B NS).1 (gaSer n d B NS).2 (gaE n d B o t N).1 (gaE n d B o t N).2 B : Int) : Rat) / (Q B : Rat) = z1 at *
    generalize ((dvHi (gaSer n d B NS).1 (gaSer n d B NS).2 (gaE n d B o t N).1 (gaE n d B o t N).2 B : Int) : Rat) / (Q B : Rat) = z2 at *
    generalize uG L ((n : Rat) / (d : Rat)) (B : Rat) M = z3 at *
    generalize g M = z4 at *
    generalize q2 B = z5 at *
    clear dv low up k1 k2 k3 si e5 l1 l2 s3 e4
    exact ⟨by grind, by grind⟩
  have rel0 := dv_rel (q := Q B) (C := 9500 * ((B : Int) * (B : Int))) (D := 9900000 * ((B : Int) * (B : Int))) (show 0 < Q B by omega) (show 0 ≤ (gaSer n d B NS).1 by omega) (by omega) (by omega) (by omega) (by omega) (show 0 < (gaE n d B o t N).1 by omega) e2 s3 s2 e4 l1 l2
  have gl : (gaG n d B o t N NS).1 = dvLo (gaSer n d B NS).1 (gaSer n d B NS).2 (gaE n d B o t N).1 (gaE n d B o t N).2 B := rfl
  have gh : (gaG n d B o t N NS).2 = dvHi (gaSer n d B NS).1 (gaSer n d B NS).2 (gaE n d B o t N).1 (gaE n d B o t N).2 B + 1 := rfl
  rw [← gl] at rel0
  have gh' : dvHi (gaSer n d B NS).1 (gaSer n d B NS).2 (gaE n d B o t N).1 (gaE n d B o t N).2 B = (gaG n d B o t N NS).2 - 1 := by rw [gh]; omega
  rw [gh'] at rel0
  have le : (gaG n d B o t N NS).1 ≤ (gaG n d B o t N NS).2 := iv.le
  have half := gam_half hL a0 a1 hg
  have hi2 : Q B ≤ 2 * (gaG n d B o t N NS).2 := by
    refine Int.not_lt.1 fun hlt => ?_
    have hi := leN_le (B := B + 1) (a := (Q B, Q B)) (x := fun _ => 1 / 2) (y := g) (z := 2 * (gaG n d B o t N NS).2) ?_ half ?_
    · omega
    · have e : Q (B + 1) = 2 * Q B := rfl
      refine Has.of_from 0 fun M _ => ?_
      have : (Q B : Rat) / (Q (B + 1) : Rat) = 1 / 2 := by
        rw [e, Rat.intCast_mul]
        have c2 : ((2 : Int) : Rat) = 2 := rfl
        rw [c2]
        have p : (0 : Rat) < 2 * (Q B : Rat) := by grind
        exact Rat.le_antisymm (qdiv_le p (by grind)) (qle_div p (by grind))
      simp only [this]
      exact ⟨Rat.le_refl, Rat.le_refl⟩
    · intro e he
      obtain ⟨N1, k1⟩ := iv e he
      refine ⟨N1, fun M hM => ?_⟩
      have := (k1 M hM).2
      have e2 : ((2 * (gaG n d B o t N NS).2 : Int) : Rat) / (Q (B + 1) : Rat) = ((gaG n d B o t N NS).2 : Rat) / (Q B : Rat) := by
        have e : Q (B + 1) = 2 * Q B := rfl
        rw [e, Rat.intCast_mul, Rat.intCast_mul]
        have c2 : ((2 : Int) : Rat) = 2 := rfl
        rw [c2]
        have p : (0 : Rat) < 2 * (Q B : Rat) := by grind
        have dq := rdm (a := ((gaG n d B o t N NS).2 : Rat)) qr
        refine Rat.le_antisymm (qdiv_le p ?_) (qle_div p ?_)
        · have : ((gaG n d B o t N NS).2 : Rat) / (Q B : Rat) * (2 * (Q B : Rat)) = 2 * (((gaG n d B o t N NS).2 : Rat) / (Q B : Rat) * (Q B : Rat)) := by grind
          rw [this, dq]; exact Rat.le_refl
        · have : ((gaG n d B o t N NS).2 : Rat) / (Q B : Rat) * (2 * (Q B : Rat)) = 2 * (((gaG n d B o t N NS).2 : Rat) / (Q B : Rat) * (Q B : Rat)) := by grind
          rw [this, dq]; exact Rat.le_refl
      simp only []
      rw [e2]
      exact this
  have rel : ((gaG n d B o t N NS).2 - (gaG n d B o t N NS).1) * Q B ≤ 10000000 * ((B : Int) * (B : Int)) * (gaG n d B o t N NS).2 := by
    clear gl gh gh' l1 l2 dv e3 e4 e1 e2 s1 s2 s3
    generalize (gaG n d B o t N NS).2 = H at *
    generalize (gaG n d B o t N NS).1 = L0 at *
    generalize (B : Int) * (B : Int) = b2 at *
    have r1 : (H - 1 - L0) * Q B = (H - L0) * Q B - Q B := by grind
    have r2 : (9500 * b2 + 9900000 * b2) * (H - 1) = 9909500 * b2 * H - 9909500 * b2 := by grind
    rw [r1, r2] at rel0
    have m := Int.mul_le_mul_of_nonneg_right (show 6 ≤ 90500 * b2 by omega) (show 0 ≤ H by omega)
    have r3 : 10000000 * b2 * H = 9909500 * b2 * H + 90500 * b2 * H := by grind
    rw [r3]
    omega
  have sm : 16 * ((gaG n d B o t N NS).2 - (gaG n d B o t N NS).1) ≤ (gaG n d B o t N NS).2 := by
    have m := Int.mul_le_mul_of_nonneg_right big (show 0 ≤ (gaG n d B o t N NS).2 by omega)
    refine Int.le_of_mul_le_mul_right (a := Q B) ?_ (by omega)
    have r : 16 * ((gaG n d B o t N NS).2 - (gaG n d B o t N NS).1) * Q B = 16 * (((gaG n d B o t N NS).2 - (gaG n d B o t N NS).1) * Q B) := by grind
    have r2 : 16 * (10000000 * ((B : Int) * (B : Int))) * (gaG n d B o t N NS).2 = 16 * (10000000 * ((B : Int) * (B : Int)) * (gaG n d B o t N NS).2) := by grind
    have r3 : Q B * (gaG n d B o t N NS).2 = (gaG n d B o t N NS).2 * Q B := Int.mul_comm _ _
    omega
  have top := gam_top hL a0 hg
  have lo42 : (gaG n d B o t N NS).1 ≤ Q (B + 42) := by
    refine leN_le iv top (LeN.of_le 0 fun M _ => ?_)
    refine rle_div qr ?_
    have e : Q (B + 42) = Q B * Q 42 := Q_add B 42
    have e42 : Q 42 = 4398046511104 := rfl
    rw [e, e42, Rat.intCast_mul]
    have c42 : ((4398046511104 : Int) : Rat) = 4398046511104 := rfl
    rw [c42]
    have i : 1 / ((n : Rat) / (d : Rat)) ≤ 2199023255552 := by
      refine qdiv_le a0 ?_
      have dd := cast_le h.dd
      have cdd : ((2199023255552 : Int) : Rat) = 2199023255552 := rfl
      rw [cdd] at dd
      have n1 := cast_le (show 1 ≤ n by omega)
      have c1 : ((1 : Int) : Rat) = 1 := rfl
      rw [c1] at n1
      have r : 2199023255552 * ((n : Rat) / (d : Rat)) = 2199023255552 * (n : Rat) / (d : Rat) := by rw [Rat.div_def, Rat.div_def]; grind
      rw [r]
      exact qle_div dr (by grind)
    have m := Rat.mul_le_mul_of_nonneg_right (show 1 / ((n : Rat) / (d : Rat)) + 1 ≤ 4398046511104 by grind) (Rat.le_of_lt qr)
    grind
  refine ⟨by omega, le, rel, ?_, iv⟩
  have e : Q (B + 43) = 2 * Q (B + 42) := rfl
  have := Q_pos (B + 42)
  omega
end Go.Proofs.Ytgmnknmjainabab
namespace Go.Proofs.Ytgmnknmjainabab
open Ex
def stN (n d : Int) : Nat := ((n - 1) / d).toNat
def stP (n d : Int) : Nat → Int
  | 0 => 1
  | k + 1 => stP n d k * (n - ((k : Int) + 1) * d)
def stQ (d : Int) : Nat → Int
  | 0 => 1
  | k + 1 => stQ d k * d
structure StIn (n d : Int) : Prop where
  n0 : 0 < n
  d0 : 0 < d
  dd : d ≤ 2199023255552
  up : n ≤ 201 * d
theorem StIn.rest {n d : Int} (h : StIn n d) : 0 < n - (stN n d : Int) * d ∧ n - (stN n d : Int) * d ≤ d ∧ stN n d ≤ 200 := by
  have d0 := h.d0
  have n0 := h.n0
  have q0 : 0 ≤ (n - 1) / d := Int.ediv_nonneg (by omega) (by omega)
  have e : ((stN n d : Nat) : Int) = (n - 1) / d := by unfold stN; omega
  have f1 := Int.ediv_mul_le (n - 1) (show d ≠ 0 by omega)
  have f2 := Int.lt_ediv_add_one_mul_self (n - 1) d0
  have r : ((n - 1) / d + 1) * d = (n - 1) / d * d + d := by grind
  refine ⟨by rw [e]; omega, by rw [e]; omega, ?_⟩
  have : (n - 1) / d < 201 := Int.ediv_lt_of_lt_mul d0 (by have := h.up; omega)
  omega
theorem StIn.in_ {n d : Int} (h : StIn n d) {B : Nat} (h0 : 40 ≤ B) (h1 : B ≤ 1000) : GaIn (n - (stN n d : Int) * d) d B := ⟨h.rest.1, h.rest.2.1, h.dd, h0, h1⟩
theorem st_at {n d : Int} (h : StIn n d) {k : Nat} (hk : k ≤ stN n d) : 0 < n - (k : Int) * d ∧ (k < stN n d → d < n - (k : Int) * d) := by
  obtain ⟨r1, r2, r3⟩ := h.rest
  have d0 := h.d0
  have m := Int.mul_le_mul_of_nonneg_right (show (k : Int) ≤ (stN n d : Int) by omega) (show 0 ≤ d by omega)
  refine ⟨by omega, fun hlt => ?_⟩
  have m2 := Int.mul_le_mul_of_nonneg_right (show (k : Int) + 1 ≤ (stN n d : Int) by omega) (show 0 ≤ d by omega)
  have r : ((k : Int) + 1) * d = (k : Int) * d + d := by grind
  omega
theorem stQ_pos {d : Int} (h : 0 < d) (k : Nat) : 0 < stQ d k := by
  induction k with
  | zero => show (0 : Int) < 1; decide
  | succ k ih => exact Int.mul_pos ih h
theorem stP_pos {n d : Int} (h : StIn n d) {k : Nat} (hk : k ≤ stN n d) : 0 < stP n d k := by
  induction k with
  | zero => show (0 : Int) < 1; decide
  | succ k ih =>
    have := (st_at h (k := k + 1) hk).1
    have e : ((k + 1 : Nat) : Int) = (k : Int) + 1 := by omega
    rw [e] at this
    exact Int.mul_pos (ih (by omega)) this
theorem stP_le {n d c : Int} (h : StIn n d) (hc : n ≤ c * d) {k : Nat} (hk : k ≤ stN n d) : stP n d k ≤ c ^ k * stQ d k := by
  induction k with
  | zero =>
    show (1 : Int) ≤ c ^ 0 * 1
    rw [Int.pow_zero]; decide
  | succ k ih =>
    have d0 := h.d0
    have p := (st_at h (k := k + 1) hk).1
    have e : ((k + 1 : Nat) : Int) = (k : Int) + 1 := by omega
    rw [e] at p
    have i := ih (by omega)
    have pp := stP_pos h (k := k) (by omega)
    have kd := Int.mul_nonneg (show 0 ≤ (k : Int) + 1 by omega) (show 0 ≤ d by omega)
    have m := Int.mul_le_mul i (show n - ((k : Int) + 1) * d ≤ c * d by omega) (by omega) (by omega)
    show stP n d k * (n - ((k : Int) + 1) * d) ≤ c ^ (k + 1) * (stQ d k * d)
    have r : c ^ (k + 1) * (stQ d k * d) = c ^ k * stQ d k * (c * d) := by rw [Int.pow_succ]; grind
    omega
theorem stP_next (n d : Int) (k : Nat) : stP (n + d) d (k + 1) = n * stP n d k := by
  induction k with
  | zero =>
    show 1 * (n + d - (((0 : Nat) : Int) + 1) * d) = n * 1
    have e : ((0 : Nat) : Int) = 0 := rfl
    rw [e]; omega
  | succ k ih =>
    show stP (n + d) d (k + 1) * (n + d - (((k + 1 : Nat) : Int) + 1) * d) = n * (stP n d k * (n - ((k : Int) + 1) * d))
    have e : ((k + 1 : Nat) : Int) = (k : Int) + 1 := by omega
    rw [ih, e]
    have r : n + d - ((k : Int) + 1 + 1) * d = n - ((k : Int) + 1) * d := by grind
    rw [r]; grind
theorem stN_next {n d : Int} (h : 0 < d) (h0 : 0 < n) : stN (n + d) d = stN n d + 1 := by
  unfold stN
  have q0 : 0 ≤ (n - 1) / d := Int.ediv_nonneg (by omega) (by omega)
  have e : (n + d - 1) / d = (n - 1) / d + 1 := by
    have r : n + d - 1 = (n - 1) + 1 * d := by omega
    rw [r, Int.add_mul_ediv_right _ _ (by omega)]
  rw [e]; omega
def gmV (n d : Int) (g : Nat → Rat) (M : Nat) : Rat := (stP n d (stN n d) : Rat) / (stQ d (stN n d) : Rat) * g M
def gmI (n d : Int) (a : Int × Int) (m : Nat) : Int × Int := downI (scaleI a (stP n d (stN n d)) (stQ d (stN n d))) m
theorem pow_100 : ((100 : Int) ^ 99) ≤ Q 660 := by decide +kernel
theorem stP_100 {n d : Int} (h : StIn n d) (hc : n ≤ 100 * d) : stP n d (stN n d) ≤ Q 660 * stQ d (stN n d) ∧ stN n d ≤ 99 := by
  have d0 := h.d0
  have k99 : stN n d ≤ 99 := by
    have q0 : 0 ≤ (n - 1) / d := Int.ediv_nonneg (by have := h.n0; omega) (by omega)
    have e : ((stN n d : Nat) : Int) = (n - 1) / d := by unfold stN; omega
    have : (n - 1) / d < 100 := Int.ediv_lt_of_lt_mul d0 (by omega)
    omega
  refine ⟨?_, k99⟩
  have a := stP_le h hc (Nat.le_refl _)
  have q := stQ_pos d0 (stN n d)
  have mono : ∀ j : Nat, (100 : Int) ^ (stN n d) ≤ 100 ^ (stN n d + j) := fun j => by
    induction j with
    | zero => exact Int.le_refl _
    | succ j ih =>
      have p : (0 : Int) ≤ 100 ^ (stN n d + j) := Int.le_of_lt (Int.pow_pos (by decide))
      have e : (100 : Int) ^ (stN n d + (j + 1)) = 100 ^ (stN n d + j) * 100 := Int.pow_succ _ _
      rw [e]; omega
  have b := mono (99 - stN n d)
  have e : stN n d + (99 - stN n d) = 99 := by omega
  rw [e] at b
  exact Int.le_trans a (Int.mul_le_mul_of_nonneg_right (Int.le_trans b pow_100) (by omega))
theorem more_ok {p q l l' : Int} (hp : 0 < p) (hq : 0 < q) (h : p ≤ Q 660 * q) (hl : LenIs p l) (hl' : LenIs q l') : ∃ m : Nat, max 0 (l - l' + 1) = (m : Int) ∧ m ≤ 661 ∧ p ≤ Q m * q := by
  obtain ⟨L, e1, e2, e3⟩ := hl.2.2 hp
  obtain ⟨L', f1, f2, f3⟩ := hl'.2.2 hq
  refine ⟨(max 0 (l - l' + 1)).toNat, by omega, ?_, ?_⟩
  · have le : L ≤ L' + 660 := Nat.not_lt.1 fun hlt => by
      have := Q_mono (show L' + 1 + 660 ≤ L by omega)
      have e : Q (L' + 1 + 660) = Q (L' + 1) * Q 660 := Q_add _ _
      have m := Int.mul_lt_mul_of_pos_left f3 (show 0 < Q 660 by have := Q_pos 660; omega)
      have r : Q (L' + 1) * Q 660 = Q 660 * Q (L' + 1) := Int.mul_comm _ _
      omega
    omega
  · obtain ⟨m, hm⟩ : ∃ m : Nat, m = (max 0 (l - l' + 1)).toNat := ⟨_, rfl⟩
    rw [← hm]
    have a := Q_mono (show L + 1 ≤ m + L' by omega)
    have e : Q (m + L') = Q m * Q L' := Q_add _ _
    have b := Int.mul_le_mul_of_nonneg_left f2 (show 0 ≤ Q m by have := Q_pos m; omega)
    omega
theorem Q_big90 : 10000000 * 1000000 * Q 43 + 4 ≤ Q 90 := by decide +kernel
structure GmPr (x : Nat → Rat) (B : Nat) (l u : Int) : Prop where
  lo : 0 ≤ l
  le : l ≤ u
  wd : u - l ≤ Q 90
  hi : u ≤ Q (B + 706)
  iv : Iv B (l, u) x
theorem gm_ok {n d : Int} {g : Nat → Rat} {B m : Nat} {a : Int × Int} (h : StIn n d) (hc : n ≤ 100 * d) (hB : B + m ≤ 1000) (hm : stP n d (stN n d) ≤ Q m * stQ d (stN n d)) (ha : GaV g (B + m) a) : GmPr (gmV n d g) B (gmI n d a m).1 (gmI n d a m).2 := by
  obtain ⟨p1, p2⟩ := stP_100 h hc
  have p0 := stP_pos h (Nat.le_refl (stN n d))
  have q0 := stQ_pos h.d0 (stN n d)
  have Q0 := Q_pos (B + m)
  have qm := Q_pos m
  have iv := (ha.iv.scale (n := stP n d (stN n d)) (d := stQ d (stN n d)) (by omega) q0).to
  have a0 : 0 ≤ a.1 := by have := ha.lo; omega
  have ale := ha.le
  obtain ⟨p, hp⟩ : ∃ p, p = stP n d (stN n d) := ⟨_, rfl⟩
  obtain ⟨q, hq⟩ : ∃ q, q = stQ d (stN n d) := ⟨_, rfl⟩
  unfold gmI
  rw [← hp, ← hq]
  rw [← hp] at p0 p1 hm
  rw [← hq] at q0 p1 hm
  have w0 : a.2 - a.1 ≤ 10000000 * 1000000 * Q 43 := by
    have r := ha.rel
    have hi := ha.hi
    have e : Q (B + m + 43) = Q (B + m) * Q 43 := Q_add _ _
    have BB := Int.mul_le_mul (show ((B + m : Nat) : Int) ≤ 1000 by omega) (show ((B + m : Nat) : Int) ≤ 1000 by omega) (by omega) (by omega)
    have B0 := Int.mul_nonneg (show (0 : Int) ≤ ((B + m : Nat) : Int) by omega) (show (0 : Int) ≤ ((B + m : Nat) : Int) by omega)
    have m1 := Int.mul_le_mul_of_nonneg_left hi (show 0 ≤ 10000000 * (((B + m : Nat) : Int) * ((B + m : Nat) : Int)) by omega)
    have m2 := Int.mul_le_mul_of_nonneg_right (show 10000000 * (((B + m : Nat) : Int) * ((B + m : Nat) : Int)) ≤ 10000000 * 1000000 by omega) (show 0 ≤ Q (B + m + 43) by have := Q_pos (B + m + 43); omega)
    refine Int.le_of_mul_le_mul_right (a := Q (B + m)) ?_ (by omega)
    have r2 : 10000000 * 1000000 * (Q (B + m) * Q 43) = 10000000 * 1000000 * Q 43 * Q (B + m) := by grind
    rw [e] at m1 m2
    omega
  have sc : (scaleI a p q).2 - (scaleI a p q).1 ≤ (a.2 - a.1) * Q m + 1 := scaleI_wide q0 (by
    have m1 := Int.mul_le_mul_of_nonneg_left hm (show 0 ≤ a.2 - a.1 by omega)
    have r : (a.2 - a.1) * (Q m * q) = (a.2 - a.1) * Q m * q := by grind
    omega)
  have sl := scaleI_le (a := a) (n := p) (d := q) ale q0 (by omega)
  have s0 : 0 ≤ (scaleI a p q).1 := Int.ediv_nonneg (Int.mul_nonneg a0 (by omega)) (by omega)
  have wd : (downI (scaleI a p q) m).2 - (downI (scaleI a p q) m).1 ≤ (a.2 - a.1 + 1) + 1 := div_wide (by omega) (by
    have r : (a.2 - a.1 + 1) * Q m = (a.2 - a.1) * Q m + Q m := by grind
    omega)
  have lo0 : 0 ≤ (downI (scaleI a p q) m).1 := Int.ediv_nonneg s0 (by omega)
  have le : (downI (scaleI a p q) m).1 ≤ (downI (scaleI a p q) m).2 := by
    have := scaleI_le (a := scaleI a p q) (n := 1) (d := Q m) sl (by omega) (by omega)
    simpa [scaleI, downI] using this
  have big := Q_big90
  refine ⟨lo0, le, by omega, ?_, ?_⟩
  · -- how great
    have hi := ha.hi
    have u1 : (scaleI a p q).2 ≤ Q (B + m + 43) * Q 660 := by
      have r := (round_abs (x := a.2 * p) (m := Q (B + m + 43) * Q 660) (q := q) q0 (by
        have := Int.mul_nonneg (show 0 ≤ a.2 by omega) (show 0 ≤ p by omega)
        have := Int.mul_nonneg (Int.mul_nonneg (show 0 ≤ Q (B + m + 43) by have := Q_pos (B + m + 43); omega) (show 0 ≤ Q 660 by have := Q_pos 660; omega)) (show 0 ≤ q by omega)
        omega) (by
        have m1 := Int.mul_le_mul hi p1 (by omega) (by have := Q_pos (B + m + 43); omega)
        have r : Q (B + m + 43) * (Q 660 * q) = Q (B + m + 43) * Q 660 * q := by grind
        omega)).2.2.2
      exact r
    have e1 : Q (B + m + 43) * Q 660 = Q (B + 703) * Q m := by rw [← Q_add, ← Q_add]; congr 1; omega
    have u2 := (round_abs (x := (scaleI a p q).2) (m := Q (B + 703)) (q := Q m) (by omega) (by
      have := Int.mul_nonneg (show 0 ≤ Q (B + 703) by have := Q_pos (B + 703); omega) (show 0 ≤ Q m by omega)
      omega) (by omega)).2.2.2
    have e2 := Q_mono (show B + 703 ≤ B + 706 by omega)
    exact Int.le_trans u2 e2
  · rw [hp, hq]
    exact iv
end Go.Proofs.Ytgmnknmjainabab
namespace Go.Proofs.Ytgmnknmjainabab
open Go
section
variable {Pg : Program} {ops : Array Oper} {Q : Exit → Act → World → Prop} {md : Region.Mode} {S : Nat → World → Prop}
def AnyS (Pg : Program) (md : Region.Mode) (ops : Array Oper) (Q : Exit → Act → World → Prop) (S : Nat → World → Prop) : Nat → Array Bool → Act → World → Prop
  | 0, listed, a, w => Region.ready md ops listed = [] ∧ Q .normal a w
  | fuel + 1, listed, a, w =>
    (Region.ready md ops listed = [] → Q .normal a w) ∧
    ∀ i ∈ Region.ready md ops listed, wpOp Pg ops Q i (fun a' w' => S i w' ∧ AnyS Pg md ops Q S fuel (listed.setIfInBounds i true) a' w') a w
theorem AnyS.any : ∀ (fuel : Nat) (listed : Array Bool) (a : Act) (w : World), AnyS Pg md ops Q S fuel listed a w → wpAny Pg md ops Q fuel listed a w
  | 0, _, _, _, h => h
  | fuel + 1, _, _, _, h => ⟨h.1, fun i hi => wpOp_mono (fun a' w' h' => AnyS.any fuel _ a' w' h'.2) (h.2 i hi)⟩
theorem AnyS.first {i : Nat} {oi : Oper} {v : Value} {T : World → Prop} (hi : ops[i]? = some oi) (hsel : ∀ (j : Nat) (o : Oper) cs b, ops[j]? = some o → o.op ≠ .select cs b)
    (hQ : ∀ c a w, Q (.panic c) (a.put oi.dst v) w → Q (.panic c) a w) (hi' : ∀ w, T w → S i w) :
    ∀ (fuel : Nat) (listed : Array Bool) (a : Act) (w : World), (∀ j, listed.getD j true = false → waits md ops j i = true ∨ ∀ w, S j w → T w) →
      (∀ j oj, ops[j]? = some oj → j ≠ i → listed.getD j true = false → (∀ e ∈ oj.after, Region.binds md e = true → e.on ≠ i) → oi.apart ops oj = true) →
      i ∈ Region.ready md ops listed → YieldsIf Pg ops T oi v a → T w → S i w →
      AnyS Pg md ops Q S fuel (listed.setIfInBounds i true) (a.put oi.dst v) w → AnyS Pg md ops Q S (fuel + 1) listed a w := by
  intro fuel
  induction fuel with
  | zero =>
    intro listed a w hT _ hr hy hT' hS H
    refine ⟨fun h => (by rw [h] at hr; cases hr), fun j hj => ?_⟩
    by_cases hji : j = i
    · subst hji; exact hy.wpOp hi hT' ⟨hS, H⟩
    · have := ready_mono hj hji
      rw [H.1] at this
      cases this
  | succ fuel ih =>
    intro listed a w hT hfree hr hy hT' hS H
    refine ⟨fun h => (by rw [h] at hr; cases hr), fun j hj => ?_⟩
    by_cases hji : j = i
    · subst hji; exact hy.wpOp hi hT' ⟨hS, H⟩
    · have hjT : ∀ w, S j w → T w := by
        rcases hT j (mem_ready.1 hj).1 with h | h
        · exact absurd hj (fun hj => waits_not h hr hj)
        · exact h
      have h1 := H.2 j (ready_mono hj hji)
      obtain ⟨hjun, oj, hoj, hall⟩ := mem_ready.1 hj
      have hnot : ∀ e ∈ oj.after, Region.binds md e = true → e.on ≠ i := fun e he hb heq => by
        have h1 := hall e he hb
        have h0 := (mem_ready.1 hr).1
        rw [heq] at h1
        rcases Nat.lt_or_ge i listed.size with h' | h'
        · simp [h'] at h0 h1; rw [h0] at h1; cases h1
        · simp [Array.getElem?_eq_none h'] at h1
      have h2 := wpOp_putIf hoj (hfree j oj hoj hji hjun hnot) (fun cs b => hsel i oi cs b hi) (fun cs b => hsel j oj cs b hoj) hQ hy h1
      have hfree' : ∀ k ok, ops[k]? = some ok → k ≠ i → (listed.setIfInBounds j true).getD k true = false →
          (∀ e ∈ ok.after, Region.binds md e = true → e.on ≠ i) → oi.apart ops ok = true := fun k ok hk hki hun hno => by
        refine hfree k ok hk hki ?_ hno
        by_cases hjk : j = k
        · subst hjk; exact hjun
        · rw [getD_set_ne true hjk] at hun; exact hun
      have hT2 : ∀ k, (listed.setIfInBounds j true).getD k true = false → waits md ops k i = true ∨ ∀ w, S k w → T w := fun k hk => by
        refine hT k ?_
        by_cases hjk : j = k
        · subst hjk; exact hjun
        · rw [getD_set_ne true hjk] at hk; exact hk
      refine wpOp_mono (fun a' w' h3 => ⟨h3.2.1, ih (listed.setIfInBounds j true) a' w' hT2 hfree' (ready_mono hr (Ne.symm hji)) h3.1 (hjT w' h3.2.1) (hi' _ (hjT w' h3.2.1)) ?_⟩) h2
      rw [Array.setIfInBounds_comm _ _ hji]
      exact h3.2.2
theorem AnyS.take {i : Nat} {oi : Oper} {v : Value} {T : World → Prop} {fuel : Nat} {listed : Array Bool} {a : Act} {w : World} (hi : ops[i]? = some oi)
    (hs : Region.noSelect ops = true) (hf : Region.free md ops listed i = true) (hr : (Region.ready md ops listed).contains i = true)
    (hQ : ∀ c a w, Q (.panic c) (a.put oi.dst v) w → Q (.panic c) a w) (k m : Nat) (hk : ∀ j, listed.getD j true = false → j < k ∨ k + m ≤ j → ∀ w, S j w → T w) (hlate : (List.range m).all (fun j => waits md ops (k + j) i) = true)
    (hi' : ∀ w, T w → S i w) (hy : YieldsIf Pg ops T oi v a) (hTw : T w)
    (h : AnyS Pg md ops Q S fuel (listed.setIfInBounds i true) (a.put oi.dst v) w) : AnyS Pg md ops Q S (fuel + 1) listed a w :=
  AnyS.first hi (Region.noSelect_spec hs) hQ hi' fuel listed a w (fun j hj => by
    by_cases h1 : j < k ∨ k + m ≤ j
    · exact Or.inr (hk j hj h1)
    · refine Or.inl ?_
      have := (List.all_eq_true.1 hlate) (j - k) (List.mem_range.2 (by omega))
      have e : k + (j - k) = j := by omega
      rw [e] at this
      exact this) (Region.free_spec hi hf) (by simpa using hr) hy hTw (hi' _ hTw) h
theorem AnyS.one {i : Nat} {o : Oper} {fuel : Nat} {listed : Array Bool} {a : Act} {w : World} (hr : Region.ready md ops listed = [i]) (ho : ops[i]? = some o)
    (h : ∀ K' : Act → World → Prop, Shut (∀ a w, S i w → (S i w → AnyS Pg md ops Q S fuel (listed.setIfInBounds i true) a w) → K' a w) → if Region.wanted o (yielded ops a.tmps) = true then Oper.wp Pg o a w K' Q else K' (a.put o.dst undef) w) :
    AnyS Pg md ops Q S (fuel + 1) listed a w :=
  ⟨fun h0 => absurd (hr ▸ h0) (by simp), fun j hj => by
    rw [hr] at hj
    have hj' : j = i := by simpa using hj
    subst hj'
    exact wpOp_step ho (fun K' hK => h K' (fun a w hS hW => hK a w ⟨hS, hW hS⟩))⟩
theorem AnyS.last {l : Nat} {o : Oper} {fuel : Nat} {listed : Array Bool} {a : Act} {w : World} (hr : Region.ready md ops listed = [l]) (ho : ops[l]? = some o)
    (hd : Region.ready md ops (listed.setIfInBounds l true) = []) (hSl : ∀ w, S l w)
    (h : ∀ K' : Act → World → Prop, Shut (∀ a w, Q .normal a w → K' a w) → if Region.wanted o (yielded ops a.tmps) = true then Oper.wp Pg o a w K' Q else K' (a.put o.dst undef) w) :
    AnyS Pg md ops Q S (fuel + 1) listed a w :=
  ⟨fun h0 => absurd (hr ▸ h0) (by simp), fun j hj => by
    rw [hr] at hj
    have hj' : j = l := by simpa using hj
    subst hj'
    refine wpOp_step ho (fun K' hK => h K' (fun a w hW => hK a w ⟨hSl w, ?_⟩))
    cases fuel with
    | zero => exact ⟨hd, hW⟩
    | succ fuel => exact ⟨fun _ => hW, by rw [hd]; simp⟩⟩
theorem AnyS.start {id : Nat} {a : Act} {w : World} (hm : Pg.follows .mixedOrders = true)
    (h : AnyS Pg .any ops Q S ops.size (Array.replicate ops.size false) a w.drew) : (Code.region id ops true).wp Pg Q a w :=
  wp_region_any hm (AnyS.any _ _ _ _ h)
end
end Go.Proofs.Ytgmnknmjainabab
