/-
  Its own texts.
-/
import Derived.Test.YtgmnknmjainabacGreatJ22
set_option maxRecDepth 100000
set_option maxHeartbeats 40000000
set_option linter.unnecessarySimpa false
set_option linter.unusedSimpArgs false
set_option linter.unusedVariables false
namespace Go.Proofs.YtgmnknmjainabacGreat
open Go.RowKit
attribute [local go_sem ↓] Go.wp_at_zero Go.wp_at_succ
open Ex
theorem ra1_off (w:World) (B0 B1 B2:Nat) (s:Sp) (last p q:Int) (k b:Nat) (j:Int) (a:Int × Int) (hs:SpAt w s k a.1 a.2) (X:IcC w B0 last) (D:IcC w B1 (b:Int)) (Z:RaC w B2 p q) (hj:last<j) :
  Calls Tryz.prog 189 #[.agg s.q,.int .i64 j,.pointer (some ⟨B0,0,none⟩),.pointer (some ⟨B1,0,none⟩),.pointer (some ⟨B2,0,none⟩)] w (zL w b (k+4+10) 0 0):=by
 have l0:=X.lt;have l1:=D.lt;have o0:=X.c0;have o1:=D.c0;have Bv:B0≠w.heap.size:=by omega
 have DC:B1≠w.heap.size:=by omega
 clear hs Z X D
 go_enter Tryz.func189,Tryz.ntmps189
 go_wp2_with fail;refine bodyPost_ret (v:=.agg #[.bool false,.slice none 0 0,.bool false,.slice none 0 0,.int .i64 (b:Int)]) (by simp[results,Tryz.results189,go_sem]) rfl ⟨⟨false,none,0,0,false,none,0,0,(b:Int)⟩,rfl,rfl,⟨zEN _ _,zEN _ _⟩,?_⟩
 first|exact bl2 _ _ _|exact kM (bl2 _ _ _) (by omega) _ _ _ _ _
theorem ra1_iv (w:World) (B0 B1 B2:Nat) (s:Sp) (last p q:Int) (k b:Nat) (j:Int) (a:Int × Int) (hs:SpAt w s k a.1 a.2) (X:IcC w B0 last) (D:IcC w B1 (b:Int)) (Z:RaC w B2 p q) (hk:k<=100000000) (hb:s.bits=(b:Int)) (hj:¬ last<j) (VB:0<j) (AH:j<=1000000000) (hr:rok p q) :
  Calls Tryz.prog 189 #[.agg s.q,.int .i64 j,.pointer (some ⟨B0,0,none⟩),.pointer (some ⟨B1,0,none⟩),.pointer (some ⟨B2,0,none⟩)] w (zL w b (k+4+10) (zJ a p (q*j)).1 (zJ a p (q*j)).2):=by
 obtain⟨a1,a2,a3,a4⟩:=hr;have qj:=Int.mul_pos (show 0<q by omega) VB
 have Xv:=Int.mul_le_mul a4 AH (by omega) (by omega)
 have HE:=zC (show IntKind.i64.wrap (q*j)=q*j from jC _ (by omega) (by omega))
 have HQ:=zC (show -9223372036854775808<=q*j/\q*j<=9223372036854775807/\0<q*j from⟨by omega,by omega,qj⟩)
 obtain⟨W,hW⟩:∃ W,W=(w.alloc (.cells s.q 31)).alloc (.cells zCq 31):=⟨_,rfl⟩;have j6:Below w.heap.size w W:=by rw[hW];exact bl2 _ _ _
 have A:SpC W w.heap.size s:=by rw[hW];constructor<;>simp[go_sem]
 have R:NoC W (w.heap.size+1):=by rw[hW];constructor<;>simp[go_sem]
 have l0:=X.lt;have l1:=D.lt;have l2:=Z.lt;have o0:=X.c0;have o1:=D.c0;have o2:=Z.c0;have o3:=Z.c1;replace X:=X.bw j6;replace D:=D.bw j6;replace Z:=Z.bw j6;have lR:=R.lt;have lA:=A.lt;have HS:=zC (hs.bw j6);have HB:=zC hb;have D9:Below W.heap.size W W.drew:=(Below.refl _ _).drew;have HK:=zC (show ∀ w',Below W.heap.size W w'->(cK w' w.heap.size s (w'.cell? ⟨B0,0,none⟩=some (.int .i64 last)/\w'.cell? ⟨B1,0,none⟩=some (.int .i64 (b:Int))/\rK0 w' B2 p q)) from λ w' hB=>⟨(A.bw hB).c0,(A.bw hB).c1,(A.bw hB).c2,(A.bw hB).c3,(A.bw hB).c4,(X.bw hB).c0,(D.bw hB).c0,(Z.bw hB).c0,(Z.bw hB).c1⟩)
 clear X D Z A hs hb qj Xv
 go_enter Tryz.func189,Tryz.ntmps189
 go_wp2;rw[<- hW];clear hW o0 o1 o2 o3;have Bv:w.heap.size+1≠B0:=by omega
 have DC:w.heap.size+1≠B1:=by omega
 have Pk:w.heap.size+1≠B2:=by omega
 obtain⟨x0,x1,x2,x3,x4,x5,x6,x7,x8⟩:=zA HK _ (Below.refl _ _)
 go_region_held3 (λ w'=>cK w' w.heap.size s (w'.cell? ⟨B0,0,none⟩=some (.int .i64 last)/\w'.cell? ⟨B1,0,none⟩=some (.int .i64 (b:Int))/\rK0 w' B2 p q)) (first|exact zA HK _ (by with_reducible first|exact D9|exact D6|exact A7|exact C9)|(dsimp only[cK,cK0,nK,nK0,rK,rK0];go_keep)|go_keep)
  (first
   | (go_at_call 151;have K9:=A7;refine (zA4 _ s ⟨o7,e1,m1,c1⟩ ⟨j7,e2,m2,c2⟩ k 4 _ b a p (q*j) ((zA HS).bw A7) (s9.bw j5) A8 (by omega) (by omega) (zA HQ).2.2 (zA HB)).mono ?_;rintro zz w3 ⟨u,rfl,D5,B9,m8⟩;have D6:=zB A7 m8;have G3:=zC D5;clear D5;obtain⟨q0,q1,q2,q3,q4,q5⟩:=R.bw D6;obtain⟨i0,i1,i2,i3,i4,i5,i6,i7,i8⟩:=zA HK _ D6)
   | (go_at_call 33;have K9:=C9;(try rw[zA HE]);refine (zE (q*j) _ (zA HQ).1 (zA HQ).2.1).mono ?_;rintro zz w2 ⟨j7,e2,m2,c2,rfl,A8,j5⟩;have A7:=zB C9 j5)
   | (go_at_call 33;refine (zE p _ (by omega) (by omega)).mono ?_;rintro zz w1 ⟨o7,e1,m1,c1,rfl,s9,b9⟩;have C9:=zB D9 b9))
 all_goals
  go_wp2;refine bodyPost_ret (v:=.agg u.q) (by simp[results,Tryz.results189,go_sem,q0,q1,q2,q3,q4]) rfl ⟨u,rfl,zA G3,?_,?_⟩
  ·exact SpAt.put5 (B9) q0 q1 q2 q3 q4 _ _ _ _ _
  ·exact kM (zB j6 D6) (by omega) _ _ _ _ _
theorem en_ra (args:Array Value) (w:World):(callFunc 189 args).run Tryz.prog w=.ok (.enter 189 args) w:=by simp[go_sem,callFunc,Tryz.func189];kernel_rfl
theorem rareW_iv (w : World) (p q last n d : Int) (b : Nat) (hr : rok p q) (hp : 0 < p) (hp2 : p ≤ 100 * q) (hl : 0 ≤ last) (hl2 : last ≤ 1000000000) (hnd : n / d = last) (hb40 : 40 ≤ b) (hb : b ≤ 400) :
    Calls Tryz.prog 161 #[.agg #[.int .i64 p, .int .i64 q], .int .i64 last, .int .i64 b] w (BlA (raX p q n d) w b) := by
  obtain ⟨a1, a2, a3, a4⟩ := hr
  have q0' : 0 < q := by omega
  obtain ⟨NS, hNS, hNS2⟩ := ra_set (last := last) hp q0' hp2 hb40 hb
  obtain ⟨l, t, N, e1, e2, e3, e4, e5⟩ := zEE (B := b) (e := 7) (by omega) (yU q0' b) (zHN (p := p) (q := q) (n := 100) (b := b) (e := 7) q0' (by omega) (by omega) (by decide))
  obtain ⟨g1, g2, g3, g4, g5⟩ := ra_lw hp q0' hp2 hl hnd hb40 hb (show t ≤ 15 by omega) e4 e5 hNS hNS2
  obtain ⟨tn1, tn2⟩ := zJ5 hp q0' hp2
  have PK : ∀ j : Nat, j ≤ 1900 → Q j < P 130 := fun j hj => by
    rw [← Q_P]
    have h1 := zK (show j + 1 ≤ 16 * 130 by omega)
    have h2 : Q (j + 1) = 2 * Q j := rfl
    have := zF j
    omega
  have HQB := zC (show -P 130 < Q b ∧ Q b < P 130 by
    have := PK b (by omega)
    have := zF b
    exact ⟨by omega, by omega⟩)
  have so := zNK (last := last) hp q0' b
  have HTF := zC (show ∀ j, j ≤ NS → -P 130 < (raT p q last b j).1 ∧ (raT p q last b j).2 < P 130 from fun j _ => by
    have e := yT so j
    have u := (zL2 (last := last) hp q0' hp2 hb40 hb 0 (by omega))
    have v := (zL2 (last := last) hp q0' hp2 hb40 hb (min j 1000000) (by omega)).2
    have k := PK 1900 (by omega)
    have := zF 1900
    have w2 : (raT p q last b j).2 ≤ Q 1900 := (zL2 (last := last) hp q0' hp2 hb40 hb j (by omega)).2
    have l0 : 0 ≤ (raT p q last b j).1 := e.1
    exact ⟨by omega, by omega⟩)
  have HTS := zC (show ∀ j, j ≤ NS → -P 130 < (jH (raT p q last b) j).1 ∧ (jH (raT p q last b) j).2 < P 130 from fun j hj => by
    have u := (zL2 (last := last) hp q0' hp2 hb40 hb j (by omega)).1
    have l : Q b ≤ (jH (raT p q last b) j).1 := (zFB so j).2.2
    have := PK 1900 (by omega)
    have := zF b
    have := zF 1900
    exact ⟨by omega, by omega⟩)
  have HTL := zC (fun j => show (raT p q last b j).1 ≤ (raT p q last b j).2 from (yT so j).2)
  have HT0 := zC (fun j => show 0 ≤ (raT p q last b j).1 from (yT so j).1)
  have HM := zC hNS2
  have HE1 := zC (show IntKind.i64.wrap (2 * p) = 2 * p from jC _ (by omega) (by omega))
  have HE2 := zC (show (2 * p).tdiv q = (zBJ p q : Int) by rw [tn2]; exact Int.tdiv_eq_ediv_of_nonneg (by omega))
  have HE3 := zC (show IntKind.i64.wrap (zBJ p q : Int) = (zBJ p q : Int) from jC _ (by omega) (by omega))
  have HPR := zC g5
  have HP := zC (And.intro e1 (And.intro e2 (And.intro e4 e5)))
  have HQE := zC (show Q (b + eb t) < P 700 by
    have m := zK (show b + eb t ≤ 4000 by (have := zB8 (show t ≤ 15 by omega)); (have h : eb 15 = 384 := (by decide)); omega)
    have h1 := zK (show 4000 + 1 ≤ 16 * 700 by omega)
    rw [Q_P] at h1
    have h2 : Q (4000 + 1) = 2 * Q 4000 := rfl
    have := zF 4000
    omega)
  have ht : t ≤ 15 := by omega
  have hNSl : NS ≤ 5700 := hNS
  have HG := zC (And.intro g1 (And.intro g2 (And.intro g3 g4)))
  clear so PK g1 g2 g3 g4 g5 e1 e2 e4 e5 hNS2 tn2 hNS e3
  obtain ⟨W, hW⟩ : ∃ W, W = (((w.alloc (.cells #[.int .i64 p, .int .i64 q] 23)).alloc (.cells #[.int .i64 last] 3)).alloc (.cells #[.int .i64 (b : Int)] 3)).alloc (.cells zCq 31) := ⟨_, rfl⟩
  have hBW : Below w.heap.size w W := by rw [hW]; exact bl4 _ _ _ _ _
  have A0 : RaC W (w.heap.size) p q := by rw [hW]; constructor <;> simp [go_sem]
  have L0 : IcC W (w.heap.size + 1) last := by rw [hW]; exact ⟨by simp [go_sem]⟩
  have B0 : IcC W (w.heap.size + 1 + 1) (b : Int) := by rw [hW]; exact ⟨by simp [go_sem]⟩
  have R : NoC W (w.heap.size + 1 + 1 + 1) := by rw [hW]; constructor <;> simp [go_sem]
  have lR := R.lt
  have HFN := zC (show ∀ W', Below W.heap.size W W' → ∀ (j : Nat) (u : Sp) w', j < NS → u.bits = (b : Int) → SpAt w' u 130 (raT p q last b j).1 (raT p q last b j).2 → Below W'.heap.size W' w' → Calls Tryz.prog 189 #[.agg u.q, .int .i64 ((j : Int) + 1), .pointer (some ⟨w.heap.size + 1, 0, none⟩), .pointer (some ⟨w.heap.size + 1 + 1, 0, none⟩), .pointer (some ⟨w.heap.size, 0, none⟩)] w' (zL w' b 144 (raT p q last b (j + 1)).1 (raT p q last b (j + 1)).2) from fun W' hW' j u w' hj hub hup hbw => by
    have hb' := zB hW' hbw
    have ec : ((j + 1 : Nat) : Int) = (j : Int) + 1 := by omega
    have e2 : raT p q last b (j + 1) = zJ (raT p q last b j) (raU p last (j + 1)) (raD q last (j + 1)) := rfl
    rw [e2]
    unfold raU raD
    rw [ec]
    by_cases c : last < (j : Int) + 1
    · have e := ra1_off w' (w.heap.size + 1) (w.heap.size + 1 + 1) (w.heap.size) u last p q 130 b ((j : Int) + 1) (raT p q last b j) hup (L0.bw hb') (B0.bw hb') (A0.bw hb') c
      rw [if_pos c, if_pos c]
      have z : zJ (raT p q last b j) 0 1 = (0, 0) := by unfold zJ; simp
      rw [z]; exact e
    · have e := ra1_iv w' (w.heap.size + 1) (w.heap.size + 1 + 1) (w.heap.size) u last p q 130 b ((j : Int) + 1) (raT p q last b j) hup (L0.bw hb') (B0.bw hb') (A0.bw hb') (by omega) hub c (by omega) (by omega) ⟨a1, a2, a3, a4⟩
      rw [if_neg c, if_neg c, if_neg (by omega)]
      exact e)
  have HK := zC (show ∀ w', Below W.heap.size W w' → (rK w' w.heap.size p q (w'.cell? ⟨(w.heap.size + 1), 0, none⟩ = some (.int .i64 last) ∧ w'.cell? ⟨(w.heap.size + 1 + 1), 0, none⟩ = some (.int .i64 (b : Int)))) from fun w' hB => ⟨(A0.bw hB).c0, (A0.bw hB).c1, (L0.bw hB).c0, (B0.bw hB).c0⟩)
  have hq1 : ¬ q = 0 := by omega
  have hq2 : ¬ q = -1 := by omega
  have lA := A0.lt
  have lL := L0.lt
  have lB := B0.lt
  clear L0 B0
  go_enter Tryz.func161, Tryz.ntmps161
  go_wp2
  rw [← hW]
  clear hW
  obtain ⟨x0, x1, x2, x3⟩ := zA HK _ (Below.refl _ _)
  go_cut [7] (fun pz wx => ∃ (B : Nat) (u : Sp), pz = .pointer (some ⟨B, 0, none⟩) ∧ W.heap.size ≤ B ∧ VrC wx B u ∧ SpAt wx u 133 (kT (raT p q last b) NS).1 (kT (raT p q last b) NS).2 ∧ u.bits = (b : Int) ∧ Below W.heap.size W wx)
  case first =>
    go_region_held3 (fun w' => rK w' w.heap.size p q (w'.cell? ⟨(w.heap.size + 1), 0, none⟩ = some (.int .i64 last) ∧ w'.cell? ⟨(w.heap.size + 1 + 1), 0, none⟩ = some (.int .i64 (b : Int)))) (exact zA HK _ (by repeat' (first | with_reducible exact hBS2 | with_reducible exact hBS1 | with_reducible exact Below.refl _ _ | with_reducible refine Below.drew ?_ | with_reducible refine zO ?_ _ | with_reducible refine Below.setCell ?_ (by first | exact Nat.le_refl _ | exact hlS1 | exact hlS2) _)))
      (first
        | (go_at_call 182; (try rw [zA HE1]); (try rw [zA HE2]); (try rw [zA HE3]); have hq := hBS1; refine (zD4 _ #[.pointer (some ⟨w.heap.size + 1, 0, none⟩), .pointer (some ⟨w.heap.size + 1 + 1, 0, none⟩), .pointer (some ⟨w.heap.size, 0, none⟩)] en_ra (raT p q last b) (zBJ p q) NS b 130 144 vS1 _ ((zA HP9).bw (by with_reducible first | exact Below.refl _ _ | exact bl1 _ _)) (zA HVBS1) (by omega) (by omega) (by omega) (by omega) (zA HM) (by omega) (by omega) (zA HTL) (zA HT0) (zA HTF) (zA HTS) (zA HFN _ (by with_reducible first | exact hBS1 | exact zO hBS1 _))).mono ?_; rintro r wS2 ⟨vS2, rfl, hvbS2, hZS2, hbS2⟩; have HVBS2 := zC hvbS2; clear hvbS2; have hCS2 : Below wS1.heap.size wS1 wS2 := (by with_reducible first | exact hbS2 | exact zB (bl1 _ _) hbS2); have hBS2 := zB hBS1 hCS2; (try with_reducible have gS2 := (zS wS1 31).bw hbS2); (try replace gS1 := gS1.bw hCS2); have hlS2 := hBS2.size; (try have mS1 := gS1.lt); (try have eS1 := Nat.ne_of_lt mS1); (try have eS1' := Nat.ne_of_gt mS1); (try obtain ⟨zS10, zS11, zS12, zS13, zS14, zS15⟩ := gS1); (try have mS2 := gS2.lt); (try have eS2 := Nat.ne_of_lt mS2); (try have eS2' := Nat.ne_of_gt mS2); (try obtain ⟨zS20, zS21, zS22, zS23, zS24, zS25⟩ := gS2))
        | (go_at_call 93; refine (zCX _ b (by omega)).mono ?_; rintro r' wS1 ⟨vS1, rfl, hvbS1, hZS1, hbS1⟩; rw [show 1 * Q b / 1 = Q b by rw [Int.ediv_one, Int.one_mul], show -(-(1 * Q b) / 1) = Q b by rw [Int.ediv_one, Int.one_mul, Int.neg_neg]] at hZS1; have HVBS1 := zC hvbS1; have HP9 := zC (hZS1.fits (K := 130) (Int.le_refl _) (zA HQB).1 (zA HQB).2); clear hvbS1 hZS1; have hBS1 : Below W.heap.size W wS1 := (by with_reducible first | exact zB (Below.refl _ _).drew hbS1 | exact zB (bl1 _ _).drew hbS1); (try with_reducible have gS1 := ((zS W 31).bw (Below.refl _ _).drew).bw hbS1); have hlS1 := hBS1.size))
    all_goals
      have hfinS : SpAt wS2 vS2 133 (kT (raT p q last b) NS).1 (kT (raT p q last b) NS).2 := hZS2
      go_wp2_with fail
      go_meet
      refine ⟨_, vS2, rfl, ?_, ⟨⟨?_, ?_, ?_, ?_, ?_⟩, ?_⟩, ?_, zA HVBS2, ?_⟩
      · first | exact Nat.le_refl _ | exact hlS1 | exact hlS2
      · simp [go_sem, *]
      · simp [go_sem, *]
      · simp [go_sem, *]
      · simp [go_sem, *]
      · simp [go_sem, *]
      · intro o; simp [go_sem, *]
      · first | with_reducible exact SpAt.put5 hfinS zS20 zS21 zS22 zS23 zS24 _ _ _ _ _ | with_reducible exact SpAt.put5 hfinS zS10 zS11 zS12 zS13 zS14 _ _ _ _ _ | with_reducible exact hfinS.bw (bl1 _ _)
      · repeat' (first | with_reducible exact hBS2 | with_reducible exact hBS1 | with_reducible exact Below.refl _ _ | with_reducible refine Below.drew ?_ | with_reducible refine zO ?_ _ | with_reducible refine Below.setCell ?_ (by first | exact Nat.le_refl _ | exact hlS1 | exact hlS2) _)
  case rest =>
  obtain ⟨BS, xS, rfl, hHS, XS, hpS, hxbS, hblS⟩ := hcut
  obtain ⟨V7, hV7⟩ : ∃ V, V = wc := ⟨_, rfl⟩
  subst hV7
  have kS := Nat.lt_of_lt_of_le lR hHS
  replace A0 := A0.bw hblS
  replace R := R.bw hblS
  replace hBW := zB hBW hblS
  have HSP := zC hpS
  have HSB := zC hxbS
  have XSC := XS.c
  clear hpS hxbS XS HK HFN HTL HT0 HTF HTS HE1 HE2 HE3 x0 x1 x2 x3 hblS lA lL lB
  have lA := A0.lt
  have lS := XSC.lt
  have lR2 := R.lt
  obtain ⟨y0, y1, y2, y3, y4⟩ := XSC
  obtain ⟨z0, z1⟩ := A0
  go_wp2_with fail
  refine (zNE _ xS p q 700 b t N l (kT (raT p q last b) NS) ((zA HSP).mono (by omega)) (zA HSB) (zA HG).2.2.2 ⟨a1, a2, a3, a4⟩ (by omega) (by omega) (by omega) (zA HP).1 (zA HP).2.1 (by omega) (zA HP).2.2.1 (zA HP).2.2.2 (zA HQE) (by omega) (by omega)).mono ?_
  rintro r' w3 ⟨v3, rfl, hvb3, hs3, hb3⟩
  replace R := R.bw hb3
  replace hBW := zB hBW hb3
  have HV3 := zC hvb3
  clear hvb3 hb3 y0 y1 y2 y3 y4 z0 z1
  go_wp2_with fail
  refine (zCH _ v3 (b / 16 + 700 + 10) b _ _ hs3 (zA HV3) (by omega) (by omega) (by omega)).mono ?_
  rintro r' w4 ⟨u, rfl, hub, hup, hb4⟩
  obtain ⟨q0, q1, q2, q3, q4, q5⟩ := R.bw hb4
  replace hBW := zB hBW hb4
  have HUB := zC hub
  clear hub hb4
  rw [zE7] at hup
  go_wp2_with fail
  refine bodyPost_ret (v := .agg u.q) (by simp [results, Tryz.results161, go_sem, q0, q1, q2, q3, q4]) rfl ⟨_, _, zA HPR, u, rfl, zA HUB, ?_, ?_⟩
  · exact SpAt.put5 (SpAt.mono hup (by omega)) q0 q1 q2 q3 q4 _ _ _ _ _
  · exact kM hBW (by omega) _ _ _ _ _
theorem lrare_no (w:World) (p q last n d:Int) (b:Nat) (hb:b<=2000) (hl:last<0) :
  Calls Tryz.prog 138 #[.agg #[.int .i64 p,.int .i64 q],.int .i64 last,.int .i64 b] w (BlA (λ _=>0) w b):=by
 go_enter Tryz.func138,Tryz.ntmps138
 go_wp2_with fail;refine (zE8 _ b hb).mono ?_;rintro zz w1 ⟨lo,hi,I2,u,rfl,D5,B9,b9⟩;have R:NoC w1 (w.heap.size+1):=NoC.bw ⟨by simp[go_sem],by simp[go_sem],by simp[go_sem],by simp[go_sem],by simp[go_sem],λ o=>by simp[go_sem]⟩ b9
 have hB:Below w.heap.size w w1:=zB (bl2 _ _ _ ) b9;obtain⟨q0,q1,q2,q3,q4,q5⟩:=R;have G3:=zC D5;clear D5 b9;go_wp2_with fail;refine bodyPost_ret (v:=.agg u.q) (by simp[results,Tryz.results138,go_sem,q0,q1,q2,q3,q4]) rfl ⟨lo,hi,I2,u,rfl,zA G3,?_,?_⟩
 ·exact SpAt.put5 (B9) q0 q1 q2 q3 q4 _ _ _ _ _
 ·exact kM hB (by omega) _ _ _ _ _
theorem lrare_iv (w:World) (p q last n d:Int) (b:Nat) (hr:rok p q) (hp:0<p) (J3:p<=100*q) (hl:0<=last) (Z9:last<=1000000000) (lf:n/d=last) (E7:40<=b) (hb:b<=400) :
  Calls Tryz.prog 138 #[.agg #[.int .i64 p,.int .i64 q],.int .i64 last,.int .i64 b] w (BlA (raX p q n d) w b):=by
 have GI:¬ last<0:=by omega
 go_enter Tryz.func138,Tryz.ntmps138
 go_wp2_with fail;refine (rareW_iv _ p q last n d b hr hp J3 hl Z9 lf E7 hb).mono ?_;rintro zz w1 ⟨lo,hi,I2,u,rfl,D5,B9,b9⟩;have R:NoC w1 (w.heap.size+1):=NoC.bw ⟨by simp[go_sem],by simp[go_sem],by simp[go_sem],by simp[go_sem],by simp[go_sem],λ o=>by simp[go_sem]⟩ b9
 have hB:Below w.heap.size w w1:=zB (bl2 _ _ _ ) b9;obtain⟨q0,q1,q2,q3,q4,q5⟩:=R;have G3:=zC D5;clear D5 b9;go_wp2_with fail;refine bodyPost_ret (v:=.agg u.q) (by simp[results,Tryz.results138,go_sem,q0,q1,q2,q3,q4]) rfl ⟨lo,hi,I2,u,rfl,zA G3,?_,?_⟩
 ·exact SpAt.put5 (B9) q0 q1 q2 q3 q4 _ _ _ _ _
 ·exact kM hB (by omega) _ _ _ _ _
theorem lw_half {x:Nat->Rat} {B:Nat} {l u:Int} (h:LwPr x B l u):LwPr (λ M=>(1:Int)/((2:Int):Rat)*x M) B (zJ (l,u) 1 2).1 (zJ (l,u) 1 2).2:=by
 have q:=zF B;have Ip:Q 89=2*Q 88:=rfl;have q88:=zK (show 2<=88 by omega)
 have q2:Q 2=4:=rfl;have a:=h.lo;have b:=h.le;have c:=h.hi;have d:=h.wd;have e1:(zJ (l,u) 1 2).1=l/2:=by show l*1/2=_;rw[Int.mul_one]
 have e2:(zJ (l,u) 1 2).2 = -(-u/2):=by show -(-(u*1)/2)=_;rw[Int.mul_one]
 refine⟨by rw[e1];omega,by rw[e1,e2];omega,by rw[e2];omega,by rw[e1,e2];omega,?_⟩
 exact h.iv.scale (n:=1) (d:=2) (by decide) (by decide)
theorem zM9 (w:World) (p q n d:Int) (b:Nat) (hb:b<=400) (hn:n=0) :
  Calls Tryz.prog 135 #[.agg #[.int .i64 p,.int .i64 q],.agg #[.int .i64 n,.int .i64 d],.int .i64 b] w (BlA (λ _=>(1:Int)/((2:Int):Rat)) w b):=by
 subst hn
 go_enter Tryz.func135,Tryz.ntmps135
 go_wp2_with fail;refine (zE 1 _ (by decide) (by decide)).mono ?_
 rintro r' w1 ⟨o7,a1,n1,c1,rfl,s9,b9⟩;have R:NoC w1 (w.heap.size+1+1):=NoC.bw ⟨by simp[go_sem],by simp[go_sem],by simp[go_sem],by simp[go_sem],by simp[go_sem],λ o=>by simp[go_sem]⟩ b9
 have hB:Below w.heap.size w w1:=zB (bl3 _ _ _ _) b9;clear b9;go_wp2_with fail;refine (zE 2 _ (by decide) (by decide)).mono ?_
 rintro r' w2 ⟨j7,a2,n2,c2,rfl,A8,j5⟩;replace R:=R.bw j5;replace hB:=zB hB j5;replace s9:=s9.bw j5;clear j5;go_wp2_with fail;refine (jL _ _ _ _ _ _ _ _ 4 4 b 1 2 _ s9 A8 (by omega) (by omega) (by decide)).mono ?_
 rintro r' w3 ⟨u,rfl,D5,B9,m8⟩;replace hB:=zB hB m8;obtain⟨q0,q1,q2,q3,q4,q5⟩:=R.bw m8;have G3:=zC D5;clear D5 m8 R;go_wp2_with fail;refine bodyPost_ret (v:=.agg u.q) (by simp[results,Tryz.results135,go_sem,q0,q1,q2,q3,q4]) rfl ⟨_,_,of_lw b (show (0:Int)<=1 by decide) (show (0:Int)<2 by decide) (by decide),u,rfl,zA G3,?_,?_⟩
 ·exact SpAt.put5 (SpAt.mono B9 (by omega)) q0 q1 q2 q3 q4 _ _ _ _ _
 ·exact kM hB (by omega) _ _ _ _ _
theorem lstud_iv (L G:Rat->Nat->Rat) (X:Int->Int->Nat->Rat) (hE:zNU L G X) (w:World) (p q n d:Int) (b:Nat) (E7:40<=b) (hb:b<=400) (hn:n≠0) (L9:rok p q) (L4:rok n d) (hp:0<p) (J3:p<=100*q) :
  Calls Tryz.prog 135 #[.agg #[.int .i64 p,.int .i64 q],.agg #[.int .i64 n,.int .i64 d],.int .i64 b] w (BlA (stX L p q n d) w b):=by
 obtain⟨a1,a2,a3,a4⟩:=L9;obtain⟨c1,c2,c3,c4⟩:=L4;have MF:=Int.mul_pos (show 0<d by omega) (show 0<d by omega)
 have dd:=Int.mul_le_mul c4 c4 (by omega) (by omega)
 obtain⟨Py,nn⟩:=sq_bd c1 c2;have f0:=Int.mul_pos hp MF;have f1:=Int.mul_le_mul (show p<=102400 by omega) dd (by omega) (by omega)
 have s0:=Yl (show 0<=q by omega) Py
 have s1:=Int.mul_le_mul a4 nn (by omega) (by omega)
 have AR:=zC (show BpAr p (2*q) 1 2 (p*(d*d)) ((p*(d*d))+(q*(n*n))) b from⟨hp,by omega,by omega,by omega,by decide,by decide,by decide,by decide,by omega,by omega,by omega,by omega,E7,hb⟩)
 have M5:=zC (show IntKind.i64.wrap (d*d)=d*d from jC _ (by omega) (by omega))
 have S3:=zC (show IntKind.i64.wrap (n*n)=n*n from jC _ (by omega) (by omega))
 have cl:=zC (show IntKind.i64.wrap (2*q)=2*q from jC _ (by omega) (by omega))
 have cm:=zC (show -9223372036854775808<=d*d/\d*d<=9223372036854775807 from⟨by omega,by omega⟩)
 have gm:=zC (show -9223372036854775808<=n*n/\n*n<=9223372036854775807 from⟨by omega,by omega⟩)
 have HF:=zC (show (-P 4<(p*(d*d))/\(p*(d*d))<P 4) /\ -P 4<(p*(d*d))+(q*(n*n))/\(p*(d*d))+(q*(n*n))<P 4 by
  have:P 4=18446744073709551616:=rfl
  exact⟨⟨by omega,by omega⟩,by omega,by omega⟩)
 have lb:¬ n=0:=by omega
 have eZ:(n == 0)=false:=by simp[lb]
 clear MF dd Py nn f0 f1 s0 s1 hp J3;obtain⟨W,hW⟩:∃ W,W=((w.alloc (.cells #[.int .i64 p,.int .i64 q] 23)).alloc (.cells #[.int .i64 n,.int .i64 d] 23)).alloc (.cells zCq 31):=⟨_,rfl⟩;have j6:Below w.heap.size w W:=by rw[hW];exact bl3 _ _ _ _
 have A:RaC W (w.heap.size) p q:=by rw[hW];constructor<;>simp[go_sem]
 have D:RaC W (w.heap.size+1) n d:=by rw[hW];constructor<;>simp[go_sem]
 have R:NoC W (w.heap.size+1+1):=by rw[hW];constructor<;>simp[go_sem]
 have lA:=A.lt;have lD:=D.lt;have lR:=R.lt;have HK:=zC (show ∀ w',Below W.heap.size W w'->(rK w' w.heap.size p q (rK0 w' ((w.heap.size+1)) n d)) from λ w' hB=>⟨(A.bw hB).c0,(A.bw hB).c1,(D.bw hB).c0,(D.bw hB).c1⟩)
 go_enter Tryz.func135,Tryz.ntmps135
 go_wp2;rw[<- hW];clear hW;obtain⟨x0,x1,x2,x3⟩:=zA HK _ (Below.refl _ _)
 try go_wp2_with fail
 go_cut [7] (λ pz wx=>∃ (B:Nat) (u:Nm),pz=.pointer (some ⟨B,0,none⟩)/\W.heap.size<=B/\NmC wx B u/\IntAt wx u.neg u.a u.n u.cap 8 (p*(d*d))/\Below W.heap.size W wx)
 case first =>
  go_region_held3 (λ w'=>rK w' w.heap.size p q (rK0 w' ((w.heap.size+1)) n d)) (exact zA HK _ (by repeat' (first|with_reducible exact pS|with_reducible exact gQ|with_reducible exact gP|with_reducible exact Below.refl _ _|with_reducible refine Below.drew ?_|with_reducible refine zO ?_ _|with_reducible refine Below.setCell ?_ (by first|exact Yj _|exact rY|exact rZ|exact se) _)))
   (first
    | (go_at_call 83;have hq:=gQ;refine (jA _ _ _ _ _ _ _ _ 4 4 p (d*d) _ (iC.bw (by with_reducible first|exact Below.refl _ _|exact bl1 _ _)) (qM.bw (by with_reducible first|exact Below.refl _ _|exact bl1 _ _)) (by omega) (by omega)).mono ?_;rintro r PW ⟨oW,Mn,Pl,MA,rfl,Ga,qY⟩;have ij:Below DM.heap.size DM PW:=(by with_reducible first|exact qY|exact zB (bl1 _ _) qY);have pS:=zB gQ ij;(try with_reducible have MN:=(kG DM 29).bw qY);replace iC:=iC.bw ij;(try replace vR:=vR.bw ij);replace qM:=qM.bw ij;(try replace CH:=CH.bw ij);have se:=pS.size;(try have mF1:=vR.lt);(try obtain⟨IV,IW,zF1f⟩:=vR);(try have mF2:=CH.lt);(try obtain⟨IX,IY,zF2f⟩:=CH);(try have mF3:=MN.lt);(try obtain⟨IZ,Ja,zF3f⟩:=MN))
    | (go_at_call 33;have hq:=gP;(try rw[zA M5]);refine (zE (d*d) _ (zA cm).1 (zA cm).2).mono ?_;rintro r DM ⟨Pt,aF2,nF2,cF2,rfl,qM,qX⟩;have qx:Below DL.heap.size DL DM:=(by with_reducible first|exact qX|exact zB (bl1 _ _) qX);have gQ:=zB gP qx;(try with_reducible have CH:=(kG DL 29).bw qX);replace iC:=iC.bw qx;(try replace vR:=vR.bw qx);have rZ:=gQ.size)
    | (go_at_call 33;refine (zE p _ (by omega) (by omega)).mono ?_;rintro r DL ⟨Ps,aF1,nF1,cF1,rfl,iC,qW⟩;have gP:Below W.heap.size W DL:=(by with_reducible first|exact zB (Below.refl _ _).drew qW|exact zB (bl1 _ _).drew qW);(try with_reducible have vR:=((kG W 29).bw (Below.refl _ _).drew).bw qW);have rY:=gP.size))
  all_goals
   have hfinF:IntAt PW oW Mn Pl MA 8 (p*(d*d)):=Ga.mono (by omega)
   go_wp2_with fail;go_meet;refine⟨_,⟨oW,Mn,Pl,MA⟩,rfl,?_,⟨?_,?_⟩,?_,?_⟩
   ·first|exact Yj _|exact rY|exact rZ|exact se
   ·simp[go_sem, *]
   ·simp[go_sem, *]
   ·first|with_reducible exact hfinF.put2 IZ Ja _ _|with_reducible exact hfinF.put2 IX IY _ _|with_reducible exact hfinF.put2 IV IW _ _|with_reducible exact hfinF.bw (bl1 _ _)
   ·repeat' (first|with_reducible exact pS|with_reducible exact gQ|with_reducible exact gP|with_reducible exact Below.refl _ _|with_reducible refine Below.drew ?_|with_reducible refine zO ?_ _|with_reducible refine Below.setCell ?_ (by first|exact Yj _|exact rY|exact rZ|exact se) _)
 case rest =>
 obtain⟨BF,xF,rfl,hHF,XF,hpF,hblF⟩:=hcut;replace A:=A.bw hblF;replace D:=D.bw hblF;replace R:=R.bw hblF;replace j6:=zB j6 hblF;obtain⟨V1,R6⟩:∃ V,V=wc:=⟨_,rfl⟩;subst R6;have lF:=XF.lt;have WB:=A.lt;have WD:=D.lt;have DA:=R.lt;have xC:=zC (hpF.fits (zA HF).1.1 (zA HF).1.2);have vJ:=zC (show ∀ w',Below V1.heap.size V1 w'->(rK w' w.heap.size p q (rK0 w' ((w.heap.size+1)) n d)) from λ w' hB=>⟨(A.bw hB).c0,(A.bw hB).c1,(D.bw hB).c0,(D.bw hB).c1⟩)
 clear hpF hblF HK x0 x1 x2 x3;obtain⟨x0,x1,x2,x3⟩:=zA vJ _ (Below.refl _ _);go_wp2_with fail
 go_cut [8] (λ pz wx=>∃ (B:Nat) (u:Nm),pz=.pointer (some ⟨B,0,none⟩)/\V1.heap.size<=B/\NmC wx B u/\IntAt wx u.neg u.a u.n u.cap 8 (q*(n*n))/\Below V1.heap.size V1 wx)
 case first =>
  go_region_held3 (λ w'=>rK w' w.heap.size p q (rK0 w' ((w.heap.size+1)) n d)) (exact zA vJ _ (by repeat' (first|with_reducible exact W8|with_reducible exact J5|with_reducible exact G1|with_reducible exact Below.refl _ _|with_reducible refine Below.drew ?_|with_reducible refine zO ?_ _|with_reducible refine Below.setCell ?_ (by first|exact Yj _|exact J9|exact O5|exact dO) _)))
   (first
    | (go_at_call 83;have hq:=J5;refine (jA _ _ _ _ _ _ _ _ 4 4 q (n*n) _ (I1.bw (by with_reducible first|exact Below.refl _ _|exact bl1 _ _)) (Q3.bw (by with_reducible first|exact Below.refl _ _|exact bl1 _ _)) (by omega) (by omega)).mono ?_;rintro r tH ⟨oX,Mo,Po,MB,rfl,iH,cW⟩;have X7:Below eo.heap.size eo tH:=(by with_reducible first|exact cW|exact zB (bl1 _ _) cW);have W8:=zB J5 X7;(try with_reducible have pP:=(kG eo 29).bw cW);replace I1:=I1.bw X7;(try replace P5:=P5.bw X7);replace Q3:=Q3.bw X7;(try replace bl:=bl.bw X7);have dO:=W8.size;(try have fZ:=P5.lt);(try obtain⟨aR,aS,zS1f⟩:=P5);(try have mN:=bl.lt);(try obtain⟨eI,eJ,zS2f⟩:=bl);(try have Ic:=pP.lt);(try obtain⟨vo,vw,zS3f⟩:=pP))
    | (go_at_call 33;have hq:=G1;(try rw[zA S3]);refine (zE (n*n) _ (zA gm).1 (zA gm).2).mono ?_;rintro r eo ⟨BG,RM,Xb,Si,rfl,Q3,O2⟩;have Q2:Below Z2.heap.size Z2 eo:=(by with_reducible first|exact O2|exact zB (bl1 _ _) O2);have J5:=zB G1 Q2;(try with_reducible have bl:=(kG Z2 29).bw O2);replace I1:=I1.bw Q2;(try replace P5:=P5.bw Q2);have O5:=J5.size)
    | (go_at_call 33;refine (zE q _ (by omega) (by omega)).mono ?_;rintro r Z2 ⟨BD,RL,Xa,Sh,rfl,I1,J7⟩;have G1:Below V1.heap.size V1 Z2:=(by with_reducible first|exact zB (Below.refl _ _).drew J7|exact zB (bl1 _ _).drew J7);(try with_reducible have P5:=((kG V1 29).bw (Below.refl _ _).drew).bw J7);have J9:=G1.size))
  all_goals
   have hfinS:IntAt tH oX Mo Po MB 8 (q*(n*n)):=iH.mono (by omega)
   go_wp2_with fail;go_meet;refine⟨_,⟨oX,Mo,Po,MB⟩,rfl,?_,⟨?_,?_⟩,?_,?_⟩
   ·first|exact Yj _|exact J9|exact O5|exact dO
   ·simp[go_sem, *]
   ·simp[go_sem, *]
   ·first|with_reducible exact hfinS.put2 vo vw _ _|with_reducible exact hfinS.put2 eI eJ _ _|with_reducible exact hfinS.put2 aR aS _ _|with_reducible exact hfinS.bw (bl1 _ _)
   ·repeat' (first|with_reducible exact W8|with_reducible exact J5|with_reducible exact G1|with_reducible exact Below.refl _ _|with_reducible refine Below.drew ?_|with_reducible refine zO ?_ _|with_reducible refine Below.setCell ?_ (by first|exact Yj _|exact J9|exact O5|exact dO) _)
 case rest =>
 obtain⟨BS,xS,rfl,qH,XS,hpS,hblS⟩:=hcut;replace A:=A.bw hblS;replace D:=D.bw hblS;replace R:=R.bw hblS;replace XF:=XF.bw hblS;replace xC:=zC ((zA xC).bw hblS);replace j6:=zB j6 hblS;have Cx:=zC hpS;obtain⟨V2,Y9⟩:∃ V,V=wc:=⟨_,rfl⟩;subst Y9;have lS:=XS.lt;have lF1:=XF.lt;have Dz:=A.lt;have Hw:=D.lt;have W5:=R.lt;have gj:=zC (show ∀ w',Below V2.heap.size V2 w'->(rK w' w.heap.size p q (rK w' ((w.heap.size+1)) n d (nK w' BF xF (nK0 w' BS xS)))) from λ w' hB=>⟨(A.bw hB).c0,(A.bw hB).c1,(D.bw hB).c0,(D.bw hB).c1,(XF.bw hB).c0,(XF.bw hB).c1,(XS.bw hB).c0,(XS.bw hB).c1⟩)
 clear hpS hblS vJ x0 x1 x2 x3;obtain⟨x0,x1,x2,x3,x4,x5,x6,x7⟩:=zA gj _ (Below.refl _ _);go_wp2_with fail
 go_cut [9] (λ pz wx=>∃ (B:Nat) (u:Sp) (lo hi:Int),pz=.pointer (some ⟨B,0,none⟩)/\LwPr (bvX L p (2*q) 1 2 (p*(d*d)) ((p*(d*d))+(q*(n*n)))) b lo hi/\V2.heap.size<=B/\VrC wx B u/\SpAt wx u 75 (zJ (lo,hi) 1 2).1 (zJ (lo,hi) 1 2).2/\u.bits=(b:Int)/\Below V2.heap.size V2 wx)
 case first =>
  go_region_held3 (λ w'=>rK w' w.heap.size p q (rK w' ((w.heap.size+1)) n d (nK w' BF xF (nK0 w' BS xS)))) (exact zA gj _ (by repeat' (first|with_reducible exact pT|with_reducible exact gR|with_reducible exact cw|with_reducible exact Below.refl _ _|with_reducible refine Below.drew ?_|with_reducible refine zO ?_ _|with_reducible refine Below.setCell ?_ (by first|exact Yj _|exact sf|exact sj|exact sk) _)))
   (first
    | (go_at_call 123;have hq:=gR;refine (zHO _ XV 61 b 2 (lo,hi) (Gb.bw (by with_reducible first|exact Below.refl _ _|exact bl1 _ _)) (by omega) (zA xQ) (by omega) (by omega)).mono ?_;rintro r PX ⟨PH,rfl,oz,Gc,rh⟩;have xR:=zC oz;clear oz;have mo:Below DO.heap.size DO PX:=(by with_reducible first|exact rh|exact zB (bl1 _ _) rh);have pT:=zB gR mo;(try with_reducible have MO:=(zS DO 31).bw rh);replace iD:=iD.bw mo;(try replace vS:=vS.bw mo);(try replace CI:=CI.bw mo);have sk:=pT.size;(try have OI:=vS.lt);(try have eH1:=Yo OI);(try have SG:=Nat.ne_of_gt OI);(try obtain⟨Jb,Jc,Jd,Je,Jf,zH15⟩:=vS);(try have OJ:=CI.lt);(try have eH2:=Yo OJ);(try have SH:=Nat.ne_of_gt OJ);(try obtain⟨Jg,Jh,Ji,Jj,Jk,zH25⟩:=CI);(try have OK:=MO.lt);(try have eH3:=Yo OK);(try have SI:=Nat.ne_of_gt OK);(try obtain⟨Jl,Jm,Jn,Jo,Jp,zH35⟩:=MO))
    | (go_at_call 160;(try rw[zA cl]);have hq:=cw;refine (zQ3 L G X hE _ xF ⟨BC,RK,WW,Sg⟩ p (2*q) 1 2 (p*(d*d)) ((p*(d*d))+(q*(n*n))) b ((zA xC).bw (by with_reducible first|exact cw|exact zO cw _)) ((iD.bw (by with_reducible first|exact Below.refl _ _|exact bl1 _ _)).fits (zA HF).2.1 (zA HF).2.2) (zA AR)).mono ?_;rintro r' DO ⟨lo,hi,I2,XV,rfl,oy,Gb,rf⟩;have xQ:=zC oy;have R5:=zC I2.pr;clear oy I2;have qy:Below DN.heap.size DN DO:=(by with_reducible first|exact rf|exact zB (bl1 _ _) rf);have gR:=zB cw qy;(try with_reducible have CI:=(zS DN 31).bw rf);replace iD:=iD.bw qy;(try replace vS:=vS.bw qy);have sj:=gR.size)
    | (go_at_call 32;refine (zBN _ _ _ _ _ _ _ _ 4 8 (p*(d*d)) (q*(n*n)) _ ((zA xC).bw (by with_reducible first|exact (Below.refl _ _).drew|exact (bl1 _ _).drew)) ((zA Cx).bw (by with_reducible first|exact (Below.refl _ _).drew|exact (bl1 _ _).drew)) (by omega) (by omega)).mono ?_;rintro r DN ⟨BC,RK,WW,Sg,rfl,iD,qZ⟩;have cw:Below V2.heap.size V2 DN:=(by with_reducible first|exact zB (Below.refl _ _).drew qZ|exact zB (bl1 _ _).drew qZ);(try with_reducible have vS:=((zS V2 31).bw (Below.refl _ _).drew).bw qZ);have sf:=cw.size))
  all_goals
   have hfinH:SpAt PX PH 75 (zJ (lo,hi) 1 2).1 (zJ (lo,hi) 1 2).2:=Gc;go_wp2_with fail;go_meet;refine⟨_,PH,lo,hi,rfl,zA R5,?_,⟨⟨?_,?_,?_,?_,?_⟩,?_⟩,?_,zA xR,?_⟩
   ·first|exact Yj _|exact sf|exact sj|exact sk
   ·simp[go_sem, *]
   ·simp[go_sem, *]
   ·simp[go_sem, *]
   ·simp[go_sem, *]
   ·simp[go_sem, *]
   ·intro o;simp[go_sem, *]
   ·first|with_reducible exact SpAt.put5 hfinH Jl Jm Jn Jo Jp _ _ _ _ _|with_reducible exact SpAt.put5 hfinH Jg Jh Ji Jj Jk _ _ _ _ _|with_reducible exact SpAt.put5 hfinH Jb Jc Jd Je Jf _ _ _ _ _|with_reducible exact hfinH.bw (bl1 _ _)
   ·repeat' (first|with_reducible exact pT|with_reducible exact gR|with_reducible exact cw|with_reducible exact Below.refl _ _|with_reducible refine Below.drew ?_|with_reducible refine zO ?_ _|with_reducible refine Below.setCell ?_ (by first|exact Yj _|exact sf|exact sj|exact sk) _)
 case rest =>
 obtain⟨BH,xH,lo,hi,rfl,I2,hHH,XH,hpH,hxbH,hblH⟩:=hcut;replace D:=D.bw hblH;replace R:=R.bw hblH;replace j6:=zB j6 hblH;obtain⟨V3,G9⟩:∃ V,V=wc:=⟨_,rfl⟩;subst G9;have hf:=lw_half I2;have lH:=XH.lt;have lD3:=D.lt;have fJ:=R.lt;have nRH:w.heap.size+1+1<BH:=by omega
 have R5:=zC hf;have Md:=zC hpH;have LL:=zC hxbH;obtain⟨⟨y0,y1,y2,y3,y4⟩,y5⟩:=XH;obtain⟨d0,d1⟩:=D;clear hf I2 hpH hxbH hblH gj x0 x1 x2 x3 x4 x5 x6 x7 xC Cx XF XS A
 by_cases bL:n<0
 ·have ex:stX L p q n d=stX0 L p q n d:=by unfold stX;rw[if_pos (by omega)]
  have ED:=zC (show LwPr (stX L p q n d) b (zJ (lo,hi) 1 2).1 (zJ (lo,hi) 1 2).2 by rw[ex];exact zA R5)
  clear ex;obtain⟨q0,q1,q2,q3,q4,q5⟩:=R;go_wp2_with fail;refine bodyPost_ret (v:=.agg xH.q) (by simp[results,Tryz.results135,go_sem,q0,q1,q2,q3,q4]) rfl ⟨_,_,zA ED,xH,rfl,zA LL,?_,?_⟩
  ·exact SpAt.put5 (SpAt.mono (zA Md) (by omega)) q0 q1 q2 q3 q4 _ _ _ _ _
  ·exact kM j6 (by omega) _ _ _ _ _
 ·have ex:stX L p q n d=λ M=>1-stX0 L p q n d M:=by unfold stX;rw[if_neg (by omega)]
  have ED:=zC (show LwPr (stX L p q n d) b (zA3 b (zJ (lo,hi) 1 2)).1 (zA3 b (zJ (lo,hi) 1 2)).2 by rw[ex];exact zQG (zA R5))
  clear ex;go_wp2_with fail;refine (zEJ _ xH 75 b (zJ (lo,hi) 1 2) (zA Md) (zA LL) (by omega) (by omega) (by omega)).mono ?_
  rintro r' w4 ⟨u,rfl,D5,B9,A5⟩;obtain⟨q0,q1,q2,q3,q4,q5⟩:=R.bw A5;replace j6:=zB j6 A5;have G3:=zC D5;clear D5 A5;go_wp2_with fail;refine bodyPost_ret (v:=.agg u.q) (by simp[results,Tryz.results135,go_sem,q0,q1,q2,q3,q4]) rfl ⟨_,_,zA ED,u,rfl,zA G3,?_,?_⟩
  ·exact SpAt.put5 (SpAt.mono B9 (by omega)) q0 q1 q2 q3 q4 _ _ _ _ _
  ·exact kM j6 (by omega) _ _ _ _ _
theorem P250_big {b:Nat} (hb:b<=120):2*Q b<P 250:=by
 rw[<- Q_P];have h2:Q (b+1)=2*Q b:=rfl;have h3:Q (b+2)=2*Q (b+1):=rfl;have:=zK (show b+2<=16*250 by omega)
 have:=zF b;omega
theorem wnor_iv (w:World) (x y:Nm) (p q:Int) (b:Nat) (s e:Int) (hx:IntAt w x.neg x.a x.n x.cap 4 p) (hy:IntAt w y.neg y.a y.n y.cap 4 q) (hr:wrok p q) (E7:40<=b) (hb:b<=10000) (hE:ErfN (p*p) (q*q*2) b s e) :
  Calls Tryz.prog 158 #[.agg x.q,.agg y.q,.int .i64 b] w (zL w b 3020 (zEZ b p (s,e)).1 (zEZ b p (s,e)).2):=by
 obtain⟨W,hW⟩:∃ W,W=((w.alloc (.cells x.q 29)).alloc (.cells y.q 29)).alloc (.cells zCq 31):=⟨_,rfl⟩;have j6:Below w.heap.size w W:=by rw[hW];exact bl3 _ _ _ _
 have X:NmC W w.heap.size x:=by rw[hW];constructor<;>simp[go_sem]
 have Y:NmC W (w.heap.size+1) y:=by rw[hW];constructor<;>simp[go_sem]
 have R:NoC W (w.heap.size+1+1):=by rw[hW];constructor<;>simp[go_sem]
 obtain⟨r1,r2,r3,r4⟩:=hr;obtain⟨a1,a2⟩:=sq_bw (p:=q) (K:=137438953472) (by omega) (by omega)
 have HX:=zC (hx.bw j6);have HY:=zC (hy.bw j6)
 have Mf:=zC (show -P 8<2*(q*q)/\2*(q*q)<P 8 by
  have:P 8=340282366920938463463374607431768211456:=rfl
  exact⟨by omega,by omega⟩)
 have HE:=zC (show ErfN (p*p) (2*(q*q)) b s e by
  have e2:q*q*2=2*(q*q):=by omega
  rw[e2] at hE;exact hE)
 have lX:=X.lt;have lY:=Y.lt;have lR:=R.lt;have HK:=zC (show ∀ w',Below W.heap.size W w'->(nK w' w.heap.size x (nK0 w' ((w.heap.size+1)) y)) from λ w' hB=>⟨(X.bw hB).c0,(X.bw hB).c1,(Y.bw hB).c0,(Y.bw hB).c1⟩)
 clear hE hx hy a1 a2 r1 r2 r3 r4 X Y
 go_enter Tryz.func158,Tryz.ntmps158
 go_wp2;rw[<- hW];clear hW lR
 go_cut [7] (λ p wx=>∃ (B:Nat) (u:Sp),p=.pointer (some ⟨B,0,none⟩)/\W.heap.size<=B/\VrC wx B u/\SpAt wx u 3000 (((s,e):Int × Int)).1 (((s,e):Int × Int)).2/\u.bits=(b:Int)/\Below W.heap.size W wx)
 case first =>
  go_region_held3 (λ w'=>nK w' w.heap.size x (nK0 w' ((w.heap.size+1)) y)) (exact zA HK _ (by repeat' (first|with_reducible exact qe|with_reducible exact aC|with_reducible exact J6|with_reducible exact E9|with_reducible exact Below.refl _ _|with_reducible refine Below.drew ?_|with_reducible refine zO ?_ _|with_reducible refine Below.setCell ?_ (by first|exact Yj _|exact O6|exact O7|exact dP|exact sL) _)))
   (first
    | (go_at_call 178;have hq:=aC;refine (zA HE _ ⟨aq,vN,wZ,vP⟩ ⟨BI,RN,Xc,Sj⟩ (I8.bw (by with_reducible first|exact Below.refl _ _|exact bl1 _ _)) ((iI.bw (by with_reducible first|exact Below.refl _ _|exact bl1 _ _)).fits (zA Mf).1 (zA Mf).2)).mono ?_;rintro r Qb ⟨PQ,rfl,oJ,Gg,rB⟩;have yg:=zC oJ;clear oJ;have cF:Below tI.heap.size tI Qb:=(by with_reducible first|exact rB|exact zB (bl1 _ _) rB);have qe:=zB aC cF;(try with_reducible have MS:=(zS tI 31).bw rB);replace I8:=I8.bw cF;(try replace S6:=S6.bw cF);replace P2:=P2.bw cF;(try replace bo:=bo.bw cF);replace iI:=iI.bw cF;(try replace pQ:=pQ.bw cF);have sL:=qe.size;(try have mO:=S6.lt);(try have MJ:=Yo mO);(try have zg:=Nat.ne_of_gt mO);(try obtain⟨jv,jw,vy,vz,vA,Cf⟩:=S6);(try have mP:=bo.lt);(try have MK:=Yo mP);(try have zh:=Nat.ne_of_gt mP);(try obtain⟨jx,jy,vB,vC,vD,Cg⟩:=bo);(try have Bm:=pQ.lt);(try have SZ:=Yo Bm);(try have Fh:=Nat.ne_of_gt Bm);(try obtain⟨Ch,Ci,Cj,Ck,Cl,Ko⟩:=pQ);(try have OW:=MS.lt);(try have eU4:=Yo OW);(try have Ta:=Nat.ne_of_gt OW);(try obtain⟨Kq,Kr,Ks,Kt,Kv,zU45⟩:=MS))
    | (go_at_call 116;have hq:=J6;refine (zSD _ _ _ _ 8 (q*q) _ (P2.bw (by with_reducible first|exact Below.refl _ _|exact bl1 _ _)) (by omega)).mono ?_;rintro r tI ⟨BI,RN,Xc,Sj,rfl,iI,cX⟩;have X8:Below eA.heap.size eA tI:=(by with_reducible first|exact cX|exact zB (bl1 _ _) cX);have aC:=zB J6 X8;(try with_reducible have pQ:=(zS eA 31).bw cX);replace I8:=I8.bw X8;(try replace S6:=S6.bw X8);replace P2:=P2.bw X8;(try replace bo:=bo.bw X8);have dP:=aC.size)
    | (go_at_call 83;have hq:=E9;refine (jA _ _ _ _ _ _ _ _ 4 4 q q _ ((zA HY).bw (by with_reducible first|exact E9|exact zO E9 _)) ((zA HY).bw (by with_reducible first|exact E9|exact zO E9 _)) (by omega) (by omega)).mono ?_;rintro r eA ⟨Y8,pG,tx,pH,rfl,P2,O4⟩;have M9:Below aQ.heap.size aQ eA:=(by with_reducible first|exact O4|exact zB (bl1 _ _) O4);have J6:=zB E9 M9;(try with_reducible have bo:=(zS aQ 31).bw O4);replace I8:=I8.bw M9;(try replace S6:=S6.bw M9);have O7:=J6.size)
    | (go_at_call 83;refine (jA _ _ _ _ _ _ _ _ 4 4 p p _ ((zA HX).bw (by with_reducible first|exact (Below.refl _ _).drew|exact (bl1 _ _).drew)) ((zA HX).bw (by with_reducible first|exact (Below.refl _ _).drew|exact (bl1 _ _).drew)) (by omega) (by omega)).mono ?_;rintro r aQ ⟨aq,vN,wZ,vP,rfl,I8,O3⟩;have E9:Below W.heap.size W aQ:=(by with_reducible first|exact zB (Below.refl _ _).drew O3|exact zB (bl1 _ _).drew O3);(try with_reducible have S6:=((zS W 31).bw (Below.refl _ _).drew).bw O3);have O6:=E9.size))
  all_goals
   have hfinU:SpAt Qb PQ 3000 (((s,e):Int × Int)).1 (((s,e):Int × Int)).2:=Gg;go_wp2_with fail;go_meet;refine⟨_,PQ,rfl,?_,⟨⟨?_,?_,?_,?_,?_⟩,?_⟩,?_,zA yg,?_⟩
   ·first|exact Yj _|exact O6|exact O7|exact dP|exact sL
   ·simp[go_sem, *]
   ·simp[go_sem, *]
   ·simp[go_sem, *]
   ·simp[go_sem, *]
   ·simp[go_sem, *]
   ·intro o;simp[go_sem, *]
   ·first|with_reducible exact SpAt.put5 hfinU Kq Kr Ks Kt Kv _ _ _ _ _|with_reducible exact SpAt.put5 hfinU Ch Ci Cj Ck Cl _ _ _ _ _|with_reducible exact SpAt.put5 hfinU jx jy vB vC vD _ _ _ _ _|with_reducible exact SpAt.put5 hfinU jv jw vy vz vA _ _ _ _ _|with_reducible exact hfinU.bw (bl1 _ _)
   ·repeat' (first|with_reducible exact qe|with_reducible exact aC|with_reducible exact J6|with_reducible exact E9|with_reducible exact Below.refl _ _|with_reducible refine Below.drew ?_|with_reducible refine zO ?_ _|with_reducible refine Below.setCell ?_ (by first|exact Yj _|exact O6|exact O7|exact dP|exact sL) _)
 case rest =>
 obtain⟨BU,xU,rfl,Ac,XU,hpU,hxbU,hblU⟩:=hcut;have lR:=R.lt;replace R:=R.bw hblU;replace HX:=zC ((zA HX).bw hblU);replace j6:=zB j6 hblU;obtain⟨x0,x1,x2,x3⟩:=zA HK _ hblU;have nRU:w.heap.size+1+1<BU:=by omega
 have W5:=R.lt;have OC:w.heap.size<wc.heap.size:=by omega
 have mg:=zC hxbU;have ba:=zC hpU;clear hxbU hpU HK hblU;go_wp2_with fail;refine (zA5 _ _ _ _ 4 p _ (zA HX)).mono ?_;rintro r w1 ⟨rfl,b9⟩;replace R:=R.bw b9;replace XU:=XU.bw b9;replace ba:=zC ((zA ba).bw b9);replace j6:=zB j6 b9;clear b9 x0 x1 x2 x3 HX;have lU:=XU.lt;have fJ:=R.lt;obtain⟨⟨y0,y1,y2,y3,y4⟩,y5⟩:=XU
 by_cases hp:0<p
 ·have cp:0<zP p 0:=cmp_gt hp
  have Ek:=zC (show zEZ b p (s,e)=zJ (zA3 b (-e,-s)) 1 2 by unfold zEZ oppP;rw[if_pos hp])
  go_wp2_with fail;refine (zCY _ xU 3000 _ _ (zA ba) (by omega)).mono ?_
  rintro r w3 ⟨t,rfl,G8,K4,m8⟩;have CC:VrC w3 BU xU:=VrC.bw ⟨⟨y0,y1,y2,y3,y4⟩,y5⟩ m8;replace R:=R.bw m8;replace j6:=zB j6 m8;have HT:=zC (G8.trans (zA mg));clear G8 y0 y1 y2 y3 y4 y5 m8 ba lU fJ;have lU:=CC.lt;have fJ:=R.lt;obtain⟨V3,G9⟩:∃ V3,V3=yP w3 BU t:=⟨_,rfl⟩;have X3:VrC V3 BU t:=by rw[G9];exact CC.put t
  have P3:SpAt V3 t 3000 (-e) (-s):=by rw[G9];exact K4.put CC.c t
  have R3:NoC V3 (w.heap.size+1+1):=by rw[G9];exact R.off (by omega) t
  have B3:Below w.heap.size w V3:=by rw[G9];exact zAL j6 (by omega) t
  obtain⟨⟨y0,y1,y2,y3,y4⟩,y5⟩:=CC;clear K4 j6 R;have z0:V3.cell? ⟨BU,0,none⟩=some (.bool t.ln):=X3.c.c0;have z1:V3.cell? ⟨BU,1,none⟩=some (.slice t.la t.lN t.lc):=X3.c.c1;have z2:V3.cell? ⟨BU,2,none⟩=some (.bool t.hn):=X3.c.c2;have z3:V3.cell? ⟨BU,3,none⟩=some (.slice t.ha t.hN t.hc):=X3.c.c3;have z4:V3.cell? ⟨BU,4,none⟩=some (.int .i64 t.bits):=X3.c.c4;go_wp2_with fail;have O0:V3=yP w3 BU t:=G9;unfold yP at O0;rw[<- O0];clear O0 G9 y0 y1 y2 y3 y4 y5
  (try go_wp2_with fail)
  refine (zEJ _ t 3000 b (-e,-s) P3 (zA HT) (by omega) (by omega) (by omega)).mono ?_
  rintro r w4 ⟨v,rfl,J1,I6,A5⟩;replace R3:=R3.bw A5;replace B3:=zB B3 A5;have HV:=zC J1;clear J1 A5;go_wp2_with fail;refine (zHO _ v 3001 b 2 _ I6 (by omega) (zA HV) (by omega) (by omega)).mono ?_
  rintro r w5 ⟨o,rfl,AL,td,E4⟩;rw[<- zA Ek] at td;obtain⟨q0,q1,q2,q3,q4,q5⟩:=R3.bw E4;replace B3:=zB B3 E4;have HO:=zC AL;clear AL;go_wp2_with fail;refine bodyPost_ret (v:=.agg o.q) (by simp[results,Tryz.results158,go_sem,q0,q1,q2,q3,q4]) rfl ⟨o,rfl,zA HO,?_,?_⟩
  ·exact SpAt.put5 (td.mono (by omega)) q0 q1 q2 q3 q4 _ _ _ _ _
  ·exact kM B3 (by omega) _ _ _ _ _
 ·have cp:¬ 0<zP p 0:=cmp_le (by omega)
  have Ek:=zC (show zEZ b p (s,e)=zJ (zA3 b (s,e)) 1 2 by unfold zEZ oppP;rw[if_neg hp])
  have HT:=mg;have R3:=R;have B3:=j6;clear R j6;go_wp2_with fail;refine (zEJ _ xU 3000 b (s,e) (zA ba) (zA HT) (by omega) (by omega) (by omega)).mono ?_
  rintro r w4 ⟨v,rfl,J1,I6,A5⟩;replace R3:=R3.bw A5;replace B3:=zB B3 A5;have HV:=zC J1;clear J1 A5;go_wp2_with fail;refine (zHO _ v 3001 b 2 _ I6 (by omega) (zA HV) (by omega) (by omega)).mono ?_
  rintro r w5 ⟨o,rfl,AL,td,E4⟩;rw[<- zA Ek] at td;obtain⟨q0,q1,q2,q3,q4,q5⟩:=R3.bw E4;replace B3:=zB B3 E4;have HO:=zC AL;clear AL;go_wp2_with fail;refine bodyPost_ret (v:=.agg o.q) (by simp[results,Tryz.results158,go_sem,q0,q1,q2,q3,q4]) rfl ⟨o,rfl,zA HO,?_,?_⟩
  ·exact SpAt.put5 (td.mono (by omega)) q0 q1 q2 q3 q4 _ _ _ _ _
  ·exact kM B3 (by omega) _ _ _ _ _
theorem zIO {a b K M:Int} (h1 : -K<=a) (h2:a<=K) (h3:0<=b) (h4:b<=M) : -(K*M)<=a*b/\a*b<=K*M:=by
 have m1:=Int.mul_le_mul h2 h4 h3 (show 0<=K by omega)
 have m2:=Int.mul_le_mul (show -a<=K by omega) h4 h3 (show 0<=K by omega)
 have e : -a*b = -(a*b):=Int.neg_mul _ _;omega
theorem zQS {p q r s n d:Int} (L9:rok p q) (L4:rok n d) (od:rok r s) (hr:0<r) (hs:r<=100*s):wrok ((n*q-p*d)*s) (d*q*r):=by
 obtain⟨a1,a2,a3,a4⟩:=L9;obtain⟨c1,c2,c3,c4⟩:=L4;obtain⟨g1,g2,g3,g4⟩:=od;obtain⟨u1,u2⟩:=zIO (a:=n) (b:=q) (K:=1048576) (M:=1024) c1 c2 (by omega) a4
 obtain⟨u3,u4⟩:=zIO (a:=p) (b:=d) (K:=1048576) (M:=1024) a1 a2 (by omega) c4
 obtain⟨v1,v2⟩:=zIO (a:=n*q-p*d) (b:=s) (K:=2147483648) (M:=1024) (by omega) (by omega) (by omega) g4
 have w0:=Int.mul_pos (show 0<d by omega) (show 0<q by omega)
 have w1:=Int.mul_le_mul c4 a4 (by omega) (by omega)
 have y0:=Int.mul_pos w0 hr;have y1:=Int.mul_le_mul (show d*q<=1048576 by omega) (show r<=102400 by omega) (by omega) (by omega)
 exact⟨by omega,by omega,by omega,by omega⟩
theorem zLN (w:World) (k p q r s n d:Int) (b:Nat) (s0 e0:Int) (E7:40<=b) (hb:b<=10000) (L9:rok p q) (L4:rok n d) (od:rok r s) (hr:0<r) (hs:r<=100*s) (hE:ErfN (((n*q-p*d)*s)*((n*q-p*d)*s)) ((d*q*r)*(d*q*r)*2) b s0 e0) :
  Calls Tryz.prog 131 #[.agg #[.int .i64 k,.int .i64 p,.int .i64 q,.int .i64 r,.int .i64 s],.agg #[.int .i64 n,.int .i64 d],.int .i64 b] w (zL w b 3020 (zEZ b ((n*q-p*d)*s) (s0,e0)).1 (zEZ b ((n*q-p*d)*s) (s0,e0)).2):=by
 have hw:=zQS L9 L4 od hr hs;obtain⟨a1,a2,a3,a4⟩:=L9;obtain⟨c1,c2,c3,c4⟩:=L4;obtain⟨g1,g2,g3,g4⟩:=od;obtain⟨u1,u2⟩:=zIO (a:=n) (b:=q) (K:=1048576) (M:=1024) c1 c2 (by omega) a4
 obtain⟨u3,u4⟩:=zIO (a:=p) (b:=d) (K:=1048576) (M:=1024) a1 a2 (by omega) c4
 have v1:=Int.mul_le_mul c4 a4 (by omega) (by omega)
 have v0:=Int.mul_pos (show 0<d by omega) (show 0<q by omega)
 have HE:=zC hE;have HW:=zC hw
 have HF:=zC (show (-P 4<((n*q-p*d)*s)/\((n*q-p*d)*s)<P 4) /\ -P 4<(d*q*r)/\(d*q*r)<P 4 by
  obtain⟨r1,r2,r3,r4⟩:=hw;have:P 4=18446744073709551616:=rfl
  exact⟨⟨by omega,by omega⟩,by omega,by omega⟩)
 clear hE hw hr hs;obtain⟨W,hW⟩:∃ W,W=((w.alloc (.cells #[.int .i64 k,.int .i64 p,.int .i64 q,.int .i64 r,.int .i64 s] 25)).alloc (.cells #[.int .i64 n,.int .i64 d] 23)).alloc (.cells zCq 31):=⟨_,rfl⟩;have j6:Below w.heap.size w W:=by rw[hW];exact bl3 _ _ _ _
 have A:LwC W w.heap.size k p q r s:=by rw[hW];constructor<;>simp[go_sem]
 have D:RaC W (w.heap.size+1) n d:=by rw[hW];constructor<;>simp[go_sem]
 have R:NoC W (w.heap.size+1+1):=by rw[hW];constructor<;>simp[go_sem]
 have lR:=R.lt;have lA:=A.lt;have lD:=D.lt;have HK:=zC (show ∀ w',Below W.heap.size W w'->(rK w' w.heap.size k p (w'.cell? ⟨w.heap.size,2,none⟩=some (.int .i64 q)/\w'.cell? ⟨w.heap.size,3,none⟩=some (.int .i64 r)/\w'.cell? ⟨w.heap.size,4,none⟩=some (.int .i64 s)/\rK0 w' (w.heap.size+1) n d)) from λ w' hB=>⟨(A.bw hB).c0,(A.bw hB).c1,(A.bw hB).c2,(A.bw hB).c3,(A.bw hB).c4,(D.bw hB).c0,(D.bw hB).c1⟩)
 go_enter Tryz.func131,Tryz.ntmps131
 go_wp2_with fail;rw[<- hW];clear hW;obtain⟨x0,x1,x2,x3,x4,x5,x6⟩:=zA HK _ (Below.refl _ _)
 (try go_wp2_with fail)
 refine (zE (n*q-p*d) _ (by omega) (by omega)).mono ?_
 rintro z1 w1 ⟨o7,b1,m1,e1,rfl,s9,b9⟩;replace A:=A.bw b9;replace D:=D.bw b9;replace R:=R.bw b9;replace j6:=zB j6 b9;obtain⟨V1,R6⟩:∃ V,V=w1.alloc (.cells #[.bool o7,.slice b1 m1 e1] 29):=⟨_,rfl⟩;have bj:Below w1.heap.size w1 V1:=by rw[R6];exact bl1 _ _
 have N1:NmC V1 w1.heap.size ⟨o7,b1,m1,e1⟩:=by rw[R6];exact⟨by simp,by simp⟩
 have WB:=A.lt;have WD:=D.lt;have DA:=R.lt;replace A:=A.bw bj;replace D:=D.bw bj;replace R:=R.bw bj;replace j6:=zB j6 bj;have lQ:=zC (s9.bw bj);clear s9 b9 HK x0 x1 x2 x3 x4 x5 x6 bj;obtain⟨A0,A1,A2,A3,A4⟩:=A;obtain⟨D0,D1⟩:=D
 go_upto_region 2 with fail
 rw[<- R6];clear R6;have A:LwC V1 w.heap.size k p q r s:=⟨A0,A1,A2,A3,A4⟩;have D:RaC V1 (w.heap.size+1) n d:=⟨D0,D1⟩;go_wp2_with fail;refine (zE (d*q) _ (by omega) (by omega)).mono ?_
 rintro z2 w2 ⟨j7,b2,m2,e2,rfl,A8,j5⟩;have lN1:=N1.lt;replace A:=A.bw j5;replace D:=D.bw j5;replace R:=R.bw j5;replace N1:=N1.bw j5;replace lQ:=zC ((zA lQ).bw j5);replace j6:=zB j6 j5;obtain⟨V2,Y9⟩:∃ V,V=w2.alloc (.cells #[.bool j7,.slice b2 m2 e2] 29):=⟨_,rfl⟩;have P9:Below w2.heap.size w2 V2:=by rw[Y9];exact bl1 _ _
 have N2:NmC V2 w2.heap.size ⟨j7,b2,m2,e2⟩:=by rw[Y9];exact⟨by simp,by simp⟩
 have W5:=R.lt;have WG:=N1.lt;replace A:=A.bw P9;replace D:=D.bw P9;replace R:=R.bw P9;replace N1:=N1.bw P9;replace lQ:=zC ((zA lQ).bw P9);replace j6:=zB j6 P9;have vI:=zC (A8.bw P9);have Dz:=A.lt;have Hw:=D.lt;have fJ:=R.lt;clear A8 j5 P9 A0 A1 A2 A3 A4 D0 D1
 go_upto_region 3 with fail
 rw[<- Y9];clear Y9;go_wp2_with fail;have HK:=zC (show ∀ w',Below V2.heap.size V2 w'->(rK w' w.heap.size k p (w'.cell? ⟨w.heap.size,2,none⟩=some (.int .i64 q)/\w'.cell? ⟨w.heap.size,3,none⟩=some (.int .i64 r)/\w'.cell? ⟨w.heap.size,4,none⟩=some (.int .i64 s)/\rK w' (w.heap.size+1) n d (nK w' w1.heap.size (⟨o7,b1,m1,e1⟩:Nm) (nK0 w' w2.heap.size (⟨j7,b2,m2,e2⟩:Nm))))) from λ w' hB=>⟨(A.bw hB).c0,(A.bw hB).c1,(A.bw hB).c2,(A.bw hB).c3,(A.bw hB).c4,(D.bw hB).c0,(D.bw hB).c1,(N1.bw hB).c0,(N1.bw hB).c1,(N2.bw hB).c0,(N2.bw hB).c1⟩)
 have D9:Below V2.heap.size V2 V2.drew:=(Below.refl _ _).drew;have nn1:w.heap.size+1+1≠w.heap.size:=by omega
 have nn2:w.heap.size+1+1≠w.heap.size+1:=by omega
 have nn3:w.heap.size+1+1≠w1.heap.size:=by omega
 have nn4:w.heap.size+1+1≠w2.heap.size:=by omega
 clear A D N1 N2;obtain⟨x0,x1,x2,x3,x4,x5,x6,x7,x8,x9,Eb⟩:=zA HK _ (Below.refl _ _)
 go_region_held3 (λ w'=>rK w' w.heap.size k p (w'.cell? ⟨w.heap.size,2,none⟩=some (.int .i64 q)/\w'.cell? ⟨w.heap.size,3,none⟩=some (.int .i64 r)/\w'.cell? ⟨w.heap.size,4,none⟩=some (.int .i64 s)/\rK w' (w.heap.size+1) n d (nK w' w1.heap.size (⟨o7,b1,m1,e1⟩:Nm) (nK0 w' w2.heap.size (⟨j7,b2,m2,e2⟩:Nm))))) (first|exact zA HK _ (by with_reducible first|exact D9|exact W6|exact H6|exact D6|exact A7|exact C9)|(dsimp only[cK,cK0,nK,nK0,rK,rK0];go_keep)|go_keep)
  (first
   | (go_at_call 158;have K9:=H6;refine (wnor_iv _ ⟨E5,b4,m4,e4⟩ ⟨fK,b6,m6,e6⟩ ((n*q-p*d)*s) (d*q*r) b s0 e0 (H8.fits (zA HF).1.1 (zA HF).1.2) (iB.fits (zA HF).2.1 (zA HF).2.2) (zA HW) E7 hb (zA HE)).mono ?_;rintro zz y5 ⟨u,rfl,D5,B9,E4⟩;have W6:=zB H6 E4;have G3:=zC D5;clear D5;obtain⟨q0,q1,q2,q3,q4,q5⟩:=R.bw W6;obtain⟨i0,i1,i2,i3,i4,i5,i6,i7,i8,i9,i10⟩:=zA HK _ W6)
   | (go_at_call 83;have K9:=D6;refine (jA _ _ _ _ _ _ _ _ 4 4 (d*q) r _ ((zA vI).bw D6) T8 (by omega) (by omega)).mono ?_;rintro zz y4 ⟨fK,b6,m6,e6,rfl,iB,A5⟩;have H6:=zB D6 A5;replace H8:=H8.bw A5)
   | (go_at_call 33;have K9:=A7;refine (zE r _ (by omega) (by omega)).mono ?_;rintro zz y3 ⟨L8,b5,m5,e5,rfl,T8,m8⟩;have D6:=zB A7 m8;replace H8:=H8.bw m8)
   | (go_at_call 83;have K9:=C9;refine (jA _ _ _ _ _ _ _ _ 4 4 (n*q-p*d) s _ ((zA lQ).bw C9) E8 (by omega) (by omega)).mono ?_;rintro zz y2 ⟨E5,b4,m4,e4,rfl,H8,j5⟩;have A7:=zB C9 j5)
   | (go_at_call 33;refine (zE s _ (by omega) (by omega)).mono ?_;rintro zz y1 ⟨C7,b3,m3,e3,rfl,E8,b9⟩;have C9:=zB D9 b9))
 all_goals
  go_wp2;refine bodyPost_ret (v:=.agg u.q) (by simp[results,Tryz.results131,go_sem,q0,q1,q2,q3,q4]) rfl ⟨u,rfl,zA G3,?_,?_⟩
  ·exact SpAt.put5 (B9) q0 q1 q2 q3 q4 _ _ _ _ _
  ·exact kM (zB j6 W6) (by omega) _ _ _ _ _
def BlG (K:Nat) (Pr:Int->Int->Prop) (w:World) (b:Nat) (z:Ending) (w':World):Prop:=∃ lo hi,Pr lo hi/\zL w b K lo hi z w'
theorem zOU (w:World) (p q r s n d:Int) (b:Nat) (Pr:Int->Int->Prop) (hC:∀ w',Calls Tryz.prog 131 #[.agg #[.int .i64 1,.int .i64 p,.int .i64 q,.int .i64 r,.int .i64 s],.agg #[.int .i64 n,.int .i64 d],.int .i64 b] w' (BlG 30000 Pr w' b)) :
  Calls Tryz.prog 91 #[.agg #[.int .i64 1,.int .i64 p,.int .i64 q,.int .i64 r,.int .i64 s],.agg #[.int .i64 n,.int .i64 d],.int .i64 b] w (BlG 30000 Pr w b):=by
 have HC:=zC hC;clear hC
 go_enter Tryz.func91,Tryz.ntmps91
 go_wp2_with fail;refine (zA HC _).mono ?_;rintro zz w1 ⟨lo,hi,I2,u,rfl,D5,B9,b9⟩;have R:NoC w1 (w.heap.size+1+1):=NoC.bw ⟨by simp[go_sem],by simp[go_sem],by simp[go_sem],by simp[go_sem],by simp[go_sem],λ o=>by simp[go_sem]⟩ b9
 have hB:Below w.heap.size w w1:=zB (bl3 _ _ _ _ ) b9;obtain⟨q0,q1,q2,q3,q4,q5⟩:=R;have G3:=zC D5;have R5:=zC I2;clear D5 b9 I2;go_wp2_with fail;refine bodyPost_ret (v:=.agg u.q) (by simp[results,Tryz.results91,go_sem,q0,q1,q2,q3,q4]) rfl ⟨lo,hi,zA R5,u,rfl,zA G3,?_,?_⟩
 ·exact SpAt.put5 (B9) q0 q1 q2 q3 q4 _ _ _ _ _
 ·exact kM hB (by omega) _ _ _ _ _
theorem below_2 (w:World) (p q r s n d:Int) (b:Nat) (Pr:Int->Int->Prop) (hC:∀ w',Calls Tryz.prog 132 #[.agg #[.int .i64 2,.int .i64 p,.int .i64 q,.int .i64 r,.int .i64 s],.agg #[.int .i64 n,.int .i64 d],.int .i64 b] w' (BlG 30000 Pr w' b)) :
  Calls Tryz.prog 91 #[.agg #[.int .i64 2,.int .i64 p,.int .i64 q,.int .i64 r,.int .i64 s],.agg #[.int .i64 n,.int .i64 d],.int .i64 b] w (BlG 30000 Pr w b):=by
 have HC:=zC hC;clear hC
 go_enter Tryz.func91,Tryz.ntmps91
 go_wp2_with fail;refine (zA HC _).mono ?_;rintro zz w1 ⟨lo,hi,I2,u,rfl,D5,B9,b9⟩;have R:NoC w1 (w.heap.size+1+1):=NoC.bw ⟨by simp[go_sem],by simp[go_sem],by simp[go_sem],by simp[go_sem],by simp[go_sem],λ o=>by simp[go_sem]⟩ b9
 have hB:Below w.heap.size w w1:=zB (bl3 _ _ _ _ ) b9;obtain⟨q0,q1,q2,q3,q4,q5⟩:=R;have G3:=zC D5;have R5:=zC I2;clear D5 b9 I2;go_wp2_with fail;refine bodyPost_ret (v:=.agg u.q) (by simp[results,Tryz.results91,go_sem,q0,q1,q2,q3,q4]) rfl ⟨lo,hi,zA R5,u,rfl,zA G3,?_,?_⟩
 ·exact SpAt.put5 (B9) q0 q1 q2 q3 q4 _ _ _ _ _
 ·exact kM hB (by omega) _ _ _ _ _
theorem below_3 (w:World) (p q r s n d:Int) (b:Nat) (Pr:Int->Int->Prop) (hC:∀ w',Calls Tryz.prog 133 #[.agg #[.int .i64 3,.int .i64 p,.int .i64 q,.int .i64 r,.int .i64 s],.agg #[.int .i64 n,.int .i64 d],.int .i64 b] w' (BlG 30000 Pr w' b)) :
  Calls Tryz.prog 91 #[.agg #[.int .i64 3,.int .i64 p,.int .i64 q,.int .i64 r,.int .i64 s],.agg #[.int .i64 n,.int .i64 d],.int .i64 b] w (BlG 30000 Pr w b):=by
 have HC:=zC hC;clear hC
 go_enter Tryz.func91,Tryz.ntmps91
 go_wp2_with fail;refine (zA HC _).mono ?_;rintro zz w1 ⟨lo,hi,I2,u,rfl,D5,B9,b9⟩;have R:NoC w1 (w.heap.size+1+1):=NoC.bw ⟨by simp[go_sem],by simp[go_sem],by simp[go_sem],by simp[go_sem],by simp[go_sem],λ o=>by simp[go_sem]⟩ b9
 have hB:Below w.heap.size w w1:=zB (bl3 _ _ _ _ ) b9;obtain⟨q0,q1,q2,q3,q4,q5⟩:=R;have G3:=zC D5;have R5:=zC I2;clear D5 b9 I2;go_wp2_with fail;refine bodyPost_ret (v:=.agg u.q) (by simp[results,Tryz.results91,go_sem,q0,q1,q2,q3,q4]) rfl ⟨lo,hi,zA R5,u,rfl,zA G3,?_,?_⟩
 ·exact SpAt.put5 (B9) q0 q1 q2 q3 q4 _ _ _ _ _
 ·exact kM hB (by omega) _ _ _ _ _
theorem below_4 (w:World) (p q r s n d:Int) (b:Nat) (Pr:Int->Int->Prop) (hC:∀ w',Calls Tryz.prog 134 #[.agg #[.int .i64 4,.int .i64 p,.int .i64 q,.int .i64 r,.int .i64 s],.agg #[.int .i64 n,.int .i64 d],.int .i64 b] w' (BlG 30000 Pr w' b)) :
  Calls Tryz.prog 91 #[.agg #[.int .i64 4,.int .i64 p,.int .i64 q,.int .i64 r,.int .i64 s],.agg #[.int .i64 n,.int .i64 d],.int .i64 b] w (BlG 30000 Pr w b):=by
 have HC:=zC hC;clear hC
 go_enter Tryz.func91,Tryz.ntmps91
 go_wp2_with fail;refine (zA HC _).mono ?_;rintro zz w1 ⟨lo,hi,I2,u,rfl,D5,B9,b9⟩;have R:NoC w1 (w.heap.size+1+1):=NoC.bw ⟨by simp[go_sem],by simp[go_sem],by simp[go_sem],by simp[go_sem],by simp[go_sem],λ o=>by simp[go_sem]⟩ b9
 have hB:Below w.heap.size w w1:=zB (bl3 _ _ _ _ ) b9;obtain⟨q0,q1,q2,q3,q4,q5⟩:=R;have G3:=zC D5;have R5:=zC I2;clear D5 b9 I2;go_wp2_with fail;refine bodyPost_ret (v:=.agg u.q) (by simp[results,Tryz.results91,go_sem,q0,q1,q2,q3,q4]) rfl ⟨lo,hi,zA R5,u,rfl,zA G3,?_,?_⟩
 ·exact SpAt.put5 (B9) q0 q1 q2 q3 q4 _ _ _ _ _
 ·exact kM hB (by omega) _ _ _ _ _
theorem below_5 (w:World) (p q r s n d:Int) (b:Nat) (Pr:Int->Int->Prop) (hC:∀ w',Calls Tryz.prog 135 #[.agg #[.int .i64 p,.int .i64 q],.agg #[.int .i64 n,.int .i64 d],.int .i64 b] w' (BlG 30000 Pr w' b)) :
  Calls Tryz.prog 91 #[.agg #[.int .i64 5,.int .i64 p,.int .i64 q,.int .i64 r,.int .i64 s],.agg #[.int .i64 n,.int .i64 d],.int .i64 b] w (BlG 30000 Pr w b):=by
 have HC:=zC hC;clear hC
 go_enter Tryz.func91,Tryz.ntmps91
 go_wp2_with fail;refine (zA HC _).mono ?_;rintro zz w1 ⟨lo,hi,I2,u,rfl,D5,B9,b9⟩;have R:NoC w1 (w.heap.size+1+1):=NoC.bw ⟨by simp[go_sem],by simp[go_sem],by simp[go_sem],by simp[go_sem],by simp[go_sem],λ o=>by simp[go_sem]⟩ b9
 have hB:Below w.heap.size w w1:=zB (bl3 _ _ _ _ ) b9;obtain⟨q0,q1,q2,q3,q4,q5⟩:=R;have G3:=zC D5;have R5:=zC I2;clear D5 b9 I2;go_wp2_with fail;refine bodyPost_ret (v:=.agg u.q) (by simp[results,Tryz.results91,go_sem,q0,q1,q2,q3,q4]) rfl ⟨lo,hi,zA R5,u,rfl,zA G3,?_,?_⟩
 ·exact SpAt.put5 (B9) q0 q1 q2 q3 q4 _ _ _ _ _
 ·exact kM hB (by omega) _ _ _ _ _
theorem below_7 (w:World) (p q r s n d:Int) (b:Nat) (Pr:Int->Int->Prop) (hr:rok n d) (hC:∀ w',Calls Tryz.prog 138 #[.agg #[.int .i64 p,.int .i64 q],.int .i64 (n/d),.int .i64 b] w' (BlG 30000 Pr w' b)) :
  Calls Tryz.prog 91 #[.agg #[.int .i64 7,.int .i64 p,.int .i64 q,.int .i64 r,.int .i64 s],.agg #[.int .i64 n,.int .i64 d],.int .i64 b] w (BlG 30000 Pr w b):=by
 have HC:=zC hC;have HR:=zC hr;clear hC hr;obtain⟨W,hW⟩:∃ W,W=((w.alloc (.cells #[.int .i64 7,.int .i64 p,.int .i64 q,.int .i64 r,.int .i64 s] 25)).alloc (.cells #[.int .i64 n,.int .i64 d] 23)).alloc (.cells zCq 31):=⟨_,rfl⟩;have j6:Below w.heap.size w W:=by rw[hW];exact bl3 _ _ _ _
 have A:LwC W w.heap.size 7 p q r s:=by rw[hW];constructor<;>simp[go_sem]
 have D:RaC W (w.heap.size+1) n d:=by rw[hW];constructor<;>simp[go_sem]
 have R:NoC W (w.heap.size+1+1):=by rw[hW];constructor<;>simp[go_sem]
 have lR:=R.lt;have lA:=A.lt;have lD:=D.lt;have HK:=zC (show ∀ w',Below W.heap.size W w'->(w'.cell? ⟨w.heap.size,0,none⟩=some (.int .i64 7)/\w'.cell? ⟨w.heap.size,1,none⟩=some (.int .i64 p)/\w'.cell? ⟨w.heap.size,2,none⟩=some (.int .i64 q)/\w'.cell? ⟨w.heap.size,3,none⟩=some (.int .i64 r)/\w'.cell? ⟨w.heap.size,4,none⟩=some (.int .i64 s)/\rK0 w' (w.heap.size+1) n d) from λ w' hB=>⟨(A.bw hB).c0,(A.bw hB).c1,(A.bw hB).c2,(A.bw hB).c3,(A.bw hB).c4,(D.bw hB).c0,(D.bw hB).c1⟩)
 clear A D
 go_enter Tryz.func91,Tryz.ntmps91
 go_wp2;rw[<- hW];clear hW;have D9:Below W.heap.size W W.drew:=(Below.refl _ _).drew;have n1:w.heap.size+1+1≠w.heap.size:=by omega
 have n2:w.heap.size+1+1≠w.heap.size+1:=by omega
 obtain⟨x0,x1,x2,x3,x4,x5,x6⟩:=zA HK _ (Below.refl _ _)
 go_region_held3 (λ w'=>w'.cell? ⟨w.heap.size,0,none⟩=some (.int .i64 7)/\w'.cell? ⟨w.heap.size,1,none⟩=some (.int .i64 p)/\w'.cell? ⟨w.heap.size,2,none⟩=some (.int .i64 q)/\w'.cell? ⟨w.heap.size,3,none⟩=some (.int .i64 r)/\w'.cell? ⟨w.heap.size,4,none⟩=some (.int .i64 s)/\rK0 w' (w.heap.size+1) n d) (first|exact zA HK _ (by with_reducible first|exact D9|exact A7|exact C9)|(dsimp only[cK,cK0,nK,nK0,rK,rK0];go_keep)|go_keep)
  (first
   | (go_at_call 138;have K9:=C9;refine (zA HC _).mono ?_;rintro zz w2 ⟨lo,hi,I2,u,rfl,D5,B9,j5⟩;have A7:=zB C9 j5;have G3:=zC D5;have R5:=zC I2;clear D5 I2;obtain⟨q0,q1,q2,q3,q4,q5⟩:=R.bw A7;obtain⟨i0,i1,i2,i3,i4,i5,i6⟩:=zA HK _ A7)
   | (go_at_call 137;refine (zLA n d _ (zA HR)).mono ?_;rintro zz w1 ⟨rfl,b9⟩;have C9:=zB D9 b9))
 all_goals
  go_wp2;refine bodyPost_ret (v:=.agg u.q) (by simp[results,Tryz.results91,go_sem,q0,q1,q2,q3,q4]) rfl ⟨lo,hi,zA R5,u,rfl,zA G3,?_,?_⟩
  ·exact SpAt.put5 (B9) q0 q1 q2 q3 q4 _ _ _ _ _
  ·exact kM (zB j6 A7) (by omega) _ _ _ _ _
theorem zA2 {k p q r s:Int} (h:yD k p q r s=0):(1<=k/\k<=7)/\rok p q/\rok r s/\jP k p q r s=true/\zA1 k p q r s=false/\(zBI k=true->r=0/\s=1):=by
 unfold yD at h
 by_cases h1:k<1\/7<k
 ·rw[if_pos h1] at h;omega
 ·rw[if_neg h1] at h
  by_cases h2:¬ rok p q\/¬ rok r s
  ·rw[if_pos h2] at h;omega
  ·rw[if_neg h2] at h
   by_cases h3:zBI k=true/\¬ (r=0/\s=1)
   ·rw[if_pos h3] at h;omega
   ·rw[if_neg h3] at h
    by_cases h4:jP k p q r s=false
    ·rw[if_pos h4] at h;omega
    ·rw[if_neg h4] at h
     by_cases h5:zA1 k p q r s=true
     ·rw[if_pos h5] at h;omega
     ·have TA:jP k p q r s=true:=by cases hh:jP k p q r s<;>simp_all
      have TB:zA1 k p q r s=false:=by cases hh:zA1 k p q r s<;>simp_all
      have h6:rok p q:=Classical.byContradiction λ hh=>h2 (Or.inl hh)
      have h7:rok r s:=Classical.byContradiction λ hh=>h2 (Or.inr hh)
      exact⟨⟨by omega,by omega⟩,h6,h7,TA,TB,λ ho=>Classical.byContradiction λ hh=>h3 ⟨ho,hh⟩⟩
end Go.Proofs.YtgmnknmjainabacGreat
