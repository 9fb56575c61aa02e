/-
  Its own texts.
-/
import Derived.Test.YtgmnknmjainababGreatK16
set_option maxRecDepth 100000
set_option maxHeartbeats 40000000
set_option linter.unnecessarySimpa false
set_option linter.unusedSimpArgs false
set_option linter.unusedVariables false
namespace Go.Proofs.YtgmnknmjainababGreat
open Go.RowKit
attribute [local go_sem ↓] Go.wp_at_zero Go.wp_at_succ
theorem zI4 (bt : Int) (b n cap : Nat) (p q : Nat → Int) (w : World) (h : Rats w b n p q) (hn : n ≤ 1000) :
    Calls Tryz.prog 10 #[.int .i64 bt, .slice (some ⟨b, 0, none⟩) n cap] w fun r w' => ∃ z, r = .returned (.int .i64 z) ∧ RFlt bt p q n z ∧ Below w.heap.size w w' := by
  have hblt := h.lt
  have HH := zC h
  clear h
  go_enter Tryz.func10, Tryz.ntmps10
  go_wp2
  go_loopw [5] (fun ii wr => ∃ i : Nat, i ≤ n ∧ ii = .int .i64 i ∧ (∀ j, j < i → rok (p j) (q j)) ∧ Below w.heap.size w wr) (fun ii _ => n - (intOf ii).toNat)
  case atStart => exact ⟨0, by omega, rfl, fun j hj => by omega, Below.refl _ _⟩
  case round =>
    obtain ⟨i, hi, rfl, hz, hB⟩ := hrel
    by_cases hin : i < n
    · have H2 := (zA HH).bw hB
      have g0 := H2.c0 i hin
      have g1 := H2.c1 i hin
      have hi1 : (i : Int) < (n : Int) := by omega
      have HZ := zC hz
      clear hz H2
      by_cases hc : rok (p i) (q i)
      · have hc' : decide (rok (p i) (q i)) = true := by simpa using hc
        have HC := zC hc
        clear hc
        go_wp2_with (go_at_call 44; refine (zDK _ _ _).mono ?_; rintro r w1 ⟨rfl, hb1⟩; rw [hc'])
        go_roundw
        case rel => exact ⟨i + 1, by omega, by go_num, fun j hj => by
                            by_cases hji : j = i
                            · subst hji; exact zA HC
                            · exact zA HZ j (by omega), zB hB hb1⟩
        case measure => simp [intOf]; omega
      · have hc' : decide (rok (p i) (q i)) = false := by simpa using hc
        have HC := zC hc
        clear hc
        go_wp2_with (go_at_call 44; refine (zDK _ _ _).mono ?_; rintro r w1 ⟨rfl, hb1⟩; rw [hc'])
        go_ret
        exact ⟨3, rfl, Or.inr ⟨rfl, fun ⟨_, h2⟩ => zA HC (h2 i hin)⟩, zB hB hb1⟩
    · have hiE : i = n := by omega
      subst hiE
      have HZ := zC hz
      clear hz hin hi
      by_cases hc : 8 ≤ bt ∧ bt ≤ 120
      · have hc' : zQB bt = true := by unfold zQB; simpa using hc
        go_wp2_with (go_at_call 37; refine (zEI _ _).mono ?_; rintro r w1 ⟨rfl, rfl⟩; rw [hc'])
        go_ret
        exact ⟨0, rfl, Or.inl ⟨rfl, hc, zA HZ⟩, hB⟩
      · have hc' : zQB bt = false := by unfold zQB; simpa using hc
        have HC := zC hc
        clear hc
        go_wp2_with (go_at_call 37; refine (zEI _ _).mono ?_; rintro r w1 ⟨rfl, rfl⟩; rw [hc'])
        go_ret
        exact ⟨3, rfl, Or.inr ⟨rfl, fun ⟨h1, _⟩ => zA HC h1⟩, hB⟩
theorem zKW (w:World) (s t:Sp) (k:Nat) (er bt:Int) (hs:SpAt w s k 0 0) (hb:s.bits=0) (her:er≠0) :
  Calls Tryz.prog 12 #[.agg s.q,.int .i64 er,.int .i64 er,.int .i64 bt,.agg t.q] w λ r w'=>r=.returned (.bool true)/\Below w.heap.size w w':=by
 have Ik:(er != 0)=true:=by simpa using her
 have Li:=zC hb;clear hb
 go_enter Tryz.func12,Tryz.ntmps12
 go_wp2_with fail;refine (zE2 _ s ⟨false,none,0,0,false,none,0,0,0⟩ k 0 0 (hs.bw (bl2 _ _ _)) (zL8 _ _) (zA Li)).mono ?_;rintro r w1 ⟨rfl,b7⟩;go_wp2_with fail
 go_ret
 exact⟨rfl,zB (bl2 _ _ _) b7⟩
theorem zB0 (w:World) (s:Sp) (b:Nat) (lo hi:Int) (h:SpAt w s 250 lo hi) (hb:s.bits=b) (b7:b<=120) (hle:lo<=hi) (hN:zJJ lo hi (Q b) 4=true) :
  Calls Tryz.prog 47 #[.agg s.q,.int .i64 4] w λ r w'=>r=.returned (.bool true)/\Below w.heap.size w w' :=
 (zJA w s b 4 lo hi h hb b7 (by omega) hle).mono λ r w' ⟨h1,h2⟩=>⟨by rw[h1];congr 2,h2⟩
theorem zO1 (w:World) (s t:Sp) (b i k:Nat) (lo hi lo' hi':Int) (hs:SpAt w s 250 lo hi) (ht:SpAt w t k lo' hi') (T5:250<=k) (hk:k<=300000000) (hb:s.bits=b) (gP:b<=120) (hle:lo<=hi) (oT:1<=i) (O9:i<=1000) (I7:t.bits=((b+i:Nat):Int)) (hN:zJJ lo hi (Q b) 4=true) (hT:zHJ lo hi i lo' hi' 0=true) (hc:zF lo hi = -1) :
  Calls Tryz.prog 12 #[.agg s.q,.int .i64 0,.int .i64 0,.int .i64 s.bits,.agg t.q] w λ r w'=>r=.returned (.bool true)/\Below w.heap.size w w':=by
 obtain⟨W,hW⟩:∃ W,W=(w.alloc (.cells s.q 28)).alloc (.cells t.q 36):=⟨_,rfl⟩;have b8:Below w.heap.size w W:=by rw[hW];exact bl2 _ _ _
 have A:SpC W w.heap.size s:=by rw[hW];constructor<;>simp[go_sem]
 have C:SpC W (w.heap.size+1) t:=by rw[hW];constructor<;>simp[go_sem]
 have HS:=zC (hs.bw b8);have HT:=zC (ht.bw b8);have Q8:=zC hb;have fE:=zC I7;have HN:=zC hN;have Np:=zC hT;have HC:=zC hc;have Nq:=zC hle;have HK:=zC (show ∀ w',Below W.heap.size W w'->(cK w' w.heap.size s (cK0 w' (w.heap.size+1) t)) from λ w' hB=>⟨(A.bw hB).c0,(A.bw hB).c1,(A.bw hB).c2,(A.bw hB).c3,(A.bw hB).c4,(C.bw hB).c0,(C.bw hB).c1,(C.bw hB).c2,(C.bw hB).c3,(C.bw hB).c4⟩)
 clear A C hs ht hb I7 hN hT hc hle
 go_enter Tryz.func12,Tryz.ntmps12
 go_wp2;rw[<- hW];clear hW;obtain⟨x0,x1,x2,x3,x4,y0,y1,y2,y3,y4⟩:=zA HK _ (Below.refl _ _);have m8:Below W.heap.size W W.drew:=(Below.refl _ _).drew
 go_region_held3 (λ w'=>cK w' w.heap.size s (cK0 w' (w.heap.size+1) t)) (first|exact zA HK _ (by with_reducible first|exact m8|exact I6|exact I5|exact C8|exact y9|exact j9|exact j7)|(dsimp only[cK,cK0,nK,nK0,rK,rK0];go_keep)|go_keep)
  (first
   | (go_at_call 50;have hq:=I5;refine (zLO _ s t k i 0 lo hi lo' hi' (((zA HS).bw I5).mono T5) ((zA HT).bw I5) hk (by have:=zA Q8;omega) (by have:=zA Q8;omega) (by have:=zA fE;omega) (by have:=zA fE;omega) (by have:=zA Q8;have:=zA fE;omega) (by have:=zA Q8;have:=zA fE;omega) (by have:=zA fE;omega)).mono ?_;rintro r' w6 ⟨rfl,G3⟩;rw[zA Np];have I6:=zB I5 G3)
   | (go_at_call 51;have hq:=C8;refine (zFY _ s).mono ?_;rintro r' w5 ⟨rfl,A7⟩;have I5:=zB C8 A7)
   | (go_at_call 47;have hq:=y9;refine (zB0 _ s b lo hi ((zA HS).bw y9) (zA Q8) gP (zA Nq) (zA HN)).mono ?_;rintro r' w4 ⟨rfl,m9⟩;have C8:=zB y9 m9)
   | (go_at_call 46;have hq:=j9;refine (zU _ _ _ _ _ _ _ _ _ _ lo hi _ ((zA HS).lo.bw j9) ((zA HS).hi.bw j9)).mono ?_;rintro r' w3 ⟨rfl,k8⟩;rw[zA HC];have y9:=zB j9 k8)
   | (go_at_call 49;have hq:=j7;refine (zAG _ _ _ _ 250 hi _ ((zA HS).hi.bw j7)).mono ?_;rintro r' w2 ⟨rfl,b9⟩;have j9:=zB j7 b9)
   | (go_at_call 49;refine (zAG _ _ _ _ 250 lo _ ((zA HS).lo.bw m8)).mono ?_;rintro r' w1 ⟨rfl,b7⟩;have j7:=zB m8 b7))
 all_goals
  go_wp2_with fail
  go_ret
  exact⟨rfl,zB b8 I6⟩
theorem zPJ (w:World) (s t:Sp) (b i k:Nat) (lo hi lo' hi':Int) (hs:SpAt w s 250 lo hi) (ht:SpAt w t k lo' hi') (T5:250<=k) (hk:k<=300000000) (hb:s.bits=b) (gP:b<=120) (hle:lo<=hi) (oT:1<=i) (O9:i<=1000) (I7:t.bits=((b+i:Nat):Int)) (hN:zJJ lo hi (Q b) 4=true) (hT:zHJ lo hi i lo' hi' 0=true) (hc:zF lo hi=0) :
  Calls Tryz.prog 12 #[.agg s.q,.int .i64 0,.int .i64 0,.int .i64 s.bits,.agg t.q] w λ r w'=>r=.returned (.bool true)/\Below w.heap.size w w':=by
 obtain⟨W,hW⟩:∃ W,W=(w.alloc (.cells s.q 28)).alloc (.cells t.q 36):=⟨_,rfl⟩;have b8:Below w.heap.size w W:=by rw[hW];exact bl2 _ _ _
 have A:SpC W w.heap.size s:=by rw[hW];constructor<;>simp[go_sem]
 have C:SpC W (w.heap.size+1) t:=by rw[hW];constructor<;>simp[go_sem]
 have HS:=zC (hs.bw b8);have HT:=zC (ht.bw b8);have Q8:=zC hb;have fE:=zC I7;have HN:=zC hN;have Np:=zC hT;have HC:=zC hc;have Nq:=zC hle;have HK:=zC (show ∀ w',Below W.heap.size W w'->(cK w' w.heap.size s (cK0 w' (w.heap.size+1) t)) from λ w' hB=>⟨(A.bw hB).c0,(A.bw hB).c1,(A.bw hB).c2,(A.bw hB).c3,(A.bw hB).c4,(C.bw hB).c0,(C.bw hB).c1,(C.bw hB).c2,(C.bw hB).c3,(C.bw hB).c4⟩)
 clear A C hs ht hb I7 hN hT hc hle
 go_enter Tryz.func12,Tryz.ntmps12
 go_wp2;rw[<- hW];clear hW;obtain⟨x0,x1,x2,x3,x4,y0,y1,y2,y3,y4⟩:=zA HK _ (Below.refl _ _);have m8:Below W.heap.size W W.drew:=(Below.refl _ _).drew
 go_region_held3 (λ w'=>cK w' w.heap.size s (cK0 w' (w.heap.size+1) t)) (first|exact zA HK _ (by with_reducible first|exact m8|exact I6|exact I5|exact C8|exact y9|exact j9|exact j7)|(dsimp only[cK,cK0,nK,nK0,rK,rK0];go_keep)|go_keep)
  (first
   | (go_at_call 50;have hq:=I5;refine (zLO _ s t k i 0 lo hi lo' hi' (((zA HS).bw I5).mono T5) ((zA HT).bw I5) hk (by have:=zA Q8;omega) (by have:=zA Q8;omega) (by have:=zA fE;omega) (by have:=zA fE;omega) (by have:=zA Q8;have:=zA fE;omega) (by have:=zA Q8;have:=zA fE;omega) (by have:=zA fE;omega)).mono ?_;rintro r' w6 ⟨rfl,G3⟩;rw[zA Np];have I6:=zB I5 G3)
   | (go_at_call 51;have hq:=C8;refine (zFY _ s).mono ?_;rintro r' w5 ⟨rfl,A7⟩;have I5:=zB C8 A7)
   | (go_at_call 47;have hq:=y9;refine (zB0 _ s b lo hi ((zA HS).bw y9) (zA Q8) gP (zA Nq) (zA HN)).mono ?_;rintro r' w4 ⟨rfl,m9⟩;have C8:=zB y9 m9)
   | (go_at_call 46;have hq:=j9;refine (zU _ _ _ _ _ _ _ _ _ _ lo hi _ ((zA HS).lo.bw j9) ((zA HS).hi.bw j9)).mono ?_;rintro r' w3 ⟨rfl,k8⟩;rw[zA HC];have y9:=zB j9 k8)
   | (go_at_call 49;have hq:=j7;refine (zAG _ _ _ _ 250 hi _ ((zA HS).hi.bw j7)).mono ?_;rintro r' w2 ⟨rfl,b9⟩;have j9:=zB j7 b9)
   | (go_at_call 49;refine (zAG _ _ _ _ 250 lo _ ((zA HS).lo.bw m8)).mono ?_;rintro r' w1 ⟨rfl,b7⟩;have j7:=zB m8 b7))
 all_goals
  go_wp2_with fail
  go_ret
  exact⟨rfl,zB b8 I6⟩
theorem touch_up {b i:Nat} {a c:Int × Int} {x:Nat->Rat} (h:Iv b a x) (k:Iv (b+i) c x):zHJ a.1 a.2 i c.1 c.2 0=true:=by
 have q:=zG b;have t1:=h.touch k;have t2:=k.touch h;rw[jD] at t1 t2;have e1:a.1*(Q b*Q i)=a.1*Q i*Q b:=by grind
 have e2:a.2*(Q b*Q i)=a.2*Q i*Q b:=by grind
 rw[e1] at t1;rw[e2] at t2;have c1:a.1*Q i<=c.2:=Int.le_of_mul_le_mul_right t1 (by omega)
 have c2:c.1<=a.2*Q i:=Int.le_of_mul_le_mul_right t2 (by omega)
 have e0:Q 0=1:=rfl;unfold zHJ;rw[e0];simp[c1,c2]
theorem zM5 (w:World) (s t:Sp) (b i k:Nat) (lo hi lo' hi':Int) (hs:SpAt w s 250 lo hi) (ht:SpAt w t k lo' hi') (T5:250<=k) (hk:k<=300000000) (hb:s.bits=b) (b7:b<=120) (hle:lo<=hi) (oT:1<=i) (O9:i<=1000) (I7:t.bits=((b+i:Nat):Int)) (hN:zJJ lo hi (Q b) 4=true) (hT:zHJ lo hi i lo' hi' 0=true) :
  Calls Tryz.prog 12 #[.agg s.q,.int .i64 0,.int .i64 0,.int .i64 b,.agg t.q] w λ r w'=>r=.returned (.bool true)/\Below w.heap.size w w':=by
 rw[<- hb]
 rcases cmp3 lo hi with⟨h1,h2⟩|⟨h1,h2⟩|⟨h1,h2⟩
 ·exact zO1 w s t b i k lo hi lo' hi' hs ht T5 hk hb b7 hle oT O9 I7 hN hT h1
 ·exact zPJ w s t b i k lo hi lo' hi' hs ht T5 hk hb b7 hle oT O9 I7 hN hT h1
 ·omega
open Ex
theorem zRM (b:Nat) (c:Int):Iv b (c*Q b,c*Q b) (λ _=>(c:Rat)):=by
 have q:=zY b
 have e:((c*Q b:Int):Rat)/(Q b:Rat)=(c:Rat):=by
  rw[Ye];exact Rat.le_antisymm (jZ q Rat.le_refl) (yF q Rat.le_refl)
 refine Has.of_from 0 λ M _=>?_
 simp only[e];exact⟨Rat.le_refl,Rat.le_refl⟩
theorem gmV_next {n d:Int} (h0:0<n) (hd:0<d) (g:Nat->Rat) (M:Nat):gmV (n+d) d g M=gmV n d g M*((n:Rat)/(d:Rat)):=by
 unfold gmV;rw[stN_next hd h0,stP_next];have e:stQ d (stN n d+1)=stQ d (stN n d)*d:=rfl;rw[e,Ye,Ye];have d0:(0:Rat)<(d:Rat):=by exact_mod_cast hd
 have q0:(0:Rat)<(stQ d (stN n d):Rat):=by exact_mod_cast zJ8 hd _
 generalize (stP n d (stN n d):Rat)=P at *;generalize (stQ d (stN n d):Rat)=Q at *;generalize g M=y
 have k:(n:Rat)*P/(Q*(d:Rat))=P/Q*((n:Rat)/(d:Rat)):=by
  have qd:=Rat.mul_pos q0 d0;refine zS qd ?_;have e1:=rdm (a:=(n:Rat)*P) qd;have e2:=rdm (a:=P) q0;have e3:=rdm (a:=(n:Rat)) d0;have r1:Q*(d:Rat)*((n:Rat)*P/(Q*(d:Rat)))=(n:Rat)*P/(Q*(d:Rat))*(Q*(d:Rat)):=by grind
  have r2:Q*(d:Rat)*(P/Q*((n:Rat)/(d:Rat)))=P/Q*Q*((n:Rat)/(d:Rat)*(d:Rat)):=by grind
  rw[r1,r2,e1,e2,e3];grind
 rw[k];grind
namespace Ex
theorem IsGam.congr {L:Rat->Nat->Rat} {a:Rat} {g g':Nat->Rat} (h:IsGam L a g) (e:∀ M,g' M=g M):IsGam L a g':=by
 have:g'=g:=funext e;rw[this];exact h
end Ex
theorem zRN {L : Rat → Nat → Rat} (hL : Lns L) {n d : Int} {g : Nat → Rat} (h0 : 0 < n) (h1 : n ≤ d) (hg : Gam1 L ((n : Rat) / (d : Rat)) g) (k : Nat) : IsGam L (((n + (k : Int) * d : Int) : Rat) / (d : Rat)) (gmV (n + (k : Int) * d) d g) := by
  have d0 : 0 < d := by omega
  have dr : (0 : Rat) < (d : Rat) := by exact_mod_cast d0
  have nr : (0 : Rat) < (n : Rat) := by exact_mod_cast h0
  induction k with
  | zero =>
    have e : n + ((0 : Nat) : Int) * d = n := by have : ((0 : Nat) : Int) = 0 := rfl
                                                 rw [this]; omega
    rw [e]
    refine (hg.isGam hL (zH nr dr)).congr fun M => ?_
    have s : stN n d = 0 := by unfold stN; rw [Int.ediv_eq_zero_of_lt (by omega) (by omega)]; rfl
    unfold gmV
    rw [s]
    show ((1 : Int) : Rat) / ((1 : Int) : Rat) * g M = g M
    have : ((1 : Int) : Rat) / ((1 : Int) : Rat) = 1 := by decide +kernel
    rw [this]; grind
  | succ k ih =>
    have kd := Int.mul_nonneg (show (0 : Int) ≤ (k : Int) by omega) (show 0 ≤ d by omega)
    have e : n + ((k + 1 : Nat) : Int) * d = n + (k : Int) * d + d := by
      have : ((k + 1 : Nat) : Int) = (k : Int) + 1 := by omega
      rw [this]; grind
    have p : 0 < n + (k : Int) * d := by omega
    have pr' : (0 : Rat) < ((n + (k : Int) * d : Int) : Rat) := by exact_mod_cast p
    have nx := ih.next hL (zH pr' dr)
    rw [e]
    have ea : ((n + (k : Int) * d + d : Int) : Rat) / (d : Rat) = ((n + (k : Int) * d : Int) : Rat) / (d : Rat) + 1 := by
      rw [Rat.intCast_add (n + (k : Int) * d) d, yO]
      have : (d : Rat) / (d : Rat) = 1 := Rat.le_antisymm (jZ dr (by grind)) (yF dr (by grind))
      rw [this]
    rw [ea]
    refine nx.congr fun M => ?_
    rw [gmV_next p d0]; grind
theorem zDN {L G:Rat->Nat->Rat} {X:Int->Int->Nat->Rat} (hE:zM4 L G X) {n d:Int} (h:StIn n d):IsGam L ((n:Rat)/(d:Rat)) (gmV n d (G (gA n d))):=by
 obtain⟨r1,r2,r3⟩:=h.rest;have k:=zRN hE.lns r1 r2 (hE.gam _ (zIS h).1 (zIS h).2) (stN n d);have e:n-(stN n d:Int)*d+(stN n d:Int)*d=n:=by omega
 rw[e] at k;exact k
theorem pw_two (k:Nat):pw 2 k=(Q k:Rat):=pw_Q k
theorem zQ4 (e:Nat):h64 e*(Q (64*e):Rat)=1:=rdm (zY _)
theorem lm_log {L:Rat->Nat->Rat} (hL:Lns L) {n d:Int} {b x m K:Nat} (h:zJ6 n d b x) (hm:m=b+128) (hK:2*x<K) (Z4:K<=25000) (hT:(lmS n d x m K).T.2<=1) {g X lL lH l2:Nat->Rat} (hg:IsGam L ((n:Rat)/(d:Rat)) g) (hX:IsLog X g)
  (gL:IsLog lL (λ _=>(lmL (lmS n d x m K).U:Rat)/(Q m:Rat))) (gH:IsLog lH (λ _=>(lmH m (lmS n d x m K).e (lmS n d x m K).U:Rat)/(Q m:Rat))) (g2:IsLog l2 (λ _=>2)) :
  LeN (λ M=>lL M+((64*(lmS n d x m K).e:Nat):Rat)*l2 M+(n:Rat)/(d:Rat)*L (x:Rat) M-(x:Rat)) X/\LeN X (λ M=>lH M+((64*(lmS n d x m K).e:Nat):Rat)*l2 M+(n:Rat)/(d:Rat)*L (x:Rat) M-(x:Rat)):=by
 obtain⟨s1,s2⟩:=zPW (m:=m) h hK hT;have o:=zEM h hm K Z4;obtain⟨s,hs⟩:∃ s,s=lmS n d x m K:=⟨_,rfl⟩;rw[<- hs] at s1 s2 gL gH o ⊢;obtain⟨a,ha⟩:∃ a,a=(n:Rat)/(d:Rat):=⟨_,rfl⟩;have nr:(0:Rat)<(n:Rat):=by exact_mod_cast h.n0
 have dr:(0:Rat)<(d:Rat):=by exact_mod_cast h.d0
 have a0:0<a:=by rw[ha];exact zH nr dr
 have x1:(1:Rat)<=(x:Rat):=by exact_mod_cast (show 1<=x by have:=h.xb;omega)
 have x0:(0:Rat)<(x:Rat):=by grind
 have xa:2*a<=(x:Rat):=by
  have c:=zX h.x2;rw[Ye,Ye] at c;have c2:((2:Int):Rat)=2:=rfl;have c3:((x:Int):Rat)=(x:Rat):=rfl;rw[c2,c3] at c;have dm:=rdm (a:=(n:Rat)) dr;rw[<- ha] at dm;refine Rat.le_of_mul_le_mul_right (c:=(d:Rat)) ?_ dr;have:2*a*(d:Rat)=2*(a*(d:Rat)):=by grind
  rw[this,dm];exact c
 rw[<- ha] at s1 s2 hg ⊢;have Qp:=zY (64*s.e);have hq:=zQ4 s.e;have hp:0<h64 s.e:=zH (by grind) Qp
 have pB:=jV hL x0 a;have pN:=zBW hL x0 a;have eB:=yD (-(x:Rat));have eN:=zCE (-(x:Rat))
 have lg:∀ {l:Nat->Rat} {c:Rat},IsLog l (λ _=>c)->IsLog (λ M=>l M+((64*s.e:Nat):Rat)*l2 M+a*L (x:Rat) M-(x:Rat)) (λ M=>c*(Q (64*s.e):Rat)*(Ex.pr L a (x:Rat) M*ex (-(x:Rat)) M)):=λ {l c} hl=>by
  have k1:=hl.add (g2.times (64*s.e));have k2:IsLog (λ M=>a*L (x:Rat) M) (Ex.pr L a (x:Rat)):=⟨kD hL x0 a,null_zero.of_eq λ M=>by unfold Ex.pr;grind⟩
  have k3:=(k1.add k2).add (zA8 (-(x:Rat)));have e1:(λ M=>l M+((64*s.e:Nat):Rat)*l2 M+a*L (x:Rat) M + -(x:Rat))=λ M=>l M+((64*s.e:Nat):Rat)*l2 M+a*L (x:Rat) M-(x:Rat):=by funext M;grind
  rw[e1] at k3;refine k3.congr_r (null_zero.of_eq λ M=>?_)
  rw[pw_two];grind
 refine⟨λ e he=>?_,λ e he=>?_⟩
 ·have low:LeN (λ M=>(lmL s.U:Rat)/(Q m:Rat)*(Q (64*s.e):Rat)*(Ex.pr L a (x:Rat) M*ex (-(x:Rat)) M)) g:=by
   refine LeN.trans ?_ (hg.lo _ x0);have l1:=((s1.cmul (c:=(Q (64*s.e):Rat)) (XV Qp)).bmul (pB.mul eB) (pN.mul eN));refine LeN.trans (LeN.of_le 0 λ M _=>?_) (l1.trans (LeN.of_le 0 λ M _=>?_))
   ·grind
   ·show (Q (64*s.e):Rat)*(h64 s.e*uS a (x:Rat) M)*(Ex.pr L a (x:Rat) M*ex (-(x:Rat)) M)<=uG L a (x:Rat) M
    unfold uG;generalize Ex.pr L a (x:Rat) M=p;generalize ex (-(x:Rat)) M=y;generalize uS a (x:Rat) M=u;have r:(Q (64*s.e):Rat)*(h64 s.e*u)*(p*y)=h64 s.e*(Q (64*s.e):Rat)*(p*y*u):=by grind
    rw[r,hq];grind
  obtain⟨z,hz,kz⟩:=low.null;exact (lg gL).le hX hz 0 (λ M _=>kz M) e he
 ·have up:LeN g (λ M=>(lmH m s.e s.U:Rat)/(Q m:Rat)*(Q (64*s.e):Rat)*(Ex.pr L a (x:Rat) M*ex (-(x:Rat)) M)):=by
   refine (hg.hi _ x1 (by grind)).trans ?_
   have l1:=((s2.cmul (c:=(Q (64*s.e):Rat)) (XV Qp)).bmul (pB.mul eB) (pN.mul eN));refine LeN.trans ?_ (l1.trans (LeN.of_le 0 λ M _=>by grind))
   have nx:=zMP hL x0 a;obtain⟨N,hN⟩:=zNZ hL x0 a;have nx2:=nx.bmul (Bdd.const 2);refine LeN.of_null nx2 N λ M hM=>?_
   have u0:=hN M hM;have m1:=Yc x1 u0
   show uG L a (x:Rat) M+2*uE L a (x:Rat) M<=(Q (64*s.e):Rat)*(h64 s.e*(uS a (x:Rat) M+2))*(Ex.pr L a (x:Rat) M*ex (-(x:Rat)) M)+((x:Rat)*uE L a (x:Rat) M-Ex.pr L a (x:Rat) M*ex (-(x:Rat)) M)*2
   unfold uG;generalize uE L a (x:Rat) M=ue at *;generalize Ex.pr L a (x:Rat) M=p at *;generalize ex (-(x:Rat)) M=y at *;generalize uS a (x:Rat) M=u at *;have r:(Q (64*s.e):Rat)*(h64 s.e*(u+2))*(p*y)=h64 s.e*(Q (64*s.e):Rat)*(p*y*u+2*(p*y)):=by grind
   rw[r,hq];grind
  obtain⟨z,hz,kz⟩:=up.null;exact hX.le (lg gH) hz 0 (λ M _=>kz M) e he
def lgR (B:Nat) (n d c x:Int) (p r o2 ox:Int × Int):Int × Int:=zAF (jJ (jJ (p.1,r.2) (byI o2 c 1)) (byI ox n d)) (x*Q B,x*Q B)
theorem zD6 {B:Nat} {a c:Int × Int} {lo hi X:Nat->Rat} (h1:Iv B a lo) (h2:Iv B c hi) (l:LeN lo X) (u:LeN X hi):Iv B (a.1,c.2) X:=by
 intro e he
 obtain⟨N1,k1⟩:=h1 (e/2) (by grind)
 obtain⟨N2,k2⟩:=h2 (e/2) (by grind)
 obtain⟨N3,k3⟩:=l (e/2) (by grind)
 obtain⟨N4,k4⟩:=u (e/2) (by grind)
 refine⟨N1+N2+N3+N4,λ M hM=>?_⟩
 have a1:=(k1 M (by omega)).1
 have a2:=(k2 M (by omega)).2
 have a3:=k3 M (by omega)
 have a4:=k4 M (by omega)
 exact⟨by grind,by grind⟩
theorem lgR_has {B:Nat} {n d:Int} {c x:Nat} (hd:0<d) {p r o2 ox:Int × Int} {lL lH l2 lx X:Nat->Rat} (i1:Iv B p lL) (i2:Iv B r lH) (j2:Iv B o2 l2) (jx:Iv B ox lx) (low:LeN (λ M=>lL M+(c:Rat)*l2 M+(n:Rat)/(d:Rat)*lx M-(x:Rat)) X) (up:LeN X (λ M=>lH M+(c:Rat)*l2 M+(n:Rat)/(d:Rat)*lx M-(x:Rat))):Iv B (lgR B n d (c:Int) (x:Int) p r o2 ox) X:=by
 have w:=zRM B (x:Int);have k2:=j2.by_ (c:Int) (d:=1) (by decide)
 have kx:=jx.by_ n hd
 have one:(((c:Int):Rat)/((1:Int):Rat))=(c:Rat):=by
  have e1:((1:Int):Rat)=1:=rfl;have e2:((c:Int):Rat)=(c:Rat):=rfl;have e3:(1:Rat)⁻¹=1:=by decide +kernel
  rw[e1,e2,Yg,e3,Rat.mul_one]
 have CB:((x:Int):Rat)=(x:Rat):=rfl
 have a1:Iv B (zAF (jJ (jJ p (byI o2 c 1)) (byI ox n d)) ((x:Int)*Q B,(x:Int)*Q B)) (λ M=>lL M+(c:Rat)*l2 M+(n:Rat)/(d:Rat)*lx M-(x:Rat)):=by
  refine Has.of_eq (((i1.add k2).add kx).sub w) (λ M=>?_)
  show lL M+(c:Rat)*l2 M+(n:Rat)/(d:Rat)*lx M-(x:Rat)=lL M+((c:Int):Rat)/((1:Int):Rat)*l2 M+(n:Rat)/(d:Rat)*lx M-((x:Int):Rat)
  rw[one,CB]
 have a2:Iv B (zAF (jJ (jJ r (byI o2 c 1)) (byI ox n d)) ((x:Int)*Q B,(x:Int)*Q B)) (λ M=>lH M+(c:Rat)*l2 M+(n:Rat)/(d:Rat)*lx M-(x:Rat)):=by
  refine Has.of_eq (((i2.add k2).add kx).sub w) (λ M=>?_)
  show lH M+(c:Rat)*l2 M+(n:Rat)/(d:Rat)*lx M-(x:Rat)=lH M+((c:Int):Rat)/((1:Int):Rat)*l2 M+(n:Rat)/(d:Rat)*lx M-((x:Int):Rat)
  rw[one,CB]
 have e:lgR B n d (c:Int) (x:Int) p r o2 ox=((zAF (jJ (jJ p (byI o2 c 1)) (byI ox n d)) ((x:Int)*Q B,(x:Int)*Q B)).1,(zAF (jJ (jJ r (byI o2 c 1)) (byI ox n d)) ((x:Int)*Q B,(x:Int)*Q B)).2):=by
  unfold lgR;generalize byI o2 (c:Int) 1=y1;generalize byI ox n d=y2;generalize (x:Int)*Q B=y3
  rfl
 rw[e];exact zD6 a1 a2 low up
open Ex
namespace Ex
theorem zC9 {g:Nat->Rat} (h:∃ c:Rat,0<c/\∃ N:Nat,∀ M,N<=M->c<=g M):Bdd (λ M=>1/g M)/\Nn (λ M=>1/g M)/\∃ N:Nat,∀ M,N<=M->g M*(1/g M)=1/\0<g M/\0<=1/g M:=by
 obtain⟨c,c0,N,hc⟩:=h
 have one:∀ M,N<=M->g M*(1/g M)=1/\0<g M/\0<=1/g M:=λ M hM=>by
  have g0:0<g M:=by have:=hc M hM;grind
  have:=rdm (a:=1) g0;exact⟨by grind,g0,jQ g0 (by grind)⟩
 refine⟨Bdd.of_le (1/c) N λ M hM=>?_,⟨N,λ M hM=>(one M hM).2.2⟩,N,one⟩
 obtain⟨e1,e2,e3⟩:=one M hM;have ic:0<=1/c:=jQ c0 (by grind)
 refine⟨by grind,zAJ e2 ?_⟩
 have m:=Ya (hc M hM) ic;have:=rdm (a:=1) c0;grind
theorem null_div {F l s:Nat->Rat} (hF:∃ c:Rat,0<c/\∃ N:Nat,∀ M,N<=M->c<=F M) (h:Null (λ M=>F M*l M-s M)):Null (λ M=>l M-s M/F M):=by
 obtain⟨i1,i2,N,i3⟩:=zC9 hF;refine (h.bmul i1).of_eq_from N λ M hM=>?_
 obtain⟨e1,e2,e3⟩:=i3 M hM;have d:=rdm (a:=s M) e2;refine zS (c:=F M) e2 ?_;have r1:F M*(l M-s M/F M)=F M*l M-s M/F M*F M:=by grind
 have r2:F M*((F M*l M-s M)*(1/F M))=(F M*l M-s M)*(F M*(1/F M)):=by grind
 rw[r1,r2,d,e1];grind
end Ex
end Go.Proofs.YtgmnknmjainababGreat
namespace Go.Proofs.YtgmnknmjainababGreat.Ex
theorem zEN {L:Rat->Nat->Rat} (hL:Lns L) {a b:Rat} (ha:0<a) (hb:0<b):∃ c:Rat,0<c/\∃ N:Nat,∀ M,N<=M->c<=bJ L a b M:=by
 obtain⟨c1,p1,N1,h1⟩:=zCV (kD hL (show (0:Rat)<1/2 by grind) a)
 obtain⟨c2,p2,N2,h2⟩:=zCV (kD hL (show (0:Rat)<1/2 by grind) b)
 obtain⟨N3,h3⟩:=zRI hL hb ha (show (0:Rat)<1/2 by grind) (by grind)
 have ip:0<1/a:=zH (by grind) ha
 refine⟨c1*c2*(1/a),Rat.mul_pos (Rat.mul_pos p1 p2) ip,N1+N2+N3+1,λ M hM=>?_⟩
 obtain⟨m,rfl⟩:∃ m,M=m+1:=⟨M-1,by omega⟩
 have f:=zMB ha hb (show (0:Rat)<=1/2 by grind) m
 have a1:c1<=pr L a (1/2) (m+1):=h1 (m+1) (by omega)
 have a2:c2<=pr L b (1/2) (m+1):=h2 (m+1) (by omega)
 have a3:=h3 (m+1) (by omega)
 have e:(1:Rat)-1/2=1/2:=by grind
 have b':c1*c2<=bP L a b (1/2) (m+1):=by
  unfold bP;rw[e];exact Rat.le_trans (Yc a1 (XV p2)) (Ya a2 (by grind))
 have c0:=XQ (XV p1) (XV p2);have k:c1*c2*(1/a)<=bH L a b (1/2) (m+1):=Rat.le_trans (Yc b' (XV ip)) (Ya f (by grind))
 unfold bJ;grind
def bv (L:Rat->Nat->Rat) (a b x:Rat) (M:Nat):Rat:=bH L a b x M*(1/bJ L a b M)
theorem bv_bdd {L:Rat->Nat->Rat} (hL:Lns L) {a b x:Rat} (ha:0<a) (hb:0<b) (hx:0<x) (h1:x<1):Bdd (bv L a b x):=(zOE hL ha hb hx h1).mul (zC9 (zEN hL ha hb)).1
theorem bv_nn {L:Rat->Nat->Rat} (hL:Lns L) {a b x:Rat} (ha:0<a) (hb:0<b) (hx:0<x) (h1:x<1):Nn (bv L a b x):=(zRI hL ha hb hx h1).mul (zC9 (zEN hL ha hb)).2.1
theorem zPN {L:Rat->Nat->Rat} (hL:Lns L) {a b x y:Rat} (ha:0<a) (hb:0<b) (hx:0<x) (cY:x<=y) (hy:y<1):LeN (bv L a b x) (bv L a b y) :=
 (bH_mono hL ha hb hx cY hy).bmul (zC9 (zEN hL ha hb)).1 (zC9 (zEN hL ha hb)).2.1
theorem zJT {L:Rat->Nat->Rat} (hL:Lns L) {a b x:Rat} (ha:0<a) (hb:0<b) (hx:0<x) (h1:x<1):Null (λ M=>bv L a b x M-(1-bv L b a (1-x) M)):=by
 obtain⟨i1,i2,N,i3⟩:=zC9 (zEN hL ha hb);refine ((bJ_at hL ha hb hx h1).bmul i1).of_eq_from N λ M hM=>?_
 obtain⟨e1,e2,e3⟩:=i3 M hM;unfold bv;rw[zQU L b a M];generalize 1/bJ L a b M=j at *;generalize bJ L a b M=B at *;generalize bH L a b x M=u at *;generalize bH L b a (1-x) M=v at *;have:(u+v-B)*j=u*j+v*j-B*j:=by grind
 rw[this,e1];grind
theorem zQY {L:Rat->Nat->Rat} (hL:Lns L) {a b x:Rat} (ha:0<a) (hb:0<b) (hx:0<x) (h1:x<1):LeN (bv L a b x) (λ _=>1):=by
 obtain⟨N,hN⟩:=bv_nn hL hb ha (show 0<1-x by grind) (by grind)
 exact LeN.of_null (zJT hL ha hb hx h1) N λ M hM=>by have:=hN M hM;grind
theorem bv_21 {L:Rat->Nat->Rat} (hL:Lns L) {x:Rat} (hx:0<x) (h1:x<1):Null (λ M=>bv L 2 1 x M-x*x):=by
 have one:(0:Rat)<1:=by grind
 have two:(0:Rat)<2:=by grind
 have x1:0<1-x:=by grind
 have e2:(1:Rat)+1=2:=by grind
 have n1:=bH_up hL one one hx h1;have n2:=zHW hL one one;rw[e2] at n1 n2;have n3:=bH_11 hL hx h1;have n4:=bJ_11 hL;have p1:=(zCF hL hx).bmul (jV hL x1 1);have p2:=(zCF hL x1).bmul (Bdd.const x);obtain⟨i1,i2,N,i3⟩:=zC9 (zEN hL two one);have a1:Null (λ M=>bH L 2 1 x M-x*x/2):=(((n1.add n3).sub (p1.add p2)).bmul (Bdd.const (1/2))).of_eq λ M=>by unfold bP;grind
 have a2:Null (λ M=>bJ L 2 1 M-1/2):=((n2.add n4).bmul (Bdd.const (1/2))).of_eq λ M=>by grind
 refine ((a1.bmul i1).sub ((a2.bmul i1).bmul (Bdd.const (x*x)))).of_eq_from N λ M hM=>?_
 obtain⟨e1,e2,e3⟩:=i3 M hM;unfold bv;generalize 1/bJ L 2 1 M=j at *;generalize bJ L 2 1 M=B at *;generalize bH L 2 1 x M=u at *;have:(u-x*x/2)*j-(B-1/2)*j*(x*x)=u*j-x*x*(B*j):=by grind
 rw[this,e1];grind
theorem pr_inv {L:Rat->Nat->Rat} (hL:Lns L) {x y:Rat} (hx:0<x) (hy:0<y) (e:x*y=1) (c:Rat):Null (λ M=>Ev (λ M=>c*L y M) M*pr L c x M-1):=by
 have l:=(hL y hy).add (hL x hx);have e':(λ (_:Nat)=>y*x)=λ _=>1:=by funext _;grind
 rw[e'] at l;have n:=isLog_one.uniq l;have a:=yZ (kD hL hy c) (kD hL hx c);have k:=zC4 (x:=λ M=>c*L y M+c*L x M) (y:=λ _=>0) ((kD hL hy c).add (kD hL hx c)) (Bdd.const 0) ((n.bmul (Bdd.const (-c))).of_eq λ M=>by grind)
 have z:Null (λ M=>Ev (λ _=>(0:Rat)) M-1):=null_zero.of_eq_from 1 λ M hM=>by
  obtain⟨m,rfl⟩:∃ m,M=m+1:=⟨M-1,by omega⟩
  have e0:Ev (λ _=>(0:Rat)) (m+1)=1:=zAB m
  rw[e0];grind
 exact ((a.add k).add z).of_eq λ M=>by unfold pr;grind
def bY (L:Rat->Nat->Rat) (a b y z:Rat) (X:Nat->Rat) (M:Nat):Rat:=a*L y M+b*L z M+(L a M+X M)
theorem bY_bdd {L:Rat->Nat->Rat} (hL:Lns L) {a b y z:Rat} (ha:0<a) (hy:0<y) (hz:0<z) {X J:Nat->Rat} (hX:IsLog X J):Bdd (bY L a b y z X):=((kD hL hy a).add (kD hL hz b)).add ((hL a ha).1.add hX.1)
theorem zQF {L:Rat->Nat->Rat} (hL:Lns L) {a b x y z:Rat} {X:Nat->Rat} (ha:0<a) (hb:0<b) (hx:0<x) (h1:x<1) (hy:x*y=1) (hz:(1-x)*z=1) (y0:0<y) (z0:0<z) (hX:IsLog X (bJ L a b)):Null (λ M=>Ev (bY L a b y z X) M*bv L a b x M-a*bS a b x M):=by
 have x1:0<1-x:=by grind
 obtain⟨i1,i2,N,i3⟩:=zC9 (zEN hL ha hb);have l:=(hL a ha).add hX;have b1:=kD hL y0 a;have b2:=kD hL z0 b;have s1:=yZ b1 b2;have s2:=yZ (b1.add b2) l.1;have bb:=bv_bdd hL ha hb hx h1;have n1:=s2.neg.bmul bb;have n2:=(s1.neg.bmul (zA4 l.1)).bmul bb;have n3:=(l.2.bmul ((zA4 b1).mul (zA4 b2))).bmul bb;have p1:=(pr_inv hL hx y0 hy a).bmul (((zA4 b2).mul (jV hL x1 b)).mul ((Bdd.const a).mul (zEG ha hb (XV hx) h1)));have p2:=(pr_inv hL x1 z0 hz b).bmul ((Bdd.const a).mul (zEG ha hb (XV hx) h1));refine (((n1.add n2).add n3).add (p1.add p2)).of_eq_from N λ M hM=>?_
 obtain⟨e1,e2,e3⟩:=i3 M hM;have eY:Ev (bY L a b y z X) M=Ev (λ M=>a*L y M+b*L z M+(L a M+X M)) M:=rfl
 rw[eY];unfold bv bH bP
 dsimp only
 generalize Ev (λ M=>a*L y M+b*L z M+(L a M+X M)) M=v at *
 generalize Ev (λ M=>a*L y M+b*L z M) M=v2 at *
 generalize Ev (λ M=>a*L y M) M=v3 at *
 generalize Ev (λ M=>b*L z M) M=v4 at *
 generalize Ev (λ M=>L a M+X M) M=v5 at *
 generalize pr L a x M=p at *;generalize pr L b (1-x) M=r at *;generalize bS a b x M=s at *;generalize 1/bJ L a b M=j at *;generalize bJ L a b M=B at *;clear n1 n2 n3 p1 p2 s1 s2 bb l b1 b2 i1 i2 i3 hX eY;have r1:v3*v4*(a*B)*(p*r*s*j)=a*(v3*p)*(v4*r)*s*(B*j):=by grind
 rw[e1] at r1;grind
theorem bv_quot {L:Rat->Nat->Rat} (hL:Lns L) {a b x y z:Rat} {X:Nat->Rat} (ha:0<a) (hb:0<b) (hx:0<x) (h1:x<1) (hy:x*y=1) (hz:(1-x)*z=1) (y0:0<y) (z0:0<z) (hX:IsLog X (bJ L a b)):Null (λ M=>bv L a b x M-a*bS a b x M/Ev (bY L a b y z X) M) :=
 null_div (zCV (bY_bdd hL ha y0 z0 hX)) (zQF hL ha hb hx h1 hy hz y0 z0 hX)
theorem zPQ {L:Rat->Nat->Rat} (hL:Lns L) {a b x y z:Rat} {X:Nat->Rat} (ha:0<a) (hb:0<b) (hx:0<x) (h1:x<1) (hy:x*y=1) (hz:(1-x)*z=1) (y0:0<y) (z0:0<z) (hX:IsLog X (bJ L a b)):LeN (λ _=>0) (bY L a b y z X):=by
 have bY:=bY_bdd (b:=b) hL ha y0 z0 hX
 have l1:=(LeN.of_eqN (Null.symm (zQF hL ha hb hx h1 hy hz y0 z0 hX))).trans (by
  have l:=(zQY hL ha hb hx h1).bmul (zA4 bY) (Ev_nn bY)
  exact LeN.trans (LeN.of_le 0 λ M _=>by grind) (l.trans (LeN.of_le 0 λ M _=>by show 1*Ev (Ex.bY L a b y z X) M<=Ev (Ex.bY L a b y z X) M;grind)))
 have l2:LeN (λ _=>1) (Ev (Ex.bY L a b y z X)):=by
  refine LeN.trans (LeN.of_le 1 λ M hM=>?_) l1
  obtain⟨m,rfl⟩:∃ m,M=m+1:=⟨M-1,by omega⟩
  have f:=zMB ha hb (XV hx) m;have k:=Ya f (XV ha);have d:=rdm (a:=1) ha;grind
 obtain⟨z',Ix,kz⟩:=l2.null
 intro e he
 exact zPI (Bdd.const 0) bY Ix 1 (λ M hM=>by
  obtain⟨m,rfl⟩:∃ m,M=m+1:=⟨M-1,by omega⟩
  have e0:Ev (λ _=>(0:Rat)) (m+1)=1:=zAB m
  rw[e0];exact kz (m+1)) e he
theorem bJ_log {L:Rat->Nat->Rat} (hL:Lns L) {a b:Rat} {ga gb gab X Y Z:Nat->Rat} (ha:0<a) (hb:0<b) (h1:IsGam L a ga) (h2:IsGam L b gb) (h3:IsGam L (a+b) gab) (lx:IsLog X ga) (ly:IsLog Y gb) (lz:IsLog Z gab):IsLog (λ M=>X M+Y M-Z M) (bJ L a b):=by
 obtain⟨i1,i2,N,i3⟩:=zC9 h3.pos;have lz':=lz.neg (s:=λ M=>1/gab M) i1 N (λ M hM=>by have:=(i3 M hM).1;grind)
 have l:=(lx.add ly).add lz';have e:(λ M=>X M+Y M + -Z M)=λ M=>X M+Y M-Z M:=by funext M;grind
 rw[e] at l;refine l.congr_r (((zN3 hL ha hb h1 h2 h3).bmul i1).neg.of_eq_from N λ M hM=>?_)
 obtain⟨e1,e2,e3⟩:=i3 M hM;generalize 1/gab M=j at *;generalize bJ L a b M=B at *;have:(B*gab M-ga M*gb M)*j=B*(gab M*j)-ga M*gb M*j:=by grind
 rw[this,e1];grind
end Go.Proofs.YtgmnknmjainababGreat.Ex
namespace Go.Proofs.YtgmnknmjainababGreat
open Ex
open Ex
structure SeOk (a:Int × Int) (u d:Nat->Int):Prop where
 ok:RiOk u d
 a0:0<a.1
 al:a.1<=a.2
 aw:a.2-a.1<=1
 mono:∀ n,d (n+2)<=u (n+2)->d (n+1)<=u (n+1)
theorem zBV {a:Int × Int} {u d:Nat->Int} (h:SeOk a u d) (k:Nat):0<=(riT a u d k).1/\(riT a u d k).1<=(riT a u d k).2:=⟨zC5 h.ok (by have:=h.a0;omega) k,zLQ h.ok h.al k⟩
theorem se_rise {a:Int × Int} {u d:Nat->Int} (h:SeOk a u d) (k:Nat) (hk:d (k+1)<=u (k+1)):a.2<=(riT a u d k).2:=by
 induction k with
 | zero=>exact Int.le_refl _
 | succ k ih =>
  have qK:=h.mono k hk;have i:=ih qK;obtain⟨e1,e2⟩:=zBV h k;have p:=h.ok.d0 (k+1);have c:=zCP ((riT a u d k).2*u (k+1)) p;have m:=XR qK (show 0<=(riT a u d k).2 by omega)
  refine Int.le_trans i ?_;refine Int.le_of_mul_le_mul_right (a:=d (k+1)) ?_ p;exact Int.le_trans m c
theorem zMU {a:Int × Int} {u d:Nat->Int} (h:SeOk a u d) (k:Nat):((riT a u d k).2-(riT a u d k).1)*a.2<=(1+2*(k:Int))*((riT a u d k).2+a.2):=by
 have a0:=h.a0;have al:=h.al;obtain⟨e1,e2⟩:=zBV h k;have w:=zMI h.ok (show 0<=a.1 by omega) al (by omega) h.aw (λ k hk=>se_rise h k hk) k
 refine Int.le_trans w (XR ?_ (by omega))
 split<;>omega
theorem zLU {a:Int × Int} {u d:Nat->Int} (h:SeOk a u d) (k:Nat):((jE (riT a u d) k).2-(jE (riT a u d) k).1)*a.2<=(1+2*(k:Int))*((jE (riT a u d) k).2+((k:Int)+1)*a.2)/\a.2<=(jE (riT a u d) k).2/\a.1<=(jE (riT a u d) k).1:=by
 have a0:=h.a0;have al:=h.al;have a2:0<=a.2:=by omega
 induction k with
 | zero =>
  have w:=zMU h 0;refine⟨?_,Int.le_refl _,Int.le_refl _⟩
  show ((riT a u d 0).2-(riT a u d 0).1)*a.2<=(1+2*((0:Nat):Int))*((riT a u d 0).2+(((0:Nat):Int)+1)*a.2)
  have e:((0:Nat):Int)=0:=rfl;rw[e] at w ⊢;generalize ((riT a u d 0).2-(riT a u d 0).1)*a.2=z at *;omega
 | succ k ih =>
  obtain⟨i1,i3,i4⟩:=ih;have w:=zMU h (k+1);obtain⟨e1,e2⟩:=zBV h (k+1);have My:(jE (riT a u d) (k+1)).1=(jE (riT a u d) k).1+(riT a u d (k+1)).1:=rfl;have Mz:(jE (riT a u d) (k+1)).2=(jE (riT a u d) k).2+(riT a u d (k+1)).2:=rfl;have ec:((k+1:Nat):Int)=(k:Int)+1:=by omega
  refine⟨?_,by omega,by omega⟩
  rw[My,Mz];rw[ec] at w ⊢;generalize (jE (riT a u d) k).2=S2 at *;generalize (jE (riT a u d) k).1=S1 at *;generalize (riT a u d (k+1)).2=T2 at *;generalize (riT a u d (k+1)).1=T1 at *;generalize a.2=A at *;have k0:(0:Int)<=(k:Int):=by omega
  have m1:=Yb k0 a2;have r0:((k:Int)+1)*A=(k:Int)*A+A:=by grind
  have m2:(1+2*(k:Int))*(S2+((k:Int)+1)*A)<=(1+2*((k:Int)+1))*(S2+((k:Int)+1)*A):=XK (by omega) (by omega)
  have r1:(S2+T2-(S1+T1))*A=(S2-S1)*A+(T2-T1)*A:=by grind
  have r2:(1+2*((k:Int)+1))*(S2+T2+((k:Int)+1+1)*A)=(1+2*((k:Int)+1))*(S2+((k:Int)+1)*A)+(1+2*((k:Int)+1))*(T2+A):=by grind
  rw[r1,r2];omega
theorem se_ok {a:Int × Int} {u d:Nat->Int} (h:SeOk a u d) (N:Nat):a.1<=(zBD (riT a u d) N).1/\(zBD (riT a u d) N).1<=(zBD (riT a u d) N).2/\((zBD (riT a u d) N).2-(zBD (riT a u d) N).1)*a.2<=((1+2*(N:Int))*((N:Int)+2)+9)*(zBD (riT a u d) N).2:=by
 obtain⟨w1,w3,w4⟩:=zLU h N;have a0:=h.a0;have al:=h.al;have e1:(zBD (riT a u d) N).1=(jE (riT a u d) N).1+0:=rfl;have e2:(zBD (riT a u d) N).2=(jE (riT a u d) N).2+9:=rfl;have sl:(jE (riT a u d) N).1<=(jE (riT a u d) N).2:=zCW (λ k=>(zBV h k).2) N
 refine⟨by omega,by omega,?_⟩
 rw[e1,e2];generalize (jE (riT a u d) N).2=S2 at *;generalize (jE (riT a u d) N).1=S1 at *;generalize a.2=A at *
 have m1:(1+2*(N:Int))*(S2+((N:Int)+1)*A)<=(1+2*(N:Int))*(((N:Int)+2)*(S2+9)):=XR (by
  have a:=XR (show A<=S2+9 by omega) (show 0<=(N:Int)+1 by omega)
  have e:((N:Int)+2)*(S2+9)=((N:Int)+1)*(S2+9)+(S2+9):=by grind
  omega) (by omega)
 have r:(S2+9-(S1+0))*A=(S2-S1)*A+9*A:=by grind
 have r2:((1+2*(N:Int))*((N:Int)+2)+9)*(S2+9)=(1+2*(N:Int))*(((N:Int)+2)*(S2+9))+9*(S2+9):=by grind
 rw[r,r2];omega
theorem se_hi1 {a:Int × Int} {u d:Nat->Int} (h:SeOk a u d) {H c:Nat} (h0:a.2<=Q H) (hc:∀ k,u (k+1)<=Q c*d (k+1)) (k:Nat):(riT a u d k).2<=Q (H+c*k):=by
 induction k with
 | zero=>exact h0
 | succ k ih =>
  obtain⟨e1,e2⟩:=zBV h k;have m:=zI8 (x:=(riT a u d k).2) (u:=u (k+1)) (v:=d (k+1)) (c:=Q c) (h.ok.d0 (k+1)) (by omega) (hc k)
  have e:Q (H+c*(k+1))=Q c*Q (H+c*k):=by rw[<- jD];congr 1;rw[Nat.mul_succ];omega
  have m2:=XR ih (show 0<=Q c by have:=zG c;omega)
  show -(-((riT a u d k).2*u (k+1))/d (k+1))<=_
  omega
theorem se_hi {a:Int × Int} {u d:Nat->Int} (h:SeOk a u d) {H c turn:Nat} (h0:a.2<=Q H) (hH:2<=H) (hc:∀ k,u (k+1)<=Q c*d (k+1)) (jy:∀ k,turn<=k->4*u (k+1)<=3*d (k+1)) (k:Nat):(riT a u d k).2<=Q (H+c*turn):=by
 by_cases hk:k<=turn
 ·exact Int.le_trans (se_hi1 h h0 hc k) (zK (Nat.add_le_add_left (Nat.mul_le_mul_left c hk) H))
 ·obtain⟨j,rfl⟩:∃ j,k=turn+j:=⟨k-turn,by omega⟩
  have big:3<=Q (H+c*turn):=by have:=zK (show 2<=H+c*turn by omega);have:Q 2=4:=rfl;omega
  clear hk
  induction j with
  | zero=>exact se_hi1 h h0 hc _
  | succ j ih =>
   obtain⟨e1,e2⟩:=zBV h (turn+j);have f:=zQZ (x:=(riT a u d (turn+j)).2) (h.ok.d0 (turn+j+1)) (by omega) (jy (turn+j) (by omega))
   have e:(riT a u d (turn+(j+1))).2 = -(-((riT a u d (turn+j)).2*u (turn+j+1))/d (turn+j+1)):=rfl;rw[e];omega
theorem se_set {a:Int × Int} {u d:Nat->Int} (h:SeOk a u d) {H c turn:Nat} (h0:a.2<=Q H) (hH:2<=H) (hc:∀ k,u (k+1)<=Q c*d (k+1)) (jy:∀ k,turn<=k->4*u (k+1)<=3*d (k+1)):∃ N,N<=turn+3*(H+c*turn+1)/\zCC (riT a u d) turn N :=
 zRD h.ok (show 0<=a.1 by have:=h.a0;omega) h.al jy (by
  have a':=se_hi h h0 hH hc jy turn;have e:Q (H+c*turn+1)=2*Q (H+c*turn):=rfl;have:=zG (H+c*turn)
  omega)
theorem se_fit {a:Int × Int} {u d:Nat->Int} (h:SeOk a u d) {H c turn:Nat} (h0:a.2<=Q H) (hH:4<=H) (hc:∀ k,u (k+1)<=Q c*d (k+1)) (jy:∀ k,turn<=k->4*u (k+1)<=3*d (k+1)) (k:Nat) (hk:k<=1000000):(jE (riT a u d) k).2+9<=Q (H+c*turn+21):=by
 obtain⟨F,hF⟩:∃ F,F=H+c*turn:=⟨_,rfl⟩;have hi:∀ j,(riT a u d j).2<=Q F:=λ j=>by rw[hF];exact se_hi h h0 (by omega) hc jy j
 have s:∀ j:Nat,(jE (riT a u d) j).2<=((j:Int)+1)*Q F:=λ j=>by
  induction j with
  | zero =>
   have:=hi 0
   show (riT a u d 0).2<=(((0:Nat):Int)+1)*Q F
   have e:((0:Nat):Int)=0:=rfl;rw[e];omega
  | succ j ih =>
   have:=hi (j+1);have e:(jE (riT a u d) (j+1)).2=(jE (riT a u d) j).2+(riT a u d (j+1)).2:=rfl;have ec:((j+1:Nat):Int)+1=((j:Int)+1)+1:=by omega
   have r:(((j:Int)+1)+1)*Q F=((j:Int)+1)*Q F+Q F:=by grind
   rw[e,ec,r];omega
 have a':=s k;have q:=zG F;have big:9<=Q F:=by have:=zK (show 4<=F by omega);have:Q 4=16:=rfl;omega
 have m:=XK (show (k:Int)+1<=1000001 by omega) (show 0<=Q F by omega)
 have e:Q (F+21)=Q F*Q 21:=jD F 21;have vM:Q 21=2097152:=rfl;rw[vM] at e;rw[<- hF];omega
theorem zJQ {B:Nat} {d:Int × Int} {c:Int} (hd:d.1<=d.2) (hc:0<=c) (t:Nat) (hq:Q t*c<=Q B) (h:Q B-c<=d.1):Q B-Q t*c<=(sqI B d t).1/\(sqI B d t).1<=(sqI B d t).2:=by
 have q:=zG B
 induction t with
 | zero=>exact⟨by show Q B-1*c<=d.1;omega,hd⟩
 | succ t ih =>
  have e:Q (t+1)=2*Q t:=rfl;have qt:=zG t;have ec:Q (t+1)*c=2*(Q t*c):=by rw[e];grind
  have tc:=Yb (show 0<=Q t by omega) hc
  obtain⟨i1,i2⟩:=ih (by omega)
  refine⟨?_,yK B⟩
  show Q B-Q (t+1)*c<=(kJ B (sqI B d t) (sqI B d t)).1
  rw[ec];generalize sqI B d t=a at *;generalize Q t*c=y at *;obtain⟨_,_,_,_,hh⟩:=zC8 (a.1*a.1) (a.1*a.2) (a.2*a.1) (a.2*a.2);have c0:0<=a.1:=by omega
  have m1:=XR i2 c0;have m2:=XK i2 c0;have m3:=Int.mul_le_mul i2 i2 c0 (by omega)
  have m4:=Int.mul_le_mul i1 i1 (by omega) c0
  have e2:(Q B-y)*(Q B-y)=(Q B-2*y)*Q B+y*y:=by grind
  have m5:=Yb tc tc;have m6:(Q B-2*y)*Q B<=jB (pr4 (a.1*a.1) (a.1*a.2) (a.2*a.1) (a.2*a.2)) 3:=by omega
  exact Int.le_ediv_of_mul_le (by omega) m6
theorem sqs_rel2 {B:Nat} {d:Int × Int} {C c:Int} (hd:d.1<=d.2) (hc:0<=c) (hl:Q B-c<=d.1) (hC:0<=C) (h:(d.2-d.1)*Q B<=C*d.2) (i:Nat) (hi:2*(Q i*c)<=Q B) :
  ((sqI B d i).2-(sqI B d i).1)*Q B<=(Q i*(C+4)-4)*(sqI B d i).2:=by
 induction i with
 | zero =>
  show (d.2-d.1)*Q B<=(1*(C+4)-4)*d.2
  have:1*(C+4)-4=C:=by omega
  rw[this];exact h
 | succ i ih =>
  have es:Q (i+1)=2*Q i:=rfl;have q0:=zG i;have ec:Q (i+1)*c=2*(Q i*c):=by rw[es];grind
  have tc:=Yb (show 0<=Q i by omega) hc
  have i1:=ih (by omega)
  obtain⟨l1,l2⟩:=zJQ (B:=B) hd hc i (by omega) hl
  obtain⟨l3,l4⟩:=zJQ (B:=B) hd hc (i+1) (by omega) hl
  have m:=XK q0 (show 0<=C+4 by omega)
  have r:=sq_rel (B:=B) (a:=sqI B d i) (C:=Q i*(C+4)-4) (by omega) l2 (by omega) i1 (by
   have e:(kJ B (sqI B d i) (sqI B d i)).2=(sqI B d (i+1)).2:=rfl
   rw[e];omega)
  have ec:2*(Q i*(C+4)-4)+4=Q (i+1)*(C+4)-4:=by rw[es];grind
  rw[ec] at r;exact r
theorem zQN {B:Nat} {a:Int × Int} {x:Nat->Rat} (h:Iv B a x) (k:LeN (λ _=>1) x):Q B<=a.2:=by
 have q:=zY B;refine Int.not_lt.1 λ E4=>?_
 have d:(0:Rat)<1/(Q B:Rat):=zH (by grind) q
 obtain⟨e,he⟩:∃ e,e=1/(Q B:Rat)/4:=⟨_,rfl⟩;have e0:0<e:=by grind
 obtain⟨N1,k1⟩:=h e e0;obtain⟨N2,k2⟩:=k e e0;have a1:=(k1 (N1+N2) (by omega)).2
 have a2:=k2 (N1+N2) (by omega)
 simp only[] at a2;have c:=zX (show a.2+1<=Q B by omega)
 rw[Rat.intCast_add] at c;have c1:((1:Int):Rat)=1:=rfl;rw[c1] at c;have m:((a.2:Rat)+1)/(Q B:Rat)<=1:=zAJ q (by grind)
 rw[yO] at m;generalize 1/(Q B:Rat)=i at *;grind
theorem zRL {x:Nat->Rat} (hb:Bdd x) (h:LeN (λ _=>0) x):LeN (λ _=>1) (Ev x):=by
 obtain⟨z,hz,kz⟩:=h.null;obtain⟨v,hv,N,k⟩:=zBL (Bdd.const 0) hb hz 0 (λ M _=>kz M)
 refine LeN.of_null hv (N+1) λ M hM=>?_
 obtain⟨m,rfl⟩:∃ m,M=m+1:=⟨M-1,by omega⟩
 have e0:Ev (λ _=>(0:Rat)) (m+1)=1:=zAB m
 have:=k (m+1) (by omega)
 rw[e0] at this;exact this
structure zDE (L:Rat->Nat->Rat) (x:Rat) (B:Nat) (o:Int × Int):Prop where
 le:o.1<=o.2
 ab:Abs o (264*Q B)
 wd:o.2-o.1<=132*(2*(B:Int)+14)
 iv:Iv B o (L x)
theorem lwLog_of {L:Rat->Nat->Rat} (hL:Lns L) {n d:Int} {B:Nat} (hn:0<n) (hd:0<d) (hB:16<=B) {n' d' c:Int} {N N2:Nat} (h:Bal n d n' d' c) (c1 : -65<=c) (c2:c<=65) (hN:kG (lnT n' d' B) N) (ct:kG (lnT 2 1 B) N2):zDE L ((n:Rat)/(d:Rat)) B (zIN (zT (lnT n' d' B) N) (zT (lnT 2 1 B) N2) c):=by
 obtain⟨b1,b2,b3⟩:=zF3 (k:=c) h.1 hB hN ct 65 c1 c2;obtain⟨l,il,iv⟩:=zE9 hn hd h B N N2;have q:=zG B;refine⟨b1,b2.mono (by omega),by omega,?_⟩
 have nr:(0:Rat)<(n:Rat):=by exact_mod_cast hn
 have dr:(0:Rat)<(d:Rat):=by exact_mod_cast hd
 exact iv.congr ((hL _ (zH nr dr)).uniq il)
structure LgP2 (x:Nat->Rat) (B:Nat) (l u:Int):Prop where
 le:l<=u
 wd:u-l<=20000000*((B:Int)*(B:Int))+180000000
 ab:Abs (l,u) (120000*Q B)
 iv:Iv B (l,u) x
theorem lgam_ok2 {n d:Int} {g lp x l1 l2:Nat->Rat} {B:Nat} {a o1 o2 o:Int × Int} (h:StIn n d) (C4:40<=B) (hB:B<=1000) (ha:GaV g B a) (ls:LsIn a B o1 o2 l1 l2) (hp:IsLog lp (λ _=>(stP n d (stN n d):Rat)/(stQ d (stN n d):Rat))) (io:Iv B o lp) (k1:LbOk B o1) (k2:LbOk B o2) (k3:LbOk B o) (hx:IsLog x (gmV n d g)) (Bv:∃ c:Rat,0<c/\∃ N:Nat,∀ M,N<=M->c<=g M) {L:Rat->Nat->Rat} (hL:Lns L):LgP2 x B (o1.1+o.1) (o2.2+o.2):=by
 have pr:=lgam_ok h C4 hB ha ls hp io k1 k2 k3 hx Bv hL;have q:=zG B;have big:=zO6 C4 hB;have BB:=Yb (show (0:Int)<=(B:Int) by omega) (show (0:Int)<=(B:Int) by omega)
 have a0:0<a.1:=by have:=ha.lo;omega
 have al:=ha.le
 have twice:a.2<=2*a.1:=by
  have m:=XK big (show 0<=a.2 by omega)
  have r:=ha.rel
  have s:16*(a.2-a.1)<=a.2:=by
   refine Int.le_of_mul_le_mul_right (a:=Q B) ?_ (by omega)
   have r1:16*(a.2-a.1)*Q B=16*((a.2-a.1)*Q B):=by grind
   have r2:16*(10000000*((B:Int)*(B:Int)))*a.2=16*(10000000*((B:Int)*(B:Int))*a.2):=by grind
   have r3:Q B*a.2=a.2*Q B:=Int.mul_comm _ _;omega
  omega
 have w:=zPU ls (C:=20000000*((B:Int)*(B:Int))) (by
  have m1:=XR twice (show 0<=10000000*((B:Int)*(B:Int)) by omega)
  have r:=ha.rel;have r2:10000000*((B:Int)*(B:Int))*(2*a.1)=20000000*((B:Int)*(B:Int))*a.1:=by grind
  omega)
 have w1:=k1.wd;have w2:=k2.wd;have w3:=k3.wd;obtain⟨x1,x2,x3,x4⟩:=k1.ab;obtain⟨y1,y2,y3,y4⟩:=k2.ab;obtain⟨z1,z2,z3,z4⟩:=k3.ab;exact⟨pr.le,by omega,⟨by show _<=o1.1+o.1;omega,by show o1.1+o.1<=_;omega,by show _<=o2.2+o.2;omega,by show o2.2+o.2<=_;omega⟩,pr.iv⟩
theorem zH3 {a b c d:Int} (h1:a<=b) (h2:c<=d) (h3:0<=c) (h4:0<=b):a*c<=b*d:=Int.mul_le_mul h1 h2 h3 h4
def luHi (s e:Int × Int) (B:Nat):Int:=if zFL s.1 s.2 e.1 e.2 B<=Q B then zFL s.1 s.2 e.1 e.2 B else Q B
structure LwPr (x:Nat->Rat) (B:Nat) (l u:Int):Prop where
 lo:0<=l
 le:l<=u
 hi:u<=Q B
 wd:u-l<=Q 89
 iv:Iv B (l,u) x
theorem zOJ {B:Nat} {a:Int × Int} {x:Nat->Rat} (h:Iv B a x) (k:LeN x (λ _=>1)):a.1<=Q B:=zLL h k (LeN.of_le 0 λ M _=>by
 have q:=zY B;have:(Q B:Rat)/(Q B:Rat)=1:=by rw[Yg,Rat.mul_inv_cancel _ (by grind)]
 rw[this];exact Rat.le_refl)
theorem Iv.capL {B:Nat} {a:Int × Int} {x:Nat->Rat} (h:Iv B a x) (k:LeN x (λ _=>1)):Iv B (a.1,if a.2<=Q B then a.2 else Q B) x:=by
 split
 ·exact h
 ·intro e he
  obtain⟨N,hN⟩:=h e he;obtain⟨N0,hx⟩:=k e he;refine⟨N+N0,λ M hM=>?_⟩
  have g:=(hN M (by omega)).1
  have g2:=hx M (by omega)
  have q:=zY B;have e1:(Q B:Rat)/(Q B:Rat)=1:=by rw[Yg,Rat.mul_inv_cancel _ (by grind)]
  simp only[];rw[e1];constructor<;>grind
theorem part_ok {B:Nat} {s e:Int × Int} {x:Nat->Rat} {C D:Int} (hB:40<=B) (s0:0<=s.1) (sl:s.1<=s.2) (e0:0<e.1) (el:e.1<=e.2) (hC:0<=C) (hD:0<=D) (CA:C<=100000000000) (j9:D<=1000000000000000) (VP:D<=Q B) (hs:(s.2-s.1)*Q B<=C*s.2) (he:(e.2-e.1)*Q B<=D*e.2) (iv:Iv B (zEZ s.1 s.2 e.1 e.2 B,zFL s.1 s.2 e.1 e.2 B) x) (h1:LeN x (λ _=>1)):LwPr x B (zEZ s.1 s.2 e.1 e.2 B) (luHi s e B):=by
 have q:=zG B;have TR:=zK hB;have DM:Q 40=1099511627776:=rfl;obtain⟨d1,d2⟩:=zRB (b:=B) s0 sl e0 el;have cap:=iv.capL h1;have le:=cap.le;have l1:=zOJ iv h1;have l0:0<=zEZ s.1 s.2 e.1 e.2 B:=by rw[d1];exact Int.ediv_nonneg (Yb s0 (by omega)) (by omega)
 have hi:luHi s e B<=Q B:=by unfold luHi;split<;>omega
 refine⟨l0,le,hi,?_,cap⟩
 by_cases c:B<=89
 ·have:=zK c
  omega
 ·have r:=dv_rel (q:=Q B) (C:=C) (D:=D) (by omega) s0 hC hD (by omega) VP e0 el hs sl he d1 d2
  have hh:luHi s e B<=zFL s.1 s.2 e.1 e.2 B:=by unfold luHi;split<;>omega
  simp only[] at l1 le;generalize zEZ s.1 s.2 e.1 e.2 B=lo at *;generalize zFL s.1 s.2 e.1 e.2 B=up at *;have q90:=zK (show 60<=B by omega)
  have e60:Q 60=1152921504606846976:=rfl;have e89:Q 89=618970019642690137449562112:=by decide +kernel
  by_cases u0:up<=0
  ·omega
  ·have m:=XK (show 2*(C+D)<=Q B by omega) (show 0<=up by omega)
   have r1:(up-lo)*Q B=up*Q B-lo*Q B:=by grind
   have r2:2*(C+D)*up=2*((C+D)*up):=by grind
   have r3:Q B*up=up*Q B:=Int.mul_comm _ _
   have k1:up<=2*lo+4:=by
    refine Int.le_of_mul_le_mul_right (a:=Q B) ?_ (by omega)
    have r4:(2*lo+4)*Q B=2*(lo*Q B)+4*Q B:=by grind
    omega
   have k2:=XR (show up<=3*Q B by omega) (show 0<=C+D by omega)
   have k3:up-lo<=3*(C+D)+2:=by
    refine Int.le_of_mul_le_mul_right (a:=Q B) ?_ (by omega)
    have r4:(3*(C+D)+2)*Q B=(C+D)*(3*Q B)+2*Q B:=by grind
    omega
   omega
theorem rd_pos {p q:Int} (hp:0<p) (hq:0<q) (n:Nat):0<p+(n:Int)*q:=by
 have:=Yb (show (0:Int)<=(n:Int) by omega) (show 0<=q by omega)
 omega
def zpT (r s x:Int) (B m:Nat):Nat->Int × Int
 | 0=>(Q m,Q m)
 | n+1=>byI (zE (zpT r s x B m n) x (Q B)) (((n:Int)+1)*s-r) (((n:Int)+1)*s)
def ztT (p q r s x:Int) (B m n:Nat):Int × Int:=byI (zpT r s x B m n) q (p+(n:Int)*q)
def zsT (p q r s x:Int) (B m:Nat):Nat->Int × Int
 | 0=>ofI q p m
 | n+1=>jJ (zsT p q r s x B m n) (ztT p q r s x B m (n+1))
structure LpIn (p q r s x:Int) (B m K:Nat):Prop where
 p0:0<p
 q0:0<q
 pq:p<=100*q
 qq:q<=1024
 r0:0<r
 s0:0<s
 rs:r<=100*s
 ss:s<=1024
 x0:0<x
 x2:2*x<=Q B
 ek:r/s=(K:Int)
 em:2*(B:Int)+6*(p/q+r/s)+200=(m:Int)
 b0:40<=B
 b1:B<=200
theorem LpIn.k {p q r s x:Int} {B m K:Nat} (h:LpIn p q r s x B m K):K<=100/\r<((K:Int)+1)*s/\280+6*K<=m/\m<=1800:=by
 have s0:=h.s0;have f:=kV r s0;rw[h.ek] at f;have e1:r/s<=100:=Int.ediv_le_of_le_mul s0 h.rs;have e2:p/q<=100:=Int.ediv_le_of_le_mul h.q0 h.pq;have e3:0<=p/q:=Int.ediv_nonneg (Int.le_of_lt h.p0) (Int.le_of_lt h.q0);have ek:=h.ek;have em:=h.em;have b0:=h.b0;have b1:=h.b1;exact⟨by omega,f,by omega,by omega⟩
theorem zMT {s:Int} (hs:0<s) (n:Nat):0<((n:Int)+1)*s:=Int.mul_pos (by omega) hs
theorem zJL {p q r s x:Int} {B m K:Nat} (h:LpIn p q r s x B m K) (n:Nat):Iv m (zpT r s x B m n) (λ _=>cP ((r:Rat)/(s:Rat)) n*pw ((x:Rat)/(Q B:Rat)) n):=by
 have qB:=zG B;have sr:(0:Rat)<(s:Rat):=by exact_mod_cast h.s0
 induction n with
 | zero=>exact Has.of_eq (zMZ m) λ M=>by show (1:Rat)*1=1;grind
 | succ n ih =>
  have i:=(ih.scale (n:=x) (d:=Q B) (Int.le_of_lt h.x0) (by omega)).by_ (((n:Int)+1)*s-r) (zMT h.s0 n)
  refine Has.of_eq i λ M=>?_
  have c:=zLD ((r:Rat)/(s:Rat)) n;have p1:=zBE n;have es:=rdm (a:=(r:Rat)) sr;have dp:(0:Rat)<(((((n:Int)+1)*s:Int)):Rat):=by exact_mod_cast zMT h.s0 n
  have e1:((((n:Int)+1)*s:Int):Rat)=((n:Rat)+1)*(s:Rat):=by rw[Ye,Rat.intCast_add];rfl
  have e2:((((n:Int)+1)*s-r:Int):Rat)=((n:Rat)+1-(r:Rat)/(s:Rat))*(s:Rat):=by
   rw[Rat.intCast_sub,e1];have:((n:Rat)+1-(r:Rat)/(s:Rat))*(s:Rat)=((n:Rat)+1)*(s:Rat)-(r:Rat)/(s:Rat)*(s:Rat):=by grind
   rw[this,es]
  have ed:=rdm (a:=((((n:Int)+1)*s-r:Int):Rat)) dp;rw[e1] at dp;have e3:pw ((x:Rat)/(Q B:Rat)) (n+1)=(x:Rat)/(Q B:Rat)*pw ((x:Rat)/(Q B:Rat)) n:=rfl;rw[e3];generalize ((((n:Int)+1)*s-r:Int):Rat)/(((((n:Int)+1)*s:Int)):Rat)=t at *;rw[e1,e2] at ed;refine zS (c:=((n:Rat)+1)*(s:Rat)) dp ?_;generalize (r:Rat)/(s:Rat)=b at *;generalize (x:Rat)/(Q B:Rat)=X at *;generalize cP b (n+1)=c1 at *;generalize cP b n=c0 at *;generalize pw X n=y at *;have r1:((n:Rat)+1)*(s:Rat)*(c1*(X*y))=((n:Rat)+1)*c1*((s:Rat)*(X*y)):=by grind
  have r2:((n:Rat)+1)*(s:Rat)*(t*(X*(c0*y)))=t*(((n:Rat)+1)*(s:Rat))*(X*(c0*y)):=by grind
  rw[r1,r2,c,ed];grind
theorem zQK {p q r s x:Int} {B m K:Nat} (h:LpIn p q r s x B m K) (n:Nat):(zpT r s x B m n).1<=(zpT r s x B m n).2:=(zJL h n).le
theorem ztT_has {p q r s x:Int} {B m K:Nat} (h:LpIn p q r s x B m K) (n:Nat):Iv m (ztT p q r s x B m n) (λ _=>cS ((p:Rat)/(q:Rat)) ((r:Rat)/(s:Rat)) n*pw ((x:Rat)/(Q B:Rat)) n):=by
 have d:=rd_pos h.p0 h.q0 n;have i:=(zJL h n).by_ q d;refine Has.of_eq i λ M=>?_
 have qr:(0:Rat)<(q:Rat):=by exact_mod_cast h.q0
 have pr:(0:Rat)<(p:Rat):=by exact_mod_cast h.p0
 have a0:=zH pr qr;have ap:=Ex.an_pos a0 n;have dp:(0:Rat)<((p+(n:Int)*q:Int):Rat):=by exact_mod_cast d
 have ea:=rdm (a:=(p:Rat)) qr
 have ed:((p+(n:Int)*q:Int):Rat)=((p:Rat)/(q:Rat)+(n:Rat))*(q:Rat):=by
  rw[Rat.intCast_add,Ye];have:(((n:Nat):Int):Rat)=(n:Rat):=rfl;rw[this];have:((p:Rat)/(q:Rat)+(n:Rat))*(q:Rat)=(p:Rat)/(q:Rat)*(q:Rat)+(n:Rat)*(q:Rat):=by grind
  rw[this,ea]
 have v:=zGS a0 ((r:Rat)/(s:Rat)) n;have e:=rdm (a:=(q:Rat)) dp;rw[ed] at e ⊢;generalize (p:Rat)/(q:Rat)=a at *;generalize (r:Rat)/(s:Rat)=b at *;generalize pw ((x:Rat)/(Q B:Rat)) n=y at *;generalize (q:Rat)/((a+(n:Rat))*(q:Rat))=t at *;refine zS (c:=(a+(n:Rat))*(q:Rat)) (Rat.mul_pos ap qr) ?_;have r1:(a+(n:Rat))*(q:Rat)*(cS a b n*y)=(a+(n:Rat))*cS a b n*((q:Rat)*y):=by grind
 have r2:(a+(n:Rat))*(q:Rat)*(t*(cP b n*y))=t*((a+(n:Rat))*(q:Rat))*(cP b n*y):=by grind
 rw[r1,r2,v,e];grind
theorem zOG {p q r s x:Int} {B m K:Nat} (h:LpIn p q r s x B m K) (n:Nat):Iv m (zsT p q r s x B m n) (λ _=>psS (cS ((p:Rat)/(q:Rat)) ((r:Rat)/(s:Rat))) ((x:Rat)/(Q B:Rat)) (n+1)):=by
 have qr:(0:Rat)<(q:Rat):=by exact_mod_cast h.q0
 have pr:(0:Rat)<(p:Rat):=by exact_mod_cast h.p0
 have a0:=zH pr qr
 induction n with
 | zero =>
  refine Has.of_eq (Iv.of m (n:=q) (d:=p) h.p0) λ M=>?_
  show 0+cS ((p:Rat)/(q:Rat)) ((r:Rat)/(s:Rat)) 0*1=_
  have v:=zGS a0 ((r:Rat)/(s:Rat)) 0;have c:((0:Nat):Rat)=0:=rfl;have c0:cP ((r:Rat)/(s:Rat)) 0=1:=rfl;rw[c,c0] at v;have ea:=rdm (a:=(p:Rat)) qr;have eb:=rdm (a:=(q:Rat)) pr;generalize cS ((p:Rat)/(q:Rat)) ((r:Rat)/(s:Rat)) 0=u at *;generalize (p:Rat)/(q:Rat)=a at *;generalize (q:Rat)/(p:Rat)=b at *;refine zS a0 ?_
  have e1:a*b=1:=by
   refine zS (c:=(p:Rat)) pr ?_;have:(p:Rat)*(a*b)=a*(b*(p:Rat)):=by grind
   rw[this,eb,ea];grind
  rw[e1];grind
 | succ n ih=>exact Has.of_eq (ih.add (ztT_has h (n+1))) λ M=>rfl
theorem zQG {x:Int} {B:Nat} {a:Int × Int} {e:Nat} (x0:0<x) (x2:2*x<=Q B) (h:Abs a (Q e)):Abs (zE a x (Q B)) (Q (e-1)):=by
 have qB:=zG B;have qe:=zG e;have q1:=zG (e-1)
 have k:Q e<=2*Q (e-1):=by
  by_cases c:e=0
  ·subst c;have:Q 0=1:=rfl;omega
  ·have:e=(e-1)+1:=by omega
   have e2:Q e=2*Q (e-1):=by rw[this];rfl
   omega
 obtain⟨h1,h2,h3,h4⟩:=h;have m1:=XR x2 (show 0<=Q (e-1) by omega)
 have m2:=XK k (show 0<=x by omega)
 have r1:Q (e-1)*(2*x)=2*Q (e-1)*x:=by grind
 have le:Q e*x<=Q (e-1)*Q B:=by omega
 have t1:=yJ (x:=a.1) (y:=x) (m:=Q e) (n:=x) h1 h2 (by omega) (Int.le_refl _)
 have t2:=yJ (x:=a.2) (y:=x) (m:=Q e) (n:=x) h3 h4 (by omega) (Int.le_refl _)
 have a1:=jA (x:=a.1*x) (m:=Q (e-1)) (q:=Q B) (by omega) (by omega) (by omega)
 have a2:=jA (x:=a.2*x) (m:=Q (e-1)) (q:=Q B) (by omega) (by omega) (by omega)
 exact⟨a1.1,a1.2.1,a2.2.2.1,a2.2.2.2⟩
theorem lp_low {p q r s x:Int} {B m K:Nat} (h:LpIn p q r s x B m K) (n:Nat):Abs (zpT r s x B m n) (Q (m+6*n)):=by
 have s0:=h.s0;have r0:=h.r0;have rs:=h.rs
 induction n with
 | zero=>have:=zG m;exact⟨by show -Q m<=Q m;omega,Int.le_refl _,by show -Q m<=Q m;omega,Int.le_refl _⟩
 | succ n ih =>
  have hf:=zQG h.x0 h.x2 ih;have d:=zMT s0 n;have sn:=XK (show (1:Int)<=(n:Int)+1 by omega) (show 0<=s by omega)
  refine zDG (c:=101*(((n:Int)+1)*s)) hf d (by omega) (by omega) ?_
  have q:=zG (m+6*n-1)
  have e:Q (m+6*(n+1))=Q 7*Q (m+6*n-1):=by
   rw[<- jD];congr 1;have:=h.k.2.2.1;omega
  have e7:Q 7=128:=rfl;rw[e,e7];have m1:=Yb (show 0<=Q (m+6*n-1) by omega) (show 0<=((n:Int)+1)*s by omega)
  generalize Q (m+6*n-1)=u at *;generalize ((n:Int)+1)*s=v at *;have r1:u*(101*v)=101*(u*v):=by grind
  have r2:128*u*v=128*(u*v):=by grind
  omega
theorem zP9 {p q r s x:Int} {B m K:Nat} (h:LpIn p q r s x B m K) (j:Nat):Abs (zpT r s x B m (K+j)) (Q (m+6*K-j)):=by
 have s0:=h.s0;have r0:=h.r0;have kk:=h.k.2.1
 induction j with
 | zero=>exact lp_low h K
 | succ j ih =>
  have hf:=zQG h.x0 h.x2 ih;have d:=zMT s0 (K+j);have m1:=XK (show (K:Int)+1<=((K+j:Nat):Int)+1 by omega) (show 0<=s by omega)
  have e:m+6*K-(j+1)=m+6*K-j-1:=by omega
  rw[e]
  show Abs (byI (zE (zpT r s x B m (K+j)) x (Q B)) ((((K+j:Nat):Int)+1)*s-r) ((((K+j:Nat):Int)+1)*s)) _
  exact zDG (c:=(((K+j:Nat):Int)+1)*s) hf d (by omega) (by omega) (Int.le_refl _)
theorem lp_abs {p q r s x:Int} {B m K:Nat} (h:LpIn p q r s x B m K) (n:Nat):Abs (zpT r s x B m n) (Q (m+6*K)):=by
 by_cases c:n<=K
 ·exact (lp_low h n).mono (zK (by omega))
 ·obtain⟨j,rfl⟩:∃ j,n=K+j:=⟨n-K,by omega⟩
  exact (zP9 h j).mono (zK (by omega))
def zLY (r s x:Int) (B m K N:Nat):Prop:=2*(K+2)<N/\zP (zpT r s x B m N)<=1/\∀ n,2*(K+2)<n->n<N->1<zP (zpT r s x B m n)
theorem lp_ends {p q r s x:Int} {B m K:Nat} (h:LpIn p q r s x B m K):∃ N,zLY r s x B m K N/\N<4*m+8*(K+2)/\N<=3000:=by
 obtain⟨k1,k2,k3,k4⟩:=h.k
 have last:zP (zpT r s x B m (K+(m+6*K+(2*(K+2)+1))))<=1:=by
  have a:=zAE (zP9 h (m+6*K+(2*(K+2)+1)));have e:m+6*K-(m+6*K+(2*(K+2)+1))=0:=by omega
  rw[e] at a;exact a
 obtain⟨N,n1,n2,n3⟩:=zAW (p:=λ k=>2*(K+2)<k/\zP (zpT r s x B m k)<=1) (K:=K+(m+6*K+(2*(K+2)+1))) ⟨by omega,last⟩
 refine⟨N,⟨n2.1,n2.2,λ n hn hN=>?_⟩,by omega,by omega⟩
 have:=n3 n hN;exact Int.not_le.1 λ c=>this ⟨hn,c⟩
theorem zt_abs {p q r s x:Int} {B m K:Nat} (h:LpIn p q r s x B m K) (n:Nat) (hn:1<=n):Abs (ztT p q r s x B m n) (Q (m+6*K)):=by
 have q0:=h.q0;have p0:=h.p0;have m1:=XK (show (1:Int)<=(n:Int) by omega) (show 0<=q by omega)
 have qq:=zG (m+6*K);exact zDG (c:=q) (lp_abs h n) (rd_pos p0 q0 n) (by omega) (Int.le_refl _) (XR (by omega) (by omega))
theorem zs_abs {p q r s x:Int} {B m K:Nat} (h:LpIn p q r s x B m K) (n:Nat):Abs (zsT p q r s x B m n) (((n:Int)+1)*Q (m+6*K+10)):=by
 have q0:=h.q0;have p0:=h.p0;have qq:=h.qq;have qp:=zG (m+6*K+10)
 induction n with
 | zero =>
  have e:(((0:Nat):Int)+1)*Q (m+6*K+10)=Q (m+6*K+10):=by omega
  rw[e];have qm:=zG m;have e2:Q (m+10)=Q m*Q 10:=jD m 10;have VO:Q 10=1024:=rfl;rw[VO] at e2;refine (zOS (m:=Q (m+10)) p0 m ?_ ?_).mono (zK (by omega))
  ·have:=Yb (show 0<=q by omega) (show 0<=Q m by omega)
   have:=Yb (show 0<=Q (m+10) by have:=zG (m+10);omega) (show 0<=p by omega)
   omega
  ·have m1:=XK qq (show 0<=Q m by omega)
   have m2:=XR (show 1<=p by omega) (show 0<=Q (m+10) by have:=zG (m+10);omega)
   omega
 | succ n ih =>
  obtain⟨a1,a2,a3,a4⟩:=ih;obtain⟨b1,b2,b3,b4⟩:=(zt_abs h (n+1) (by omega)).mono (zK (show m+6*K<=m+6*K+10 by omega))
  have e:(((n+1:Nat):Int)+1)*Q (m+6*K+10)=((n:Int)+1)*Q (m+6*K+10)+Q (m+6*K+10):=by push_cast;grind
  rw[e];exact⟨by show _<=(zsT p q r s x B m n).1+(ztT p q r s x B m (n+1)).1;omega,by show (zsT p q r s x B m n).1+(ztT p q r s x B m (n+1)).1<=_;omega,by show _<=(zsT p q r s x B m n).2+(ztT p q r s x B m (n+1)).2;omega,by show (zsT p q r s x B m n).2+(ztT p q r s x B m (n+1)).2<=_;omega⟩
theorem lp_has {p q r s x:Int} {B m K N:Nat} (h:LpIn p q r s x B m K) (hN:zLY r s x B m K N):Iv m (jJ (zsT p q r s x B m N) (-4,4)) (psS (cS ((p:Rat)/(q:Rat)) ((r:Rat)/(s:Rat))) ((x:Rat)/(Q B:Rat))):=by
 have qr:(0:Rat)<(q:Rat):=by exact_mod_cast h.q0
 have pr:(0:Rat)<(p:Rat):=by exact_mod_cast h.p0
 have rr:(0:Rat)<(r:Rat):=by exact_mod_cast h.r0
 have sr:(0:Rat)<(s:Rat):=by exact_mod_cast h.s0
 have xr:(0:Rat)<(x:Rat):=by exact_mod_cast h.x0
 have a0:=zH pr qr;have qm:=zY m;have qB:=zY B;have X0:=zH xr qB
 have X2:(x:Rat)/(Q B:Rat)<=1/2:=jZ qB (by
  have c:=zX h.x2;rw[Ye] at c;have:((2:Int):Rat)=2:=rfl;rw[this] at c
  grind)
 have hs:=zOG h N;have hp:=Has.of_constL (zJL h N);have rc:=zCU (zQK h N);obtain⟨c1,c2,c3,c4⟩:=rc;have h1:=hN.2.1
 have l1 : -(((1:Int):Rat)/(Q m:Rat))<=((zpT r s x B m N).1:Rat)/(Q m:Rat):=by
  refine jQ qm ?_;have r1:=rdm (a:=((1:Int):Rat)) qm;have c:=zX (show -1<=(zpT r s x B m N).1 by omega)
  have:((-1:Int):Rat) = -((1:Int):Rat):=rfl;rw[this] at c;grind
 have l2:((zpT r s x B m N).2:Rat)/(Q m:Rat)<=((1:Int):Rat)/(Q m:Rat):=jZ qm (by rw[rdm qm];exact zX (show (zpT r s x B m N).2<=1 by omega))
 obtain⟨u,hu⟩:∃ u,u=((1:Int):Rat)/(Q m:Rat):=⟨_,rfl⟩;have u0:0<u:=by rw[hu];exact zH (by decide +kernel) qm
 rw[<- hu] at l1 l2
 have Nb:(r:Rat)/(s:Rat)<=(N:Rat):=by
  refine jZ sr ?_;have k:=h.k.2.1;have n1:=hN.1;have m1:=XK (show (K:Int)+1<=(N:Int) by omega) (Int.le_of_lt h.s0)
  have c:=zX (show r<=(N:Int)*s by omega)
  rw[Ye] at c;exact c
 have b0:=zH rr sr;obtain⟨a,ea⟩:∃ a,a=(p:Rat)/(q:Rat):=⟨_,rfl⟩;obtain⟨b,eb⟩:∃ b,b=(r:Rat)/(s:Rat):=⟨_,rfl⟩;obtain⟨X,eX⟩:∃ X,X=(x:Rat)/(Q B:Rat):=⟨_,rfl⟩;rw[<- ea] at a0 hs ⊢;rw[<- eb] at hs hp Nb b0 ⊢;rw[<- eX] at hs hp X0 X2 ⊢
 have g0:AB (cS a b N*pw X N) u:=by
  have p1:=Ex.an_pos a0 N;have N1:(1:Rat)<=(N:Rat):=by exact_mod_cast (show 1<=N by have:=hN.1;omega)
  have v:=zGS a0 b N;have hc:AB (cP b N*pw X N) u:=⟨by grind,by grind⟩
  have e:(a+(N:Rat))*(cS a b N*pw X N)=cP b N*pw X N:=by
   have:(a+(N:Rat))*(cS a b N*pw X N)=(a+(N:Rat))*cS a b N*pw X N:=by grind
   rw[this,v]
  generalize cS a b N*pw X N=y at *;rw[<- e] at hc;have big:1<=a+(N:Rat):=by grind
  obtain⟨k1,k2⟩:=hc;have m:=Yc big (XV u0);exact⟨Rat.le_of_mul_le_mul_left (c:=a+(N:Rat)) (by grind) p1,Rat.le_of_mul_le_mul_left (c:=a+(N:Rat)) (by grind) p1⟩
 have half:∀ n c,N<=n->AB (cS a b n*pw X n) c->AB (cS a b (n+1)*pw X (n+1)) (c/2):=λ n c hn hc=>by
  have c0:=hc.nonneg;have p1:=Ex.an_pos a0 n;have p2:=Ex.an_pos a0 (n+1);have q1:=zBE n;have nn:(N:Rat)<=(n:Rat):=by exact_mod_cast hn
  have v1:=zGS a0 b n;have v2:=zGS a0 b (n+1);have v3:=zLD b n;have ec:((n+1:Nat):Rat)=(n:Rat)+1:=by push_cast;rfl
  rw[ec] at v2 p2
  have key:((n:Rat)+1)*(a+((n:Rat)+1))*(cS a b (n+1)*pw X (n+1))=((n:Rat)+1-b)*(a+(n:Rat))*X*(cS a b n*pw X n):=by
   have e3:pw X (n+1)=X*pw X n:=rfl;rw[e3];have r1:((n:Rat)+1)*(a+((n:Rat)+1))*(cS a b (n+1)*(X*pw X n))=((n:Rat)+1)*((a+((n:Rat)+1))*cS a b (n+1))*(X*pw X n):=by grind
   rw[r1,v2,v3,<- v1];grind
  have f:AB (((n:Rat)+1-b)*(a+(n:Rat))*X) (((n:Rat)+1)*(a+((n:Rat)+1))*(1/2)):=by
   refine AB.mul (AB.mul ?_ ?_) ?_
   ·exact⟨by grind,by grind⟩
   ·exact⟨by grind,by grind⟩
   ·exact⟨by grind,X2⟩
  have t:=f.mul hc;rw[<- key] at t;generalize cS a b (n+1)*pw X (n+1)=g at *;have w0:=Rat.mul_pos q1 p2;have e5:((n:Rat)+1)*(a+((n:Rat)+1))*(1/2)*c=((n:Rat)+1)*(a+((n:Rat)+1))*(c/2):=by grind
  rw[e5] at t;generalize ((n:Rat)+1)*(a+((n:Rat)+1))=W at *;exact⟨Rat.le_of_mul_le_mul_left (c:=W) (by have:=t.1;grind) w0,Rat.le_of_mul_le_mul_left (c:=W) t.2 w0⟩
 intro e he
 obtain⟨N1,k1⟩:=hs e he;refine⟨N1+N+1,λ M hM=>?_⟩
 obtain⟨a1,a2⟩:=k1 M (by omega)
 obtain⟨r1,r2⟩:=(S_rest (g:=λ k=>cS a b k*pw X k) g0 half (M-(N+1))).2
 rw[show N+1+(M-(N+1))=M by omega] at r1 r2
 have uq:=Rat.mul_pos u0 (yR (M-(N+1)))
 have e1:(((jJ (zsT p q r s x B m N) (-4,4)).1:Int):Rat)/(Q m:Rat)=((zsT p q r s x B m N).1:Rat)/(Q m:Rat)-4*u:=by
  show (((zsT p q r s x B m N).1 + -4:Int):Rat)/(Q m:Rat)=_
  rw[Rat.intCast_add,yO,hu]
  have:((-4:Int):Rat)/(Q m:Rat) = -(4*(((1:Int):Rat)/(Q m:Rat))):=by
   rw[Yg,Yg];have e9:((-4:Int):Rat) = -4:=rfl;have e8:((1:Int):Rat)=1:=rfl;rw[e9,e8];grind
  rw[this];grind
 have e2:(((jJ (zsT p q r s x B m N) (-4,4)).2:Int):Rat)/(Q m:Rat)=((zsT p q r s x B m N).2:Rat)/(Q m:Rat)+4*u:=by
  show (((zsT p q r s x B m N).2+4:Int):Rat)/(Q m:Rat)=_
  rw[Rat.intCast_add,yO,hu]
  congr 1
  rw[Yg,Yg];have e9:((4:Int):Rat)=4:=rfl;have e8:((1:Int):Rat)=1:=rfl;rw[e9,e8];grind
 rw[e1,e2];have WH:psS (cS a b) X M=S (λ k=>cS a b k*pw X k) M:=rfl
 have WI:psS (cS a b) X (N+1)=S (λ k=>cS a b k*pw X k) (N+1):=rfl
 rw[WI] at a1 a2;rw[WH];generalize S (λ k=>cS a b k*pw X k) M=y1 at *
 generalize S (λ k=>cS a b k*pw X k) (N+1)=y2 at *
 generalize ((zsT p q r s x B m N).1:Rat)/(Q m:Rat)=z1 at *;generalize ((zsT p q r s x B m N).2:Rat)/(Q m:Rat)=z2 at *;clear hs hp half g0 k1 WH WI e1 e2;have e6:u*(1-q2 (M-(N+1)))=u-u*q2 (M-(N+1)):=by grind
 rw[e6] at r1 r2;constructor<;>grind
namespace Ex
theorem bv_ref {L:Rat->Nat->Rat} (hL:Lns L) {a b x:Rat} {X:Nat->Rat} (ha:0<a) (hb:0<b) (hx:0<x) (h1:x<1) (hX:IsLog X (bJ L a b)):Null (λ M=>bv L a b x M-Ev (λ M=>a*L x M-X M) M*psS (cS a b) x M):=by
 obtain⟨i1,i2,N,i3⟩:=zC9 (zEN hL ha hb);have bA:=kD hL hx a;have bY:Bdd (λ M=>a*L x M-X M):=bA.sub hX.1
 have Nr:=cS_Bdd ha hb (XV hx) h1;have n0:=(bH_ref hL ha hb hx h1).bmul i1;have n1:=((yZ bY hX.1).bmul Nr).bmul i1;have n2:=((hX.2.bmul (zA4 bY)).bmul Nr).bmul i1;refine ((n0.sub n1).add n2).of_eq_from N λ M hM=>?_
 obtain⟨e1,e2,e3⟩:=i3 M hM
 have eY:Ev (λ M=>a*L x M-X M+X M) M=pr L a x M:=by
  unfold pr
  congr 1
  funext M
  grind
 rw[eY];unfold bv;generalize Ev (λ M=>a*L x M-X M) M=y at *
 generalize pr L a x M=p at *;generalize Ev X M=xx at *;generalize psS (cS a b) x M=s at *;generalize bH L a b x M=hh at *;generalize 1/bJ L a b M=j at *;generalize bJ L a b M=gg at *;clear n0 n1 n2 i1 i2 i3 hX bA bY Nr eY;have r1:y*gg*s*j=y*s*(gg*j):=by grind
 rw[e1] at r1;grind
end Ex
end Go.Proofs.YtgmnknmjainababGreat
