/-
  Its own texts.
-/
import Derived.Test.YtgmnknmjainabacGreatJ20
set_option maxRecDepth 100000
set_option maxHeartbeats 40000000
set_option linter.unnecessarySimpa false
set_option linter.unusedSimpArgs false
set_option linter.unusedVariables false
namespace Go.Proofs.YtgmnknmjainabacGreat
open Go.RowKit
attribute [local go_sem ↓] Go.wp_at_zero Go.wp_at_succ
open Ex
theorem zM8 (L:Rat->Nat->Rat) (hL:Lns L) (w:World) (x y:Nm) (p q n d:Int) (b:Nat) (g X:Nat->Rat) (hx:IntAt w x.neg x.a x.n x.cap 4 n) (hy:IntAt w y.neg y.a y.n y.cap 4 d) (h:LwAr p q n d b) (h0:n=0) :
  Calls Tryz.prog 159 #[.agg #[.int .i64 p,.int .i64 q],.agg x.q,.agg y.q,.int .i64 b] w (λ r w'=>∃ lo hi,LwPr (lwX L p q n d g) b lo hi/\zL w b 30 lo hi r w'):=by
 obtain⟨W,hW⟩:∃ W,W=(((w.alloc (.cells #[.int .i64 p,.int .i64 q] 23)).alloc (.cells x.q 29)).alloc (.cells y.q 29)).alloc (.cells zCq 31):=⟨_,rfl⟩;have j6:Below w.heap.size w W:=by rw[hW];exact bl4 _ _ _ _ _
 have A:RaC W (w.heap.size) p q:=by rw[hW];constructor<;>simp[go_sem]
 have X0:NmC W (w.heap.size+1) x:=by rw[hW];constructor<;>simp[go_sem]
 have Y0:NmC W (w.heap.size+1+1) y:=by rw[hW];constructor<;>simp[go_sem]
 have R:NoC W (w.heap.size+1+1+1):=by rw[hW];constructor<;>simp[go_sem]
 have HX:=zC (hx.bw j6);have HY:=zC (hy.bw j6);have gF:=X0.c0;have gH:=X0.c1;have lX:=X0.lt;clear hx hy;have d0:=h.d0;have b1:=h.b1;have lM:=zC (show zP n 0=0 by rw[h0];rfl)
 have HV:=zC (show LwPr (lwX L p q n d g) b 0 0 by
  have q:=zF b;have q2:=zF 89;refine⟨Int.le_refl _,Int.le_refl _,by omega,by omega,?_⟩
  unfold lwX;rw[if_pos h0];have e:((0:Int):Rat)/(Q b:Rat)=0:=by rw[show ((0:Int):Rat)=0 from rfl,Yp,Rat.zero_mul]
  exact Has.const (by rw[e];exact Rat.le_refl) (by rw[e];exact Rat.le_refl))
 have HZ:=zC (show n*Q b/d=0 /\ -(-(n*Q b)/d)=0 by rw[h0,Int.zero_mul];simp)
 clear h h0 hL
 go_enter Tryz.func159,Tryz.ntmps159
 go_wp2_with fail;rw[<- hW];clear hW gF gH lX;refine (zA5 _ _ _ _ _ n _ (zA HX)).mono ?_;rintro r w1 ⟨rfl,b9⟩;rw[zA lM];replace A:=A.bw b9;replace X0:=X0.bw b9;replace Y0:=Y0.bw b9;replace R:=R.bw b9;replace HX:=zC ((zA HX).bw b9);replace HY:=zC ((zA HY).bw b9);replace j6:=zB j6 b9;clear b9;obtain⟨x0,x1⟩:=X0;obtain⟨y0,y1⟩:=Y0;have lR:=R.lt;have lX:=NmC.lt ⟨x0,x1⟩;have lY:=NmC.lt ⟨y0,y1⟩;go_wp2_with fail;refine (jL _ _ _ _ _ _ _ _ 4 4 b n d _ (zA HX) (zA HY) (by omega) (by omega) d0).mono ?_
 rintro r w2 ⟨t,rfl,G8,K4,j5⟩;rw[(zA HZ).1,(zA HZ).2] at K4;have HT:=zC G8;replace j6:=zB j6 j5;obtain⟨q0,q1,q2,q3,q4,q5⟩:=R.bw j5;have W5:=R.lt;clear G8 j5 x0 x1 y0 y1;have fit:=K4.fits (K:=30) (Int.le_refl _) (by have:=kY 30;omega) (kY 30)
 go_wp2_with fail;refine bodyPost_ret (v:=.agg t.q) (by simp[results,Tryz.results159,go_sem,q0,q1,q2,q3,q4]) rfl ⟨_,_,zA HV,t,rfl,zA HT,?_,?_⟩
 ·exact SpAt.put5 fit q0 q1 q2 q3 q4 _ _ _ _ _
 ·exact kM j6 (by omega) _ _ _ _ _
theorem zQA (L:Rat->Nat->Rat) (hL:Lns L) (w:World) (x y:Nm) (p q n d:Int) (b:Nat) (g X:Nat->Rat) (hx:IntAt w x.neg x.a x.n x.cap 4 n) (hy:IntAt w y.neg y.a y.n y.cap 4 d) (h:LwAr p q n d b) (h0:0<n) (hf:d*(2*((b:Int)+p/q+1))<=n) (ig:IsGam L ((p:Rat)/(q:Rat)) g) :
  Calls Tryz.prog 159 #[.agg #[.int .i64 p,.int .i64 q],.agg x.q,.agg y.q,.int .i64 b] w (λ r w'=>∃ lo hi,LwPr (lwX L p q n d g) b lo hi/\zL w b 30 lo hi r w'):=by
 obtain⟨W,hW⟩:∃ W,W=(((w.alloc (.cells #[.int .i64 p,.int .i64 q] 23)).alloc (.cells x.q 29)).alloc (.cells y.q 29)).alloc (.cells zCq 31):=⟨_,rfl⟩;have j6:Below w.heap.size w W:=by rw[hW];exact bl4 _ _ _ _ _
 have A:RaC W (w.heap.size) p q:=by rw[hW];constructor<;>simp[go_sem]
 have X0:NmC W (w.heap.size+1) x:=by rw[hW];constructor<;>simp[go_sem]
 have Y0:NmC W (w.heap.size+1+1) y:=by rw[hW];constructor<;>simp[go_sem]
 have R:NoC W (w.heap.size+1+1+1):=by rw[hW];constructor<;>simp[go_sem]
 have HX:=zC (hx.bw j6);have HY:=zC (hy.bw j6);have gF:=X0.c0;have gH:=X0.c1;have lX:=X0.lt;clear hx hy;have d0:=h.d0;have b0:=h.b0;have b1:=h.b1;have lM:=zC (show zP n 0=1 by unfold zP;rw[if_neg (by omega),if_pos (by omega)])
 have fP:=zC (show 0<p/\0<q/\p<=1152921504606846976 by have:=h.p0;have:=h.q0;have:=h.pq;have:=h.qq;exact⟨h.p0,h.q0,by omega⟩)
 have xo:=zC (show -9223372036854775808<=2*((b:Int)+p/q+1)/\2*((b:Int)+p/q+1)<=9223372036854775807 by
  have:=Int.ediv_nonneg (Int.le_of_lt h.p0) (Int.le_of_lt h.q0);have:p/q<=100:=Int.ediv_le_of_le_mul h.q0 h.pq;have:=h.b1
  exact⟨by omega,by omega⟩)
 have HV:=zC (show LwPr (lwX L p q n d g) b (Q b-1) (Q b) by
  unfold lwX;rw[if_neg (by omega)]
  exact lw_farI hL h.p0 h.q0 d0 hf (by omega) ig)
 have Em:=zC (zFT (zA HV) b1);obtain⟨cc,nS,o8⟩:∃ cc:Int,0<=cc/\zP n (d*(2*((b:Int)+p/q+1)))=cc:=⟨_,by unfold zP;split;omega;split<;>omega,rfl⟩
 have HC:=zC o8;clear h h0 hf hL ig o8
 go_enter Tryz.func159,Tryz.ntmps159
 go_wp2_with fail;rw[<- hW];clear hW gF gH lX;refine (zA5 _ _ _ _ _ n _ (zA HX)).mono ?_;rintro r w1 ⟨rfl,b9⟩;rw[zA lM];replace A:=A.bw b9;replace X0:=X0.bw b9;replace Y0:=Y0.bw b9;replace R:=R.bw b9;replace HX:=zC ((zA HX).bw b9);replace HY:=zC ((zA HY).bw b9);replace j6:=zB j6 b9;clear b9;have lA:=A.lt;have lX:=X0.lt;have lY:=Y0.lt;have lR:=R.lt;have HK:=zC (show ∀ w',Below w1.heap.size w1 w'->(rK w' w.heap.size p q (nK w' (w.heap.size+1) x (nK0 w' (w.heap.size+1+1) y))) from λ w' hB=>⟨(A.bw hB).c0,(A.bw hB).c1,(X0.bw hB).c0,(X0.bw hB).c1,(Y0.bw hB).c0,(Y0.bw hB).c1⟩)
 have D9:Below w1.heap.size w1 w1.drew:=(Below.refl _ _).drew;go_wp2_with fail;obtain⟨x0,x1,x2,x3,x4,x5⟩:=zA HK _ (Below.refl _ _)
 go_region_held3 (λ w'=>rK w' w.heap.size p q (nK w' (w.heap.size+1) x (nK0 w' (w.heap.size+1+1) y))) (first|exact zA HK _ (by with_reducible first|exact D9|exact H6|exact D6|exact A7|exact C9)|(dsimp only[cK,cK0,nK,nK0,rK,rK0];go_keep)|go_keep)
  (first
   | (go_at_call 17;have hq:=D6;refine (yS _ _ _ _ _ _ _ _ 4 (4+4) n (d*(2*((b:Int)+p/q+1))) _ ((zA HX).bw D6) E8).mono ?_;rintro r w5 ⟨rfl,E4⟩;rw[zA HC];have H6:=zB D6 E4;have i0:=zA HK _ H6)
   | (go_at_call 83;have hq:=A7;refine (jA _ _ _ _ _ _ _ _ 4 4 d (2*((b:Int)+p/q+1)) _ ((zA HY).bw A7) A8 (by omega) (by omega)).mono ?_;rintro r w4 ⟨C7,a3,n3,c3,rfl,E8,A5⟩;have D6:=zB A7 A5)
   | (go_at_call 33;have hq:=C9;refine (zE (2*((b:Int)+p/q+1)) _ (zA xo).1 (zA xo).2).mono ?_;rintro r w3 ⟨j7,a2,n2,c2,rfl,A8,m8⟩;have A7:=zB C9 m8)
   | (go_at_call 179;refine (zET _ p q b (zA fP).1 (zA fP).2.1 (zA fP).2.2 (by omega)).mono ?_;rintro r w2 ⟨rfl,j5⟩;have C9:=zB D9 j5))
 all_goals
  have R3:=R.bw H6;replace j6:=zB j6 H6;have fJ:=R3.lt;clear x0 x1 x2 x3 x4 x5 i0 A8 E8;go_wp2_with fail;refine (zDY _ b (by omega)).mono ?_
  rintro r w6 ⟨t,rfl,G8,K4,R7⟩;obtain⟨q0,q1,q2,q3,q4,q5⟩:=R3.bw R7;replace j6:=zB j6 R7;have HT:=zC G8;clear G8;have fit:=K4.fits (K:=30) (zA Em).1 (zA Em).2.1 (zA Em).2.2;go_wp2_with fail;refine bodyPost_ret (v:=.agg t.q) (by simp[results,Tryz.results159,go_sem,q0,q1,q2,q3,q4]) rfl ⟨_,_,zA HV,t,rfl,zA HT,?_,?_⟩
  ·exact SpAt.put5 fit q0 q1 q2 q3 q4 _ _ _ _ _
  ·exact kM j6 (by omega) _ _ _ _ _
theorem zM7 (L:Rat->Nat->Rat) (hL:Lns L) (w:World) (x y:Nm) (p q n d:Int) (b:Nat) (g X:Nat->Rat) (hx:IntAt w x.neg x.a x.n x.cap 4 n) (hy:IntAt w y.neg y.a y.n y.cap 4 d) (h:zKP p q n d b) (ig:IsGam L ((p:Rat)/(q:Rat)) g) (hX:IsLog X (λ M=>(p:Rat)/(q:Rat)*g M)) (Nk:∀ w',Calls Tryz.prog 185 #[.int .i64 (p+q),.int .i64 q,.int .i64 b] w' (λ r J2=>∃ lo hi,zNV X b lo hi/\zL w' b 521 lo hi r J2)) :
  Calls Tryz.prog 159 #[.agg #[.int .i64 p,.int .i64 q],.agg x.q,.agg y.q,.int .i64 b] w (λ r w'=>∃ lo hi,LwPr (lwX L p q n d g) b lo hi/\zL w b 30 lo hi r w'):=by
 obtain⟨W,hW⟩:∃ W,W=(((w.alloc (.cells #[.int .i64 p,.int .i64 q] 23)).alloc (.cells x.q 29)).alloc (.cells y.q 29)).alloc (.cells zCq 31):=⟨_,rfl⟩;have j6:Below w.heap.size w W:=by rw[hW];exact bl4 _ _ _ _ _
 have A:RaC W (w.heap.size) p q:=by rw[hW];constructor<;>simp[go_sem]
 have X0:NmC W (w.heap.size+1) x:=by rw[hW];constructor<;>simp[go_sem]
 have Y0:NmC W (w.heap.size+1+1) y:=by rw[hW];constructor<;>simp[go_sem]
 have R:NoC W (w.heap.size+1+1+1):=by rw[hW];constructor<;>simp[go_sem]
 have HX:=zC (hx.bw j6);have HY:=zC (hy.bw j6);have gF:=X0.c0;have gH:=X0.c1;have lX:=X0.lt;clear hx hy;have d0:=h.d0;have en:=h.q0;have DF:=h.p0;have Ie:=h.n0;have b0:=h.b0;have b1:=h.b1;have lM:=zC (show zP n 0=1 by unfold zP;rw[if_neg (by omega),if_pos (by omega)])
 have fP:=zC (show 0<p/\0<q/\p<=1152921504606846976 by have:=h.p0;have:=h.q0;have:=h.pq;have:=h.qq;exact⟨h.p0,h.q0,by omega⟩)
 have xo:=zC (show -9223372036854775808<=2*((b:Int)+p/q+1)/\2*((b:Int)+p/q+1)<=9223372036854775807 by
  have:=Int.ediv_nonneg (Int.le_of_lt h.p0) (Int.le_of_lt h.q0);have:p/q<=100:=Int.ediv_le_of_le_mul h.q0 h.pq;have:=h.b1
  exact⟨by omega,by omega⟩)
 have HC:=zC (show zP n (d*(2*((b:Int)+p/q+1))) = -1 by unfold zP;rw[if_pos h.nx])
 have H:=zC h;have HL:=zC hL;have HG:=zC (And.intro ig hX);have QP:=zC Nk;have aX:q<=1048576:=h.qq;have J3:p<=104857600:=by have:=h.pq;omega
 obtain⟨NS,ks,S8⟩:=lu_set h;have xx:=lu_x h;have TW:=xx.2.2
 have PK:Q 20461<P 1300:=by
  rw[<- Q_P];have h1:=zK (show 20461+1<=16*1300 by omega)
  have g2:∀ j,Q (j+1)=2*Q j:=λ _=>rfl
  rw[g2] at h1;have:=zF 20461;generalize Q 20461=z at *;omega
 have ng:=zC (show -P 1300<Q b/\Q b<P 1300 by
  have:=zF b;have:=zK (show b<=20461 by omega)
  have:=kY 1300
  exact⟨by omega,by omega⟩)
 have ar:=zC (show ∀ j,j<=NS -> -P 1300<(luT p q n d b j).1/\(luT p q n d b j).2<P 1300 from λ j _=>by
  have e:0<=(luT p q n d b j).1:=(yT (zHJ h) j).1;have u:=lu_hi h j;have:=kY 1300
  exact⟨by omega,by omega⟩)
 have eQ:=zC (show ∀ j,j<=NS -> -P 1300<(jH (luT p q n d b) j).1/\(jH (luT p q n d b) j).2<P 1300 from λ j hj=>by
  have u:=lu_fit h j (by omega)
  have l:Q b<=(jH (luT p q n d b) j).1:=(zFB (zHJ h) j).2.2;have:=zF b;have:=kY 1300
  exact⟨by omega,by omega⟩)
 have eO:=zC (λ j=>show (luT p q n d b j).1<=(luT p q n d b j).2 from (yT (zHJ h) j).2)
 have S5:=zC (λ j=>show 0<=(luT p q n d b j).1 from (yT (zHJ h) j).1)
 have HM:=zC S8
 have HZ:=zC (show 2*n/d=(luN n d:Int)/\0<=2*n/d/\2*n/d<P 1 /\ -P 1<2*n/d by
  have p1:P 1=65536:=rfl;have:=xx.2.1
  exact⟨by omega,by omega,by omega,by omega⟩)
 have kf:=zC (show Q (b+4)<P 500 by
  rw[<- Q_P];have h1:=zK (show b+4+1<=16*500 by omega)
  have h2:Q (b+4+1)=2*Q (b+4):=rfl;have:=zF (b+4)
  omega)
 clear h hL ig hX Nk S8 PK xx
 go_enter Tryz.func159,Tryz.ntmps159
 go_wp2_with fail;rw[<- hW];clear hW gF gH lX;refine (zA5 _ _ _ _ _ n _ (zA HX)).mono ?_;rintro r w1 ⟨rfl,b9⟩;rw[zA lM];replace A:=A.bw b9;replace X0:=X0.bw b9;replace Y0:=Y0.bw b9;replace R:=R.bw b9;replace HX:=zC ((zA HX).bw b9);replace HY:=zC ((zA HY).bw b9);replace j6:=zB j6 b9;clear b9;have lA:=A.lt;have lX:=X0.lt;have lY:=Y0.lt;have lR:=R.lt;have HK:=zC (show ∀ w',Below w1.heap.size w1 w'->(rK w' w.heap.size p q (nK w' (w.heap.size+1) x (nK0 w' (w.heap.size+1+1) y))) from λ w' hB=>⟨(A.bw hB).c0,(A.bw hB).c1,(X0.bw hB).c0,(X0.bw hB).c1,(Y0.bw hB).c0,(Y0.bw hB).c1⟩)
 have D9:Below w1.heap.size w1 w1.drew:=(Below.refl _ _).drew;go_wp2_with fail;obtain⟨x0,x1,x2,x3,x4,x5⟩:=zA HK _ (Below.refl _ _)
 go_region_held3 (λ w'=>rK w' w.heap.size p q (nK w' (w.heap.size+1) x (nK0 w' (w.heap.size+1+1) y))) (first|exact zA HK _ (by with_reducible first|exact D9|exact H6|exact D6|exact A7|exact C9)|(dsimp only[cK,cK0,nK,nK0,rK,rK0];go_keep)|go_keep)
  (first
   | (go_at_call 17;have hq:=D6;refine (yS _ _ _ _ _ _ _ _ 4 (4+4) n (d*(2*((b:Int)+p/q+1))) _ ((zA HX).bw D6) E8).mono ?_;rintro r w5 ⟨rfl,E4⟩;rw[zA HC];have H6:=zB D6 E4;have i0:=zA HK _ H6)
   | (go_at_call 83;have hq:=A7;refine (jA _ _ _ _ _ _ _ _ 4 4 d (2*((b:Int)+p/q+1)) _ ((zA HY).bw A7) A8 (by omega) (by omega)).mono ?_;rintro r w4 ⟨C7,a3,n3,c3,rfl,E8,A5⟩;have D6:=zB A7 A5)
   | (go_at_call 33;have hq:=C9;refine (zE (2*((b:Int)+p/q+1)) _ (zA xo).1 (zA xo).2).mono ?_;rintro r w3 ⟨j7,a2,n2,c2,rfl,A8,m8⟩;have A7:=zB C9 m8)
   | (go_at_call 179;refine (zET _ p q b (zA fP).1 (zA fP).2.1 (zA fP).2.2 (by omega)).mono ?_;rintro r w2 ⟨rfl,j5⟩;have C9:=zB D9 j5))
 all_goals
  replace A:=A.bw H6;replace X0:=X0.bw H6;replace Y0:=Y0.bw H6;replace R:=R.bw H6;replace HX:=zC ((zA HX).bw H6);replace HY:=zC ((zA HY).bw H6);replace j6:=zB j6 H6;clear x0 x1 x2 x3 x4 x5 i0 A8 E8 lA lX lY lR;have lA:=A.lt;have lX:=X0.lt;have lY:=Y0.lt;have lR:=R.lt;have LX:=zC (show ∀ w',Below w5.heap.size w5 w'->(rK w' w.heap.size p q (nK w' (w.heap.size+1) x (nK0 w' (w.heap.size+1+1) y))) from λ w' hB=>⟨(A.bw hB).c0,(A.bw hB).c1,(X0.bw hB).c0,(X0.bw hB).c1,(Y0.bw hB).c0,(Y0.bw hB).c1⟩)
  go_wp2_with fail
  go_cut [9] (λ p wx=>∃ (B:Nat) (u:Nm),p=.pointer (some ⟨B,0,none⟩)/\w5.heap.size<=B/\NmC wx B u/\IntAt wx u.neg u.a u.n u.cap 8 (n*q)/\Below w5.heap.size w5 wx)
  case first =>
   go_region_held3 (λ w'=>rK w' w.heap.size p q (nK w' (w.heap.size+1) x (nK0 w' (w.heap.size+1+1) y))) (exact zA LX _ (by repeat' (first|with_reducible exact J6|with_reducible exact E9|with_reducible exact Below.refl _ _|with_reducible refine Below.drew ?_|with_reducible refine zO ?_ _|with_reducible refine Below.setCell ?_ (by first|exact Yj _|exact O6|exact O7) _)))
    (first
     | (go_at_call 83;have hq:=E9;refine (jA _ _ _ _ _ _ _ _ 4 4 n q _ ((zA HX).bw (by with_reducible first|exact E9|exact zO E9 _)) (I8.bw (by with_reducible first|exact Below.refl _ _|exact bl1 _ _)) (by omega) (by omega)).mono ?_;rintro r eA ⟨Y8,pG,tx,pH,rfl,P2,O4⟩;have M9:Below aQ.heap.size aQ eA:=(by with_reducible first|exact O4|exact zB (bl1 _ _) O4);have J6:=zB E9 M9;(try with_reducible have bo:=(kG aQ 29).bw O4);replace I8:=I8.bw M9;(try replace S6:=S6.bw M9);have O7:=J6.size;(try have mO:=S6.lt);(try obtain⟨jv,jw,zU1f⟩:=S6);(try have mP:=bo.lt);(try obtain⟨jx,jy,zU2f⟩:=bo))
     | (go_at_call 33;refine (zE q _ (by omega) (by omega)).mono ?_;rintro r aQ ⟨aq,vN,wZ,vP,rfl,I8,O3⟩;have E9:Below w5.heap.size w5 aQ:=(by with_reducible first|exact zB (Below.refl _ _).drew O3|exact zB (bl1 _ _).drew O3);(try with_reducible have S6:=((kG w5 29).bw (Below.refl _ _).drew).bw O3);have O6:=E9.size))
   all_goals
    have hfinU:IntAt eA Y8 pG tx pH 8 (n*q):=P2.mono (by omega)
    go_wp2_with fail;go_meet;refine⟨_,⟨Y8,pG,tx,pH⟩,rfl,?_,⟨?_,?_⟩,?_,?_⟩
    ·first|exact Yj _|exact O6|exact O7
    ·simp[go_sem, *]
    ·simp[go_sem, *]
    ·first|with_reducible exact hfinU.put2 jx jy _ _|with_reducible exact hfinU.put2 jv jw _ _|with_reducible exact hfinU.bw (bl1 _ _)
    ·repeat' (first|with_reducible exact J6|with_reducible exact E9|with_reducible exact Below.refl _ _|with_reducible refine Below.drew ?_|with_reducible refine zO ?_ _|with_reducible refine Below.setCell ?_ (by first|exact Yj _|exact O6|exact O7) _)
  case rest =>
  obtain⟨BU,xU,rfl,Ac,XU,hpU,hblU⟩:=hcut;obtain⟨V1,R6⟩:∃ V,V=wc:=⟨_,rfl⟩;subst R6;replace A:=A.bw hblU;replace X0:=X0.bw hblU;replace Y0:=Y0.bw hblU;replace R:=R.bw hblU;replace HX:=zC ((zA HX).bw hblU);replace HY:=zC ((zA HY).bw hblU);replace j6:=zB j6 hblU;clear LX lA lX lY lR Ac;have vM:=zC hpU;clear hpU;have lA:=A.lt;have lX:=X0.lt;have lY:=Y0.lt;have lR:=R.lt;have lU:=XU.lt;have nb:=zC (show ∀ w',Below V1.heap.size V1 w'->(rK w' w.heap.size p q (nK w' (w.heap.size+1) x (nK0 w' (w.heap.size+1+1) y))) from λ w' hB=>⟨(A.bw hB).c0,(A.bw hB).c1,(X0.bw hB).c0,(X0.bw hB).c1,(Y0.bw hB).c0,(Y0.bw hB).c1⟩)
  have ko:Below V1.heap.size V1 V1.drew:=(Below.refl _ _).drew;go_wp2_with fail;obtain⟨x0,x1,x2,x3,x4,x5⟩:=zA nb _ (Below.refl _ _)
  go_region_held3 (λ w'=>rK w' w.heap.size p q (nK w' (w.heap.size+1) x (nK0 w' (w.heap.size+1+1) y))) (first|exact zA nb _ (by with_reducible first|exact ko|exact iz|exact FF|exact CR)|(dsimp only[cK,cK0,nK,nK0,rK,rK0];go_keep)|go_keep)
   (first
    | (go_at_call 181;have hq:=FF;refine (zI1 _ _ _ _ (2*n/d) _ (Di.fits (zA HZ).2.2.2 (zA HZ).2.2.1) (zA HZ).2.1).mono ?_;rintro r w8 ⟨rfl,bC⟩;rw[(zA HZ).1];have iz:=zB FF bC;have i0:=zA nb _ iz)
    | (go_at_call 126;have hq:=CR;refine (zAN _ _ _ _ _ _ _ _ 5 4 (2*n) d _ iB ((zA HY).bw CR) (by omega) d0).mono ?_;rintro r w7 ⟨Il,a7,n7,c7,rfl,Di,bA⟩;have FF:=zB CR bA)
    | (go_at_call 116;refine (zSD _ _ _ _ 4 n _ ((zA HX).bw ko) (by omega)).mono ?_;rintro r w6 ⟨fK,a6,n6,c6,rfl,iB,R7⟩;have CR:=zB ko R7))
  all_goals
   replace A:=A.bw iz;replace X0:=X0.bw iz;replace Y0:=Y0.bw iz;replace R:=R.bw iz;replace HX:=zC ((zA HX).bw iz);replace HY:=zC ((zA HY).bw iz);replace j6:=zB j6 iz;replace XU:=XU.bw iz;replace vM:=zC ((zA vM).bw iz);clear x0 x1 x2 x3 x4 x5 i0 iB Di lA lX lY lR lU nb;have lA:=A.lt;have lX:=X0.lt;have lY:=Y0.lt;have lR:=R.lt;have lU:=XU.lt;go_wp2_with fail;refine (zCX _ b (by omega)).mono ?_
   rintro r w9 ⟨v9,rfl,jl,fI,aV⟩;rw[show 1*Q b/1=Q b by rw[Int.ediv_one,Int.one_mul],show -(-(1*Q b)/1)=Q b by rw[Int.ediv_one,Int.one_mul,Int.neg_neg]] at fI
   have CA:=zC jl;have jz:=zC (fI.fits (K:=1300) (Int.le_refl _) (zA ng).1 (zA ng).2);replace A:=A.bw aV;replace X0:=X0.bw aV;replace Y0:=Y0.bw aV;replace R:=R.bw aV;replace HX:=zC ((zA HX).bw aV);replace HY:=zC ((zA HY).bw aV);replace j6:=zB j6 aV;replace XU:=XU.bw aV;replace vM:=zC ((zA vM).bw aV);clear aV jl fI lA lX lY lR lU
   have aT:=zC (show ∀ (j:Nat) (u:Sp) w',j<NS->u.bits=(b:Int)->SpAt w' u 1300 (luT p q n d b j).1 (luT p q n d b j).2->Below w9.heap.size w9 w'->Calls Tryz.prog 183 #[.agg u.q,.int .i64 ((j:Int)+1),.pointer (some ⟨BU,0,none⟩),.pointer (some ⟨w.heap.size+1+1,0,none⟩),.pointer (some ⟨w.heap.size,0,none⟩)] w' (zL w' b 1318 (luT p q n d b (j+1)).1 (luT p q n d b (j+1)).2) from λ j u w' hj D5 B9 M4=>by
    have e:=lo1_iv w' BU (w.heap.size+1+1) (w.heap.size) u xU y 1300 8 4 b ((j:Int)+1) (luT p q n d b j) (n*q) d p q B9 ((zA vM).bw M4) ((zA HY).bw M4) (XU.bw M4) (Y0.bw M4) (A.bw M4) (by omega) (by omega) (by omega) D5 (Yl (by omega) (by omega)) (by
     have:=zEG (show (j:Int)+1<=70001 by omega) aX (by omega) (by omega)
     omega) DF (by omega) d0
    have ec:((j+1:Nat):Int)=(j:Int)+1:=by omega
    have e2:luT p q n d b (j+1)=zJ (luT p q n d b j) (n*q) (d*(p+((j+1:Nat):Int)*q)):=rfl;rw[e2,ec]
    exact e)
   go_wp2_with fail;refine (zD4 _ #[.pointer (some ⟨BU,0,none⟩),.pointer (some ⟨w.heap.size+1+1,0,none⟩),.pointer (some ⟨w.heap.size,0,none⟩)] en_lo (luT p q n d b) (luN n d) NS b 1300 1318 v9 _ (zA jz) (zA CA) (by omega) (by omega) (by omega) (by omega) (zA HM) (by omega) (by omega) (zA eO) (zA S5) (zA ar) (zA eQ) (zA aT)).mono ?_
   rintro r gf ⟨v,rfl,om,oP,bx⟩;have HV:=zC om;replace A:=A.bw bx;replace X0:=X0.bw bx;replace Y0:=Y0.bw bx;replace R:=R.bw bx;replace HX:=zC ((zA HX).bw bx);replace HY:=zC ((zA HY).bw bx);replace j6:=zB j6 bx;have WH:=R.lt;obtain⟨V2,Y9⟩:∃ V,V=gf.alloc (.cells v.q 31):=⟨_,rfl⟩;have P9:Below gf.heap.size gf V2:=by rw[Y9];exact bl1 _ _
   have S2:SpC V2 gf.heap.size v:=by rw[Y9];exact zDM gf v _
   have EE:=zC (show SpAt V2 v 1303 (zAO p q n d b NS).1 (zAO p q n d b NS).2 from oP.bw P9)
   clear om oP bx jz CA aT eO S5 ar eQ XU vM;replace A:=A.bw P9;replace X0:=X0.bw P9;replace Y0:=Y0.bw P9;replace R:=R.bw P9;replace HX:=zC ((zA HX).bw P9);replace HY:=zC ((zA HY).bw P9);replace j6:=zB j6 P9;clear P9;have lA:=A.lt;have lX:=X0.lt;have lY:=Y0.lt;have lR:=R.lt;have lS:=S2.lt;have LW:=zC (show ∀ w',Below V2.heap.size V2 w'->(rK w' w.heap.size p q (nK w' (w.heap.size+1) x (nK w' (w.heap.size+1+1) y (cK0 w' gf.heap.size v)))) from λ w' hB=>⟨(A.bw hB).c0,(A.bw hB).c1,(X0.bw hB).c0,(X0.bw hB).c1,(Y0.bw hB).c0,(Y0.bw hB).c1,(S2.bw hB).c0,(S2.bw hB).c1,(S2.bw hB).c2,(S2.bw hB).c3,(S2.bw hB).c4⟩)
   go_wp2_with fail;rw[<- Y9];clear Y9
   go_cut [12] (λ pz wx=>∃ (B:Nat) (u:Sp) (o:Int × Int),pz=.pointer (some ⟨B,0,none⟩)/\zB4 L ((n:Rat)/(d:Rat)) b o/\V2.heap.size<=B/\VrC wx B u/\SpAt wx u 541 (zHY (ofI n d b) (zJ o p q)).1 (zHY (ofI n d b) (zJ o p q)).2/\u.bits=(b:Int)/\Below V2.heap.size V2 wx)
   case first =>
    go_region_held3 (λ w'=>rK w' w.heap.size p q (nK w' (w.heap.size+1) x (nK w' (w.heap.size+1+1) y (cK0 w' gf.heap.size v)))) (exact zA LW _ (by repeat' (first|with_reducible exact aB|with_reducible exact W7|with_reducible exact M8|with_reducible exact M7|with_reducible exact Below.refl _ _|with_reducible refine Below.drew ?_|with_reducible refine zO ?_ _|with_reducible refine Below.setCell ?_ (by first|exact Yj _|exact dK|exact dL|exact dM|exact dN) _)))
     (first
      | (go_at_call 92;have hq:=W7;refine (zGR _ Iw Iy 540 b (ofI n d b) (zJ (zF7 (zM (lnT n' d' b) N1) (zM (lnT 2 1 b) N2) cc) p q) ((aM.bw (by with_reducible first|exact Below.refl _ _|exact bl1 _ _)).mono (by omega)) ((iF.bw (by with_reducible first|exact Below.refl _ _|exact bl1 _ _)).mono (by omega)) (by omega) (zA gy)).mono ?_;rintro r tG ⟨DI,rfl,cf,iG,cV⟩;have np:=zC cf;clear cf;have S7:Below mS.heap.size mS tG:=(by with_reducible first|exact cV|exact zB (bl1 _ _) cV);have aB:=zB W7 S7;(try with_reducible have pO:=(zS mS 31).bw cV);replace aM:=aM.bw S7;(try replace ay:=ay.bw S7);(try replace cr:=cr.bw S7);replace iF:=iF.bw S7;(try replace gL:=gL.bw S7);have dN:=aB.size;(try have Bi:=ay.lt);(try have SQ:=Yo Bi);(try have Fb:=Nat.ne_of_gt Bi);(try obtain⟨tJ,tK,tL,tM,tN,JW⟩:=ay);(try have Bj:=cr.lt);(try have CF:=Yo Bj);(try have Fc:=Nat.ne_of_gt Bj);(try obtain⟨tO,tP,tQ,tR,tS,JX⟩:=cr);(try have Bk:=gL.lt);(try have SR:=Yo Bk);(try have Fe:=Nat.ne_of_gt Bk);(try obtain⟨tT,tV,tW,tX,tY,JY⟩:=gL);(try have Bl:=pO.lt);(try have SS:=Yo Bl);(try have Ff:=Nat.ne_of_gt Bl);(try obtain⟨tZ,vd,ve,vg,vk,JZ⟩:=pO))
      | (go_at_call 184;have hq:=M8;refine (zCG _ Ix 520 b (zF7 (zM (lnT n' d' b) N1) (zM (lnT 2 1 b) N2) cc) p q (aN.bw (by with_reducible first|exact Below.refl _ _|exact bl1 _ _)) (by omega) (zA gz) (by omega) (by omega) en (by omega)).mono ?_;rintro r mS ⟨Iy,rfl,bZ,iF,cT⟩;have nj:=zC bZ;clear bZ;have aI:Below mR.heap.size mR mS:=(by with_reducible first|exact cT|exact zB (bl1 _ _) cT);have W7:=zB M8 aI;(try with_reducible have gL:=(zS mR 31).bw cT);replace aM:=aM.bw aI;(try replace ay:=ay.bw aI);(try replace cr:=cr.bw aI);have dM:=W7.size)
      | (go_at_call 125;have hq:=M7;refine (zA7 _ x y 4 b 500 n d ((zA HX).bw (by with_reducible first|exact M7|exact zO M7 _)) ((zA HY).bw (by with_reducible first|exact M7|exact zO M7 _)) (by omega) (by omega) (by omega) (by omega) (by omega) (zA kf) (by omega)).mono ?_;rintro r mR ⟨n',d',cc,N1,N2,J8,o8,o9,P1,T7,Ix,rfl,bX,aN,cS⟩;have gz:=zC bX;have Ew:=zC (zLP (zA HL) Ie d0 (by omega) J8 (by omega) (by omega) P1 T7);clear bX J8 o8 o9 P1 T7;have fp:Below mQ.heap.size mQ mR:=(by with_reducible first|exact cS|exact zB (bl1 _ _) cS);have M8:=zB M7 fp;(try with_reducible have cr:=(zS mQ 31).bw cS);replace aM:=aM.bw fp;(try replace ay:=ay.bw fp);have dL:=M8.size)
      | (go_at_call 88;refine (jL _ _ _ _ _ _ _ _ 4 4 b n d _ ((zA HX).bw (by with_reducible first|exact (Below.refl _ _).drew|exact (bl1 _ _).drew)) ((zA HY).bw (by with_reducible first|exact (Below.refl _ _).drew|exact (bl1 _ _).drew)) (by omega) (by omega) d0).mono ?_;rintro r mQ ⟨Iw,rfl,bQ,aM,cR⟩;have gy:=zC bQ;clear bQ;have M7:Below V2.heap.size V2 mQ:=(by with_reducible first|exact zB (Below.refl _ _).drew cR|exact zB (bl1 _ _).drew cR);(try with_reducible have ay:=((zS V2 31).bw (Below.refl _ _).drew).bw cR);have dK:=M7.size))
    all_goals
     have hfinP:SpAt tG DI 541 (zHY (ofI n d b) (zJ (zF7 (zM (lnT n' d' b) N1) (zM (lnT 2 1 b) N2) cc) p q)).1 (zHY (ofI n d b) (zJ (zF7 (zM (lnT n' d' b) N1) (zM (lnT 2 1 b) N2) cc) p q)).2:=iG;go_wp2_with fail;go_meet;refine⟨_,DI,_,rfl,zA Ew,?_,⟨⟨?_,?_,?_,?_,?_⟩,?_⟩,?_,zA np,?_⟩
     ·first|exact Yj _|exact dK|exact dL|exact dM|exact dN
     ·simp[go_sem, *]
     ·simp[go_sem, *]
     ·simp[go_sem, *]
     ·simp[go_sem, *]
     ·simp[go_sem, *]
     ·intro o;simp[go_sem, *]
     ·first|with_reducible exact SpAt.put5 hfinP tZ vd ve vg vk _ _ _ _ _|with_reducible exact SpAt.put5 hfinP tT tV tW tX tY _ _ _ _ _|with_reducible exact SpAt.put5 hfinP tO tP tQ tR tS _ _ _ _ _|with_reducible exact SpAt.put5 hfinP tJ tK tL tM tN _ _ _ _ _|with_reducible exact hfinP.bw (bl1 _ _)
     ·repeat' (first|with_reducible exact aB|with_reducible exact W7|with_reducible exact M8|with_reducible exact M7|with_reducible exact Below.refl _ _|with_reducible refine Below.drew ?_|with_reducible refine zO ?_ _|with_reducible refine Below.setCell ?_ (by first|exact Yj _|exact dK|exact dL|exact dM|exact dN) _)
   case rest =>
   obtain⟨BP,xP,o,rfl,Nl,Ab,XP,hpP,hxbP,hblP⟩:=hcut;obtain⟨V3,G9⟩:∃ V,V=wc:=⟨_,rfl⟩;subst G9;have lRP:=Yn lR Ab;replace A:=A.bw hblP;replace X0:=X0.bw hblP;replace Y0:=Y0.bw hblP;replace R:=R.bw hblP;replace HX:=zC ((zA HX).bw hblP);replace HY:=zC ((zA HY).bw hblP);replace j6:=zB j6 hblP;replace S2:=S2.bw hblP;replace EE:=zC ((zA EE).bw hblP);have xD:=zC hpP;have pk:=zC hxbP;have Ew:=zC Nl;have XPC:=XP.c;clear hpP hxbP Nl XP LW lA lX lY lR lS Ab;have lA:=A.lt;have lX:=X0.lt;have lY:=Y0.lt;have lR:=R.lt;have lS:=S2.lt;have lP:=XPC.lt;have xA:=zC (show ∀ w',Below V3.heap.size V3 w'->(rK w' w.heap.size p q (nK w' (w.heap.size+1) x (nK w' (w.heap.size+1+1) y (cK w' gf.heap.size v (cK0 w' BP xP))))) from λ w' hB=>⟨(A.bw hB).c0,(A.bw hB).c1,(X0.bw hB).c0,(X0.bw hB).c1,(Y0.bw hB).c0,(Y0.bw hB).c1,(S2.bw hB).c0,(S2.bw hB).c1,(S2.bw hB).c2,(S2.bw hB).c3,(S2.bw hB).c4,(XPC.bw hB).c0,(XPC.bw hB).c1,(XPC.bw hB).c2,(XPC.bw hB).c3,(XPC.bw hB).c4⟩)
   have qF:Below V3.heap.size V3 V3.drew:=(Below.refl _ _).drew;have QY:=zC (show IntKind.i64.wrap (p+q)=p+q from jC _ (by omega) (by omega))
   have Bw:w.heap.size+1+1+1≠gf.heap.size:=by omega
   have oV:w.heap.size+1+1+1≠BP:=by omega
   have DE:w.heap.size+1+1+1≠w.heap.size+1+1:=by omega
   have Pm:w.heap.size+1+1+1≠w.heap.size+1:=by omega
   have WY:w.heap.size+1+1+1≠w.heap.size:=by omega
   have WZ:w.heap.size+1+1≠w.heap.size:=by omega
   go_wp2_with fail;obtain⟨x0,x1,x2,x3,x4,x5,x6,x7,x8,x9,Eb,Qg,Qh,x13,x14,x15⟩:=zA xA _ (Below.refl _ _)
   go_region_held3 (λ w'=>rK w' w.heap.size p q (nK w' (w.heap.size+1) x (nK w' (w.heap.size+1+1) y (cK w' gf.heap.size v (cK0 w' BP xP))))) (first|exact zA xA _ (by with_reducible first|exact qF|exact Aa|exact qG|exact nJ|exact kp|exact nI)|(dsimp only[cK,cK0,nK,nK0,rK,rK0];go_keep)|go_keep)
    (first
     | (go_at_call 141;have hq:=qG;refine (zCH _ f4 _ b _ _ fw (zA F4) (by omega) (by omega) (by omega)).mono ?_;rintro r g5 ⟨f5,rfl,mA,mC,AD⟩;rw[zE7] at mC;have F5:=zC mA;clear mA;have Aa:=zB qG AD;obtain⟨q0,q1,q2,q3,q4,q5⟩:=R.bw Aa)
     | (go_at_call 162;have hq:=nJ;refine (zC5 _ v f3 49300 b (zAO p q n d b NS).1 (zAO p q n d b NS).2 (luE p q n d b o (lg,ug) t NE).1 (luE p q n d b o (lg,ug) t NE).2 (((zA EE).bw nJ).mono (by omega)) iQ (by omega) (by omega) (zA HV) (zA M6).2.2.2.1 (zA M6).1 (zA M6).2.1).mono ?_;rintro r g4 ⟨f4,rfl,bG,fw,rP⟩;have F4:=zC bG;clear bG;have qG:=zB nJ rP)
     | (go_at_call 77;have hq:=kp;refine (zB3 _ f2 49300 b t NE (luY p q n d b o (lg,ug)) l (SpAt.mono (show SpAt _ f2 542 (luY p q n d b o (lg,ug)).1 (luY p q n d b o (lg,ug)).2 from iP) (by omega)) (zA F2) (zA EK) (by omega) (by omega) (zA M5) (zA S3) (by omega) (zA vG) (zA mZ) (zA pA) (by omega)).mono ?_;rintro r g3 ⟨f3,rfl,dD,iQ,mE⟩;clear dD;have nJ:=zB kp mE)
     | (go_at_call 51;have hq:=nI;refine (zCI _ xP f1 541 b (zHY (ofI n d b) (zJ o p q)) (lg,ug) ((zA xD).bw nI) (iO.mono (by omega)) (by omega) (zA pk)).mono ?_;rintro r g2 ⟨f2,rfl,dB,iP,dG⟩;have F2:=zC dB;clear dB;have kp:=zB nI dG)
     | (go_at_call 185;(try rw[zA QY]);refine (zA QP _).mono ?_;rintro r g1 ⟨lg,ug,iV,f1,rfl,dA,iO,aj⟩;clear dA;have nI:=zB qF aj;obtain⟨l,t,NE,e1,e2,e3,e4,e5,e6,e7,e8⟩:=lu_exp (zA H) (zA Ew) iV (zA HL) (zA HG).1 (zA HG).2 ks (zA HM);have M5:=zC e1;have S3:=zC e2;have vG:=zC e4;have mZ:=zC e5;have pA:=zC e6;have EK:=zC e7;have M6:=zC e8;clear e1 e2 e4 e5 e6 e7 e8 iV))
   all_goals
    have fit:=SpAt.fits (K:=30) (show SpAt g5 f5 _ (zEC (zAO p q n d b NS).1 (zAO p q n d b NS).2 (luE p q n d b o (lg,ug) t NE).1 (luE p q n d b o (lg,ug) t NE).2 b) (zNA (zAO p q n d b NS) (luE p q n d b o (lg,ug) t NE) b) from mC) (zFT (zA M6).2.2.2.2 b1).1 (zFT (zA M6).2.2.2.2 b1).2.1 (zFT (zA M6).2.2.2.2 b1).2.2
    have EI:=zC (show LwPr (lwX L p q n d g) b (zEC (zAO p q n d b NS).1 (zAO p q n d b NS).2 (luE p q n d b o (lg,ug) t NE).1 (luE p q n d b o (lg,ug) t NE).2 b) (zNA (zAO p q n d b NS) (luE p q n d b o (lg,ug) t NE) b) by unfold lwX;rw[if_neg (by omega)];exact (zA M6).2.2.2.2)
    go_wp2_with fail;refine bodyPost_ret (v:=.agg f5.q) (by simp[results,Tryz.results159,go_sem,q0,q1,q2,q3,q4]) rfl ⟨_,_,zA EI,f5,rfl,zA F5,?_,?_⟩
    ·exact SpAt.put5 fit q0 q1 q2 q3 q4 _ _ _ _ _
    ·exact kM (zB j6 Aa) (by omega) _ _ _ _ _
theorem zEU (L:Rat->Nat->Rat) (hL:Lns L) (w:World) (n d:Int) (b:Nat) (g x:Nat->Rat) (h:StIn n d) (hn:n<=4611686018427387904) (E6:40<=b) (hb:b<=1000) (hg:Gam1 L (((n-(stN n d:Int)*d):Int)/(d:Rat)) g) (wG:∃ c:Rat,0<c/\∃ N:Nat,∀ M,N<=M->c<=g M) (hx:IsLog x (gmV n d g)) :
  Calls Tryz.prog 185 #[.int .i64 n,.int .i64 d,.int .i64 b] w (λ r w'=>∃ lo hi,zNV x b lo hi/\zL w b 521 lo hi r w'):=by
 have HI:=zC (h.in_ (B:=b) (by omega) (by omega))
 have Hr:=h.rest.2.2;have fP:=zC (show 0<stP n d (stN n d)/\0<stQ d (stN n d) from⟨zRU h (Yj _),zKD h.d0 _⟩)
 have H:=zC h;have HL:=zC hL;have HG:=zC hg;have QI:=zC wG;have Rn:=zC hx
 have kf:=zC (show Q (b+4)<P 500 by
  rw[<- Q_P];have h1:=zK (show b+4+1<=16*500 by omega)
  have h2:Q (b+4+1)=2*Q (b+4):=rfl;have:=zF (b+4)
  omega)
 clear h hL hg wG hx;have R:=zS w 31;have j6:Below w.heap.size w (w.alloc (.cells zCq 31)):=bl1 _ _
 go_enter Tryz.func185,Tryz.ntmps185
 go_wp2_with fail;refine (zRV _ n d (zA H) hn).mono ?_;rintro r w1 ⟨X,Y,rfl,hX,hY,b9⟩;replace R:=R.bw b9;replace j6:=zB j6 b9;clear b9;have lR:=R.lt;obtain⟨V,hV⟩:∃ V,V=(w1.alloc (.cells X.q 29)).alloc (.cells Y.q 29):=⟨_,rfl⟩;have bV:Below w1.heap.size w1 V:=by rw[hV];exact bl2 _ _ _
 have CX:NmC V w1.heap.size X:=by rw[hV];constructor<;>simp[go_sem]
 have CY:NmC V (w1.heap.size+1) Y:=by rw[hV];constructor<;>simp[go_sem]
 have HX:=zC ((hX.mono (show 4*stN n d+4<=804 by omega)).bw bV)
 have HY:=zC ((hY.mono (show 4*stN n d+4<=804 by omega)).bw bV)
 replace R:=R.bw bV;replace j6:=zB j6 bV;have lX:=CX.lt;have lY:=CY.lt;have W5:=R.lt;have HK:=zC (show ∀ w',Below V.heap.size V w'->(nK w' w1.heap.size X (nK0 w' ((w1.heap.size+1)) Y)) from λ w' hB=>⟨(CX.bw hB).c0,(CX.bw hB).c1,(CY.bw hB).c0,(CY.bw hB).c1⟩)
 clear hX hY bV CX CY;go_wp2_with fail;rw[<- hV];clear hV;have D8:Below V.heap.size V V.drew:=(Below.refl _ _).drew;obtain⟨x0,x1,x2,x3⟩:=zA HK _ (Below.refl _ _);have m1:w.heap.size≠w1.heap.size:=by omega
 have m2:w.heap.size≠w1.heap.size+1:=by omega
 go_region_held3 (λ w'=>nK w' w1.heap.size X (nK0 w' ((w1.heap.size+1)) Y)) (first|exact zA HK _ (by with_reducible first|exact D8|exact J0|exact G6|exact A6|exact y9)|(dsimp only[cK,cK0,nK,nK0,rK,rK0];go_keep)|go_keep)
  (first
   | (go_at_call 51;have K9:=G6;refine (zCI _ v2 v3 520 b (p1,r2) (zF7 (zM (lnT n' d' b) N1) (zM (lnT 2 1 b) N2) cc) (A8.bw m8) E8 (by omega) (zA F2)).mono ?_;rintro r' w4 ⟨t,rfl,G8,K4,A5⟩;have HT:=zC G8;clear G8;have J0:=zB G6 A5;obtain⟨q0,q1,q2,q3,q4,q5⟩:=R.bw J0;obtain⟨i0,i1,i2,i3⟩:=zA HK _ J0)
   | (go_at_call 125;have K9:=A6;refine (zA7 _ X Y 804 b 500 (stP n d (stN n d)) (stQ d (stN n d)) ((zA HX).bw A6) ((zA HY).bw A6) (by omega) (zA fP).1 (zA fP).2 (by omega) (by omega) (zA kf) (by omega)).mono ?_;rintro r' w3 ⟨n',d',cc,N1,N2,J8,o8,o9,P1,T7,v3,rfl,H7,E8,m8⟩;clear H7;have G6:=zB A6 m8;have Z3:=zC (And.intro J8 (And.intro o8 (And.intro o9 (And.intro P1 T7))));clear J8 o8 o9 P1 T7)
   | (go_at_call 201;have K9:=y9;refine (zM4 _ v1 b (lo,hi) s9 (zA F1) (by omega) (by omega) (zA vH).pos (zA vH).le).mono ?_;rintro r' w2 ⟨p1,p2,r1,r2,l1,l2,NM,V5,kx,v2,rfl,Q8,A8,j5⟩;have F2:=zC Q8;have QS:=zC (And.intro NM (And.intro V5 kx));clear Q8 NM V5 kx;have A6:=zB y9 j5)
   | (go_at_call 202;refine (zHC L (zA HL) _ (n-(stN n d:Int)*d) d b g (zA HI) (zA HG)).mono ?_;rintro r' wg ⟨lo,hi,NI,v1,rfl,I3,s9,b9⟩;have F1:=zC I3;have vH:=zC NI;clear I3 NI;have y9:=zB D8 b9))
 all_goals
  go_wp2_with fail;obtain⟨ls,k1,k2⟩:=zA QS;obtain⟨bal,c1,c2,s1,s2⟩:=zA Z3;obtain⟨lp,g1,Wv⟩:=zFS (zA fP).1 (zA fP).2 bal b N1 N2;refine bodyPost_ret (v:=.agg t.q) (by simp[results,Tryz.results185,go_sem,q0,q1,q2,q3,q4]) rfl ⟨_,_,lgam_ok2 (zA H) E6 hb (zA vH) ls g1 Wv k1 k2 (lb_of (by omega) hb bal.1 s1 s2 804 (by omega) c1 c2) (zA Rn) (zA QI) (zA HL),t,rfl,zA HT,?_,?_⟩
  ·exact SpAt.put5 K4 q0 q1 q2 q3 q4 _ _ _ _ _
  ·exact kM (zB j6 J0) (by omega) _ _ _ _ _
theorem lower_iv (L G:Rat->Nat->Rat) (X:Int->Int->Nat->Rat) (hE:zNU L G X) (w:World) (x y:Nm) (p q n d:Int) (b:Nat) (hx:IntAt w x.neg x.a x.n x.cap 4 n) (hy:IntAt w y.neg y.a y.n y.cap 4 d) (h:LwAr p q n d b) :
  Calls Tryz.prog 159 #[.agg #[.int .i64 p,.int .i64 q],.agg x.q,.agg y.q,.int .i64 b] w (λ r w'=>∃ lo hi,LwPr (lwX L p q n d (gmV p q (G (gA p q)))) b lo hi/\zL w b 30 lo hi r w'):=by
 have p0:=h.p0;have q0:=h.q0;have pq:=h.pq;have qq:=h.qq;have st:StIn p q:=⟨p0,q0,by omega,by omega⟩
 have xd:StIn (p+q) q:=⟨by omega,q0,by omega,by omega⟩
 have ig:=zDV hE st;have n0:=h.n0
 by_cases h0:n=0
 ·exact zM8 L hE.lns w x y p q n d b _ (X p q) hx hy h h0
 ·by_cases hf:d*(2*((b:Int)+p/q+1))<=n
  ·exact zQA L hE.lns w x y p q n d b _ (X p q) hx hy h (by omega) hf ig
  ·refine zM7 L hE.lns w x y p q n d b _ (X (p+q) q) hx hy ⟨p0,q0,pq,qq,by omega,h.d0,h.nn,h.dd,by omega,h.b0,h.b1⟩ ig ?_ ?_
   ·have k:=hE.lg (p+q) q xd
    have e:gmV (p+q) q (G (gA (p+q) q))=λ M=>(p:Rat)/(q:Rat)*gmV p q (G (gA p q)) M:=by
     funext M
     rw[gA_next p0 q0,zLG p0 q0,Rat.mul_comm]
    rw[e] at k;exact k
   ·intro w'
    have g:=hE.gam _ (zFN xd).1 (zFN xd).2;have b1:=h.b1;exact zEU L hE.lns w' (p+q) q b (G (gA (p+q) q)) (X (p+q) q) xd (by omega) h.b0 (by omega) g (g.isGam hE.lns (zFN xd).1).pos (hE.lg (p+q) q xd)
theorem zQG {x:Nat->Rat} {B:Nat} {l u:Int} (h:LwPr x B l u):LwPr (λ M=>1-x M) B (zA3 B (l,u)).1 (zA3 B (l,u)).2:=by
 have i:Iv B (zHY (Q B,Q B) (l,u)) (λ M=>1-x M):=(zGM B).sub h.iv
 have h1:=h.lo;have h2:=h.le;have h3:=h.hi;have h4:=h.wd;have e1:(zA3 B (l,u)).1=Q B-u:=rfl;have e2:(zA3 B (l,u)).2=Q B-l:=rfl;exact⟨by omega,by omega,by omega,by omega,i⟩
structure BpAr (p q r s n d:Int) (B:Nat):Prop where
 p0:0<p
 q0:0<q
 pq:p<=100*q
 qq:q<=2048
 r0:0<r
 s0:0<s
 rs:r<=100*s
 ss:s<=2048
 n0:0<=n
 nd:n<=d
 d0:0<d
 dd:d<=4503599627370496
 b0:40<=B
 b1:B<=400
structure BpPr (L:Rat->Nat->Rat) (p q r s n d:Int) (b:Nat) (lo hi:Int):Prop where
 pr:LwPr (bvX L p q r s n d) b lo hi
 z:n=0->lo=0/\hi=0
 o:n=d->lo=Q b/\hi=Q b
theorem BpAr.turn {p q r s n d:Int} {B:Nat} (h:BpAr p q r s n d B):BpAr r s p q (d-n) d B:=⟨h.r0,h.s0,h.rs,h.ss,h.p0,h.q0,h.pq,h.qq,by have:=h.nd;omega,by have:=h.n0;omega,h.d0,h.dd,h.b0,h.b1⟩
theorem bp_sum {p q r s:Int} (hq:0<q) (hs:0<s):(((p*s+r*q):Int):Rat)/(((q*s):Int):Rat)=(p:Rat)/(q:Rat)+(r:Rat)/(s:Rat):=by
 have qr:(0:Rat)<(q:Rat):=by exact_mod_cast hq
 have sr:(0:Rat)<(s:Rat):=by exact_mod_cast hs
 rw[Rat.intCast_add,Ym,Ym,Ym];have e1:=rdm (a:=(p:Rat)) qr;have e2:=rdm (a:=(r:Rat)) sr;have qs:=Rat.mul_pos qr sr;have e3:=rdm (a:=(p:Rat)*(s:Rat)+(r:Rat)*(q:Rat)) qs;generalize ((p:Rat)*(s:Rat)+(r:Rat)*(q:Rat))/((q:Rat)*(s:Rat))=u at *;generalize (p:Rat)/(q:Rat)=v at *;generalize (r:Rat)/(s:Rat)=z at *;refine zY (c:=(q:Rat)*(s:Rat)) qs ?_;rw[<- e1,<- e2] at e3;grind
theorem bp_st {p q r s:Int} (p0:0<p) (q0:0<q) (pq:p<=100*q) (qq:q<=2048) (r0:0<r) (s0:0<s) (rs:r<=100*s) (ss:s<=2048):StIn p q/\StIn r s/\StIn (p*s+r*q) (q*s)/\(p*s+r*q)<=4611686018427387904:=by
 have m1:=Yg pq (show 0<=s by omega)
 have m2:=Yg rs (show 0<=q by omega)
 have k1:=Int.mul_pos p0 s0;have k2:=Int.mul_pos r0 q0;have k3:=Int.mul_pos q0 s0;have m3:=zEG qq ss (by omega) (by omega)
 have e1:100*q*s=100*(q*s):=by grind
 have e2:100*s*q=100*(q*s):=by grind
 exact⟨⟨p0,q0,by omega,by omega⟩,⟨r0,s0,by omega,by omega⟩,⟨by omega,k3,by omega,by omega⟩,by omega⟩
theorem zHG {L G:Rat->Nat->Rat} {X:Int->Int->Nat->Rat} (hE:zNU L G X) {n d:Int} {b:Nat} (st:StIn n d) (hn:n<=4611686018427387904) (b0:40<=b) (b1:b<=400):zJJ n d b (X n d):=λ w'=>by
 have g:=hE.gam _ (zFN st).1 (zFN st).2;exact zEU L hE.lns w' n d b (G (gA n d)) (X n d) st hn b0 (by omega) g (g.isGam hE.lns (zFN st).1).pos (hE.lg n d st)
theorem bj_log {L G:Rat->Nat->Rat} {X:Int->Int->Nat->Rat} (hE:zNU L G X) {p q r s:Int} (s1:StIn p q) (s2:StIn r s) (s3:StIn (p*s+r*q) (q*s)):IsLog (λ M=>X p q M+X r s M-X (p*s+r*q) (q*s) M) (bJ L ((p:Rat)/(q:Rat)) ((r:Rat)/(s:Rat))):=by
 have i3:=zDV hE s3;rw[bp_sum s1.d0 s2.d0] at i3;have pr:(0:Rat)<(p:Rat):=by exact_mod_cast s1.n0
 have qr:(0:Rat)<(q:Rat):=by exact_mod_cast s1.d0
 have rr:(0:Rat)<(r:Rat):=by exact_mod_cast s2.n0
 have sr:(0:Rat)<(s:Rat):=by exact_mod_cast s2.d0
 exact bJ_log hE.lns (zH pr qr) (zH rr sr) (zDV hE s1) (zDV hE s2) i3 (hE.lg p q s1) (hE.lg r s s2) (hE.lg _ _ s3)
theorem zQ7 (L:Rat->Nat->Rat) (hL:Lns L) (w:World) (x y:Nm) (p q r s n d:Int) (b:Nat) (hx:IntAt w x.neg x.a x.n x.cap 4 n) (hy:IntAt w y.neg y.a y.n y.cap 4 d) (h:BpAr p q r s n d b) (h0:n=0) :
  Calls Tryz.prog 160 #[.agg x.q,.agg y.q,.agg #[.int .i64 p,.int .i64 q],.agg #[.int .i64 r,.int .i64 s],.int .i64 b] w (λ z w'=>LwPr (bvX L p q r s n d) b 0 0/\zL w b 30 0 0 z w'):=by
 obtain⟨W,hW⟩:∃ W,W=((((w.alloc (.cells x.q 29)).alloc (.cells y.q 29)).alloc (.cells #[.int .i64 p,.int .i64 q] 23)).alloc (.cells #[.int .i64 r,.int .i64 s] 23)).alloc (.cells zCq 31):=⟨_,rfl⟩;have j6:Below w.heap.size w W:=by rw[hW];exact bl5 _ _ _ _ _ _
 have X0:NmC W (w.heap.size) x:=by rw[hW];constructor<;>simp[go_sem]
 have Y0:NmC W (w.heap.size+1) y:=by rw[hW];constructor<;>simp[go_sem]
 have A:RaC W (w.heap.size+1+1) p q:=by rw[hW];constructor<;>simp[go_sem]
 have D:RaC W (w.heap.size+1+1+1) r s:=by rw[hW];constructor<;>simp[go_sem]
 have R:NoC W (w.heap.size+1+1+1+1):=by rw[hW];constructor<;>simp[go_sem]
 have HX:=zC (hx.bw j6);have HY:=zC (hy.bw j6);have gF:=X0.c0;have gH:=X0.c1;have zi:=Y0.c0;have zj:=Y0.c1;clear hx hy;have d0:=h.d0;have b1:=h.b1;have dd:=h.dd
 have nc:=zC (show -P 4<d-n/\d-n<P 4 by
  have:P 4=18446744073709551616:=rfl
  exact⟨by omega,by omega⟩)
 have HC:=zC (show zP n (d-n) = -1 by unfold zP;rw[if_pos (by omega)])
 have lM:=zC (show zP n 0=0 by rw[h0];rfl)
 have HV:=zC (show LwPr (bvX L p q r s n d) b 0 0 by
  have q:=zF b;have q2:=zF 89;refine⟨Int.le_refl _,Int.le_refl _,by omega,by omega,?_⟩
  unfold bvX;rw[if_pos h0];have e:((0:Int):Rat)/(Q b:Rat)=0:=by rw[show ((0:Int):Rat)=0 from rfl,Yp,Rat.zero_mul]
  exact Has.const (by rw[e];exact Rat.le_refl) (by rw[e];exact Rat.le_refl))
 have HZ:=zC (show n*Q b/d=0 /\ -(-(n*Q b)/d)=0 by rw[h0,Int.zero_mul];simp)
 clear h h0 hL
 go_enter Tryz.func160,Tryz.ntmps160
 go_upto_region 1 with fail
 rw[<- hW];clear hW;go_wp2_with fail;clear gF gH zi zj;refine (zBR _ _ _ _ _ _ _ _ 4 4 d n _ (zA HY) (zA HX) (by omega) (by omega)).mono ?_
 rintro z0 w0 ⟨negL,aL,nL,cL,rfl,nN,E6⟩;obtain⟨VL,eV⟩:∃ V,V=w0.alloc (.cells #[.bool negL,.slice aL nL cL] 29):=⟨_,rfl⟩;have bVL:Below w0.heap.size w0 VL:=by rw[eV];exact bl1 _ _
 have L0:NmC VL w0.heap.size (⟨negL,aL,nL,cL⟩:Nm):=by rw[eV];constructor<;>simp[go_sem]
 have S4:=zC ((nN.fits (K:=4) (zA nc).1 (zA nc).2).bw bVL);have hbL:=zB E6 bVL;have kL:w.heap.size+1+1+1+1<w0.heap.size:=Yn R.lt E6.size;replace A:=A.bw hbL;replace D:=D.bw hbL;replace X0:=X0.bw hbL;replace Y0:=Y0.bw hbL;replace R:=R.bw hbL;replace HX:=zC ((zA HX).bw hbL);replace HY:=zC ((zA HY).bw hbL);replace j6:=zB j6 hbL;clear hbL E6 bVL nN;obtain⟨av,ax⟩:=X0;obtain⟨gI,gJ⟩:=L0;have lX:=NmC.lt ⟨av,ax⟩;have lL:=NmC.lt ⟨gI,gJ⟩
 go_upto_region 2 with fail
 rw[<- eV];clear eV;go_wp2_with fail;have X0:NmC VL (w.heap.size) x:=⟨av,ax⟩;have L0:NmC VL w0.heap.size (⟨negL,aL,nL,cL⟩:Nm):=⟨gI,gJ⟩;clear av ax gI gJ lX lL;refine (yS _ _ _ _ _ _ _ _ 4 4 n (d-n) _ (zA HX) (zA S4)).mono ?_;rintro z1 w1 ⟨rfl,b9⟩;rw[zA HC];replace A:=A.bw b9;replace D:=D.bw b9;replace X0:=X0.bw b9;replace Y0:=Y0.bw b9;replace R:=R.bw b9;replace L0:=L0.bw b9;replace HX:=zC ((zA HX).bw b9);replace HY:=zC ((zA HY).bw b9);replace S4:=zC ((zA S4).bw b9);replace j6:=zB j6 b9;clear b9;obtain⟨av,ax⟩:=X0;have lX:=NmC.lt ⟨av,ax⟩;go_wp2_with fail;have X0:NmC w1 (w.heap.size) x:=⟨av,ax⟩;clear av ax lX;refine (zA5 _ _ _ _ _ n _ (zA HX)).mono ?_;rintro z2 w2 ⟨rfl,j5⟩;rw[zA lM];replace A:=A.bw j5;replace D:=D.bw j5;replace X0:=X0.bw j5;replace Y0:=Y0.bw j5;replace R:=R.bw j5;replace L0:=L0.bw j5;replace HX:=zC ((zA HX).bw j5);replace HY:=zC ((zA HY).bw j5)
 replace S4:=zC ((zA S4).bw j5);replace j6:=zB j6 j5;clear j5;obtain⟨x0,x1⟩:=X0;obtain⟨y0,y1⟩:=Y0;have lR:=R.lt;have lX:=NmC.lt ⟨x0,x1⟩;have lY:=NmC.lt ⟨y0,y1⟩;go_wp2_with fail;refine (jL _ _ _ _ _ _ _ _ 4 4 b n d _ (zA HX) (zA HY) (by omega) (by omega) d0).mono ?_
 rintro z3 w3 ⟨t,rfl,G8,K4,m8⟩;rw[(zA HZ).1,(zA HZ).2] at K4;have HT:=zC G8;replace j6:=zB j6 m8;obtain⟨q0,q1,q2,q3,q4,q5⟩:=R.bw m8;have W5:=(R.bw m8).lt;clear G8 m8 x0 x1 y0 y1;have fit:=K4.fits (K:=30) (Int.le_refl _) (by have:=kY 30;omega) (kY 30)
 go_wp2_with fail;refine bodyPost_ret (v:=.agg t.q) (by simp[results,Tryz.results160,go_sem,q0,q1,q2,q3,q4]) rfl ⟨zA HV,t,rfl,zA HT,?_,?_⟩
 ·exact SpAt.put5 fit q0 q1 q2 q3 q4 _ _ _ _ _
 ·exact kM j6 (by omega) _ _ _ _ _
theorem zLX (L G:Rat->Nat->Rat) (X:Int->Int->Nat->Rat) (hE:zNU L G X) (w:World) (x y:Nm) (p q r s n d:Int) (b:Nat) (hx:IntAt w x.neg x.a x.n x.cap 4 n) (hy:IntAt w y.neg y.a y.n y.cap 4 d) (h:BpAr p q r s n d b) (h2:2*n<=d) :
  Calls Tryz.prog 160 #[.agg x.q,.agg y.q,.agg #[.int .i64 p,.int .i64 q],.agg #[.int .i64 r,.int .i64 s],.int .i64 b] w (λ z w'=>∃ lo hi,BpPr L p q r s n d b lo hi/\zL w b 30 lo hi z w'):=by
 by_cases h0:n=0
 ·exact (zQ7 L hE.lns w x y p q r s n d b hx hy h h0).mono λ z w' ⟨h1,h2⟩=>⟨0,0,⟨h1,λ _=>⟨rfl,rfl⟩,λ e=>absurd e (by have:=h.d0;omega)⟩,h2⟩
 ·have n0:=h.n0
  obtain⟨s1,s2,s3,hn⟩:=bp_st h.p0 h.q0 h.pq h.qq h.r0 h.s0 h.rs h.ss;have pq:=h.pq;have rs:=h.rs;have qq:=h.qq;have ss:=h.ss
  have e:bvX L p q r s n d=bv L ((p:Rat)/(q:Rat)) ((r:Rat)/(s:Rat)) ((n:Rat)/(d:Rat)):=by
   unfold bvX;rw[if_neg h0,if_neg (by omega)]
  refine (zQ4 L hE.lns w x y p q r s n d b (X p q) (X r s) (X (p*s+r*q) (q*s)) hx hy ⟨h.p0,h.q0,h.pq,h.qq,h.r0,h.s0,h.rs,h.ss,by omega,h2,h.dd,h.b0,h.b1⟩ (bj_log hE s1 s2 s3) (zHG hE s1 (by omega) h.b0 h.b1) (zHG hE s2 (by omega) h.b0 h.b1) (zHG hE s3 hn h.b0 h.b1)).mono λ z w' ⟨lo,hi,h1,h3⟩=>⟨lo,hi,⟨?_,λ k=>absurd k h0,λ k=>absurd k (by omega)⟩,h3⟩
  rw[e];exact h1
theorem LwPr.congr {x y:Nat->Rat} {B:Nat} {l u:Int} (h:LwPr x B l u) (k:Null (λ M=>y M-x M)):LwPr y B l u:=⟨h.lo,h.le,h.hi,h.wd,Has.congr h.iv k⟩
theorem bvX_turn {L:Rat->Nat->Rat} (hL:Lns L) {p q r s n d:Int} (p0:0<p) (q0:0<q) (r0:0<r) (s0:0<s) (n0:0<=n) (nd:n<=d) (d0:0<d):Null (λ M=>bvX L p q r s n d M-(1-bvX L r s p q (d-n) d M)):=by
 unfold bvX
 by_cases h0:n=0
 ·rw[if_pos h0,if_neg (show ¬ d-n=0 by omega),if_pos (show d-n=d by omega)]
  exact null_zero.of_eq λ M=>by grind
 ·by_cases h1:n=d
  ·rw[if_neg h0,if_pos h1,if_pos (show d-n=0 by omega)]
   exact null_zero.of_eq λ M=>by grind
  ·rw[if_neg h0,if_neg h1,if_neg (show ¬ d-n=0 by omega),if_neg (show ¬ d-n=d by omega)]
   have pr:(0:Rat)<(p:Rat):=by exact_mod_cast p0
   have qr:(0:Rat)<(q:Rat):=by exact_mod_cast q0
   have rr:(0:Rat)<(r:Rat):=by exact_mod_cast r0
   have sr:(0:Rat)<(s:Rat):=by exact_mod_cast s0
   have nr:(0:Rat)<(n:Rat):=by exact_mod_cast (show 0<n by omega)
   have dr:(0:Rat)<(d:Rat):=by exact_mod_cast d0
   have e:((d-n:Int):Rat)/(d:Rat)=1-(n:Rat)/(d:Rat):=by
    rw[Rat.intCast_sub,Yp,Yp];have:=Rat.mul_inv_cancel (d:Rat) (by grind)
    grind
   rw[e]
   have lt:(n:Rat)/(d:Rat)<1:=by
    refine Rat.lt_of_mul_lt_mul_right (c:=(d:Rat)) ?_ (Yh dr);rw[rdm dr];have:(n:Rat)<(d:Rat):=by exact_mod_cast (show n<d by omega)
    grind
   exact zOY hL (zH pr qr) (zH rr sr) (zH nr dr) lt
theorem zQ6 (L G:Rat->Nat->Rat) (X:Int->Int->Nat->Rat) (hE:zNU L G X) (w:World) (x y:Nm) (p q r s n d:Int) (b:Nat) (hx:IntAt w x.neg x.a x.n x.cap 4 n) (hy:IntAt w y.neg y.a y.n y.cap 4 d) (h:BpAr p q r s n d b) (h2:d<2*n) :
  Calls Tryz.prog 160 #[.agg x.q,.agg y.q,.agg #[.int .i64 p,.int .i64 q],.agg #[.int .i64 r,.int .i64 s],.int .i64 b] w (λ z w'=>∃ lo hi,BpPr L p q r s n d b lo hi/\zL w b 61 lo hi z w'):=by
 obtain⟨W,hW⟩:∃ W,W=((((w.alloc (.cells x.q 29)).alloc (.cells y.q 29)).alloc (.cells #[.int .i64 p,.int .i64 q] 23)).alloc (.cells #[.int .i64 r,.int .i64 s] 23)).alloc (.cells zCq 31):=⟨_,rfl⟩;have j6:Below w.heap.size w W:=by rw[hW];exact bl5 _ _ _ _ _ _
 have X0:NmC W (w.heap.size) x:=by rw[hW];constructor<;>simp[go_sem]
 have Y0:NmC W (w.heap.size+1) y:=by rw[hW];constructor<;>simp[go_sem]
 have A:RaC W (w.heap.size+1+1) p q:=by rw[hW];constructor<;>simp[go_sem]
 have D:RaC W (w.heap.size+1+1+1) r s:=by rw[hW];constructor<;>simp[go_sem]
 have R:NoC W (w.heap.size+1+1+1+1):=by rw[hW];constructor<;>simp[go_sem]
 have HX:=zC (hx.bw j6);have HY:=zC (hy.bw j6);have gF:=X0.c0;have gH:=X0.c1;have zi:=Y0.c0;have zj:=Y0.c1;clear hx hy;have d0:=h.d0;have b0:=h.b0;have b1:=h.b1;have dd:=h.dd;have nd:=h.nd
 have nc:=zC (show -P 4<d-n/\d-n<P 4 by
  have:P 4=18446744073709551616:=rfl
  exact⟨by omega,by omega⟩)
 have HC:=zC (show zP n (d-n)=1 by unfold zP;rw[if_neg (by omega),if_pos (by omega)])
 have S5:=zC (bvX_turn hE.lns h.p0 h.q0 h.r0 h.s0 h.n0 h.nd h.d0);have Qs:=zC h.turn;have HE:=zC hE;clear h hE
 go_enter Tryz.func160,Tryz.ntmps160
 go_upto_region 1 with fail
 rw[<- hW];clear hW;go_wp2_with fail;clear gF gH zi zj;refine (zBR _ _ _ _ _ _ _ _ 4 4 d n _ (zA HY) (zA HX) (by omega) (by omega)).mono ?_
 rintro z0 w0 ⟨negL,aL,nL,cL,rfl,nN,E6⟩;obtain⟨VL,eV⟩:∃ V,V=w0.alloc (.cells #[.bool negL,.slice aL nL cL] 29):=⟨_,rfl⟩;have bVL:Below w0.heap.size w0 VL:=by rw[eV];exact bl1 _ _
 have L0:NmC VL w0.heap.size (⟨negL,aL,nL,cL⟩:Nm):=by rw[eV];constructor<;>simp[go_sem]
 have S4:=zC ((nN.fits (K:=4) (zA nc).1 (zA nc).2).bw bVL);have hbL:=zB E6 bVL;have kL:w.heap.size+1+1+1+1<w0.heap.size:=Yn R.lt E6.size;replace A:=A.bw hbL;replace D:=D.bw hbL;replace X0:=X0.bw hbL;replace Y0:=Y0.bw hbL;replace R:=R.bw hbL;replace HX:=zC ((zA HX).bw hbL);replace HY:=zC ((zA HY).bw hbL);replace j6:=zB j6 hbL;clear hbL E6 bVL nN;obtain⟨av,ax⟩:=X0;obtain⟨gI,gJ⟩:=L0;have lX:=NmC.lt ⟨av,ax⟩;have lL:=NmC.lt ⟨gI,gJ⟩
 go_upto_region 2 with fail
 rw[<- eV];clear eV;go_wp2_with fail;have X0:NmC VL (w.heap.size) x:=⟨av,ax⟩;have L0:NmC VL w0.heap.size (⟨negL,aL,nL,cL⟩:Nm):=⟨gI,gJ⟩;clear av ax gI gJ lX lL;refine (yS _ _ _ _ _ _ _ _ 4 4 n (d-n) _ (zA HX) (zA S4)).mono ?_;rintro z1 w1 ⟨rfl,b9⟩;rw[zA HC];replace A:=A.bw b9;replace D:=D.bw b9;replace X0:=X0.bw b9;replace Y0:=Y0.bw b9;replace R:=R.bw b9;replace L0:=L0.bw b9;replace HX:=zC ((zA HX).bw b9);replace HY:=zC ((zA HY).bw b9);replace S4:=zC ((zA S4).bw b9);replace j6:=zB j6 b9;clear b9;obtain⟨x0,x1⟩:=L0;obtain⟨y0,y1⟩:=Y0;have aa:=A.c0;have ab:=A.c1;have da:=D.c0;have db:=D.c1;have lA:=A.lt;have lD:=D.lt;have lL:=NmC.lt ⟨x0,x1⟩;have lY:=NmC.lt ⟨y0,y1⟩;go_wp2_with fail;refine (zLX L G X (zA HE) _ (⟨negL,aL,nL,cL⟩:Nm) y r s p q (d-n) d b (zA S4) (zA HY) (zA Qs) (by omega)).mono ?_
 rintro z2 w2 ⟨lo,hi,hv,t,rfl,G8,K4,j5⟩;have HV:=zC hv;have Ri:=zC G8;replace R:=R.bw j5;replace j6:=zB j6 j5;clear hv G8 j5 x0 x1 y0 y1 aa ab da db lA lD lL lY;go_wp2_with fail;refine (zEJ _ t 60 b (lo,hi) (K4.mono (by omega)) (zA Ri) (by omega) (by omega) (by omega)).mono ?_
 rintro z3 w3 ⟨u,rfl,D5,B9,m8⟩;have HU:=zC D5;replace j6:=zB j6 m8;obtain⟨q0,q1,q2,q3,q4,q5⟩:=R.bw m8;have W5:=(R.bw m8).lt;clear D5 m8;go_wp2_with fail;refine bodyPost_ret (v:=.agg u.q) (by simp[results,Tryz.results160,go_sem,q0,q1,q2,q3,q4]) rfl ⟨_,_,⟨(zQG (zA HV).pr).congr (zA S5),λ k=>absurd k (by omega),λ k=>by obtain⟨k1,k2⟩:=(zA HV).z (by omega);subst k1 k2;exact⟨Int.sub_zero _,Int.sub_zero _⟩⟩,u,rfl,zA HU,?_,?_⟩
 ·exact SpAt.put5 B9 q0 q1 q2 q3 q4 _ _ _ _ _
 ·exact kM j6 (by omega) _ _ _ _ _
theorem zQ3 (L G:Rat->Nat->Rat) (X:Int->Int->Nat->Rat) (hE:zNU L G X) (w:World) (x y:Nm) (p q r s n d:Int) (b:Nat) (hx:IntAt w x.neg x.a x.n x.cap 4 n) (hy:IntAt w y.neg y.a y.n y.cap 4 d) (h:BpAr p q r s n d b) :
  Calls Tryz.prog 160 #[.agg x.q,.agg y.q,.agg #[.int .i64 p,.int .i64 q],.agg #[.int .i64 r,.int .i64 s],.int .i64 b] w (λ z w'=>∃ lo hi,BpPr L p q r s n d b lo hi/\zL w b 61 lo hi z w'):=by
 by_cases h2:2*n<=d
 ·exact (zLX L G X hE w x y p q r s n d b hx hy h h2).mono λ z w' ⟨lo,hi,h1,t,a1,a2,a3,a4⟩=>⟨lo,hi,h1,t,a1,a2,a3.mono (by omega),a4⟩
 ·exact zQ6 L G X hE w x y p q r s n d b hx hy h (by omega)
namespace Ex
end Ex
theorem iv_lt {B:Nat} {a:Int × Int} {x:Nat->Rat} (h:Iv B a x) {c:Rat} (k:LeN x (λ _=>c)) {z:Int} (hz:c*(Q B:Rat)<(z:Rat)):a.1<z:=by
 have q:=jJ B
 have l:(a.1:Rat)/(Q B:Rat)<=c:=by
  refine Rat.not_lt.1 λ E2=>?_
  obtain⟨e,he⟩:∃ e,e=((a.1:Rat)/(Q B:Rat)-c)/4:=⟨_,rfl⟩;have e0:0<e:=by grind
  obtain⟨N1,k1⟩:=h e e0;obtain⟨N2,k2⟩:=k e e0;have a1:=(k1 (N1+N2) (by omega)).1
  have a2:=k2 (N1+N2) (by omega)
  simp only[] at a2;grind
 have m:=Yf l (Yh q);rw[rdm q] at m
 exact_mod_cast (show (a.1:Rat)<(z:Rat) by grind)
theorem iv_gt {B:Nat} {a:Int × Int} {x:Nat->Rat} (h:Iv B a x) {c:Rat} (k:LeN (λ _=>c) x) {z:Int} (hz:(z:Rat)<c*(Q B:Rat)):z<a.2:=by
 have q:=jJ B
 have l:c<=(a.2:Rat)/(Q B:Rat):=by
  refine Rat.not_lt.1 λ E2=>?_
  obtain⟨e,he⟩:∃ e,e=(c-(a.2:Rat)/(Q B:Rat))/4:=⟨_,rfl⟩;have e0:0<e:=by grind
  obtain⟨N1,k1⟩:=h e e0;obtain⟨N2,k2⟩:=k e e0;have a1:=(k1 (N1+N2) (by omega)).2
  have a2:=k2 (N1+N2) (by omega)
  simp only[] at a2;grind
 have m:=Yf l (Yh q);rw[rdm q] at m
 exact_mod_cast (show (z:Rat)<(a.2:Rat) by grind)
open Go.RowKit
attribute [local go_sem ↓] Go.wp_at_zero Go.wp_at_succ
theorem sure_gen (ff:Nat) (cs:Array Value) (Gp:∀ (args:Array Value) (w:World),(callFunc ff args).run Tryz.prog w=.ok (.enter ff args) w) (bits Kw KD:Nat) (Pr:Nat->Int->Int->Prop) (W:World) (hb:bits<=120) (Nj:Kw<=900000) (Ae:KD<=100000000) (hE:zGW bits Kw Pr)
  (hF:∀ (m:Nat) w',32<=m->m<=Kw+120->Below W.heap.size W w'->Calls Tryz.prog ff (#[.int .i64 ((bits:Int)+m)] ++ cs) w' (λ r J2=>∃ lo hi,Pr (bits+m) lo hi/\zL w' ((bits:Int)+m) KD lo hi r J2)) :
  Calls Tryz.prog 55 #[.int .i64 bits,.func (.func ff) #[] cs] W (λ r w'=>∃ L H,zH3 bits Pr L H/\zL W bits 250 L H r w'):=by
 have HF:=zC hF;have HE:=zC hE;clear hF hE;have wm:=zS W 31
 go_enter Tryz.func55,Tryz.ntmps55
 go_wp2_with fail
 go_loopw [5,6] (λ mm tt wr=>∃ m t:Nat,mm=.int .i64 (m:Int)/\tt=.int .i64 (t:Int)/\SureInv Kw m t/\NoC wr W.heap.size/\Below W.heap.size W wr) (λ mm _ _=>Kw+200-(intOf mm).toNat)
 case atStart=>exact⟨32,1,rfl,rfl,⟨Yj _,Yj _,by omega,Or.inl ⟨by omega,by omega⟩⟩,wm,bl1 _ _⟩
 case round =>
  obtain⟨m,t,rfl,rfl,hinv,R,hB⟩:=hrel;obtain⟨hm,ht,htm,NR⟩:=hinv;have hmK:m<=Kw+120:=by omega
  have HI:=zC NR;clear NR;go_wp2_with fail;refine (zA HF m _ hm hmK hB).mono ?_;rintro r w1 ⟨lo,hi,FL,s,rfl,tj,AP,b9⟩;replace R:=R.bw b9;replace hB:=zB hB b9;clear b9;obtain⟨e1,e2,e3,e4⟩:=zA HE m lo hi FL;obtain⟨v1,v2,v3⟩:=zME (m:=m) e1 e2;obtain⟨f1,f2⟩:=to_fit e3 e4;have Me:=zC FL;have HV:=zC (And.intro v2 v3);have AO:0<=s.bits:=by omega
  have hs1:s.bits<=1000000:=by omega
  have d1:zCR lo (s.bits-bits)=lo/Q m:=by unfold zCR;rw[tj,if_pos (by omega)];congr 2;omega
  have d2:zCR (-hi) (s.bits-bits) = -hi/Q m:=by unfold zCR;rw[tj,if_pos (by omega)];congr 2;omega
  have xl:=zC d1;have xm:=zC d2;clear FL e1 e2 e3 e4 v2 v3 d1 d2 tj;go_wp2_with fail;refine (zGT _ s KD bits lo hi AP (by omega) AO hs1 (by omega) (by omega)).mono ?_
  rintro r w2 ⟨u,rfl,D5,B9,j5⟩;rw[zA xl,zA xm] at B9;obtain⟨L,hL⟩:∃ L,L=lo/Q m:=⟨_,rfl⟩;obtain⟨H,hH⟩:∃ H,H = -(-hi/Q m):=⟨_,rfl⟩;rw[<- hL,<- hH] at B9 v1;rw[<- hL] at f1;rw[<- hH] at f2;have ni:=zC (show (Kw<=m->H-L<=2)/\(m<=Kw->H-L<=Q (Kw-m)+1) by rw[hL,hH];exact zA HV)
  have HL:=zC hL;have HH:=zC hH;replace B9:=B9.fits (K:=250) (by omega) f1 f2
  replace R:=R.bw j5;replace hB:=zB hB j5;have G3:=zC D5;clear j5 hL hH D5 AO hs1 xl xm HV AP;have lR:=R.lt;obtain⟨V,hV⟩:∃ V,V=w2.alloc (.cells u.q 31):=⟨_,rfl⟩;have bV:Below w2.heap.size w2 V:=by rw[hV];exact bl1 _ _
  have U:SpC V w2.heap.size u:=by rw[hV];exact⟨by simp,by simp,by simp,by simp,by simp⟩
  replace R:=R.bw bV;replace hB:=zB hB bV;replace B9:=B9.bw bV;clear bV;go_wp2_with fail;rw[<- hV];clear hV;refine (zBR _ _ _ _ _ _ _ _ 250 250 H L _ B9.hi B9.lo (by omega) (by omega)).mono ?_
  rintro r w3 ⟨C7,a3,n3,c3,rfl,E8,m8⟩;replace U:=U.bw m8;replace R:=R.bw m8;replace hB:=zB hB m8;replace B9:=B9.bw m8;clear m8;go_wp2_with fail;refine (zDL _ _ _ _ _ (H-L) _ E8 v1).mono ?_;rintro r w4 ⟨l,hlen,rfl,A5⟩;replace U:=U.bw A5;replace R:=R.bw A5;replace hB:=zB hB A5;replace B9:=B9.bw A5;clear A5 E8
  have NL:0<=l/\l<=Kw+2/\(m<=Kw->l<=Kw-m+2)/\(Kw<=m->l<=2):=by
   obtain⟨g1,g2⟩:=zA ni;refine⟨hlen.1,?_,λ h=>?_,λ h=>?_⟩
   ·rcases Nat.le_total m Kw with h|h
    ·have:=zPX (K:=Kw-m) hlen (g2 h) v1;omega
    ·have:=zP0 hlen (g1 h) v1;omega
   ·have:=zPX (K:=Kw-m) hlen (g2 h) v1;omega
   ·exact zP0 hlen (g1 h) v1
  obtain⟨wJ,ak,Z9,GI⟩:=NL;have Et:=zC (And.intro Z9 GI);have Ey:=zC hlen;clear Z9 GI hlen;have lU:=U.lt;have W5:=R.lt;have nRU:W.heap.size≠w2.heap.size:=by omega
  have Ij:w2.heap.size≠W.heap.size:=by omega
  have HU:=zC U;obtain⟨x0,x1,x2,x3,x4⟩:=U
  by_cases hc:l<=1
  ·have hN:=R
   obtain⟨q0,q1,q2,q3,q4,q5⟩:=R;have Hc:=zC hc;go_wp2_with fail;refine bodyPost_ret (v:=.agg u.q) (by simp[results,Tryz.results55,go_sem,q0,q1,q2,q3,q4]) rfl ⟨L,H,⟨m,lo,hi,zA Me,hm,zA HL,zA HH,Or.inl (zPZ (zA Ey) (zA Hc) v1)⟩,u,rfl,zA G3,?_,?_⟩
   ·exact SpAt.put5 B9 q0 q1 q2 q3 q4 _ _ _ _ _
   ·exact kM hB (Yj _) _ _ _ _ _
  ·by_cases ht3:3<=t
   ·have Ha:(3:Int)<=(t:Int):=by omega
    cases hn:zNC L H (Q bits) 4
    ·have VG:m<Kw:=by
      refine Nat.lt_of_not_le λ h=>?_
      have h5:=(zA ni).1 h;rw[zC8 (by omega) (by omega)] at hn
      cases hn
     go_wp2_with fail;refine (zGL _ u bits 4 L H B9 (zA G3) hb (by omega)).mono ?_
     rintro r w5 ⟨rfl,E4⟩;rw[show zNC L H (Q bits) ((4:Nat):Int)=false from hn]
     replace R:=R.bw E4;replace hB:=zB hB E4;go_wp2_with fail
     go_roundw
     case rel=>exact⟨m+l.toNat+32,t+1,by congr 1;omega,by congr 1,⟨by omega,by omega,by omega,Or.inr (by have:=(zA Et).1;omega)⟩,R,hB⟩
     case measure=>simp[intOf];omega
    ·go_wp2_with fail
     refine (zGL _ u bits 4 L H B9 (zA G3) hb (by omega)).mono ?_
     rintro r w5 ⟨rfl,E4⟩;rw[show zNC L H (Q bits) ((4:Nat):Int)=true from hn]
     replace R:=R.bw E4;replace hB:=zB hB E4;replace B9:=B9.bw E4;obtain⟨y0,y1,y2,y3,y4⟩:=(zA HU).bw E4;obtain⟨q0,q1,q2,q3,q4,q5⟩:=R;have WJ:=Yn lU E4.size;have fJ:=Yn W5 E4.size;clear E4 x0 x1 x2 x3 x4;go_wp2_with fail;refine bodyPost_ret (v:=.agg u.q) (by simp[results,Tryz.results55,go_sem,q0,q1,q2,q3,q4]) rfl ⟨L,H,⟨m,lo,hi,zA Me,hm,zA HL,zA HH,Or.inr hn⟩,u,rfl,zA G3,?_,?_⟩
     ·exact SpAt.put5 B9 q0 q1 q2 q3 q4 _ _ _ _ _
     ·exact kM hB (Yj _) _ _ _ _ _
   ·have Ha:¬ (3:Int)<=(t:Int):=by omega
    go_wp2_with fail
    go_roundw
    case rel=>exact⟨m+l.toNat+32,t+1,by congr 1;omega,by congr 1,⟨by omega,by omega,by omega,by
     have g1:=(zA Et).1;have g2:=(zA Et).2;have g3:=zA HI
     rcases Nat.le_total m Kw with h|h
     ·have:=g1 h;exact Or.inr (by omega)
     ·have:=g2 h;exact Or.inl ⟨by omega,by omega⟩⟩,R,hB⟩
    case measure=>simp[intOf];omega
theorem zMY (args:Array Value) (w:World):(callFunc 90 args).run Tryz.prog w=.ok (.enter 90 args) w:=by simp[go_sem,callFunc,Tryz.func90];kernel_rfl
end Go.Proofs.YtgmnknmjainabacGreat
