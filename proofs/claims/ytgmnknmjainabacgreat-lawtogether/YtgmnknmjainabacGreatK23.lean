/-
  Its own texts.
-/
import Derived.Test.YtgmnknmjainabacGreatK22
set_option maxRecDepth 100000
set_option maxHeartbeats 40000000
set_option linter.unnecessarySimpa false
set_option linter.unusedSimpArgs false
set_option linter.unusedVariables false
namespace Go.Proofs.YtgmnknmjainabacGreat
open Go.RowKit
attribute [local go_sem ↓] Go.wp_at_zero Go.wp_at_succ
open Ex
theorem zPK (L:Rat->Nat->Rat) (hL:Lns L) (w:World) (x y:Nm) (p q n d:Int) (b:Nat) (g X:Nat->Rat) (hx:IntAt w x.neg x.a x.n x.cap 4 n) (hy:IntAt w y.neg y.a y.n y.cap 4 d) (h:LwAr p q n d b) (h0:n=0) :
  Calls Tryz.prog 159 #[.agg #[.int .i64 p,.int .i64 q],.agg x.q,.agg y.q,.int .i64 b] w (λ r w'=>∃ lo hi,LwPr (lwX L p q n d g) b lo hi/\zH w b 30 lo hi r w'):=by
 obtain⟨W,hW⟩:∃ W,W=(((w.alloc (.cells #[.int .i64 p,.int .i64 q] 23)).alloc (.cells x.q 29)).alloc (.cells y.q 29)).alloc (.cells zCq 31):=⟨_,rfl⟩;have j6:Below w.heap.size w W:=by rw[hW];exact bl4 _ _ _ _ _
 have A:RaC W (w.heap.size) p q:=by rw[hW];constructor<;>simp[go_sem]
 have X0:NmC W (w.heap.size+1) x:=by rw[hW];constructor<;>simp[go_sem]
 have Y0:NmC W (w.heap.size+1+1) y:=by rw[hW];constructor<;>simp[go_sem]
 have R:NoC W (w.heap.size+1+1+1):=by rw[hW];constructor<;>simp[go_sem]
 have HX:=zC (hx.bw j6);have HY:=zC (hy.bw j6);have jo:=X0.c0;have jq:=X0.c1;have lX:=X0.lt;clear hx hy;have d0:=h.d0;have b1:=h.b1;have ox:=zC (show zM n 0=0 by rw[h0];rfl)
 have HV:=zC (show LwPr (lwX L p q n d g) b 0 0 by
  have q:=zE b;have q2:=zE 89;refine⟨Int.le_refl _,Int.le_refl _,by omega,by omega,?_⟩
  unfold lwX;rw[if_pos h0];have e:((0:Int):Rat)/(Q b:Rat)=0:=by rw[show ((0:Int):Rat)=0 from rfl,YE,Rat.zero_mul]
  exact Has.const (by rw[e];exact Rat.le_refl) (by rw[e];exact Rat.le_refl))
 have HZ:=zC (show n*Q b/d=0 /\ -(-(n*Q b)/d)=0 by rw[h0,Int.zero_mul];simp)
 clear h h0 hL
 go_enter Tryz.func159,Tryz.ntmps159
 go_wp2_with fail;rw[<- hW];clear hW jo jq lX;refine (zBG _ _ _ _ _ n _ (zA HX)).mono ?_;rintro r w1 ⟨rfl,b9⟩;rw[zA ox];replace A:=A.bw b9;replace X0:=X0.bw b9;replace Y0:=Y0.bw b9;replace R:=R.bw b9;replace HX:=zC ((zA HX).bw b9);replace HY:=zC ((zA HY).bw b9);replace j6:=zB j6 b9;clear b9;obtain⟨x0,x1⟩:=X0;obtain⟨y0,y1⟩:=Y0;have lR:=R.lt;have lX:=NmC.lt ⟨x0,x1⟩;have lY:=NmC.lt ⟨y0,y1⟩;go_wp2_with fail;refine (jI _ _ _ _ _ _ _ _ 4 4 b n d _ (zA HX) (zA HY) (by omega) (by omega) d0).mono ?_
 rintro r w2 ⟨t,rfl,I2,K5,j8⟩;rw[(zA HZ).1,(zA HZ).2] at K5;have HT:=zC I2;replace j6:=zB j6 j8;obtain⟨q0,q1,q2,q3,q4,q5⟩:=R.bw j8;have Z6:=R.lt;clear I2 j8 x0 x1 y0 y1;have fit:=K5.fits (K:=30) (Int.le_refl _) (by have:=yF 30;omega) (yF 30)
 go_wp2_with fail;refine bodyPost_ret (v:=.agg t.q) (by simp[results,Tryz.results159,go_sem,q0,q1,q2,q3,q4]) rfl ⟨_,_,zA HV,t,rfl,zA HT,?_,?_⟩
 ·exact SpAt.put5 fit q0 q1 q2 q3 q4 _ _ _ _ _
 ·exact jV j6 (by omega) _ _ _ _ _
theorem zSZ (L:Rat->Nat->Rat) (hL:Lns L) (w:World) (x y:Nm) (p q n d:Int) (b:Nat) (g X:Nat->Rat) (hx:IntAt w x.neg x.a x.n x.cap 4 n) (hy:IntAt w y.neg y.a y.n y.cap 4 d) (h:LwAr p q n d b) (h0:0<n) (hf:d*(2*((b:Int)+p/q+1))<=n) (ig:IsGam L ((p:Rat)/(q:Rat)) g) :
  Calls Tryz.prog 159 #[.agg #[.int .i64 p,.int .i64 q],.agg x.q,.agg y.q,.int .i64 b] w (λ r w'=>∃ lo hi,LwPr (lwX L p q n d g) b lo hi/\zH w b 30 lo hi r w'):=by
 obtain⟨W,hW⟩:∃ W,W=(((w.alloc (.cells #[.int .i64 p,.int .i64 q] 23)).alloc (.cells x.q 29)).alloc (.cells y.q 29)).alloc (.cells zCq 31):=⟨_,rfl⟩;have j6:Below w.heap.size w W:=by rw[hW];exact bl4 _ _ _ _ _
 have A:RaC W (w.heap.size) p q:=by rw[hW];constructor<;>simp[go_sem]
 have X0:NmC W (w.heap.size+1) x:=by rw[hW];constructor<;>simp[go_sem]
 have Y0:NmC W (w.heap.size+1+1) y:=by rw[hW];constructor<;>simp[go_sem]
 have R:NoC W (w.heap.size+1+1+1):=by rw[hW];constructor<;>simp[go_sem]
 have HX:=zC (hx.bw j6);have HY:=zC (hy.bw j6);have jo:=X0.c0;have jq:=X0.c1;have lX:=X0.lt;clear hx hy;have d0:=h.d0;have b0:=h.b0;have b1:=h.b1;have ox:=zC (show zM n 0=1 by unfold zM;rw[if_neg (by omega),if_pos (by omega)])
 have iH:=zC (show 0<p/\0<q/\p<=1152921504606846976 by have:=h.p0;have:=h.q0;have:=h.pq;have:=h.qq;exact⟨h.p0,h.q0,by omega⟩)
 have AO:=zC (show -9223372036854775808<=2*((b:Int)+p/q+1)/\2*((b:Int)+p/q+1)<=9223372036854775807 by
  have:=Int.ediv_nonneg (Int.le_of_lt h.p0) (Int.le_of_lt h.q0);have:p/q<=100:=Int.ediv_le_of_le_mul h.q0 h.pq;have:=h.b1
  exact⟨by omega,by omega⟩)
 have HV:=zC (show LwPr (lwX L p q n d g) b (Q b-1) (Q b) by
  unfold lwX;rw[if_neg (by omega)]
  exact lw_farI hL h.p0 h.q0 d0 hf (by omega) ig)
 have GJ:=zC (zGK (zA HV) b1);obtain⟨cc,oR,E5⟩:∃ cc:Int,0<=cc/\zM n (d*(2*((b:Int)+p/q+1)))=cc:=⟨_,by unfold zM;split;omega;split<;>omega,rfl⟩
 have HC:=zC E5;clear h h0 hf hL ig E5
 go_enter Tryz.func159,Tryz.ntmps159
 go_wp2_with fail;rw[<- hW];clear hW jo jq lX;refine (zBG _ _ _ _ _ n _ (zA HX)).mono ?_;rintro r w1 ⟨rfl,b9⟩;rw[zA ox];replace A:=A.bw b9;replace X0:=X0.bw b9;replace Y0:=Y0.bw b9;replace R:=R.bw b9;replace HX:=zC ((zA HX).bw b9);replace HY:=zC ((zA HY).bw b9);replace j6:=zB j6 b9;clear b9;have lA:=A.lt;have lX:=X0.lt;have lY:=Y0.lt;have lR:=R.lt;have HK:=zC (show ∀ w',Below w1.heap.size w1 w'->(rK w' w.heap.size p q (nK w' (w.heap.size+1) x (nK0 w' (w.heap.size+1+1) y))) from λ w' hB=>⟨(A.bw hB).c0,(A.bw hB).c1,(X0.bw hB).c0,(X0.bw hB).c1,(Y0.bw hB).c0,(Y0.bw hB).c1⟩)
 have E2:Below w1.heap.size w1 w1.drew:=(Below.refl _ _).drew;go_wp2_with fail;obtain⟨x0,x1,x2,x3,x4,x5⟩:=zA HK _ (Below.refl _ _)
 go_region_held3 (λ w'=>rK w' w.heap.size p q (nK w' (w.heap.size+1) x (nK0 w' (w.heap.size+1+1) y))) (first|exact zA HK _ (by with_reducible first|exact E2|exact G3|exact A9|exact o9|exact A7)|(dsimp only[cK,cK0,nK,nK0,rK,rK0];go_keep)|go_keep)
  (first
   | (go_at_call 17;have hq:=A9;refine (jP _ _ _ _ _ _ _ _ 4 (4+4) n (d*(2*((b:Int)+p/q+1))) _ ((zA HX).bw A9) E7).mono ?_;rintro r w5 ⟨rfl,D8⟩;rw[zA HC];have G3:=zB A9 D8;have i0:=zA HK _ G3)
   | (go_at_call 83;have hq:=o9;refine (zV _ _ _ _ _ _ _ _ 4 4 d (2*((b:Int)+p/q+1)) _ ((zA HY).bw o9) A5 (by omega) (by omega)).mono ?_;rintro r w4 ⟨B9,a3,n3,c3,rfl,E7,p9⟩;have A9:=zB o9 p9)
   | (go_at_call 33;have hq:=A7;refine (zD (2*((b:Int)+p/q+1)) _ (zA AO).1 (zA AO).2).mono ?_;rintro r w3 ⟨j7,a2,n2,c2,rfl,A5,m8⟩;have o9:=zB A7 m8)
   | (go_at_call 179;refine (zFB _ p q b (zA iH).1 (zA iH).2.1 (zA iH).2.2 (by omega)).mono ?_;rintro r w2 ⟨rfl,j8⟩;have A7:=zB E2 j8))
 all_goals
  have R3:=R.bw G3;replace j6:=zB j6 G3;have iE:=R3.lt;clear x0 x1 x2 x3 x4 x5 i0 A5 E7;go_wp2_with fail;refine (zEG _ b (by omega)).mono ?_
  rintro r w6 ⟨t,rfl,I2,K5,K7⟩;obtain⟨q0,q1,q2,q3,q4,q5⟩:=R3.bw K7;replace j6:=zB j6 K7;have HT:=zC I2;clear I2;have fit:=K5.fits (K:=30) (zA GJ).1 (zA GJ).2.1 (zA GJ).2.2;go_wp2_with fail;refine bodyPost_ret (v:=.agg t.q) (by simp[results,Tryz.results159,go_sem,q0,q1,q2,q3,q4]) rfl ⟨_,_,zA HV,t,rfl,zA HT,?_,?_⟩
  ·exact SpAt.put5 fit q0 q1 q2 q3 q4 _ _ _ _ _
  ·exact jV j6 (by omega) _ _ _ _ _
theorem zPJ (L:Rat->Nat->Rat) (hL:Lns L) (w:World) (x y:Nm) (p q n d:Int) (b:Nat) (g X:Nat->Rat) (hx:IntAt w x.neg x.a x.n x.cap 4 n) (hy:IntAt w y.neg y.a y.n y.cap 4 d) (h:zMT p q n d b) (ig:IsGam L ((p:Rat)/(q:Rat)) g) (hX:IsLog X (λ M=>(p:Rat)/(q:Rat)*g M)) (QG:∀ w',Calls Tryz.prog 185 #[.int .i64 (p+q),.int .i64 q,.int .i64 b] w' (λ r T4=>∃ lo hi,zP8 X b lo hi/\zH w' b 521 lo hi r T4)) :
  Calls Tryz.prog 159 #[.agg #[.int .i64 p,.int .i64 q],.agg x.q,.agg y.q,.int .i64 b] w (λ r w'=>∃ lo hi,LwPr (lwX L p q n d g) b lo hi/\zH w b 30 lo hi r w'):=by
 obtain⟨W,hW⟩:∃ W,W=(((w.alloc (.cells #[.int .i64 p,.int .i64 q] 23)).alloc (.cells x.q 29)).alloc (.cells y.q 29)).alloc (.cells zCq 31):=⟨_,rfl⟩;have j6:Below w.heap.size w W:=by rw[hW];exact bl4 _ _ _ _ _
 have A:RaC W (w.heap.size) p q:=by rw[hW];constructor<;>simp[go_sem]
 have X0:NmC W (w.heap.size+1) x:=by rw[hW];constructor<;>simp[go_sem]
 have Y0:NmC W (w.heap.size+1+1) y:=by rw[hW];constructor<;>simp[go_sem]
 have R:NoC W (w.heap.size+1+1+1):=by rw[hW];constructor<;>simp[go_sem]
 have HX:=zC (hx.bw j6);have HY:=zC (hy.bw j6);have jo:=X0.c0;have jq:=X0.c1;have lX:=X0.lt;clear hx hy;have d0:=h.d0;have fT:=h.q0;have FW:=h.p0;have Lk:=h.n0;have b0:=h.b0;have b1:=h.b1;have ox:=zC (show zM n 0=1 by unfold zM;rw[if_neg (by omega),if_pos (by omega)])
 have iH:=zC (show 0<p/\0<q/\p<=1152921504606846976 by have:=h.p0;have:=h.q0;have:=h.pq;have:=h.qq;exact⟨h.p0,h.q0,by omega⟩)
 have AO:=zC (show -9223372036854775808<=2*((b:Int)+p/q+1)/\2*((b:Int)+p/q+1)<=9223372036854775807 by
  have:=Int.ediv_nonneg (Int.le_of_lt h.p0) (Int.le_of_lt h.q0);have:p/q<=100:=Int.ediv_le_of_le_mul h.q0 h.pq;have:=h.b1
  exact⟨by omega,by omega⟩)
 have HC:=zC (show zM n (d*(2*((b:Int)+p/q+1))) = -1 by unfold zM;rw[if_pos h.nx])
 have H:=zC h;have HL:=zC hL;have HG:=zC (And.intro ig hX);have Vf:=zC QG;have P6:q<=1048576:=h.qq;have I8:p<=104857600:=by have:=h.pq;omega
 obtain⟨NS,nX,Z1⟩:=lu_set h;have xx:=lu_x h;have hTN:=xx.2.2
 have PK:Q 20461<P 1300:=by
  rw[<- Q_P];have h1:=zJ (show 20461+1<=16*1300 by omega)
  have g2:∀ j,Q (j+1)=2*Q j:=λ _=>rfl
  rw[g2] at h1;have:=zE 20461;generalize Q 20461=z at *;omega
 have pT:=zC (show -P 1300<Q b/\Q b<P 1300 by
  have:=zE b;have:=zJ (show b<=20461 by omega)
  have:=yF 1300
  exact⟨by omega,by omega⟩)
 have gx:=zC (show ∀ j,j<=NS -> -P 1300<(luT p q n d b j).1/\(luT p q n d b j).2<P 1300 from λ j _=>by
  have e:0<=(luT p q n d b j).1:=(zAB (zIJ h) j).1;have u:=lu_hi h j;have:=yF 1300
  exact⟨by omega,by omega⟩)
 have gz:=zC (show ∀ j,j<=NS -> -P 1300<(jE (luT p q n d b) j).1/\(jE (luT p q n d b) j).2<P 1300 from λ j hj=>by
  have u:=lu_fit h j (by omega)
  have l:Q b<=(jE (luT p q n d b) j).1:=(zFW (zIJ h) j).2.2;have:=zE b;have:=yF 1300
  exact⟨by omega,by omega⟩)
 have gy:=zC (λ j=>show (luT p q n d b j).1<=(luT p q n d b j).2 from (zAB (zIJ h) j).2)
 have Y2:=zC (λ j=>show 0<=(luT p q n d b j).1 from (zAB (zIJ h) j).1)
 have HM:=zC Z1
 have HZ:=zC (show 2*n/d=(luN n d:Int)/\0<=2*n/d/\2*n/d<P 1 /\ -P 1<2*n/d by
  have p1:P 1=65536:=rfl;have:=xx.2.1
  exact⟨by omega,by omega,by omega,by omega⟩)
 have nJ:=zC (show Q (b+4)<P 500 by
  rw[<- Q_P];have h1:=zJ (show b+4+1<=16*500 by omega)
  have h2:Q (b+4+1)=2*Q (b+4):=rfl;have:=zE (b+4)
  omega)
 clear h hL ig hX QG Z1 PK xx
 go_enter Tryz.func159,Tryz.ntmps159
 go_wp2_with fail;rw[<- hW];clear hW jo jq lX;refine (zBG _ _ _ _ _ n _ (zA HX)).mono ?_;rintro r w1 ⟨rfl,b9⟩;rw[zA ox];replace A:=A.bw b9;replace X0:=X0.bw b9;replace Y0:=Y0.bw b9;replace R:=R.bw b9;replace HX:=zC ((zA HX).bw b9);replace HY:=zC ((zA HY).bw b9);replace j6:=zB j6 b9;clear b9;have lA:=A.lt;have lX:=X0.lt;have lY:=Y0.lt;have lR:=R.lt;have HK:=zC (show ∀ w',Below w1.heap.size w1 w'->(rK w' w.heap.size p q (nK w' (w.heap.size+1) x (nK0 w' (w.heap.size+1+1) y))) from λ w' hB=>⟨(A.bw hB).c0,(A.bw hB).c1,(X0.bw hB).c0,(X0.bw hB).c1,(Y0.bw hB).c0,(Y0.bw hB).c1⟩)
 have E2:Below w1.heap.size w1 w1.drew:=(Below.refl _ _).drew;go_wp2_with fail;obtain⟨x0,x1,x2,x3,x4,x5⟩:=zA HK _ (Below.refl _ _)
 go_region_held3 (λ w'=>rK w' w.heap.size p q (nK w' (w.heap.size+1) x (nK0 w' (w.heap.size+1+1) y))) (first|exact zA HK _ (by with_reducible first|exact E2|exact G3|exact A9|exact o9|exact A7)|(dsimp only[cK,cK0,nK,nK0,rK,rK0];go_keep)|go_keep)
  (first
   | (go_at_call 17;have hq:=A9;refine (jP _ _ _ _ _ _ _ _ 4 (4+4) n (d*(2*((b:Int)+p/q+1))) _ ((zA HX).bw A9) E7).mono ?_;rintro r w5 ⟨rfl,D8⟩;rw[zA HC];have G3:=zB A9 D8;have i0:=zA HK _ G3)
   | (go_at_call 83;have hq:=o9;refine (zV _ _ _ _ _ _ _ _ 4 4 d (2*((b:Int)+p/q+1)) _ ((zA HY).bw o9) A5 (by omega) (by omega)).mono ?_;rintro r w4 ⟨B9,a3,n3,c3,rfl,E7,p9⟩;have A9:=zB o9 p9)
   | (go_at_call 33;have hq:=A7;refine (zD (2*((b:Int)+p/q+1)) _ (zA AO).1 (zA AO).2).mono ?_;rintro r w3 ⟨j7,a2,n2,c2,rfl,A5,m8⟩;have o9:=zB A7 m8)
   | (go_at_call 179;refine (zFB _ p q b (zA iH).1 (zA iH).2.1 (zA iH).2.2 (by omega)).mono ?_;rintro r w2 ⟨rfl,j8⟩;have A7:=zB E2 j8))
 all_goals
  replace A:=A.bw G3;replace X0:=X0.bw G3;replace Y0:=Y0.bw G3;replace R:=R.bw G3;replace HX:=zC ((zA HX).bw G3);replace HY:=zC ((zA HY).bw G3);replace j6:=zB j6 G3;clear x0 x1 x2 x3 x4 x5 i0 A5 E7 lA lX lY lR;have lA:=A.lt;have lX:=X0.lt;have lY:=Y0.lt;have lR:=R.lt;have OY:=zC (show ∀ w',Below w5.heap.size w5 w'->(rK w' w.heap.size p q (nK w' (w.heap.size+1) x (nK0 w' (w.heap.size+1+1) y))) from λ w' hB=>⟨(A.bw hB).c0,(A.bw hB).c1,(X0.bw hB).c0,(X0.bw hB).c1,(Y0.bw hB).c0,(Y0.bw hB).c1⟩)
  go_wp2_with fail
  go_cut [9] (λ p wx=>∃ (B:Nat) (u:Nm),p=.pointer (some ⟨B,0,none⟩)/\w5.heap.size<=B/\NmC wx B u/\IntAt wx u.neg u.a u.n u.cap 8 (n*q)/\Below w5.heap.size w5 wx)
  case first =>
   go_region_held3 (λ w'=>rK w' w.heap.size p q (nK w' (w.heap.size+1) x (nK0 w' (w.heap.size+1+1) y))) (exact zA OY _ (by repeat' (first|with_reducible exact L8|with_reducible exact G6|with_reducible exact Below.refl _ _|with_reducible refine Below.drew ?_|with_reducible refine zL ?_ _|with_reducible refine Below.setCell ?_ (by first|exact Yy _|exact S6|exact S7) _)))
    (first
     | (go_at_call 83;have hq:=G6;refine (zV _ _ _ _ _ _ _ _ 4 4 n q _ ((zA HX).bw (by with_reducible first|exact G6|exact zL G6 _)) (J7.bw (by with_reducible first|exact Below.refl _ _|exact bl1 _ _)) (by omega) (by omega)).mono ?_;rintro r fW ⟨aQ,sG,wX,sH,rfl,T5,R6⟩;have Q2:Below ct.heap.size ct fW:=(by with_reducible first|exact R6|exact zB (bl1 _ _) R6);have L8:=zB G6 Q2;(try with_reducible have cT:=(kB ct 29).bw R6);replace J7:=J7.bw Q2;(try replace Y9:=Y9.bw Q2);have S7:=L8.size;(try have pE:=Y9.lt);(try obtain⟨nv,nw,zU1f⟩:=Y9);(try have pF:=cT.lt);(try obtain⟨ny,nD,zU2f⟩:=cT))
     | (go_at_call 33;refine (zD q _ (by omega) (by omega)).mono ?_;rintro r ct ⟨bo,zd,Ax,ze,rfl,J7,R0⟩;have G6:Below w5.heap.size w5 ct:=(by with_reducible first|exact zB (Below.refl _ _).drew R0|exact zB (bl1 _ _).drew R0);(try with_reducible have Y9:=((kB w5 29).bw (Below.refl _ _).drew).bw R0);have S6:=G6.size))
   all_goals
    have hfinU:IntAt fW aQ sG wX sH 8 (n*q):=T5.mono (by omega)
    go_wp2_with fail;go_meet;refine⟨_,⟨aQ,sG,wX,sH⟩,rfl,?_,⟨?_,?_⟩,?_,?_⟩
    ·first|exact Yy _|exact S6|exact S7
    ·simp[go_sem, *]
    ·simp[go_sem, *]
    ·first|with_reducible exact hfinU.put2 ny nD _ _|with_reducible exact hfinU.put2 nv nw _ _|with_reducible exact hfinU.bw (bl1 _ _)
    ·repeat' (first|with_reducible exact L8|with_reducible exact G6|with_reducible exact Below.refl _ _|with_reducible refine Below.drew ?_|with_reducible refine zL ?_ _|with_reducible refine Below.setCell ?_ (by first|exact Yy _|exact S6|exact S7) _)
  case rest =>
  obtain⟨BU,xU,rfl,Cp,XU,hpU,hblU⟩:=hcut;obtain⟨V1,Q3⟩:∃ V,V=wc:=⟨_,rfl⟩;subst Q3;replace A:=A.bw hblU;replace X0:=X0.bw hblU;replace Y0:=Y0.bw hblU;replace R:=R.bw hblU;replace HX:=zC ((zA HX).bw hblU);replace HY:=zC ((zA HY).bw hblU);replace j6:=zB j6 hblU;clear OY lA lX lY lR Cp;have yt:=zC hpU;clear hpU;have lA:=A.lt;have lX:=X0.lt;have lY:=Y0.lt;have lR:=R.lt;have lU:=XU.lt;have pQ:=zC (show ∀ w',Below V1.heap.size V1 w'->(rK w' w.heap.size p q (nK w' (w.heap.size+1) x (nK0 w' (w.heap.size+1+1) y))) from λ w' hB=>⟨(A.bw hB).c0,(A.bw hB).c1,(X0.bw hB).c0,(X0.bw hB).c1,(Y0.bw hB).c0,(Y0.bw hB).c1⟩)
  have nQ:Below V1.heap.size V1 V1.drew:=(Below.refl _ _).drew;go_wp2_with fail;obtain⟨x0,x1,x2,x3,x4,x5⟩:=zA pQ _ (Below.refl _ _)
  go_region_held3 (λ w'=>rK w' w.heap.size p q (nK w' (w.heap.size+1) x (nK0 w' (w.heap.size+1+1) y))) (first|exact zA pQ _ (by with_reducible first|exact nQ|exact lv|exact Jp|exact Fp)|(dsimp only[cK,cK0,nK,nK0,rK,rK0];go_keep)|go_keep)
   (first
    | (go_at_call 181;have hq:=Jp;refine (zKS _ _ _ _ (2*n/d) _ (lK.fits (zA HZ).2.2.2 (zA HZ).2.2.1) (zA HZ).2.1).mono ?_;rintro r w8 ⟨rfl,T9⟩;rw[(zA HZ).1];have lv:=zB Jp T9;have i0:=zA pQ _ lv)
    | (go_at_call 126;have hq:=Fp;refine (yN _ _ _ _ _ _ _ _ 5 4 (2*n) d _ cX ((zA HY).bw Fp) (by omega) d0).mono ?_;rintro r w7 ⟨iF,a7,n7,c7,rfl,lK,Q7⟩;have Jp:=zB Fp Q7)
    | (go_at_call 116;refine (zU1 _ _ _ _ 4 n _ ((zA HX).bw nQ) (by omega)).mono ?_;rintro r w6 ⟨dJ,a6,n6,c6,rfl,cX,K7⟩;have Fp:=zB nQ K7))
  all_goals
   replace A:=A.bw lv;replace X0:=X0.bw lv;replace Y0:=Y0.bw lv;replace R:=R.bw lv;replace HX:=zC ((zA HX).bw lv);replace HY:=zC ((zA HY).bw lv);replace j6:=zB j6 lv;replace XU:=XU.bw lv;replace yt:=zC ((zA yt).bw lv);clear x0 x1 x2 x3 x4 x5 i0 cX lK lA lX lY lR lU pQ;have lA:=A.lt;have lX:=X0.lt;have lY:=Y0.lt;have lR:=R.lt;have lU:=XU.lt;go_wp2_with fail;refine (zDE _ b (by omega)).mono ?_
   rintro r w9 ⟨v9,rfl,mQ,iD,Z2⟩;rw[show 1*Q b/1=Q b by rw[Int.ediv_one,Int.one_mul],show -(-(1*Q b)/1)=Q b by rw[Int.ediv_one,Int.one_mul,Int.neg_neg]] at iD
   have EW:=zC mQ;have nH:=zC (iD.fits (K:=1300) (Int.le_refl _) (zA pT).1 (zA pT).2);replace A:=A.bw Z2;replace X0:=X0.bw Z2;replace Y0:=Y0.bw Z2;replace R:=R.bw Z2;replace HX:=zC ((zA HX).bw Z2);replace HY:=zC ((zA HY).bw Z2);replace j6:=zB j6 Z2;replace XU:=XU.bw Z2;replace yt:=zC ((zA yt).bw Z2);clear Z2 mQ iD lA lX lY lR lU
   have dL:=zC (show ∀ (j:Nat) (u:Sp) w',j<NS->u.bits=(b:Int)->SpAt w' u 1300 (luT p q n d b j).1 (luT p q n d b j).2->Below w9.heap.size w9 w'->Calls Tryz.prog 183 #[.agg u.q,.int .i64 ((j:Int)+1),.pointer (some ⟨BU,0,none⟩),.pointer (some ⟨w.heap.size+1+1,0,none⟩),.pointer (some ⟨w.heap.size,0,none⟩)] w' (zH w' b 1318 (luT p q n d b (j+1)).1 (luT p q n d b (j+1)).2) from λ j u w' hj B8 B7 R9=>by
    have e:=lo1_iv w' BU (w.heap.size+1+1) (w.heap.size) u xU y 1300 8 4 b ((j:Int)+1) (luT p q n d b j) (n*q) d p q B7 ((zA yt).bw R9) ((zA HY).bw R9) (XU.bw R9) (Y0.bw R9) (A.bw R9) (by omega) (by omega) (by omega) B8 (Yz (by omega) (by omega)) (by
     have:=zEZ (show (j:Int)+1<=70001 by omega) P6 (by omega) (by omega)
     omega) FW (by omega) d0
    have ec:((j+1:Nat):Int)=(j:Int)+1:=by omega
    have e2:luT p q n d b (j+1)=zK (luT p q n d b j) (n*q) (d*(p+((j+1:Nat):Int)*q)):=rfl;rw[e2,ec]
    exact e)
   go_wp2_with fail;refine (zEL _ #[.pointer (some ⟨BU,0,none⟩),.pointer (some ⟨w.heap.size+1+1,0,none⟩),.pointer (some ⟨w.heap.size,0,none⟩)] en_lo (luT p q n d b) (luN n d) NS b 1300 1318 v9 _ (zA nH) (zA EW) (by omega) (by omega) (by omega) (by omega) (zA HM) (by omega) (by omega) (zA gy) (zA Y2) (zA gx) (zA gz) (zA dL)).mono ?_
   rintro r gL ⟨v,rfl,qV,rG,O8⟩;have HV:=zC qV;replace A:=A.bw O8;replace X0:=X0.bw O8;replace Y0:=Y0.bw O8;replace R:=R.bw O8;replace HX:=zC ((zA HX).bw O8);replace HY:=zC ((zA HY).bw O8);replace j6:=zB j6 O8;have lR10:=R.lt;obtain⟨V2,aR⟩:∃ V,V=gL.alloc (.cells v.q 31):=⟨_,rfl⟩;have W3:Below gL.heap.size gL V2:=by rw[aR];exact bl1 _ _
   have S2:SpC V2 gL.heap.size v:=by rw[aR];exact kO gL v _
   have Ha:=zC (show SpAt V2 v 1303 (zAY p q n d b NS).1 (zAY p q n d b NS).2 from rG.bw W3)
   clear qV rG O8 nH EW dL gy Y2 gx gz XU yt;replace A:=A.bw W3;replace X0:=X0.bw W3;replace Y0:=Y0.bw W3;replace R:=R.bw W3;replace HX:=zC ((zA HX).bw W3);replace HY:=zC ((zA HY).bw W3);replace j6:=zB j6 W3;clear W3;have lA:=A.lt;have lX:=X0.lt;have lY:=Y0.lt;have lR:=R.lt;have lS:=S2.lt;have OX:=zC (show ∀ w',Below V2.heap.size V2 w'->(rK w' w.heap.size p q (nK w' (w.heap.size+1) x (nK w' (w.heap.size+1+1) y (cK0 w' gL.heap.size v)))) from λ w' hB=>⟨(A.bw hB).c0,(A.bw hB).c1,(X0.bw hB).c0,(X0.bw hB).c1,(Y0.bw hB).c0,(Y0.bw hB).c1,(S2.bw hB).c0,(S2.bw hB).c1,(S2.bw hB).c2,(S2.bw hB).c3,(S2.bw hB).c4⟩)
   go_wp2_with fail;rw[<- aR];clear aR
   go_cut [12] (λ pz wx=>∃ (B:Nat) (u:Sp) (o:Int × Int),pz=.pointer (some ⟨B,0,none⟩)/\zCL L ((n:Rat)/(d:Rat)) b o/\V2.heap.size<=B/\VrC wx B u/\SpAt wx u 541 (zJA (ofI n d b) (zK o p q)).1 (zJA (ofI n d b) (zK o p q)).2/\u.bits=(b:Int)/\Below V2.heap.size V2 wx)
   case first =>
    go_region_held3 (λ w'=>rK w' w.heap.size p q (nK w' (w.heap.size+1) x (nK w' (w.heap.size+1+1) y (cK0 w' gL.heap.size v)))) (exact zA OX _ (by repeat' (first|with_reducible exact bL|with_reducible exact aj|with_reducible exact Q0|with_reducible exact P9|with_reducible exact Below.refl _ _|with_reducible refine Below.drew ?_|with_reducible refine zL ?_ _|with_reducible refine Below.setCell ?_ (by first|exact Yy _|exact fC|exact fD|exact fE|exact fG) _)))
     (first
      | (go_at_call 92;have hq:=aj;refine (zHO _ LA LC 540 b (ofI n d b) (zK (zGW (zN (lnT n' d' b) N1) (zN (lnT 2 1 b) N2) cc) p q) ((cj.bw (by with_reducible first|exact Below.refl _ _|exact bl1 _ _)).mono (by omega)) ((mb.bw (by with_reducible first|exact Below.refl _ _|exact bl1 _ _)).mono (by omega)) (by omega) (zA jd)).mono ?_;rintro r xd ⟨FZ,rfl,dE,mf,eV⟩;have pY:=zC dE;clear dE;have Z0:Below pI.heap.size pI xd:=(by with_reducible first|exact eV|exact zB (bl1 _ _) eV);have bL:=zB aj Z0;(try with_reducible have sL:=(zQ pI 31).bw eV);replace cj:=cj.bw Z0;(try replace bI:=bI.bw Z0);(try replace dQ:=dQ.bw Z0);replace mb:=mb.bw Z0;(try replace jt:=jt.bw Z0);have fG:=bL.size;(try have DF:=bI.lt);(try have Xd:=YD DF);(try have Il:=YC DF);(try obtain⟨xi,xj,xk,xl,xm,MZ⟩:=bI);(try have DG:=dQ.lt);(try have Fe:=YD DG);(try have Im:=YC DG);(try obtain⟨xn,xo,xq,xw,xA,Na⟩:=dQ);(try have DI:=jt.lt);(try have Xe:=YD DI);(try have Io:=YC DI);(try obtain⟨xB,xC,xD,xG,xI,Nb⟩:=jt);(try have DJ:=sL.lt);(try have Xf:=YD DJ);(try have Ip:=YC DJ);(try obtain⟨xJ,xK,xN,xQ,xR,Nc⟩:=sL))
      | (go_at_call 184;have hq:=Q0;refine (zC1 _ LB 520 b (zGW (zN (lnT n' d' b) N1) (zN (lnT 2 1 b) N2) cc) p q (cl.bw (by with_reducible first|exact Below.refl _ _|exact bl1 _ _)) (by omega) (zA jf) (by omega) (by omega) fT (by omega)).mono ?_;rintro r pI ⟨LC,rfl,dD,mb,eQ⟩;have pW:=zC dD;clear dD;have bQ:Below pH.heap.size pH pI:=(by with_reducible first|exact eQ|exact zB (bl1 _ _) eQ);have aj:=zB Q0 bQ;(try with_reducible have jt:=(zQ pH 31).bw eQ);replace cj:=cj.bw bQ;(try replace bI:=bI.bw bQ);(try replace dQ:=dQ.bw bQ);have fE:=aj.size)
      | (go_at_call 125;have hq:=P9;refine (zBJ _ x y 4 b 500 n d ((zA HX).bw (by with_reducible first|exact P9|exact zL P9 _)) ((zA HY).bw (by with_reducible first|exact P9|exact zL P9 _)) (by omega) (by omega) (by omega) (by omega) (by omega) (zA nJ) (by omega)).mono ?_;rintro r pH ⟨n',d',cc,N1,N2,M3,E5,E9,T8,X6,LB,rfl,dB,cl,eO⟩;have jf:=zC dB;have GQ:=zC (zNT (zA HL) Lk d0 (by omega) M3 (by omega) (by omega) T8 X6);clear dB M3 E5 E9 T8 X6;have gW:Below pG.heap.size pG pH:=(by with_reducible first|exact eO|exact zB (bl1 _ _) eO);have Q0:=zB P9 gW;(try with_reducible have dQ:=(zQ pG 31).bw eO);replace cj:=cj.bw gW;(try replace bI:=bI.bw gW);have fD:=Q0.size)
      | (go_at_call 88;refine (jI _ _ _ _ _ _ _ _ 4 4 b n d _ ((zA HX).bw (by with_reducible first|exact (Below.refl _ _).drew|exact (bl1 _ _).drew)) ((zA HY).bw (by with_reducible first|exact (Below.refl _ _).drew|exact (bl1 _ _).drew)) (by omega) (by omega) d0).mono ?_;rintro r pG ⟨LA,rfl,dA,cj,eM⟩;have jd:=zC dA;clear dA;have P9:Below V2.heap.size V2 pG:=(by with_reducible first|exact zB (Below.refl _ _).drew eM|exact zB (bl1 _ _).drew eM);(try with_reducible have bI:=((zQ V2 31).bw (Below.refl _ _).drew).bw eM);have fC:=P9.size))
    all_goals
     have hfinP:SpAt xd FZ 541 (zJA (ofI n d b) (zK (zGW (zN (lnT n' d' b) N1) (zN (lnT 2 1 b) N2) cc) p q)).1 (zJA (ofI n d b) (zK (zGW (zN (lnT n' d' b) N1) (zN (lnT 2 1 b) N2) cc) p q)).2:=mf;go_wp2_with fail;go_meet;refine⟨_,FZ,_,rfl,zA GQ,?_,⟨⟨?_,?_,?_,?_,?_⟩,?_⟩,?_,zA pY,?_⟩
     ·first|exact Yy _|exact fC|exact fD|exact fE|exact fG
     ·simp[go_sem, *]
     ·simp[go_sem, *]
     ·simp[go_sem, *]
     ·simp[go_sem, *]
     ·simp[go_sem, *]
     ·intro o;simp[go_sem, *]
     ·first|with_reducible exact SpAt.put5 hfinP xJ xK xN xQ xR _ _ _ _ _|with_reducible exact SpAt.put5 hfinP xB xC xD xG xI _ _ _ _ _|with_reducible exact SpAt.put5 hfinP xn xo xq xw xA _ _ _ _ _|with_reducible exact SpAt.put5 hfinP xi xj xk xl xm _ _ _ _ _|with_reducible exact hfinP.bw (bl1 _ _)
     ·repeat' (first|with_reducible exact bL|with_reducible exact aj|with_reducible exact Q0|with_reducible exact P9|with_reducible exact Below.refl _ _|with_reducible refine Below.drew ?_|with_reducible refine zL ?_ _|with_reducible refine Below.setCell ?_ (by first|exact Yy _|exact fC|exact fD|exact fE|exact fG) _)
   case rest =>
   obtain⟨BP,xP,o,rfl,QH,Co,XP,hpP,hxbP,hblP⟩:=hcut;obtain⟨V3,I0⟩:∃ V,V=wc:=⟨_,rfl⟩;subst I0;have lRP:=YB lR Co;replace A:=A.bw hblP;replace X0:=X0.bw hblP;replace Y0:=Y0.bw hblP;replace R:=R.bw hblP;replace HX:=zC ((zA HX).bw hblP);replace HY:=zC ((zA HY).bw hblP);replace j6:=zB j6 hblP;replace S2:=S2.bw hblP;replace Ha:=zC ((zA Ha).bw hblP);have AX:=zC hpP;have sk:=zC hxbP;have GQ:=zC QH;have XPC:=XP.c;clear hpP hxbP QH XP OX lA lX lY lR lS Co;have lA:=A.lt;have lX:=X0.lt;have lY:=Y0.lt;have lR:=R.lt;have lS:=S2.lt;have lP:=XPC.lt;have AV:=zC (show ∀ w',Below V3.heap.size V3 w'->(rK w' w.heap.size p q (nK w' (w.heap.size+1) x (nK w' (w.heap.size+1+1) y (cK w' gL.heap.size v (cK0 w' BP xP))))) from λ w' hB=>⟨(A.bw hB).c0,(A.bw hB).c1,(X0.bw hB).c0,(X0.bw hB).c1,(Y0.bw hB).c0,(Y0.bw hB).c1,(S2.bw hB).c0,(S2.bw hB).c1,(S2.bw hB).c2,(S2.bw hB).c3,(S2.bw hB).c4,(XPC.bw hB).c0,(XPC.bw hB).c1,(XPC.bw hB).c2,(XPC.bw hB).c3,(XPC.bw hB).c4⟩)
   have tB:Below V3.heap.size V3 V3.drew:=(Below.refl _ _).drew;have Vl:=zC (show IntKind.i64.wrap (p+q)=p+q from jH _ (by omega) (by omega))
   have DR:w.heap.size+1+1+1≠gL.heap.size:=by omega
   have rR:w.heap.size+1+1+1≠BP:=by omega
   have FV:w.heap.size+1+1+1≠w.heap.size+1+1:=by omega
   have SD:w.heap.size+1+1+1≠w.heap.size+1:=by omega
   have nR5:w.heap.size+1+1+1≠w.heap.size:=by omega
   have nR6:w.heap.size+1+1≠w.heap.size:=by omega
   go_wp2_with fail;obtain⟨x0,x1,x2,x3,x4,x5,x6,x7,x8,x9,Gs,TA,TB,x13,x14,x15⟩:=zA AV _ (Below.refl _ _)
   go_region_held3 (λ w'=>rK w' w.heap.size p q (nK w' (w.heap.size+1) x (nK w' (w.heap.size+1+1) y (cK w' gL.heap.size v (cK0 w' BP xP))))) (first|exact zA AV _ (by with_reducible first|exact tB|exact Cn|exact tC|exact qz|exact nS|exact qy)|(dsimp only[cK,cK0,nK,nK0,rK,rK0];go_keep)|go_keep)
    (first
     | (go_at_call 141;have hq:=tC;refine (zBR _ f4 _ b _ _ ia (zA F4) (by omega) (by omega) (by omega)).mono ?_;rintro r g5 ⟨f5,rfl,oV,oW,CN⟩;rw[zEF] at oW;have F5:=zC oV;clear oV;have Cn:=zB tC CN;obtain⟨q0,q1,q2,q3,q4,q5⟩:=R.bw Cn)
     | (go_at_call 162;have hq:=qz;refine (zDM _ v f3 49300 b (zAY p q n d b NS).1 (zAY p q n d b NS).2 (luE p q n d b o (lg,ug) t NE).1 (luE p q n d b o (lg,ug) t NE).2 (((zA Ha).bw qz).mono (by omega)) mA (by omega) (by omega) (zA HV) (zA P8).2.2.2.1 (zA P8).1 (zA P8).2.1).mono ?_;rintro r g4 ⟨f4,rfl,dh,ia,vG⟩;have F4:=zC dh;clear dh;have tC:=zB qz vG)
     | (go_at_call 77;have hq:=nS;refine (zCK _ f2 49300 b t NE (luY p q n d b o (lg,ug)) l (SpAt.mono (show SpAt _ f2 542 (luY p q n d b o (lg,ug)).1 (luY p q n d b o (lg,ug)).2 from mz) (by omega)) (zA F2) (zA Hk) (by omega) (by omega) (zA T7) (zA ag) (by omega) (zA yn) (zA pO) (zA sA) (by omega)).mono ?_;rintro r g3 ⟨f3,rfl,fq,mA,oZ⟩;clear fq;have qz:=zB nS oZ)
     | (go_at_call 51;have hq:=qy;refine (zC2 _ xP f1 541 b (zJA (ofI n d b) (zK o p q)) (lg,ug) ((zA AX).bw qy) (my.mono (by omega)) (by omega) (zA sk)).mono ?_;rintro r g2 ⟨f2,rfl,fp,mz,Ac⟩;have F2:=zC fp;clear fp;have nS:=zB qy Ac)
     | (go_at_call 185;(try rw[zA Vl]);refine (zA Vf _).mono ?_;rintro r g1 ⟨lg,ug,mD,f1,rfl,fo,my,qL⟩;clear fo;have qy:=zB tB qL;obtain⟨l,t,NE,e1,e2,e3,e4,e5,e6,e7,e8⟩:=lu_exp (zA H) (zA GQ) mD (zA HL) (zA HG).1 (zA HG).2 nX (zA HM);have T7:=zC e1;have ag:=zC e2;have yn:=zC e4;have pO:=zC e5;have sA:=zC e6;have Hk:=zC e7;have P8:=zC e8;clear e1 e2 e4 e5 e6 e7 e8 mD))
   all_goals
    have fit:=SpAt.fits (K:=30) (show SpAt g5 f5 _ (zDW (zAY p q n d b NS).1 (zAY p q n d b NS).2 (luE p q n d b o (lg,ug) t NE).1 (luE p q n d b o (lg,ug) t NE).2 b) (zPM (zAY p q n d b NS) (luE p q n d b o (lg,ug) t NE) b) from oW) (zGK (zA P8).2.2.2.2 b1).1 (zGK (zA P8).2.2.2.2 b1).2.1 (zGK (zA P8).2.2.2.2 b1).2.2
    have Hh:=zC (show LwPr (lwX L p q n d g) b (zDW (zAY p q n d b NS).1 (zAY p q n d b NS).2 (luE p q n d b o (lg,ug) t NE).1 (luE p q n d b o (lg,ug) t NE).2 b) (zPM (zAY p q n d b NS) (luE p q n d b o (lg,ug) t NE) b) by unfold lwX;rw[if_neg (by omega)];exact (zA P8).2.2.2.2)
    go_wp2_with fail;refine bodyPost_ret (v:=.agg f5.q) (by simp[results,Tryz.results159,go_sem,q0,q1,q2,q3,q4]) rfl ⟨_,_,zA Hh,f5,rfl,zA F5,?_,?_⟩
    ·exact SpAt.put5 fit q0 q1 q2 q3 q4 _ _ _ _ _
    ·exact jV (zB j6 Cn) (by omega) _ _ _ _ _
theorem zFE (L:Rat->Nat->Rat) (hL:Lns L) (w:World) (n d:Int) (b:Nat) (g x:Nat->Rat) (h:StIn n d) (hn:n<=4611686018427387904) (F9:40<=b) (hb:b<=1000) (hg:Gam1 L (((n-(stN n d:Int)*d):Int)/(d:Rat)) g) (Ad:∃ c:Rat,0<c/\∃ N:Nat,∀ M,N<=M->c<=g M) (hx:IsLog x (gmV n d g)) :
  Calls Tryz.prog 185 #[.int .i64 n,.int .i64 d,.int .i64 b] w (λ r w'=>∃ lo hi,zP8 x b lo hi/\zH w b 521 lo hi r w'):=by
 have HI:=zC (h.in_ (B:=b) (by omega) (by omega))
 have Lc:=h.rest.2.2;have iH:=zC (show 0<stP n d (stN n d)/\0<stQ d (stN n d) from⟨zUI h (Yy _),zMG h.d0 _⟩)
 have H:=zC h;have HL:=zC hL;have HG:=zC hg;have TZ:=zC Ad;have VA:=zC hx
 have nJ:=zC (show Q (b+4)<P 500 by
  rw[<- Q_P];have h1:=zJ (show b+4+1<=16*500 by omega)
  have h2:Q (b+4+1)=2*Q (b+4):=rfl;have:=zE (b+4)
  omega)
 clear h hL hg Ad hx;have R:=zQ w 31;have j6:Below w.heap.size w (w.alloc (.cells zCq 31)):=bl1 _ _
 go_enter Tryz.func185,Tryz.ntmps185
 go_wp2_with fail;refine (zUJ _ n d (zA H) hn).mono ?_;rintro r w1 ⟨X,Y,rfl,hX,hY,b9⟩;replace R:=R.bw b9;replace j6:=zB j6 b9;clear b9;have lR:=R.lt;obtain⟨V,hV⟩:∃ V,V=(w1.alloc (.cells X.q 29)).alloc (.cells Y.q 29):=⟨_,rfl⟩;have bV:Below w1.heap.size w1 V:=by rw[hV];exact bl2 _ _ _
 have CX:NmC V w1.heap.size X:=by rw[hV];constructor<;>simp[go_sem]
 have CY:NmC V (w1.heap.size+1) Y:=by rw[hV];constructor<;>simp[go_sem]
 have HX:=zC ((hX.mono (show 4*stN n d+4<=804 by omega)).bw bV)
 have HY:=zC ((hY.mono (show 4*stN n d+4<=804 by omega)).bw bV)
 replace R:=R.bw bV;replace j6:=zB j6 bV;have lX:=CX.lt;have lY:=CY.lt;have Z6:=R.lt;have HK:=zC (show ∀ w',Below V.heap.size V w'->(nK w' w1.heap.size X (nK0 w' ((w1.heap.size+1)) Y)) from λ w' hB=>⟨(CX.bw hB).c0,(CX.bw hB).c1,(CY.bw hB).c0,(CY.bw hB).c1⟩)
 clear hX hY bV CX CY;go_wp2_with fail;rw[<- hV];clear hV;have D5:Below V.heap.size V V.drew:=(Below.refl _ _).drew;obtain⟨x0,x1,x2,x3⟩:=zA HK _ (Below.refl _ _);have m1:w.heap.size≠w1.heap.size:=by omega
 have m2:w.heap.size≠w1.heap.size+1:=by omega
 go_region_held3 (λ w'=>nK w' w1.heap.size X (nK0 w' ((w1.heap.size+1)) Y)) (first|exact zA HK _ (by with_reducible first|exact D5|exact J1|exact G0|exact s9|exact y9)|(dsimp only[cK,cK0,nK,nK0,rK,rK0];go_keep)|go_keep)
  (first
   | (go_at_call 51;have O3:=G0;refine (zC2 _ v2 v3 520 b (p1,r2) (zGW (zN (lnT n' d' b) N1) (zN (lnT 2 1 b) N2) cc) (A5.bw m8) E7 (by omega) (zA F2)).mono ?_;rintro r' w4 ⟨t,rfl,I2,K5,p9⟩;have HT:=zC I2;clear I2;have J1:=zB G0 p9;obtain⟨q0,q1,q2,q3,q4,q5⟩:=R.bw J1;obtain⟨i0,i1,i2,i3⟩:=zA HK _ J1)
   | (go_at_call 125;have O3:=s9;refine (zBJ _ X Y 804 b 500 (stP n d (stN n d)) (stQ d (stN n d)) ((zA HX).bw s9) ((zA HY).bw s9) (by omega) (zA iH).1 (zA iH).2 (by omega) (by omega) (zA nJ) (by omega)).mono ?_;rintro r' w3 ⟨n',d',cc,N1,N2,M3,E5,E9,T8,X6,v3,rfl,G7,E7,m8⟩;clear G7;have G0:=zB s9 m8;have aW:=zC (And.intro M3 (And.intro E5 (And.intro E9 (And.intro T8 X6))));clear M3 E5 E9 T8 X6)
   | (go_at_call 201;have O3:=y9;refine (zPG _ v1 b (lo,hi) o8 (zA F1) (by omega) (by omega) (zA yo).pos (zA yo).le).mono ?_;rintro r' w2 ⟨p1,p2,r1,r2,l1,l2,Ri,ae,cn,v2,rfl,P5,A5,j8⟩;have F2:=zC P5;have Vh:=zC (And.intro Ri (And.intro ae cn));clear P5 Ri ae cn;have s9:=zB y9 j8)
   | (go_at_call 202;refine (zIA L (zA HL) _ (n-(stN n d:Int)*d) d b g (zA HI) (zA HG)).mono ?_;rintro r' wg ⟨lo,hi,Rf,v1,rfl,J2,o8,b9⟩;have F1:=zC J2;have yo:=zC Rf;clear J2 Rf;have y9:=zB D5 b9))
 all_goals
  go_wp2_with fail;obtain⟨ls,k1,k2⟩:=zA Vh;obtain⟨bal,c1,c2,s1,s2⟩:=zA aW;obtain⟨lp,g1,i1'⟩:=zGJ (zA iH).1 (zA iH).2 bal b N1 N2;refine bodyPost_ret (v:=.agg t.q) (by simp[results,Tryz.results185,go_sem,q0,q1,q2,q3,q4]) rfl ⟨_,_,lgam_ok2 (zA H) F9 hb (zA yo) ls g1 i1' k1 k2 (lb_of (by omega) hb bal.1 s1 s2 804 (by omega) c1 c2) (zA VA) (zA TZ) (zA HL),t,rfl,zA HT,?_,?_⟩
  ·exact SpAt.put5 K5 q0 q1 q2 q3 q4 _ _ _ _ _
  ·exact jV (zB j6 J1) (by omega) _ _ _ _ _
theorem lower_iv (L G:Rat->Nat->Rat) (X:Int->Int->Nat->Rat) (hE:zLD L G X) (w:World) (x y:Nm) (p q n d:Int) (b:Nat) (hx:IntAt w x.neg x.a x.n x.cap 4 n) (hy:IntAt w y.neg y.a y.n y.cap 4 d) (h:LwAr p q n d b) :
  Calls Tryz.prog 159 #[.agg #[.int .i64 p,.int .i64 q],.agg x.q,.agg y.q,.int .i64 b] w (λ r w'=>∃ lo hi,LwPr (lwX L p q n d (gmV p q (G (gA p q)))) b lo hi/\zH w b 30 lo hi r w'):=by
 have p0:=h.p0;have q0:=h.q0;have pq:=h.pq;have qq:=h.qq;have st:StIn p q:=⟨p0,q0,by omega,by omega⟩
 have AD:StIn (p+q) q:=⟨by omega,q0,by omega,by omega⟩
 have ig:=zCE hE st;have n0:=h.n0
 by_cases h0:n=0
 ·exact zPK L hE.lns w x y p q n d b _ (X p q) hx hy h h0
 ·by_cases hf:d*(2*((b:Int)+p/q+1))<=n
  ·exact zSZ L hE.lns w x y p q n d b _ (X p q) hx hy h (by omega) hf ig
  ·refine zPJ L hE.lns w x y p q n d b _ (X (p+q) q) hx hy ⟨p0,q0,pq,qq,by omega,h.d0,h.nn,h.dd,by omega,h.b0,h.b1⟩ ig ?_ ?_
   ·have k:=hE.lg (p+q) q AD
    have e:gmV (p+q) q (G (gA (p+q) q))=λ M=>(p:Rat)/(q:Rat)*gmV p q (G (gA p q)) M:=by
     funext M
     rw[gA_next p0 q0,zNJ p0 q0,Rat.mul_comm]
    rw[e] at k;exact k
   ·intro w'
    have g:=hE.gam _ (zGB AD).1 (zGB AD).2;have b1:=h.b1;exact zFE L hE.lns w' (p+q) q b (G (gA (p+q) q)) (X (p+q) q) AD (by omega) h.b0 (by omega) g (g.isGam hE.lns (zGB AD).1).pos (hE.lg (p+q) q AD)
theorem zS5 {x:Nat->Rat} {B:Nat} {l u:Int} (h:LwPr x B l u):LwPr (λ M=>1-x M) B (zBE B (l,u)).1 (zBE B (l,u)).2:=by
 have i:Iv B (zJA (Q B,Q B) (l,u)) (λ M=>1-x M):=(zHH B).sub h.iv
 have h1:=h.lo;have h2:=h.le;have h3:=h.hi;have h4:=h.wd;have e1:(zBE B (l,u)).1=Q B-u:=rfl;have e2:(zBE B (l,u)).2=Q B-l:=rfl;exact⟨by omega,by omega,by omega,by omega,i⟩
structure BpAr (p q r s n d:Int) (B:Nat):Prop where
 p0:0<p
 q0:0<q
 pq:p<=100*q
 qq:q<=2048
 r0:0<r
 s0:0<s
 rs:r<=100*s
 ss:s<=2048
 n0:0<=n
 nd:n<=d
 d0:0<d
 dd:d<=4503599627370496
 b0:40<=B
 b1:B<=400
structure BpPr (L:Rat->Nat->Rat) (p q r s n d:Int) (b:Nat) (lo hi:Int):Prop where
 pr:LwPr (bvX L p q r s n d) b lo hi
 z:n=0->lo=0/\hi=0
 o:n=d->lo=Q b/\hi=Q b
theorem BpAr.turn {p q r s n d:Int} {B:Nat} (h:BpAr p q r s n d B):BpAr r s p q (d-n) d B:=⟨h.r0,h.s0,h.rs,h.ss,h.p0,h.q0,h.pq,h.qq,by have:=h.nd;omega,by have:=h.n0;omega,h.d0,h.dd,h.b0,h.b1⟩
theorem bp_sum {p q r s:Int} (hq:0<q) (hs:0<s):(((p*s+r*q):Int):Rat)/(((q*s):Int):Rat)=(p:Rat)/(q:Rat)+(r:Rat)/(s:Rat):=by
 have qr:(0:Rat)<(q:Rat):=by exact_mod_cast hq
 have sr:(0:Rat)<(s:Rat):=by exact_mod_cast hs
 rw[Rat.intCast_add,YA,YA,YA];have e1:=rdm (a:=(p:Rat)) qr;have e2:=rdm (a:=(r:Rat)) sr;have qs:=Rat.mul_pos qr sr;have e3:=rdm (a:=(p:Rat)*(s:Rat)+(r:Rat)*(q:Rat)) qs;generalize ((p:Rat)*(s:Rat)+(r:Rat)*(q:Rat))/((q:Rat)*(s:Rat))=u at *;generalize (p:Rat)/(q:Rat)=v at *;generalize (r:Rat)/(s:Rat)=z at *;refine zX (c:=(q:Rat)*(s:Rat)) qs ?_;rw[<- e1,<- e2] at e3;grind
theorem bp_st {p q r s:Int} (p0:0<p) (q0:0<q) (pq:p<=100*q) (qq:q<=2048) (r0:0<r) (s0:0<s) (rs:r<=100*s) (ss:s<=2048):StIn p q/\StIn r s/\StIn (p*s+r*q) (q*s)/\(p*s+r*q)<=4611686018427387904:=by
 have m1:=Yt pq (show 0<=s by omega)
 have m2:=Yt rs (show 0<=q by omega)
 have k1:=Int.mul_pos p0 s0;have k2:=Int.mul_pos r0 q0;have k3:=Int.mul_pos q0 s0;have m3:=zEZ qq ss (by omega) (by omega)
 have e1:100*q*s=100*(q*s):=by grind
 have e2:100*s*q=100*(q*s):=by grind
 exact⟨⟨p0,q0,by omega,by omega⟩,⟨r0,s0,by omega,by omega⟩,⟨by omega,k3,by omega,by omega⟩,by omega⟩
theorem zIG {L G:Rat->Nat->Rat} {X:Int->Int->Nat->Rat} (hE:zLD L G X) {n d:Int} {b:Nat} (st:StIn n d) (hn:n<=4611686018427387904) (b0:40<=b) (b1:b<=400):zLE n d b (X n d):=λ w'=>by
 have g:=hE.gam _ (zGB st).1 (zGB st).2;exact zFE L hE.lns w' n d b (G (gA n d)) (X n d) st hn b0 (by omega) g (g.isGam hE.lns (zGB st).1).pos (hE.lg n d st)
theorem bj_log {L G:Rat->Nat->Rat} {X:Int->Int->Nat->Rat} (hE:zLD L G X) {p q r s:Int} (s1:StIn p q) (s2:StIn r s) (s3:StIn (p*s+r*q) (q*s)):IsLog (λ M=>X p q M+X r s M-X (p*s+r*q) (q*s) M) (bJ L ((p:Rat)/(q:Rat)) ((r:Rat)/(s:Rat))):=by
 have i3:=zCE hE s3;rw[bp_sum s1.d0 s2.d0] at i3;have pr:(0:Rat)<(p:Rat):=by exact_mod_cast s1.n0
 have qr:(0:Rat)<(q:Rat):=by exact_mod_cast s1.d0
 have rr:(0:Rat)<(r:Rat):=by exact_mod_cast s2.n0
 have sr:(0:Rat)<(s:Rat):=by exact_mod_cast s2.d0
 exact bJ_log hE.lns (zF pr qr) (zF rr sr) (zCE hE s1) (zCE hE s2) i3 (hE.lg p q s1) (hE.lg r s s2) (hE.lg _ _ s3)
theorem zTV (L:Rat->Nat->Rat) (hL:Lns L) (w:World) (x y:Nm) (p q r s n d:Int) (b:Nat) (hx:IntAt w x.neg x.a x.n x.cap 4 n) (hy:IntAt w y.neg y.a y.n y.cap 4 d) (h:BpAr p q r s n d b) (h0:n=0) :
  Calls Tryz.prog 160 #[.agg x.q,.agg y.q,.agg #[.int .i64 p,.int .i64 q],.agg #[.int .i64 r,.int .i64 s],.int .i64 b] w (λ z w'=>LwPr (bvX L p q r s n d) b 0 0/\zH w b 30 0 0 z w'):=by
 obtain⟨W,hW⟩:∃ W,W=((((w.alloc (.cells x.q 29)).alloc (.cells y.q 29)).alloc (.cells #[.int .i64 p,.int .i64 q] 23)).alloc (.cells #[.int .i64 r,.int .i64 s] 23)).alloc (.cells zCq 31):=⟨_,rfl⟩;have j6:Below w.heap.size w W:=by rw[hW];exact bl5 _ _ _ _ _ _
 have X0:NmC W (w.heap.size) x:=by rw[hW];constructor<;>simp[go_sem]
 have Y0:NmC W (w.heap.size+1) y:=by rw[hW];constructor<;>simp[go_sem]
 have A:RaC W (w.heap.size+1+1) p q:=by rw[hW];constructor<;>simp[go_sem]
 have D:RaC W (w.heap.size+1+1+1) r s:=by rw[hW];constructor<;>simp[go_sem]
 have R:NoC W (w.heap.size+1+1+1+1):=by rw[hW];constructor<;>simp[go_sem]
 have HX:=zC (hx.bw j6);have HY:=zC (hy.bw j6);have jo:=X0.c0;have jq:=X0.c1;have Ca:=Y0.c0;have Cd:=Y0.c1;clear hx hy;have d0:=h.d0;have b1:=h.b1;have dd:=h.dd
 have pR:=zC (show -P 4<d-n/\d-n<P 4 by
  have:P 4=18446744073709551616:=rfl
  exact⟨by omega,by omega⟩)
 have HC:=zC (show zM n (d-n) = -1 by unfold zM;rw[if_pos (by omega)])
 have ox:=zC (show zM n 0=0 by rw[h0];rfl)
 have HV:=zC (show LwPr (bvX L p q r s n d) b 0 0 by
  have q:=zE b;have q2:=zE 89;refine⟨Int.le_refl _,Int.le_refl _,by omega,by omega,?_⟩
  unfold bvX;rw[if_pos h0];have e:((0:Int):Rat)/(Q b:Rat)=0:=by rw[show ((0:Int):Rat)=0 from rfl,YE,Rat.zero_mul]
  exact Has.const (by rw[e];exact Rat.le_refl) (by rw[e];exact Rat.le_refl))
 have HZ:=zC (show n*Q b/d=0 /\ -(-(n*Q b)/d)=0 by rw[h0,Int.zero_mul];simp)
 clear h h0 hL
 go_enter Tryz.func160,Tryz.ntmps160
 go_upto_region 1 with fail
 rw[<- hW];clear hW;go_wp2_with fail;clear jo jq Ca Cd;refine (zBP _ _ _ _ _ _ _ _ 4 4 d n _ (zA HY) (zA HX) (by omega) (by omega)).mono ?_
 rintro z0 w0 ⟨negL,aL,nL,cL,rfl,qE,F9⟩;obtain⟨VL,gB⟩:∃ V,V=w0.alloc (.cells #[.bool negL,.slice aL nL cL] 29):=⟨_,rfl⟩;have bVL:Below w0.heap.size w0 VL:=by rw[gB];exact bl1 _ _
 have L0:NmC VL w0.heap.size (⟨negL,aL,nL,cL⟩:Nm):=by rw[gB];constructor<;>simp[go_sem]
 have X9:=zC ((qE.fits (K:=4) (zA pR).1 (zA pR).2).bw bVL);have hbL:=zB F9 bVL;have kL:w.heap.size+1+1+1+1<w0.heap.size:=YB R.lt F9.size;replace A:=A.bw hbL;replace D:=D.bw hbL;replace X0:=X0.bw hbL;replace Y0:=Y0.bw hbL;replace R:=R.bw hbL;replace HX:=zC ((zA HX).bw hbL);replace HY:=zC ((zA HY).bw hbL);replace j6:=zB j6 hbL;clear hbL F9 bVL qE;obtain⟨bD,bG⟩:=X0;obtain⟨jr,js⟩:=L0;have lX:=NmC.lt ⟨bD,bG⟩;have lL:=NmC.lt ⟨jr,js⟩
 go_upto_region 2 with fail
 rw[<- gB];clear gB;go_wp2_with fail;have X0:NmC VL (w.heap.size) x:=⟨bD,bG⟩;have L0:NmC VL w0.heap.size (⟨negL,aL,nL,cL⟩:Nm):=⟨jr,js⟩;clear bD bG jr js lX lL;refine (jP _ _ _ _ _ _ _ _ 4 4 n (d-n) _ (zA HX) (zA X9)).mono ?_;rintro z1 w1 ⟨rfl,b9⟩;rw[zA HC];replace A:=A.bw b9;replace D:=D.bw b9;replace X0:=X0.bw b9;replace Y0:=Y0.bw b9;replace R:=R.bw b9;replace L0:=L0.bw b9;replace HX:=zC ((zA HX).bw b9);replace HY:=zC ((zA HY).bw b9);replace X9:=zC ((zA X9).bw b9);replace j6:=zB j6 b9;clear b9;obtain⟨bD,bG⟩:=X0;have lX:=NmC.lt ⟨bD,bG⟩;go_wp2_with fail;have X0:NmC w1 (w.heap.size) x:=⟨bD,bG⟩;clear bD bG lX;refine (zBG _ _ _ _ _ n _ (zA HX)).mono ?_;rintro z2 w2 ⟨rfl,j8⟩;rw[zA ox];replace A:=A.bw j8;replace D:=D.bw j8;replace X0:=X0.bw j8;replace Y0:=Y0.bw j8;replace R:=R.bw j8;replace L0:=L0.bw j8;replace HX:=zC ((zA HX).bw j8);replace HY:=zC ((zA HY).bw j8)
 replace X9:=zC ((zA X9).bw j8);replace j6:=zB j6 j8;clear j8;obtain⟨x0,x1⟩:=X0;obtain⟨y0,y1⟩:=Y0;have lR:=R.lt;have lX:=NmC.lt ⟨x0,x1⟩;have lY:=NmC.lt ⟨y0,y1⟩;go_wp2_with fail;refine (jI _ _ _ _ _ _ _ _ 4 4 b n d _ (zA HX) (zA HY) (by omega) (by omega) d0).mono ?_
 rintro z3 w3 ⟨t,rfl,I2,K5,m8⟩;rw[(zA HZ).1,(zA HZ).2] at K5;have HT:=zC I2;replace j6:=zB j6 m8;obtain⟨q0,q1,q2,q3,q4,q5⟩:=R.bw m8;have Z6:=(R.bw m8).lt;clear I2 m8 x0 x1 y0 y1;have fit:=K5.fits (K:=30) (Int.le_refl _) (by have:=yF 30;omega) (yF 30)
 go_wp2_with fail;refine bodyPost_ret (v:=.agg t.q) (by simp[results,Tryz.results160,go_sem,q0,q1,q2,q3,q4]) rfl ⟨zA HV,t,rfl,zA HT,?_,?_⟩
 ·exact SpAt.put5 fit q0 q1 q2 q3 q4 _ _ _ _ _
 ·exact jV j6 (by omega) _ _ _ _ _
theorem zN3 (L G:Rat->Nat->Rat) (X:Int->Int->Nat->Rat) (hE:zLD L G X) (w:World) (x y:Nm) (p q r s n d:Int) (b:Nat) (hx:IntAt w x.neg x.a x.n x.cap 4 n) (hy:IntAt w y.neg y.a y.n y.cap 4 d) (h:BpAr p q r s n d b) (h2:2*n<=d) :
  Calls Tryz.prog 160 #[.agg x.q,.agg y.q,.agg #[.int .i64 p,.int .i64 q],.agg #[.int .i64 r,.int .i64 s],.int .i64 b] w (λ z w'=>∃ lo hi,BpPr L p q r s n d b lo hi/\zH w b 30 lo hi z w'):=by
 by_cases h0:n=0
 ·exact (zTV L hE.lns w x y p q r s n d b hx hy h h0).mono λ z w' ⟨h1,h2⟩=>⟨0,0,⟨h1,λ _=>⟨rfl,rfl⟩,λ e=>absurd e (by have:=h.d0;omega)⟩,h2⟩
 ·have n0:=h.n0
  obtain⟨s1,s2,s3,hn⟩:=bp_st h.p0 h.q0 h.pq h.qq h.r0 h.s0 h.rs h.ss;have pq:=h.pq;have rs:=h.rs;have qq:=h.qq;have ss:=h.ss
  have e:bvX L p q r s n d=bv L ((p:Rat)/(q:Rat)) ((r:Rat)/(s:Rat)) ((n:Rat)/(d:Rat)):=by
   unfold bvX;rw[if_neg h0,if_neg (by omega)]
  refine (zTS L hE.lns w x y p q r s n d b (X p q) (X r s) (X (p*s+r*q) (q*s)) hx hy ⟨h.p0,h.q0,h.pq,h.qq,h.r0,h.s0,h.rs,h.ss,by omega,h2,h.dd,h.b0,h.b1⟩ (bj_log hE s1 s2 s3) (zIG hE s1 (by omega) h.b0 h.b1) (zIG hE s2 (by omega) h.b0 h.b1) (zIG hE s3 hn h.b0 h.b1)).mono λ z w' ⟨lo,hi,h1,h3⟩=>⟨lo,hi,⟨?_,λ k=>absurd k h0,λ k=>absurd k (by omega)⟩,h3⟩
  rw[e];exact h1
theorem LwPr.congr {x y:Nat->Rat} {B:Nat} {l u:Int} (h:LwPr x B l u) (k:Null (λ M=>y M-x M)):LwPr y B l u:=⟨h.lo,h.le,h.hi,h.wd,Has.congr h.iv k⟩
theorem bvX_turn {L:Rat->Nat->Rat} (hL:Lns L) {p q r s n d:Int} (p0:0<p) (q0:0<q) (r0:0<r) (s0:0<s) (n0:0<=n) (nd:n<=d) (d0:0<d):Null (λ M=>bvX L p q r s n d M-(1-bvX L r s p q (d-n) d M)):=by
 unfold bvX
 by_cases h0:n=0
 ·rw[if_pos h0,if_neg (show ¬ d-n=0 by omega),if_pos (show d-n=d by omega)]
  exact null_zero.of_eq λ M=>by grind
 ·by_cases h1:n=d
  ·rw[if_neg h0,if_pos h1,if_pos (show d-n=0 by omega)]
   exact null_zero.of_eq λ M=>by grind
  ·rw[if_neg h0,if_neg h1,if_neg (show ¬ d-n=0 by omega),if_neg (show ¬ d-n=d by omega)]
   have pr:(0:Rat)<(p:Rat):=by exact_mod_cast p0
   have qr:(0:Rat)<(q:Rat):=by exact_mod_cast q0
   have rr:(0:Rat)<(r:Rat):=by exact_mod_cast r0
   have sr:(0:Rat)<(s:Rat):=by exact_mod_cast s0
   have nr:(0:Rat)<(n:Rat):=by exact_mod_cast (show 0<n by omega)
   have dr:(0:Rat)<(d:Rat):=by exact_mod_cast d0
   have e:((d-n:Int):Rat)/(d:Rat)=1-(n:Rat)/(d:Rat):=by
    rw[Rat.intCast_sub,YE,YE];have:=Rat.mul_inv_cancel (d:Rat) (by grind)
    grind
   rw[e]
   have lt:(n:Rat)/(d:Rat)<1:=by
    refine Rat.lt_of_mul_lt_mul_right (c:=(d:Rat)) ?_ (Yw dr);rw[rdm dr];have:(n:Rat)<(d:Rat):=by exact_mod_cast (show n<d by omega)
    grind
   exact zRI hL (zF pr qr) (zF rr sr) (zF nr dr) lt
theorem zTU (L G:Rat->Nat->Rat) (X:Int->Int->Nat->Rat) (hE:zLD L G X) (w:World) (x y:Nm) (p q r s n d:Int) (b:Nat) (hx:IntAt w x.neg x.a x.n x.cap 4 n) (hy:IntAt w y.neg y.a y.n y.cap 4 d) (h:BpAr p q r s n d b) (h2:d<2*n) :
  Calls Tryz.prog 160 #[.agg x.q,.agg y.q,.agg #[.int .i64 p,.int .i64 q],.agg #[.int .i64 r,.int .i64 s],.int .i64 b] w (λ z w'=>∃ lo hi,BpPr L p q r s n d b lo hi/\zH w b 61 lo hi z w'):=by
 obtain⟨W,hW⟩:∃ W,W=((((w.alloc (.cells x.q 29)).alloc (.cells y.q 29)).alloc (.cells #[.int .i64 p,.int .i64 q] 23)).alloc (.cells #[.int .i64 r,.int .i64 s] 23)).alloc (.cells zCq 31):=⟨_,rfl⟩;have j6:Below w.heap.size w W:=by rw[hW];exact bl5 _ _ _ _ _ _
 have X0:NmC W (w.heap.size) x:=by rw[hW];constructor<;>simp[go_sem]
 have Y0:NmC W (w.heap.size+1) y:=by rw[hW];constructor<;>simp[go_sem]
 have A:RaC W (w.heap.size+1+1) p q:=by rw[hW];constructor<;>simp[go_sem]
 have D:RaC W (w.heap.size+1+1+1) r s:=by rw[hW];constructor<;>simp[go_sem]
 have R:NoC W (w.heap.size+1+1+1+1):=by rw[hW];constructor<;>simp[go_sem]
 have HX:=zC (hx.bw j6);have HY:=zC (hy.bw j6);have jo:=X0.c0;have jq:=X0.c1;have Ca:=Y0.c0;have Cd:=Y0.c1;clear hx hy;have d0:=h.d0;have b0:=h.b0;have b1:=h.b1;have dd:=h.dd;have nd:=h.nd
 have pR:=zC (show -P 4<d-n/\d-n<P 4 by
  have:P 4=18446744073709551616:=rfl
  exact⟨by omega,by omega⟩)
 have HC:=zC (show zM n (d-n)=1 by unfold zM;rw[if_neg (by omega),if_pos (by omega)])
 have Y2:=zC (bvX_turn hE.lns h.p0 h.q0 h.r0 h.s0 h.n0 h.nd h.d0);have TJ:=zC h.turn;have HE:=zC hE;clear h hE
 go_enter Tryz.func160,Tryz.ntmps160
 go_upto_region 1 with fail
 rw[<- hW];clear hW;go_wp2_with fail;clear jo jq Ca Cd;refine (zBP _ _ _ _ _ _ _ _ 4 4 d n _ (zA HY) (zA HX) (by omega) (by omega)).mono ?_
 rintro z0 w0 ⟨negL,aL,nL,cL,rfl,qE,F9⟩;obtain⟨VL,gB⟩:∃ V,V=w0.alloc (.cells #[.bool negL,.slice aL nL cL] 29):=⟨_,rfl⟩;have bVL:Below w0.heap.size w0 VL:=by rw[gB];exact bl1 _ _
 have L0:NmC VL w0.heap.size (⟨negL,aL,nL,cL⟩:Nm):=by rw[gB];constructor<;>simp[go_sem]
 have X9:=zC ((qE.fits (K:=4) (zA pR).1 (zA pR).2).bw bVL);have hbL:=zB F9 bVL;have kL:w.heap.size+1+1+1+1<w0.heap.size:=YB R.lt F9.size;replace A:=A.bw hbL;replace D:=D.bw hbL;replace X0:=X0.bw hbL;replace Y0:=Y0.bw hbL;replace R:=R.bw hbL;replace HX:=zC ((zA HX).bw hbL);replace HY:=zC ((zA HY).bw hbL);replace j6:=zB j6 hbL;clear hbL F9 bVL qE;obtain⟨bD,bG⟩:=X0;obtain⟨jr,js⟩:=L0;have lX:=NmC.lt ⟨bD,bG⟩;have lL:=NmC.lt ⟨jr,js⟩
 go_upto_region 2 with fail
 rw[<- gB];clear gB;go_wp2_with fail;have X0:NmC VL (w.heap.size) x:=⟨bD,bG⟩;have L0:NmC VL w0.heap.size (⟨negL,aL,nL,cL⟩:Nm):=⟨jr,js⟩;clear bD bG jr js lX lL;refine (jP _ _ _ _ _ _ _ _ 4 4 n (d-n) _ (zA HX) (zA X9)).mono ?_;rintro z1 w1 ⟨rfl,b9⟩;rw[zA HC];replace A:=A.bw b9;replace D:=D.bw b9;replace X0:=X0.bw b9;replace Y0:=Y0.bw b9;replace R:=R.bw b9;replace L0:=L0.bw b9;replace HX:=zC ((zA HX).bw b9);replace HY:=zC ((zA HY).bw b9);replace X9:=zC ((zA X9).bw b9);replace j6:=zB j6 b9;clear b9;obtain⟨x0,x1⟩:=L0;obtain⟨y0,y1⟩:=Y0;have aa:=A.c0;have ab:=A.c1;have da:=D.c0;have db:=D.c1;have lA:=A.lt;have lD:=D.lt;have lL:=NmC.lt ⟨x0,x1⟩;have lY:=NmC.lt ⟨y0,y1⟩;go_wp2_with fail;refine (zN3 L G X (zA HE) _ (⟨negL,aL,nL,cL⟩:Nm) y r s p q (d-n) d b (zA X9) (zA HY) (zA TJ) (by omega)).mono ?_
 rintro z2 w2 ⟨lo,hi,hv,t,rfl,I2,K5,j8⟩;have HV:=zC hv;have oF:=zC I2;replace R:=R.bw j8;replace j6:=zB j6 j8;clear hv I2 j8 x0 x1 y0 y1 aa ab da db lA lD lL lY;go_wp2_with fail;refine (zE0 _ t 60 b (lo,hi) (K5.mono (by omega)) (zA oF) (by omega) (by omega) (by omega)).mono ?_
 rintro z3 w3 ⟨u,rfl,B8,B7,m8⟩;have HU:=zC B8;replace j6:=zB j6 m8;obtain⟨q0,q1,q2,q3,q4,q5⟩:=R.bw m8;have Z6:=(R.bw m8).lt;clear B8 m8;go_wp2_with fail;refine bodyPost_ret (v:=.agg u.q) (by simp[results,Tryz.results160,go_sem,q0,q1,q2,q3,q4]) rfl ⟨_,_,⟨(zS5 (zA HV).pr).congr (zA Y2),λ k=>absurd k (by omega),λ k=>by obtain⟨k1,k2⟩:=(zA HV).z (by omega);subst k1 k2;exact⟨Int.sub_zero _,Int.sub_zero _⟩⟩,u,rfl,zA HU,?_,?_⟩
 ·exact SpAt.put5 B7 q0 q1 q2 q3 q4 _ _ _ _ _
 ·exact jV j6 (by omega) _ _ _ _ _
theorem zTR (L G:Rat->Nat->Rat) (X:Int->Int->Nat->Rat) (hE:zLD L G X) (w:World) (x y:Nm) (p q r s n d:Int) (b:Nat) (hx:IntAt w x.neg x.a x.n x.cap 4 n) (hy:IntAt w y.neg y.a y.n y.cap 4 d) (h:BpAr p q r s n d b) :
  Calls Tryz.prog 160 #[.agg x.q,.agg y.q,.agg #[.int .i64 p,.int .i64 q],.agg #[.int .i64 r,.int .i64 s],.int .i64 b] w (λ z w'=>∃ lo hi,BpPr L p q r s n d b lo hi/\zH w b 61 lo hi z w'):=by
 by_cases h2:2*n<=d
 ·exact (zN3 L G X hE w x y p q r s n d b hx hy h h2).mono λ z w' ⟨lo,hi,h1,t,a1,a2,a3,a4⟩=>⟨lo,hi,h1,t,a1,a2,a3.mono (by omega),a4⟩
 ·exact zTU L G X hE w x y p q r s n d b hx hy h (by omega)
namespace Ex
end Ex
theorem iv_lt {B:Nat} {a:Int × Int} {x:Nat->Rat} (h:Iv B a x) {c:Rat} (k:LeN x (λ _=>c)) {z:Int} (hz:c*(Q B:Rat)<(z:Rat)):a.1<z:=by
 have q:=jJ B
 have l:(a.1:Rat)/(Q B:Rat)<=c:=by
  refine Rat.not_lt.1 λ D9=>?_
  obtain⟨e,he⟩:∃ e,e=((a.1:Rat)/(Q B:Rat)-c)/4:=⟨_,rfl⟩;have e0:0<e:=by grind
  obtain⟨N1,k1⟩:=h e e0;obtain⟨N2,k2⟩:=k e e0;have a1:=(k1 (N1+N2) (by omega)).1
  have a2:=k2 (N1+N2) (by omega)
  simp only[] at a2;grind
 have m:=Yv l (Yw q);rw[rdm q] at m
 exact_mod_cast (show (a.1:Rat)<(z:Rat) by grind)
theorem iv_gt {B:Nat} {a:Int × Int} {x:Nat->Rat} (h:Iv B a x) {c:Rat} (k:LeN (λ _=>c) x) {z:Int} (hz:(z:Rat)<c*(Q B:Rat)):z<a.2:=by
 have q:=jJ B
 have l:c<=(a.2:Rat)/(Q B:Rat):=by
  refine Rat.not_lt.1 λ D9=>?_
  obtain⟨e,he⟩:∃ e,e=(c-(a.2:Rat)/(Q B:Rat))/4:=⟨_,rfl⟩;have e0:0<e:=by grind
  obtain⟨N1,k1⟩:=h e e0;obtain⟨N2,k2⟩:=k e e0;have a1:=(k1 (N1+N2) (by omega)).2
  have a2:=k2 (N1+N2) (by omega)
  simp only[] at a2;grind
 have m:=Yv l (Yw q);rw[rdm q] at m
 exact_mod_cast (show (z:Rat)<(a.2:Rat) by grind)
theorem up_unit {x:Nat->Rat} {b:Nat} {L1 H1 L2 H2:Int} (h1:SuV x b L1 H1) (h2:SuV (λ M=>1-x M) b L2 H2):zOM (zAR (L1,H1) (L2,H2)).1 (zAR (L1,H1) (L2,H2)).2 0 (1*Q b) (1*Q b) 0=true:=by
 have i:Iv b (zAR (L1,H1) (L2,H2)) (λ _=>((1:Int):Rat)):=Has.of_eq (h1.val.add h2.val) λ M=>by
  have c2:((1:Int):Rat)=1:=rfl;rw[c2];grind
 exact zUQ i (null_zero.of_eq λ M=>by grind)
theorem su_le {b:Nat} {x y:Nat->Rat} {L1 H1 L2 H2:Int} (h1:SuV x b L1 H1) (h2:SuV y b L2 H2) (k:LeN x y):L1<=H2:=by
 obtain⟨z,hz,kz⟩:=k.null;exact Iv.touch_le h1.val h2.val hz 0 λ M _=>kz M
open Go.RowKit
attribute [local go_sem ↓] Go.wp_at_zero Go.wp_at_succ
open Ex
theorem zE3 {b:Nat} {a c:Int × Int} {x:Nat->Rat} (h:Iv b a x) (k:Iv b c x):zOM a.1 a.2 0 c.1 c.2 0=true:=by
 have q:=zE b;have t1:=Int.le_of_mul_le_mul_right (h.touch k) (show 0<Q b by omega)
 have t2:=Int.le_of_mul_le_mul_right (k.touch h) (show 0<Q b by omega)
 have e0:Q 0=1:=rfl;unfold zOM;rw[e0];simp[t1,t2]
theorem zRF {L:Rat->Nat->Rat} (hL:Lns L) {p q r s n d:Int} (p0:0<p) (q0:0<q) (r0:0<r) (s0:0<s) (n0:0<=n) (nd:n<=d) (d0:0<d):Nn (bvX L p q r s n d)/\LeN (bvX L p q r s n d) (λ _=>1):=by
 unfold bvX
 by_cases h0:n=0
 ·rw[if_pos h0];exact⟨Nn.const (by grind),LeN.of_le 0 λ M _=>by grind⟩
 ·by_cases h1:n=d
  ·rw[if_neg h0,if_pos h1];exact⟨Nn.const (by grind),LeN.of_le 0 λ M _=>by grind⟩
  ·rw[if_neg h0,if_neg h1]
   have pr:(0:Rat)<(p:Rat):=by exact_mod_cast p0
   have qr:(0:Rat)<(q:Rat):=by exact_mod_cast q0
   have rr:(0:Rat)<(r:Rat):=by exact_mod_cast r0
   have sr:(0:Rat)<(s:Rat):=by exact_mod_cast s0
   have nr:(0:Rat)<(n:Rat):=by exact_mod_cast (show 0<n by omega)
   have dr:(0:Rat)<(d:Rat):=by exact_mod_cast d0
   have lt:(n:Rat)/(d:Rat)<1:=by
    refine Rat.lt_of_mul_lt_mul_right (c:=(d:Rat)) ?_ (Yw dr);rw[rdm dr];have:(n:Rat)<(d:Rat):=by exact_mod_cast (show n<d by omega)
    grind
   exact⟨bv_nn hL (zF pr qr) (zF rr sr) (zF nr dr) lt,zRG hL (zF pr qr) (zF rr sr) (zF nr dr) lt⟩
theorem zM3 {L:Rat->Nat->Rat} (hL:Lns L) {p q r s n d n2 d2:Int} (p0:0<p) (q0:0<q) (r0:0<r) (s0:0<s) (n0:0<=n) (nd:n<=d) (d0:0<d) (FR:0<=n2) (nd2:n2<=d2) (d20:0<d2) (hle:n*d2<=n2*d):LeN (bvX L p q r s n d) (bvX L p q r s n2 d2):=by
 have a1:=zRF hL p0 q0 r0 s0 n0 nd d0;have a2:=zRF hL p0 q0 r0 s0 FR nd2 d20
 by_cases h0:n=0
 ·have e:bvX L p q r s n d=λ _=>0:=by unfold bvX;rw[if_pos h0]
  rw[e];exact a2.1.leN
 ·by_cases h2:n2=d2
  ·have e:bvX L p q r s n2 d2=λ _=>1:=by unfold bvX;rw[if_neg (by omega),if_pos h2]
   rw[e];exact a1.2
  ·have np:0<n*d2:=Int.mul_pos (by omega) d20
   have DP:n2≠0:=λ h=>by rw[h,Int.zero_mul] at hle;omega
   have h1:n≠d:=λ h=>by
    have m:=Int.mul_lt_mul_of_pos_right (show n2<d2 by omega) d0
    rw[h,Int.mul_comm d d2] at hle;omega
   unfold bvX;rw[if_neg h0,if_neg h1,if_neg DP,if_neg h2];have pr:(0:Rat)<(p:Rat):=by exact_mod_cast p0
   have qr:(0:Rat)<(q:Rat):=by exact_mod_cast q0
   have rr:(0:Rat)<(r:Rat):=by exact_mod_cast r0
   have sr:(0:Rat)<(s:Rat):=by exact_mod_cast s0
   have nr:(0:Rat)<(n:Rat):=by exact_mod_cast (show 0<n by omega)
   have dr:(0:Rat)<(d:Rat):=by exact_mod_cast d0
   have BK:(0:Rat)<(d2:Rat):=by exact_mod_cast d20
   have lt:(n2:Rat)/(d2:Rat)<1:=by
    refine Rat.lt_of_mul_lt_mul_right (c:=(d2:Rat)) ?_ (Yw BK);rw[rdm BK];have:(n2:Rat)<(d2:Rat):=by exact_mod_cast (show n2<d2 by omega)
    grind
   have xy:(n:Rat)/(d:Rat)<=(n2:Rat)/(d2:Rat):=by
    refine jL BK (Rat.le_of_mul_le_mul_right (c:=(d:Rat)) ?_ dr);have c:=jA hle;rw[YA,YA] at c;have r:=rdm (a:=(n:Rat)) dr;have e:(n:Rat)/(d:Rat)*(d2:Rat)*(d:Rat)=(n:Rat)/(d:Rat)*(d:Rat)*(d2:Rat):=by grind
    rw[e,r];exact c
   exact bv_mono hL (zF pr qr) (zF rr sr) (zF nr dr) xy lt
end Go.Proofs.YtgmnknmjainabacGreat
