/-
  Its own texts.
-/
import Derived.Test.YtgmnknmjainabacGreatH23
set_option maxRecDepth 100000
set_option maxHeartbeats 40000000
set_option linter.unnecessarySimpa false
set_option linter.unusedSimpArgs false
set_option linter.unusedVariables false
namespace Go.Proofs.YtgmnknmjainabacGreat
open Go.RowKit
attribute [local go_sem ↓] Go.wp_at_zero Go.wp_at_succ
open Ex
theorem zJ5 (w:World) (x y:Nm) (p q n d:Int) (b:Nat) (hx:IntAt w x.neg x.a x.n x.cap 4 n) (hy:IntAt w y.neg y.a y.n y.cap 4 d) (h:LwAr p q n d b) (h0:0<n) (hf:d*(2*((b:Int)+p/q+1))<=n) :
  Calls Tryz.prog 159 #[.agg #[.int .i64 p,.int .i64 q],.agg x.q,.agg y.q,.int .i64 b] w (zG w b 30 (Q b-1) (Q b)):=by
 obtain⟨W,hW⟩:∃ W,W=(((w.alloc (.cells #[.int .i64 p,.int .i64 q] 23)).alloc (.cells x.q 29)).alloc (.cells y.q 29)).alloc (.cells zCq 31):=⟨_,rfl⟩;have j8:Below w.heap.size w W:=by rw[hW];exact bl4 _ _ _ _ _
 have A:RaC W (w.heap.size) p q:=by rw[hW];constructor<;>simp[go_sem]
 have X0:NmC W (w.heap.size+1) x:=by rw[hW];constructor<;>simp[go_sem]
 have Y0:NmC W (w.heap.size+1+1) y:=by rw[hW];constructor<;>simp[go_sem]
 have R:NoC W (w.heap.size+1+1+1):=by rw[hW];constructor<;>simp[go_sem]
 have HX:=zC (hx.bw j8);have HY:=zC (hy.bw j8);have rO:=X0.c0;have rP:=X0.c1;have lX:=X0.lt;clear hx hy;have d0:=h.d0;have b0:=h.b0;have b1:=h.b1;have nO:=zC (show zN n 0=1 by unfold zN;rw[if_neg (by omega),if_pos (by omega)])
 have iG:=zC (show 0<p/\0<q/\p<=1152921504606846976 by have:=h.p0;have:=h.q0;have:=h.pq;have:=h.qq;exact⟨h.p0,h.q0,by omega⟩)
 have Aj:=zC (show -9223372036854775808<=2*((b:Int)+p/q+1)/\2*((b:Int)+p/q+1)<=9223372036854775807 by
  have:=Int.ediv_nonneg (Int.le_of_lt h.p0) (Int.le_of_lt h.q0);have:p/q<=100:=Int.ediv_le_of_le_mul h.q0 h.pq;have:=h.b1
  exact⟨by omega,by omega⟩)
 have Gp:=zC (show Q b-1<=Q b /\ -P 30<Q b-1/\Q b<P 30 by
  have h1:=zH (show b+1<=16*30 by omega)
  rw[Q_P] at h1;have h2:Q (b+1)=2*Q b:=rfl;have:=zE b
  exact⟨by omega,by omega,by omega⟩)
 obtain⟨cc,oz,E4⟩:∃ cc:Int,0<=cc/\zN n (d*(2*((b:Int)+p/q+1)))=cc:=⟨_,by unfold zN;split;omega;split<;>omega,rfl⟩
 have HC:=zC E4;clear h h0 hf E4
 go_enter Tryz.func159,Tryz.ntmps159
 go_wp2_with fail;rw[<- hW];clear hW rO rP lX;refine (zAY _ _ _ _ _ n _ (zA HX)).mono ?_;rintro r w1 ⟨rfl,b9⟩;rw[zA nO];replace A:=A.bw b9;replace X0:=X0.bw b9;replace Y0:=Y0.bw b9;replace R:=R.bw b9;replace HX:=zC ((zA HX).bw b9);replace HY:=zC ((zA HY).bw b9);replace j8:=zB j8 b9;clear b9;have lA:=A.lt;have lX:=X0.lt;have lY:=Y0.lt;have lR:=R.lt;have HK:=zC (show ∀ w',Below w1.heap.size w1 w'->(rK w' w.heap.size p q (nK w' (w.heap.size+1) x (nK0 w' (w.heap.size+1+1) y))) from λ w' hB=>⟨(A.bw hB).c0,(A.bw hB).c1,(X0.bw hB).c0,(X0.bw hB).c1,(Y0.bw hB).c0,(Y0.bw hB).c1⟩)
 have D7:Below w1.heap.size w1 w1.drew:=(Below.refl _ _).drew;go_wp2_with fail;obtain⟨x0,x1,x2,x3,x4,x5⟩:=zA HK _ (Below.refl _ _)
 go_region_held3 (λ w'=>rK w' w.heap.size p q (nK w' (w.heap.size+1) x (nK0 w' (w.heap.size+1+1) y))) (first|exact zA HK _ (by with_reducible first|exact D7|exact I1|exact D3|exact o9|exact A6)|(dsimp only[cK,cK0,nK,nK0,rK,rK0];go_keep)|go_keep)
  (first
   | (go_at_call 17;have hq:=D3;refine (jY _ _ _ _ _ _ _ _ 4 (4+4) n (d*(2*((b:Int)+p/q+1))) _ ((zA HX).bw D3) G0).mono ?_;rintro r w5 ⟨rfl,D8⟩;rw[zA HC];have I1:=zB D3 D8;have i0:=zA HK _ I1)
   | (go_at_call 83;have hq:=o9;refine (zX _ _ _ _ _ _ _ _ 4 4 d (2*((b:Int)+p/q+1)) _ ((zA HY).bw o9) A5 (by omega) (by omega)).mono ?_;rintro r w4 ⟨B8,a3,n3,c3,rfl,G0,y9⟩;have D3:=zB o9 y9)
   | (go_at_call 33;have hq:=A6;refine (zD (2*((b:Int)+p/q+1)) _ (zA Aj).1 (zA Aj).2).mono ?_;rintro r w3 ⟨j6,a2,n2,c2,rfl,A5,o7⟩;have o9:=zB A6 o7)
   | (go_at_call 179;refine (zFA _ p q b (zA iG).1 (zA iG).2.1 (zA iG).2.2 (by omega)).mono ?_;rintro r w2 ⟨rfl,j7⟩;have A6:=zB D7 j7))
 all_goals
  have R3:=R.bw I1;replace j8:=zB j8 I1;have iz:=R3.lt;clear x0 x1 x2 x3 x4 x5 i0 A5 G0;go_wp2_with fail;refine (zEG _ b (by omega)).mono ?_
  rintro r w6 ⟨t,rfl,J2,P5,K8⟩;obtain⟨q0,q1,q2,q3,q4,q5⟩:=R3.bw K8;replace j8:=zB j8 K8;have HT:=zC J2;clear J2;have fit:=P5.fits (K:=30) (zA Gp).1 (zA Gp).2.1 (zA Gp).2.2;go_wp2_with fail;refine bodyPost_ret (v:=.agg t.q) (by simp[results,Tryz.results159,go_sem,q0,q1,q2,q3,q4]) rfl ⟨t,rfl,zA HT,?_,?_⟩
  ·exact SpAt.put5 fit q0 q1 q2 q3 q4 _ _ _ _ _
  ·exact jS j8 (by omega) _ _ _ _ _
theorem zIH (L:Rat->Nat->Rat) (hL:Lns L) (p q n d:Int) (b:Nat) (g X:Nat->Rat) (h:zMO p q n d b) (ig:IsGam L ((p:Rat)/(q:Rat)) g) (hX:IsLog X (λ M=>(p:Rat)/(q:Rat)*g M)) (ET:zP2 (p+q) q b X) :
  ∃ c:Int × Int,LwPr (lwX L p q n d g) b c.1 c.2/\∀ (w:World) (x y:Nm),IntAt w x.neg x.a x.n x.cap 4 n->IntAt w y.neg y.a y.n y.cap 4 d->Calls Tryz.prog 159 #[.agg #[.int .i64 p,.int .i64 q],.agg x.q,.agg y.q,.int .i64 b] w (zG w b 30 c.1 c.2):=by
 have d0:=h.d0;have fT:=h.q0;have Fv:=h.p0;have Kg:=h.n0;have b0:=h.b0;have b1:=h.b1;have nO:=zC (show zN n 0=1 by unfold zN;rw[if_neg (by omega),if_pos (by omega)])
 have iG:=zC (show 0<p/\0<q/\p<=1152921504606846976 by have:=h.p0;have:=h.q0;have:=h.pq;have:=h.qq;exact⟨h.p0,h.q0,by omega⟩)
 have Aj:=zC (show -9223372036854775808<=2*((b:Int)+p/q+1)/\2*((b:Int)+p/q+1)<=9223372036854775807 by
  have:=Int.ediv_nonneg (Int.le_of_lt h.p0) (Int.le_of_lt h.q0);have:p/q<=100:=Int.ediv_le_of_le_mul h.q0 h.pq;have:=h.b1
  exact⟨by omega,by omega⟩)
 have HC:=zC (show zN n (d*(2*((b:Int)+p/q+1))) = -1 by unfold zN;rw[if_pos h.nx])
 have bl:q<=1048576:=h.qq;have L9:p<=104857600:=by have:=h.pq;omega
 obtain⟨NS,np,V5⟩:=lu_set h;have xx:=lu_x h;have Xr:=xx.2.2
 have PK:Q 20461<P 1300:=by
  rw[<- Q_P];have h1:=zH (show 20461+1<=16*1300 by omega)
  have g2:∀ j,Q (j+1)=2*Q j:=λ _=>rfl
  rw[g2] at h1;have:=zE 20461;generalize Q 20461=z at *;omega
 have pg:=zC (show -P 1300<Q b/\Q b<P 1300 by
  have:=zE b;have:=zH (show b<=20461 by omega)
  have:=yI 1300
  exact⟨by omega,by omega⟩)
 have gm:=zC (show ∀ j,j<=NS -> -P 1300<(luT p q n d b j).1/\(luT p q n d b j).2<P 1300 from λ j _=>by
  have e:0<=(luT p q n d b j).1:=(zAF (zII h) j).1;have u:=lu_hi h j;have:=yI 1300
  exact⟨by omega,by omega⟩)
 have gy:=zC (show ∀ j,j<=NS -> -P 1300<(jE (luT p q n d b) j).1/\(jE (luT p q n d b) j).2<P 1300 from λ j hj=>by
  have u:=lu_fit h j (by omega)
  have l:Q b<=(jE (luT p q n d b) j).1:=(zFP (zII h) j).2.2;have:=zE b;have:=yI 1300
  exact⟨by omega,by omega⟩)
 have gx:=zC (λ j=>show (luT p q n d b j).1<=(luT p q n d b j).2 from (zAF (zII h) j).2)
 have az:=zC (λ j=>show 0<=(luT p q n d b j).1 from (zAF (zII h) j).1)
 have HM:=zC V5
 have HZ:=zC (show 2*n/d=(luN n d:Int)/\0<=2*n/d/\2*n/d<P 1 /\ -P 1<2*n/d by
  have p1:P 1=65536:=rfl;have:=xx.2.1
  exact⟨by omega,by omega,by omega,by omega⟩)
 have xQ:=zC (show Q (b+4)<P 500 by
  rw[<- Q_P];have h1:=zH (show b+4+1<=16*500 by omega)
  have h2:Q (b+4+1)=2*Q (b+4):=rfl;have:=zE (b+4)
  omega)
 obtain⟨o,PH,oh⟩:=zDM L hL b n d (by have:=h.nn;omega) (by have:=h.dd;omega) Kg d0 b0 b1
 obtain⟨lg,ug,mC,ET⟩:=ET;have Ap:=zC oh;have Tg:=zC ET;obtain⟨l,t,NE,e1,e2,e3,e4,e5,e6,e7,e8⟩:=lu_exp h PH mC hL ig hX np V5;have Z6:=zC e1;have bo:=zC e2;have xD:=zC e4;have oW:=zC e5;have rF:=zC e6;have GL:=zC e7;have X7:=zC e8;refine⟨(zDN (zA2 p q n d b NS).1 (zA2 p q n d b NS).2 (luE p q n d b o (lg,ug) t NE).1 (luE p q n d b o (lg,ug) t NE).2 b,zNO (zA2 p q n d b NS) (luE p q n d b o (lg,ug) t NE) b),by unfold lwX;rw[if_neg (by omega)];exact e8.2.2.2.2,λ w x y hx hy=>?_⟩
 clear h hL ig hX V5 PK xx oh ET PH mC e1 e2 e4 e5 e6 e7 e8;obtain⟨W,hW⟩:∃ W,W=(((w.alloc (.cells #[.int .i64 p,.int .i64 q] 23)).alloc (.cells x.q 29)).alloc (.cells y.q 29)).alloc (.cells zCq 31):=⟨_,rfl⟩;have j8:Below w.heap.size w W:=by rw[hW];exact bl4 _ _ _ _ _
 have A:RaC W (w.heap.size) p q:=by rw[hW];constructor<;>simp[go_sem]
 have X0:NmC W (w.heap.size+1) x:=by rw[hW];constructor<;>simp[go_sem]
 have Y0:NmC W (w.heap.size+1+1) y:=by rw[hW];constructor<;>simp[go_sem]
 have R:NoC W (w.heap.size+1+1+1):=by rw[hW];constructor<;>simp[go_sem]
 have HX:=zC (hx.bw j8);have HY:=zC (hy.bw j8);have rO:=X0.c0;have rP:=X0.c1;have lX:=X0.lt;clear hx hy
 go_enter Tryz.func159,Tryz.ntmps159
 go_wp2_with fail;rw[<- hW];clear hW rO rP lX;refine (zAY _ _ _ _ _ n _ (zA HX)).mono ?_;rintro r w1 ⟨rfl,b9⟩;rw[zA nO];replace A:=A.bw b9;replace X0:=X0.bw b9;replace Y0:=Y0.bw b9;replace R:=R.bw b9;replace HX:=zC ((zA HX).bw b9);replace HY:=zC ((zA HY).bw b9);replace j8:=zB j8 b9;clear b9;have lA:=A.lt;have lX:=X0.lt;have lY:=Y0.lt;have lR:=R.lt;have HK:=zC (show ∀ w',Below w1.heap.size w1 w'->(rK w' w.heap.size p q (nK w' (w.heap.size+1) x (nK0 w' (w.heap.size+1+1) y))) from λ w' hB=>⟨(A.bw hB).c0,(A.bw hB).c1,(X0.bw hB).c0,(X0.bw hB).c1,(Y0.bw hB).c0,(Y0.bw hB).c1⟩)
 have D7:Below w1.heap.size w1 w1.drew:=(Below.refl _ _).drew;go_wp2_with fail;obtain⟨x0,x1,x2,x3,x4,x5⟩:=zA HK _ (Below.refl _ _)
 go_region_held3 (λ w'=>rK w' w.heap.size p q (nK w' (w.heap.size+1) x (nK0 w' (w.heap.size+1+1) y))) (first|exact zA HK _ (by with_reducible first|exact D7|exact I1|exact D3|exact o9|exact A6)|(dsimp only[cK,cK0,nK,nK0,rK,rK0];go_keep)|go_keep)
  (first
   | (go_at_call 17;have hq:=D3;refine (jY _ _ _ _ _ _ _ _ 4 (4+4) n (d*(2*((b:Int)+p/q+1))) _ ((zA HX).bw D3) G0).mono ?_;rintro r w5 ⟨rfl,D8⟩;rw[zA HC];have I1:=zB D3 D8;have i0:=zA HK _ I1)
   | (go_at_call 83;have hq:=o9;refine (zX _ _ _ _ _ _ _ _ 4 4 d (2*((b:Int)+p/q+1)) _ ((zA HY).bw o9) A5 (by omega) (by omega)).mono ?_;rintro r w4 ⟨B8,a3,n3,c3,rfl,G0,y9⟩;have D3:=zB o9 y9)
   | (go_at_call 33;have hq:=A6;refine (zD (2*((b:Int)+p/q+1)) _ (zA Aj).1 (zA Aj).2).mono ?_;rintro r w3 ⟨j6,a2,n2,c2,rfl,A5,o7⟩;have o9:=zB A6 o7)
   | (go_at_call 179;refine (zFA _ p q b (zA iG).1 (zA iG).2.1 (zA iG).2.2 (by omega)).mono ?_;rintro r w2 ⟨rfl,j7⟩;have A6:=zB D7 j7))
 all_goals
  replace A:=A.bw I1;replace X0:=X0.bw I1;replace Y0:=Y0.bw I1;replace R:=R.bw I1;replace HX:=zC ((zA HX).bw I1);replace HY:=zC ((zA HY).bw I1);replace j8:=zB j8 I1;clear x0 x1 x2 x3 x4 x5 i0 A5 G0 lA lX lY lR;have lA:=A.lt;have lX:=X0.lt;have lY:=Y0.lt;have lR:=R.lt;have Od:=zC (show ∀ w',Below w5.heap.size w5 w'->(rK w' w.heap.size p q (nK w' (w.heap.size+1) x (nK0 w' (w.heap.size+1+1) y))) from λ w' hB=>⟨(A.bw hB).c0,(A.bw hB).c1,(X0.bw hB).c0,(X0.bw hB).c1,(Y0.bw hB).c0,(Y0.bw hB).c1⟩)
  go_wp2_with fail
  go_cut [9] (λ p wx=>∃ (B:Nat) (u:Nm),p=.pointer (some ⟨B,0,none⟩)/\w5.heap.size<=B/\NmC wx B u/\IntAt wx u.neg u.a u.n u.cap 8 (n*q)/\Below w5.heap.size w5 wx)
  case first =>
   go_region_held3 (λ w'=>rK w' w.heap.size p q (nK w' (w.heap.size+1) x (nK0 w' (w.heap.size+1+1) y))) (exact zA Od _ (by repeat' (first|with_reducible exact K7|with_reducible exact G9|with_reducible exact Below.refl _ _|with_reducible refine Below.drew ?_|with_reducible refine zL ?_ _|with_reducible refine Below.setCell ?_ (by first|exact Zb _|exact T5|exact T6) _)))
    (first
     | (go_at_call 83;have hq:=G9;refine (zX _ _ _ _ _ _ _ _ 4 4 n q _ ((zA HX).bw (by with_reducible first|exact G9|exact zL G9 _)) (J6.bw (by with_reducible first|exact Below.refl _ _|exact bl1 _ _)) (by omega) (by omega)).mono ?_;rintro r fX ⟨bh,rJ,wo,rL,rfl,W3,S7⟩;have R6:Below cD.heap.size cD fX:=(by with_reducible first|exact S7|exact zB (bl1 _ _) S7);have K7:=zB G9 R6;(try with_reducible have cS:=(kA cD 29).bw S7);replace J6:=J6.bw R6;(try replace ag:=ag.bw R6);have T6:=K7.size;(try have oM:=ag.lt);(try obtain⟨mR,mS,zU1f⟩:=ag);(try have oN:=cS.lt);(try obtain⟨mV,mW,zU2f⟩:=cS))
     | (go_at_call 33;refine (zD q _ (by omega) (by omega)).mono ?_;rintro r cD ⟨bK,xT,Ab,xW,rfl,J6,S6⟩;have G9:Below w5.heap.size w5 cD:=(by with_reducible first|exact zB (Below.refl _ _).drew S6|exact zB (bl1 _ _).drew S6);(try with_reducible have ag:=((kA w5 29).bw (Below.refl _ _).drew).bw S6);have T5:=G9.size))
   all_goals
    have hfinU:IntAt fX bh rJ wo rL 8 (n*q):=W3.mono (by omega)
    go_wp2_with fail;go_meet;refine⟨_,⟨bh,rJ,wo,rL⟩,rfl,?_,⟨?_,?_⟩,?_,?_⟩
    ·first|exact Zb _|exact T5|exact T6
    ·simp[go_sem, *]
    ·simp[go_sem, *]
    ·first|with_reducible exact hfinU.put2 mV mW _ _|with_reducible exact hfinU.put2 mR mS _ _|with_reducible exact hfinU.bw (bl1 _ _)
    ·repeat' (first|with_reducible exact K7|with_reducible exact G9|with_reducible exact Below.refl _ _|with_reducible refine Below.drew ?_|with_reducible refine zL ?_ _|with_reducible refine Below.setCell ?_ (by first|exact Zb _|exact T5|exact T6) _)
  case rest =>
  obtain⟨BU,xU,rfl,BG,XU,hpU,hblU⟩:=hcut;obtain⟨V1,L8⟩:∃ V,V=wc:=⟨_,rfl⟩;subst L8;replace A:=A.bw hblU;replace X0:=X0.bw hblU;replace Y0:=Y0.bw hblU;replace R:=R.bw hblU;replace HX:=zC ((zA HX).bw hblU);replace HY:=zC ((zA HY).bw hblU);replace j8:=zB j8 hblU;clear Od lA lX lY lR BG;have xK:=zC hpU;clear hpU;have lA:=A.lt;have lX:=X0.lt;have lY:=Y0.lt;have lR:=R.lt;have lU:=XU.lt;have oZ:=zC (show ∀ w',Below V1.heap.size V1 w'->(rK w' w.heap.size p q (nK w' (w.heap.size+1) x (nK0 w' (w.heap.size+1+1) y))) from λ w' hB=>⟨(A.bw hB).c0,(A.bw hB).c1,(X0.bw hB).c0,(X0.bw hB).c1,(Y0.bw hB).c0,(Y0.bw hB).c1⟩)
  have ni:Below V1.heap.size V1 V1.drew:=(Below.refl _ _).drew;go_wp2_with fail;obtain⟨x0,x1,x2,x3,x4,x5⟩:=zA oZ _ (Below.refl _ _)
  go_region_held3 (λ w'=>rK w' w.heap.size p q (nK w' (w.heap.size+1) x (nK0 w' (w.heap.size+1+1) y))) (first|exact zA oZ _ (by with_reducible first|exact ni|exact cq|exact lf|exact kx)|(dsimp only[cK,cK0,nK,nK0,rK,rK0];go_keep)|go_keep)
   (first
    | (go_at_call 181;have hq:=lf;refine (zKU _ _ _ _ (2*n/d) _ (ox.fits (zA HZ).2.2.2 (zA HZ).2.2.1) (zA HZ).2.1).mono ?_;rintro r w8 ⟨rfl,Z7⟩;rw[(zA HZ).1];have cq:=zB lf Z7;have i0:=zA oZ _ cq)
    | (go_at_call 126;have hq:=kx;refine (zAB _ _ _ _ _ _ _ _ 5 4 (2*n) d _ cT ((zA HY).bw kx) (by omega) d0).mono ?_;rintro r w7 ⟨mI,a7,n7,c7,rfl,ox,W5⟩;have lf:=zB kx W5)
    | (go_at_call 116;refine (zUD _ _ _ _ 4 n _ ((zA HX).bw ni) (by omega)).mono ?_;rintro r w6 ⟨dI,a6,n6,c6,rfl,cT,K8⟩;have kx:=zB ni K8))
  all_goals
   replace A:=A.bw cq;replace X0:=X0.bw cq;replace Y0:=Y0.bw cq;replace R:=R.bw cq;replace HX:=zC ((zA HX).bw cq);replace HY:=zC ((zA HY).bw cq);replace j8:=zB j8 cq;replace XU:=XU.bw cq;replace xK:=zC ((zA xK).bw cq);clear x0 x1 x2 x3 x4 x5 i0 cT ox lA lX lY lR lU oZ;have lA:=A.lt;have lX:=X0.lt;have lY:=Y0.lt;have lR:=R.lt;have lU:=XU.lt;go_wp2_with fail;refine (zC8 _ b (by omega)).mono ?_
   rintro r w9 ⟨v9,rfl,mG,iw,ah⟩;rw[show 1*Q b/1=Q b by rw[Int.ediv_one,Int.one_mul],show -(-(1*Q b)/1)=Q b by rw[Int.ediv_one,Int.one_mul,Int.neg_neg]] at iw
   have Ez:=zC mG;have mY:=zC (iw.fits (K:=1300) (Int.le_refl _) (zA pg).1 (zA pg).2);replace A:=A.bw ah;replace X0:=X0.bw ah;replace Y0:=Y0.bw ah;replace R:=R.bw ah;replace HX:=zC ((zA HX).bw ah);replace HY:=zC ((zA HY).bw ah);replace j8:=zB j8 ah;replace XU:=XU.bw ah;replace xK:=zC ((zA xK).bw ah);clear ah mG iw lA lX lY lR lU
   have dK:=zC (show ∀ (j:Nat) (u:Sp) w',j<NS->u.bits=(b:Int)->SpAt w' u 1300 (luT p q n d b j).1 (luT p q n d b j).2->Below w9.heap.size w9 w'->Calls Tryz.prog 183 #[.agg u.q,.int .i64 ((j:Int)+1),.pointer (some ⟨BU,0,none⟩),.pointer (some ⟨w.heap.size+1+1,0,none⟩),.pointer (some ⟨w.heap.size,0,none⟩)] w' (zG w' b 1318 (luT p q n d b (j+1)).1 (luT p q n d b (j+1)).2) from λ j u w' hj A8 C7 M8=>by
    have e:=lo1_iv w' BU (w.heap.size+1+1) (w.heap.size) u xU y 1300 8 4 b ((j:Int)+1) (luT p q n d b j) (n*q) d p q C7 ((zA xK).bw M8) ((zA HY).bw M8) (XU.bw M8) (Y0.bw M8) (A.bw M8) (by omega) (by omega) (by omega) A8 (Zc (by omega) (by omega)) (by
     have:=zE2 (show (j:Int)+1<=70001 by omega) bl (by omega) (by omega)
     omega) Fv (by omega) d0
    have ec:((j+1:Nat):Int)=(j:Int)+1:=by omega
    have e2:luT p q n d b (j+1)=zJ (luT p q n d b j) (n*q) (d*(p+((j+1:Nat):Int)*q)):=rfl;rw[e2,ec]
    exact e)
   go_wp2_with fail;refine (zEN _ #[.pointer (some ⟨BU,0,none⟩),.pointer (some ⟨w.heap.size+1+1,0,none⟩),.pointer (some ⟨w.heap.size,0,none⟩)] en_lo (luT p q n d b) (luN n d) NS b 1300 1318 v9 _ (zA mY) (zA Ez) (by omega) (by omega) (by omega) (by omega) (zA HM) (by omega) (by omega) (zA gx) (zA az) (zA gm) (zA gy) (zA dK)).mono ?_
   rintro r iE ⟨v,rfl,qo,qT,O8⟩;have HV:=zC qo;replace A:=A.bw O8;replace X0:=X0.bw O8;replace Y0:=Y0.bw O8;replace R:=R.bw O8;replace HX:=zC ((zA HX).bw O8);replace HY:=zC ((zA HY).bw O8);replace j8:=zB j8 O8;have lR10:=R.lt;obtain⟨V2,P8⟩:∃ V,V=iE.alloc (.cells v.q 31):=⟨_,rfl⟩;have O6:Below iE.heap.size iE V2:=by rw[P8];exact bl1 _ _
   have S2:SpC V2 iE.heap.size v:=by rw[P8];exact yW iE v _
   have GF:=zC (show SpAt V2 v 1303 (zA2 p q n d b NS).1 (zA2 p q n d b NS).2 from qT.bw O6)
   clear qo qT O8 mY Ez dK gx az gm gy XU xK;replace A:=A.bw O6;replace X0:=X0.bw O6;replace Y0:=Y0.bw O6;replace R:=R.bw O6;replace HX:=zC ((zA HX).bw O6);replace HY:=zC ((zA HY).bw O6);replace j8:=zB j8 O6;clear O6;have lA:=A.lt;have lX:=X0.lt;have lY:=Y0.lt;have lR:=R.lt;have lS:=S2.lt;have Oc:=zC (show ∀ w',Below V2.heap.size V2 w'->(rK w' w.heap.size p q (nK w' (w.heap.size+1) x (nK w' (w.heap.size+1+1) y (cK0 w' iE.heap.size v)))) from λ w' hB=>⟨(A.bw hB).c0,(A.bw hB).c1,(X0.bw hB).c0,(X0.bw hB).c1,(Y0.bw hB).c0,(Y0.bw hB).c1,(S2.bw hB).c0,(S2.bw hB).c1,(S2.bw hB).c2,(S2.bw hB).c3,(S2.bw hB).c4⟩)
   go_wp2_with fail;rw[<- P8];clear P8
   go_cut [12] (λ pz wx=>∃ (B:Nat) (u:Sp),pz=.pointer (some ⟨B,0,none⟩)/\V2.heap.size<=B/\VrC wx B u/\SpAt wx u 541 (zJB (ofI n d b) (zJ o p q)).1 (zJB (ofI n d b) (zJ o p q)).2/\u.bits=(b:Int)/\Below V2.heap.size V2 wx)
   case first =>
    go_region_held3 (λ w'=>rK w' w.heap.size p q (nK w' (w.heap.size+1) x (nK w' (w.heap.size+1+1) y (cK0 w' iE.heap.size v)))) (exact zA Oc _ (by repeat' (first|with_reducible exact bX|with_reducible exact aC|with_reducible exact Q7|with_reducible exact Q6|with_reducible exact Below.refl _ _|with_reducible refine Below.drew ?_|with_reducible refine zL ?_ _|with_reducible refine Below.setCell ?_ (by first|exact Zb _|exact fA|exact fB|exact fC|exact fD) _)))
     (first
      | (go_at_call 92;have hq:=aC;refine (zHM _ Kr Kt 540 b (ofI n d b) (zJ o p q) ((M6.bw (by with_reducible first|exact Below.refl _ _|exact bl1 _ _)).mono (by omega)) ((cw.bw (by with_reducible first|exact Below.refl _ _|exact bl1 _ _)).mono (by omega)) (by omega) (zA ja)).mono ?_;rintro r wF ⟨Fw,rfl,dE,lM,eO⟩;have pk:=zC dE;clear dE;have Q9:Below oR.heap.size oR wF:=(by with_reducible first|exact eO|exact zB (bl1 _ _) eO);have bX:=zB aC Q9;(try with_reducible have rS:=(zS oR 31).bw eO);replace M6:=M6.bw Q9;(try replace bO:=bO.bw Q9);replace Y6:=Y6.bw Q9;(try replace dS:=dS.bw Q9);replace cw:=cw.bw Q9;(try replace jo:=jo.bw Q9);have fD:=bX.size;(try have Dc:=bO.lt);(try have Wh:=Zg Dc);(try have Hd:=Zf Dc);(try obtain⟨wI,wJ,wK,wL,wM,Mc⟩:=bO);(try have Dd:=dS.lt);(try have EG:=Zg Dd);(try have He:=Zf Dd);(try obtain⟨wN,wO,wP,wQ,wR,Md⟩:=dS);(try have De:=jo.lt);(try have Wj:=Zg De);(try have Hf:=Zf De);(try obtain⟨wT,wV,wW,wY,wZ,Me⟩:=jo);(try have Df:=rS.lt);(try have Wk:=Zg Df);(try have Hg:=Zf Df);(try obtain⟨xc,xd,xe,xg,xi,Mf⟩:=rS))
      | (go_at_call 184;have hq:=Q7;refine (zCS _ Ks 520 b o p q (Y6.bw (by with_reducible first|exact Below.refl _ _|exact bl1 _ _)) (by omega) (zA jc) (by omega) (by omega) fT (by omega)).mono ?_;rintro r oR ⟨Kt,rfl,dD,cw,eM⟩;have pj:=zC dD;clear dD;have aJ:Below oQ.heap.size oQ oR:=(by with_reducible first|exact eM|exact zB (bl1 _ _) eM);have aC:=zB Q7 aJ;(try with_reducible have jo:=(zS oQ 31).bw eM);replace M6:=M6.bw aJ;(try replace bO:=bO.bw aJ);replace Y6:=Y6.bw aJ;(try replace dS:=dS.bw aJ);have fC:=aC.size)
      | (go_at_call 125;have hq:=Q6;refine (zA Ap _ x y ((zA HX).bw (by with_reducible first|exact Q6|exact zL Q6 _)) ((zA HY).bw (by with_reducible first|exact Q6|exact zL Q6 _))).mono ?_;rintro r oQ ⟨Ks,rfl,dB,Y6,eJ⟩;have jc:=zC dB;clear dB;have ei:Below oP.heap.size oP oQ:=(by with_reducible first|exact eJ|exact zB (bl1 _ _) eJ);have Q7:=zB Q6 ei;(try with_reducible have dS:=(zS oP 31).bw eJ);replace M6:=M6.bw ei;(try replace bO:=bO.bw ei);have fB:=Q7.size)
      | (go_at_call 88;refine (jL _ _ _ _ _ _ _ _ 4 4 b n d _ ((zA HX).bw (by with_reducible first|exact (Below.refl _ _).drew|exact (bl1 _ _).drew)) ((zA HY).bw (by with_reducible first|exact (Below.refl _ _).drew|exact (bl1 _ _).drew)) (by omega) (by omega) d0).mono ?_;rintro r oP ⟨Kr,rfl,dA,M6,eI⟩;have ja:=zC dA;clear dA;have Q6:Below V2.heap.size V2 oP:=(by with_reducible first|exact zB (Below.refl _ _).drew eI|exact zB (bl1 _ _).drew eI);(try with_reducible have bO:=((zS V2 31).bw (Below.refl _ _).drew).bw eI);have fA:=Q6.size))
    all_goals
     have hfinP:SpAt wF Fw 541 (zJB (ofI n d b) (zJ o p q)).1 (zJB (ofI n d b) (zJ o p q)).2:=lM;go_wp2_with fail;go_meet;refine⟨_,Fw,rfl,?_,⟨⟨?_,?_,?_,?_,?_⟩,?_⟩,?_,zA pk,?_⟩
     ·first|exact Zb _|exact fA|exact fB|exact fC|exact fD
     ·simp[go_sem, *]
     ·simp[go_sem, *]
     ·simp[go_sem, *]
     ·simp[go_sem, *]
     ·simp[go_sem, *]
     ·intro o;simp[go_sem, *]
     ·first|with_reducible exact SpAt.put5 hfinP xc xd xe xg xi _ _ _ _ _|with_reducible exact SpAt.put5 hfinP wT wV wW wY wZ _ _ _ _ _|with_reducible exact SpAt.put5 hfinP wN wO wP wQ wR _ _ _ _ _|with_reducible exact SpAt.put5 hfinP wI wJ wK wL wM _ _ _ _ _|with_reducible exact hfinP.bw (bl1 _ _)
     ·repeat' (first|with_reducible exact bX|with_reducible exact aC|with_reducible exact Q7|with_reducible exact Q6|with_reducible exact Below.refl _ _|with_reducible refine Below.drew ?_|with_reducible refine zL ?_ _|with_reducible refine Below.setCell ?_ (by first|exact Zb _|exact fA|exact fB|exact fC|exact fD) _)
   case rest =>
   obtain⟨BP,xP,rfl,BD,XP,hpP,hxbP,hblP⟩:=hcut;obtain⟨V3,I6⟩:∃ V,V=wc:=⟨_,rfl⟩;subst I6;have lRP:=Zd lR BD;replace A:=A.bw hblP;replace X0:=X0.bw hblP;replace Y0:=Y0.bw hblP;replace R:=R.bw hblP;replace HX:=zC ((zA HX).bw hblP);replace HY:=zC ((zA HY).bw hblP);replace j8:=zB j8 hblP;replace S2:=S2.bw hblP;replace GF:=zC ((zA GF).bw hblP);have At:=zC hpP;have rD:=zC hxbP;have XPC:=XP.c;clear hpP hxbP XP Oc lA lX lY lR lS BD;have lA:=A.lt;have lX:=X0.lt;have lY:=Y0.lt;have lR:=R.lt;have lS:=S2.lt;have lP:=XPC.lt;have Am:=zC (show ∀ w',Below V3.heap.size V3 w'->(rK w' w.heap.size p q (nK w' (w.heap.size+1) x (nK w' (w.heap.size+1+1) y (cK w' iE.heap.size v (cK0 w' BP xP))))) from λ w' hB=>⟨(A.bw hB).c0,(A.bw hB).c1,(X0.bw hB).c0,(X0.bw hB).c1,(Y0.bw hB).c0,(Y0.bw hB).c1,(S2.bw hB).c0,(S2.bw hB).c1,(S2.bw hB).c2,(S2.bw hB).c3,(S2.bw hB).c4,(XPC.bw hB).c0,(XPC.bw hB).c1,(XPC.bw hB).c2,(XPC.bw hB).c3,(XPC.bw hB).c4⟩)
   have sS:Below V3.heap.size V3 V3.drew:=(Below.refl _ _).drew;have Tm:=zC (show IntKind.i64.wrap (p+q)=p+q from jI _ (by omega) (by omega))
   have Dr:w.heap.size+1+1+1≠iE.heap.size:=by omega
   have rj:w.heap.size+1+1+1≠BP:=by omega
   have Ft:w.heap.size+1+1+1≠w.heap.size+1+1:=by omega
   have RB:w.heap.size+1+1+1≠w.heap.size+1:=by omega
   have nR5:w.heap.size+1+1+1≠w.heap.size:=by omega
   have nR6:w.heap.size+1+1≠w.heap.size:=by omega
   go_wp2_with fail;obtain⟨x0,x1,x2,x3,x4,x5,x6,x7,x8,x9,FV,SC,SD,x13,x14,x15⟩:=zA Am _ (Below.refl _ _)
   go_region_held3 (λ w'=>rK w' w.heap.size p q (nK w' (w.heap.size+1) x (nK w' (w.heap.size+1+1) y (cK w' iE.heap.size v (cK0 w' BP xP))))) (first|exact zA Am _ (by with_reducible first|exact sS|exact BA|exact sT|exact pH|exact nj|exact pG)|(dsimp only[cK,cK0,nK,nK0,rK,rK0];go_keep)|go_keep)
    (first
     | (go_at_call 141;have hq:=sT;refine (zBR _ f4 _ b _ _ hO (zA F4) (by omega) (by omega) (by omega)).mono ?_;rintro r g5 ⟨f5,rfl,oA,oB,Cj⟩;rw[zEF] at oB;have F5:=zC oA;clear oA;have BA:=zB sT Cj;obtain⟨q0,q1,q2,q3,q4,q5⟩:=R.bw BA)
     | (go_at_call 162;have hq:=pH;refine (zDF _ v f3 49300 b (zA2 p q n d b NS).1 (zA2 p q n d b NS).2 (luE p q n d b o (lg,ug) t NE).1 (luE p q n d b o (lg,ug) t NE).2 (((zA GF).bw pH).mono (by omega)) mz (by omega) (by omega) (zA HV) (zA X7).2.2.2.1 (zA X7).1 (zA X7).2.1).mono ?_;rintro r g4 ⟨f4,rfl,cV,hO,tY⟩;have F4:=zC cV;clear cV;have sT:=zB pH tY)
     | (go_at_call 77;have hq:=nj;refine (zBG _ f2 49300 b t NE (luY p q n d b o (lg,ug)) l (SpAt.mono (show SpAt _ f2 542 (luY p q n d b o (lg,ug)).1 (luY p q n d b o (lg,ug)).2 from my) (by omega)) (zA F2) (zA GL) (by omega) (by omega) (zA Z6) (zA bo) (by omega) (zA xD) (zA oW) (zA rF) (by omega)).mono ?_;rintro r g3 ⟨f3,rfl,fo,mz,oC⟩;clear fo;have pH:=zB nj oC)
     | (go_at_call 51;have hq:=pG;refine (zCT _ xP f1 541 b (zJB (ofI n d b) (zJ o p q)) (lg,ug) ((zA At).bw pG) (mv.mono (by omega)) (by omega) (zA rD)).mono ?_;rintro r g2 ⟨f2,rfl,fj,my,yx⟩;have F2:=zC fj;clear fj;have nj:=zB pG yx)
     | (go_at_call 185;(try rw[zA Tm]);refine (zA Tg _).mono ?_;rintro r g1 ⟨f1,rfl,fh,mv,pQ⟩;clear fh;have pG:=zB sS pQ))
   all_goals
    have fit:=SpAt.fits (K:=30) (show SpAt g5 f5 _ (zDN (zA2 p q n d b NS).1 (zA2 p q n d b NS).2 (luE p q n d b o (lg,ug) t NE).1 (luE p q n d b o (lg,ug) t NE).2 b) (zNO (zA2 p q n d b NS) (luE p q n d b o (lg,ug) t NE) b) from oB) (zHE (zA X7).2.2.2.2 b1).1 (zHE (zA X7).2.2.2.2 b1).2.1 (zHE (zA X7).2.2.2.2 b1).2.2
    go_wp2_with fail;refine bodyPost_ret (v:=.agg f5.q) (by simp[results,Tryz.results159,go_sem,q0,q1,q2,q3,q4]) rfl ⟨f5,rfl,zA F5,?_,?_⟩
    ·exact SpAt.put5 fit q0 q1 q2 q3 q4 _ _ _ _ _
    ·exact jS (zB j8 BA) (by omega) _ _ _ _ _
theorem zJ4 (L:Rat->Nat->Rat) (hL:Lns L) (n d:Int) (b:Nat) (g x:Nat->Rat) (h:StIn n d) (hn:n<=4611686018427387904) (E8:40<=b) (hb:b<=1000) (hg:Gam1 L (((n-(stN n d:Int)*d):Int)/(d:Rat)) g) (yz:∃ c:Rat,0<c/\∃ N:Nat,∀ M,N<=M->c<=g M) (hx:IsLog x (gmV n d g)) :
  ∃ c:Int × Int,LgP2 x b c.1 c.2/\∀ w:World,Calls Tryz.prog 185 #[.int .i64 n,.int .i64 d,.int .i64 b] w (zG w b 521 c.1 c.2):=by
 have HI:=zC (h.in_ (B:=b) (by omega) (by omega))
 have CV:=h.rest.2.2;have iG:=zC (show 0<stP n d (stN n d)/\0<stQ d (stN n d) from⟨zTU h (Zb _),zMA h.d0 _⟩)
 have H:=zC h;have HL:=zC hL;have HG:=zC hg
 have xQ:=zC (show Q (b+4)<P 500 by
  rw[<- Q_P];have h1:=zH (show b+4+1<=16*500 by omega)
  have h2:Q (b+4+1)=2*Q (b+4):=rfl;have:=zE (b+4)
  omega)
 obtain⟨cg,Cl,PV⟩:=zH9 L hL (n-(stN n d:Int)*d) d b g (zA HI) hg
 obtain⟨⟨p1,p2⟩,⟨r1,r2⟩,l1,l2,ls,k1,k2,Qi⟩:=zO4 b cg E8 hb Cl.pos Cl.le (by
  have h1:=zH (show b+43+1<=16*70 by omega)
  rw[Q_P] at h1;have h2:Q (b+43+1)=2*Q (b+43):=rfl;have:=zE (b+43);have:=Cl.hi
  omega)
 obtain⟨RY,RZ⟩:=st_fit h (Zb (stN n d));obtain⟨n',d',cc,N1,N2,bal,c1,c2,s1,s2,oh⟩:=zBH 804 b 500 (stP n d (stN n d)) (stQ d (stN n d)) RY RZ (by omega) (zA iG).1 (zA iG).2 (by omega) (by omega) (zA xQ) (by omega)
 obtain⟨lp,g1,QL⟩:=zE1 (zA iG).1 (zA iG).2 bal b N1 N2;have mC:=lgam_ok2 h E8 hb Cl ls g1 QL k1 k2 (lb_of (by omega) hb bal.1 s1 s2 804 (by omega) c1 c2) hx yz hL
 refine⟨zB8 (p1,r2) (zIF (zM (lnT n' d' b) N1) (zM (lnT 2 1 b) N2) cc),mC,λ w=>?_⟩
 have SK:=zC PV;have Th:=zC Qi;have Ap:=zC oh;clear mC h hL hg yz hx Cl PV ls k1 k2 Qi bal c1 c2 s1 s2 oh g1 QL RY RZ;have R:=zS w 31;have j8:Below w.heap.size w (w.alloc (.cells zCq 31)):=bl1 _ _
 go_enter Tryz.func185,Tryz.ntmps185
 go_wp2_with fail;refine (zTV _ n d (zA H) hn).mono ?_;rintro r w1 ⟨X,Y,rfl,hX,hY,b9⟩;replace R:=R.bw b9;replace j8:=zB j8 b9;clear b9;have lR:=R.lt;obtain⟨V,hV⟩:∃ V,V=(w1.alloc (.cells X.q 29)).alloc (.cells Y.q 29):=⟨_,rfl⟩;have bV:Below w1.heap.size w1 V:=by rw[hV];exact bl2 _ _ _
 have CX:NmC V w1.heap.size X:=by rw[hV];constructor<;>simp[go_sem]
 have CY:NmC V (w1.heap.size+1) Y:=by rw[hV];constructor<;>simp[go_sem]
 have HX:=zC ((hX.mono (show 4*stN n d+4<=804 by omega)).bw bV)
 have HY:=zC ((hY.mono (show 4*stN n d+4<=804 by omega)).bw bV)
 replace R:=R.bw bV;replace j8:=zB j8 bV;have lX:=CX.lt;have lY:=CY.lt;have bg:=R.lt;have HK:=zC (show ∀ w',Below V.heap.size V w'->(nK w' w1.heap.size X (nK0 w' ((w1.heap.size+1)) Y)) from λ w' hB=>⟨(CX.bw hB).c0,(CX.bw hB).c1,(CY.bw hB).c0,(CY.bw hB).c1⟩)
 clear hX hY bV CX CY;go_wp2_with fail;rw[<- hV];clear hV;have D5:Below V.heap.size V V.drew:=(Below.refl _ _).drew;obtain⟨x0,x1,x2,x3⟩:=zA HK _ (Below.refl _ _);have m1:w.heap.size≠w1.heap.size:=by omega
 have m2:w.heap.size≠w1.heap.size+1:=by omega
 go_region_held3 (λ w'=>nK w' w1.heap.size X (nK0 w' ((w1.heap.size+1)) Y)) (first|exact zA HK _ (by with_reducible first|exact D5|exact I5|exact F9|exact p9|exact s9)|(dsimp only[cK,cK0,nK,nK0,rK,rK0];go_keep)|go_keep)
  (first
   | (go_at_call 51;have O4:=F9;refine (zCT _ v2 v3 520 b (p1,r2) (zIF (zM (lnT n' d' b) N1) (zM (lnT 2 1 b) N2) cc) (A5.bw o7) G0 (by omega) (zA F2)).mono ?_;rintro r' w4 ⟨t,rfl,J2,P5,y9⟩;have HT:=zC J2;clear J2;have I5:=zB F9 y9;obtain⟨q0,q1,q2,q3,q4,q5⟩:=R.bw I5;obtain⟨i0,i1,i2,i3⟩:=zA HK _ I5)
   | (go_at_call 125;have O4:=p9;refine (zA Ap _ X Y ((zA HX).bw p9) ((zA HY).bw p9)).mono ?_;rintro r' w3 ⟨v3,rfl,I0,G0,o7⟩;clear I0;have F9:=zB p9 o7)
   | (go_at_call 201;have O4:=s9;refine (zA Th _ v1 o8 (zA F1)).mono ?_;rintro r' w2 ⟨v2,rfl,P6,A5,j7⟩;have F2:=zC P6;clear P6;have p9:=zB s9 j7)
   | (go_at_call 202;refine (zA SK _).mono ?_;rintro r' wg ⟨v1,rfl,J3,o8,b9⟩;have F1:=zC J3;clear J3;have s9:=zB D5 b9))
 all_goals
  go_wp2_with fail;refine bodyPost_ret (v:=.agg t.q) (by simp[results,Tryz.results185,go_sem,q0,q1,q2,q3,q4]) rfl ⟨t,rfl,zA HT,?_,?_⟩
  ·exact SpAt.put5 P5 q0 q1 q2 q3 q4 _ _ _ _ _
  ·exact jS (zB j8 I5) (by omega) _ _ _ _ _
theorem zSJ {x:Nat->Rat} {B:Nat} {l u:Int} (h:LwPr x B l u):LwPr (λ M=>1-x M) B (zB5 B (l,u)).1 (zB5 B (l,u)).2:=by
 have i:Iv B (zJB (Q B,Q B) (l,u)) (λ M=>1-x M):=(zHG B).sub h.iv
 have h1:=h.lo;have h2:=h.le;have h3:=h.hi;have h4:=h.wd;have e1:(zB5 B (l,u)).1=Q B-u:=rfl;have e2:(zB5 B (l,u)).2=Q B-l:=rfl;exact⟨by omega,by omega,by omega,by omega,i⟩
structure BpAr (p q r s n d:Int) (B:Nat):Prop where
 p0:0<p
 q0:0<q
 pq:p<=100*q
 qq:q<=2048
 r0:0<r
 s0:0<s
 rs:r<=100*s
 ss:s<=2048
 n0:0<=n
 nd:n<=d
 d0:0<d
 dd:d<=4503599627370496
 b0:40<=B
 b1:B<=400
theorem BpAr.turn {p q r s n d:Int} {B:Nat} (h:BpAr p q r s n d B):BpAr r s p q (d-n) d B:=⟨h.r0,h.s0,h.rs,h.ss,h.p0,h.q0,h.pq,h.qq,by have:=h.nd;omega,by have:=h.n0;omega,h.d0,h.dd,h.b0,h.b1⟩
theorem bp_sum {p q r s:Int} (hq:0<q) (hs:0<s):(((p*s+r*q):Int):Rat)/(((q*s):Int):Rat)=(p:Rat)/(q:Rat)+(r:Rat)/(s:Rat):=by
 have qr:(0:Rat)<(q:Rat):=by exact_mod_cast hq
 have sr:(0:Rat)<(s:Rat):=by exact_mod_cast hs
 rw[Rat.intCast_add,Ze,Ze,Ze];have e1:=rdm (a:=(p:Rat)) qr;have e2:=rdm (a:=(r:Rat)) sr;have qs:=Rat.mul_pos qr sr;have e3:=rdm (a:=(p:Rat)*(s:Rat)+(r:Rat)*(q:Rat)) qs;generalize ((p:Rat)*(s:Rat)+(r:Rat)*(q:Rat))/((q:Rat)*(s:Rat))=u at *;generalize (p:Rat)/(q:Rat)=v at *;generalize (r:Rat)/(s:Rat)=z at *;refine zY (c:=(q:Rat)*(s:Rat)) qs ?_;rw[<- e1,<- e2] at e3;grind
theorem bp_st {p q r s:Int} (p0:0<p) (q0:0<q) (pq:p<=100*q) (qq:q<=2048) (r0:0<r) (s0:0<s) (rs:r<=100*s) (ss:s<=2048):StIn p q/\StIn r s/\StIn (p*s+r*q) (q*s)/\(p*s+r*q)<=4611686018427387904:=by
 have m1:=YW pq (show 0<=s by omega)
 have m2:=YW rs (show 0<=q by omega)
 have k1:=Int.mul_pos p0 s0;have k2:=Int.mul_pos r0 q0;have k3:=Int.mul_pos q0 s0;have m3:=zE2 qq ss (by omega) (by omega)
 have e1:100*q*s=100*(q*s):=by grind
 have e2:100*s*q=100*(q*s):=by grind
 exact⟨⟨p0,q0,by omega,by omega⟩,⟨r0,s0,by omega,by omega⟩,⟨by omega,k3,by omega,by omega⟩,by omega⟩
theorem zFJ {L G:Rat->Nat->Rat} {X:Int->Int->Nat->Rat} (hE:zP1 L G X) {n d:Int} {b:Nat} (st:StIn n d) (hn:n<=4611686018427387904) (b0:40<=b) (b1:b<=400):zP2 n d b (X n d):=by
 have g:=hE.gam _ (zJX st).1 (zJX st).2;obtain⟨c,h1,h2⟩:=zJ4 L hE.lns n d b (G (gA n d)) (X n d) st hn b0 (by omega) g (g.isGam hE.lns (zJX st).1).pos (hE.lg n d st)
 exact⟨c.1,c.2,h1,h2⟩
theorem bj_log {L G:Rat->Nat->Rat} {X:Int->Int->Nat->Rat} (hE:zP1 L G X) {p q r s:Int} (s1:StIn p q) (s2:StIn r s) (s3:StIn (p*s+r*q) (q*s)):IsLog (λ M=>X p q M+X r s M-X (p*s+r*q) (q*s) M) (bJ L ((p:Rat)/(q:Rat)) ((r:Rat)/(s:Rat))):=by
 have i3:=zD9 hE s3;rw[bp_sum s1.d0 s2.d0] at i3;have pr:(0:Rat)<(p:Rat):=by exact_mod_cast s1.n0
 have qr:(0:Rat)<(q:Rat):=by exact_mod_cast s1.d0
 have rr:(0:Rat)<(r:Rat):=by exact_mod_cast s2.n0
 have sr:(0:Rat)<(s:Rat):=by exact_mod_cast s2.d0
 exact bJ_log hE.lns (zK pr qr) (zK rr sr) (zD9 hE s1) (zD9 hE s2) i3 (hE.lg p q s1) (hE.lg r s s2) (hE.lg _ _ s3)
theorem LwPr.congr {x y:Nat->Rat} {B:Nat} {l u:Int} (h:LwPr x B l u) (k:Null (λ M=>y M-x M)):LwPr y B l u:=⟨h.lo,h.le,h.hi,h.wd,Has.congr h.iv k⟩
theorem bvX_turn {L:Rat->Nat->Rat} (hL:Lns L) {p q r s n d:Int} (p0:0<p) (q0:0<q) (r0:0<r) (s0:0<s) (n0:0<=n) (nd:n<=d) (d0:0<d):Null (λ M=>bvX L p q r s n d M-(1-bvX L r s p q (d-n) d M)):=by
 unfold bvX
 by_cases h0:n=0
 ·rw[if_pos h0,if_neg (show ¬ d-n=0 by omega),if_pos (show d-n=d by omega)]
  exact null_zero.of_eq λ M=>by grind
 ·by_cases h1:n=d
  ·rw[if_neg h0,if_pos h1,if_pos (show d-n=0 by omega)]
   exact null_zero.of_eq λ M=>by grind
  ·rw[if_neg h0,if_neg h1,if_neg (show ¬ d-n=0 by omega),if_neg (show ¬ d-n=d by omega)]
   have pr:(0:Rat)<(p:Rat):=by exact_mod_cast p0
   have qr:(0:Rat)<(q:Rat):=by exact_mod_cast q0
   have rr:(0:Rat)<(r:Rat):=by exact_mod_cast r0
   have sr:(0:Rat)<(s:Rat):=by exact_mod_cast s0
   have nr:(0:Rat)<(n:Rat):=by exact_mod_cast (show 0<n by omega)
   have dr:(0:Rat)<(d:Rat):=by exact_mod_cast d0
   have e:((d-n:Int):Rat)/(d:Rat)=1-(n:Rat)/(d:Rat):=by
    rw[Rat.intCast_sub,Rat.div_def,Rat.div_def];have:=Rat.mul_inv_cancel (d:Rat) (by grind)
    grind
   rw[e]
   have lt:(n:Rat)/(d:Rat)<1:=by
    refine Rat.lt_of_mul_lt_mul_right (c:=(d:Rat)) ?_ (YZ dr);rw[rdm dr];have:(n:Rat)<(d:Rat):=by exact_mod_cast (show n<d by omega)
    grind
   exact zQW hL (zK pr qr) (zK rr sr) (zK nr dr) lt
namespace Ex
end Ex
theorem iv_lt {B:Nat} {a:Int × Int} {x:Nat->Rat} (h:Iv B a x) {c:Rat} (k:LeN x (λ _=>c)) {z:Int} (hz:c*(Q B:Rat)<(z:Rat)):a.1<z:=by
 have q:=jM B
 have l:(a.1:Rat)/(Q B:Rat)<=c:=by
  refine Rat.not_lt.1 λ E2=>?_
  obtain⟨e,he⟩:∃ e,e=((a.1:Rat)/(Q B:Rat)-c)/4:=⟨_,rfl⟩;have e0:0<e:=by grind
  obtain⟨N1,k1⟩:=h e e0;obtain⟨N2,k2⟩:=k e e0;have a1:=(k1 (N1+N2) (by omega)).1
  have a2:=k2 (N1+N2) (by omega)
  simp only[] at a2;grind
 have m:=YX l (YZ q);rw[rdm q] at m
 exact_mod_cast (show (a.1:Rat)<(z:Rat) by grind)
theorem iv_gt {B:Nat} {a:Int × Int} {x:Nat->Rat} (h:Iv B a x) {c:Rat} (k:LeN (λ _=>c) x) {z:Int} (hz:(z:Rat)<c*(Q B:Rat)):z<a.2:=by
 have q:=jM B
 have l:c<=(a.2:Rat)/(Q B:Rat):=by
  refine Rat.not_lt.1 λ E2=>?_
  obtain⟨e,he⟩:∃ e,e=(c-(a.2:Rat)/(Q B:Rat))/4:=⟨_,rfl⟩;have e0:0<e:=by grind
  obtain⟨N1,k1⟩:=h e e0;obtain⟨N2,k2⟩:=k e e0;have a1:=(k1 (N1+N2) (by omega)).2
  have a2:=k2 (N1+N2) (by omega)
  simp only[] at a2;grind
 have m:=YX l (YZ q);rw[rdm q] at m
 exact_mod_cast (show (z:Rat)<(a.2:Rat) by grind)
open Go.RowKit
attribute [local go_sem ↓] Go.wp_at_zero Go.wp_at_succ
open Ex
theorem zHO {b:Nat} {a c:Int × Int} {x:Nat->Rat} (h:Iv b a x) (k:Iv b c x):touB a.1 a.2 0 c.1 c.2 0=true:=by
 have q:=zE b;have t1:=Int.le_of_mul_le_mul_right (h.touch k) (show 0<Q b by omega)
 have t2:=Int.le_of_mul_le_mul_right (k.touch h) (show 0<Q b by omega)
 have e0:Q 0=1:=rfl;unfold touB;rw[e0];simp[t1,t2]
def noX (R R2:Nat->Rat) (p q r s n d:Int):Nat->Rat:=nrV (zOV R (nrY ((n*q-p*d)*s) (d*q*r)) (nrR R2 ((n*q-p*d)*s) (d*q*r))) ((n*q-p*d)*s)
def waX (p q n d:Int):Nat->Rat:=if n<=0 then λ _=>0 else λ M=>1-Ev (λ _=>((-p*n:Int):Rat)/((q*d:Int):Rat)) M
def gaX (L G:Rat->Nat->Rat) (p q r s n d:Int):Nat->Rat:=if n<=0 then λ _=>0 else lwX L p q (r*n) (s*d) (gmV p q (G (gA p q)))
def clX (n d:Int):Int:=if n<=0 then 0 else if d<=n then d else n
def beX (L:Rat->Nat->Rat) (p q r s n d:Int):Nat->Rat:=bvX L p q r s (clX n d) d
def stX0 (L:Rat->Nat->Rat) (p q n d:Int) (M:Nat):Rat:=(1:Int)/((2:Int):Rat)*bvX L p (2*q) 1 2 (p*(d*d)) (p*(d*d)+q*(n*n)) M
def stX (L:Rat->Nat->Rat) (p q n d:Int):Nat->Rat:=if n<=0 then stX0 L p q n d else λ M=>1-stX0 L p q n d M
def coN (P:Nat) (n d:Int):Nat:=(min (n/d) (P:Int)+1).toNat
def coX (P:Nat) (r s n d:Int) (_:Nat):Rat:=((zDW (zGO P r s) (coN P n d):Int):Rat)/((s ^ P:Int):Rat)
theorem zMG {P n:Nat} (h:n<=P) {r s:Int} (hr:0<=r) (hs:r<=s):0<=zGO P r s n:=by
 unfold zGO;rw[zUF h];exact (zUG h hr hs).1
theorem zJO {P:Nat} {r s:Int} (hr:0<=r) (hs:r<=s) {i j:Nat} (nH:i<=j) (hj:j<=P+1):zDW (zGO P r s) i<=zDW (zGO P r s) j:=by
 induction j with
 | zero=>rw[show i=0 by omega];exact Int.le_refl _
 | succ j ih =>
  by_cases h:i=j+1
  ·rw[h];exact Int.le_refl _
  ·have:=ih (by omega) (by omega)
   have:=zMG (P:=P) (n:=j) (by omega) hr hs
   show _<=zDW (zGO P r s) j+zGO P r s j
   omega
def raN (n d:Int):Nat:=(n/d+1).toNat
def raX (p q n d:Int) (M:Nat):Rat:=S (λ i=>zGY p q i M) (raN n d)
theorem of_lw {N D:Int} (b:Nat) (hN:0<=N) (hD:0<D) (h:N<=D):LwPr (λ _=>(N:Rat)/(D:Rat)) b (ofI N D b).1 (ofI N D b).2:=by
 obtain⟨h1,h2,h3,h4,h5⟩:=of_pr b hN hD h;have q:=zE b;have w:=kU (n:=N) hD b;have Ko:1<=Q 89:=zE 89;exact⟨by omega,by omega,by omega,by omega,by assumption⟩
def wyF (r t:Int) (P i:Nat):Int:=(ch P i:Int)*(r ^ i*t ^ (P-i))
theorem wyF_zero (r t:Int) (P:Nat):wyF r t (P+1) 0=t*wyF r t P 0:=by
 unfold wyF;rw[zDV,zDV,show P+1-0=(P-0)+1 by omega,Int.pow_succ]
 grind
theorem wyF_succ (r t:Int) {P i:Nat} (h:i<P):wyF r t (P+1) (i+1)=r*wyF r t P i+t*wyF r t P (i+1):=by
 unfold wyF;rw[zCZ,show P+1-(i+1)=P-i by omega,show P-i=(P-(i+1))+1 by omega,Int.pow_succ t,Int.pow_succ r]
 push_cast
 grind
theorem wyF_last (r t:Int) (P:Nat):wyF r t (P+1) (P+1)=r*wyF r t P P:=by
 unfold wyF;rw[zCZ,zM1 (show P<P+1 by omega),show P+1-(P+1)=0 by omega,show P-P=0 by omega,Int.pow_zero,Int.pow_succ r]
 push_cast
 grind
theorem wyF_sum (r t:Int) (P j:Nat) (h:j<=P):zDW (wyF r t (P+1)) (j+1)=r*zDW (wyF r t P) j+t*zDW (wyF r t P) (j+1):=by
 induction j with
 | zero =>
  show 0+wyF r t (P+1) 0=r*0+t*(0+wyF r t P 0)
  rw[wyF_zero];grind
 | succ j ih =>
  have i:=ih (by omega)
  show zDW (wyF r t (P+1)) (j+1)+wyF r t (P+1) (j+1)=r*(zDW (wyF r t P) j+wyF r t P j)+t*(zDW (wyF r t P) (j+1)+wyF r t P (j+1))
  rw[i,wyF_succ r t (by omega)];grind
theorem wyF_all (r t:Int) (P:Nat):zDW (wyF r t P) (P+1)=(r+t) ^ P:=by
 induction P with
 | zero =>
  show 0+wyF r t 0 0=(r+t) ^ 0
  unfold wyF;rw[zDV,show 0-0=0 by rfl,Int.pow_zero,Int.pow_zero,Int.pow_zero];rfl
 | succ P ih =>
  show zDW (wyF r t (P+1)) (P+1)+wyF r t (P+1) (P+1)=(r+t) ^ (P+1)
  rw[wyF_sum r t P P (Zb _),wyF_last,Int.pow_succ,<- ih]
  show r*zDW (wyF r t P) P+t*(zDW (wyF r t P) P+wyF r t P P)+r*wyF r t P P=(zDW (wyF r t P) P+wyF r t P P)*(r+t)
  grind
theorem cnt_all {P:Nat} {r s:Int}:zDW (zGO P r s) (P+1)=s ^ P:=by
 have e:∀ j,j<=P+1->zDW (zGO P r s) j=zDW (wyF r (s-r) P) j:=λ j=>by
  induction j with
  | zero=>intro _;rfl
  | succ j ih =>
   intro hj
   show zDW (zGO P r s) j+zGO P r s j=zDW (wyF r (s-r) P) j+wyF r (s-r) P j
   rw[ih (by omega)]
   congr 1
   unfold zGO;rw[zUF (show j<=P by omega)];rfl
 rw[e _ (Zb _),wyF_all]
 congr 1
 omega
theorem cnt_le {P:Nat} {r s:Int} (hr:0<=r) (hs:r<=s) (i:Nat) (hi:i<=P+1):0<=zDW (zGO P r s) i/\zDW (zGO P r s) i<=s ^ P:=by
 have a:=zJO (P:=P) hr hs (Nat.zero_le i) hi;have b:=zJO (P:=P) hr hs hi (Zb _);rw[cnt_all] at b;exact⟨a,b⟩
theorem sq_unit {B:Nat} {a:Int × Int} (h0:0<=a.1) (hl:a.1<=a.2) (h1:a.2<=Q B) (i:Nat):0<=(sqI B a i).1/\(sqI B a i).1<=(sqI B a i).2/\(sqI B a i).2<=Q B/\(sqI B a i).2-(sqI B a i).1+1<=Q i*(a.2-a.1+1):=by
 have q:=zE B
 induction i with
 | zero =>
  have e:Q 0=1:=rfl;rw[e];exact⟨h0,hl,h1,by show a.2-a.1+1<=_;omega⟩
 | succ i ih =>
  obtain⟨i0,i1,i2,i3⟩:=ih;have A:Abs (sqI B a i) (Q B):=⟨by omega,by omega,by omega,by omega⟩
  have ab:=zCQ (B:=B) (p:=Q B) A A (Int.le_refl _);have nn:=zGB (B:=B) (a:=sqI B a i) (b:=sqI B a i) i0 (by omega) i0 (by omega)
  have w:=zA3 (B:=B) (c:=2*((sqI B a i).2-(sqI B a i).1)) A A i1 i1 (by
   have e:2*((sqI B a i).2-(sqI B a i).1)*Q B=Q B*((sqI B a i).2-(sqI B a i).1)+Q B*((sqI B a i).2-(sqI B a i).1):=by grind
   omega)
  have e:Q (i+1)=2*Q i:=rfl;have e2:Q (i+1)*(a.2-a.1+1)=2*(Q i*(a.2-a.1+1)):=by rw[e];grind
  refine⟨nn,zB2 B,ab.2.2.2,?_⟩;rw[e2]
  show (zAL B (sqI B a i) (sqI B a i)).2-(zAL B (sqI B a i) (sqI B a i)).1+1<=_
  omega
structure WaIn (n d:Int):Prop where
 n0:0<n
 d0:0<d
 lo:d<=1048576*n
 hi:n<=104857600*d
theorem wa_set {n d:Int} (h:WaIn n d) {B:Nat} (hB:40<=B):∃ (l:Int) (t N:Nat),yR (zW (ofI (-n) d B)) l/\(t:Int)=max 0 (l-B+8)/\t<=35/\Abs (zF (ofI (-n) d B) t) (Q (B-8))/\zU (zV B (zF (ofI (-n) d B) t)) N:=by
 have:=h.n0;have:=h.d0;have:=h.hi;obtain⟨l,t,N,e1,e2,e3,e4,e5⟩:=zC3 (B:=B) (e:=27) (by omega) (kO h.d0 B) (zFM (p := -n) (q:=d) (n:=104857600) (b:=B) (e:=27) h.d0 (by omega) (by omega) (by decide))
 exact⟨l,t,N,e1,e2,by omega,e4,e5⟩
theorem wa_up {B:Nat} (hB:40<=B):4*((B:Int)+20)<=Q (B-21):=by
 obtain⟨j,rfl⟩:∃ j,B=40+j:=⟨B-40,by omega⟩
 rw[show 40+j-21=j+19 by omega]
 have e:Q (j+19)=524288*Q j:=by rw[jD,Int.mul_comm];rfl
 have k:(j:Int)+1<=Q j:=by
  clear hB e
  induction j with
  | zero=>decide
  | succ j ih=>have e:Q (j+1)=2*Q j:=rfl;have:=zE j;omega
 rw[e];omega
theorem wa_low {n d:Int} (h:WaIn n d) {B t:Nat} {l:Int} (hB:40<=B) (hl:yR (zW (ofI (-n) d B)) l) (ht:(t:Int)=max 0 (l-B+8)):d*Q t<=1048576*n:=by
 by_cases t0:t=0
 ·rw[t0]
  have e:Q 0=1:=rfl;have:=h.lo;rw[e];omega
 ·have q:=zE B
  have d0:=h.d0;have n0:=h.n0;have nq:=Int.mul_pos n0 q
  have r:zW (ofI (-n) d B) = -(-(n*Q B)/d):=by
   have e:(ofI (-n) d B).1 = -(n*Q B)/d:=by show -n*Q B/d=_;rw[Int.neg_mul]
   have le:=kO (n := -n) d0 B
   have u0:(ofI (-n) d B).2<=0:=by
    show -(-(-n*Q B)/d)<=0
    have:0 <= -(-n*Q B)/d:=Int.ediv_nonneg (by rw[Int.neg_mul];omega) (by omega)
    omega
   unfold zW zGA;rw[<- e];split<;>omega
  have c:=zLM (n*Q B) d d0;obtain⟨l1,l2,l3⟩:=hl
  have rp:0<zW (ofI (-n) d B):=Int.not_le.1 λ hn=>by
   by_cases z:zW (ofI (-n) d B)=0
   ·have:=l2 z;omega
   ·have:0<=zW (ofI (-n) d B):=zAS (kO d0 B)
    omega
  obtain⟨L,e1,e2,e3⟩:=l3 rp;have eL:L+9=B+t:=by clear r c l3 l2 e2 e3 rp;omega
  rw[r] at e2;have m:=YW e2 (show 0<=d by omega)
  have k1:Q L*d<n*Q B+d:=by omega
  have k2:Q L*512=Q B*Q t:=by
   rw[<- jD,<- eL,jD];rfl
  have qt:=zE t;have dq:d<=1048576*n:=h.lo;have qb:=zH hB;have Hb:Q 40=1099511627776:=rfl;have m2:=Za (show 1048576<=Q B by omega) (show 0<=n by omega)
  have k3:Q L*d<2*(n*Q B):=by omega
  have k4:Q B*(Q t*d)<Q B*(1024*n):=by
   have e5:Q B*(Q t*d)=Q L*512*d:=by rw[k2];grind
   have e6:Q L*512*d=512*(Q L*d):=by grind
   have e7:Q B*(1024*n)=1024*(n*Q B):=by grind
   omega
  have k5:=Int.lt_of_mul_lt_mul_left k4 (show 0<=Q B by omega)
  rw[Int.mul_comm d];omega
theorem wa_done {n d:Int} (h:WaIn n d) {B t N:Nat} {l:Int} (hB:40<=B) (hl:yR (zW (ofI (-n) d B)) l) (ht:(t:Int)=max 0 (l-B+8)) (hA:Abs (zF (ofI (-n) d B) t) (Q (B-8))) (hN:zU (zV B (zF (ofI (-n) d B) t)) N) :
  0<=(zM (zV B (zF (ofI (-n) d B) t)) N).1/\(zM (zV B (zF (ofI (-n) d B) t)) N).1<=(zM (zV B (zF (ofI (-n) d B) t)) N).2/\(zM (zV B (zF (ofI (-n) d B) t)) N).2<=Q B/\(zM (zV B (zF (ofI (-n) d B) t)) N).2-(zM (zV B (zF (ofI (-n) d B) t)) N).1+1<=(B:Int)+20:=by
 have q:=zE B;have qt:=zE t;have d0:=h.d0;have n0:=h.n0;have al:=kO (n := -n) d0 B;have iv:=(Iv.of B (n := -n) d0).down t;have ivE:=zDH (N:=N) (by omega) iv hA
 have Z9:(zF (ofI (-n) d B) t).1<=(zF (ofI (-n) d B) t).2:=iv.le
 have L5:(zF (ofI (-n) d B) t).2-(zF (ofI (-n) d B) t).1<=1+1:=zBV (by omega) (by
  have:=kU (n := -n) d0 B
  omega)
 have yr:=zCK (zAK B (zF (ofI (-n) d B) t)) N;have PX:=zCA (zD6 (by omega) hA Z9 L5) hN
 have hNB:N<=B/8+1:=by
  obtain⟨N',n1,n2⟩:=zB7 (s:=8) (by omega) (zBX (by omega) hA)
  refine Nat.le_trans (Nat.not_lt.1 λ E2=>?_) n1
  have:=hN.2 N' E2;have:=n2.1;omega
 have w:(zM (zV B (zF (ofI (-n) d B) t)) N).2-(zM (zV B (zF (ofI (-n) d B) t)) N).1+1<=(B:Int)+20:=by omega
 have dr:(0:Rat)<(d:Rat):=by exact_mod_cast d0
 have tr:(0:Rat)<(Q t:Rat):=by exact_mod_cast qt
 have br:=jM B;obtain⟨u,hu⟩:∃ u:Rat,u=(n:Rat)/(d:Rat)/(Q t:Rat):=⟨_,rfl⟩
 have eu:(λ M:Nat=>((-n:Int):Rat)/(d:Rat)/(Q t:Rat))=λ _ => -u:=by
  funext M
  rw[hu,Rat.intCast_neg,Rat.div_def,Rat.div_def,Rat.div_def,Rat.div_def];grind
 rw[eu] at iv ivE;have um:u*(Q t:Rat)*(d:Rat)=(n:Rat):=by rw[hu,rdm tr,rdm dr]
 have ul:(1:Rat)<=1048576*u:=by
  have c:=jF (wa_low h hB hl ht);rw[Ze,Ze] at c;have e:((1048576:Int):Rat)=1048576:=rfl;rw[e] at c;have p:=Rat.mul_pos dr tr;refine Rat.le_of_mul_le_mul_right (c:=(d:Rat)*(Q t:Rat)) ?_ p;have e2:1048576*u*((d:Rat)*(Q t:Rat))=1048576*(u*(Q t:Rat)*(d:Rat)):=by grind
  rw[e2,um];grind
 have uu:u*256<=1:=by
  obtain⟨h1,h2⟩:=Has.of_const iv;have a1:=jF hA.1
  have e8:Q B=256*Q (B-8):=by
   have e:=jD 8 (B-8);rw[show 8+(B-8)=B by omega] at e
   rw[e];rfl
  have VQ:(Q B:Rat)=256*(Q (B-8):Rat):=by rw[e8,Ze];rfl
  have m:=YX h1 (YZ br);rw[rdm br] at m;rw[Rat.intCast_neg] at a1;have p8:=jM (B-8);refine Rat.le_of_mul_le_mul_right (c:=(Q (B-8):Rat)) ?_ p8;rw[VQ] at m;grind
 have u0:0<=u:=by grind
 have up:LeN (Ev (λ _ => -u)) (λ _=>1-u/2):=LeN.of_le 2 λ M hM=>by
  have k:=(zF3 u0 (by grind) hM).2
  have s:=YT uu u0
  show ex (-u) M<=1-u/2
  grind
 have dn:LeN (λ _=>(1:Rat)/2) (Ev (λ _ => -u)):=LeN.of_le 2 λ M hM=>by
  have k:=(zHP (h := -u) (b:=1/8) ⟨by grind,by grind⟩ (by grind) (show 1<=M by omega)).1
  show 1/2<=E (-u) M
  grind
 have Kn:Q B=2097152*Q (B-21):=by
  have e:=jD 21 (B-21);rw[show 21+(B-21)=B by omega] at e
  rw[e];rfl
 have DJ:(Q B:Rat)=2097152*(Q (B-21):Rat):=by rw[Kn,Ze];rfl
 have C7:=wa_up hB;have p21:=jM (B-21)
 have lo:=iv_lt (z:=Q B-Q (B-21)+1) ivE up (by
  rw[Rat.intCast_add,Rat.intCast_sub,DJ];have e1:((1:Int):Rat)=1:=rfl;rw[e1];have m:=YX ul (YZ p21)
  grind)
 have hi:=iv_gt (z:=Q (B-21)) ivE dn (by rw[DJ];grind)
 have q0:=zE (B-21);refine⟨by omega,yr,by omega,w⟩
theorem wa_ok {n d:Int} (h:WaIn n d) {B t N:Nat} {l:Int} (hB:40<=B) (o9:B<=400) (dO:t<=35) (hl:yR (zW (ofI (-n) d B)) l) (ht:(t:Int)=max 0 (l-B+8)) (hA:Abs (zF (ofI (-n) d B) t) (Q (B-8))) (hN:zU (zV B (zF (ofI (-n) d B) t)) N) :
  (∀ i,0<=(sqI B (zM (zV B (zF (ofI (-n) d B) t)) N) i).1/\(sqI B (zM (zV B (zF (ofI (-n) d B) t)) N) i).2<=Q B)/\LwPr (λ M=>1-Ev (λ _=>((-n:Int):Rat)/(d:Rat)) M) B (zB5 B (sqI B (zM (zV B (zF (ofI (-n) d B) t)) N) t)).1 (zB5 B (sqI B (zM (zV B (zF (ofI (-n) d B) t)) N) t)).2:=by
 obtain⟨g0,g1,g2,g3⟩:=wa_done h hB hl ht hA hN;have sq:=sq_unit g0 g1 g2;refine⟨λ i=>⟨(sq i).1,(sq i).2.2.1⟩,?_⟩
 obtain⟨s0,s1,s2,s3⟩:=sq t;have iv:=zDZ (N:=N) (by omega) (Iv.of B (n := -n) h.d0) hA
 have m:=Int.mul_le_mul (zH dO) (show (zM (zV B (zF (ofI (-n) d B) t)) N).2-(zM (zV B (zF (ofI (-n) d B) t)) N).1+1<=512 by omega) (by omega) (by have:=zE 35;omega)
 have e44:Q 35*512=Q 44:=by rw[show 44=35+9 by rfl,jD];rfl
 have Ko:=zH (show 44<=89 by omega)
 refine⟨?_,?_,?_,?_,(zHG B).sub iv⟩
 ·show 0<=Q B-_;omega
 ·show Q B-_<=Q B-_;omega
 ·show Q B-_<=Q B;omega
 ·show Q B-_-(Q B-_)<=Q 89;omega
def raU (p:Int) (last:Int) (k:Nat):Int:=if last<(k:Int) then 0 else p
def raD (q:Int) (last:Int) (k:Nat):Int:=if last<(k:Int) then 1 else if k=0 then 1 else q*(k:Int)
def raT (p q last:Int) (B:Nat):Nat->Int × Int:=riT (Q B,Q B) (raU p last) (raD q last)
def zBZ (p q:Int):Nat:=(2*p/q).toNat
theorem raD_pos {q last:Int} (q0:0<q) (k:Nat):0<raD q last k:=by
 unfold raD;split
 ·decide
 ·split
  ·decide
  ·exact Int.mul_pos q0 (by omega)
theorem zPH {p q last:Int} (p0:0<p) (q0:0<q) (B:Nat):zPR (Q B,Q B) (raU p last) (raD q last):=by
 have qB:=zE B;refine⟨⟨λ k=>by unfold raU;split<;>omega,λ k=>raD_pos q0 k⟩,by show 0<Q B;omega,Int.le_refl _,by show Q B-Q B<=1;omega,λ k hk=>?_⟩
 unfold raU raD at hk ⊢
 by_cases c:last<((k+2:Nat):Int)
 ·rw[if_pos c,if_pos c] at hk;omega
 ·rw[if_neg c,if_neg c,if_neg (by omega)] at hk
  rw[if_neg (by omega),if_neg (by omega),if_neg (by omega)]
  have m:=Za (show ((k+1:Nat):Int)<=((k+2:Nat):Int) by omega) (show 0<=q by omega)
  omega
theorem ra_34 {p q last:Int} (p0:0<p) (q0:0<q) (k:Nat) (hk:zBZ p q<=k):4*raU p last (k+1)<=3*raD q last (k+1):=by
 unfold raU raD
 by_cases c:last<((k+1:Nat):Int)
 ·rw[if_pos c,if_pos c];omega
 ·rw[if_neg c,if_neg c,if_neg (by omega)]
  have a:2*p<(2*p/q+1)*q:=Int.lt_ediv_add_one_mul_self _ q0;have b:2*p/q<=(k:Int):=by unfold zBZ at hk;omega
  have m:=YW (show 2*p/q+1<=((k+1:Nat):Int) by omega) (show 0<=q by omega)
  have e:q*((k+1:Nat):Int)=((k+1:Nat):Int)*q:=Int.mul_comm _ _;rw[e];omega
theorem ra_c {p q last:Int} (p0:0<p) (q0:0<q) (hp:p<=100*q) (k:Nat):raU p last (k+1)<=Q 7*raD q last (k+1):=by
 have e7:Q 7=128:=rfl;rw[e7];unfold raU raD
 by_cases c:last<((k+1:Nat):Int)
 ·rw[if_pos c,if_pos c];omega
 ·rw[if_neg c,if_neg c,if_neg (by omega)]
  have m:=Za (show 1<=((k+1:Nat):Int) by omega) (show 0<=q by omega)
  omega
theorem zL3 {p q:Int} (p0:0<p) (q0:0<q) (hp:p<=100*q):zBZ p q<=200/\((zBZ p q:Nat):Int)=2*p/q:=by
 have a:2*p/q<=200:=Int.ediv_le_of_le_mul q0 (by omega)
 have b:0<=2*p/q:=Int.ediv_nonneg (by omega) (by omega)
 unfold zBZ;exact⟨by omega,by omega⟩
theorem ra_set {p q last:Int} (p0:0<p) (q0:0<q) (hp:p<=100*q) {B:Nat} (hB:40<=B) (o9:B<=400):∃ N,N<=5700/\yK (raT p q last B) (zBZ p q) N:=by
 obtain⟨N,n1,n2⟩:=zTO (zPH (last:=last) p0 q0 B) (H:=B) (c:=7) (turn:=zBZ p q) (Int.le_refl _) (by omega) (ra_c p0 q0 hp) (λ k hk=>ra_34 p0 q0 k hk)
 have:=(zL3 p0 q0 hp).1;exact⟨N,by omega,n2⟩
theorem zN2 {p q last:Int} (p0:0<p) (q0:0<q) (hp:p<=100*q) {B:Nat} (hB:40<=B) (o9:B<=400) (k:Nat) (hk:k<=1000000):(jE (raT p q last B) k).2+9<=Q 1900/\(raT p q last B k).2<=Q 1900:=by
 have t:=(zL3 p0 q0 hp).1;have a:=zTM (zPH (last:=last) p0 q0 B) (H:=B) (c:=7) (turn:=zBZ p q) (Int.le_refl _) (by omega) (ra_c p0 q0 hp) (λ k hk=>ra_34 p0 q0 k hk) k hk
 have b:=zTN (zPH (last:=last) p0 q0 B) (H:=B) (c:=7) (turn:=zBZ p q) (Int.le_refl _) (by omega) (ra_c p0 q0 hp) (λ k hk=>ra_34 p0 q0 k hk) k
 exact⟨Int.le_trans a (zH (by omega)),Int.le_trans b (zH (by omega))⟩
theorem ra_val {p q last:Int} (q0:0<q) (k M:Nat):riV (λ _=>1) (raU p last) (raD q last) k M=if (k:Int)<=max last 0 then ((p ^ k:Int):Rat)/((q ^ k*zBA k:Int):Rat) else 0:=by
 induction k with
 | zero =>
  rw[if_pos (by omega)]
  show (1:Rat)=((p ^ 0:Int):Rat)/((q ^ 0*zBA 0:Int):Rat)
  have e:q ^ 0*zBA 0=1:=by rw[Int.pow_zero];rfl
  have e2:p ^ 0=1:=Int.pow_zero p;rw[e,e2];decide +kernel
 | succ k ih =>
  show (raU p last (k+1):Rat)/(raD q last (k+1):Rat)*riV (λ _=>1) (raU p last) (raD q last) k M=_
  rw[ih];unfold raU raD
  by_cases c:last<((k+1:Nat):Int)
  ·generalize (if (k:Int)<=max last 0 then ((p ^ k:Int):Rat)/((q ^ k*zBA k:Int):Rat) else 0)=Y
   rw[if_pos c,if_neg (show ¬ ((k+1:Nat):Int)<=max last 0 by omega)]
   have z:((0:Int):Rat)=0:=rfl;rw[z,Rat.div_def,Rat.zero_mul,Rat.zero_mul]
  ·rw[if_pos (show (k:Int)<=max last 0 by omega),if_pos (show ((k+1:Nat):Int)<=max last 0 by omega),if_neg c,if_neg c,if_neg (show ¬ k+1=0 by omega)]
   have a0:(0:Rat)<((q ^ k*zBA k:Int):Rat):=by exact_mod_cast Int.mul_pos (Int.pow_pos q0) (zCM k)
   have b0:(0:Rat)<((q ^ (k+1)*zBA (k+1):Int):Rat):=by exact_mod_cast Int.mul_pos (Int.pow_pos q0) (zCM (k+1))
   have c0:(0:Rat)<((q*((k+1:Nat):Int):Int):Rat):=by exact_mod_cast Int.mul_pos q0 (show 0<((k+1:Nat):Int) by omega)
   have ef:q ^ (k+1)*zBA (k+1)=(q*((k+1:Nat):Int))*(q ^ k*zBA k):=by
    show q ^ (k+1)*(zBA k*_)=_
    rw[Int.pow_succ]
    push_cast
    grind
   have ep:p ^ (k+1)=p*p ^ k:=by rw[Int.pow_succ,Int.mul_comm]
   rw[ef,ep,Ze p,Ze (q*((k+1:Nat):Int))];rw[ef,Ze] at b0;have r1:=rdm (a:=(p:Rat)) c0;have r2:=rdm (a:=((p ^ k:Int):Rat)) a0;have r3:=rdm (a:=(p:Rat)*((p ^ k:Int):Rat)) b0;refine Rat.le_antisymm (Rat.le_of_mul_le_mul_right ?_ b0) (Rat.le_of_mul_le_mul_right ?_ b0) <;>
   ·rw[r3]
    have e:∀ A B C D:Rat,A*B*(C*D)=(A*C)*(B*D):=λ A B C D=>by grind
    rw[e,r1,r2];exact Rat.le_refl
theorem raS_val {p q last:Int} (hl:0<=last) (q0:0<q) (M:Nat) (hM:last<(M:Int)):riS (λ _=>1) (raU p last) (raD q last) M=S (λ i=>((p ^ i:Int):Rat)/((q ^ i*zBA i:Int):Rat)) (last+1).toNat:=by
 unfold riS;obtain⟨K,hK⟩:∃ K:Nat,K=(last+1).toNat:=⟨_,rfl⟩;rw[<- hK]
 have low:∀ j,j<=K->S (λ k=>riV (λ _=>1) (raU p last) (raD q last) k M) j=S (λ i=>((p ^ i:Int):Rat)/((q ^ i*zBA i:Int):Rat)) j:=λ j=>by
  induction j with
  | zero=>intro _;rfl
  | succ j ih =>
   intro hj
   show S _ j+riV (λ _=>1) (raU p last) (raD q last) j M=S _ j+_
   rw[ih (by omega),ra_val q0,if_pos (by omega)]
 have up:∀ j,S (λ k=>riV (λ _=>1) (raU p last) (raD q last) k M) (K+j)=S (λ i=>((p ^ i:Int):Rat)/((q ^ i*zBA i:Int):Rat)) K:=λ j=>by
  induction j with
  | zero=>exact low K (Zb _)
  | succ j ih =>
   show S _ (K+j)+riV (λ _=>1) (raU p last) (raD q last) (K+j) M=_
   rw[ih,ra_val q0,if_neg (by omega)];grind
 have:=up (M-K);rw[show K+(M-K)=M by omega] at this
 exact this
theorem S_div {f:Nat->Rat} (c:Rat) (n:Nat):S (λ i=>f i/c) n=S f n/c:=by
 induction n with
 | zero=>show (0:Rat)=0/c;rw[Rat.div_def,Rat.zero_mul]
 | succ n ih=>show S (λ i=>f i/c) n+f n/c=(S f n+f n)/c;rw[ih,Rat.div_def,Rat.div_def,Rat.div_def];grind
theorem raX_one {p q n d:Int} (hp:0<=p) (hq:0<q):LeN (raX p q n d) (λ _=>1):=by
 refine LeN.of_le (raN n d+1) λ M hM=>?_
 unfold raX zGY;rw[S_div];have x0:=zAR hp hq;have e0:0<Ev (λ _=>(p:Rat)/(q:Rat)) M:=(zPW x0 0 M (by omega)).2
 refine kF e0 ?_
 have:∀ j,j<=M->S (λ i=>((p ^ i:Int):Rat)/((q ^ i*zBA i:Int):Rat)) j<=E ((p:Rat)/(q:Rat)) M:=λ j hj=>by
  have k:S (λ i=>((p ^ i:Int):Rat)/((q ^ i*zBA i:Int):Rat)) j=S (tm ((p:Rat)/(q:Rat))) j:=by
   clear hj
   induction j with
   | zero=>rfl
   | succ j ih=>show S _ j+_=S _ j+_;rw[ih,zMC hq]
  rw[k]
  show _<=S (tm ((p:Rat)/(q:Rat))) M
  obtain⟨i,rfl⟩:∃ i,M=j+i:=⟨M-j,by omega⟩
  clear hM hj k e0
  induction i with
  | zero=>exact Rat.le_refl
  | succ i ih =>
   have:=zA4 x0 (j+i)
   show _<=S (tm ((p:Rat)/(q:Rat))) (j+i)+tm ((p:Rat)/(q:Rat)) (j+i)
   grind
 have:=this (raN n d) (by omega)
 show _<=1*E ((p:Rat)/(q:Rat)) M
 grind
theorem ra_exD {B t:Nat} (h0:40<=B) (h1:B<=400) (ht:t<=15):0<=exD B 1 t/\2*exD B 1 t<=Q B/\exD B 1 t<=1000000000000000:=by
 have qt:=zH ht;have gP:Q 15=32768:=rfl;have q0:=zE t;have q:=zH h0;have e:Q 40=1099511627776:=rfl;have m:=Int.mul_le_mul (show (B:Int)/8+2<=52 by omega) (show 2*1+8*Q t<=262146 by omega) (by omega) (by omega)
 have m0:=Zc (show 0<=(B:Int)/8+2 by omega) (show 0<=2*1+8*Q t by omega)
 unfold exD;exact⟨by omega,by omega,by omega⟩
def raE (p q:Int) (B t N:Nat):Int × Int:=sqI B (zM (zV B (zF (ofI p q B) t)) N) t
theorem ra_lw {p q last n d:Int} (p0:0<p) (q0:0<q) (hp:p<=100*q) (hl:0<=last) (hn:n/d=last) {B t N NS:Nat} (hB:40<=B) (o9:B<=400) (dO:t<=15) (hA:Abs (zF (ofI p q B) t) (Q (B-8))) (hN:zU (zV B (zF (ofI p q B) t)) N) (hS:NS<=5700) (lv:yK (raT p q last B) (zBZ p q) NS) :
  0<(raE p q B t N).1/\(raE p q B t N).1<=(raE p q B t N).2/\0<=(yC (raT p q last B) NS).1/\(yC (raT p q last B) NS).1<=(yC (raT p q last B) NS).2/\LwPr (raX p q n d) B (zDN (yC (raT p q last B) NS).1 (yC (raT p q last B) NS).2 (raE p q B t N).1 (raE p q B t N).2 B) (zNO (yC (raT p q last B) NS) (raE p q B t N) B):=by
 have qB:=zE B;obtain⟨s1,s2,s3⟩:=se_ok (zPH (last:=last) p0 q0 B) NS;obtain⟨D0,D1,D2⟩:=ra_exD hB o9 dO;have x0:=zAR (show 0<=p by omega) q0
 obtain⟨e1,e2,e3,e4,e5⟩:=exq_ok (t:=t) (N:=N) (by omega) (Iv.of B (n:=p) q0) (LeN.of_le 0 λ M _=>x0) (kU q0 B) hA hN D1
 have ee:raE p q B t N=sqI B (zM (zV B (zF (ofI p q B) t)) N) t:=rfl;have es:raT p q last B=riT (Q B,Q B) (raU p last) (raD q last):=rfl;rw[<- ee] at e1 e2 e3 e4 e5;rw[<- es] at s1 s2 s3
 have s0:0<=(yC (raT p q last B) NS).1:=by
  have:Q B<=(yC (raT p q last B) NS).1:=s1;omega
 have si:=zCC (zPH (last:=last) p0 q0 B).ok (zHG B) 0 (λ M _=>by grind) (λ k hk=>ra_34 p0 q0 k hk) lv
 rw[<- es] at si;have dv:=Iv.dv si e5 s0 (by omega)
 have VH:=Has.congr (y:=raX p q n d) dv (null_zero.of_eq_from (last+1).toNat λ M hM=>by
  rw[raS_val hl q0 M (by omega),<- S_div]
  unfold raX raN;rw[hn]
  show S (λ i=>zGY p q i M) (last+1).toNat-_=0
  unfold zGY
  grind)
 refine⟨by omega,e2,s0,s2,zLZ (C:=(1+2*(NS:Int))*((NS:Int)+2)+9) (D:=exD B 1 t) hB s0 s2 (by omega) e2 ?_ D0 ?_ D2 (by omega) s3 e4 VH (raX_one (by omega) q0)⟩
 ·have:=Zc (show 0<=1+2*(NS:Int) by omega) (show 0<=(NS:Int)+2 by omega)
  omega
 ·have:=Int.mul_le_mul (show 1+2*(NS:Int)<=11401 by omega) (show (NS:Int)+2<=5702 by omega) (by omega) (by omega)
  omega
end Go.Proofs.YtgmnknmjainabacGreat
