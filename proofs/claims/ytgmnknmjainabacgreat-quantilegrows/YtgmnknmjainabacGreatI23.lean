/-
  Its own texts.
-/
import Derived.Test.YtgmnknmjainabacGreatI22
set_option maxRecDepth 100000
set_option maxHeartbeats 40000000
set_option linter.unnecessarySimpa false
set_option linter.unusedSimpArgs false
set_option linter.unusedVariables false
namespace Go.Proofs.YtgmnknmjainabacGreat
open Go.RowKit
attribute [local go_sem ↓] Go.wp_at_zero Go.wp_at_succ
open Ex
theorem zSE (L:Rat->Nat->Rat) (hL:Lns L) (w:World) (x y:Nm) (p q n d:Int) (b:Nat) (g X:Nat->Rat) (hx:IntAt w x.neg x.a x.n x.cap 4 n) (hy:IntAt w y.neg y.a y.n y.cap 4 d) (h:LwAr p q n d b) (h0:0<n) (hf:d*(2*((b:Int)+p/q+1))<=n) (ig:IsGam L ((p:Rat)/(q:Rat)) g) :
  Calls Tryz.prog 159 #[.agg #[.int .i64 p,.int .i64 q],.agg x.q,.agg y.q,.int .i64 b] w (λ r w'=>∃ lo hi,LwPr (lwX L p q n d g) b lo hi/\zH w b 30 lo hi r w'):=by
 obtain⟨W,hW⟩:∃ W,W=(((w.alloc (.cells #[.int .i64 p,.int .i64 q] 23)).alloc (.cells x.q 29)).alloc (.cells y.q 29)).alloc (.cells zCq 31):=⟨_,rfl⟩;have j7:Below w.heap.size w W:=by rw[hW];exact bl4 _ _ _ _ _
 have A:RaC W (w.heap.size) p q:=by rw[hW];constructor<;>simp[go_sem]
 have X0:NmC W (w.heap.size+1) x:=by rw[hW];constructor<;>simp[go_sem]
 have Y0:NmC W (w.heap.size+1+1) y:=by rw[hW];constructor<;>simp[go_sem]
 have R:NoC W (w.heap.size+1+1+1):=by rw[hW];constructor<;>simp[go_sem]
 have HX:=zC (hx.bw j7);have HY:=zC (hy.bw j7);have se:=X0.c0;have sf:=X0.c1;have lX:=X0.lt;clear hx hy;have d0:=h.d0;have b0:=h.b0;have b1:=h.b1;have AZ:=zC (show zM n 0=1 by unfold zM;rw[if_neg (by omega),if_pos (by omega)])
 have gY:=zC (show 0<p/\0<q/\p<=1152921504606846976 by have:=h.p0;have:=h.q0;have:=h.pq;have:=h.qq;exact⟨h.p0,h.q0,by omega⟩)
 have Be:=zC (show -9223372036854775808<=2*((b:Int)+p/q+1)/\2*((b:Int)+p/q+1)<=9223372036854775807 by
  have:=Int.ediv_nonneg (Int.le_of_lt h.p0) (Int.le_of_lt h.q0);have:p/q<=100:=Int.ediv_le_of_le_mul h.q0 h.pq;have:=h.b1
  exact⟨by omega,by omega⟩)
 have HV:=zC (show LwPr (lwX L p q n d g) b (Q b-1) (Q b) by
  unfold lwX;rw[if_neg (by omega)]
  exact lw_farI hL h.p0 h.q0 d0 hf (by omega) ig)
 have GP:=zC (zGB (zA HV) b1);obtain⟨cc,oy,D7⟩:∃ cc:Int,0<=cc/\zM n (d*(2*((b:Int)+p/q+1)))=cc:=⟨_,by unfold zM;split;omega;split<;>omega,rfl⟩
 have HC:=zC D7;clear h h0 hf hL ig D7
 go_enter Tryz.func159,Tryz.ntmps159
 go_wp2_with fail;rw[<- hW];clear hW se sf lX;refine (zBS _ _ _ _ _ n _ (zA HX)).mono ?_;rintro r w1 ⟨rfl,b9⟩;rw[zA AZ];replace A:=A.bw b9;replace X0:=X0.bw b9;replace Y0:=Y0.bw b9;replace R:=R.bw b9;replace HX:=zC ((zA HX).bw b9);replace HY:=zC ((zA HY).bw b9);replace j7:=zB j7 b9;clear b9;have lA:=A.lt;have lX:=X0.lt;have lY:=Y0.lt;have lR:=R.lt;have HK:=zC (show ∀ w',Below w1.heap.size w1 w'->(rK w' w.heap.size p q (nK w' (w.heap.size+1) x (nK0 w' (w.heap.size+1+1) y))) from λ w' hB=>⟨(A.bw hB).c0,(A.bw hB).c1,(X0.bw hB).c0,(X0.bw hB).c1,(Y0.bw hB).c0,(Y0.bw hB).c1⟩)
 have C8:Below w1.heap.size w1 w1.drew:=(Below.refl _ _).drew;go_wp2_with fail;obtain⟨x0,x1,x2,x3,x4,x5⟩:=zA HK _ (Below.refl _ _)
 go_region_held3 (λ w'=>rK w' w.heap.size p q (nK w' (w.heap.size+1) x (nK0 w' (w.heap.size+1+1) y))) (first|exact zA HK _ (by with_reducible first|exact C8|exact G0|exact A8|exact o9|exact A6)|(dsimp only[cK,cK0,nK,nK0,rK,rK0];go_keep)|go_keep)
  (first
   | (go_at_call 17;have hq:=A8;refine (jO _ _ _ _ _ _ _ _ 4 (4+4) n (d*(2*((b:Int)+p/q+1))) _ ((zA HX).bw A8) E5).mono ?_;rintro r w5 ⟨rfl,D6⟩;rw[zA HC];have G0:=zB A8 D6;have i0:=zA HK _ G0)
   | (go_at_call 83;have hq:=o9;refine (zT _ _ _ _ _ _ _ _ 4 4 d (2*((b:Int)+p/q+1)) _ ((zA HY).bw o9) A5 (by omega) (by omega)).mono ?_;rintro r w4 ⟨A7,a3,n3,c3,rfl,E5,y9⟩;have A8:=zB o9 y9)
   | (go_at_call 33;have hq:=A6;refine (zD (2*((b:Int)+p/q+1)) _ (zA Be).1 (zA Be).2).mono ?_;rintro r w3 ⟨j6,a2,n2,c2,rfl,A5,m9⟩;have o9:=zB A6 m9)
   | (go_at_call 179;refine (zE5 _ p q b (zA gY).1 (zA gY).2.1 (zA gY).2.2 (by omega)).mono ?_;rintro r w2 ⟨rfl,j8⟩;have A6:=zB C8 j8))
 all_goals
  have R3:=R.bw G0;replace j7:=zB j7 G0;have gQ:=R3.lt;clear x0 x1 x2 x3 x4 x5 i0 A5 E5;go_wp2_with fail;refine (zEE _ b (by omega)).mono ?_
  rintro r w6 ⟨t,rfl,I8,P1,K7⟩;obtain⟨q0,q1,q2,q3,q4,q5⟩:=R3.bw K7;replace j7:=zB j7 K7;have HT:=zC I8;clear I8;have fit:=P1.fits (K:=30) (zA GP).1 (zA GP).2.1 (zA GP).2.2;go_wp2_with fail;refine bodyPost_ret (v:=.agg t.q) (by simp[results,Tryz.results159,go_sem,q0,q1,q2,q3,q4]) rfl ⟨_,_,zA HV,t,rfl,zA HT,?_,?_⟩
  ·exact SpAt.put5 fit q0 q1 q2 q3 q4 _ _ _ _ _
  ·exact jY j7 (by omega) _ _ _ _ _
theorem zO3 (L:Rat->Nat->Rat) (hL:Lns L) (w:World) (x y:Nm) (p q n d:Int) (b:Nat) (g X:Nat->Rat) (hx:IntAt w x.neg x.a x.n x.cap 4 n) (hy:IntAt w y.neg y.a y.n y.cap 4 d) (h:zML p q n d b) (ig:IsGam L ((p:Rat)/(q:Rat)) g) (hX:IsLog X (λ M=>(p:Rat)/(q:Rat)*g M)) (Qv:∀ w',Calls Tryz.prog 185 #[.int .i64 (p+q),.int .i64 q,.int .i64 b] w' (λ r I9=>∃ lo hi,zPS X b lo hi/\zH w' b 521 lo hi r I9)) :
  Calls Tryz.prog 159 #[.agg #[.int .i64 p,.int .i64 q],.agg x.q,.agg y.q,.int .i64 b] w (λ r w'=>∃ lo hi,LwPr (lwX L p q n d g) b lo hi/\zH w b 30 lo hi r w'):=by
 obtain⟨W,hW⟩:∃ W,W=(((w.alloc (.cells #[.int .i64 p,.int .i64 q] 23)).alloc (.cells x.q 29)).alloc (.cells y.q 29)).alloc (.cells zCq 31):=⟨_,rfl⟩;have j7:Below w.heap.size w W:=by rw[hW];exact bl4 _ _ _ _ _
 have A:RaC W (w.heap.size) p q:=by rw[hW];constructor<;>simp[go_sem]
 have X0:NmC W (w.heap.size+1) x:=by rw[hW];constructor<;>simp[go_sem]
 have Y0:NmC W (w.heap.size+1+1) y:=by rw[hW];constructor<;>simp[go_sem]
 have R:NoC W (w.heap.size+1+1+1):=by rw[hW];constructor<;>simp[go_sem]
 have HX:=zC (hx.bw j7);have HY:=zC (hy.bw j7);have se:=X0.c0;have sf:=X0.c1;have lX:=X0.lt;clear hx hy;have d0:=h.d0;have fp:=h.q0;have Ge:=h.p0;have Lh:=h.n0;have b0:=h.b0;have b1:=h.b1;have AZ:=zC (show zM n 0=1 by unfold zM;rw[if_neg (by omega),if_pos (by omega)])
 have gY:=zC (show 0<p/\0<q/\p<=1152921504606846976 by have:=h.p0;have:=h.q0;have:=h.pq;have:=h.qq;exact⟨h.p0,h.q0,by omega⟩)
 have Be:=zC (show -9223372036854775808<=2*((b:Int)+p/q+1)/\2*((b:Int)+p/q+1)<=9223372036854775807 by
  have:=Int.ediv_nonneg (Int.le_of_lt h.p0) (Int.le_of_lt h.q0);have:p/q<=100:=Int.ediv_le_of_le_mul h.q0 h.pq;have:=h.b1
  exact⟨by omega,by omega⟩)
 have HC:=zC (show zM n (d*(2*((b:Int)+p/q+1))) = -1 by unfold zM;rw[if_pos h.nx])
 have H:=zC h;have HL:=zC hL;have HG:=zC (And.intro ig hX);have TQ:=zC Qv;have O2:q<=1048576:=h.qq;have I2:p<=104857600:=by have:=h.pq;omega
 obtain⟨NS,nt,Z1⟩:=lu_set h;have xx:=lu_x h;have Yi:=xx.2.2
 have PK:Q 20461<P 1300:=by
  rw[<- Q_P];have h1:=zJ (show 20461+1<=16*1300 by omega)
  have g2:∀ j,Q (j+1)=2*Q j:=λ _=>rfl
  rw[g2] at h1;have:=zE 20461;generalize Q 20461=z at *;omega
 have pg:=zC (show -P 1300<Q b/\Q b<P 1300 by
  have:=zE b;have:=zJ (show b<=20461 by omega)
  have:=yT 1300
  exact⟨by omega,by omega⟩)
 have bc:=zC (show ∀ j,j<=NS -> -P 1300<(luT p q n d b j).1/\(luT p q n d b j).2<P 1300 from λ j _=>by
  have e:0<=(luT p q n d b j).1:=(yZ (zID h) j).1;have u:=lu_hi h j;have:=yT 1300
  exact⟨by omega,by omega⟩)
 have fI:=zC (show ∀ j,j<=NS -> -P 1300<(jE (luT p q n d b) j).1/\(jE (luT p q n d b) j).2<P 1300 from λ j hj=>by
  have u:=lu_fit h j (by omega)
  have l:Q b<=(jE (luT p q n d b) j).1:=(zFQ (zID h) j).2.2;have:=zE b;have:=yT 1300
  exact⟨by omega,by omega⟩)
 have fG:=zC (λ j=>show (luT p q n d b j).1<=(luT p q n d b j).2 from (yZ (zID h) j).2)
 have Y8:=zC (λ j=>show 0<=(luT p q n d b j).1 from (yZ (zID h) j).1)
 have HM:=zC Z1
 have HZ:=zC (show 2*n/d=(luN n d:Int)/\0<=2*n/d/\2*n/d<P 1 /\ -P 1<2*n/d by
  have p1:P 1=65536:=rfl;have:=xx.2.1
  exact⟨by omega,by omega,by omega,by omega⟩)
 have mV:=zC (show Q (b+4)<P 500 by
  rw[<- Q_P];have h1:=zJ (show b+4+1<=16*500 by omega)
  have h2:Q (b+4+1)=2*Q (b+4):=rfl;have:=zE (b+4)
  omega)
 clear h hL ig hX Qv Z1 PK xx
 go_enter Tryz.func159,Tryz.ntmps159
 go_wp2_with fail;rw[<- hW];clear hW se sf lX;refine (zBS _ _ _ _ _ n _ (zA HX)).mono ?_;rintro r w1 ⟨rfl,b9⟩;rw[zA AZ];replace A:=A.bw b9;replace X0:=X0.bw b9;replace Y0:=Y0.bw b9;replace R:=R.bw b9;replace HX:=zC ((zA HX).bw b9);replace HY:=zC ((zA HY).bw b9);replace j7:=zB j7 b9;clear b9;have lA:=A.lt;have lX:=X0.lt;have lY:=Y0.lt;have lR:=R.lt;have HK:=zC (show ∀ w',Below w1.heap.size w1 w'->(rK w' w.heap.size p q (nK w' (w.heap.size+1) x (nK0 w' (w.heap.size+1+1) y))) from λ w' hB=>⟨(A.bw hB).c0,(A.bw hB).c1,(X0.bw hB).c0,(X0.bw hB).c1,(Y0.bw hB).c0,(Y0.bw hB).c1⟩)
 have C8:Below w1.heap.size w1 w1.drew:=(Below.refl _ _).drew;go_wp2_with fail;obtain⟨x0,x1,x2,x3,x4,x5⟩:=zA HK _ (Below.refl _ _)
 go_region_held3 (λ w'=>rK w' w.heap.size p q (nK w' (w.heap.size+1) x (nK0 w' (w.heap.size+1+1) y))) (first|exact zA HK _ (by with_reducible first|exact C8|exact G0|exact A8|exact o9|exact A6)|(dsimp only[cK,cK0,nK,nK0,rK,rK0];go_keep)|go_keep)
  (first
   | (go_at_call 17;have hq:=A8;refine (jO _ _ _ _ _ _ _ _ 4 (4+4) n (d*(2*((b:Int)+p/q+1))) _ ((zA HX).bw A8) E5).mono ?_;rintro r w5 ⟨rfl,D6⟩;rw[zA HC];have G0:=zB A8 D6;have i0:=zA HK _ G0)
   | (go_at_call 83;have hq:=o9;refine (zT _ _ _ _ _ _ _ _ 4 4 d (2*((b:Int)+p/q+1)) _ ((zA HY).bw o9) A5 (by omega) (by omega)).mono ?_;rintro r w4 ⟨A7,a3,n3,c3,rfl,E5,y9⟩;have A8:=zB o9 y9)
   | (go_at_call 33;have hq:=A6;refine (zD (2*((b:Int)+p/q+1)) _ (zA Be).1 (zA Be).2).mono ?_;rintro r w3 ⟨j6,a2,n2,c2,rfl,A5,m9⟩;have o9:=zB A6 m9)
   | (go_at_call 179;refine (zE5 _ p q b (zA gY).1 (zA gY).2.1 (zA gY).2.2 (by omega)).mono ?_;rintro r w2 ⟨rfl,j8⟩;have A6:=zB C8 j8))
 all_goals
  replace A:=A.bw G0;replace X0:=X0.bw G0;replace Y0:=Y0.bw G0;replace R:=R.bw G0;replace HX:=zC ((zA HX).bw G0);replace HY:=zC ((zA HY).bw G0);replace j7:=zB j7 G0;clear x0 x1 x2 x3 x4 x5 i0 A5 E5 lA lX lY lR;have lA:=A.lt;have lX:=X0.lt;have lY:=Y0.lt;have lR:=R.lt;have OX:=zC (show ∀ w',Below w5.heap.size w5 w'->(rK w' w.heap.size p q (nK w' (w.heap.size+1) x (nK0 w' (w.heap.size+1+1) y))) from λ w' hB=>⟨(A.bw hB).c0,(A.bw hB).c1,(X0.bw hB).c0,(X0.bw hB).c1,(Y0.bw hB).c0,(Y0.bw hB).c1⟩)
  go_wp2_with fail
  go_cut [9] (λ p wx=>∃ (B:Nat) (u:Nm),p=.pointer (some ⟨B,0,none⟩)/\w5.heap.size<=B/\NmC wx B u/\IntAt wx u.neg u.a u.n u.cap 8 (n*q)/\Below w5.heap.size w5 wx)
  case first =>
   go_region_held3 (λ w'=>rK w' w.heap.size p q (nK w' (w.heap.size+1) x (nK0 w' (w.heap.size+1+1) y))) (exact zA OX _ (by repeat' (first|with_reducible exact K9|with_reducible exact G1|with_reducible exact Below.refl _ _|with_reducible refine Below.drew ?_|with_reducible refine zL ?_ _|with_reducible refine Below.setCell ?_ (by first|exact YE _|exact R9|exact S3) _)))
    (first
     | (go_at_call 83;have hq:=G1;refine (zT _ _ _ _ _ _ _ _ 4 4 n q _ ((zA HX).bw (by with_reducible first|exact G1|exact zL G1 _)) (J8.bw (by with_reducible first|exact Below.refl _ _|exact bl1 _ _)) (by omega) (by omega)).mono ?_;rintro r ft ⟨aH,rS,wY,rT,rfl,T6,Q8⟩;have Q0:Below bQ.heap.size bQ ft:=(by with_reducible first|exact Q8|exact zB (bl1 _ _) Q8);have K9:=zB G1 Q0;(try with_reducible have cw:=(jL bQ 29).bw Q8);replace J8:=J8.bw Q0;(try replace Y9:=Y9.bw Q0);have S3:=K9.size;(try have oO:=Y9.lt);(try obtain⟨mN,mO,zU1f⟩:=Y9);(try have oP:=cw.lt);(try obtain⟨mP,mQ,zU2f⟩:=cw))
     | (go_at_call 33;refine (zD q _ (by omega) (by omega)).mono ?_;rintro r bQ ⟨aY,zm,AM,zo,rfl,J8,Q7⟩;have G1:Below w5.heap.size w5 bQ:=(by with_reducible first|exact zB (Below.refl _ _).drew Q7|exact zB (bl1 _ _).drew Q7);(try with_reducible have Y9:=((jL w5 29).bw (Below.refl _ _).drew).bw Q7);have R9:=G1.size))
   all_goals
    have hfinU:IntAt ft aH rS wY rT 8 (n*q):=T6.mono (by omega)
    go_wp2_with fail;go_meet;refine⟨_,⟨aH,rS,wY,rT⟩,rfl,?_,⟨?_,?_⟩,?_,?_⟩
    ·first|exact YE _|exact R9|exact S3
    ·simp[go_sem, *]
    ·simp[go_sem, *]
    ·first|with_reducible exact hfinU.put2 mP mQ _ _|with_reducible exact hfinU.put2 mN mO _ _|with_reducible exact hfinU.bw (bl1 _ _)
    ·repeat' (first|with_reducible exact K9|with_reducible exact G1|with_reducible exact Below.refl _ _|with_reducible refine Below.drew ?_|with_reducible refine zL ?_ _|with_reducible refine Below.setCell ?_ (by first|exact YE _|exact R9|exact S3) _)
  case rest =>
  obtain⟨BU,xU,rfl,Ct,XU,hpU,hblU⟩:=hcut;obtain⟨V1,Q2⟩:∃ V,V=wc:=⟨_,rfl⟩;subst Q2;replace A:=A.bw hblU;replace X0:=X0.bw hblU;replace Y0:=Y0.bw hblU;replace R:=R.bw hblU;replace HX:=zC ((zA HX).bw hblU);replace HY:=zC ((zA HY).bw hblU);replace j7:=zB j7 hblU;clear OX lA lX lY lR Ct;have zj:=zC hpU;clear hpU;have lA:=A.lt;have lX:=X0.lt;have lY:=Y0.lt;have lR:=R.lt;have lU:=XU.lt;have pc:=zC (show ∀ w',Below V1.heap.size V1 w'->(rK w' w.heap.size p q (nK w' (w.heap.size+1) x (nK0 w' (w.heap.size+1+1) y))) from λ w' hB=>⟨(A.bw hB).c0,(A.bw hB).c1,(X0.bw hB).c0,(X0.bw hB).c1,(Y0.bw hB).c0,(Y0.bw hB).c1⟩)
  have ng:Below V1.heap.size V1 V1.drew:=(Below.refl _ _).drew;go_wp2_with fail;obtain⟨x0,x1,x2,x3,x4,x5⟩:=zA pc _ (Below.refl _ _)
  go_region_held3 (λ w'=>rK w' w.heap.size p q (nK w' (w.heap.size+1) x (nK0 w' (w.heap.size+1+1) y))) (first|exact zA pc _ (by with_reducible first|exact ng|exact kg|exact Ji|exact Fo)|(dsimp only[cK,cK0,nK,nK0,rK,rK0];go_keep)|go_keep)
   (first
    | (go_at_call 181;have hq:=Ji;refine (zKK _ _ _ _ (2*n/d) _ (ie.fits (zA HZ).2.2.2 (zA HZ).2.2.1) (zA HZ).2.1).mono ?_;rintro r w8 ⟨rfl,Y1⟩;rw[(zA HZ).1];have kg:=zB Ji Y1;have i0:=zA pc _ kg)
    | (go_at_call 126;have hq:=Fo;refine (yI _ _ _ _ _ _ _ _ 5 4 (2*n) d _ bC ((zA HY).bw Fo) (by omega) d0).mono ?_;rintro r w7 ⟨cP,a7,n7,c7,rfl,ie,Q4⟩;have Ji:=zB Fo Q4)
    | (go_at_call 116;refine (zUE _ _ _ _ 4 n _ ((zA HX).bw ng) (by omega)).mono ?_;rintro r w6 ⟨bO,a6,n6,c6,rfl,bC,K7⟩;have Fo:=zB ng K7))
  all_goals
   replace A:=A.bw kg;replace X0:=X0.bw kg;replace Y0:=Y0.bw kg;replace R:=R.bw kg;replace HX:=zC ((zA HX).bw kg);replace HY:=zC ((zA HY).bw kg);replace j7:=zB j7 kg;replace XU:=XU.bw kg;replace zj:=zC ((zA zj).bw kg);clear x0 x1 x2 x3 x4 x5 i0 bC ie lA lX lY lR lU pc;have lA:=A.lt;have lX:=X0.lt;have lY:=Y0.lt;have lR:=R.lt;have lU:=XU.lt;go_wp2_with fail;refine (zDD _ b (by omega)).mono ?_
   rintro r w9 ⟨v9,rfl,mB,gP,Z2⟩;rw[show 1*Q b/1=Q b by rw[Int.ediv_one,Int.one_mul],show -(-(1*Q b)/1)=Q b by rw[Int.ediv_one,Int.one_mul,Int.neg_neg]] at gP
   have ER:=zC mB;have mS:=zC (gP.fits (K:=1300) (Int.le_refl _) (zA pg).1 (zA pg).2);replace A:=A.bw Z2;replace X0:=X0.bw Z2;replace Y0:=Y0.bw Z2;replace R:=R.bw Z2;replace HX:=zC ((zA HX).bw Z2);replace HY:=zC ((zA HY).bw Z2);replace j7:=zB j7 Z2;replace XU:=XU.bw Z2;replace zj:=zC ((zA zj).bw Z2);clear Z2 mB gP lA lX lY lR lU
   have cg:=zC (show ∀ (j:Nat) (u:Sp) w',j<NS->u.bits=(b:Int)->SpAt w' u 1300 (luT p q n d b j).1 (luT p q n d b j).2->Below w9.heap.size w9 w'->Calls Tryz.prog 183 #[.agg u.q,.int .i64 ((j:Int)+1),.pointer (some ⟨BU,0,none⟩),.pointer (some ⟨w.heap.size+1+1,0,none⟩),.pointer (some ⟨w.heap.size,0,none⟩)] w' (zH w' b 1318 (luT p q n d b (j+1)).1 (luT p q n d b (j+1)).2) from λ j u w' hj B8 B7 O7=>by
    have e:=lo1_iv w' BU (w.heap.size+1+1) (w.heap.size) u xU y 1300 8 4 b ((j:Int)+1) (luT p q n d b j) (n*q) d p q B7 ((zA zj).bw O7) ((zA HY).bw O7) (XU.bw O7) (Y0.bw O7) (A.bw O7) (by omega) (by omega) (by omega) B8 (YF (by omega) (by omega)) (by
     have:=zEV (show (j:Int)+1<=70001 by omega) O2 (by omega) (by omega)
     omega) Ge (by omega) d0
    have ec:((j+1:Nat):Int)=(j:Int)+1:=by omega
    have e2:luT p q n d b (j+1)=zK (luT p q n d b j) (n*q) (d*(p+((j+1:Nat):Int)*q)):=rfl;rw[e2,ec]
    exact e)
   go_wp2_with fail;refine (zEJ _ #[.pointer (some ⟨BU,0,none⟩),.pointer (some ⟨w.heap.size+1+1,0,none⟩),.pointer (some ⟨w.heap.size,0,none⟩)] en_lo (luT p q n d b) (luN n d) NS b 1300 1318 v9 _ (zA mS) (zA ER) (by omega) (by omega) (by omega) (by omega) (zA HM) (by omega) (by omega) (zA fG) (zA Y8) (zA bc) (zA fI) (zA cg)).mono ?_
   rintro r gV ⟨v,rfl,qz,rf,O5⟩;have HV:=zC qz;replace A:=A.bw O5;replace X0:=X0.bw O5;replace Y0:=Y0.bw O5;replace R:=R.bw O5;replace HX:=zC ((zA HX).bw O5);replace HY:=zC ((zA HY).bw O5);replace j7:=zB j7 O5;have lR10:=R.lt;obtain⟨V2,aI⟩:∃ V,V=gV.alloc (.cells v.q 31):=⟨_,rfl⟩;have W5:Below gV.heap.size gV V2:=by rw[aI];exact bl1 _ _
   have S2:SpC V2 gV.heap.size v:=by rw[aI];exact zB2 gV v _
   have Hi:=zC (show SpAt V2 v 1303 (zAT p q n d b NS).1 (zAT p q n d b NS).2 from rf.bw W5)
   clear qz rf O5 mS ER cg fG Y8 bc fI XU zj;replace A:=A.bw W5;replace X0:=X0.bw W5;replace Y0:=Y0.bw W5;replace R:=R.bw W5;replace HX:=zC ((zA HX).bw W5);replace HY:=zC ((zA HY).bw W5);replace j7:=zB j7 W5;clear W5;have lA:=A.lt;have lX:=X0.lt;have lY:=Y0.lt;have lR:=R.lt;have lS:=S2.lt;have OW:=zC (show ∀ w',Below V2.heap.size V2 w'->(rK w' w.heap.size p q (nK w' (w.heap.size+1) x (nK w' (w.heap.size+1+1) y (cK0 w' gV.heap.size v)))) from λ w' hB=>⟨(A.bw hB).c0,(A.bw hB).c1,(X0.bw hB).c0,(X0.bw hB).c1,(Y0.bw hB).c0,(Y0.bw hB).c1,(S2.bw hB).c0,(S2.bw hB).c1,(S2.bw hB).c2,(S2.bw hB).c3,(S2.bw hB).c4⟩)
   go_wp2_with fail;rw[<- aI];clear aI
   go_cut [12] (λ pz wx=>∃ (B:Nat) (u:Sp) (o:Int × Int),pz=.pointer (some ⟨B,0,none⟩)/\zCJ L ((n:Rat)/(d:Rat)) b o/\V2.heap.size<=B/\VrC wx B u/\SpAt wx u 541 (zI7 (ofI n d b) (zK o p q)).1 (zI7 (ofI n d b) (zK o p q)).2/\u.bits=(b:Int)/\Below V2.heap.size V2 wx)
   case first =>
    go_region_held3 (λ w'=>rK w' w.heap.size p q (nK w' (w.heap.size+1) x (nK w' (w.heap.size+1+1) y (cK0 w' gV.heap.size v)))) (exact zA OW _ (by repeat' (first|with_reducible exact bj|with_reducible exact ai|with_reducible exact P9|with_reducible exact P8|with_reducible exact Below.refl _ _|with_reducible refine Below.drew ?_|with_reducible refine zL ?_ _|with_reducible refine Below.setCell ?_ (by first|exact YE _|exact eM|exact eO|exact eQ|exact eV) _)))
     (first
      | (go_at_call 92;have hq:=ai;refine (zHJ _ Lx Lz 540 b (ofI n d b) (zK (zGR (zN (lnT n' d' b) N1) (zN (lnT 2 1 b) N2) cc) p q) ((bG.bw (by with_reducible first|exact Below.refl _ _|exact bl1 _ _)).mono (by omega)) ((ko.bw (by with_reducible first|exact Below.refl _ _|exact bl1 _ _)).mono (by omega)) (by omega) (zA iE)).mono ?_;rintro r xg ⟨Gg,rfl,cJ,kp,dS⟩;have pk:=zC cJ;clear cJ;have Z0:Below oT.heap.size oT xg:=(by with_reducible first|exact dS|exact zB (bl1 _ _) dS);have bj:=zB ai Z0;(try with_reducible have sz:=(zQ oT 31).bw dS);replace bG:=bG.bw Z0;(try replace bg:=bg.bw Z0);(try replace cZ:=cZ.bw Z0);replace ko:=ko.bw Z0;(try replace iP:=iP.bw Z0);have eV:=bj.size;(try have DK:=bg.lt);(try have WW:=YJ DK);(try have IB:=YI DK);(try obtain⟨xk,xl,xm,xn,xo,Na⟩:=bg);(try have DL:=cZ.lt);(try have Fb:=YJ DL);(try have IC:=YI DL);(try obtain⟨xq,xw,xA,xB,xC,Nb⟩:=cZ);(try have DM:=iP.lt);(try have WX:=YJ DM);(try have ID:=YI DM);(try obtain⟨xD,xI,xJ,xK,xN,Nc⟩:=iP);(try have DN:=sz.lt);(try have WY:=YJ DN);(try have IE:=YI DN);(try obtain⟨xQ,xR,xT,xV,xW,Nd⟩:=sz))
      | (go_at_call 184;have hq:=P9;refine (zCX _ Ly 520 b (zGR (zN (lnT n' d' b) N1) (zN (lnT 2 1 b) N2) cc) p q (bI.bw (by with_reducible first|exact Below.refl _ _|exact bl1 _ _)) (by omega) (zA iF) (by omega) (by omega) fp (by omega)).mono ?_;rintro r oT ⟨Lz,rfl,cH,ko,dR⟩;have pj:=zC cH;clear cH;have bx:Below oR.heap.size oR oT:=(by with_reducible first|exact dR|exact zB (bl1 _ _) dR);have ai:=zB P9 bx;(try with_reducible have iP:=(zQ oR 31).bw dR);replace bG:=bG.bw bx;(try replace bg:=bg.bw bx);(try replace cZ:=cZ.bw bx);have eQ:=ai.size)
      | (go_at_call 125;have hq:=P8;refine (zBC _ x y 4 b 500 n d ((zA HX).bw (by with_reducible first|exact P8|exact zL P8 _)) ((zA HY).bw (by with_reducible first|exact P8|exact zL P8 _)) (by omega) (by omega) (by omega) (by omega) (by omega) (zA mV) (by omega)).mono ?_;rintro r oR ⟨n',d',cc,N1,N2,M3,D7,E7,T4,Z7,Ly,rfl,cG,bI,dQ⟩;have iF:=zC cG;have Ha:=zC (zNI (zA HL) Lh d0 (by omega) M3 (by omega) (by omega) T4 Z7);clear cG M3 D7 E7 T4 Z7;have gx:Below oQ.heap.size oQ oR:=(by with_reducible first|exact dQ|exact zB (bl1 _ _) dQ);have P9:=zB P8 gx;(try with_reducible have cZ:=(zQ oQ 31).bw dQ);replace bG:=bG.bw gx;(try replace bg:=bg.bw gx);have eO:=P9.size)
      | (go_at_call 88;refine (jP _ _ _ _ _ _ _ _ 4 4 b n d _ ((zA HX).bw (by with_reducible first|exact (Below.refl _ _).drew|exact (bl1 _ _).drew)) ((zA HY).bw (by with_reducible first|exact (Below.refl _ _).drew|exact (bl1 _ _).drew)) (by omega) (by omega) d0).mono ?_;rintro r oQ ⟨Lx,rfl,cF,bG,dP⟩;have iE:=zC cF;clear cF;have P8:Below V2.heap.size V2 oQ:=(by with_reducible first|exact zB (Below.refl _ _).drew dP|exact zB (bl1 _ _).drew dP);(try with_reducible have bg:=((zQ V2 31).bw (Below.refl _ _).drew).bw dP);have eM:=P8.size))
    all_goals
     have hfinP:SpAt xg Gg 541 (zI7 (ofI n d b) (zK (zGR (zN (lnT n' d' b) N1) (zN (lnT 2 1 b) N2) cc) p q)).1 (zI7 (ofI n d b) (zK (zGR (zN (lnT n' d' b) N1) (zN (lnT 2 1 b) N2) cc) p q)).2:=kp;go_wp2_with fail;go_meet;refine⟨_,Gg,_,rfl,zA Ha,?_,⟨⟨?_,?_,?_,?_,?_⟩,?_⟩,?_,zA pk,?_⟩
     ·first|exact YE _|exact eM|exact eO|exact eQ|exact eV
     ·simp[go_sem, *]
     ·simp[go_sem, *]
     ·simp[go_sem, *]
     ·simp[go_sem, *]
     ·simp[go_sem, *]
     ·intro o;simp[go_sem, *]
     ·first|with_reducible exact SpAt.put5 hfinP xQ xR xT xV xW _ _ _ _ _|with_reducible exact SpAt.put5 hfinP xD xI xJ xK xN _ _ _ _ _|with_reducible exact SpAt.put5 hfinP xq xw xA xB xC _ _ _ _ _|with_reducible exact SpAt.put5 hfinP xk xl xm xn xo _ _ _ _ _|with_reducible exact hfinP.bw (bl1 _ _)
     ·repeat' (first|with_reducible exact bj|with_reducible exact ai|with_reducible exact P9|with_reducible exact P8|with_reducible exact Below.refl _ _|with_reducible refine Below.drew ?_|with_reducible refine zL ?_ _|with_reducible refine Below.setCell ?_ (by first|exact YE _|exact eM|exact eO|exact eQ|exact eV) _)
   case rest =>
   obtain⟨BP,xP,o,rfl,Qw,Cs,XP,hpP,hxbP,hblP⟩:=hcut;obtain⟨V3,I6⟩:∃ V,V=wc:=⟨_,rfl⟩;subst I6;have lRP:=YH lR Cs;replace A:=A.bw hblP;replace X0:=X0.bw hblP;replace Y0:=Y0.bw hblP;replace R:=R.bw hblP;replace HX:=zC ((zA HX).bw hblP);replace HY:=zC ((zA HY).bw hblP);replace j7:=zB j7 hblP;replace S2:=S2.bw hblP;replace Hi:=zC ((zA Hi).bw hblP);have Bk:=zC hpP;have rN:=zC hxbP;have Ha:=zC Qw;have XPC:=XP.c;clear hpP hxbP Qw XP OW lA lX lY lR lS Cs;have lA:=A.lt;have lX:=X0.lt;have lY:=Y0.lt;have lR:=R.lt;have lS:=S2.lt;have lP:=XPC.lt;have Bh:=zC (show ∀ w',Below V3.heap.size V3 w'->(rK w' w.heap.size p q (nK w' (w.heap.size+1) x (nK w' (w.heap.size+1+1) y (cK w' gV.heap.size v (cK0 w' BP xP))))) from λ w' hB=>⟨(A.bw hB).c0,(A.bw hB).c1,(X0.bw hB).c0,(X0.bw hB).c1,(Y0.bw hB).c0,(Y0.bw hB).c1,(S2.bw hB).c0,(S2.bw hB).c1,(S2.bw hB).c2,(S2.bw hB).c3,(S2.bw hB).c4,(XPC.bw hB).c0,(XPC.bw hB).c1,(XPC.bw hB).c2,(XPC.bw hB).c3,(XPC.bw hB).c4⟩)
   have td:Below V3.heap.size V3 V3.drew:=(Below.refl _ _).drew;have Va:=zC (show IntKind.i64.wrap (p+q)=p+q from jB _ (by omega) (by omega))
   have DW:w.heap.size+1+1+1≠gV.heap.size:=by omega
   have rA:w.heap.size+1+1+1≠BP:=by omega
   have Gc:w.heap.size+1+1+1≠w.heap.size+1+1:=by omega
   have Sl:w.heap.size+1+1+1≠w.heap.size+1:=by omega
   have nR5:w.heap.size+1+1+1≠w.heap.size:=by omega
   have nR6:w.heap.size+1+1≠w.heap.size:=by omega
   go_wp2_with fail;obtain⟨x0,x1,x2,x3,x4,x5,x6,x7,x8,x9,GC,Ti,Tj,x13,x14,x15⟩:=zA Bh _ (Below.refl _ _)
   go_region_held3 (λ w'=>rK w' w.heap.size p q (nK w' (w.heap.size+1) x (nK w' (w.heap.size+1+1) y (cK w' gV.heap.size v (cK0 w' BP xP))))) (first|exact zA Bh _ (by with_reducible first|exact td|exact Cr|exact th|exact pI|exact ni|exact pH)|(dsimp only[cK,cK0,nK,nK0,rK,rK0];go_keep)|go_keep)
    (first
     | (go_at_call 141;have hq:=th;refine (zBK _ f4 _ b _ _ gD (zA F4) (by omega) (by omega) (by omega)).mono ?_;rintro r g5 ⟨f5,rfl,oA,oB,CR⟩;rw[zED] at oB;have F5:=zC oA;clear oA;have Cr:=zB th CR;obtain⟨q0,q1,q2,q3,q4,q5⟩:=R.bw Cr)
     | (go_at_call 162;have hq:=pI;refine (zDK _ v f3 49300 b (zAT p q n d b NS).1 (zAT p q n d b NS).2 (luE p q n d b o (lg,ug) t NE).1 (luE p q n d b o (lg,ug) t NE).2 (((zA Hi).bw pI).mono (by omega)) lI (by omega) (by omega) (zA HV) (zA P7).2.2.2.1 (zA P7).1 (zA P7).2.1).mono ?_;rintro r g4 ⟨f4,rfl,cA,gD,vD⟩;have F4:=zC cA;clear cA;have th:=zB pI vD)
     | (go_at_call 77;have hq:=ni;refine (zCI _ f2 49300 b t NE (luY p q n d b o (lg,ug)) l (SpAt.mono (show SpAt _ f2 542 (luY p q n d b o (lg,ug)).1 (luY p q n d b o (lg,ug)).2 from lv) (by omega)) (zA F2) (zA Ib) (by omega) (by omega) (zA P5) (zA Y7) (by omega) (zA zd) (zA oX) (zA rP) (by omega)).mono ?_;rintro r g3 ⟨f3,rfl,eC,lI,oD⟩;clear eC;have pI:=zB ni oD)
     | (go_at_call 51;have hq:=pH;refine (zCZ _ xP f1 541 b (zI7 (ofI n d b) (zK o p q)) (lg,ug) ((zA Bk).bw pH) (lq.mono (by omega)) (by omega) (zA rN)).mono ?_;rintro r g2 ⟨f2,rfl,eA,lv,Ao⟩;have F2:=zC eA;clear eA;have ni:=zB pH Ao)
     | (go_at_call 185;(try rw[zA Va]);refine (zA TQ _).mono ?_;rintro r g1 ⟨lg,ug,ma,f1,rfl,eo,lq,pY⟩;clear eo;have pH:=zB td pY;obtain⟨l,t,NE,e1,e2,e3,e4,e5,e6,e7,e8⟩:=lu_exp (zA H) (zA Ha) ma (zA HL) (zA HG).1 (zA HG).2 nt (zA HM);have P5:=zC e1;have Y7:=zC e2;have zd:=zC e4;have oX:=zC e5;have rP:=zC e6;have Ib:=zC e7;have P7:=zC e8;clear e1 e2 e4 e5 e6 e7 e8 ma))
   all_goals
    have fit:=SpAt.fits (K:=30) (show SpAt g5 f5 _ (zDT (zAT p q n d b NS).1 (zAT p q n d b NS).2 (luE p q n d b o (lg,ug) t NE).1 (luE p q n d b o (lg,ug) t NE).2 b) (zO5 (zAT p q n d b NS) (luE p q n d b o (lg,ug) t NE) b) from oB) (zGB (zA P7).2.2.2.2 b1).1 (zGB (zA P7).2.2.2.2 b1).2.1 (zGB (zA P7).2.2.2.2 b1).2.2
    have Hw:=zC (show LwPr (lwX L p q n d g) b (zDT (zAT p q n d b NS).1 (zAT p q n d b NS).2 (luE p q n d b o (lg,ug) t NE).1 (luE p q n d b o (lg,ug) t NE).2 b) (zO5 (zAT p q n d b NS) (luE p q n d b o (lg,ug) t NE) b) by unfold lwX;rw[if_neg (by omega)];exact (zA P7).2.2.2.2)
    go_wp2_with fail;refine bodyPost_ret (v:=.agg f5.q) (by simp[results,Tryz.results159,go_sem,q0,q1,q2,q3,q4]) rfl ⟨_,_,zA Hw,f5,rfl,zA F5,?_,?_⟩
    ·exact SpAt.put5 fit q0 q1 q2 q3 q4 _ _ _ _ _
    ·exact jY (zB j7 Cr) (by omega) _ _ _ _ _
theorem zE8 (L:Rat->Nat->Rat) (hL:Lns L) (w:World) (n d:Int) (b:Nat) (g x:Nat->Rat) (h:StIn n d) (hn:n<=4611686018427387904) (E8:40<=b) (hb:b<=1000) (hg:Gam1 L (((n-(stN n d:Int)*d):Int)/(d:Rat)) g) (ny:∃ c:Rat,0<c/\∃ N:Nat,∀ M,N<=M->c<=g M) (hx:IsLog x (gmV n d g)) :
  Calls Tryz.prog 185 #[.int .i64 n,.int .i64 d,.int .i64 b] w (λ r w'=>∃ lo hi,zPS x b lo hi/\zH w b 521 lo hi r w'):=by
 have HI:=zC (h.in_ (B:=b) (by omega) (by omega))
 have KY:=h.rest.2.2;have gY:=zC (show 0<stP n d (stN n d)/\0<stQ d (stN n d) from⟨zTU h (YE _),zL8 h.d0 _⟩)
 have H:=zC h;have HL:=zC hL;have HG:=zC hg;have GQ:=zC ny;have Vs:=zC hx
 have mV:=zC (show Q (b+4)<P 500 by
  rw[<- Q_P];have h1:=zJ (show b+4+1<=16*500 by omega)
  have h2:Q (b+4+1)=2*Q (b+4):=rfl;have:=zE (b+4)
  omega)
 clear h hL hg ny hx;have R:=zQ w 31;have j7:Below w.heap.size w (w.alloc (.cells zCq 31)):=bl1 _ _
 go_enter Tryz.func185,Tryz.ntmps185
 go_wp2_with fail;refine (zTV _ n d (zA H) hn).mono ?_;rintro r w1 ⟨X,Y,rfl,hX,hY,b9⟩;replace R:=R.bw b9;replace j7:=zB j7 b9;clear b9;have lR:=R.lt;obtain⟨V,hV⟩:∃ V,V=(w1.alloc (.cells X.q 29)).alloc (.cells Y.q 29):=⟨_,rfl⟩;have bV:Below w1.heap.size w1 V:=by rw[hV];exact bl2 _ _ _
 have CX:NmC V w1.heap.size X:=by rw[hV];constructor<;>simp[go_sem]
 have CY:NmC V (w1.heap.size+1) Y:=by rw[hV];constructor<;>simp[go_sem]
 have HX:=zC ((hX.mono (show 4*stN n d+4<=804 by omega)).bw bV)
 have HY:=zC ((hY.mono (show 4*stN n d+4<=804 by omega)).bw bV)
 replace R:=R.bw bV;replace j7:=zB j7 bV;have lX:=CX.lt;have lY:=CY.lt;have ae:=R.lt;have HK:=zC (show ∀ w',Below V.heap.size V w'->(nK w' w1.heap.size X (nK0 w' ((w1.heap.size+1)) Y)) from λ w' hB=>⟨(CX.bw hB).c0,(CX.bw hB).c1,(CY.bw hB).c0,(CY.bw hB).c1⟩)
 clear hX hY bV CX CY;go_wp2_with fail;rw[<- hV];clear hV;have A9:Below V.heap.size V V.drew:=(Below.refl _ _).drew;obtain⟨x0,x1,x2,x3⟩:=zA HK _ (Below.refl _ _);have m1:w.heap.size≠w1.heap.size:=by omega
 have m2:w.heap.size≠w1.heap.size+1:=by omega
 go_region_held3 (λ w'=>nK w' w1.heap.size X (nK0 w' ((w1.heap.size+1)) Y)) (first|exact zA HK _ (by with_reducible first|exact A9|exact I5|exact E9|exact s9|exact p9)|(dsimp only[cK,cK0,nK,nK0,rK,rK0];go_keep)|go_keep)
  (first
   | (go_at_call 51;have K4:=E9;refine (zCZ _ v2 v3 520 b (p1,r2) (zGR (zN (lnT n' d' b) N1) (zN (lnT 2 1 b) N2) cc) (A5.bw m9) E5 (by omega) (zA F2)).mono ?_;rintro r' w4 ⟨t,rfl,I8,P1,y9⟩;have HT:=zC I8;clear I8;have I5:=zB E9 y9;obtain⟨q0,q1,q2,q3,q4,q5⟩:=R.bw I5;obtain⟨i0,i1,i2,i3⟩:=zA HK _ I5)
   | (go_at_call 125;have K4:=s9;refine (zBC _ X Y 804 b 500 (stP n d (stN n d)) (stQ d (stN n d)) ((zA HX).bw s9) ((zA HY).bw s9) (by omega) (zA gY).1 (zA gY).2 (by omega) (by omega) (zA mV) (by omega)).mono ?_;rintro r' w3 ⟨n',d',cc,N1,N2,M3,D7,E7,T4,Z7,v3,rfl,G3,E5,m9⟩;clear G3;have E9:=zB s9 m9;have aN:=zC (And.intro M3 (And.intro D7 (And.intro E7 (And.intro T4 Z7))));clear M3 D7 E7 T4 Z7)
   | (go_at_call 201;have K4:=p9;refine (zO0 _ v1 b (lo,hi) o8 (zA F1) (by omega) (by omega) (zA ze).pos (zA ze).le).mono ?_;rintro r' w2 ⟨p1,p2,r1,r2,l1,l2,QW,Z9,aJ,v2,rfl,P2,A5,j8⟩;have F2:=zC P2;have TS:=zC (And.intro QW (And.intro Z9 aJ));clear P2 QW Z9 aJ;have s9:=zB p9 j8)
   | (go_at_call 202;refine (zH6 L (zA HL) _ (n-(stN n d:Int)*d) d b g (zA HI) (zA HG)).mono ?_;rintro r' wg ⟨lo,hi,QQ,v1,rfl,J6,o8,b9⟩;have F1:=zC J6;have ze:=zC QQ;clear J6 QQ;have p9:=zB A9 b9))
 all_goals
  go_wp2_with fail;obtain⟨ls,k1,k2⟩:=zA TS;obtain⟨bal,c1,c2,s1,s2⟩:=zA aN;obtain⟨lp,g1,i1'⟩:=zGA (zA gY).1 (zA gY).2 bal b N1 N2;refine bodyPost_ret (v:=.agg t.q) (by simp[results,Tryz.results185,go_sem,q0,q1,q2,q3,q4]) rfl ⟨_,_,lgam_ok2 (zA H) E8 hb (zA ze) ls g1 i1' k1 k2 (lb_of (by omega) hb bal.1 s1 s2 804 (by omega) c1 c2) (zA Vs) (zA GQ) (zA HL),t,rfl,zA HT,?_,?_⟩
  ·exact SpAt.put5 P1 q0 q1 q2 q3 q4 _ _ _ _ _
  ·exact jY (zB j7 I5) (by omega) _ _ _ _ _
theorem zSK {x:Nat->Rat} {B:Nat} {l u:Int} (h:LwPr x B l u):LwPr (λ M=>1-x M) B (zA8 B (l,u)).1 (zA8 B (l,u)).2:=by
 have i:Iv B (zI7 (Q B,Q B) (l,u)) (λ M=>1-x M):=(zHC B).sub h.iv
 have h1:=h.lo;have h2:=h.le;have h3:=h.hi;have h4:=h.wd;have e1:(zA8 B (l,u)).1=Q B-u:=rfl;have e2:(zA8 B (l,u)).2=Q B-l:=rfl;exact⟨by omega,by omega,by omega,by omega,i⟩
structure BpAr (p q r s n d:Int) (B:Nat):Prop where
 p0:0<p
 q0:0<q
 pq:p<=100*q
 qq:q<=2048
 r0:0<r
 s0:0<s
 rs:r<=100*s
 ss:s<=2048
 n0:0<=n
 nd:n<=d
 d0:0<d
 dd:d<=4503599627370496
 b0:40<=B
 b1:B<=400
structure BpPr (L:Rat->Nat->Rat) (p q r s n d:Int) (b:Nat) (lo hi:Int):Prop where
 pr:LwPr (bvX L p q r s n d) b lo hi
 z:n=0->lo=0/\hi=0
 o:n=d->lo=Q b/\hi=Q b
theorem BpAr.turn {p q r s n d:Int} {B:Nat} (h:BpAr p q r s n d B):BpAr r s p q (d-n) d B:=⟨h.r0,h.s0,h.rs,h.ss,h.p0,h.q0,h.pq,h.qq,by have:=h.nd;omega,by have:=h.n0;omega,h.d0,h.dd,h.b0,h.b1⟩
theorem bp_sum {p q r s:Int} (hq:0<q) (hs:0<s):(((p*s+r*q):Int):Rat)/(((q*s):Int):Rat)=(p:Rat)/(q:Rat)+(r:Rat)/(s:Rat):=by
 have qr:(0:Rat)<(q:Rat):=by exact_mod_cast hq
 have sr:(0:Rat)<(s:Rat):=by exact_mod_cast hs
 rw[Rat.intCast_add,YG,YG,YG];have e1:=rdm (a:=(p:Rat)) qr;have e2:=rdm (a:=(r:Rat)) sr;have qs:=Rat.mul_pos qr sr;have e3:=rdm (a:=(p:Rat)*(s:Rat)+(r:Rat)*(q:Rat)) qs;generalize ((p:Rat)*(s:Rat)+(r:Rat)*(q:Rat))/((q:Rat)*(s:Rat))=u at *;generalize (p:Rat)/(q:Rat)=v at *;generalize (r:Rat)/(s:Rat)=z at *;refine zX (c:=(q:Rat)*(s:Rat)) qs ?_;rw[<- e1,<- e2] at e3;grind
theorem bp_st {p q r s:Int} (p0:0<p) (q0:0<q) (pq:p<=100*q) (qq:q<=2048) (r0:0<r) (s0:0<s) (rs:r<=100*s) (ss:s<=2048):StIn p q/\StIn r s/\StIn (p*s+r*q) (q*s)/\(p*s+r*q)<=4611686018427387904:=by
 have m1:=YA pq (show 0<=s by omega)
 have m2:=YA rs (show 0<=q by omega)
 have k1:=Int.mul_pos p0 s0;have k2:=Int.mul_pos r0 q0;have k3:=Int.mul_pos q0 s0;have m3:=zEV qq ss (by omega) (by omega)
 have e1:100*q*s=100*(q*s):=by grind
 have e2:100*s*q=100*(q*s):=by grind
 exact⟨⟨p0,q0,by omega,by omega⟩,⟨r0,s0,by omega,by omega⟩,⟨by omega,k3,by omega,by omega⟩,by omega⟩
theorem zIA {L G:Rat->Nat->Rat} {X:Int->Int->Nat->Rat} (hE:zK5 L G X) {n d:Int} {b:Nat} (st:StIn n d) (hn:n<=4611686018427387904) (b0:40<=b) (b1:b<=400):zK6 n d b (X n d):=λ w'=>by
 have g:=hE.gam _ (zF4 st).1 (zF4 st).2;exact zE8 L hE.lns w' n d b (G (gA n d)) (X n d) st hn b0 (by omega) g (g.isGam hE.lns (zF4 st).1).pos (hE.lg n d st)
theorem bj_log {L G:Rat->Nat->Rat} {X:Int->Int->Nat->Rat} (hE:zK5 L G X) {p q r s:Int} (s1:StIn p q) (s2:StIn r s) (s3:StIn (p*s+r*q) (q*s)):IsLog (λ M=>X p q M+X r s M-X (p*s+r*q) (q*s) M) (bJ L ((p:Rat)/(q:Rat)) ((r:Rat)/(s:Rat))):=by
 have i3:=zCA hE s3;rw[bp_sum s1.d0 s2.d0] at i3;have pr:(0:Rat)<(p:Rat):=by exact_mod_cast s1.n0
 have qr:(0:Rat)<(q:Rat):=by exact_mod_cast s1.d0
 have rr:(0:Rat)<(r:Rat):=by exact_mod_cast s2.n0
 have sr:(0:Rat)<(s:Rat):=by exact_mod_cast s2.d0
 exact bJ_log hE.lns (zF pr qr) (zF rr sr) (zCA hE s1) (zCA hE s2) i3 (hE.lg p q s1) (hE.lg r s s2) (hE.lg _ _ s3)
theorem LwPr.congr {x y:Nat->Rat} {B:Nat} {l u:Int} (h:LwPr x B l u) (k:Null (λ M=>y M-x M)):LwPr y B l u:=⟨h.lo,h.le,h.hi,h.wd,Has.congr h.iv k⟩
theorem bvX_turn {L:Rat->Nat->Rat} (hL:Lns L) {p q r s n d:Int} (p0:0<p) (q0:0<q) (r0:0<r) (s0:0<s) (n0:0<=n) (nd:n<=d) (d0:0<d):Null (λ M=>bvX L p q r s n d M-(1-bvX L r s p q (d-n) d M)):=by
 unfold bvX
 by_cases h0:n=0
 ·rw[if_pos h0,if_neg (show ¬ d-n=0 by omega),if_pos (show d-n=d by omega)]
  exact null_zero.of_eq λ M=>by grind
 ·by_cases h1:n=d
  ·rw[if_neg h0,if_pos h1,if_pos (show d-n=0 by omega)]
   exact null_zero.of_eq λ M=>by grind
  ·rw[if_neg h0,if_neg h1,if_neg (show ¬ d-n=0 by omega),if_neg (show ¬ d-n=d by omega)]
   have pr:(0:Rat)<(p:Rat):=by exact_mod_cast p0
   have qr:(0:Rat)<(q:Rat):=by exact_mod_cast q0
   have rr:(0:Rat)<(r:Rat):=by exact_mod_cast r0
   have sr:(0:Rat)<(s:Rat):=by exact_mod_cast s0
   have nr:(0:Rat)<(n:Rat):=by exact_mod_cast (show 0<n by omega)
   have dr:(0:Rat)<(d:Rat):=by exact_mod_cast d0
   have e:((d-n:Int):Rat)/(d:Rat)=1-(n:Rat)/(d:Rat):=by
    rw[Rat.intCast_sub,YK,YK];have:=Rat.mul_inv_cancel (d:Rat) (by grind)
    grind
   rw[e]
   have lt:(n:Rat)/(d:Rat)<1:=by
    refine Rat.lt_of_mul_lt_mul_right (c:=(d:Rat)) ?_ (YC dr);rw[rdm dr];have:(n:Rat)<(d:Rat):=by exact_mod_cast (show n<d by omega)
    grind
   exact zQX hL (zF pr qr) (zF rr sr) (zF nr dr) lt
namespace Ex
end Ex
theorem iv_lt {B:Nat} {a:Int × Int} {x:Nat->Rat} (h:Iv B a x) {c:Rat} (k:LeN x (λ _=>c)) {z:Int} (hz:c*(Q B:Rat)<(z:Rat)):a.1<z:=by
 have q:=jH B
 have l:(a.1:Rat)/(Q B:Rat)<=c:=by
  refine Rat.not_lt.1 λ D5=>?_
  obtain⟨e,he⟩:∃ e,e=((a.1:Rat)/(Q B:Rat)-c)/4:=⟨_,rfl⟩;have e0:0<e:=by grind
  obtain⟨N1,k1⟩:=h e e0;obtain⟨N2,k2⟩:=k e e0;have a1:=(k1 (N1+N2) (by omega)).1
  have a2:=k2 (N1+N2) (by omega)
  simp only[] at a2;grind
 have m:=YB l (YC q);rw[rdm q] at m
 exact_mod_cast (show (a.1:Rat)<(z:Rat) by grind)
theorem iv_gt {B:Nat} {a:Int × Int} {x:Nat->Rat} (h:Iv B a x) {c:Rat} (k:LeN (λ _=>c) x) {z:Int} (hz:(z:Rat)<c*(Q B:Rat)):z<a.2:=by
 have q:=jH B
 have l:c<=(a.2:Rat)/(Q B:Rat):=by
  refine Rat.not_lt.1 λ D5=>?_
  obtain⟨e,he⟩:∃ e,e=(c-(a.2:Rat)/(Q B:Rat))/4:=⟨_,rfl⟩;have e0:0<e:=by grind
  obtain⟨N1,k1⟩:=h e e0;obtain⟨N2,k2⟩:=k e e0;have a1:=(k1 (N1+N2) (by omega)).2
  have a2:=k2 (N1+N2) (by omega)
  simp only[] at a2;grind
 have m:=YB l (YC q);rw[rdm q] at m
 exact_mod_cast (show (z:Rat)<(a.2:Rat) by grind)
theorem su_le {b:Nat} {x y:Nat->Rat} {L1 H1 L2 H2:Int} (h1:SuV x b L1 H1) (h2:SuV y b L2 H2) (k:LeN x y):L1<=H2:=by
 obtain⟨z,hz,kz⟩:=k.null;exact Iv.touch_le h1.val h2.val hz 0 λ M _=>kz M
open Go.RowKit
attribute [local go_sem ↓] Go.wp_at_zero Go.wp_at_succ
open Ex
theorem zHL {b:Nat} {a c:Int × Int} {x:Nat->Rat} (h:Iv b a x) (k:Iv b c x):touB a.1 a.2 0 c.1 c.2 0=true:=by
 have q:=zE b;have t1:=Int.le_of_mul_le_mul_right (h.touch k) (show 0<Q b by omega)
 have t2:=Int.le_of_mul_le_mul_right (k.touch h) (show 0<Q b by omega)
 have e0:Q 0=1:=rfl;unfold touB;rw[e0];simp[t1,t2]
theorem zQU {L:Rat->Nat->Rat} (hL:Lns L) {p q r s n d:Int} (p0:0<p) (q0:0<q) (r0:0<r) (s0:0<s) (n0:0<=n) (nd:n<=d) (d0:0<d):Nn (bvX L p q r s n d)/\LeN (bvX L p q r s n d) (λ _=>1):=by
 unfold bvX
 by_cases h0:n=0
 ·rw[if_pos h0];exact⟨Nn.const (by grind),LeN.of_le 0 λ M _=>by grind⟩
 ·by_cases h1:n=d
  ·rw[if_neg h0,if_pos h1];exact⟨Nn.const (by grind),LeN.of_le 0 λ M _=>by grind⟩
  ·rw[if_neg h0,if_neg h1]
   have pr:(0:Rat)<(p:Rat):=by exact_mod_cast p0
   have qr:(0:Rat)<(q:Rat):=by exact_mod_cast q0
   have rr:(0:Rat)<(r:Rat):=by exact_mod_cast r0
   have sr:(0:Rat)<(s:Rat):=by exact_mod_cast s0
   have nr:(0:Rat)<(n:Rat):=by exact_mod_cast (show 0<n by omega)
   have dr:(0:Rat)<(d:Rat):=by exact_mod_cast d0
   have lt:(n:Rat)/(d:Rat)<1:=by
    refine Rat.lt_of_mul_lt_mul_right (c:=(d:Rat)) ?_ (YC dr);rw[rdm dr];have:(n:Rat)<(d:Rat):=by exact_mod_cast (show n<d by omega)
    grind
   exact⟨bv_nn hL (zF pr qr) (zF rr sr) (zF nr dr) lt,zQV hL (zF pr qr) (zF rr sr) (zF nr dr) lt⟩
theorem zMT {L:Rat->Nat->Rat} (hL:Lns L) {p q r s n d n2 d2:Int} (p0:0<p) (q0:0<q) (r0:0<r) (s0:0<s) (n0:0<=n) (nd:n<=d) (d0:0<d) (Ga:0<=n2) (nd2:n2<=d2) (d20:0<d2) (hle:n*d2<=n2*d):LeN (bvX L p q r s n d) (bvX L p q r s n2 d2):=by
 have a1:=zQU hL p0 q0 r0 s0 n0 nd d0;have a2:=zQU hL p0 q0 r0 s0 Ga nd2 d20
 by_cases h0:n=0
 ·have e:bvX L p q r s n d=λ _=>0:=by unfold bvX;rw[if_pos h0]
  rw[e];exact a2.1.leN
 ·by_cases h2:n2=d2
  ·have e:bvX L p q r s n2 d2=λ _=>1:=by unfold bvX;rw[if_neg (by omega),if_pos h2]
   rw[e];exact a1.2
  ·have np:0<n*d2:=Int.mul_pos (by omega) d20
   have DT:n2≠0:=λ h=>by rw[h,Int.zero_mul] at hle;omega
   have h1:n≠d:=λ h=>by
    have m:=Int.mul_lt_mul_of_pos_right (show n2<d2 by omega) d0
    rw[h,Int.mul_comm d d2] at hle;omega
   unfold bvX;rw[if_neg h0,if_neg h1,if_neg DT,if_neg h2];have pr:(0:Rat)<(p:Rat):=by exact_mod_cast p0
   have qr:(0:Rat)<(q:Rat):=by exact_mod_cast q0
   have rr:(0:Rat)<(r:Rat):=by exact_mod_cast r0
   have sr:(0:Rat)<(s:Rat):=by exact_mod_cast s0
   have nr:(0:Rat)<(n:Rat):=by exact_mod_cast (show 0<n by omega)
   have dr:(0:Rat)<(d:Rat):=by exact_mod_cast d0
   have Ce:(0:Rat)<(d2:Rat):=by exact_mod_cast d20
   have lt:(n2:Rat)/(d2:Rat)<1:=by
    refine Rat.lt_of_mul_lt_mul_right (c:=(d2:Rat)) ?_ (YC Ce);rw[rdm Ce];have:(n2:Rat)<(d2:Rat):=by exact_mod_cast (show n2<d2 by omega)
    grind
   have xy:(n:Rat)/(d:Rat)<=(n2:Rat)/(d2:Rat):=by
    refine jM Ce (Rat.le_of_mul_le_mul_right (c:=(d:Rat)) ?_ dr);have c:=zZ hle;rw[YG,YG] at c;have r:=rdm (a:=(n:Rat)) dr;have e:(n:Rat)/(d:Rat)*(d2:Rat)*(d:Rat)=(n:Rat)/(d:Rat)*(d:Rat)*(d2:Rat):=by grind
    rw[e,r];exact c
   exact bv_mono hL (zF pr qr) (zF rr sr) (zF nr dr) xy lt
theorem zN8 (ff:Nat) (cs:Array Value) (JM:∀ (args:Array Value) (w:World),(callFunc ff args).run Tryz.prog w=.ok (.enter ff args) w) (bits Kw KD:Nat) (Pr:Nat->Int->Int->Prop) (W:World) (hb:bits<=120) (Qt:Kw<=900000) (Cw:KD<=100000000) (hE:zFF bits Kw Pr)
  (hF:∀ (m:Nat) w',32<=m->m<=Kw+120->Below W.heap.size W w'->Calls Tryz.prog ff (#[.int .i64 ((bits:Int)+m)] ++ cs) w' (λ r I9=>∃ lo hi,Pr (bits+m) lo hi/\zH w' ((bits:Int)+m) KD lo hi r I9)) :
  Calls Tryz.prog 55 #[.int .i64 bits,.func (.func ff) #[] cs] W (λ r w'=>∃ L H,zFT bits Pr L H/\zH W bits 250 L H r w'):=by
 have HF:=zC hF;have HE:=zC hE;clear hF hE;have Ag:=zQ W 31
 go_enter Tryz.func55,Tryz.ntmps55
 go_wp2_with fail
 go_loopw [5,6] (λ mm tt wr=>∃ m t:Nat,mm=.int .i64 (m:Int)/\tt=.int .i64 (t:Int)/\SureInv Kw m t/\NoC wr W.heap.size/\Below W.heap.size W wr) (λ mm _ _=>Kw+200-(intOf mm).toNat)
 case atStart=>exact⟨32,1,rfl,rfl,⟨YE _,YE _,by omega,Or.inl ⟨by omega,by omega⟩⟩,Ag,bl1 _ _⟩
 case round =>
  obtain⟨m,t,rfl,rfl,hinv,R,hB⟩:=hrel;obtain⟨hm,ht,htm,QZ⟩:=hinv;have hmK:m<=Kw+120:=by omega
  have HI:=zC QZ;clear QZ;go_wp2_with fail;refine (zA HF m _ hm hmK hB).mono ?_;rintro r w1 ⟨lo,hi,Jm,s,rfl,cV,oK,b9⟩;replace R:=R.bw b9;replace hB:=zB hB b9;clear b9;obtain⟨e1,e2,e3,e4⟩:=zA HE m lo hi Jm;obtain⟨v1,v2,v3⟩:=zOA (m:=m) e1 e2;obtain⟨f1,f2⟩:=to_fit e3 e4;have Pf:=zC Jm;have HV:=zC (And.intro v2 v3);have mr:0<=s.bits:=by omega
  have hs1:s.bits<=1000000:=by omega
  have d1:zAZ lo (s.bits-bits)=lo/Q m:=by unfold zAZ;rw[cV,if_pos (by omega)];congr 2;omega
  have d2:zAZ (-hi) (s.bits-bits) = -hi/Q m:=by unfold zAZ;rw[cV,if_pos (by omega)];congr 2;omega
  have Ba:=zC d1;have Bb:=zC d2;clear Jm e1 e2 e3 e4 v2 v3 d1 d2 cV;go_wp2_with fail;refine (zHM _ s KD bits lo hi oK (by omega) mr hs1 (by omega) (by omega)).mono ?_
  rintro r w2 ⟨u,rfl,B8,B7,j8⟩;rw[zA Ba,zA Bb] at B7;obtain⟨L,hL⟩:∃ L,L=lo/Q m:=⟨_,rfl⟩;obtain⟨H,hH⟩:∃ H,H = -(-hi/Q m):=⟨_,rfl⟩;rw[<- hL,<- hH] at B7 v1;rw[<- hL] at f1;rw[<- hH] at f2;have mW:=zC (show (Kw<=m->H-L<=2)/\(m<=Kw->H-L<=Q (Kw-m)+1) by rw[hL,hH];exact zA HV)
  have HL:=zC hL;have HH:=zC hH;replace B7:=B7.fits (K:=250) (by omega) f1 f2
  replace R:=R.bw j8;replace hB:=zB hB j8;have G8:=zC B8;clear j8 hL hH B8 mr hs1 Ba Bb HV oK;have lR:=R.lt;obtain⟨V,hV⟩:∃ V,V=w2.alloc (.cells u.q 31):=⟨_,rfl⟩;have bV:Below w2.heap.size w2 V:=by rw[hV];exact bl1 _ _
  have U:SpC V w2.heap.size u:=by rw[hV];exact⟨by simp,by simp,by simp,by simp,by simp⟩
  replace R:=R.bw bV;replace hB:=zB hB bV;replace B7:=B7.bw bV;clear bV;go_wp2_with fail;rw[<- hV];clear hV;refine (zBI _ _ _ _ _ _ _ _ 250 250 H L _ B7.hi B7.lo (by omega) (by omega)).mono ?_
  rintro r w3 ⟨A7,a3,n3,c3,rfl,E5,m9⟩;replace U:=U.bw m9;replace R:=R.bw m9;replace hB:=zB hB m9;replace B7:=B7.bw m9;clear m9;go_wp2_with fail;refine (zD1 _ _ _ _ _ (H-L) _ E5 v1).mono ?_;rintro r w4 ⟨l,hlen,rfl,y9⟩;replace U:=U.bw y9;replace R:=R.bw y9;replace hB:=zB hB y9;replace B7:=B7.bw y9;clear y9 E5
  have QV:0<=l/\l<=Kw+2/\(m<=Kw->l<=Kw-m+2)/\(Kw<=m->l<=2):=by
   obtain⟨g1,g2⟩:=zA mW;refine⟨hlen.1,?_,λ h=>?_,λ h=>?_⟩
   ·rcases Nat.le_total m Kw with h|h
    ·have:=zR2 (K:=Kw-m) hlen (g2 h) v1;omega
    ·have:=zR5 hlen (g1 h) v1;omega
   ·have:=zR2 (K:=Kw-m) hlen (g2 h) v1;omega
   ·exact zR5 hlen (g1 h) v1
  obtain⟨Aq,Z4,Y2,vG⟩:=QV;have GZ:=zC (And.intro Y2 vG);have Hb:=zC hlen;clear Y2 vG hlen;have lU:=U.lt;have ae:=R.lt;have nRU:W.heap.size≠w2.heap.size:=by omega
  have Ln:w2.heap.size≠W.heap.size:=by omega
  have HU:=zC U;obtain⟨x0,x1,x2,x3,x4⟩:=U
  by_cases hc:l<=1
  ·have hN:=R
   obtain⟨q0,q1,q2,q3,q4,q5⟩:=R;have Hc:=zC hc;go_wp2_with fail;refine bodyPost_ret (v:=.agg u.q) (by simp[results,Tryz.results55,go_sem,q0,q1,q2,q3,q4]) rfl ⟨L,H,⟨m,lo,hi,zA Pf,hm,zA HL,zA HH,Or.inl (zR4 (zA Hb) (zA Hc) v1)⟩,u,rfl,zA G8,?_,?_⟩
   ·exact SpAt.put5 B7 q0 q1 q2 q3 q4 _ _ _ _ _
   ·exact jY hB (YE _) _ _ _ _ _
  ·by_cases ht3:3<=t
   ·have KC:(3:Int)<=(t:Int):=by omega
    cases hn:zK2 L H (Q bits) 4
    ·have hmK2:m<Kw:=by
      refine Nat.lt_of_not_le λ h=>?_
      have h5:=(zA mW).1 h;rw[zDN (by omega) (by omega)] at hn
      cases hn
     go_wp2_with fail;refine (zHB _ u bits 4 L H B7 (zA G8) hb (by omega)).mono ?_
     rintro r w5 ⟨rfl,D6⟩;rw[show zK2 L H (Q bits) ((4:Nat):Int)=false from hn]
     replace R:=R.bw D6;replace hB:=zB hB D6;go_wp2_with fail
     go_roundw
     case rel=>exact⟨m+l.toNat+32,t+1,by congr 1;omega,by congr 1,⟨by omega,by omega,by omega,Or.inr (by have:=(zA GZ).1;omega)⟩,R,hB⟩
     case measure=>simp[intOf];omega
    ·go_wp2_with fail
     refine (zHB _ u bits 4 L H B7 (zA G8) hb (by omega)).mono ?_
     rintro r w5 ⟨rfl,D6⟩;rw[show zK2 L H (Q bits) ((4:Nat):Int)=true from hn]
     replace R:=R.bw D6;replace hB:=zB hB D6;replace B7:=B7.bw D6;obtain⟨y0,y1,y2,y3,y4⟩:=(zA HU).bw D6;obtain⟨q0,q1,q2,q3,q4,q5⟩:=R;have lU2:=YH lU D6.size;have gQ:=YH ae D6.size;clear D6 x0 x1 x2 x3 x4;go_wp2_with fail;refine bodyPost_ret (v:=.agg u.q) (by simp[results,Tryz.results55,go_sem,q0,q1,q2,q3,q4]) rfl ⟨L,H,⟨m,lo,hi,zA Pf,hm,zA HL,zA HH,Or.inr hn⟩,u,rfl,zA G8,?_,?_⟩
     ·exact SpAt.put5 B7 q0 q1 q2 q3 q4 _ _ _ _ _
     ·exact jY hB (YE _) _ _ _ _ _
   ·have KC:¬ (3:Int)<=(t:Int):=by omega
    go_wp2_with fail
    go_roundw
    case rel=>exact⟨m+l.toNat+32,t+1,by congr 1;omega,by congr 1,⟨by omega,by omega,by omega,by
     have g1:=(zA GZ).1;have g2:=(zA GZ).2;have g3:=zA HI
     rcases Nat.le_total m Kw with h|h
     ·have:=g1 h;exact Or.inr (by omega)
     ·have:=g2 h;exact Or.inl ⟨by omega,by omega⟩⟩,R,hB⟩
    case measure=>simp[intOf];omega
theorem zOT (args:Array Value) (w:World):(callFunc 90 args).run Tryz.prog w=.ok (.enter 90 args) w:=by simp[go_sem,callFunc,Tryz.func90];kernel_rfl
theorem en_mass (args:Array Value) (w:World):(callFunc 56 args).run Tryz.prog w=.ok (.enter 56 args) w:=by simp[go_sem,callFunc,Tryz.func56];kernel_rfl
theorem NoC.off2 {w:World} {B B':Nat} (h:NoC w B) (hne:B≠B') (u0 u1:Value):NoC ((w.setCell ⟨B',0,none⟩ u0).setCell ⟨B',1,none⟩ u1) B:=by
 obtain⟨q0,q1,q2,q3,q4,q5⟩:=h;exact⟨by simp[go_sem,q0,hne,Ne.symm hne],by simp[go_sem,q1,hne,Ne.symm hne],by simp[go_sem,q2,hne,Ne.symm hne],by simp[go_sem,q3,hne,Ne.symm hne],by simp[go_sem,q4,hne,Ne.symm hne],yY q5 _ _⟩
def zC0 (f:Nat->Int):Nat->Int
 | 0=>0
 | i+1=>zC0 f i+f i
def zD4 (p r s:Int) (n:Nat):Int:=wayF (r ^ n*(s-r) ^ (p.toNat-n)) (p-n) n
theorem zQ1 (k q r s last:Int) (P M b:Nat) (w:World) (hM:(min last (P:Int)+1).toNat=M) (Aq : -1000000000<=last) (hl:last<=1000000000) (hp:P<=100) (hr:0<=r) (hs:r<=s) (hs1:1<=s) (X6:s<=1024) (hb:b<=1000000) :
  Calls Tryz.prog 136 #[.agg #[.int .i64 k,.int .i64 (P:Int),.int .i64 q,.int .i64 r,.int .i64 s],.int .i64 last,.int .i64 b] w (zH w b (b/16+5000) (zC0 (zD4 P r s) M*Q b/s ^ P) (-(-(zC0 (zD4 P r s) M*Q b)/s ^ P))):=by
 have hMp:M<=P+1:=by omega
 have O8:0<s ^ P:=Int.pow_pos (by omega)
 go_enter Tryz.func136,Tryz.ntmps136
 go_wp2_with fail;refine (zD 0 _ (by decide) (by decide)).mono ?_
 rintro r' w1 ⟨m7,a1,n1,c1,rfl,o8,b9⟩;have L:LwC w1 w.heap.size k P q r s:=((kV w k P q r s _).bw (bl1 _ _)).bw b9;have hR:NoC w1 (w.heap.size+1):=NoC.bw ⟨by simp[go_sem],by simp[go_sem],by simp[go_sem],by simp[go_sem],by simp[go_sem],λ o=>by simp[go_sem]⟩ b9
 have A6:Below w.heap.size w w1:=zB (bl2 _ _ _) b9;clear b9;have lL:=L.lt;have lR:=hR.lt;obtain⟨i0,i1,i2,i3,i4⟩:=L;have HM:=zC hM;go_wp2_with fail
 all_goals
  have hmin:(min last (P:Int)+1).toNat=M:=zA HM
  go_loopw [16,8] (λ ii nn wr=>∃ (i:Nat) (X:Nm),ii=.int .i64 (i:Int)/\i<=M/\NmC wr w1.heap.size X/\(∀ o,wr.frozen? ⟨w1.heap.size,o,none⟩=false)/\IntAt wr X.neg X.a X.n X.cap (4+2500+i) (zC0 (zD4 P r s) i)/\LwC wr w.heap.size k P q r s/\NoC wr (w.heap.size+1)/\Below w.heap.size w wr) (λ ii _ _=>M-(intOf ii).toNat)
  case atStart=>exact⟨0,⟨m7,a1,n1,c1⟩,rfl,Nat.zero_le _,⟨by simp[go_sem],by simp[go_sem]⟩,λ o=>by simp[go_sem],(o8.bw (bl1 _ _)).mono (by omega),LwC.bw ⟨i0,i1,i2,i3,i4⟩ (bl1 _ _),hR.bw (bl1 _ _),zL A6 _⟩
  case round =>
   obtain⟨i,X,rfl,hi,hX,hF,hint,L,R,hB⟩:=hrel;have lX:=hX.lt
   by_cases I7:i<M
   ·have lM:(i:Int)<min last (P:Int)+1:=by omega
    try have JW:(i:Int)<last+1:=by omega
    try have JX:(i:Int)<(P:Int)+1:=by omega
    have hint:=zC hint;have HL:=zC L;have HX:=zC hX;have lL2:=L.lt;obtain⟨l0,l1,l2,l3,l4⟩:=L;obtain⟨x0,x1⟩:=hX;go_wp2_with fail
    go_region_with
     (first
      | (go_at_call 32;have hq:=p9;refine (zAE _ _ _ _ _ _ _ _ (4+2500+i) 2504 (zC0 (zD4 P r s) i) (zD4 P r s i) _ ((zA hint).bw p9) (Jr.mono (by omega)) (by omega) (by omega)).mono ?_;rintro r' w3 ⟨A7,a3,n3,c3,rfl,E5,m9⟩;have s9:=zB p9 m9;have KZ:=s9.size;obtain⟨z0,z1⟩:=(zA HX).bw s9;have F4:∀ o,w3.frozen? ⟨w1.heap.size,o,none⟩=false:=λ o=>(s9.frozen (p:=⟨w1.heap.size,o,none⟩) lX).trans (hF o))
      | (go_at_call 101;refine (zOD k P q r s i _ (by omega) (by omega) hr hs X6).mono ?_;rintro r' w2 ⟨j6,a2,n2,c2,rfl,Jr,j8⟩;have p9:Below wr.heap.size wr w2:=zB (by repeat' (first|with_reducible exact Below.refl _ _|with_reducible refine Below.drew ?_)) j8;obtain⟨d0,d1⟩:=(zA HX).bw p9))
    all_goals
     go_wp2_with fail
     go_roundw
     case rel =>
      exact⟨i+1,⟨A7,a3,n3,c3⟩,by go_num,by omega,zDF (z:=X) ⟨z0,z1⟩ ⟨A7,a3,n3,c3⟩,yY F4 _ _,(E5.put2 z0 z1 _ _).mono (by omega),((zA HL).bw s9).off (by omega) _ _,(R.bw s9).off2 (by omega) _ _,zD2 (zB hB s9) (by omega) _ _⟩
     case measure=>simp[intOf];omega
   ·have lM:¬ (i:Int)<min last (P:Int)+1:=by omega
    try have JW:¬ (i:Int)<last+1:=by omega
    try have JX:¬ (i:Int)<(P:Int)+1:=by omega
    have gH:i=M:=by omega
    subst gH;have hint:=zC hint;have Z6:=zC (show ∀ w',Below wr.heap.size wr w'->(w'.cell? ⟨w.heap.size,1,none⟩=some (.int .i64 (P:Int))/\w'.cell? ⟨w.heap.size,4,none⟩=some (.int .i64 s)/\nK0 w' w1.heap.size X) from λ w' hB=>⟨(L.bw hB).c1,(L.bw hB).c4,(hX.bw hB).c0,(hX.bw hB).c1⟩)
    have lL2:=L.lt;have ae:=R.lt;obtain⟨l1,l4,x0,x1⟩:=zA Z6 _ (Below.refl _ _);have A9:Below wr.heap.size wr wr.drew:=(Below.refl _ _).drew;have nE:w1.heap.size≠w.heap.size+1:=by omega
    have nE':w.heap.size+1≠w1.heap.size:=by omega
    go_wp2_with fail
    go_region_held3 (λ w'=>w'.cell? ⟨w.heap.size,1,none⟩=some (.int .i64 (P:Int))/\w'.cell? ⟨w.heap.size,4,none⟩=some (.int .i64 s)/\nK0 w' w1.heap.size X) (first|exact zA Z6 _ (by with_reducible first|exact A9|exact s9|exact p9)|(dsimp only[cK,cK0,nK,nK0,rK,rK0];go_keep)|go_keep)
     (first
      | (go_at_call 88;have hq:=p9;refine (jP _ _ _ _ _ _ _ _ (4+2500+i) (4*P+4) b (zC0 (zD4 P r s) i) (s ^ P) _ ((zA hint).bw p9) A5 (by omega) hb O8).mono ?_;rintro r' w3 ⟨u,rfl,B8,B7,m9⟩;have s9:=zB p9 m9;obtain⟨q0,q1,q2,q3,q4,q5⟩:=R.bw s9;have G8:=zC B8;clear B8;obtain⟨e0,e1,e2,e3⟩:=zA Z6 _ s9)
      | (go_at_call 102;refine (zBB s P _ (by omega) (by omega) (by omega)).mono ?_;rintro r' w2 ⟨j6,a2,n2,c2,rfl,A5,j8⟩;have p9:=zB A9 j8))
    all_goals
     go_wp2_with fail;refine bodyPost_ret (v:=.agg u.q) (by simp[results,Tryz.results136,go_sem,q0,q1,q2,q3,q4]) rfl ⟨u,rfl,zA G8,?_,?_⟩
     ·exact SpAt.put5 (B7.mono (by omega)) q0 q1 q2 q3 q4 _ _ _ _ _
     ·exact jY (zB hB s9) (Nat.le_succ _) _ _ _ _ _
end Go.Proofs.YtgmnknmjainabacGreat
